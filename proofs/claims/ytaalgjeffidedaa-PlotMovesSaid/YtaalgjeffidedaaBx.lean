/- The statement that bins add up, walked. -/
import Derived.Test.YtaalgjeffidedaaBa
namespace Go.Proofs.Ytaalgjeffidedaa
open Go.RowKit
theorem Pb.total_take {L : List (Int × Int)} (h : ∀ p ∈ L, 0 ≤ p.2) (j : Nat) : 0 ≤ Pb.total (L.take j) ∧ Pb.total (L.take j) ≤ Pb.total L := by
  induction L generalizing j with
  | nil => simp [Pb.total]
  | cons p L ih =>
    have hp := h p (by simp)
    have hall := fun q hq => h q (List.mem_cons_of_mem p hq)
    cases j with
    | zero =>
      have := ih hall L.length
      rw [List.take_length] at this
      simp only [List.take_zero, Pb.total, List.foldr_nil, List.foldr_cons] at *
      omega
    | succ j =>
      have := ih hall j
      simp only [List.take_succ_cons, Pb.total, List.foldr_cons] at *
      omega
theorem Pb.sums_take {L : List (Int × Int)} (h : ∀ p ∈ L, 0 ≤ p.2) (lo hi : Int) (j : Nat) : 0 ≤ Pb.sums (L.take j) lo hi ∧ Pb.sums (L.take j) lo hi ≤ Pb.total L := by
  induction L generalizing j with
  | nil => simp [Pb.total, Pb.sums]
  | cons p L ih =>
    have hp := h p (by simp)
    have hall := fun q hq => h q (List.mem_cons_of_mem p hq)
    have h0 := ih hall
    cases j with
    | zero =>
      have := Pb.total_take hall L.length
      rw [List.take_length] at this
      simp only [List.take_zero, Pb.total, Pb.sums, List.foldr_nil, List.foldr_cons, List.filter_nil] at *
      omega
    | succ j =>
      have := h0 j
      simp only [List.take_succ_cons, Pb.total, Pb.sums, List.foldr_cons, List.filter_cons] at *
      by_cases hq : (decide (lo ≤ p.1) && decide (p.1 < hi)) = true
      · rw [if_pos hq]; simp only [List.foldr_cons]; omega
      · rw [if_neg hq]; omega
/-- what a walk needs of the bins of small numbers -/
structure Pb.Bs (v : List Int) (w : Int) (F : List (Int × Int)) : Prop where
  all : ∀ p ∈ F, p.1 % w = 0 ∧ p.2 = Pb.inn v p.1 (p.1 + w) ∧ 0 < p.2 ∧ p.2 ≤ 60 ∧ -60 ≤ p.1 ∧ p.1 ≤ 60
  asc : ∀ j (h0 : 0 < j) (hj : j < F.length), (F[j - 1]).1 < (F[j]).1
  sum : Pb.total F = v.length
  len : F.length ≤ 60
theorem Pb.bs {l : List Int} {w : Int} (h1 : 1 ≤ w) (h2 : w ≤ 45) : Pb.Bs (Pb.vals l) w (Pb.bins ((Pb.vals l).map (Pb.fl w))) where
  all := fun p hp => by
    obtain ⟨j, hj, rfl⟩ := List.mem_iff_getElem.1 hp
    obtain ⟨a, b, c, y, hy, hyx⟩ := Pb.bin_of h1 (Pb.vals l) hj
    have hb := Pb.fl_bd (v := y) h1
    have hv := Pb.vals_bd y hy
    have hl := Pb.vals_len l
    have hi := Pb.inn_le (Pb.vals l) ((Pb.bins ((Pb.vals l).map (Pb.fl w)))[j]).1 (((Pb.bins ((Pb.vals l).map (Pb.fl w)))[j]).1 + w)
    exact ⟨a, b, c, by omega, by omega, by omega⟩
  asc := fun j h0 hj => Pb.bin_asc _ h0 hj
  sum := by rw [Pb.total_bins, List.length_map]
  len := by have := Pb.bins_len ((Pb.vals l).map (Pb.fl w)); rw [List.length_map] at this; have := Pb.vals_len l; omega
theorem total_take_succ {L : List (Int × Int)} {j : Nat} (h : j < L.length) : Pb.total (L.take (j + 1)) = Pb.total (L.take j) + (L[j]).2 := by
  rw [List.take_succ_eq_append_getElem h, Pb.total_snoc]
theorem sums_take_succ {L : List (Int × Int)} {j : Nat} (h : j < L.length) (lo hi : Int) : Pb.sums (L.take (j + 1)) lo hi = Pb.sums (L.take j) lo hi + if lo ≤ (L[j]).1 ∧ (L[j]).1 < hi then (L[j]).2 else 0 := by
  rw [List.take_succ_eq_append_getElem h, Pb.sums_snoc]
theorem inn_take_succ {l : List Int} {j : Nat} {y : Int} (h : l.getD j 0 = y ∧ j < l.length) (lo hi : Int) : Pb.inn (l.take (j + 1)) lo hi = Pb.inn (l.take j) lo hi + if lo ≤ y ∧ y < hi then 1 else 0 := by
  rw [take_succ_getD l j h.2, h.1, Pb.inn_snoc]
set_option maxRecDepth 100000 in
set_option maxHeartbeats 3200000 in
theorem walkAdds (W : World) (A : Option Addr) (n c : Nat) (l : List Int) (h : Nums W .u8 W.heap.size A n c l) (x : Int) (hx0 : 0 ≤ x) (hx1 : x ≤ 255) (y : Int) (hy0 : 0 ≤ y) (hy1 : y ≤ 255) :
    Calls Try.prog 4 #[.slice A n c, .int .u8 x, .int .u8 y] W fun e w => e = .returned (.bool true) ∧ Below W.heap.size W w := by
  have H := Lib.hid h
  clear h
  go_enter Try.func4, Try.ntmps4
  go_wp2_with fail
  refine (vals21 A n c l W H.out).mono ?_; rintro e w1 ⟨v, rfl, hown, hb1⟩
  have hvb := Pb.vals_bd (l := l)
  have hvl := Pb.vals_len l
  obtain ⟨V, N, cv, rfl, hN, hn⟩ : ∃ V N cv, v = .slice V N cv ∧ Hid (N = (Pb.vals l).length) ∧ Nums w1 .i64 w1.heap.size V N cv (Pb.vals l) := by
    obtain ⟨V, cv, hv, hnn⟩ := hown.nums (fun x hx => wf_i64 (by have := hvb x hx; omega))
    exact ⟨V, _, cv, hv, Lib.hid rfl, hnn⟩
  have HV1 := Lib.hid hn
  have HB1 := Lib.hid hb1
  have HVB := Lib.hid hvb
  have HNL := Lib.hid (show N ≤ 60 by have := hN.out; omega)
  have HO := Lib.hid (show (Pb.vals l).any Pb.out = false by
    rw [Bool.eq_false_iff]; intro ha
    obtain ⟨x, hx, ho⟩ := List.any_eq_true.1 ha
    have := hvb x hx
    simp only [Pb.out, Bool.or_eq_true, decide_eq_true_eq] at ho; omega)
  clear hown hb1 hn hvb hvl hN
  go_wp2_with fail
  have hw1 : 1 ≤ 1 + x % 9 := by omega
  have hw2 : 1 + x % 9 ≤ 9 := by omega
  have ht1 : 1 ≤ 1 + y % 5 := by omega
  have ht2 : 1 + y % 5 ≤ 5 := by omega
  generalize 1 + x % 9 = wd at *
  generalize 1 + y % 5 = tm at *
  have hm1 : 1 ≤ wd * tm := by have := Int.mul_le_mul hw1 ht1 (by omega) (by omega); omega
  have hm2 : wd * tm ≤ 45 := by have := Int.mul_le_mul hw2 ht2 (by omega) (by omega); omega
  clear hx0 hx1 hy0 hy1
  refine (bins21 V N cv (Pb.vals l) wd w1 HV1.out (by have := HNL.out; omega) hw1 (by omega) HO.out).mono ?_; rintro e w2 ⟨va, rfl, howna, hb2⟩
  have BS1 := Pb.bs (l := l) hw1 (show wd ≤ 45 by omega)
  have HSUM := Lib.hid (fun j hj => Pb.bin_sum (w := wd) (n := tm) hw1 ht1 (Pb.vals l) (j := j) hj)
  obtain ⟨F1, hF1⟩ : ∃ F1, Pb.bins ((Pb.vals l).map (Pb.fl wd)) = F1 := ⟨_, rfl⟩
  rw [hF1] at howna BS1 HSUM
  obtain ⟨Aa, Na, ca, rfl, hNa, hpa⟩ := howna.prs (by have := BS1.len; omega)
  have HP1 := Lib.hid hpa
  have B1 := Lib.hid BS1
  have HB2 := Lib.hid (HB1.out.trans (hb2.mono HB1.out.size))
  have HV2 := Lib.hid (HV1.out.keep hb2 hb2.size)
  have hNa60 : Na ≤ 60 := by have := BS1.len; have := hNa.out; omega
  clear howna hpa BS1 hb2 hF1 HV1 HB1
  go_wp2_with fail
  refine (bins21 V N cv (Pb.vals l) (wd * tm) w2 HV2.out (by have := HNL.out; omega) hm1 (by omega) HO.out).mono ?_; rintro e w3 ⟨vb, rfl, hownb, hb3⟩
  have BS2 := Pb.bs (l := l) hm1 hm2
  obtain ⟨F2, hF2⟩ : ∃ F2, Pb.bins ((Pb.vals l).map (Pb.fl (wd * tm))) = F2 := ⟨_, rfl⟩
  rw [hF2] at hownb BS2 HSUM
  obtain ⟨Ab, Nb, cb, rfl, hNb, hpb⟩ := hownb.prs (by have := BS2.len; omega)
  have HP2 := Lib.hid hpb
  have B2 := Lib.hid BS2
  have HB3 := Lib.hid (HB2.out.trans (hb3.mono HB2.out.size))
  have HV3 := Lib.hid (HV2.out.keep hb3 hb3.size)
  have HP1' := Lib.hid (HP1.out.keep hb3)
  have hNb60 : Nb ≤ 60 := by have := BS2.len; have := hNb.out; omega
  clear hownb hpb BS2 hb3 hF2 HV2 HB2 HP1
  go_wp2_with fail
  go_loopw [14, 15, 16, 17, 19, 57] (fun s _ _ _ _ i wr => ∃ j : Nat, j ≤ Na ∧ i = .int .i64 j ∧ s = .int .i64 (Pb.total (F1.take j)) ∧ Hid (Below w3.heap.size w3 wr)) (fun _ _ _ _ _ i _ => Na - (intOf i).toNat)
  case atStart => exact ⟨0, by omega, rfl, by simp [Pb.total], Below.refl _ _⟩
  case round =>
    obtain ⟨j, hj, rfl, rfl, HI⟩ := hrel
    by_cases hlt : j < Na
    · obtain ⟨g, rfl, hc⟩ := HP1'.out.cells (by omega)
      have hjl : j < F1.length := by rw [HP1'.out.len]; exact hlt
      obtain ⟨x1, x2⟩ := hc j hjl
      have HC := Lib.hid hc
      have hall := B1.out.all _ (List.getElem_mem hjl)
      have hts := total_take_succ hjl
      have htt := Pb.total_take (fun p hp => by have := (B1.out.all p hp).2.2.1; omega) j
      have hsum := B1.out.sum
      have hasc : ∀ (h0 : 0 < j), (F1[j - 1]).1 < (F1[j]).1 := fun h0 => B1.out.asc j h0 hjl
      have HASC := Lib.hid hasc
      generalize hp : F1[j] = p at *
      obtain ⟨a, b⟩ := p
      obtain ⟨p1, p2, p3, p4, p5, p6⟩ := hall
      simp only at p1 p2 p3 p4 p5 p6 hts x1 x2
      have HP := Lib.hid p2
      have HMOD := Lib.hid p1
      have t1 := htt.1
      have t2 : Pb.total (F1.take j) ≤ 60 := by have := htt.2; have := HNL.out; have := HV3.out.len; omega
      have HTS := Lib.hid hts
      have y1 := below_cell HI.out x1
      have y2 := below_cell HI.out x2
      clear p1 p2 hts htt hasc hc x1 x2 hp hsum
      go_wp2_with fail
      obtain ⟨Wb, hWb⟩ : ∃ Wb : World, wr.alloc (.cells #[.int .i64 a, .int .i64 b] 39) = Wb := ⟨_, rfl⟩
      have hbb : Below wr.heap.size wr Wb := by rw [← hWb]; exact (Below.refl _ _).alloc (Nat.le_refl _) _
      have z1 : Wb.cell? ⟨wr.heap.size, 0, none⟩ = some (.int .i64 a) := by rw [← hWb]; simp [go_sem]
      have z2 : Wb.cell? ⟨wr.heap.size, 1, none⟩ = some (.int .i64 b) := by rw [← hWb]; simp [go_sem]
      have HBB := Lib.hid (HI.out.trans (hbb.mono HI.out.size))
      have HVb := Lib.hid (HV3.out.keep HBB.out HBB.out.size)
      rw [hWb]
      clear hWb hbb y1 y2
      have hN60 := HNL.out
      go_loop [17, 19, 64] (fun s _ i => ∃ k : Nat, k ≤ N ∧ i = .int .i64 k ∧ s = .int .i64 (Pb.inn ((Pb.vals l).take k) a (a + wd))) (fun _ _ i => N - (intOf i).toNat)
      case atStart => exact ⟨0, by omega, rfl, by simp [Pb.inn]⟩
      case round =>
        obtain ⟨k, hk, rfl, rfl⟩ := hrel
        have hil := Pb.inn_le ((Pb.vals l).take k) a (a + wd)
        have hi0 := hil.1
        have hi1 : Pb.inn ((Pb.vals l).take k) a (a + wd) ≤ 60 := by have := hil.2; rw [List.length_take] at this; have := HNL.out; omega
        clear hil
        by_cases hkt : k < N
        · obtain ⟨ad, q, rfl, _, HQ, hq, _⟩ := HVb.out.val hkt
          have his := inn_take_succ HQ.out a (a + wd)
          have hqb := HVB.out q (getD_mem HQ.out)
          have hq0 := hqb.1
          have hq1 := hqb.2
          clear hqb
          by_cases hin : a ≤ q ∧ q < a + wd
          · rw [if_pos hin] at his
            have HIS := Lib.hid his
            have c1 : decide (a ≤ q) = true := by simpa using hin.1
            have c2 : decide (q < a + wd) = true := by simpa using hin.2
            clear his hin
            go_wp2_with fail
            go_round
            case rel => exact ⟨k + 1, by omega, by go_num, by rw [HIS.out]⟩
            case measure => simp [intOf]; omega
          · rw [if_neg hin] at his
            have HIS := Lib.hid his
            by_cases h1 : a ≤ q
            · have c1 : decide (a ≤ q) = true := by simpa using h1
              have c2 : decide (q < a + wd) = false := by simp; omega
              clear his hin h1
              go_wp2_with fail
              go_round
              case rel => exact ⟨k + 1, by omega, by go_num, by rw [HIS.out]; simp⟩
              case measure => simp [intOf]; omega
            · have c1 : decide (a ≤ q) = false := by simpa using h1
              clear his hin h1
              go_wp2_with fail
              go_round
              case rel => exact ⟨k + 1, by omega, by go_num, by rw [HIS.out]; simp⟩
              case measure => simp [intOf]; omega
        · obtain rfl : k = N := by omega
          have hfull : Pb.inn ((Pb.vals l).take k) a (a + wd) = b := by rw [List.take_of_length_le (by have := HVb.out.len; omega)]; exact HP.out.symm
          rw [hfull]
          rw [hfull] at hi0 hi1
          have hb0 : (b == 0) = false := by simp; omega
          have hmod : a.tmod wd = 0 := Int.tmod_eq_zero_of_dvd (Int.dvd_of_emod_eq_zero HMOD.out)
          have hwz : ¬ wd = 0 := by omega
          clear hfull
          by_cases j0 : j = 0
          · have jf : decide ((0 : Int) < j) = false := by simp; omega
            have jf2 : decide (0 < j) = false := by simp; omega
            clear j0
            go_wp2_with fail
            go_quiet (fail)
            go_wp2_with fail
            go_roundw
            case rel => exact ⟨j + 1, by omega, by go_num, by rw [HTS.out], below_drewN HBB.out _⟩
            case measure => simp [intOf]; omega
          · have jt : decide ((0 : Int) < j) = true := by simp; omega
            have jt2 : decide (0 < j) = true := by simp; omega
            have hjm : j - 1 < F1.length := by omega
            have hcm := (HC.out (j - 1) hjm).1
            have hlt2 := HASC.out (by omega)
            generalize hq : (F1[j - 1]).1 = q at *
            have cm := below_cell HBB.out hcm
            have le1 : decide (a ≤ q) = false := by simp; omega
            have i1 : (1 : Int) ≤ j := by omega
            have i5 : (j : Int) - 1 < Na := by omega
            have i6 : (0 : Int) ≤ (j : Int) - 1 := by omega
            have i3 : ((j : Int) - 1).toNat = j - 1 := by omega
            have i4 : IntKind.i64.wrap ((j : Int) - 1) = (j : Int) - 1 := by simp [IntKind.wrap, IntKind.bits, IntKind.signed]; omega
            clear j0 hcm hlt2 hq
            go_wp2_with fail
            go_quiet (fail)
            go_wp2_with fail
            go_roundw
            case rel => exact ⟨j + 1, by omega, by go_num, by rw [HTS.out], below_drewN HBB.out _⟩
            case measure => simp [intOf]; omega
    · obtain rfl : j = Na := by omega
      have hsum : Pb.total (F1.take j) = (Pb.vals l).length := by rw [List.take_of_length_le (by rw [HP1'.out.len]; exact Nat.le_refl _)]; exact B1.out.sum
      rw [hsum]
      have HBL := Lib.hid HI.out
      have hvl : ((Pb.vals l).length : Int) ≤ 60 := by have := Pb.vals_len l; omega
      have hvl0 : (0 : Int) ≤ ((Pb.vals l).length : Int) := by omega
      have HVL := Lib.hid (show ((Pb.vals l).length : Int) = Pb.total F2 from B2.out.sum.symm)
      generalize ((Pb.vals l).length : Int) = vl at *
      clear hsum hlt HI
      go_wp2_with fail
      go_loopw [14, 21, 22, 24, 120] (fun s _ _ _ i w5 => ∃ j2 : Nat, j2 ≤ Nb ∧ i = .int .i64 j2 ∧ s = .int .i64 (vl - Pb.total (F2.take j2)) ∧ Hid (Below w3.heap.size w3 w5)) (fun _ _ _ _ i _ => Nb - (intOf i).toNat)
      case atStart => exact ⟨0, by omega, rfl, by simp [Pb.total], HBL.out⟩
      case round =>
        obtain ⟨j2, hj2, rfl, rfl, HI⟩ := hrel
        have htt := Pb.total_take (fun p hp => by have := (B2.out.all p hp).2.2.1; omega) j2
        have t1 := htt.1
        have t2 : Pb.total (F2.take j2) ≤ 60 := by have := htt.2; have := HVL.out; omega
        clear htt
        by_cases hlt : j2 < Nb
        · obtain ⟨g2, rfl, hc⟩ := HP2.out.cells (by omega)
          have hjl : j2 < F2.length := by rw [HP2.out.len]; exact hlt
          obtain ⟨x1, x2⟩ := hc j2 hjl
          have hall := B2.out.all _ (List.getElem_mem hjl)
          have hts := total_take_succ hjl
          have hsm := HSUM.out j2 hjl
          generalize hp : F2[j2] = p at *
          obtain ⟨a, b⟩ := p
          obtain ⟨p1, p2, p3, p4, p5, p6⟩ := hall
          simp only at p1 p2 p3 p4 p5 p6 hts x1 x2 hsm
          have HTS := Lib.hid hts
          have HSM := Lib.hid hsm
          have y1 := below_cell (HI.out) (below_cell (Below.refl _ _) x1)
          have y2 := below_cell (HI.out) (below_cell (Below.refl _ _) x2)
          clear p1 p2 hts hc x1 x2 hp hsm
          go_wp2_with fail
          obtain ⟨Wb, hWb⟩ : ∃ Wb : World, wr.alloc (.cells #[.int .i64 a, .int .i64 b] 39) = Wb := ⟨_, rfl⟩
          have hbb : Below wr.heap.size wr Wb := by rw [← hWb]; exact (Below.refl _ _).alloc (Nat.le_refl _) _
          have z1 : Wb.cell? ⟨wr.heap.size, 0, none⟩ = some (.int .i64 a) := by rw [← hWb]; simp [go_sem]
          have z2 : Wb.cell? ⟨wr.heap.size, 1, none⟩ = some (.int .i64 b) := by rw [← hWb]; simp [go_sem]
          have HZ := Lib.hid (And.intro z1 z2)
          have HBB := Lib.hid (HI.out.trans (hbb.mono HI.out.size))
          have HWB := Lib.hid (show wr.heap.size < Wb.heap.size by rw [← hWb]; simp)
          rw [hWb]
          clear hWb hbb y1 y2 z1 z2
          generalize wr.heap.size = b21 at *
          go_loopw [22, 24, 126] (fun s _ i wk => ∃ k : Nat, k ≤ j ∧ i = .int .i64 k ∧ s = .int .i64 (Pb.sums (F1.take k) a (a + wd * tm)) ∧ Hid (Below Wb.heap.size Wb wk)) (fun _ _ i _ => j - (intOf i).toNat)
          case atStart => exact ⟨0, by omega, rfl, by simp [Pb.sums], Below.refl _ _⟩
          case round =>
            obtain ⟨k, hk, rfl, rfl, HK⟩ := hrel
            have hss := Pb.sums_take (fun p hp => by have := (B1.out.all p hp).2.2.1; omega) a (a + wd * tm) k
            have s0 := hss.1
            have s1 : Pb.sums (F1.take k) a (a + wd * tm) ≤ 60 := by have := hss.2; have h2 := B1.out.sum; have := Pb.vals_len l; omega
            clear hss
            by_cases hkt : k < j
            · obtain ⟨g1, hg1, hc⟩ := HP1'.out.cells (by omega)
              subst hg1
              have hkl : k < F1.length := by rw [HP1'.out.len]; exact hkt
              obtain ⟨x1, x2⟩ := hc k hkl
              have hall := B1.out.all _ (List.getElem_mem hkl)
              have hts := sums_take_succ hkl a (a + wd * tm)
              generalize hp : F1[k] = p at *
              obtain ⟨c1, d1⟩ := p
              obtain ⟨p1, p2, q3, q4, q5, q6⟩ := hall
              simp only at p1 p2 q3 q4 q5 q6 hts x1 x2
              have y1 := below_cell (HBB.out.trans (HK.out.mono HBB.out.size)) x1
              have y2 := below_cell (HBB.out.trans (HK.out.mono HBB.out.size)) x2
              have v1 := below_cell HK.out HZ.out.1
              have v2 := below_cell HK.out HZ.out.2
              have hne : b21 < wr.heap.size := Nat.lt_of_lt_of_le HWB.out HK.out.size
              have HKB := Lib.hid (HK.out.alloc HK.out.size (.cells #[.int .i64 c1, .int .i64 d1] 39))
              clear p1 p2 hc x1 x2 hp
              by_cases hin : a ≤ c1 ∧ c1 < a + wd * tm
              · rw [if_pos hin] at hts
                have HTK := Lib.hid hts
                have k1 : decide (a ≤ c1) = true := by simpa using hin.1
                have k2 : decide (c1 < a + wd * tm) = true := by simpa using hin.2
                clear hts hin
                go_wp2_with fail
                go_roundw
                case rel => exact ⟨k + 1, by omega, by go_num, by rw [HTK.out], HKB.out⟩
                case measure => simp [intOf]; omega
              · rw [if_neg hin] at hts
                have HTK := Lib.hid hts
                by_cases h1 : a ≤ c1
                · have k1 : decide (a ≤ c1) = true := by simpa using h1
                  have k2 : decide (c1 < a + wd * tm) = false := by simp; omega
                  clear hts hin h1
                  go_wp2_with fail
                  go_roundw
                  case rel => exact ⟨k + 1, by omega, by go_num, by rw [HTK.out]; simp, HKB.out⟩
                  case measure => simp [intOf]; omega
                · have k1 : decide (a ≤ c1) = false := by simpa using h1
                  clear hts hin h1
                  go_wp2_with fail
                  go_roundw
                  case rel => exact ⟨k + 1, by omega, by go_num, by rw [HTK.out]; simp, HKB.out⟩
                  case measure => simp [intOf]; omega
            · obtain rfl : k = j := by omega
              have hfull : Pb.sums (F1.take k) a (a + wd * tm) = b := by rw [List.take_of_length_le (by rw [HP1'.out.len]; exact Nat.le_refl _)]; exact HSM.out
              rw [hfull]
              have v1 := below_cell HK.out HZ.out.1
              have v2 := below_cell HK.out HZ.out.2
              have HE := Lib.hid (HBB.out.trans (HK.out.mono HBB.out.size))
              have ht2 : Pb.total (F2.take j2) + b = Pb.total (F2.take (j2 + 1)) := HTS.out.symm
              clear hfull s0 s1 hkt HK
              go_wp2_with fail
              go_roundw
              case rel => exact ⟨j2 + 1, by omega, by go_num, by rw [HTS.out]; go_num, HE.out⟩
              case measure => simp [intOf]; omega
        · obtain rfl : j2 = Nb := by omega
          have hz : vl - Pb.total (F2.take j2) = 0 := by rw [List.take_of_length_le (by rw [HP2.out.len]; exact Nat.le_refl _), ← HVL.out]; omega
          rw [hz]
          have HBE := Lib.hid (HB3.out.trans (HI.out.mono HB3.out.size))
          clear hz t1 t2 hlt HI
          go_wp2_with fail
          refine (awake21 _).mono ?_; rintro e w9 ⟨rfl, hb9⟩
          go_wp2_with fail
          go_ret
          exact ⟨rfl, HBE.out.trans (hb9.mono HBE.out.size)⟩
end Go.Proofs.Ytaalgjeffidedaa
