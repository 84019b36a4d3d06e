/- The statement that moved numbers have moved bins and quartiles, walked. -/
import Derived.Test.YtaalgjeffidedaaBy
namespace Go.Proofs.Ytaalgjeffidedaa
open Go.RowKit
theorem Pb.moved_bins {w d : Int} (hd : d % w = 0) (v : List Int) : Pb.bins (((v.reverse).map (· + d)).map (Pb.fl w)) = (Pb.bins (v.map (Pb.fl w))).map fun p => (p.1 + d, p.2) := by
  rw [← Pb.bins_map_add, List.map_map, List.map_map]
  have e : (v.reverse.map (Pb.fl w ∘ fun x => x + d)) = (v.map ((fun x => x + d) ∘ Pb.fl w)).reverse := by
    rw [← List.map_reverse]
    exact List.map_congr_left fun x _ => by simp [Pb.fl_add hd]
  rw [e]
  exact Pb.bins_perm (List.reverse_perm _)
theorem Pb.moved_at {d : Int} (v : List Int) {k : Nat} (hk : k < v.length) : Pb.at ((v.reverse).map (· + d)) k = Pb.at v k + d := by
  have hl := Pb.srt_len v
  unfold Pb.at
  rw [Pb.srt_map_add, Pb.srt_reverse]
  simp [List.getD, List.getElem?_eq_getElem (show k < (Pb.srt v).length by omega)]
theorem rev_take_succ {v : List Int} {k : Nat} {x : Int} (hk : k < v.length) (hx : v.getD (v.length - 1 - k) 0 = x) : v.reverse.take (k + 1) = v.reverse.take k ++ [x] := by
  rw [List.take_succ_eq_append_getElem (show k < v.reverse.length by simpa using hk), List.getElem_reverse]
  rw [← hx]
  simp [List.getD, List.getElem?_eq_getElem (show v.length - 1 - k < v.length by omega)]
set_option maxRecDepth 100000 in
set_option maxHeartbeats 3200000 in
theorem walkMoves (W : World) (A : Option Addr) (n c : Nat) (l : List Int) (h : Nums W .u8 W.heap.size A n c l) (x : Int) (hx0 : 0 ≤ x) (hx1 : x ≤ 255) (t : Int) (ht0 : -128 ≤ t) (ht1 : t ≤ 127) :
    Calls Try.prog 6 #[.slice A n c, .int .u8 x, .int .i8 t] W fun e w => e = .returned (.bool true) ∧ Below W.heap.size W w := by
  have H := Lib.hid h
  clear h
  go_enter Try.func6, Try.ntmps6
  go_wp2_with fail
  refine (vals21 A n c l W H.out).mono ?_; rintro e w1 ⟨v, rfl, hown, hb1⟩
  have hvb := Pb.vals_bd (l := l)
  have hvl := Pb.vals_len l
  obtain ⟨V, N, cv, rfl, hN, hn⟩ : ∃ V N cv, v = .slice V N cv ∧ Hid (N = (Pb.vals l).length) ∧ Nums w1 .i64 w1.heap.size V N cv (Pb.vals l) := by
    obtain ⟨V, cv, hv, hnn⟩ := hown.nums (fun x hx => wf_i64 (by have := hvb x hx; omega))
    exact ⟨V, _, cv, hv, Lib.hid rfl, hnn⟩
  have HV1 := Lib.hid hn
  have HB1 := Lib.hid hb1
  have HVB := Lib.hid hvb
  have hNL : N ≤ 60 := by have := hN.out; omega
  have HO := Lib.hid (show (Pb.vals l).any Pb.out = false by
    rw [Bool.eq_false_iff]; intro ha
    obtain ⟨x, hx, ho⟩ := List.any_eq_true.1 ha
    have := hvb x hx
    simp only [Pb.out, Bool.or_eq_true, decide_eq_true_eq] at ho; omega)
  clear hown hb1 hn hvb hvl
  have hw1 : 1 ≤ 1 + x % 9 := by omega
  have hw2 : 1 + x % 9 ≤ 9 := by omega
  have hwe : ∃ wd, 1 + x % 9 = wd := ⟨_, rfl⟩
  have hd1 : -1152 ≤ (1 + x % 9) * t := by
    have h1 : (1 + x % 9) * (-t) ≤ 9 * 128 := by
      rcases Int.le_total 0 (-t) with h | h
      · exact Int.mul_le_mul hw2 (by omega) h (by omega)
      · have := Int.mul_nonneg (show 0 ≤ 1 + x % 9 by omega) (show 0 ≤ t by omega)
        rw [Int.mul_neg]; omega
    rw [Int.mul_neg] at h1; omega
  have hd2 : (1 + x % 9) * t ≤ 1152 := by
    rcases Int.le_total 0 t with h | h
    · have := Int.mul_le_mul hw2 (show t ≤ 128 by omega) h (by omega); omega
    · have := Int.mul_nonneg (show 0 ≤ 1 + x % 9 by omega) (show 0 ≤ -t by omega)
      rw [Int.mul_neg] at this; omega
  have HDM := Lib.hid (show ((1 + x % 9) * t) % (1 + x % 9) = 0 from Int.mul_emod_right _ _)
  clear hwe
  have BS := Lib.hid (Pb.bs (l := l) hw1 (show 1 + x % 9 ≤ 45 by omega))
  generalize hvv : Pb.vals l = v at *
  clear hvv
  go_wp2_with fail
  generalize (1 + x % 9) * t = d at *
  generalize 1 + x % 9 = wd at *
  go_loopw [10, 11] (fun s i wr => ∃ k : Nat, k ≤ N ∧ i = .int .i64 ((N : Int) - 1 - k) ∧ Hid (Own wr w1.heap.size 3 .i64 s ((v.reverse.take k).map (· + d)) ∧ Below w1.heap.size w1 wr)) (fun _ i _ => (intOf i + 1).toNat)
  case atStart => exact ⟨0, by omega, by go_num, ⟨by simpa using Own.nil _ _ _ _, Below.refl _ _⟩⟩
  case round =>
    obtain ⟨k, hk, rfl, HI⟩ := hrel
    by_cases hlt : k < N
    · obtain ⟨j, hj⟩ : ∃ j, N = j + 1 + k := ⟨N - 1 - k, by omega⟩
      have he : (N : Int) - 1 - k = j := by omega
      rw [he]
      obtain ⟨ad, y, rfl, _, HX, hy, _⟩ := (HV1.out.keep HI.out.2 HI.out.2.size).val (show j < N by omega)
      have hyb := HVB.out y (getD_mem HX.out)
      have hlen := Lib.hid (show ((v.reverse.take k).map (· + d)).length ≤ 1000 by rw [List.length_map, List.length_take, List.length_reverse, ← hN.out]; omega)
      have HS := Lib.hid (rev_take_succ (v := v) (k := k) (x := y) (by rw [← hN.out]; exact hlt) (by rw [← hN.out, show N - 1 - k = j by omega]; exact HX.out.1))
      have j0 : (0 : Int) ≤ j := by omega
      have j1 : (j : Int) < N := by omega
      have HJ := Lib.hid hj
      clear hj he
      go_wp2_with (at_builtin; refine app_int _ rfl (.tmp 38) (.tmp 45) _ rfl w1.heap.size 3 8 .i64 int_info Try.underlying23 u10 _ rfl (HI.out.1.alloc _) (y + d) _ rfl (by simp [go_sem]) (by have := hlen.out; simp only [maxLen]; omega) (by have := hlen.out; omega) (by have := HI.out.2.size; simp; omega) ?_; intro v' w' hown' hgrow)
      go_roundw
      case rel =>
        have hj := HJ.out
        exact ⟨k + 1, by omega, by congr 1; omega, ⟨by rw [HS.out, List.map_append]; exact hown', (HI.out.1.alloc _).grow (HI.out.2.alloc HI.out.2.size _) hgrow (by have := HI.out.2.size; simp; omega) (Nat.le_refl _)⟩⟩
      case measure => have hj := HJ.out; simp [intOf]
    · obtain rfl : k = N := by omega
      have hfin := HI.out.1
      rw [List.take_of_length_le (by rw [List.length_reverse, ← hN.out]; exact Nat.le_refl _)] at hfin
      obtain ⟨M, NM, cm, rfl, hNM, hnm⟩ := hfin.numsN (fun x hx => by
        obtain ⟨y, hy, rfl⟩ := List.mem_map.1 hx
        have := HVB.out y (List.mem_reverse.1 hy)
        exact wf_i64 (by omega))
      have hNM2 : NM ≤ 60 := by have := hNM.out; rw [List.length_map, List.length_reverse, ← hN.out] at this; omega
      have HVR := Lib.hid (HV1.out.keep HI.out.2 HI.out.2.size)
      have HMR := Lib.hid hnm
      have HBR := Lib.hid (HB1.out.trans (HI.out.2.mono HB1.out.size))
      have HMO := Lib.hid (show ((v.reverse).map (· + d)).any Pb.out = false by
        rw [Bool.eq_false_iff]; intro ha
        obtain ⟨x, hx, ho⟩ := List.any_eq_true.1 ha
        obtain ⟨y, hy, rfl⟩ := List.mem_map.1 hx
        have := HVB.out y (List.mem_reverse.1 hy)
        simp only [Pb.out, Bool.or_eq_true, decide_eq_true_eq] at ho; omega)
      have HMB := Lib.hid (Pb.moved_bins HDM.out v)
      have HLM := Lib.hid (show NM = v.length by have := hNM.out; rw [List.length_map, List.length_reverse] at this; exact this)
      clear hnm hfin HI hlt HV1 HB1
      go_wp2_with fail
      refine (bins21 V k cv v wd wr HVR.out (by omega) hw1 (by omega) HO.out).mono ?_; rintro e w2 ⟨va, rfl, howna, hb2⟩
      generalize hF : Pb.bins (v.map (Pb.fl wd)) = F at *
      obtain ⟨Aa, Na, ca, rfl, hNa, hpa⟩ := howna.prs (by have := BS.out.len; omega)
      have HP2 := Lib.hid hpa
      have HV2 := Lib.hid (HVR.out.keep hb2 hb2.size)
      have HM2 := Lib.hid (HMR.out.keep hb2 hb2.size)
      have HB2 := Lib.hid (HBR.out.trans (hb2.mono HBR.out.size))
      have hNa60 : Na ≤ 60 := by have := BS.out.len; have := hNa.out; omega
      clear howna hpa hb2 HVR HMR HBR
      go_wp2_with fail
      refine (bins21 M NM cm _ wd w2 HM2.out (by omega) hw1 (by omega) HMO.out).mono ?_; rintro e w3 ⟨vb, rfl, hownb, hb3⟩
      rw [HMB.out] at hownb
      obtain ⟨Ab, Nb, cb, rfl, hNb, hpb⟩ := hownb.prs (by have := BS.out.len; rw [List.length_map]; omega)
      have hNN : Na = Nb := by rw [hNb.out, hNa.out, List.length_map]
      subst hNN
      have HPB := Lib.hid hpb
      have HPA := Lib.hid (HP2.out.keep hb3)
      have HV3 := Lib.hid (HV2.out.keep hb3 hb3.size)
      have HM3 := Lib.hid (HM2.out.keep hb3 hb3.size)
      have HB3 := Lib.hid (HB2.out.trans (hb3.mono HB2.out.size))
      clear hownb hpb hb3 HV2 HM2 HP2 HB2
      go_wp2_with fail
      go_loopw [16, 74] (fun _ i wr => ∃ j : Nat, j ≤ Na ∧ i = .int .i64 j ∧ Hid (∃ m, wr = w3.drewN m)) (fun _ i _ => Na - (intOf i).toNat)
      case atStart => exact ⟨0, by omega, rfl, Lib.hid ⟨0, rfl⟩⟩
      case round =>
        obtain ⟨j, hj, rfl, HN⟩ := hrel
        obtain ⟨m, hm⟩ := HN.out
        clear HN
        subst hm
        by_cases hlt : j < Na
        · obtain ⟨g, rfl, hc⟩ := HPA.out.cells (by omega)
          obtain ⟨g', rfl, hc'⟩ := HPB.out.cells (by omega)
          have hjl : j < F.length := by rw [HPA.out.len]; exact hlt
          obtain ⟨x1, x2⟩ := hc j hjl
          obtain ⟨y1, y2⟩ := hc' j (by rw [List.length_map]; exact hjl)
          have hall := BS.out.all _ (List.getElem_mem hjl)
          simp only [List.getElem_map] at y1 y2
          generalize hp : F[j] = p at *
          obtain ⟨a, b⟩ := p
          obtain ⟨p1, p2, p3, p4, p5, p6⟩ := hall
          simp only at p1 p2 p3 p4 p5 p6 x1 x2 y1 y2
          have hnb := neqBin (a + d) b (a + d) b
          simp only [decide_true, Bool.and_self, Bool.not_true] at hnb
          have i1 : (j : Int) < Na := by omega
          have i2 : (0 : Int) ≤ j := by omega
          clear p1 p2 hc hc' hp
          go_wp2_with fail
          go_quiet (fail)
          go_wp2_with fail
          go_roundw
          case rel => exact ⟨j + 1, by omega, by go_num, Lib.hid ⟨_, rfl⟩⟩
          case measure => simp [intOf]; omega
        · obtain rfl : j = Na := by omega
          have hb4 : Below w3.heap.size w3 (w3.drewN m) := below_drewN (Below.refl _ _) _
          have HV4 := Lib.hid (HV3.out.keep hb4 hb4.size)
          have HM4 := Lib.hid (HM3.out.keep hb4 hb4.size)
          have HB4 := Lib.hid (HB3.out.trans (hb4.mono HB3.out.size))
          generalize w3.drewN m = w4 at *
          have HNV := Lib.hid (show k = v.length from hN.out)
          clear hb4 HV3 HM3 HB3 HPA HPB HMB HDM BS hlt
          rcases Nat.eq_zero_or_pos k with rfl | hpos
          · obtain rfl : v = [] := List.eq_nil_of_length_eq_zero HNV.out.symm
            obtain rfl : NM = 0 := HLM.out
            go_wp2_with fail
            refine (quart21 V 0 cv [] w4 HV4.out (by omega) HO.out).mono ?_; rintro e w5 ⟨rfl, hb5⟩
            rw [show Pb.quart [] = .tuple #[.agg #[.int .i64 0, .int .i64 0, .int .i64 0, .int .i64 0, .int .i64 0, .int .i64 0], .int .i64 18] from rfl]
            have HB5 := Lib.hid (HB4.out.trans (hb5.mono HB4.out.size))
            have HM5 := Lib.hid (HM4.out.keep hb5 hb5.size)
            clear hb5 HB4 HV4 HM4
            go_wp2_with fail
            obtain ⟨Z, hZ⟩ : ∃ Z : World, w5.alloc (.cells #[.int .i64 0, .int .i64 0, .int .i64 0, .int .i64 0, .int .i64 0, .int .i64 0] 34) = Z := ⟨_, rfl⟩
            have hbz : Below w5.heap.size w5 Z := by rw [← hZ]; exact (Below.refl _ _).alloc (Nat.le_refl _) _
            have HBZ := Lib.hid (HB5.out.trans (hbz.mono HB5.out.size))
            have HMZ := Lib.hid (HM5.out.keep hbz hbz.size)
            rw [hZ]
            clear hZ hbz HB5 HM5
            refine (quart21 M 0 cm _ Z HMZ.out (by omega) HMO.out).mono ?_; rintro e w6 ⟨rfl, hb6⟩
            rw [show Pb.quart (([] : List Int).reverse.map (· + d)) = .tuple #[.agg #[.int .i64 0, .int .i64 0, .int .i64 0, .int .i64 0, .int .i64 0, .int .i64 0], .int .i64 18] from rfl]
            have HB6 := Lib.hid (HBZ.out.trans (hb6.mono HBZ.out.size))
            clear hb6 HBZ HMZ
            go_wp2_with fail
            refine (awake21 _).mono ?_; rintro e w9 ⟨rfl, hb9⟩
            go_wp2_with fail
            go_ret
            exact ⟨rfl, HB6.out.trans (((Below.refl _ _).alloc (Nat.le_refl _) _ |>.trans (hb9.mono (by simp))).mono HB6.out.size)⟩
          · obtain ⟨m, rfl⟩ : ∃ m, k = m + 1 := ⟨k - 1, by omega⟩
            have hlen : v.length = m + 1 := HNV.out.symm
            have HQ := Lib.hid (show Pb.quart v = .tuple #[.agg #[.int .i64 ((m : Int) + 1), .int .i64 (Pb.at v 0), .int .i64 (Pb.at v (m / 4)), .int .i64 (Pb.at v (m / 2)), .int .i64 (Pb.at v (3 * m / 4)), .int .i64 (Pb.at v m)], .int .i64 0] by
              have hne : v ≠ [] := by rintro rfl; cases hlen
              unfold Pb.quart
              rw [if_neg hne]
              unfold Pb.box
              rw [hlen]
              simp)
            have HQM := Lib.hid (show Pb.quart (v.reverse.map (· + d)) = .tuple #[.agg #[.int .i64 ((m : Int) + 1), .int .i64 (Pb.at v 0 + d), .int .i64 (Pb.at v (m / 4) + d), .int .i64 (Pb.at v (m / 2) + d), .int .i64 (Pb.at v (3 * m / 4) + d), .int .i64 (Pb.at v m + d)], .int .i64 0] by
              have hl2 : (v.reverse.map (· + d)).length = m + 1 := by rw [List.length_map, List.length_reverse, hlen]
              have hne : (v.reverse.map (· + d)) ≠ [] := fun h => by rw [h] at hl2; cases hl2
              rw [← Pb.moved_at (d := d) v (k := 0) (by omega), ← Pb.moved_at (d := d) v (k := m / 4) (by omega), ← Pb.moved_at (d := d) v (k := m / 2) (by omega), ← Pb.moved_at (d := d) v (k := 3 * m / 4) (by omega), ← Pb.moved_at (d := d) v (k := m) (by omega)]
              unfold Pb.quart
              rw [if_neg hne]
              unfold Pb.box
              rw [hl2]
              simp)
            have hbd : ∀ k, k < m + 1 → -10 ≤ Pb.at v k ∧ Pb.at v k ≤ 39 := fun k hk => HVB.out _ (Pb.at_mem (by omega))
            have r0 := hbd 0 (by omega)
            have r1 := hbd (m / 4) (by omega)
            have r2 := hbd (m / 2) (by omega)
            have r3 := hbd (3 * m / 4) (by omega)
            have r4 := hbd m (by omega)
            generalize Pb.at v 0 = q0 at *
            generalize Pb.at v (m / 4) = q1 at *
            generalize Pb.at v (m / 2) = q2 at *
            generalize Pb.at v (3 * m / 4) = q3 at *
            generalize Pb.at v m = q4 at *
            obtain ⟨r00, r01⟩ := r0
            obtain ⟨r10, r11⟩ := r1
            obtain ⟨r20, r21⟩ := r2
            obtain ⟨r30, r31⟩ := r3
            obtain ⟨r40, r41⟩ := r4
            have hmz : ((m : Int) + 1 == 0) = false := by simp; omega
            have hbx : ∀ w, (binOp .eql 34 (.agg #[.int .i64 ((m : Int) + 1), .int .i64 (q0 + d), .int .i64 (q1 + d), .int .i64 (q2 + d), .int .i64 (q3 + d), .int .i64 (q4 + d)]) (.agg #[.int .i64 ((m : Int) + 1), .int .i64 (q0 + d), .int .i64 (q1 + d), .int .i64 (q2 + d), .int .i64 (q3 + d), .int .i64 (q4 + d)])).run Try.prog w = .ok (.bool true) w :=
              fun w => eqlBox _ _ w _ _ _ _ _ _ _ _ _ _ _ _ rfl rfl true (by simp)
            clear hbd HVB hlen hpos
            go_wp2_with fail
            refine (quart21 V (m + 1) cv v w4 HV4.out (by omega) HO.out).mono ?_; rintro e w5 ⟨rfl, hb5⟩
            rw [HQ.out]
            have HB5 := Lib.hid (HB4.out.trans (hb5.mono HB4.out.size))
            have HM5 := Lib.hid (HM4.out.keep hb5 hb5.size)
            clear hb5 HB4 HV4 HM4 HQ
            go_wp2_with fail
            obtain ⟨Z, hZ⟩ : ∃ Z : World, w5.alloc (.cells #[.int .i64 ((m : Int) + 1), .int .i64 q0, .int .i64 q1, .int .i64 q2, .int .i64 q3, .int .i64 q4] 34) = Z := ⟨_, rfl⟩
            have hbz : Below w5.heap.size w5 Z := by rw [← hZ]; exact (Below.refl _ _).alloc (Nat.le_refl _) _
            have hcz : Z.cell? ⟨w5.heap.size, 0, none⟩ = some (.int .i64 ((m : Int) + 1)) ∧ Z.cell? ⟨w5.heap.size, 1, none⟩ = some (.int .i64 q0) ∧ Z.cell? ⟨w5.heap.size, 2, none⟩ = some (.int .i64 q1) ∧ Z.cell? ⟨w5.heap.size, 3, none⟩ = some (.int .i64 q2) ∧ Z.cell? ⟨w5.heap.size, 4, none⟩ = some (.int .i64 q3) ∧ Z.cell? ⟨w5.heap.size, 5, none⟩ = some (.int .i64 q4) := by rw [← hZ]; simp [go_sem]
            have hsz : w5.heap.size < Z.heap.size := by rw [← hZ]; simp
            have HBZ := Lib.hid (HB5.out.trans (hbz.mono HB5.out.size))
            have HMZ := Lib.hid (HM5.out.keep hbz hbz.size)
            rw [hZ]
            clear hZ hbz HB5 HM5
            generalize w5.heap.size = b5 at *
            obtain ⟨c0, c1, c2, c3, c4, c5⟩ := hcz
            refine (quart21 M NM cm _ Z HMZ.out (by omega) HMO.out).mono ?_; rintro e w6 ⟨rfl, hb6⟩
            rw [HQM.out]
            have HB6 := Lib.hid (HBZ.out.trans (hb6.mono HBZ.out.size))
            have d0 := below_cell hb6 c0
            have d1 := below_cell hb6 c1
            have d2 := below_cell hb6 c2
            have d3 := below_cell hb6 c3
            have d4 := below_cell hb6 c4
            have d5 := below_cell hb6 c5
            have hs6 : b5 < w6.heap.size := Nat.lt_of_lt_of_le hsz hb6.size
            clear hb6 HBZ HMZ c0 c1 c2 c3 c4 c5 HQM
            go_wp2_with fail
            refine (awake21 _).mono ?_; rintro e w9 ⟨rfl, hb9⟩
            go_wp2_with fail
            go_ret
            exact ⟨rfl, HB6.out.trans (((Below.refl _ _).alloc (Nat.le_refl _) _ |>.trans (hb9.mono (by simp))).mono HB6.out.size)⟩
end Go.Proofs.Ytaalgjeffidedaa
