/- Register: histories, walked. -/
import Derived.Test.YtojeendofpallaaFa
namespace Go.Proofs.Ytojeendofpallaa
open Go.RowKit
set_option maxHeartbeats 1600000 in
set_option maxRecDepth 100000 in
theorem walkLine (W : World) (A : Option Addr) (n c : Nat) (l : List Int) (h : Nums W .u8 W.heap.size A n c l) :
    Calls Try.prog 12 #[.slice A n c] W fun e w => e = .returned (.bool true) ∧ Below W.heap.size W w := by
  go_enter Try.func12, Try.ntmps12
  go_wp2_with fail
  refine (new_any A n c l W h).mono ?_; rintro e w1 ⟨rfl, hc1, hb1⟩
  have HB1 := Lib.hid hb1
  clear hb1
  go_wp2_with fail
  refine (register9 _ _ w1 hc1).mono ?_; rintro e w2 ⟨v, L, rfl, ho, hr, hl8, hc2, hg2⟩
  obtain ⟨Ar, nr, cr, rfl, hrow⟩ := ho.row (by omega)
  have hnr : nr ≤ 8 := by rw [← hrow.len]; exact hl8
  have HRW := Lib.hid hrow
  have HR := Lib.hid hr
  have HB2 := Lib.hid (below_cod HB1.out hg2)
  clear hc1 hg2 ho hrow hc2 hr hl8 h
  go_wp2_with fail
  refine (force38 Ar nr cr L w2 HRW.out HR.out).mono ?_; rintro e w3 ⟨vi, rfl, hoi, hb3⟩
  obtain ⟨Ai, ni, ci, rfl, HNI, hni⟩ := hoi.nums9 (Rg.inf_wf HR.out.nums)
  have hni9 : ni ≤ 100 := by
    have := Rg.inf_len L []
    rw [HNI.out]
    have h2 := HR.out.few
    unfold Rg.inf
    simp only [List.length_nil] at this
    omega
  have HRW3 := Lib.hid (HRW.out.keep hb3 hb3.size)
  have HB3 := Lib.hid (HB2.out.trans (hb3.mono HB2.out.size))
  have HI := Lib.hid hni
  have HLR := Lib.hid HRW.out.len
  clear hoi hb3 hni
  go_wp2_with fail
  go_loopw [20] (fun i wr => ∃ j : Nat, j ≤ nr ∧ i = .int .i64 j ∧ Hid (Below w3.heap.size w3 wr)) (fun i _ => nr - (intOf i).toNat)
  case atStart => exact ⟨0, by omega, rfl, Below.refl _ _⟩
  case round =>
    rename World => Y
    obtain ⟨j, hj, rfl, HIY⟩ := hrel
    by_cases hlt : j < nr
    · obtain ⟨g, num, bef, kind, of, out, txt, link, rfl, HX, c0, c1, c2, c3, c4, c5, c6⟩ := (HRW3.out.keep HIY.out HIY.out.size).val hlt
      obtain ⟨k, hk⟩ : ∃ k : Nat, k = j + 1 := ⟨_, rfl⟩
      have hnum : num = (k : Int) := by
        have h9 := HR.out.num j HX.out.2.1
        rw [HX.out.1] at h9
        simp only at h9
        omega
      subst hnum
      have HK := Lib.hid hk
      have HKIND := Lib.hid (show (L.getD (k - 1) Rg.En0).kind = kind by rw [hk, show j + 1 - 1 = j by omega, HX.out.1])
      have HG9 := Lib.hid HX.out.2.2
      clear hk
      obtain ⟨Z, hZ⟩ : ∃ Z : World, Y.alloc (.cells #[.int .i64 k, .int .u64 bef, .int .i64 kind, .int .i64 of, .int .i64 out, .string txt, .int .u64 link] 60) = Z := ⟨_, rfl⟩
      have hbz : Below Y.heap.size Y Z := by rw [← hZ]; exact (Below.refl _ _).alloc (Nat.le_refl _) _
      have hsz : Y.heap.size < Z.heap.size := by rw [← hZ]; simp
      have d0 : Z.cell? ⟨Y.heap.size, 0, none⟩ = some (.int .i64 k) := by rw [← hZ]; simp [go_sem]
      have d2 : Z.cell? ⟨Y.heap.size, 2, none⟩ = some (.int .i64 kind) := by rw [← hZ]; simp [go_sem]
      have HBZ := Lib.hid (HIY.out.trans (hbz.mono HIY.out.size))
      clear hbz
      go_wp2_with fail
      clear hZ c0 c1 c2 c3 c4 c5 c6
      refine (hist38 (some ⟨g, 0, none⟩) nr cr L k Z (HRW3.out.keep HBZ.out HBZ.out.size) HR.out (by have := HK.out; omega) (by have := HK.out; omega)).mono ?_; rintro e V (⟨hk2, rfl, hbv⟩ | ⟨hk2, vh, rfl, hoh, hbv⟩)
      · obtain rfl : kind = 2 := by rw [HKIND.out] at hk2; exact hk2
        have d2 := (hbv.cell hsz).trans d2
        have HBV := Lib.hid (HBZ.out.trans (hbv.mono HBZ.out.size))
        clear hbv
        go_wp2_with fail
        go_roundw
        case rel => exact ⟨j + 1, by omega, by go_num, HBV.out⟩
        case measure => simp [intOf]; omega
      · have hkd : kind ≠ 2 := by rw [HKIND.out] at hk2; exact hk2
        have g2 : (kind == 2) = false := by simp [hkd]
        have hline := HR.out.line k (by have := HK.out; omega) (by rw [HLR.out]; have := HK.out; omega) hk2
        have d0 := (hbv.cell hsz).trans d0
        have d2 := (hbv.cell hsz).trans d2
        have HBV := Lib.hid (HBZ.out.trans (hbv.mono HBZ.out.size))
        obtain ⟨hl, hhl⟩ : ∃ hl, Rg.hist L k k = hl := ⟨_, rfl⟩
        rw [hhl] at hline hoh
        obtain ⟨m, hm⟩ : ∃ m, hl.length = m := ⟨_, rfl⟩
        have hwf : ∀ x ∈ hl, (Lit.int .i64 x).wf = true := (fun x hx => by
          obtain ⟨i, hi, e⟩ := List.getElem_of_mem hx
          have h9 := hline.within i hi
          simp only [List.getD_eq_getElem?_getD, List.getElem?_eq_getElem hi, Option.getD_some] at h9
          rw [e, HLR.out] at h9
          simp [Lit.wf, IntKind.min, IntKind.max, IntKind.bits, IntKind.signed]; omega)
        have HLINE := Lib.hid hline
        have HM := Lib.hid hm.symm
        obtain ⟨gh, ch, rfl, _, _, _, _⟩ := hoh.rowg hm (by rw [← hm]; exact hline.pos)
        have hnh := hoh.numsG hwf
        clear hm hwf
        have HNH := Lib.hid hnh
        have hm1 : 1 ≤ m := by rw [HM.out]; exact hline.pos
        have hm9 : m ≤ 100 := by rw [HM.out]; have := hline.few; have := HK.out; omega
        obtain ⟨x0, HX0, hx0, _⟩ := hnh.valG (j := 0) (by omega)
        obtain rfl : x0 = (k : Int) := by rw [← HX0.out.1]; exact hline.first
        have gm : ((m : Int) == 0) = false := by simp; omega
        have i0 : (0 : Int) < (m : Int) := by omega
        have i00 : 0 < m := by omega
        clear hhl hline hoh hnh hbv hk2 hkd
        go_wp2_with fail
        go_quiet (fail)
        go_wp2_with fail
        obtain ⟨U, hU⟩ : ∃ U : World, V.drewN nq = U := ⟨_, rfl⟩
        have hbu : Below V.heap.size V U := by rw [← hU]; exact below_drewN (Below.refl _ _) _
        have HBU := Lib.hid (HBV.out.trans (hbu.mono HBV.out.size))
        have HNU := Lib.hid (HNH.out.keep hbu hbu.size)
        have HIU := Lib.hid (HI.out.keep HBU.out HBU.out.size)
        have HRU := Lib.hid (HRW3.out.keep HBU.out HBU.out.size)
        rw [hU]
        clear hU hbu hx0 HX0 d0 d2 i0 i00
        go_loop [52] (fun i => ∃ t : Nat, t ≤ m ∧ i = .int .i64 t) (fun i => m - (intOf i).toNat)
        case atStart => exact ⟨0, by omega, rfl⟩
        case round =>
          obtain ⟨t, ht, rfl⟩ := hrel
          by_cases hlt2 : t < m
          · obtain ⟨y, HY, hy, _⟩ := HNU.out.valG hlt2
            have hwy := HLINE.out.within t HY.out.2
            rw [HY.out.1, HLR.out] at hwy
            have gy1 : decide (y < 1) = false := decide_eq_false (by omega)
            have gy2 : decide ((nr : Int) < y) = false := decide_eq_false (by omega)
            rcases Nat.eq_zero_or_pos t with rfl | htp
            · clear hwy
              go_wp2_with fail
              go_loop [94] (fun i => ∃ q : Nat, q ≤ ni ∧ i = .int .i64 q) (fun i => ni - (intOf i).toNat)
              case atStart => exact ⟨0, by omega, rfl⟩
              case round =>
                obtain ⟨q, hq, rfl⟩ := hrel
                by_cases hlq : q < ni
                · obtain ⟨ad, x, rfl, _, HXI, hxi, _⟩ := HIU.out.val hlq
                  go_wp2_with fail
                  go_round
                  case rel => exact ⟨q + 1, by omega, by go_num⟩
                  case measure => simp [intOf]; omega
                · obtain rfl : ni = q := by omega
                  go_wp2_with fail
                  go_round
                  case rel => exact ⟨1, by omega, by go_num⟩
                  case measure => simp [intOf]; omega
            · obtain ⟨p, hp⟩ : ∃ p, t = p + 1 := ⟨t - 1, by omega⟩
              have et : (t : Int) - 1 = (p : Int) := by omega
              have gt1 : decide ((0 : Int) < (t : Int)) = true := decide_eq_true (by omega)
              have gt2 : decide (0 < t) = true := decide_eq_true htp
              obtain ⟨z, HZZ, hz, _⟩ := HNU.out.valG (j := p) (by omega)
              have hst := HLINE.out.step p (by have := HY.out.2; omega)
              have hwz := HLINE.out.within p HZZ.out.2
              rw [← hp, HY.out.1, HZZ.out.1] at hst
              rw [HZZ.out.1, HLR.out] at hwz
              obtain ⟨f, hf⟩ : ∃ f : Nat, z - 1 = (f : Int) := Int.eq_ofNat_of_zero_le (by omega)
              rw [hf, Int.toNat_natCast] at hst
              obtain ⟨g', num3, bef3, kind3, of3, out3, txt3, link3, e9, HX3, c0, c1, c2, c3, c4, c5, c6⟩ := HRU.out.val (j := f) (by omega)
              injection e9 with e9
              injection e9 with e9
              subst e9
              rw [HX3.out.1] at hst
              simp only at hst
              obtain ⟨hst1, rfl, hst3⟩ := hst
              have gz : decide (z ≤ of3) = false := decide_eq_false (by omega)
              have i1 : (0 : Int) ≤ (p : Int) := by omega
              have i2 : (p : Int) < (m : Int) := by omega
              have i3 : (0 : Int) ≤ (f : Int) := by omega
              have i4 : (f : Int) < (nr : Int) := by omega
              have HNOT := Lib.hid hst3
              have HP := Lib.hid hp
              clear hwy hst1 hst3 hwz hp c0 c1 c2 c4 c5 c6 htp
              go_wp2_with fail
              go_loop [94] (fun i => ∃ q : Nat, q ≤ ni ∧ i = .int .i64 q) (fun i => ni - (intOf i).toNat)
              case atStart => exact ⟨0, by omega, rfl⟩
              case round =>
                obtain ⟨q, hq, rfl⟩ := hrel
                by_cases hlq : q < ni
                · obtain ⟨ad, x, rfl, _, HXI, hxi, _⟩ := HIU.out.val hlq
                  have gx : (x == of3) = false := by
                    have hne : x ≠ of3 := fun e => HNOT.out (by
                      rw [← e, ← HXI.out.1, List.getD_eq_getElem?_getD, List.getElem?_eq_getElem HXI.out.2]
                      exact List.getElem_mem HXI.out.2)
                    simp [hne]
                  go_wp2_with fail
                  go_round
                  case rel => exact ⟨q + 1, by omega, by go_num⟩
                  case measure => simp [intOf]; omega
                · obtain rfl : ni = q := by omega
                  go_wp2_with fail
                  go_round
                  case rel => exact ⟨t + 1, by omega, by go_num⟩
                  case measure => simp [intOf]; omega
          · obtain rfl : m = t := by omega
            obtain ⟨p, hp⟩ : ∃ p, m = p + 1 := ⟨m - 1, by omega⟩
            have et : (m : Int) - 1 = (p : Int) := by omega
            obtain ⟨z, HZZ, hz, _⟩ := HNU.out.valG (j := p) (by omega)
            have hwz := HLINE.out.within p HZZ.out.2
            have hla := HLINE.out.last
            rw [← HM.out, show m - 1 = p by omega, HZZ.out.1] at hla
            rw [HZZ.out.1, HLR.out] at hwz
            obtain ⟨f, hf⟩ : ∃ f : Nat, z - 1 = (f : Int) := Int.eq_ofNat_of_zero_le (by omega)
            rw [hf, Int.toNat_natCast] at hla
            obtain ⟨g', num3, bef3, kind3, of3, out3, txt3, link3, e9, HX3, c0, c1, c2, c3, c4, c5, c6⟩ := HRU.out.val (j := f) (by omega)
            injection e9 with e9
            injection e9 with e9
            subst e9
            rw [HX3.out.1] at hla
            simp only at hla
            obtain rfl := hla
            have i1 : (0 : Int) ≤ (p : Int) := by omega
            have i2 : (p : Int) < (m : Int) := by omega
            have i3 : (0 : Int) ≤ (f : Int) := by omega
            have i4 : (f : Int) < (nr : Int) := by omega
            have HP := Lib.hid hp
            clear hwz hp c0 c1 c3 c4 c5 c6
            go_wp2_with fail
            go_roundw
            case rel => exact ⟨j + 1, by omega, by go_num, HBU.out⟩
            case measure => simp [intOf]; omega
    · obtain rfl : nr = j := by omega
      have HBY := Lib.hid (HB3.out.trans (HIY.out.mono HB3.out.size))
      go_wp2_with fail
      refine (awake38 Y).mono ?_; rintro e wz ⟨rfl, hbz⟩
      have HBW := Lib.hid (HBY.out.trans (hbz.mono HBY.out.size))
      go_wp2_with fail
      go_ret
      exact ⟨rfl, HBW.out⟩
end Go.Proofs.Ytojeendofpallaa
