/- Rounding: the law of tables and bases that are multiplied. -/
import Derived.Test.YtgclljmchdlbeaaNo
namespace Go.Proofs.Ytgclljmchdlbeaa
open Go.RowKit
theorem Rd.mul (m n : Nat) (t : List Int) (b k : Int) (h : Rd.Tb m n t b) (hb : b ≤ 10) (ht : ∀ x ∈ t, x ≤ 29) (hk : 1 ≤ k) (hk2 : k ≤ 2) : Rd.Tb m n (t.map (k * ·)) (k * b) ∧ Rd.best n (t.map (k * ·)) (k * b) = (Rd.best n t b).map (k * ·) := by
  have hb1 := h.b1
  have hkb : 1 ≤ k * b ∧ k * b ≤ 20 := by rcases (show k = 1 ∨ k = 2 by omega) with rfl | rfl <;> omega
  refine ⟨⟨h.m1, h.m2, h.n1, h.n2, by rw [List.length_map]; exact h.len, hkb.1, hkb.2, fun x hx => ?_⟩, ?_⟩
  · obtain ⟨y, hy, rfl⟩ := List.mem_map.1 hx
    have h1 := h.sm y hy
    have h2 := ht y hy
    rcases (show k = 1 ∨ k = 2 by omega) with rfl | rfl <;> omega
  · have := Rd.find_mul (F := fun p => Rd.fits n t.length t p b) (G := fun p => Rd.fits n (t.map (k * ·)).length (t.map (k * ·)) p (k * b)) (b := b) (k := k) hk (fun p => by rw [List.length_map]; exact Rd.fits_mul n _ t p b k hk) (l := t) (p := [])
    unfold Rd.best
    rw [show Rd.find (fun p => Rd.fits n (t.map (k * ·)).length (t.map (k * ·)) p (k * b)) (k * b) [] (t.map (k * ·)) = _ from this]
    rcases Rd.find (fun p => Rd.fits n t.length t p b) b [] t with _ | r <;> rfl
/-- the first j numbers multiplied -/
def Rd.mulN (k : Int) (t : List Int) (j : Nat) : List Int := (t.take j).map (k * ·) ++ List.replicate (t.length - j) 0
theorem Rd.mulN_set (k : Int) (t : List Int) (j : Nat) (hj : j < t.length) : (Rd.mulN k t j).set j (k * t.getD j 0) = Rd.mulN k t (j + 1) := by
  unfold Rd.mulN
  obtain ⟨q, hq⟩ : ∃ q, t.length - j = q + 1 := ⟨t.length - j - 1, by omega⟩
  have h1 : ((t.take j).map (k * ·)).length = j := by rw [List.length_map, List.length_take]; omega
  rw [hq, List.set_append_right _ _ (by omega), h1, Nat.sub_self, List.replicate_succ, List.set_cons_zero, take_succ_getD t j hj, show t.length - (j + 1) = q by omega]
  simp
set_option maxRecDepth 100000 in
set_option maxHeartbeats 1600000 in
theorem walkScales (W : World) (A : Option Addr) (n c : Nat) (l : List Int) (h : Nums W .u8 W.heap.size A n c l) (x : Int) (hx0 : 0 ≤ x) (hx1 : x ≤ 255) :
    Calls Try.prog 6 #[.slice A n c, .int .u8 x] W fun e w => e = .returned (.bool true) ∧ Below W.heap.size W w := by
  have ht : x.tmod 2 = x % 2 := Int.tmod_eq_emod_of_nonneg hx0
  obtain ⟨k, hk⟩ : ∃ k, 1 + x % 2 = k := ⟨_, rfl⟩
  have hk1 : 1 ≤ k ∧ k ≤ 2 := by omega
  go_enter Try.func6, Try.ntmps6
  go_wp2_with fail
  refine (new_any A n c l W h).mono ?_; rintro e w1 ⟨rfl, hc1, hb1⟩
  have HB1 := Lib.hid hb1
  clear hb1
  go_wp2_with fail
  refine (table34 _ _ w1 hc1).mono ?_; rintro e w2 ⟨p, q, t, b, v, rfl, ho, HT, hc2, hg2⟩
  obtain ⟨A2, c2, rfl, hn⟩ := ho.nums (fun x hx => wf64s (by have := HT.out.1.sm x hx; omega))
  obtain ⟨N, hN⟩ : ∃ N, t.length = N := ⟨_, rfl⟩
  have HL := Lib.hid hN
  have hN9 : N ≤ 9 := by rw [← hN, HT.out.1.len]; exact HT.out.1.small
  rw [hN] at hn
  have HN := Lib.hid hn
  have HB2 := Lib.hid (below_cod34 HB1.out hg2 hc1.lt.2)
  clear hc1 hc2 hg2 ho hn
  rw [hN]
  clear hN
  go_wp2_with (at_make; refine make_ints _ rfl _ _ _ rfl w2.heap.size 3 8 .i64 int_info Try.underlying22 N rfl rfl (by simp only [maxLen]; omega) (by omega) (Nat.le_refl _) ?_; intro w3 hown hgrow)
  have HK := Lib.hid hk1
  have HO := Lib.hid (show Own w3 w2.heap.size 3 .i64 (.slice (some ⟨w2.heap.size, 0, none⟩) N N) (Rd.mulN k t 0) by unfold Rd.mulN; rw [HL.out]; simpa using hown)
  have hb23 : Below w2.heap.size w2 w3 := Own.below_grown hgrow (Nat.le_refl _)
  have HG := Lib.hid hb23
  clear hown hgrow hb23 hk ht
  go_loopw [34] (fun iv wr => ∃ j : Nat, j ≤ N ∧ iv = .int .i64 j ∧ Hid (Own wr w2.heap.size 3 .i64 (.slice (some ⟨w2.heap.size, 0, none⟩) N N) (Rd.mulN k t j) ∧ Below w2.heap.size w2 wr)) (fun iv _ => N - (intOf iv).toNat)
  case atStart => exact ⟨0, by omega, rfl, HO.out, HG.out⟩
  case round =>
    rename World => X
    obtain ⟨j, hj, rfl, HI⟩ := hrel
    by_cases hlt : j < N
    · obtain ⟨ad, y, rfl, hb0, HX, hx, _⟩ := (HN.out.keep HI.out.2 HI.out.2.size).val hlt
      have hy : 0 ≤ y ∧ y ≤ 29 := by
        rw [← HX.out.1]
        exact ⟨(HT.out.1.sm _ (getD_mem ⟨rfl, HX.out.2⟩)).1, HT.out.2.2 _ (getD_mem ⟨rfl, HX.out.2⟩)⟩
      obtain ⟨z, hz⟩ : ∃ z, k * y = z := ⟨_, rfl⟩
      have hz1 : 0 ≤ z ∧ z ≤ 58 := by
        rw [← hz]
        rcases (show k = 1 ∨ k = 2 by omega) with e | e <;> rw [e] <;> omega
      have hlen : (Rd.mulN k t j).length = N := by unfold Rd.mulN; rw [List.length_append, List.length_map, List.length_take, List.length_replicate, HL.out]; omega
      have c0 := HI.out.1.cell (j := j) (by omega)
      have f0 := HI.out.1.thaw j
      have HST := Lib.hid (HI.out.1.store j z)
      have HS := Lib.hid (show (Rd.mulN k t j).set j z = Rd.mulN k t (j + 1) by rw [← hz, ← HX.out.1]; exact Rd.mulN_set k t j HX.out.2)
      clear hlen hb0
      go_wp2_with fail
      go_roundw
      case rel => exact ⟨j + 1, by omega, by go_num, by have := HST.out.1; rwa [HS.out] at this, (HI.out.2.grown HST.out.2 HI.out.2.size (fun r e => by injection e with e; omega))⟩
      case measure => simp [intOf]; omega
    · obtain rfl : j = N := by omega
      have hfin : Rd.mulN k t j = t.map (k * ·) := by unfold Rd.mulN; rw [HL.out, Nat.sub_self, List.take_of_length_le (by rw [HL.out]; omega)]; simp
      have HM := Lib.hid (Rd.mul p q t b k HT.out.1 HT.out.2.1 HT.out.2.2 HK.out.1 HK.out.2)
      have hu := HI.out.1.numsG (by rw [hfin]; exact fun z hz => wf64s (by have := HM.out.1.sm z hz; omega))
      rw [hfin] at hu
      have HU := Lib.hid hu
      have HNX := Lib.hid (HN.out.keep HI.out.2 HI.out.2.size)
      have HBX := Lib.hid (HB2.out.trans (HI.out.2.mono HB2.out.size))
      clear hfin hu
      go_wp2_with fail
      refine (HT.out.1.round A2 _ c2 X HNX.out).mono ?_; rintro e w4 ⟨v, rfl, hv, hb4⟩
      have HR := Lib.hid (Rd.best_mem p q t b HT.out.1 HT.out.2.1 HT.out.2.2)
      have HRL := Lib.hid (Rd.best_sm p q t b HT.out.1 HT.out.2.1 HT.out.2.2).1
      obtain ⟨r, hr⟩ : ∃ r, Rd.best q t b = r := ⟨_, rfl⟩
      rw [hr] at hv HR HM HRL
      obtain ⟨A4, c4, rfl, hn⟩ := hv.nums (fun x hx => wf64s (by have := HR.out x hx; omega))
      rw [HRL.out, HL.out] at hn ⊢
      have HU2 := Lib.hid (HU.out.keep hb4 hb4.size)
      have HV := Lib.hid hn
      have HB4 := Lib.hid (HBX.out.trans (hb4.mono HBX.out.size))
      clear hv hn hb4 hr
      obtain ⟨kb, hkb⟩ : ∃ kb, k * b = kb := ⟨_, rfl⟩
      have hkb1 : 1 ≤ kb ∧ kb ≤ 20 := by rw [← hkb]; exact ⟨HM.out.1.b1, HM.out.1.b2⟩
      rw [hkb] at HM
      go_wp2_with fail
      refine (HM.out.1.round _ _ _ w4 HU2.out).mono ?_; rintro e w5 ⟨v, rfl, hv, hb5⟩
      rw [HM.out.2] at hv
      obtain ⟨A5, c5, rfl, hn⟩ := hv.nums (fun x hx => wf64s (by
        obtain ⟨y, hy, rfl⟩ := List.mem_map.1 hx
        have h1 := HR.out y hy
        rcases (show k = 1 ∨ k = 2 by have := HK.out; omega) with e | e <;> rw [e] <;> omega))
      rw [List.length_map, HRL.out, HL.out] at hn ⊢
      have HV2 := Lib.hid (HV.out.keep hb5 hb5.size)
      have HU3 := Lib.hid hn
      have HB5 := Lib.hid (HB4.out.trans (hb5.mono HB4.out.size))
      clear hv hn hb5 hkb
      go_wp2_with fail
      go_loopw [87] (fun iv wr => ∃ i : Nat, i ≤ j ∧ iv = .int .i64 i ∧ ∃ m, wr = w5.drewN m) (fun iv _ => j - (intOf iv).toNat)
      case atStart => exact ⟨0, by omega, rfl, 0, rfl⟩
      case round =>
        obtain ⟨i, hi, rfl, m, rfl⟩ := hrel
        by_cases hlt2 : i < j
        · obtain ⟨ad, y, rfl, _, HX, hx, _⟩ := HV2.out.val hlt2
          obtain ⟨ad', y', rfl, _, HX', hx', _⟩ := HU3.out.val hlt2
          have hy : y' = k * y := by rw [← HX.out.1, ← HX'.out.1]; exact Rd.getD_mul k r i
          have hym := HR.out y (getD_mem HX.out)
          have hyb : 0 ≤ y ∧ y ≤ 1000 := ⟨hym.1, hym.2.1⟩
          have hyk : 0 ≤ k * y ∧ k * y ≤ 2000 := by rcases (show k = 1 ∨ k = 2 by have := HK.out; omega) with e | e <;> rw [e] <;> omega
          have hz : k * y = y' := hy.symm
          rw [hz] at hyk
          have hb : (y' != y') = false := by simp
          clear hy hym
          go_wp2_with fail
          go_quiet (fail)
          go_wp2_with fail
          go_roundw
          case rel => exact ⟨i + 1, by omega, by go_num, _, rfl⟩
          case measure => simp [intOf]; omega
        · obtain rfl : i = j := by omega
          go_wp2_with fail
          refine (awake34 _).mono ?_; rintro e w8 ⟨rfl, hb8⟩
          have HB8 := Lib.hid ((below_drewN HB5.out m).trans (hb8.mono HB5.out.size))
          clear hb8
          go_wp2_with fail
          go_ret
          exact ⟨rfl, HB8.out⟩
end Go.Proofs.Ytgclljmchdlbeaa
