/- Cells: the law that Index leads back from At, walked. -/
import Derived.Test.YtojeendofpallaaCw
import Derived.Test.YtojeendofpallaaAft
namespace Go.Proofs.Ytojeendofpallaa
open Go.RowKit
def Ce.lastN (ss : List Int) : Nat → Int
  | 0 => 1
  | k + 1 => Ce.lastN ss k * ss.getD (ss.length - 1 - k) 0
theorem Ce.lastN_pos {ss : List Int} (h : ∀ j, j < ss.length → 1 ≤ ss.getD j 0) : ∀ k, k ≤ ss.length → 1 ≤ Ce.lastN ss k
  | 0, _ => Int.le_refl _
  | k + 1, hk => by
    have h1 := Ce.lastN_pos h k (by omega)
    have h2 := h (ss.length - 1 - k) (by omega)
    have := Int.mul_le_mul h1 h2 (by omega) (by omega)
    simpa [Ce.lastN] using this
theorem Ce.last_prod (ss : List Int) : ∀ k, k ≤ ss.length → Ce.prodN ss (ss.length - k) * Ce.lastN ss k = Ce.prodN ss ss.length
  | 0, _ => by simp [Ce.lastN]
  | k + 1, hk => by
    have h := Ce.last_prod ss k (by omega)
    rw [show ss.length - k = (ss.length - (k + 1)) + 1 by omega] at h
    rw [← h]
    simp only [Ce.prodN, Ce.lastN]
    rw [show ss.length - 1 - k = ss.length - (k + 1) by omega, Int.mul_assoc, Int.mul_comm (Ce.lastN ss k)]
theorem Ce.quo_last {ss : List Int} (h : ∀ j, j < ss.length → 1 ≤ ss.getD j 0) {c : Int} (hc : 0 ≤ c) : ∀ k, k ≤ ss.length → Ce.quoN ss c k * Ce.lastN ss k ≤ c
  | 0, _ => by simp [Ce.quoN, Ce.lastN]
  | k + 1, hk => by
    have h1 := Ce.quo_last h hc k (by omega)
    have h2 := h (ss.length - 1 - k) (by omega)
    have h3 := Ce.lastN_pos h k (by omega)
    simp only [Ce.quoN, Ce.lastN]
    have h4 := Int.ediv_mul_le (Ce.quoN ss c k) (show ss.getD (ss.length - 1 - k) 0 ≠ 0 by omega)
    have h5 := Int.mul_le_mul_of_nonneg_right h4 (show 0 ≤ Ce.lastN ss k by omega)
    refine Int.le_trans ?_ h1
    refine Int.le_trans (Int.le_of_eq ?_) h5
    rw [Int.mul_assoc, Int.mul_comm (Ce.lastN ss k)]
theorem Ce.quo_all {ss : List Int} (h : ∀ j, j < ss.length → 1 ≤ ss.getD j 0) {c : Int} (hc : 0 ≤ c) (hp : c < Ce.prodN ss ss.length) : Ce.quoN ss c ss.length = 0 := by
  have h1 := Ce.quo_last h hc ss.length (Nat.le_refl _)
  have h2 := Ce.last_prod ss ss.length (Nat.le_refl _)
  rw [Nat.sub_self] at h2
  have h3 := Ce.quoN_nonneg h hc ss.length
  rw [show Ce.prodN ss 0 = 1 from rfl, Int.one_mul] at h2
  rw [h2] at h1
  rcases Int.lt_or_le (Ce.quoN ss c ss.length) 1 with h4 | h4
  · omega
  · have := Int.mul_le_mul_of_nonneg_right h4 (show 0 ≤ Ce.prodN ss ss.length by omega)
    omega
theorem Ce.num_places {ss : List Int} (h : ∀ j, j < ss.length → 1 ≤ ss.getD j 0) {c : Int} (hc : 0 ≤ c) (hp : c < Ce.prodN ss ss.length) : ∀ j, j ≤ ss.length → Ce.numN ss (Ce.places ss c) j = Ce.quoN ss c (ss.length - j)
  | 0, _ => (Ce.quo_all h hc hp).symm
  | j + 1, hj => by
    have h1 := Ce.num_places h hc hp j (by omega)
    simp only [Ce.numN]
    rw [h1, Ce.places_get (show j < ss.length by omega), show ss.length - j = (ss.length - (j + 1)) + 1 by omega]
    simp only [Ce.quoN, Ce.place]
    rw [show ss.length - 1 - (ss.length - (j + 1)) = j by omega, show ss.length - 1 - j = ss.length - (j + 1) by omega]
    have := Int.emod_add_mul_ediv (Ce.quoN ss c (ss.length - (j + 1))) (ss.getD j 0)
    rw [Int.mul_comm] at this
    omega
theorem Sp.aft {w : World} {v : Value} {ss : List Int} (h : Sp w v ss) (x : Aft w) : Sp x.now v ss := h.keep x.below
theorem below_cod {w w1 w2 : World} (h : Below w.heap.size w w1) (hg : w1.grownBy w2 (some w.heap.size)) : Below w.heap.size w w2 := h.grown hg h.size (fun r e => by injection e with e; omega)
theorem Ce.back {ss : List Int} (h : Ce.Space ss) {c : Int} (hc : 0 ≤ c) (hp : c < Ce.prodN ss ss.length) : Ce.numN ss (Ce.places ss c) ss.length = c := by
  rw [Ce.num_places h.lo hc hp _ (Nat.le_refl _), Nat.sub_self]; rfl
set_option maxHeartbeats 1600000 in
set_option maxRecDepth 100000 in
theorem walkBack (W : World) (A : Option Addr) (n c : Nat) (l : List Int) (h : Nums W .u8 W.heap.size A n c l) :
    Calls Try.prog 4 #[.slice A n c] W fun e w => e = .returned (.bool true) ∧ Below W.heap.size W w := by
  go_enter Try.func4, Try.ntmps4
  go_wp2_with fail
  refine (new_any A n c l W h).mono ?_; rintro e w1 ⟨rfl, hc1, hb1⟩
  have HB1 := Lib.hid hb1
  clear hb1
  go_wp2_with fail
  refine (space9 _ _ w1 hc1).mono ?_; rintro e w2 ⟨v, ss, rfl, ho, hs, hc2, hg2⟩
  obtain ⟨m, hm⟩ : ∃ m, ss.length = m + 1 := ⟨ss.length - 1, by have := hs.pos; omega⟩
  have hm3 : m ≤ 3 := by have := hs.few; omega
  obtain ⟨g, cap, rfl, hgb, hgs, hcap, hcm⟩ := ho.rowg hm (by omega)
  have hbx : Below w2.heap.size w2 (w2.alloc (.cells #[.slice (some ⟨g, 0, none⟩) (m + 1) cap] 24)) := (Below.refl _ _).alloc (Nat.le_refl _) _
  have ho3 := ho.below hbx
  obtain ⟨X, hX⟩ : ∃ X : World, w2.alloc (.cells #[.slice (some ⟨g, 0, none⟩) (m + 1) cap] 24) = X := ⟨_, rfl⟩
  have k0 : X.cell? ⟨w2.heap.size, 0, none⟩ = some (.slice (some ⟨g, 0, none⟩) (m + 1) cap) := by rw [← hX]; simp [go_sem]
  rw [hX] at ho3 hbx
  have k1 := ho3.cell (j := m) (by omega)
  have HSP := Lib.hid (show Sp X (.agg #[.slice (some ⟨g, 0, none⟩) (m + 1) cap]) ss from ⟨⟨_, _, _, rfl, ho3.numsG (Ce.space_wf hs)⟩, hs⟩)
  have HB2 := Lib.hid ((below_cod HB1.out hg2).trans (hbx.mono (below_cod HB1.out hg2).size))
  have HM := Lib.hid hm
  have l0 := hs.lo m (by omega)
  have l1 := hs.hi m (by omega)
  obtain ⟨last, hlast⟩ : ∃ x, ss.getD m 0 = x := ⟨_, rfl⟩
  rw [hlast] at k1 l0 l1
  have HLAST := Lib.hid hlast
  have HPB := Lib.hid (hs.bd (Nat.le_refl _))
  clear ho ho3 hs hc1 hc2 hg2 hm hgb hgs hbx hlast
  go_wp2_with fail
  clear hX
  go_loopw [5] (fun i wr => ∃ k : Nat, (k : Int) ≤ Ce.prodN ss ss.length ∧ i = .int .i64 k ∧ Hid (Below X.heap.size X wr)) (fun i _ => (Ce.prodN ss ss.length - intOf i).toNat)
  case atStart => exact ⟨0, by have := HPB.out; omega, rfl, Below.refl _ _⟩
  case round =>
    rename World => Y
    obtain ⟨k, hk, rfl, HI⟩ := hrel
    have q0 := below_cell HI.out k0
    go_wp2_with fail
    refine (rcount28 _ ss Y (HSP.out.keep HI.out)).mono ?_; rintro e Y1 ⟨rfl, hb1⟩
    have q0 := below_cell hb1 q0
    have HI1 := Lib.hid (HI.out.trans (hb1.mono HI.out.size))
    clear hb1
    by_cases hlt : (k : Int) < Ce.prodN ss ss.length
    · have d1 : decide ((k : Int) < Ce.prodN ss ss.length) = true := by simpa using hlt
      have HLT := Lib.hid hlt
      clear hlt
      go_wp2_with fail
      refine (at28 _ ss k Y1 (HSP.out.keep HI1.out) (by omega) HLT.out).mono ?_; rintro e Y2 ⟨u, rfl, ho, hb2⟩
      obtain ⟨ga, ca, rfl, _, _, _, _⟩ := ho.rowg ((Ce.places_len ss k).trans HM.out) (by omega)
      have q0 := below_cell hb2 q0
      have HI2 := Lib.hid (HI1.out.trans (hb2.mono HI1.out.size))
      have HN := Lib.hid (ho.numsG (Ce.places_wf HSP.out.ok k))
      clear ho hb2
      go_wp2_with fail
      refine (index28 _ ss _ _ _ _ Y2 (HSP.out.keep HI2.out) HN.out (Ce.places_len ss k) (fun j hj => by rw [Ce.places_get hj]; exact Ce.place_bd HSP.out.ok.lo k hj)).mono ?_; rintro e Y3 ⟨rfl, hb3⟩
      rw [Ce.back HSP.out.ok (by omega) HLT.out]
      have q0 := below_cell hb3 q0
      have HI3 := Lib.hid (HI2.out.trans (hb3.mono HI2.out.size))
      obtain ⟨x, HX, hx, _⟩ := (HN.out.keep hb3 hb3.size).valG (j := m) (by omega)
      have hxk : x = (k : Int) % last := by
        rw [← HX.out.1, Ce.places_get (by rw [HM.out]; omega)]
        unfold Ce.place
        rw [HLAST.out, HM.out, show m + 1 - 1 - m = 0 by omega]; rfl
      subst hxk
      have k48 : (k : Int) ≤ 48 := by have := HPB.out; omega
      clear hb3
      go_wp2_with fail
      go_quiet (fail)
      go_wp2_with fail
      go_roundw
      case rel => exact ⟨k + 1, by have := HLT.out; omega, by go_num, below_drewN HI3.out _⟩
      case measure => have := HLT.out; simp [intOf]; omega
    · have d1 : decide ((k : Int) < Ce.prodN ss ss.length) = false := by simpa using hlt
      clear hlt
      go_wp2_with fail
      have HSY := Lib.hid (HSP.out.keep HI1.out)
      have c9 := Aft.cell q0
      clear q0 k0 k1
      refine wp_region_aft (by kernel_rfl) (by kernel_rfl) ?_
      repeat (go_big_quiet_step (first | with_reducible exact Calls.aft (count28 _ ss _ (HSY.out.aft _)) | with_reducible exact Calls.aft (rcount28 _ ss _ (HSY.out.aft _)) | with_reducible exact Calls.aft (awake28 _)))
      refine wpQuiet_nil ?_
      rintro w9 ⟨⟨_, hb9⟩, rfl⟩
      have HB9 := Lib.hid hb9
      clear hb9
      go_wp2
      go_ret
      exact ⟨rfl, HB2.out.trans ((HI1.out.trans (HB9.out.mono HI1.out.size)).mono HB2.out.size)⟩
end Go.Proofs.Ytojeendofpallaa
