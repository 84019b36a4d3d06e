/- Rounding: the example of the chapter. -/
import Derived.Test.YtgclljmchdlbeaaNm
namespace Go.Proofs.Ytgclljmchdlbeaa
open Go.RowKit
theorem Rd.awake_tb : Rd.Tb 2 2 [1, 1, 1, 2] 3 := ⟨by decide, by decide, by decide, by decide, by decide, by decide, by decide, by decide⟩
theorem Rd.awake_best : Rd.best 2 [1, 1, 1, 2] 3 = [0, 0, 0, 3] := by decide +kernel
theorem Rd.awake_check : (Rd.ok 3 [1, 1, 1, 2] [0, 0, 0, 3] 4 && Rd.fits 2 4 [1, 1, 1, 2] [0, 0, 0, 3] 3) = true := by decide +kernel
/-- a literal of four numbers -/
theorem lit4 (w W : World) (a b c d : Int) (hW : w.alloc (.cells #[.int .i64 a, .int .i64 b, .int .i64 c, .int .i64 d] 3 (0, 0)) = W) (h : ∀ x ∈ [a, b, c, d], -2000000 ≤ x ∧ x ≤ 2000000) : Nums W .i64 W.heap.size (some ⟨w.heap.size, 0, none⟩) 4 4 [a, b, c, d] ∧ Below w.heap.size w W := by
  subst hW
  exact ⟨(Own.lit (base := 0) (l := [a, b, c, d]) (heap_alloc_new _ _) (Nat.zero_le _) (by simp)).numsG (fun x hx => wf64s (h x hx)), (Below.refl _ _).alloc (Nat.le_refl _) _⟩
set_option maxRecDepth 100000 in
set_option maxHeartbeats 1600000 in
theorem awake34 (w : World) : Calls Try.prog 11 #[] w fun e w' => e = .returned (.bool true) ∧ Below w.heap.size w w' := by
  obtain ⟨W, hW⟩ : ∃ W, w.alloc (.cells #[.int .i64 1, .int .i64 1, .int .i64 1, .int .i64 2] 3 (0, 0)) = W := ⟨_, rfl⟩
  have L1 := Lib.hid (lit4 w W 1 1 1 2 hW (by decide))
  go_enter Try.func11, Try.ntmps11
  go_wp2_with fail
  refine (Rd.awake_tb.round _ 4 4 W L1.out.1).mono ?_; rintro e w1 ⟨v, rfl, hv, hb1⟩
  rw [Rd.awake_best] at hv
  obtain ⟨A, c, rfl, hn⟩ := hv.nums (fun x hx => wf64s (by revert x; decide))
  have HV := Lib.hid hn
  have HB1 := Lib.hid (L1.out.2.trans (hb1.mono L1.out.2.size))
  clear hW hv hb1 hn
  obtain ⟨X1, hX1⟩ : ∃ X1, w1.alloc (.cells #[.int .i64 1, .int .i64 1, .int .i64 1, .int .i64 2] 3 (0, 0)) = X1 := ⟨_, rfl⟩
  have e1 : w1.heap.size + 1 = X1.heap.size := by rw [← hX1]; simp
  have L2 := Lib.hid (lit4 w1 X1 1 1 1 2 hX1 (by decide))
  obtain ⟨X2, hX2⟩ : ∃ X2, X1.alloc (.cells #[.int .i64 0, .int .i64 0, .int .i64 0, .int .i64 3] 3 (0, 0)) = X2 := ⟨_, rfl⟩
  have L3 := Lib.hid (lit4 X1 X2 0 0 0 3 hX2 (by decide))
  go_wp2_with fail
  refine (check34 2 2 [1, 1, 1, 2] 3 Rd.awake_tb _ _ 4 4 4 [0, 0, 0, 3] (by decide) X2 (L2.out.1.keep L3.out.2 L3.out.2.size) L3.out.1).mono ?_; rintro e w2 ⟨rfl, hb2⟩
  rw [Rd.awake_check]
  have HB2 := Lib.hid (HB1.out.trans (((L2.out.2.trans (L3.out.2.mono L2.out.2.size)).trans (hb2.mono (Nat.le_trans L2.out.2.size L3.out.2.size))).mono HB1.out.size))
  have HV2 := Lib.hid (HV.out.keep ((L2.out.2.trans (L3.out.2.mono L2.out.2.size)).trans (hb2.mono (Nat.le_trans L2.out.2.size L3.out.2.size))) (Nat.le_trans (Nat.le_trans L2.out.2.size L3.out.2.size) hb2.size))
  clear hX1 hX2 e1 hb2
  obtain ⟨X3, hX3⟩ : ∃ X3, w2.alloc (.cells #[.int .i64 0, .int .i64 0, .int .i64 0, .int .i64 3] 3 (0, 0)) = X3 := ⟨_, rfl⟩
  have L4 := Lib.hid (lit4 w2 X3 0 0 0 3 hX3 (by decide))
  go_wp2_with fail
  refine (ints34 _ _ _ _ _ _ _ _ _ _ X3 (HV2.out.keep L4.out.2 L4.out.2.size) L4.out.1).mono ?_; rintro e w3 ⟨rfl, hb3⟩
  have HB3 := Lib.hid (HB2.out.trans ((L4.out.2.trans (hb3.mono L4.out.2.size)).mono HB2.out.size))
  have g1 : decide ([(0 : Int), 0, 0, 3] = [0, 0, 0, 3]) = true := by decide
  rw [g1]
  clear hX3 hb3 g1
  go_wp2_with fail
  go_ret
  exact ⟨rfl, HB3.out⟩
end Go.Proofs.Ytgclljmchdlbeaa
