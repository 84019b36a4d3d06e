/- lineage: the example that every law asks. -/
import Derived.Test.YtbjebknemkagiaaZq
namespace Go.Proofs.Ytbjebknemkagiaa
open Go.RowKit
theorem ints_b (A A' : Option Addr) (n c n' c' : Nat) (l l' : List Int) (B B' : Nat) (b : Bool) (w : World) (h : Nums w .i64 B A n c l) (h' : Nums w .i64 B' A' n' c' l') (hb : decide (l = l') = b) :
    Calls Try.prog 14 #[.slice A n c, .slice A' n' c'] w fun e w' => e = .returned (.bool b) ∧ Below w.heap.size w w' :=
  (ints_any A A' n c n' c' l l' B B' w h h').mono fun e w' ⟨he, m, hw⟩ => ⟨by rw [he, hb], by rw [hw]; exact below_drewN (Below.refl _ _) m⟩
theorem addr_add (g j : Nat) : (⟨g, 0, none⟩ : Addr).add j = ⟨g, j, none⟩ := by unfold Addr.add; by_cases h : j = 0 <;> simp [h]
/-- a literal -/
theorem lit_nums (w : World) (l : List Int) (hl : l.length ≤ 1000) (hw : ∀ x ∈ l, (Lit.int .i64 x).wf = true) :
    Nums (w.alloc (.cells (l.map (Value.int .i64)).toArray 3)) .i64 (w.alloc (.cells (l.map (Value.int .i64)).toArray 3)).heap.size (some ⟨w.heap.size, 0, none⟩) l.length l.length l :=
  ⟨rfl, Nat.le_refl _, by simp only [maxLen]; omega, fun _ => ⟨_, rfl, by simp, fun j hj => by
    rw [addr_add]
    unfold World.cell?
    simp only [heap_alloc_new]
    simp [List.getD, hj]⟩, hw, fun h => by cases h⟩
theorem lit_next (w : World) (o : Obj) (l : List Int) (hl : l.length ≤ 1000) (hw : ∀ x ∈ l, (Lit.int .i64 x).wf = true) :
    Nums ((w.alloc o).alloc (.cells (l.map (Value.int .i64)).toArray 3)) .i64 ((w.alloc o).alloc (.cells (l.map (Value.int .i64)).toArray 3)).heap.size (some ⟨w.heap.size + 1, 0, none⟩) l.length l.length l := by
  have := lit_nums (w.alloc o) l hl hw
  rwa [show (w.alloc o).heap.size = w.heap.size + 1 from by simp] at this
theorem lit_wf {l : List Int} (h : l.all (fun x => (Lit.int .i64 x).wf) = true) : ∀ x ∈ l, (Lit.int .i64 x).wf = true := fun x hx => List.all_eq_true.1 h x hx
set_option maxHeartbeats 800000 in
theorem awake15 (w : World) : Calls Try.prog 10 #[] w fun e w' => e = .returned (.bool true) ∧ Below w.heap.size w w' := by
  have L1 := Lib.hid (fun w => lit_nums w [3, 1, 3] (by decide) (lit_wf (by decide)))
  have L2 := Lib.hid (fun w => lit_nums w [1, 3] (by decide) (lit_wf (by decide)))
  have L3 := Lib.hid (fun w => lit_nums w [1] (by decide) (lit_wf (by decide)))
  have L4 := Lib.hid (fun w o => lit_next w o [2] (by decide) (lit_wf (by decide)))
  have L5 := Lib.hid (fun w => lit_nums w [1, 2] (by decide) (lit_wf (by decide)))
  have L6 := Lib.hid (fun w => lit_nums w [1, 1] (by decide) (lit_wf (by decide)))
  have L7 := Lib.hid (fun w => lit_nums w [4] (by decide) (lit_wf (by decide)))
  have L8 := Lib.hid (fun w o => lit_next w o [1, 4] (by decide) (lit_wf (by decide)))
  have S : ∀ (w : World) (o : Obj), Below w.heap.size w (w.alloc o) := fun w o => (Below.refl _ _).alloc (Nat.le_refl _) o
  have HS := Lib.hid S
  clear S
  go_enter Try.func10, Try.ntmps10
  go_wp2_with fail
  refine (of15 _ 3 3 [3, 1, 3] _ (L1.out w) (by omega)).mono ?_; rintro e w1 ⟨v1, rfl, hown1, hb1⟩
  have HB1 := Lib.hid ((HS.out w _).trans (hb1.mono (by simp)))
  rw [show Zs.of [3, 1, 3] = [1, 3] from by decide] at hown1
  obtain ⟨A1, c1, rfl, hn1⟩ := hown1.nums (lit_wf (by decide))
  have HN1 := Lib.hid hn1
  clear hown1 hb1 hn1
  go_wp2_with fail
  refine (ints_b A1 _ 2 c1 2 2 [1, 3] [1, 3] _ _ true _ (HN1.out.keep (HS.out _ _) (Nat.le_refl _)) (L2.out w1) (by decide)).mono ?_; rintro e w2 ⟨rfl, hb2⟩
  have HB2 := Lib.hid (HB1.out.trans (((HS.out w1 _).trans (hb2.mono (by simp))).mono HB1.out.size))
  clear hb2 HB1 HN1
  go_wp2_with fail
  refine (union15 _ 1 1 [1] _ 1 1 [2] _ ((L3.out w2).keep (HS.out _ _) (HS.out _ _).size) (L4.out w2 _) (by omega) (by omega)).mono ?_; rintro e w3 ⟨v3, rfl, hown3, hb3⟩
  have HB3 := Lib.hid (HB2.out.trans ((((HS.out w2 _).trans ((HS.out _ _).mono (by simp))).trans (hb3.mono (by simp; omega))).mono HB2.out.size))
  rw [show Zs.of ([1] ++ [2]) = [1, 2] from by decide] at hown3
  obtain ⟨A3, c3, rfl, hn3⟩ := hown3.nums (lit_wf (by decide))
  have HN3 := Lib.hid hn3
  clear hown3 hb3 hn3 HB2
  go_wp2_with fail
  refine (ints_b A3 _ 2 c3 2 2 [1, 2] [1, 2] _ _ true _ (HN3.out.keep (HS.out _ _) (Nat.le_refl _)) (L5.out w3) (by decide)).mono ?_; rintro e w4 ⟨rfl, hb4⟩
  have HB4 := Lib.hid (HB3.out.trans (((HS.out w3 _).trans (hb4.mono (by simp))).mono HB3.out.size))
  clear hb4 HB3 HN3
  go_wp2_with fail
  refine (valid15 _ 2 2 [1, 3] _ _ (L2.out w4)).mono ?_; rintro e w5 ⟨rfl, hb5⟩
  have HB5 := Lib.hid (HB4.out.trans (((HS.out w4 _).trans (hb5.mono (by simp))).mono HB4.out.size))
  clear hb5 HB4
  rw [show decide (Zs.Asc [1, 3]) = true from by decide]
  go_wp2_with fail
  refine (valid15 _ 2 2 [1, 1] _ _ (L6.out w5)).mono ?_; rintro e w6 ⟨rfl, hb6⟩
  have HB6 := Lib.hid (HB5.out.trans (((HS.out w5 _).trans (hb6.mono (by simp))).mono HB5.out.size))
  clear hb6 HB5
  rw [show decide (Zs.Asc [1, 1]) = false from by decide]
  go_wp2_with fail
  refine (has15 _ 1 1 [4] 4 _ _ (L7.out w6)).mono ?_; rintro e w7 ⟨rfl, hw7⟩
  have HB7 := Lib.hid (HB6.out.trans ((show Below w6.heap.size w6 w7 from hw7 ▸ HS.out w6 _).mono HB6.out.size))
  clear hw7 HB6
  rw [show decide ((4 : Int) ∈ [(4 : Int)]) = true from by decide]
  go_wp2_with fail
  refine (within15 _ 1 1 [4] _ 2 2 [1, 4] _ ((L7.out w7).keep (HS.out _ _) (HS.out _ _).size) (L8.out w7 _) (by omega) (by omega)).mono ?_; rintro e w8 ⟨rfl, hb8⟩
  have HB8 := Lib.hid (HB7.out.trans ((((HS.out w7 _).trans ((HS.out _ _).mono (by simp))).trans (hb8.mono (by simp; omega))).mono HB7.out.size))
  rw [show Zs.within [4] [1, 4] = true from by decide]
  clear hb8
  go_wp2_with fail
  go_ret
  exact ⟨rfl, HB8.out⟩
end Go.Proofs.Ytbjebknemkagiaa
