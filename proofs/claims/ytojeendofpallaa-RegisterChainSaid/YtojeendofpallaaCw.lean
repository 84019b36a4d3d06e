/- Cells: the example that every law asks. -/
import Derived.Test.YtojeendofpallaaCv
namespace Go.Proofs.Ytojeendofpallaa
open Go.RowKit
/-- numbers that were written out -/
theorem Nums.litH {w : World} {k : IntKind} {g : Nat} {l : List Int} {t : TypeId} {fr : Nat × Nat} (h : w.heap[g]? = some (.cells (l.map (Value.int k)).toArray t fr)) (hl : l.length ≤ 1000) (hw : ∀ x ∈ l, (Lit.int k x).wf = true) {B : Nat} (hB : g < B) : Nums w k B (some ⟨g, 0, none⟩) l.length l.length l :=
  ⟨rfl, Nat.le_refl _, by simp only [maxLen]; omega, fun _ => ⟨_, rfl, hB, fun j hj => by rw [addr_zero]; simp [World.cell?, h, List.getD, hj]⟩, hw, fun h => by cases h⟩
theorem grownBy_below {w w' : World} (h : w.grownBy w' none) : Below w.heap.size w w' := (Below.refl _ _).grown h (Nat.le_refl _) (fun r e => by cases e)
theorem Ce.space23 : Ce.Space [2, 3] := Ce.nth_space (i := 3) (by omega)
theorem Ce.num01 : Ce.Numbered [0, 1] := ⟨fun j hj => by (rcases (show j = 0 ∨ j = 1 by simp at hj; omega) with rfl | rfl) <;> decide, fun j hj => by (rcases (show j = 0 ∨ j = 1 by simp at hj; omega) with rfl | rfl) <;> decide, by decide⟩
theorem Ce.num001 : Ce.Numbered [0, 0, 1] := ⟨fun j hj => by (rcases (show j = 0 ∨ j = 1 ∨ j = 2 by simp at hj; omega) with rfl | rfl | rfl) <;> decide, fun j hj => by (rcases (show j = 0 ∨ j = 1 ∨ j = 2 by simp at hj; omega) with rfl | rfl | rfl) <;> decide, by decide⟩
theorem Ce.view23 : Ce.View [2, 3] [[0, 1], [0, 0, 1]] := ⟨rfl, fun j hj => by (rcases (show j = 0 ∨ j = 1 by simp at hj; omega) with rfl | rfl) <;> decide, fun j hj => by
  rcases (show j = 0 ∨ j = 1 by simp at hj; omega) with rfl | rfl
  · exact Ce.num01
  · exact Ce.num001⟩
theorem awake_world (w : World) : ∃ W : World, (((((((w).alloc (.cells #[.int .i64 2, .int .i64 3] 3)).alloc (.cells #[.slice (some ⟨w.heap.size, 0, none⟩) 2 2] 24)).alloc (.cells #[.int .i64 0, .int .i64 1] 3)).alloc (.cells #[.int .i64 0, .int .i64 0, .int .i64 1] 3)).alloc (.cells #[.slice (some ⟨w.heap.size + 1 + 1, 0, none⟩) 2 2, .slice (some ⟨w.heap.size + 1 + 1 + 1, 0, none⟩) 3 3] 22)).alloc (.cells #[.slice (some ⟨w.heap.size + 1 + 1 + 1 + 1, 0, none⟩) 2 2] 27)).alloc (.cells #[.int .i64 1, .int .i64 0] 3) = W ∧ Below w.heap.size w W ∧ W.heap.size = w.heap.size + 7 ∧ Sp W (.agg #[.slice (some ⟨w.heap.size, 0, none⟩) 2 2]) [2, 3] ∧ Vw W (.agg #[.slice (some ⟨w.heap.size + 1 + 1 + 1 + 1, 0, none⟩) 2 2]) [2, 3] [[0, 1], [0, 0, 1]] ∧
    Nums W .i64 W.heap.size (some ⟨w.heap.size + 1 + 1 + 1 + 1 + 1 + 1, 0, none⟩) 2 2 [1, 0] ∧ W.cell? ⟨w.heap.size + 1, 0, none⟩ = some (.slice (some ⟨w.heap.size, 0, none⟩) 2 2) ∧ W.cell? ⟨w.heap.size + 1 + 1 + 1 + 1 + 1, 0, none⟩ = some (.slice (some ⟨w.heap.size + 1 + 1 + 1 + 1, 0, none⟩) 2 2) := by
  have hh := allocs_heap w [.cells #[.int .i64 2, .int .i64 3] 3, .cells #[.slice (some ⟨w.heap.size, 0, none⟩) 2 2] 24, .cells #[.int .i64 0, .int .i64 1] 3, .cells #[.int .i64 0, .int .i64 0, .int .i64 1] 3, .cells #[.slice (some ⟨w.heap.size + 1 + 1, 0, none⟩) 2 2, .slice (some ⟨w.heap.size + 1 + 1 + 1, 0, none⟩) 3 3] 22, .cells #[.slice (some ⟨w.heap.size + 1 + 1 + 1 + 1, 0, none⟩) 2 2] 27, .cells #[.int .i64 1, .int .i64 0] 3]
  have hsz : (World.heap ((((((((w).alloc (.cells #[.int .i64 2, .int .i64 3] 3)).alloc (.cells #[.slice (some ⟨w.heap.size, 0, none⟩) 2 2] 24)).alloc (.cells #[.int .i64 0, .int .i64 1] 3)).alloc (.cells #[.int .i64 0, .int .i64 0, .int .i64 1] 3)).alloc (.cells #[.slice (some ⟨w.heap.size + 1 + 1, 0, none⟩) 2 2, .slice (some ⟨w.heap.size + 1 + 1 + 1, 0, none⟩) 3 3] 22)).alloc (.cells #[.slice (some ⟨w.heap.size + 1 + 1 + 1 + 1, 0, none⟩) 2 2] 27)).alloc (.cells #[.int .i64 1, .int .i64 0] 3))).size = w.heap.size + 7 := by simp
  refine ⟨_, rfl, (grownBy_below (by repeat (first | exact World.grownBy_alloc _ _ none | refine World.grownBy.trans ?_ (World.grownBy_alloc _ _ none)))), hsz, ⟨⟨_, _, _, rfl, Nums.litH (l := [2, 3]) (alloc_at hh _ 0 rfl) (by simp) (by decide) (by rw [hsz]; omega)⟩, Ce.space23⟩, ⟨⟨_, _, _, rfl, ⟨rfl, Nat.le_refl _, by simp [maxLen], fun _ => ⟨_, rfl, by rw [hsz]; simp, fun j hj => ?_⟩⟩⟩, Ce.view23⟩, Nums.litH (l := [1, 0]) (alloc_at hh _ 6 rfl) (by simp) (by decide) (by rw [hsz]; omega), alloc_cell hh _ 1 rfl _ rfl, alloc_cell hh _ 5 rfl _ rfl⟩
  rcases (show j = 0 ∨ j = 1 by omega) with rfl | rfl
  · exact ⟨_, _, _, alloc_cell hh _ 4 rfl _ rfl, Nums.litH (l := [0, 1]) (alloc_at hh _ 2 rfl) (by simp) (by decide) (by rw [hsz]; omega)⟩
  · exact ⟨_, _, _, alloc_cell hh _ 4 rfl _ rfl, Nums.litH (l := [0, 0, 1]) (alloc_at hh _ 3 rfl) (by simp) (by decide) (by rw [hsz]; omega)⟩
set_option maxHeartbeats 1600000 in
theorem awake28 (w : World) : Calls Try.prog 14 #[] w fun e w' => e = .returned (.bool true) ∧ Below w.heap.size w w' := by
  obtain ⟨W, hW, hb, hsz, hsp, hvw, hxs, k1, k5⟩ := awake_world w
  have HB := Lib.hid hb
  have HSP := Lib.hid hsp
  have HVW := Lib.hid hvw
  have HX := Lib.hid hxs
  clear hb hsz hsp hvw hxs
  go_enter Try.func14, Try.ntmps14
  go_wp2_with fail
  clear hW
  refine (index28 _ _ _ _ _ _ W HSP.out HX.out rfl (fun j hj => by (rcases (show j = 0 ∨ j = 1 by simp at hj; omega) with rfl | rfl) <;> decide)).mono ?_; rintro e w1 ⟨rfl, hb1⟩
  rw [show Ce.numN [2, 3] [1, 0] ([2, 3] : List Int).length = 3 by decide]
  have k1 := below_cell hb1 k1
  have k5 := below_cell hb1 k5
  have HB1 := Lib.hid (HB.out.trans (hb1.mono HB.out.size))
  have HSP1 := Lib.hid (HSP.out.keep hb1)
  have HVW1 := Lib.hid (HVW.out.keep hb1)
  clear hb1
  go_wp2_with fail
  refine (members28 _ _ _ _ 6 0 w1 HSP1.out HVW1.out (by decide) (by decide) (by decide)).mono ?_; rintro e w2 ⟨u, rfl, hown, hb2⟩
  rw [show Ce.memb (Ce.ownf [2, 3] [[0, 1], [0, 0, 1]]) 0 6 = [0, 1] by decide] at hown
  obtain ⟨g2, c2, rfl, _, _, _, _⟩ := hown.rowg (n := 2) rfl (by omega)
  have HN2 := Lib.hid (hown.numsG (by decide))
  have k1 := below_cell hb2 k1
  have k5 := below_cell hb2 k5
  have HB2 := Lib.hid (HB1.out.trans (hb2.mono HB1.out.size))
  have HSP2 := Lib.hid (HSP1.out.keep hb2)
  have HVW2 := Lib.hid (HVW1.out.keep hb2)
  clear hb2 hown
  go_wp2_with fail
  have hbA : Below w2.heap.size w2 (w2.alloc (.cells #[.int .i64 1, .int .i64 2, .int .i64 3, .int .i64 4, .int .i64 5, .int .i64 6] 3)) := (Below.refl _ _).alloc (Nat.le_refl _) _
  have HA := Lib.hid (Nums.litH (k := .i64) (l := [1, 2, 3, 4, 5, 6]) (heap_alloc_new w2 (.cells #[.int .i64 1, .int .i64 2, .int .i64 3, .int .i64 4, .int .i64 5, .int .i64 6] 3)) (by simp) (by decide) (B := (w2.alloc (.cells #[.int .i64 1, .int .i64 2, .int .i64 3, .int .i64 4, .int .i64 5, .int .i64 6] 3)).heap.size) (by simp))
  refine (publish28 _ _ _ _ 6 4 _ 6 6 [1, 2, 3, 4, 5, 6] _ (HSP2.out.keep hbA) (HVW2.out.keep hbA) (by decide) (by decide) HA.out rfl (fun j hj => by (rcases (show j = 0 ∨ j = 1 ∨ j = 2 ∨ j = 3 ∨ j = 4 ∨ j = 5 by simp at hj; omega) with rfl | rfl | rfl | rfl | rfl | rfl) <;> decide)).mono ?_; rintro e w3 ⟨u, rfl, hown, hb3⟩
  rw [show Ce.pubs (Ce.ownf [2, 3] [[0, 1], [0, 0, 1]]) [1, 2, 3, 4, 5, 6] 4 6 = [3, 3, 9, 6] by decide] at hown
  obtain ⟨g3, c3, rfl, _, _, _, _⟩ := hown.rowg (n := 4) rfl (by omega)
  have HN3 := Lib.hid (hown.numsG (by decide))
  have hb23 := hbA.trans (hb3.mono hbA.size)
  have HB3 := Lib.hid (HB2.out.trans (hb23.mono HB2.out.size))
  have HN23 := Lib.hid (HN2.out.keep hb23 hb23.size)
  clear hbA hown hb3 hb23 k1 k5
  go_wp2_with fail
  have hbB : Below w3.heap.size w3 (w3.alloc (.cells #[.int .i64 0, .int .i64 1] 3)) := (Below.refl _ _).alloc (Nat.le_refl _) _
  refine (ints28 _ _ _ _ _ _ [0, 1] [0, 1] _ _ _ (HN23.out.keep hbB hbB.size) (Nums.litH (k := .i64) (l := [0, 1]) (heap_alloc_new w3 (.cells #[.int .i64 0, .int .i64 1] 3)) (by simp) (by decide) (B := (w3.alloc (.cells #[.int .i64 0, .int .i64 1] 3)).heap.size) (by simp))).mono ?_; rintro e w4 ⟨rfl, hb4⟩
  have hb34 := hbB.trans (hb4.mono hbB.size)
  have HB4 := Lib.hid (HB3.out.trans (hb34.mono HB3.out.size))
  have HN34 := Lib.hid (HN3.out.keep hb34 hb34.size)
  clear hbB hb4 hb34
  rw [show decide (([0, 1] : List Int) = [0, 1]) = true by decide]
  go_wp2_with fail
  have hbC : Below w4.heap.size w4 (w4.alloc (.cells #[.int .i64 3, .int .i64 3, .int .i64 9, .int .i64 6] 3)) := (Below.refl _ _).alloc (Nat.le_refl _) _
  refine (ints28 _ _ _ _ _ _ [3, 3, 9, 6] [3, 3, 9, 6] _ _ _ (HN34.out.keep hbC hbC.size) (Nums.litH (k := .i64) (l := [3, 3, 9, 6]) (heap_alloc_new w4 (.cells #[.int .i64 3, .int .i64 3, .int .i64 9, .int .i64 6] 3)) (by simp) (by decide) (B := (w4.alloc (.cells #[.int .i64 3, .int .i64 3, .int .i64 9, .int .i64 6] 3)).heap.size) (by simp))).mono ?_; rintro e w5 ⟨rfl, hb5⟩
  have HB5 := Lib.hid (HB4.out.trans ((hbC.trans (hb5.mono hbC.size)).mono HB4.out.size))
  clear hbC hb5
  rw [show decide (([3, 3, 9, 6] : List Int) = [3, 3, 9, 6]) = true by decide]
  go_wp2_with fail
  go_ret
  exact ⟨rfl, HB5.out⟩
end Go.Proofs.Ytojeendofpallaa
