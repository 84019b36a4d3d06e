/- Samples: the example that every law asks; what the laws say of a person. -/
import Derived.Test.YtjeeobaiibhbaaaSl
namespace Go.Proofs.Ytjeeobaiibhbaaa
open Go.RowKit
theorem in_lit (p o s id : Int) (v : Bool) (h : Sm.inS p o s id = v) (w : World) :
    Calls Try.prog 16 #[.agg #[.int .i64 p, .int .i64 o, .int .i64 s], .int .i64 id] w fun e w' => e = .returned (.bool v) ∧ Below w.heap.size w w' := by
  rw [← h]; exact in11 p o s id w
theorem draw_lit (s id v : Int) (h : (Sm.draw s id : Int) = v) (w : World) :
    Calls Try.prog 21 #[.int .i64 s, .int .i64 id] w fun e w' => e = .returned (.int .i64 v) ∧ w = w' := by
  rw [← h]; exact draw11 s id w
/-- A row that stands written out in a block of its own. -/
theorem Nums.lit {w : World} {k : IntKind} {B g : Nat} (l : List Int) (hl : l.length ≤ 1000) (hg : g < B) (hc : ∀ j, j < l.length → w.cell? ⟨g, j, none⟩ = some (.int k (l.getD j 0))) (hw : ∀ x ∈ l, (Lit.int k x).wf = true) :
    Nums w k B (some ⟨g, 0, none⟩) l.length l.length l :=
  ⟨rfl, Nat.le_refl _, by simp only [maxLen]; omega, fun _ => ⟨_, rfl, hg, fun j hj => by
    have : (⟨g, 0, none⟩ : Addr).add j = ⟨g, j, none⟩ := by unfold Addr.add; by_cases h : j = 0 <;> simp [h]
    rw [this]; exact hc j hj⟩, hw, fun h => by cases h⟩
set_option maxRecDepth 100000 in
theorem awake11 (w : World) :
    Calls Try.prog 12 #[] w fun e w' => e = .returned (.bool true) ∧ Below w.heap.size w w' := by
  go_enter Try.func12, Try.ntmps12
  go_wp2_with fail
  refine (check11_v _ _ _ 0 (Lib.hid (by decide +kernel)) _).mono ?_; rintro e w1 ⟨rfl, hb1⟩
  go_wp2_with fail
  refine (in_lit _ _ _ _ true (by decide +kernel) _).mono ?_; rintro e w2 ⟨rfl, hb2⟩
  go_wp2_with fail
  refine (in_lit _ _ _ _ false (by decide +kernel) _).mono ?_; rintro e w3 ⟨rfl, hb3⟩
  have HB := Lib.hid (hb1.trans ((hb2.mono hb1.size).trans (hb3.mono (Nat.le_trans hb1.size hb2.size))))
  clear hb1 hb2 hb3
  go_wp2_with fail
  refine (draw_lit _ _ 2274765758 (by decide +kernel) _).mono ?_; rintro e w' ⟨rfl, rfl⟩
  go_wp2_with fail
  refine (draw_lit _ _ 391811781 (by decide +kernel) _).mono ?_; rintro e w' ⟨rfl, rfl⟩
  go_wp2_with fail
  obtain ⟨w4, hw4⟩ : ∃ w4 : World, w3.alloc (.cells #[.int .i64 5, .int .i64 0, .int .i64 4] 3) = w4 := ⟨_, rfl⟩
  have hn4 : Nums w4 .i64 w4.heap.size (some ⟨w3.heap.size, 0, none⟩) 3 3 [5, 0, 4] := by
    subst hw4
    refine Nums.lit [5, 0, 4] (by decide) (by simp) (fun j hj => ?_) (by decide)
    match j, hj with
    | 0, _ => simp [go_sem]
    | 1, _ => simp [go_sem]
    | 2, _ => simp [go_sem]
  have hb4 : Below w.heap.size w w4 := by subst hw4; exact HB.out.alloc HB.out.size _
  have HB4 := Lib.hid hb4
  clear hb4
  rw [hw4]
  clear hw4
  refine (chosen11 _ _ _ _ _ _ _ _ hn4 (by omega)).mono ?_; rintro e w5 ⟨v5, rfl, hown5, hb5⟩
  rw [show [5, 0, 4].filter (Sm.inS 1 1 0) = [5, 4] from by decide +kernel] at hown5
  obtain ⟨A5, c5, rfl, hn5⟩ := hown5.nums (by decide)
  have HN5 := Lib.hid hn5
  have HB5 := Lib.hid (HB4.out.trans (hb5.mono HB4.out.size))
  clear hn4 hown5 hn5 hb5
  go_wp2_with fail
  obtain ⟨w6, hw6⟩ : ∃ w6 : World, w5.alloc (.cells #[.int .i64 5, .int .i64 4] 3) = w6 := ⟨_, rfl⟩
  have hn6 : Nums w6 .i64 w6.heap.size (some ⟨w5.heap.size, 0, none⟩) 2 2 [5, 4] := by
    subst hw6
    refine Nums.lit [5, 4] (by decide) (by simp) (fun j hj => ?_) (by decide)
    match j, hj with
    | 0, _ => simp [go_sem]
    | 1, _ => simp [go_sem]
  have hn5 : Nums w6 .i64 w6.heap.size A5 2 c5 [5, 4] := by subst hw6; exact HN5.out.keep ((Below.refl _ _).alloc (Nat.le_refl _) _) (by simp)
  have HB6 := Lib.hid (show Below w.heap.size w w6 by subst hw6; exact HB5.out.alloc HB5.out.size _)
  first | rw [hw6] | skip
  clear hw6
  refine (ints_any _ _ _ _ _ _ _ _ _ _ _ hn5 hn6).mono ?_; rintro e w7 ⟨rfl, m, rfl⟩
  have hd : decide (([5, 4] : List Int) = [5, 4]) = true := by decide
  rw [hd]
  go_wp2_with fail
  go_ret
  exact ⟨rfl, below_drewN HB6.out m⟩
end Go.Proofs.Ytjeeobaiibhbaaa
