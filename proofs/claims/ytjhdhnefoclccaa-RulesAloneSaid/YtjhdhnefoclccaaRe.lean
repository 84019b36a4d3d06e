/- rules.Breaches of a table; the example that every law asks. -/
import Derived.Test.YtjhdhnefoclccaaRd
import Derived.Laws.Rows
namespace Go.Proofs.Ytjhdhnefoclccaa
open Go.RowKit
structure Bx (w : World) (q : Nat) (a b : Int) (A : Option Addr) (n c : Nat) : Prop where
  r : w.heap[q]? = some (.cells #[.int .i64 a, .int .i64 b, .int .i64 0, .int .i64 0] 49)
  v : w.heap[q + 1]? = some (.cells #[.int .i64 2, .int .i64 0, .int .i64 0, .slice none 0 0, .int .i64 0, .slice A n c, .int .i64 0, .slice none 0 0, .slice none 0 0, .int .i64 0, .int .i64 0, .int .i64 0, .int .i64 0, .int .i64 0, .int .i64 0, .slice none 0 0, .slice none 0 0, .int .i64 0, .int .i64 0, .int .i64 0, .int .i64 0, .int .i64 0, .int .i64 0, .slice none 0 0] 70)
theorem Bx.keep {w w' : World} {q : Nat} {a b : Int} {A : Option Addr} {n c : Nat} (h : Bx w q a b A n c) (hb : Below w.heap.size w w') : Bx w' q a b A n c :=
  ⟨(hb.block _ (heap_lt h.r)).trans h.r, (hb.block _ (heap_lt h.v)).trans h.v⟩
theorem Bx.cells {w : World} {q : Nat} {a b : Int} {A : Option Addr} {n c : Nat} (h : Bx w q a b A n c) : w.cell? ⟨q, 0, none⟩ = some (.int .i64 a) ∧ w.cell? ⟨q, 1, none⟩ = some (.int .i64 b) ∧ w.cell? ⟨q, 2, none⟩ = some (.int .i64 0) ∧ w.cell? ⟨q, 3, none⟩ = some (.int .i64 0) ∧ w.cell? ⟨q + 1, 0, none⟩ = some (.int .i64 2) :=
  ⟨heap_cell h.r rfl, heap_cell h.r rfl, heap_cell h.r rfl, heap_cell h.r rfl, heap_cell h.v rfl⟩
theorem Rl.us_ok {L : List Rl.Row} (h : ∀ p ∈ L, Rl.ok p) : ∀ x ∈ Rl.us L, 0 ≤ x ∧ x ≤ 20000000 := fun x hx => by
  unfold Rl.us at hx
  obtain ⟨p, hp, hx⟩ := List.mem_flatMap.1 hx
  obtain ⟨h1, h2, h3, h4⟩ := h p hp
  simp only [List.mem_cons, List.not_mem_nil, or_false] at hx
  rcases hx with rfl | rfl | rfl | rfl
  · exact h1
  · exact h2
  · exact h3
  · exact h4
def GivesBre (L : List (Int × Int)) (w : World) (e : Ending) (w' : World) : Prop := ∃ v, e = .returned (.tuple #[v, .int .i64 0]) ∧ Own2 w' w.heap.size 72 v L ∧ Below w.heap.size w w'
set_option maxRecDepth 100000 in
set_option maxHeartbeats 1600000 in
theorem bre27 (a b : Int) (a1 : 1 ≤ a) (a2 : a ≤ 100) (b1 : 1 ≤ b) (b2 : b ≤ 100) (A : Option Addr) (n c : Nat) (L : List Rl.Row) (w : World) (h : Tcs w A n L) (hn : n ≤ 10) (hok : ∀ p ∈ L, Rl.ok p) :
    Calls Try.prog 26 #[.agg #[.int .i64 a, .int .i64 b, .int .i64 0, .int .i64 0], .agg (Rl.tvc A n c)] w (GivesBre (Rl.br a b L n) w) := by
  unfold Rl.tvc
  obtain ⟨W, hW⟩ : ∃ W : World, (w.alloc (.cells #[.int .i64 a, .int .i64 b, .int .i64 0, .int .i64 0] 49)).alloc (.cells #[.int .i64 2, .int .i64 0, .int .i64 0, .slice none 0 0, .int .i64 0, .slice A n c, .int .i64 0, .slice none 0 0, .slice none 0 0, .int .i64 0, .int .i64 0, .int .i64 0, .int .i64 0, .int .i64 0, .int .i64 0, .slice none 0 0, .slice none 0 0, .int .i64 0, .int .i64 0, .int .i64 0, .int .i64 0, .int .i64 0, .int .i64 0, .slice none 0 0] 70) = W := ⟨_, rfl⟩
  obtain ⟨q, hq⟩ : ∃ q, w.heap.size = q := ⟨_, rfl⟩
  have hbw : Below w.heap.size w W := by rw [← hW]; exact ((Below.refl _ _).alloc (Nat.le_refl _) _).alloc (by simp) _
  have hbx : Bx W q a b A n c := by
    refine ⟨?_, ?_⟩
    · rw [← hW, ← hq]; exact (heap_alloc_old _ _ (by simp)).trans (heap_alloc_new _ _)
    · rw [← hW, show q + 1 = (w.alloc (.cells #[.int .i64 a, .int .i64 b, .int .i64 0, .int .i64 0] 49)).heap.size from by simp; omega]
      exact heap_alloc_new _ _
  have HWE := Lib.hid hW
  have HT := Lib.hid (h.keep hbw)
  have HBW := Lib.hid hbw
  have HOK := Lib.hid hok
  have HX := Lib.hid hbx
  have HUS := Lib.hid (Rl.us_ok hok)
  have ⟨r0, r1, r2, r3, v0⟩ := hbx.cells
  clear h hbw hW hok hbx
  go_enter Try.func26, Try.ntmps26
  go_wp2_with fail
  rw [HWE.out]
  refine (check27 a b a1 a2 b1 b2 W).mono ?_; rintro e w1 ⟨rfl, hb1⟩
  have HX1 := Lib.hid (HX.out.keep hb1)
  have HT1 := Lib.hid (HT.out.keep hb1)
  have HB1 := Lib.hid (HBW.out.trans (hb1.mono HBW.out.size))
  clear r0 r1 r2 r3 v0 HX HT hb1
  have ⟨r0, r1, r2, r3, v0⟩ := HX1.out.cells
  go_wp2_with (first | (refine wpList_load_row rfl 70 (.tmp 3) rfl (q + 1) rfl 70 _ (0, 0) _ HX1.out.v Try.underlying70 rfl (by kernel_rfl) ?_) | fail)
  have HTM := Lib.hid (tooMany27 A n c hn w1)
  unfold Rl.tvc at HTM
  refine HTM.out.mono ?_; rintro e w2 ⟨rfl, hb2⟩
  have HX2 := Lib.hid (HX1.out.keep hb2)
  have HT2 := Lib.hid (HT1.out.keep hb2)
  have HB2 := Lib.hid (HB1.out.trans (hb2.mono HB1.out.size))
  clear r0 r1 r2 r3 v0 HX1 HT1 hb2 HTM
  have ⟨r0, r1, r2, r3, v0⟩ := HX2.out.cells
  go_wp2_with (first | (refine wpList_load_row rfl 70 (.tmp 3) rfl (q + 1) rfl 70 _ (0, 0) _ HX2.out.v Try.underlying70 rfl (by kernel_rfl) ?_) | fail)
  have HTM := Lib.hid (used27 A n c L w2 HT2.out hn HOK.out)
  unfold Rl.tvc at HTM
  refine HTM.out.mono ?_; rintro e w3 ⟨u, rfl, hown, hb3⟩
  obtain ⟨U, N, cu, rfl, hN, hnu⟩ : ∃ U N cu, u = .slice U N cu ∧ Hid (N = (Rl.us L).length) ∧ Nums w3 .i64 w3.heap.size U N cu (Rl.us L) := by
    obtain ⟨U, cu, hv, hnn⟩ := hown.nums (fun x hx => wf_i64 (by have := HUS.out x hx; omega))
    exact ⟨U, _, cu, hv, Lib.hid rfl, hnn⟩
  have HNU := Lib.hid hnu
  have HX3 := Lib.hid (HX2.out.keep hb3)
  have HT3 := Lib.hid (HT2.out.keep hb3)
  have HB3 := Lib.hid (HB2.out.trans (hb3.mono HB2.out.size))
  have HANY := Lib.hid (show (Rl.us L).any Rl.out = false by
    rw [Bool.eq_false_iff]; intro ha
    obtain ⟨x, hx, ho⟩ := List.any_eq_true.1 ha
    have := HUS.out x hx
    simp only [Rl.out, Bool.or_eq_true, decide_eq_true_eq] at ho; omega)
  clear r0 r1 r2 r3 v0 HX2 HT2 hb3 HTM hown hnu
  have ⟨r0, r1, r2, r3, v0⟩ := HX3.out.cells
  go_wp2_with (first | (refine wpList_load_row rfl 70 (.tmp 3) rfl (q + 1) rfl 70 _ (0, 0) _ HX3.out.v Try.underlying70 rfl (by kernel_rfl) ?_) | fail)
  refine (contains_out U N cu (Rl.us L) _ w3 HNU.out).mono ?_; rintro e w4 ⟨rfl, rfl⟩
  rw [HANY.out]
  go_wp2_with (first | (refine wpList_load_row rfl 70 (.tmp 3) rfl (q + 1) rfl 70 _ (0, 0) _ HX3.out.v Try.underlying70 rfl (by kernel_rfl) ?_) | fail)
  have HTM := Lib.hid (breaches27 a b b1 b2 A n c L w3 HT3.out hn HOK.out)
  unfold Rl.tvc at HTM
  refine HTM.out.mono ?_; rintro e w5 ⟨v, rfl, hown5, hb5⟩
  have HO5 := Lib.hid hown5
  have HB5 := Lib.hid (HB3.out.trans (hb5.mono HB3.out.size))
  have HQ := Lib.hid (show w.heap.size ≤ w3.heap.size from HB3.out.size)
  clear r0 r1 r2 r3 v0 HX3 HT3 hb5 HTM hown5
  go_wp2_with fail
  go_ret2
  exact ⟨_, rfl, HO5.out.base_le HQ.out, HB5.out⟩
end Go.Proofs.Ytjhdhnefoclccaa
