/- rules: the numbers of a table, and what breaks the rules in it. -/
import Derived.Test.YtjhdhnefoclccaaRb
namespace Go.Proofs.Ytjhdhnefoclccaa
open Go.RowKit
abbrev Rl.Row := Int × Int × Int × Int
/-- a cell of a table: count, amount, first, second -/
def Rl.cell (p : Rl.Row) : Array Value := #[.slice none 0 0, .int .i64 p.1, .int .i64 0, .int .i64 p.2.1, .int .i64 p.2.2.1, .int .i64 p.2.2.2, .slice none 0 0]
/-- a table's value, cell by cell -/
def Rl.tvc (A : Option Addr) (n c : Nat) : Array Value := #[.int .i64 2, .int .i64 0, .int .i64 0, .slice none 0 0, .int .i64 0, .slice A n c, .int .i64 0, .slice none 0 0, .slice none 0 0, .int .i64 0, .int .i64 0, .int .i64 0, .int .i64 0, .int .i64 0, .int .i64 0, .slice none 0 0, .slice none 0 0, .int .i64 0, .int .i64 0, .int .i64 0, .int .i64 0, .int .i64 0, .int .i64 0, .slice none 0 0]
structure Tcs (w : World) (A : Option Addr) (n : Nat) (L : List Rl.Row) : Prop where
  len : L.length = n
  cells : ∃ g, A = some ⟨g, 0, none⟩ ∧ g < w.heap.size ∧ ∀ j (h : j < L.length), w.cell? ⟨g, j * 7, none⟩ = some (.slice none 0 0) ∧ w.cell? ⟨g, j * 7 + 1, none⟩ = some (.int .i64 L[j].1) ∧ w.cell? ⟨g, j * 7 + 2, none⟩ = some (.int .i64 0) ∧ w.cell? ⟨g, j * 7 + 3, none⟩ = some (.int .i64 L[j].2.1) ∧ w.cell? ⟨g, j * 7 + 4, none⟩ = some (.int .i64 L[j].2.2.1) ∧ w.cell? ⟨g, j * 7 + 5, none⟩ = some (.int .i64 L[j].2.2.2) ∧ w.cell? ⟨g, j * 7 + 6, none⟩ = some (.slice none 0 0)
theorem Tcs.keep {w w' : World} {A : Option Addr} {n : Nat} {L : List Rl.Row} (h : Tcs w A n L) (hb : Below w.heap.size w w') : Tcs w' A n L :=
  ⟨h.len, by
    obtain ⟨g, hA, hg, hc⟩ := h.cells
    exact ⟨g, hA, Nat.lt_of_lt_of_le hg hb.size, fun j hj => by
      obtain ⟨a0, a1, a2, a3, a4, a5, a6⟩ := hc j hj
      exact ⟨below_cell hb a0, below_cell hb a1, below_cell hb a2, below_cell hb a3, below_cell hb a4, below_cell hb a5, below_cell hb a6⟩⟩⟩
theorem tooMany27 (A : Option Addr) (n c : Nat) (hn : n ≤ 10) (w : World) : Calls Try.prog 40 #[.agg (Rl.tvc A n c)] w fun e w' => e = .returned (.bool false) ∧ Below w.heap.size w w' := by
  unfold Rl.tvc
  go_enter Try.func40, Try.ntmps40
  go_wp2_with fail
  go_ret
  exact ⟨retb (by simp; omega), (Below.refl _ _).alloc (Nat.le_refl _) _⟩


def Rl.us (L : List Rl.Row) : List Int := L.flatMap fun p => [p.1, p.2.1, p.2.2.1, p.2.2.2]
theorem Rl.us_len (L : List Rl.Row) : (Rl.us L).length = L.length * 4 := by
  induction L with
  | nil => rfl
  | cons p L ih => unfold Rl.us at *; rw [List.flatMap_cons, List.length_append, ih]; simp; omega
theorem Rl.us_succ {L : List Rl.Row} {j : Nat} (h : j < L.length) : Rl.us (L.take (j + 1)) = Rl.us (L.take j) ++ [L[j].1] ++ [L[j].2.1, L[j].2.2.1, L[j].2.2.2] := by
  unfold Rl.us
  rw [List.take_succ_eq_append_getElem h, List.flatMap_append]
  simp
theorem addr_add (g j : Nat) : (⟨g, 0, none⟩ : Addr).add j = ⟨g, j, none⟩ := by unfold Addr.add; by_cases h : j = 0 <;> simp [h]
theorem lit_nums (w : World) (l : List Int) (hl : l.length ≤ 1000) (hw : ∀ x ∈ l, (Lit.int .i64 x).wf = true) :
    Nums (w.alloc (.cells (l.map (Value.int .i64)).toArray 3)) .i64 (w.alloc (.cells (l.map (Value.int .i64)).toArray 3)).heap.size (some ⟨w.heap.size, 0, none⟩) l.length l.length l :=
  ⟨rfl, Nat.le_refl _, by simp only [maxLen]; omega, fun _ => ⟨_, rfl, by simp, fun j hj => by
    rw [addr_add]
    unfold World.cell?
    simp only [heap_alloc_new]
    simp [List.getD, hj]⟩, hw, fun h => by cases h⟩
theorem wf_i64 {x : Int} (h : -9223372036854775808 ≤ x ∧ x ≤ 9223372036854775807) : (Lit.int .i64 x).wf = true := by simp [Lit.wf, IntKind.min, IntKind.max, IntKind.signed, IntKind.bits]; omega
theorem kept_heap {w w' : World} {o : Obj} {g : Nat} {r : Option Nat} (hg : w.heap[g]? = some o) (hr : r ≠ some g) (h : w.grownBy w' r) : w'.heap[g]? = some o := by
  rw [h.block g (heap_lt hg) (fun e => hr e.symm)]
  exact hg
/-- numbers that the rules can look at -/
def Rl.ok (p : Rl.Row) : Prop := (0 ≤ p.1 ∧ p.1 ≤ 20000000) ∧ (0 ≤ p.2.1 ∧ p.2.1 ≤ 20000000) ∧ (0 ≤ p.2.2.1 ∧ p.2.2.1 ≤ 20000000) ∧ 0 ≤ p.2.2.2 ∧ p.2.2.2 ≤ 20000000
set_option maxRecDepth 100000 in
set_option maxHeartbeats 1600000 in
theorem used27 (A : Option Addr) (n c : Nat) (L : List Rl.Row) (w : World) (h : Tcs w A n L) (hn : n ≤ 10) (hok : ∀ p ∈ L, Rl.ok p) :
    Calls Try.prog 42 #[.agg (Rl.tvc A n c)] w (GivesInts (Rl.us L) w) := by
  unfold Rl.tvc
  obtain ⟨W, hW⟩ : ∃ W : World, w.alloc (.cells #[.int .i64 2, .int .i64 0, .int .i64 0, .slice none 0 0, .int .i64 0, .slice A n c, .int .i64 0, .slice none 0 0, .slice none 0 0, .int .i64 0, .int .i64 0, .int .i64 0, .int .i64 0, .int .i64 0, .int .i64 0, .slice none 0 0, .slice none 0 0, .int .i64 0, .int .i64 0, .int .i64 0, .int .i64 0, .int .i64 0, .int .i64 0, .slice none 0 0] 70) = W := ⟨_, rfl⟩
  have hbw : Below w.heap.size w W := by rw [← hW]; exact (Below.refl _ _).alloc (Nat.le_refl _) _
  have hsz : w.heap.size < W.heap.size := by rw [← hW]; simp
  have hk0 : W.cell? ⟨w.heap.size, 0, none⟩ = some (.int .i64 2) := by rw [← hW]; simp [go_sem]
  have hk4 : W.cell? ⟨w.heap.size, 4, none⟩ = some (.int .i64 0) := by rw [← hW]; simp [go_sem]
  have hk5 : W.cell? ⟨w.heap.size, 5, none⟩ = some (.slice A n c) := by rw [← hW]; simp [go_sem]
  have HK4 := Lib.hid hk4
  have HWE := Lib.hid hW
  have HT := Lib.hid (h.keep hbw)
  have HBW := Lib.hid hbw
  have HOK := Lib.hid hok
  clear h hbw hW hok
  go_enter Try.func42, Try.ntmps42
  go_wp2_with fail
  rw [HWE.out]
  go_loopw [3, 5, 18] (fun s _ i wr => ∃ j : Nat, j ≤ n ∧ i = .int .i64 j ∧ Hid (Own wr W.heap.size 3 .i64 s (Rl.us (L.take j)) ∧ Below W.heap.size W wr)) (fun _ _ i _ => n - (intOf i).toNat)
  case atStart => exact ⟨0, by omega, rfl, ⟨by simpa [Rl.us] using Own.nil _ _ _ _, Below.refl _ _⟩⟩
  case round =>
    obtain ⟨j, hj, rfl, HI⟩ := hrel
    by_cases hlt : j < n
    · obtain ⟨g, rfl, _, hc⟩ := (HT.out.keep HI.out.2).cells
      have hjl : j < L.length := by rw [HT.out.len]; exact hlt
      obtain ⟨x0, x1, x2, x3, x4, x5, x6⟩ := hc j hjl
      have hus := Lib.hid (Rl.us_succ hjl)
      have hlen := Lib.hid (show (Rl.us (L.take j)).length ≤ 40 by rw [Rl.us_len, List.length_take]; omega)
      have hb := HOK.out _ (List.getElem_mem hjl)
      generalize hp : L[j] = p at *
      obtain ⟨q1, q2, q3, q4⟩ := p
      obtain ⟨⟨l1, l2⟩, ⟨l3, l4⟩, ⟨l5, l6⟩, l7, l8⟩ := hb
      simp only at x1 x3 x4 x5 l1 l2 l3 l4 l5 l6 l7 l8
      have m4 := below_cell HI.out.2 HK4.out
      have HCB := Lib.hid (heap_alloc_new wr (.cells #[.slice none 0 0, .int .i64 q1, .int .i64 0, .int .i64 q2, .int .i64 q3, .int .i64 q4, .slice none 0 0] 55))
      have HMB := Lib.hid ((HI.out.2.alloc HI.out.2.size (.cells #[.slice none 0 0, .int .i64 q1, .int .i64 0, .int .i64 q2, .int .i64 q3, .int .i64 q4, .slice none 0 0] 55)).alloc (by have := HI.out.2.size; simp; omega) (.cells #[.int .i64 q1] 3))
      have HOB := Lib.hid ((HI.out.1.alloc (.cells #[.slice none 0 0, .int .i64 q1, .int .i64 0, .int .i64 q2, .int .i64 q3, .int .i64 q4, .slice none 0 0] 55)).alloc (.cells #[.int .i64 q1] 3))
      clear hc hp
      have hjn : (j : Int) < n := by omega
      have hbs := HI.out.2.size
      have hwf : ∀ x ∈ [q2, q3, q4], (Lit.int .i64 x).wf = true := fun x hx => by
        simp only [List.mem_cons, List.not_mem_nil, or_false] at hx
        rcases hx with rfl | rfl | rfl <;> exact wf_i64 (by omega)
      have HWF := Lib.hid hwf
      clear hwf
      go_wp2_with (first
        | (at_builtin; refine app_int _ rfl (.tmp 22) (.tmp 25) _ rfl W.heap.size 3 8 .i64 int_info Try.underlying53 _ _ rfl HOB.out q1 _ rfl (by simp [go_sem]) (by have := hlen.out; simp only [maxLen]; omega) (by have := hlen.out; omega) (by simp; omega) ?_; intro v' w' hown' hgrow; (have HBW2 := Lib.hid (HMB.out.grown hgrow (by simp; omega) (fun k hk => (World.ownsRow.lt HI.out.1 k hk).1))); (have HCB2 := Lib.hid (kept_heap (show ((wr.alloc _).alloc _).heap[wr.heap.size]? = some _ from (heap_alloc_old _ _ (by simp)).trans HCB.out) (fun e => by have := (World.ownsRow.lt HI.out.1 _ e).2; omega) hgrow)); (have e4 := below_cell HBW2.out HK4.out); (have y3 := (heap_cell (i := 3) HCB2.out rfl : w'.cell? ⟨wr.heap.size, 3, none⟩ = some (.int .i64 q2))); (have y4 := (heap_cell (i := 4) HCB2.out rfl : w'.cell? ⟨wr.heap.size, 4, none⟩ = some (.int .i64 q3))); (have y5 := (heap_cell (i := 5) HCB2.out rfl : w'.cell? ⟨wr.heap.size, 5, none⟩ = some (.int .i64 q4))); (have HOW2 := Lib.hid hown'); clear hgrow hown')
        | (at_builtin; refine app_ints _ rfl (.tmp 31) (.tmp 38) _ rfl W.heap.size 3 8 .i64 int_info Try.underlying53 _ _ rfl (HOW2.out.alloc _) _ _ _ _ [q2, q3, q4] rfl (lit_nums _ [q2, q3, q4] (by simp) HWF.out) (by have := hlen.out; simp only [maxLen, List.length_append, List.length_cons, List.length_nil]; omega) (by have := hlen.out; simp only [List.length_append, List.length_cons, List.length_nil]; omega) (by have := HBW2.out.size; simp; omega) ?_; intro v2 w2 hown2 hgrow2)
        | fail)
      go_roundw
      case rel =>
        exact ⟨j + 1, by omega, by go_num, ⟨by rw [hus.out]; exact hown2, (HBW2.out.alloc HBW2.out.size _).grown hgrow2 (by have := HBW2.out.size; simp; omega) (fun k hk => (World.ownsRow.lt HOW2.out k hk).1)⟩⟩
      case measure => simp [intOf]; omega
    · obtain rfl : j = n := by omega
      have hfin := HI.out.1
      rw [List.take_of_length_le (by rw [HT.out.len]; exact Nat.le_refl _)] at hfin
      have HF := Lib.hid hfin
      clear hfin
      go_wp2_with fail
      go_ret
      exact ⟨_, rfl, HF.out.base_le HBW.out.size, HBW.out.trans (HI.out.2.mono HBW.out.size)⟩
end Go.Proofs.Ytjhdhnefoclccaa
