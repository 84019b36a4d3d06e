/- rules.Breaches of a table. -/
import Derived.Test.YtjhdhnefoclccaaRa
namespace Go.Proofs.Ytjhdhnefoclccaa
open Go.RowKit
theorem breach_info : (Try.prog.info? 72).map (fun i => (i.zero, i.size, i.bytes)) = some (some (.agg #[.int .i64 0, .int .i64 0]), 2, 16) := by kernel_rfl
theorem heap_cell {w : World} {g i : Nat} {cs : Array Value} {e : TypeId} {v : Value} (h : w.heap[g]? = some (.cells cs e)) (hv : cs[i]? = some v) : w.cell? ⟨g, i, none⟩ = some v := by
  unfold World.cell?
  simp [h, hv]
theorem heap_thawed {w : World} {g i : Nat} {cs : Array Value} {e : TypeId} (h : w.heap[g]? = some (.cells cs e)) : w.frozen? ⟨g, i, none⟩ = false := by
  unfold World.frozen?
  simp [h]
theorem heap_lt {w : World} {g : Nat} {o : Obj} (h : w.heap[g]? = some o) : g < w.heap.size := (Array.getElem?_eq_some_iff.1 h).1
/-- the list lies in a box, and the box of the loop's cell stays -/
structure Fd (w : World) (g base x : Nat) (cs : Array Value) (L : List (Int × Int)) : Prop where
  list : ∃ v, w.heap[g]? = some (.cells #[v] 97) ∧ Own2 w base 72 v L
  cell : w.heap[x]? = some (.cells cs 55)
  at_ : g < base
  base_ : base ≤ w.heap.size
theorem own_ne {w : World} {base x : Nat} {e e' : TypeId} {v : Value} {L : List (Int × Int)} {cs : Array Value} (h : Own2 w base e v L) (hx : w.heap[x]? = some (.cells cs e')) (hne : e ≠ e') : v.ownBlock ≠ some x := by
  obtain ⟨_, ⟨rfl, _⟩ | ⟨g, cap, cur, rfl, _, hg, _⟩⟩ := h
  · simp [Value.ownBlock]
  · intro e0
    simp only [Value.ownBlock, Option.some.injEq] at e0
    subst e0
    rw [hg] at hx
    injection hx with hx
    injection hx with _ h2
    exact hne h2
theorem grown_heap {w w' : World} {o o' : Obj} {g : Nat} {r : Option Nat} (hg : w.heap[g]? = some o) (hr : r ≠ some g) (h : (w.alloc o').grownBy w' r) : w'.heap[g]? = some o := by
  have hl := heap_lt hg
  have h1 := h.block g (by simp; omega) (fun e => hr e.symm)
  have h2 := heap_alloc_old w o' hl
  rw [h1, h2]
  exact hg
theorem heap_set0 {w : World} {g : Nat} {e : TypeId} {v : Value} (h : w.heap[g]? = some (.cells #[v] e)) (u : Value) : (w.setCell ⟨g, 0, none⟩ u).heap[g]? = some (.cells #[u] e) := by
  simp [World.setCell, Array.getElem?_modify, h]
theorem grown_size {w w' : World} {o' : Obj} {r : Option Nat} (h : (w.alloc o').grownBy w' r) : w.heap.size < w'.heap.size := by
  have := h.size
  simp at this
  omega
set_option maxHeartbeats 400000 in
theorem say27 (g base x B : Nat) (cs : Array Value) (L : List (Int × Int)) (w : World) (h : Fd w g base x cs L) (hB : B ≤ g) (hL : L.length ≤ 1000) (is : Bool) (k a : Int) :
    Calls Try.prog 49 #[.pointer (some ⟨g, 0, none⟩), .bool is, .int .i64 k, .int .i64 a] w fun e w' => e = .returned (.tuple #[]) ∧ Fd w' g base x cs (L ++ if is then [(k, a)] else []) ∧ Below B w w' := by
  obtain ⟨⟨v, hg, ho⟩, hx, hgb, hbs⟩ := h
  have hgx : x ≠ g := by
    rintro rfl
    rw [hg] at hx
    injection hx with hx
    injection hx with _ h2
    exact absurd h2 (by decide)
  have hgs := heap_lt hg
  cases is
  · have HH := Lib.hid (show Fd w g base x cs (L ++ []) by rw [List.append_nil]; exact ⟨⟨v, hg, ho⟩, hx, hgb, hbs⟩)
    clear hg ho hx
    go_enter Try.func49, Try.ntmps49
    go_wp2_with fail
    exact bodyPost_end (results_none rfl _ _ _) rfl ⟨rfl, by simpa using HH.out, Below.refl _ _⟩
  · have hc := heap_cell (i := 0) hg rfl
    have HG := Lib.hid hg
    have HX := Lib.hid hx
    have HO := Lib.hid ho
    have HNE := Lib.hid (own_ne ho hx (by decide))
    have HNG := Lib.hid (own_ne ho hg (by decide))
    clear hg ho hx
    go_enter Try.func49, Try.ntmps49
    have hco := (heap_cell (i := 0) HG.out rfl : w.cell? ⟨g, 0, none⟩ = some v)
    clear hc
    go_wp2_with (at_builtin; refine app_pair _ rfl (.tmp 12) (.tmp 16) _ rfl base 72 breach_info Try.underlying97 _ _ rfl (HO.out.alloc _) k a _ rfl (by simp [go_sem]) (by simp [go_sem]) (by omega) (by simp; omega) ?_; intro v' w' hown' hgrow; (have HG2 := Lib.hid (grown_heap HG.out HNG.out hgrow)); (have HX2 := Lib.hid (grown_heap HX.out HNE.out hgrow)); (have HSZ := Lib.hid (grown_size hgrow)); (have HBW := Lib.hid (((Below.refl B w).alloc (by omega) _).grown hgrow (by simp; omega) (fun k hk => by have := (World.ownsRow.lt HO.out k hk).1; omega))); (have hc' := (heap_cell (i := 0) HG2.out rfl : w'.cell? ⟨g, 0, none⟩ = some v)); (have hf' := (heap_thawed (i := 0) HG2.out)); (have HOW := Lib.hid hown'); obtain ⟨Av, cv, rfl, _, _⟩ := hown'.slice; clear hgrow hown')
    have hfin : Fd (w'.setCell ⟨g, 0, none⟩ (.slice Av (L.length + 1) cv)) g base x cs (L ++ [(k, a)]) := by
      refine ⟨⟨_, heap_set0 HG2.out _, ?_⟩, ?_, hgb, ?_⟩
      · have := ownsRow_setCell_below HOW.out (a := ⟨g, 0, none⟩) hgb (.slice Av (L.length + 1) cv)
        unfold Own2
        simpa using this
      · rw [Below.heap_setCell _ _ _ _ hgx]; exact HX2.out
      · have h1 := HSZ.out
        have h2 : (w'.setCell ⟨g, 0, none⟩ (.slice Av (L.length + 1) cv)).heap.size = w'.heap.size := by simp [World.setCell]
        omega
    exact bodyPost_end (results_none rfl _ _ _) rfl ⟨rfl, hfin, HBW.out.setCell hB _⟩
end Go.Proofs.Ytjhdhnefoclccaa
