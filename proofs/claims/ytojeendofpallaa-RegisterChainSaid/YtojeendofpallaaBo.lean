/- Boxes: a block of one cell, and what it outlives. -/
import Derived.Test.YtojeendofpallaaCv
namespace Go.Proofs.Ytojeendofpallaa
open Go.RowKit
def Box (w : World) (f : Nat) (v : Value) (T : TypeId) : Prop := w.heap[f]? = some (.cells #[v] T (0, 0))
theorem Box.new (w : World) (v : Value) (T : TypeId) : Box (w.alloc (.cells #[v] T)) w.heap.size v T := heap_alloc_new w _
theorem Box.lt {w : World} {f : Nat} {v : Value} {T : TypeId} (h : Box w f v T) : f < w.heap.size := (Array.getElem?_eq_some_iff.1 h).1
theorem Box.below {w w' : World} {f : Nat} {v : Value} {T : TypeId} (h : Box w f v T) (hb : Below w.heap.size w w') : Box w' f v T := (hb.block f h.lt).trans h
theorem Box.cod {w w' : World} {base g f : Nat} {v : Value} {T : TypeId} (h : Box w f v T) (hc : Cod w base g) (hg : w.grownBy w' (some g)) (hT : T ≠ 77) : Box w' f v T := by
  obtain ⟨A, n, c, i, l, _, _, _, h4, _⟩ := hc
  refine (hg.block f h.lt fun e => ?_).trans h
  injection e with e
  subst e
  have h0 : w.heap[f]? = some (.cells #[v] T (0, 0)) := h
  rw [h0] at h4
  injection h4 with h4
  injection h4 with _ ht
  exact hT ht
theorem Box.cell {w : World} {f : Nat} {v : Value} {T : TypeId} (h : Box w f v T) : w.cell? ⟨f, 0, none⟩ = some v := by
  have h0 : w.heap[f]? = some (.cells #[v] T (0, 0)) := h
  simp [World.cell?, h0]
theorem Box.thaw {w : World} {f : Nat} {v : Value} {T : TypeId} (h : Box w f v T) : w.frozen? ⟨f, 0, none⟩ = false := by
  have h0 : w.heap[f]? = some (.cells #[v] T (0, 0)) := h
  simp [World.frozen?, h0]
theorem Box.row {w w' : World} {base size n f : Nat} {e T : TypeId} {u v : Value} {xs : List Value} (hf : Box w f v T) (h : w.ownsRow base e size u n xs) (hg : w.grownBy w' u.ownBlock) (hne : e ≠ T) : Box w' f v T := ownsRow_blk h hg hf hne
theorem Box.set {w : World} {f : Nat} {v : Value} {T : TypeId} (h : Box w f v T) (u : Value) : Box (w.setCell ⟨f, 0, none⟩ u) f u T := heap_set_same h u
theorem Box.far {w w' : World} {f b : Nat} {v : Value} {T : TypeId} (h : Box w f v T) (hg : w.grownBy w' (some b)) (hne : f ≠ b) : Box w' f v T := (hg.block f h.lt (by simp; exact hne)).trans h
/-- the space's value is a slice -/
theorem SpO.form {w : World} {b : Nat} {v : Value} {ss : List Int} (h : SpO w b (.agg #[v]) ss) : ∃ g n c, v = .slice (some ⟨g, 0, none⟩) n c ∧ Hid (n = ss.length) := by
  obtain ⟨⟨u, hu, ho⟩, hs⟩ := h
  injection hu with hu
  injection hu with hu
  injection hu with hu _
  subst hu
  obtain ⟨g, cap, rfl, _⟩ := ho.rowg rfl hs.pos
  exact ⟨g, _, cap, rfl, Lib.hid rfl⟩
theorem VwO.form {w : World} {b : Nat} {v : Value} {ss : List Int} {vs : List (List Int)} (h : VwO w b v ss vs) (hs : Ce.Space ss) : ∃ A n c, v = .agg #[.slice A n c] ∧ Hid (n = vs.length) := by
  obtain ⟨⟨A, n, c, rfl, hn⟩, _⟩ := h.vw hs
  exact ⟨A, n, c, rfl, Lib.hid hn.len.symm⟩
end Go.Proofs.Ytojeendofpallaa
