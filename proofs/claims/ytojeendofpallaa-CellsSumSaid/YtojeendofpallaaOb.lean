/- Rows of bools of a function's own. -/
import Derived.Test.YtojeendofpallaaMk
namespace Go.Proofs.Ytojeendofpallaa
open Go.RowKit
theorem Own.notBlock {w : World} {base f : Nat} {e : TypeId} {k : IntKind} {v : Value} {l : List Int} (h : Own w base e k v l) (hf : f < base) : v.ownBlock = none ∨ v.ownBlock ≠ some f := by
  cases hv : v.ownBlock with
  | none => exact .inl rfl
  | some g => exact .inr (by intro e; injection e with e; have := (World.ownsRow.lt h g hv).1; omega)
def OwnB (w : World) (base : Nat) (v : Value) (l : List Bool) : Prop := w.ownsRow base 4 1 v l.length (l.map Value.bool)
theorem bool_info : (Try.prog.info? 4).map (fun i => (i.zero, i.size, i.bytes)) = some (some (.bool false), 1, 1) := by kernel_rfl
theorem OwnB.below {w w' : World} {base : Nat} {v : Value} {l : List Bool} (h : OwnB w base v l) (hb : Below w.heap.size w w') : OwnB w' base v l := by
  obtain ⟨h1, h2 | ⟨g, cap, cur, hv, hg, hheap, r⟩⟩ := h
  · exact ⟨h1, .inl h2⟩
  · exact ⟨h1, .inr ⟨g, cap, cur, hv, hg, (hb.block g (Array.getElem?_eq_some_iff.1 hheap).1).trans hheap, r⟩⟩
theorem OwnB.head {w : World} {base g n cap : Nat} {l : List Bool} (h : OwnB w base (.slice (some ⟨g, 0, none⟩) n cap) l) : n = l.length ∧ base ≤ g ∧ g < w.heap.size := by
  have h0 := h
  obtain ⟨_, ⟨hv, _⟩ | ⟨g', cap', cur, hv, hb, _⟩⟩ := h
  · cases hv
  · cases hv
    exact ⟨rfl, hb, (World.ownsRow.lt h0 g rfl).2⟩
theorem OwnB.cell {w : World} {base g n cap : Nat} {l : List Bool} (h : OwnB w base (.slice (some ⟨g, 0, none⟩) n cap) l) {j : Nat} (hj : j < l.length) : w.cell? ⟨g, j, none⟩ = some (.bool (l.getD j false)) := by
  obtain ⟨rfl, _, _⟩ := h.head
  rw [World.ownsRow.cellAt h j (by omega)]
  simp [List.getD, hj]
theorem OwnB.thaw {w : World} {base g n cap : Nat} {l : List Bool} (h : OwnB w base (.slice (some ⟨g, 0, none⟩) n cap) l) (j : Nat) : w.frozen? ⟨g, j, none⟩ = false := by
  obtain ⟨rfl, _, _⟩ := h.head
  exact World.ownsRow.frozenAt h j
theorem OwnB.store {w : World} {base g n cap : Nat} {l : List Bool} (h : OwnB w base (.slice (some ⟨g, 0, none⟩) n cap) l) (j : Nat) (x : Bool) :
    OwnB (w.setCell ⟨g, j, none⟩ (.bool x)) base (.slice (some ⟨g, 0, none⟩) n cap) (l.set j x) ∧ w.grownBy (w.setCell ⟨g, j, none⟩ (.bool x)) (some g) := by
  obtain ⟨rfl, _, _⟩ := h.head
  have q := World.ownsRow.stored h j (.bool x)
  refine ⟨?_, q.2⟩
  have := q.1
  rw [← List.map_set] at this
  unfold OwnB
  simpa using this
theorem OwnB.grow {w0 w w' : World} {base B : Nat} {v : Value} {l : List Bool} (h : OwnB w base v l) (hb : Below B w0 w) (hg : w.grownBy w' v.ownBlock) (hB : B ≤ w.heap.size) (hB' : B ≤ base) : Below B w0 w' :=
  hb.grown hg hB (fun g hg' => by have := (World.ownsRow.lt h g hg').1; omega)
theorem make_bools {ops : Array Oper} {rest : List Oper} {o : Oper} {a : Act} {Q : Exit → Act → World → Prop} (w : World) (hgd : o.guard = none) (lo co : Operand) (t : TypeId) (ho : o.op = Op.makeSlice t lo co)
    (base : Nat) (ht : Try.prog.underlying t = some (.slice 4))
    (n : Nat) (hl : a.eval lo = .int .i64 n) (hc : a.eval co = .int .i64 n) (h63 : n ≤ 1000000) (hbase : base ≤ w.heap.size)
    (h : ∀ w', OwnB w' base (.slice (some ⟨w.heap.size, 0, none⟩) n n) (List.replicate n false) → w.grownBy w' none → wpList Try.prog ops Q rest (a.put o.dst (.slice (some ⟨w.heap.size, 0, none⟩) n n)) w') : wpList Try.prog ops Q (o :: rest) a w := by
  obtain ⟨i, hi, hz, hz1, hz2⟩ := info_parts bool_info
  refine wpList_make_full w hgd lo co t ho base 4 i (.bool false) 1 ht hi hz hz1 .i64 .i64 n n n hl hc rfl rfl (by rw [hz2]; omega) (by simp only [maxLen]; omega) hbase fun w' h1 h2 => h w' ?_ h2
  rw [Nat.mul_one, show (Value.bool false).cells = #[.bool false] from rfl, toList_madeCells_one] at h1
  unfold OwnB
  simpa using h1
end Go.Proofs.Ytojeendofpallaa
