/- Rows of numbers that a function makes by make and into which it stores. -/
import Derived.Test.YtihgopiocjflcaaGi
import Derived.Test.YtihgopiocjflcaaMat
import Derived.Test.YtihgopiocjflcaaAft
import Derived.BigGuardPart
import Derived.Deep.QuietTactic
import Derived.BigQuiet
import Derived.Lib.Hide
namespace Go.Proofs.Ytihgopiocjflcaa
open Go.RowKit
theorem zero_row (k : IntKind) (n : Nat) : (madeCells (Value.int k 0).cells (n * 1)).toList = (List.replicate n (0 : Int)).map (Value.int k) := by
  rw [Nat.mul_one, show (Value.int k 0).cells = #[.int k 0] from rfl, toList_madeCells_one]
  simp
section
variable {P : Program} (w : World)
/-- make([]T, n) -/
theorem make_ints {ops : Array Oper} {rest : List Oper} {o : Oper} {a : Act} {Q : Exit → Act → World → Prop} (hgd : o.guard = none) (lo co : Operand) (t : TypeId) (ho : o.op = Op.makeSlice t lo co)
    (base : Nat) (e : TypeId) (bytes : Nat) (k : IntKind) (hinfo : (P.info? e).map (fun i => (i.zero, i.size, i.bytes)) = some (some (.int k 0), 1, bytes)) (ht : P.underlying t = some (.slice e))
    (n : Nat) (hl : a.eval lo = .int .i64 n) (hc : a.eval co = .int .i64 n) (h63 : n ≤ maxLen) (hbytes : bytes * n ≤ 140737488355328) (hbase : base ≤ w.heap.size)
    (h : ∀ w', Own w' base e k (.slice (some ⟨w.heap.size, 0, none⟩) n n) (List.replicate n 0) → w.grownBy w' none → wpList P ops Q rest (a.put o.dst (.slice (some ⟨w.heap.size, 0, none⟩) n n)) w') : wpList P ops Q (o :: rest) a w := by
  obtain ⟨i, hi, hz, hz1, hz2⟩ := info_parts hinfo
  refine wpList_make_full w hgd lo co t ho base e i (.int k 0) 1 ht hi hz hz1 .i64 .i64 n n n hl hc rfl rfl (by rw [hz2]; omega) h63 hbase fun w' h1 h2 => h w' ?_ h2
  rw [zero_row] at h1
  unfold Own
  simpa using h1
end
theorem Own.below_grown {w w' : World} (hg : w.grownBy w' none) {B : Nat} (hB : B ≤ w.heap.size) : Below B w w' := (Below.refl _ _).grown hg hB (fun r e => by cases e)
/-- the row's head -/
theorem Own.head {w : World} {base g n cap : Nat} {e : TypeId} {k : IntKind} {l : List Int} (h : Own w base e k (.slice (some ⟨g, 0, none⟩) n cap) l) : n = l.length ∧ base ≤ g ∧ g < w.heap.size := by
  have h0 := h
  obtain ⟨_, ⟨hv, _⟩ | ⟨g', cap', cur, hv, hb, _⟩⟩ := h
  · cases hv
  · cases hv
    exact ⟨rfl, hb, (World.ownsRow.lt h0 g rfl).2⟩
theorem Own.cell {w : World} {base g n cap : Nat} {e : TypeId} {k : IntKind} {l : List Int} (h : Own w base e k (.slice (some ⟨g, 0, none⟩) n cap) l) {j : Nat} (hj : j < l.length) : w.cell? ⟨g, j, none⟩ = some (.int k (l.getD j 0)) := by
  obtain ⟨rfl, _, _⟩ := h.head
  rw [World.ownsRow.cellAt h j (by omega)]
  simp [List.getD, hj]
theorem Own.thaw {w : World} {base g n cap : Nat} {e : TypeId} {k : IntKind} {l : List Int} (h : Own w base e k (.slice (some ⟨g, 0, none⟩) n cap) l) (j : Nat) : w.frozen? ⟨g, j, none⟩ = false := by
  obtain ⟨rfl, _, _⟩ := h.head
  exact World.ownsRow.frozenAt h j
theorem Own.store {w : World} {base g n cap : Nat} {e : TypeId} {k : IntKind} {l : List Int} (h : Own w base e k (.slice (some ⟨g, 0, none⟩) n cap) l) (j : Nat) (x : Int) :
    Own (w.setCell ⟨g, j, none⟩ (.int k x)) base e k (.slice (some ⟨g, 0, none⟩) n cap) (l.set j x) ∧ w.grownBy (w.setCell ⟨g, j, none⟩ (.int k x)) (some g) := by
  obtain ⟨rfl, _, _⟩ := h.head
  have q := World.ownsRow.stored h j (.int k x)
  refine ⟨?_, q.2⟩
  have := q.1
  rw [← List.map_set] at this
  unfold Own
  simpa using this
/-- a row that is not empty has a head -/
theorem Own.rowg {w : World} {base : Nat} {e : TypeId} {k : IntKind} {v : Value} {l : List Int} (h : Own w base e k v l) {n : Nat} (hn : l.length = n) (h1 : 1 ≤ n) : ∃ g cap, v = .slice (some ⟨g, 0, none⟩) n cap ∧ base ≤ g ∧ g < w.heap.size ∧ n ≤ cap ∧ cap ≤ 9223372036854775807 := by
  have h0 := h
  obtain ⟨_, ⟨hv, hl⟩ | ⟨g', cap', cur, hv, hb, _, hle, hmx, _⟩⟩ := h
  · omega
  · subst hv
    refine ⟨g', cap', by rw [hn], hb, (World.ownsRow.lt h0 g' rfl).2, by omega, by unfold maxLen at hmx; exact hmx⟩
theorem Own.numsG {w : World} {base n c : Nat} {e : TypeId} {k : IntKind} {A : Option Addr} {l : List Int} (h : Own w base e k (.slice A n c) l) (hw : ∀ x ∈ l, (Lit.int k x).wf = true) : Nums w k w.heap.size A n c l := by
  obtain ⟨A', c', hv, hn⟩ := h.nums hw
  injection hv with h1 h2 h3
  subst h1 h2 h3
  exact hn
theorem Nums.valG {w : World} {k : IntKind} {B g n c : Nat} {l : List Int} (h : Nums w k B (some ⟨g, 0, none⟩) n c l) {j : Nat} (hj : j < n) :
    ∃ x, Hid (l.getD j 0 = x ∧ j < l.length) ∧ w.cell? ⟨g, j, none⟩ = some (.int k x) ∧ (Lit.int k x).wf = true := by
  obtain ⟨ad, x, e, _, h1, h2, h3⟩ := h.val hj
  injection e with e
  subst e
  refine ⟨x, h1, ?_, h3⟩
  have : (⟨g, 0, none⟩ : Addr).add j = ⟨g, j, none⟩ := by unfold Addr.add; by_cases h : j = 0 <;> simp [h]
  rw [this] at h2
  exact h2
theorem take_set_succ (l : List Int) (j : Nat) (x : Int) (hj : j < l.length) : (l.set j x).take (j + 1) = l.take j ++ [x] := by
  rw [List.take_succ_eq_append_getElem (by simpa using hj)]
  simp [List.take_set_of_le]
theorem int_info28 : (Try.prog.info? 3).map (fun i => (i.zero, i.size, i.bytes)) = some (some (.int .i64 0), 1, 8) := by kernel_rfl
end Go.Proofs.Ytihgopiocjflcaa
