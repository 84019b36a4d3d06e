/- Codes: rows of codes: a slice that reads as a list, and rows made by append. -/
import Derived.Test.YtdlgfhegafnmcaaDoorLb
namespace Go.Proofs.YtdlgfhegafnmcaaDoor
open Go.RowKit
theorem Cd.addr_zero (g j : Nat) : (⟨g, 0, none⟩ : Addr).add j = ⟨g, j, none⟩ := by unfold Addr.add; by_cases h : j = 0 <;> simp [h]
def Cd.Co.cells (x : Cd.Co) : List Value := [.string x.name, .int .i64 x.par]
def Cd.Co0 : Cd.Co := ⟨⟨#[]⟩, 0⟩
/-- a slice of codes that reads as a list -/
structure CoRow (w : World) (B : Nat) (A : Option Addr) (n c : Nat) (L : List Cd.Co) : Prop where
  len : L.length = n
  cap : n ≤ c
  max : c ≤ maxLen
  cells : 0 < n → ∃ g, A = some ⟨g, 0, none⟩ ∧ g < B ∧ ∀ j, j < n → ∀ i v, (Cd.Co.cells (L.getD j Cd.Co0))[i]? = some v → w.cell? ⟨g, j * 2 + i, none⟩ = some v
  zero : A = none → c = 0
theorem CoRow.keep {w w' : World} {B B' : Nat} {A : Option Addr} {n c : Nat} {L : List Cd.Co} (h : CoRow w B A n c L) (hb : Below B w w') (hB : B ≤ B') : CoRow w' B' A n c L :=
  ⟨h.len, h.cap, h.max, fun hn => by
    obtain ⟨g, e, hlt, hc⟩ := h.cells hn
    exact ⟨g, e, by omega, fun j hj i v hv => (hb.cell hlt).trans (hc j hj i v hv)⟩, h.zero⟩
theorem CoRow.val {w : World} {B : Nat} {A : Option Addr} {n c : Nat} {L : List Cd.Co} (h : CoRow w B A n c L) {j : Nat} (hj : j < n) :
    ∃ (g : Nat) (name : ByteArray) (par : Int), A = some ⟨g, 0, none⟩ ∧ Hid (L.getD j Cd.Co0 = ⟨name, par⟩ ∧ j < L.length ∧ g < B) ∧ w.cell? ⟨g, j * 2, none⟩ = some (.string name) ∧ w.cell? ⟨g, j * 2 + 1, none⟩ = some (.int .i64 par) := by
  obtain ⟨g, e, hlt, hc⟩ := h.cells (by omega)
  exact ⟨g, _, _, e, ⟨rfl, by rw [h.len]; exact hj, hlt⟩, hc j hj 0 _ rfl, hc j hj 1 _ rfl⟩
def Cd.flat (L : List Cd.Co) : List Value := L.flatMap Cd.Co.cells
theorem Cd.flat_len (L : List Cd.Co) : (Cd.flat L).length = L.length * 2 := by
  induction L with
  | nil => rfl
  | cons p L ih => simp only [Cd.flat, List.flatMap_cons, List.length_append, List.length_cons] at *; simp only [Cd.Co.cells, List.length_cons, List.length_nil]; omega
theorem Cd.flat_append (L M : List Cd.Co) : Cd.flat (L ++ M) = Cd.flat L ++ Cd.flat M := by simp [Cd.flat]
theorem Cd.flat_get : ∀ (L : List Cd.Co) (j : Nat) (_ : j < L.length) (i : Nat) (_ : i < 2), (Cd.flat L)[j * 2 + i]? = (Cd.Co.cells (L.getD j Cd.Co0))[i]?
  | p :: L, 0, _, i, hi => by
    simp only [Cd.flat, List.flatMap_cons]
    rw [List.getElem?_append_left (by simp [Cd.Co.cells]; omega)]
    simp
  | p :: L, j + 1, h, i, hi => by
    have := Cd.flat_get L j (by simpa using h) i hi
    simp only [Cd.flat, List.flatMap_cons]
    rw [List.getElem?_append_right (by simp [Cd.Co.cells]; omega), show (j + 1) * 2 + i - (Cd.Co.cells p).length = j * 2 + i by simp [Cd.Co.cells]; omega]
    simpa [Cd.flat] using this
/-- v is nil, or a row of the call's own from block base on, that holds the codes L -/
def CoOwn (w : World) (base : Nat) (v : Value) (L : List Cd.Co) : Prop := w.ownsRow base 50 2 v L.length (Cd.flat L)
theorem CoOwn.nil (w : World) (base : Nat) : CoOwn w base (.slice none 0 0) [] := ⟨rfl, .inl ⟨rfl, rfl⟩⟩
theorem CoOwn.alloc {w : World} {base : Nat} {v : Value} {L : List Cd.Co} (h : CoOwn w base v L) (o : Obj) : CoOwn (w.alloc o) base v L := World.ownsRow.alloc h o
theorem CoOwn.base_le {w : World} {base base' : Nat} {v : Value} {L : List Cd.Co} (h : CoOwn w base v L) (hb : base' ≤ base) : CoOwn w base' v L := by
  obtain ⟨h1, h2 | ⟨g, cap, cur, hv, hg, r⟩⟩ := h
  · exact ⟨h1, .inl h2⟩
  · exact ⟨h1, .inr ⟨g, cap, cur, hv, by omega, r⟩⟩
theorem CoOwn.below {w w' : World} {base : Nat} {v : Value} {L : List Cd.Co} (h : CoOwn w base v L) (hb : Below w.heap.size w w') : CoOwn w' base v L := by
  obtain ⟨h1, h2 | ⟨g, cap, cur, hv, hg, hheap, r⟩⟩ := h
  · exact ⟨h1, .inl h2⟩
  · exact ⟨h1, .inr ⟨g, cap, cur, hv, hg, (hb.block g (Array.getElem?_eq_some_iff.1 hheap).1).trans hheap, r⟩⟩
theorem CoOwn.grow {w0 w w' : World} {base B : Nat} {v : Value} {L : List Cd.Co} (h : CoOwn w base v L) (hb : Below B w0 w) (hg : w.grownBy w' v.ownBlock) (hB : B ≤ w.heap.size) (hB' : B ≤ base) : Below B w0 w' :=
  hb.grown hg hB (fun g hg' => by have := (World.ownsRow.lt h g hg').1; omega)
theorem CoOwn.row {w : World} {base : Nat} {v : Value} {L : List Cd.Co} (h : CoOwn w base v L) : ∃ A n c, v = .slice A n c ∧ CoRow w w.heap.size A n c L := by
  have h0 := h
  obtain ⟨h1, ⟨rfl, hn⟩ | ⟨g, cap, cur, rfl, hb, hh, hle, hmx, _⟩⟩ := h
  · exact ⟨none, 0, 0, rfl, by rw [hn], Nat.le_refl _, by simp [maxLen], fun h9 => by omega, fun _ => rfl⟩
  · refine ⟨_, _, cap, rfl, rfl, hle, hmx, fun _ => ⟨g, rfl, (Array.getElem?_eq_some_iff.1 hh).1, fun j hj i v hv => ?_⟩, fun h9 => by cases h9⟩
    have hi : i < 2 := by
      have := (List.getElem?_eq_some_iff.1 hv).1
      simpa [Cd.Co.cells] using this
    have hc := World.ownsRow.cellAt h0 (j * 2 + i) (by omega)
    rw [hc, Cd.flat_get L j hj i hi, hv]
/-- a literal's block is a row of one's own -/
theorem CoOwn.lit {w : World} {base g : Nat} {L : List Cd.Co} (h : w.heap[g]? = some (.cells (Cd.flat L).toArray 50 (0, 0))) (hb : base ≤ g) (hl : L.length ≤ 1000) : CoOwn w base (.slice (some ⟨g, 0, none⟩) L.length L.length) L :=
  ⟨by rw [Cd.flat_len], .inr ⟨g, L.length, (Cd.flat L).toArray, rfl, hb, h, Nat.le_refl _, by simp only [maxLen]; omega, by simp [Cd.flat_len], by rw [← Cd.flat_len]; simp⟩⟩
theorem code_info : (Tryd.prog.info? 50).map (fun i => (i.zero, i.size, i.bytes)) = some (some (.agg #[.string ⟨#[]⟩, .int .i64 0]), 2, 24) := by kernel_rfl
section
variable {P : Program} (w : World)
/-- append(v, x) of a code -/
theorem app_code {ops : Array Oper} {rest : List Oper} {o : Oper} {a : Act} {Q : Exit → Act → World → Prop} (hgd : o.guard = none) (s x : Operand) (t : TypeId)
    (ho : o.op = .call { callee := .builtin .append, args := #[s, x], argTypes := #[t, t] })
    (base : Nat) (bytes : Nat) (hinfo : (P.info? 50).map (fun i => (i.zero, i.size, i.bytes)) = some (some (.agg #[.string ⟨#[]⟩, .int .i64 0]), 2, bytes)) (hby : bytes ≤ 1000) (ht : P.underlying t = some (.slice 50))
    (v : Value) (L : List Cd.Co) (hs : a.eval s = v) (hown : CoOwn w base v L)
    (B : Nat) (A : Option Addr) (m c : Nat) (M : List Cd.Co) (hx : a.eval x = .slice A m c) (hn : CoRow w B A m c M)
    (h63 : L.length + m ≤ 1000) (hbase : base ≤ w.heap.size)
    (h : ∀ v' w', CoOwn w' base v' (L ++ M) → w.grownBy w' v.ownBlock → wpList P ops Q rest (a.put o.dst v') w') : wpList P ops Q (o :: rest) a w := by
  obtain ⟨i, hi, hz, hz1, hz2⟩ := info_parts hinfo
  rcases A with _ | ad
  · have hm : m = 0 := by
      rcases Nat.eq_zero_or_pos m with h0 | h0
      · exact h0
      · obtain ⟨ad, h, _⟩ := hn.cells h0; cases h
    subst hm
    have hc := hn.zero rfl
    subst hc
    have hl2 : M = [] := List.eq_nil_of_length_eq_zero hn.len
    subst hl2
    exact wpList_append_own_none hgd s x t ho base 50 i 2 ht hi v L.length (Cd.flat L) hs hown hx (h v w (by simpa using hown) (World.grownBy.refl w _))
  · refine wpList_append_own w hgd s x t ho base 50 i _ 2 bytes ht hi hz hz1 hz2 rfl (by decide) v L.length (Cd.flat L) hs hown ad m c (Cd.flat M) hx ?_ ?_ ?_ (by simp only [maxLen]; omega) ?_ hbase ?_
    · rw [Cd.flat_len, hn.len]
    · intro j u hu
      have hj := (List.getElem?_eq_some_iff.1 hu).1
      rw [Cd.flat_len] at hj
      have hq : j / 2 < M.length := by omega
      have hi7 : j % 2 < 2 := by omega
      have hjj : j = j / 2 * 2 + j % 2 := by omega
      rw [hjj, Cd.flat_get M _ hq _ hi7] at hu
      obtain ⟨g', e, _, hc⟩ := hn.cells (by rw [← hn.len]; omega)
      injection e with e
      subst e
      rw [Cd.addr_zero, hjj]
      exact hc _ (by rw [← hn.len]; exact hq) _ _ hu
    · intro u hu
      obtain ⟨x, _, hx2⟩ := List.mem_flatMap.1 hu
      simp only [Cd.Co.cells, List.mem_cons, List.not_mem_nil, or_false] at hx2
      rcases hx2 with rfl | rfl <;> rfl
    · exact Nat.le_trans (Nat.mul_le_mul h63 hby) (by decide)
    · intro v' w' h2 h3 _
      refine h v' w' ?_ h3
      unfold CoOwn
      rw [Cd.flat_append, List.length_append, hn.len]
      exact h2
end
theorem CoRow.lit {w : World} {g : Nat} {L : List Cd.Co} (h : w.heap[g]? = some (.cells (Cd.flat L).toArray 50 (0, 0))) (hl : L.length ≤ 1000) : CoRow w w.heap.size (some ⟨g, 0, none⟩) L.length L.length L := by
  obtain ⟨A, n, c, e, hr⟩ := (CoOwn.lit h (Nat.zero_le _) hl).row
  injection e with e1 e2 e3
  subst e1 e2 e3
  exact hr
end Go.Proofs.YtdlgfhegafnmcaaDoor
