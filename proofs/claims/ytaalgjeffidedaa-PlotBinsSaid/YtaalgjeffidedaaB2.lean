/- Rows of pairs of ints that a function makes for itself by append, and of which it writes single numbers. -/
import Derived.Test.YtaalgjeffidedaaOwn
import Derived.Test.YtaalgjeffidedaaAft
import Derived.Lib.Hide
namespace Go.Proofs.Ytaalgjeffidedaa
open Go.RowKit
def flat (L : List (Int × Int)) : List Value := L.flatMap fun p => [.int .i64 p.1, .int .i64 p.2]
theorem flat_length (L : List (Int × Int)) : (flat L).length = L.length * 2 := by
  induction L with
  | nil => rfl
  | cons p L ih => simp only [flat, List.flatMap_cons, List.length_append, List.length_cons, List.length_nil] at *; omega
theorem flat_append (L M : List (Int × Int)) : flat (L ++ M) = flat L ++ flat M := by simp [flat]
theorem flat_fst : ∀ (L : List (Int × Int)) (j : Nat) (h : j < L.length), (flat L)[j * 2]? = some (.int .i64 L[j].1)
  | p :: L, 0, _ => rfl
  | p :: L, j + 1, h => by
    have := flat_fst L j (by simpa using h)
    rw [show (j + 1) * 2 = j * 2 + 2 from by omega]
    simpa [flat] using this
theorem flat_snd : ∀ (L : List (Int × Int)) (j : Nat) (h : j < L.length), (flat L)[j * 2 + 1]? = some (.int .i64 L[j].2)
  | p :: L, 0, _ => rfl
  | p :: L, j + 1, h => by
    have := flat_snd L j (by simpa using h)
    rw [show (j + 1) * 2 + 1 = j * 2 + 1 + 2 from by omega]
    simpa [flat] using this
theorem flat_set_last (L : List (Int × Int)) (x c c' : Int) : (flat (L ++ [(x, c)])).set (L.length * 2 + 1) (.int .i64 c') = flat (L ++ [(x, c')]) := by
  rw [flat_append, flat_append]
  have h := flat_length L
  rw [List.set_append_right _ _ (by omega), h, show L.length * 2 + 1 - L.length * 2 = 1 from by omega]
  rfl
/-- v is nil, or a row of the function's own from block base on, that holds the pairs L. -/
def Own2 (w : World) (base : Nat) (e : TypeId) (v : Value) (L : List (Int × Int)) : Prop := w.ownsRow base e 2 v L.length (flat L)
theorem Own2.nil (w : World) (base : Nat) (e : TypeId) : Own2 w base e (.slice none 0 0) [] := ⟨rfl, .inl ⟨rfl, rfl⟩⟩
theorem Own2.alloc {w : World} {base : Nat} {e : TypeId} {v : Value} {L : List (Int × Int)} (h : Own2 w base e v L) (o : Obj) : Own2 (w.alloc o) base e v L := World.ownsRow.alloc h o
theorem Own2.drewN {w : World} {base : Nat} {e : TypeId} {v : Value} {L : List (Int × Int)} (h : Own2 w base e v L) (m : Nat) : Own2 (w.drewN m) base e v L := h
theorem Own2.base_le {w : World} {base base' : Nat} {e : TypeId} {v : Value} {L : List (Int × Int)} (h : Own2 w base e v L) (hb : base' ≤ base) : Own2 w base' e v L := by
  obtain ⟨h1, h2 | ⟨g, cap, cur, hv, hg, r⟩⟩ := h
  · exact ⟨h1, .inl h2⟩
  · exact ⟨h1, .inr ⟨g, cap, cur, hv, by omega, r⟩⟩
theorem Own2.below {w w' : World} {base : Nat} {e : TypeId} {v : Value} {L : List (Int × Int)} (h : Own2 w base e v L) (hb : Below w.heap.size w w') : Own2 w' base e v L := by
  obtain ⟨h1, h2 | ⟨g, cap, cur, hv, hg, hheap, r⟩⟩ := h
  · exact ⟨h1, .inl h2⟩
  · refine ⟨h1, .inr ⟨g, cap, cur, hv, hg, ?_, r⟩⟩
    rw [hb.block g ?_]
    · exact hheap
    · rcases Nat.lt_or_ge g w.heap.size with h | h
      · exact h
      · rw [Array.getElem?_eq_none h] at hheap; cases hheap
theorem Own2.grow {w0 w w' : World} {base B : Nat} {e : TypeId} {v : Value} {L : List (Int × Int)} (h : Own2 w base e v L) (hb : Below B w0 w) (hg : w.grownBy w' v.ownBlock) (hB : B ≤ w.heap.size) (hB' : B ≤ base) : Below B w0 w' :=
  hb.grown hg hB (fun g hg' => by have := (World.ownsRow.lt h g hg').1; omega)
/-- the row, not nil -/
theorem Own2.row {w : World} {base : Nat} {e : TypeId} {v : Value} {L : List (Int × Int)} (h : Own2 w base e v L) (hL : L ≠ []) : ∃ g cap, v = .slice (some ⟨g, 0, none⟩) L.length cap ∧ base ≤ g ∧ g < w.heap.size ∧ L.length ≤ cap := by
  have h0 := h
  obtain ⟨_, ⟨_, hn⟩ | ⟨g, cap, cur, rfl, hg, _, hle, _⟩⟩ := h
  · exact absurd (List.eq_nil_of_length_eq_zero hn) hL
  · exact ⟨g, cap, rfl, hg, (World.ownsRow.lt h0 g rfl).2, hle⟩
theorem Own2.slice {w : World} {base : Nat} {e : TypeId} {v : Value} {L : List (Int × Int)} (h : Own2 w base e v L) : ∃ A c, v = .slice A L.length c ∧ L.length ≤ c ∧ c ≤ maxLen := by
  obtain ⟨_, ⟨rfl, hn⟩ | ⟨g, cap, cur, rfl, hg, _, hle, hm, _⟩⟩ := h
  · exact ⟨none, 0, by rw [hn], by omega, by simp [maxLen]⟩
  · exact ⟨_, cap, rfl, hle, hm⟩
/-- what the row's cells hold -/
theorem Own2.fst {w : World} {base g n cap : Nat} {e : TypeId} {L : List (Int × Int)} (h : Own2 w base e (.slice (some ⟨g, 0, none⟩) n cap) L) {j : Nat} (hj : j < L.length) : w.cell? ⟨g, j * 2, none⟩ = some (.int .i64 L[j].1) := by
  have hn : n = L.length := by
    obtain ⟨_, ⟨hv, _⟩ | ⟨g', cap', cur, hv, _⟩⟩ := h <;> cases hv; rfl
  subst hn
  rw [World.ownsRow.cellAt h (j * 2) (by omega), flat_fst L j hj]
theorem Own2.snd {w : World} {base g n cap : Nat} {e : TypeId} {L : List (Int × Int)} (h : Own2 w base e (.slice (some ⟨g, 0, none⟩) n cap) L) {j : Nat} (hj : j < L.length) : w.cell? ⟨g, j * 2 + 1, none⟩ = some (.int .i64 L[j].2) := by
  have hn : n = L.length := by
    obtain ⟨_, ⟨hv, _⟩ | ⟨g', cap', cur, hv, _⟩⟩ := h <;> cases hv; rfl
  subst hn
  rw [World.ownsRow.cellAt h (j * 2 + 1) (by omega), flat_snd L j hj]
theorem Own2.thawed {w : World} {base g n cap : Nat} {e : TypeId} {L : List (Int × Int)} (h : Own2 w base e (.slice (some ⟨g, 0, none⟩) n cap) L) (j : Nat) : w.frozen? ⟨g, j, none⟩ = false := by
  have hn : n = L.length := by
    obtain ⟨_, ⟨hv, _⟩ | ⟨g', cap', cur, hv, _⟩⟩ := h <;> cases hv; rfl
  subst hn
  exact World.ownsRow.frozenAt h j
/-- the last pair's second number is another one -/
theorem Own2.last {w : World} {base g n cap : Nat} {e : TypeId} {L : List (Int × Int)} {x c : Int} (h : Own2 w base e (.slice (some ⟨g, 0, none⟩) n cap) (L ++ [(x, c)])) (c' : Int) :
    Own2 (w.setCell ⟨g, L.length * 2 + 1, none⟩ (.int .i64 c')) base e (.slice (some ⟨g, 0, none⟩) n cap) (L ++ [(x, c')]) := by
  have hn : n = (L ++ [(x, c)]).length := by
    obtain ⟨_, ⟨hv, _⟩ | ⟨g', cap', cur, hv, _⟩⟩ := h <;> cases hv; rfl
  subst hn
  have := World.ownsRow.stored h (L.length * 2 + 1) (.int .i64 c')
  rw [flat_set_last] at this
  have h2 := this.1
  unfold Own2
  simpa using h2
section
variable {P : Program} (w : World)
/-- append(v, pair) -/
theorem app_pair {ops : Array Oper} {rest : List Oper} {o : Oper} {a : Act} {Q : Exit → Act → World → Prop} (hgd : o.guard = none) (s x : Operand) (t : TypeId)
    (ho : o.op = .call { callee := .builtin .append, args := #[s, x], argTypes := #[t, t] })
    (base : Nat) (e : TypeId) (hinfo : (P.info? e).map (fun i => (i.zero, i.size, i.bytes)) = some (some (.agg #[.int .i64 0, .int .i64 0]), 2, 16)) (ht : P.underlying t = some (.slice e))
    (v : Value) (L : List (Int × Int)) (hs : a.eval s = v) (hown : Own2 w base e v L)
    (p q : Int) (g : Nat) (hx : a.eval x = .slice (some ⟨g, 0, none⟩) 1 1) (hc : w.cell? ⟨g, 0, none⟩ = some (.int .i64 p)) (hc' : w.cell? ⟨g, 1, none⟩ = some (.int .i64 q))
    (h63 : L.length + 1 ≤ 1000000) (hbase : base ≤ w.heap.size)
    (h : ∀ v' w', Own2 w' base e v' (L ++ [(p, q)]) → w.grownBy w' v.ownBlock → wpList P ops Q rest (a.put o.dst v') w') : wpList P ops Q (o :: rest) a w := by
  obtain ⟨i, hi, hz, hz1, hz2⟩ := info_parts hinfo
  refine wpList_append_own w hgd s x t ho base e i (.agg #[.int .i64 0, .int .i64 0]) 2 16 ht hi hz hz1 hz2 rfl (by decide) v L.length (flat L) hs hown ⟨g, 0, none⟩ 1 1 [.int .i64 p, .int .i64 q] hx rfl ?_ ?_ (by simp only [maxLen]; omega) (by omega) hbase ?_
  · intro j u hu
    match j with
    | 0 => simp at hu; subst hu; exact hc
    | 1 => simp at hu; subst hu; exact hc'
    | j + 2 => simp at hu
  · intro u hu; simp at hu; rcases hu with rfl | rfl <;> rfl
  · intro v' w' h2 h3 _
    refine h v' w' ?_ h3
    unfold Own2
    rw [flat_append, List.length_append]
    exact h2
end
end Go.Proofs.Ytaalgjeffidedaa
