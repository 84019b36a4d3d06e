/- Rows of concerns: a number and a list of keys each. -/
import Derived.Test.YtihgopiocjflcaaMat
import Derived.Test.YtihgopiocjflcaaAft
import Derived.Lib.Hide
namespace Go.Proofs.Ytihgopiocjflcaa
open Go.RowKit
/-- two rows of different element types lie in different blocks, whatever the elements' sizes -/
theorem Own.apartC {w : World} {base base' size : Nat} {e eb : TypeId} {k : IntKind} {v vi : Value} {l : List Int} {n : Nat} {xs : List Value} (h : Own w base' eb k vi l) (ho : w.ownsRow base e size v n xs) (hne : eb ≠ e) :
    vi.ownBlock = none ∨ vi.ownBlock ≠ v.ownBlock := by
  obtain ⟨_, ⟨rfl, _⟩ | ⟨g, cap, cur, rfl, _, hh, _⟩⟩ := h
  · exact .inl rfl
  · refine .inr fun he => ?_
    obtain ⟨_, ⟨rfl, _⟩ | ⟨g', cap', cur', rfl, _, hh', _⟩⟩ := ho
    · simp [Value.ownBlock] at he
    · simp [Value.ownBlock] at he
      subst he
      rw [hh] at hh'
      injection hh' with hh'
      injection hh' with _ ht
      exact hne ht
def flatC (L : List (Int × Value)) : List Value := L.flatMap fun p => [.int .i64 p.1, p.2]
theorem flatC_length (L : List (Int × Value)) : (flatC L).length = L.length * 2 := by
  induction L with
  | nil => rfl
  | cons p L ih => simp only [flatC, List.flatMap_cons, List.length_append, List.length_cons, List.length_nil] at *; omega
theorem flatC_append (L M : List (Int × Value)) : flatC (L ++ M) = flatC L ++ flatC M := by simp [flatC]
theorem flatC_fst : ∀ (L : List (Int × Value)) (j : Nat) (h : j < L.length), (flatC L)[j * 2]? = some (.int .i64 L[j].1)
  | p :: L, 0, _ => rfl
  | p :: L, j + 1, h => by
    have := flatC_fst L j (by simpa using h)
    rw [show (j + 1) * 2 = j * 2 + 2 from by omega]
    simpa [flatC] using this
theorem flatC_snd : ∀ (L : List (Int × Value)) (j : Nat) (h : j < L.length), (flatC L)[j * 2 + 1]? = some L[j].2
  | p :: L, 0, _ => rfl
  | p :: L, j + 1, h => by
    have := flatC_snd L j (by simpa using h)
    rw [show (j + 1) * 2 + 1 = j * 2 + 1 + 2 from by omega]
    simpa [flatC] using this
/-- v is nil, or a row of the function's own of concerns, whose keys are rows of its own -/
def OwnC (w : World) (base : Nat) (v : Value) (cs : List (Int × List Int)) : Prop :=
  ∃ L : List (Int × Value), w.ownsRow base 30 2 v L.length (flatC L) ∧ L.map (·.1) = cs.map (·.1) ∧ AllOwn w base 3 .i64 (L.map (·.2)) (cs.map (·.2))
theorem OwnC.nil (w : World) (base : Nat) : OwnC w base (.slice none 0 0) [] := ⟨[], ⟨rfl, .inl ⟨rfl, rfl⟩⟩, rfl, trivial⟩
theorem OwnC.below {w w' : World} {base : Nat} {v : Value} {cs : List (Int × List Int)} (h : OwnC w base v cs) (hb : Below w.heap.size w w') : OwnC w' base v cs := by
  obtain ⟨L, h1, h2, h3⟩ := h
  exact ⟨L, ownsRow_below h1 hb, h2, h3.imp fun _ _ ho => ho.below hb⟩
theorem OwnC.base_le {w : World} {base base' : Nat} {v : Value} {cs : List (Int × List Int)} (h : OwnC w base v cs) (hb : base' ≤ base) : OwnC w base' v cs := by
  obtain ⟨L, ⟨h1, h2 | ⟨g, cap, cur, hv, hg, r⟩⟩, h3, h4⟩ := h
  · exact ⟨L, ⟨h1, .inl h2⟩, h3, h4.imp fun _ _ ho => ho.base_le hb⟩
  · exact ⟨L, ⟨h1, .inr ⟨g, cap, cur, hv, by omega, r⟩⟩, h3, h4.imp fun _ _ ho => ho.base_le hb⟩
theorem OwnC.grow {w0 w w' : World} {base B : Nat} {v : Value} {cs : List (Int × List Int)} (h : OwnC w base v cs) (hb : Below B w0 w) (hg : w.grownBy w' v.ownBlock) (hB : B ≤ w.heap.size) (hB' : B ≤ base) : Below B w0 w' := by
  obtain ⟨L, h1, _⟩ := h
  exact hb.grown hg hB (fun g hg' => by have := (World.ownsRow.lt h1 g hg').1; omega)
theorem OwnC.len {w : World} {base : Nat} {v : Value} {cs : List (Int × List Int)} (h : OwnC w base v cs) : ∃ A c, v = .slice A cs.length c ∧ (cs ≠ [] → ∃ g, A = some ⟨g, 0, none⟩ ∧ base ≤ g ∧ g < w.heap.size) := by
  obtain ⟨L, h1, h2, _⟩ := h
  have hl : L.length = cs.length := by have := congrArg List.length h2; simpa using this
  have h0 := h1
  obtain ⟨_, ⟨rfl, hn⟩ | ⟨g, cap, cur, rfl, hg, _⟩⟩ := h1
  · refine ⟨none, 0, by rw [← hl, hn], fun hc => absurd (List.eq_nil_of_length_eq_zero (by omega)) hc⟩
  · exact ⟨_, cap, by rw [← hl], fun _ => ⟨g, rfl, hg, (World.ownsRow.lt h0 g rfl).2⟩⟩
/-- the cells of a concern -/
theorem OwnC.at_ {w : World} {base n c : Nat} {A : Option Addr} {cs : List (Int × List Int)} (h : OwnC w base (.slice A n c) cs) {j : Nat} (hj : j < n) :
    ∃ (g : Nat) (k : Int) (l : List Int) (vl : Value), A = some ⟨g, 0, none⟩ ∧ Hid (cs.getD j (0, []) = (k, l) ∧ j < cs.length ∧ g < w.heap.size) ∧ w.cell? ⟨g, j * 2, none⟩ = some (.int .i64 k) ∧ w.cell? ⟨g, j * 2 + 1, none⟩ = some vl ∧ Own w base 3 .i64 vl l := by
  obtain ⟨L, h1, h2, h3⟩ := h
  have hl : L.length = cs.length := by have := congrArg List.length h2; simpa using this
  have h0 := h1
  obtain ⟨_, ⟨hv, hn⟩ | ⟨g, cap, cur, hv, hg, hheap, r⟩⟩ := h1
  · injection hv with _ hv _
    omega
  · injection hv with e1 e2 e3
    subst e1 e2 e3
    have hjL : j < L.length := hj
    have hjc : j < cs.length := by omega
    have hk : L[j].1 = cs[j].1 := by
      have := congrArg (fun l => l[j]?) h2
      simp [hjL, hjc] at this
      exact this
    have hal := h3.get j (by simpa using hjc)
    have e4 : (L.map (·.2)).getD j undef = L[j].2 := by simp [List.getD, hjL]
    have e5 : (cs.map (·.2)).getD j [] = cs[j].2 := by simp [List.getD, hjc]
    rw [e4, e5] at hal
    refine ⟨g, cs[j].1, cs[j].2, L[j].2, rfl, Lib.hid ⟨by simp [List.getD, hjc], hjc, (World.ownsRow.lt h0 g rfl).2⟩, ?_, ?_, hal⟩
    · rw [World.ownsRow.cellAt h0 (j * 2) (by omega), flatC_fst L j hjL, hk]
    · rw [World.ownsRow.cellAt h0 (j * 2 + 1) (by omega), flatC_snd L j hjL]
section
variable {P : Program} (w : World)
/-- append(v, concern) -/
theorem app_concern {ops : Array Oper} {rest : List Oper} {o : Oper} {a : Act} {Q : Exit → Act → World → Prop} (hgd : o.guard = none) (s x : Operand) (t : TypeId)
    (ho : o.op = .call { callee := .builtin .append, args := #[s, x], argTypes := #[t, t] })
    (base : Nat) (hinfo : (P.info? 30).map (fun i => (i.zero, i.size, i.bytes)) = some (some (.agg #[.int .i64 0, .slice none 0 0]), 2, 32)) (ht : P.underlying t = some (.slice 30))
    (v : Value) (cs : List (Int × List Int)) (hs : a.eval s = v) (hown : OwnC w base v cs)
    (k : Int) (vl : Value) (l : List Int) (hl : Own w base 3 .i64 vl l) (hvl : vl.oneCell' = true) (g : Nat) (hx : a.eval x = .slice (some ⟨g, 0, none⟩) 1 1) (hc : w.cell? ⟨g, 0, none⟩ = some (.int .i64 k)) (hc' : w.cell? ⟨g, 1, none⟩ = some vl)
    (h63 : cs.length + 1 ≤ 1000000) (hbase : base ≤ w.heap.size)
    (h : ∀ v' w', OwnC w' base v' (cs ++ [(k, l)]) → w.grownBy w' v.ownBlock → wpList P ops Q rest (a.put o.dst v') w') : wpList P ops Q (o :: rest) a w := by
  obtain ⟨i, hi, hz, hz1, hz2⟩ := info_parts hinfo
  obtain ⟨L, h1, h2, h3⟩ := hown
  have hlen : L.length = cs.length := by have := congrArg List.length h2; simpa using this
  refine wpList_append_own w hgd s x t ho base 30 i (.agg #[.int .i64 0, .slice none 0 0]) 2 32 ht hi hz hz1 hz2 rfl (by decide) v L.length (flatC L) hs h1 ⟨g, 0, none⟩ 1 1 [.int .i64 k, vl] hx rfl ?_ ?_ (by simp only [maxLen]; omega) (by omega) hbase ?_
  · intro j u hu
    match j with
    | 0 => simp at hu; subst hu; exact hc
    | 1 => simp at hu; subst hu; exact hc'
    | j + 2 => simp at hu
  · intro u hu; simp at hu; rcases hu with rfl | rfl
    · rfl
    · exact hvl
  · intro v' w' h4 h5 _
    refine h v' w' ⟨L ++ [(k, vl)], ?_, ?_, ?_⟩ h5
    · rw [flatC_append, List.length_append]; exact h4
    · rw [List.map_append, List.map_append, h2]; rfl
    · rw [List.map_append, List.map_append]
      refine AllOwn.snoc ?_ (h3.imp fun v0 l0 ho => ho.kept h5 (ho.apartC h1 (by decide)))
      exact hl.kept h5 (hl.apartC h1 (by decide))
end
end Go.Proofs.Ytihgopiocjflcaa
