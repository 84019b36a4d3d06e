/- Journals: the reference's Copy. -/
import Derived.Test.YtjhdhnefoclccaaK6
import Derived.ArgAppend
namespace Go.Proofs.Ytjhdhnefoclccaa
open Go.RowKit
theorem Own.keptN {w w' : World} {base : Nat} {e : TypeId} {k : IntKind} {v : Value} {l : List Int} (h : Own w base e k v l) (hg : w.grownBy w' none) : Own w' base e k v l := by
  refine World.ownsRow.kept h hg ?_
  cases v.ownBlock with
  | none => exact .inl rfl
  | some g => exact .inr (by simp)
theorem Own.litE {w : World} {base g : Nat} {e : TypeId} {k : IntKind} (h : w.heap[g]? = some (.cells #[] e)) (hb : base ≤ g) : Own w base e k (.slice (some ⟨g, 0, none⟩) 0 0) [] :=
  ⟨rfl, .inr ⟨g, 0, #[], rfl, hb, h, Nat.le_refl _, by simp [maxLen], rfl, rfl⟩⟩
section
variable {P : Program} {w : World}
/-- append([]T{}, u...) in a region that draws its order: what was there stays -/
theorem step_copy {ops : Array Oper} {o : Oper} {a : Act} {K : Act → World → Prop} {Q : Exit → Act → World → Prop} {E : Prop} (hgd : o.guard = none) (s x : Operand) (t : TypeId)
    (ho : o.op = .call { callee := .builtin .append, args := #[s, x], argTypes := #[t, t] })
    (base : Nat) (e : TypeId) (bytes : Nat) (k : IntKind) (hinfo : (P.info? e).map (fun i => (i.zero, i.size, i.bytes)) = some (some (.int k 0), 1, bytes)) (ht : P.underlying t = some (.slice e))
    (g : Nat) (hs : a.eval s = .slice (some ⟨g, 0, none⟩) 0 0) (hlit : w.heap[g]? = some (.cells #[] e)) (hbg : base ≤ g)
    (B : Nat) (A : Option Addr) (m c : Nat) (l2 : List Int) (hx : a.eval x = .slice A m c) (hn : Nums w k B A m c l2)
    (h63 : m ≤ maxLen) (hbytes : m * bytes ≤ 140737488355328)
    (h : ∀ v' w', Own w' base e k v' l2 → w.grownBy w' none → (∃ b, v'.ownBlock = some b ∧ b < w'.heap.size ∧ (b = g ∨ w.heap.size ≤ b)) → K (a.put o.dst v') w') : if Region.wanted o (yielded ops a.tmps) = true then Oper.wp P o a w K Q else E := by
  have hown := Own.litE (k := k) hlit hbg
  have hgs : g < w.heap.size := (Array.getElem?_eq_some_iff.1 hlit).1
  cases A with
  | none =>
    have hm : m = 0 := by
      rcases Nat.eq_zero_or_pos m with h0 | h0
      · exact h0
      · obtain ⟨ad, h, _⟩ := hn.cells h0; cases h
    subst hm
    have hc := hn.zero rfl
    subst hc
    have hl2 : l2 = [] := List.eq_nil_of_length_eq_zero hn.len
    subst hl2
    exact step_app_nil hgd s x t ho base e bytes k hinfo ht _ [] hs hown hx (h _ w hown (World.grownBy.refl w _) ⟨g, rfl, hgs, .inl rfl⟩)
  | some ad =>
    obtain ⟨i, hi, hz, hz1, hz2⟩ := info_parts hinfo
    have hw : Region.wanted o (yielded ops a.tmps) = true := by simp [Region.wanted, hgd]
    have hnews : ∀ j u, (l2.map (Value.int k))[j]? = some u → w.cell? (ad.add j) = some u := by
      intro j u hu
      have hj : j < m := by
        have := (List.getElem?_eq_some_iff.1 hu).1
        simpa [hn.len] using this
      obtain ⟨ad', e', _, hcell⟩ := hn.cells (by omega)
      injection e' with e'
      subst e'
      rw [hcell j hj]
      have hjl : j < l2.length := by rw [hn.len]; exact hj
      rw [List.getElem?_map, List.getElem?_eq_getElem hjl] at hu
      simp at hu
      rw [← hu]
      simp [List.getD, List.getElem?_eq_getElem hjl]
    rcases Nat.eq_zero_or_pos m with h0 | h0
    · subst h0
      have hl2 : l2 = [] := List.eq_nil_of_length_eq_zero hn.len
      subst hl2
      rw [if_pos hw]
      have hrun := run_append_room_cells (P := P) w t o.type e i ht hi g 0 0 0 ad 0 c [] (by simp) (by simp) (by simp) (Nat.le_refl _) (by simp) (by simp)
      unfold Oper.wp execOp
      simp only [ho, resolve, invoke, builtin, Sem.run_bind, Sem.run_pure, Result.andThen_ok, List.map_toArray, List.map_cons, List.map_nil, hs, hx, hrun]
      exact h _ w hown (World.grownBy.refl w _) ⟨g, rfl, hgs, .inl rfl⟩
    · rw [if_pos hw]
      obtain ⟨v', w', hr, r1, r2⟩ := run_append_arg_grows (P := P) w t o.type e i (.int k 0) 1 bytes ht hi hz hz1 hz2 rfl (by decide) ⟨g, 0, none⟩ 0 0 [] (by simp) (by simp) ad m c (l2.map (Value.int k)) (by simp [hn.len]) hnews (by omega) (by omega) (by rw [Nat.zero_add]; exact hbytes)
      unfold Oper.wp execOp
      simp only [ho, resolve, invoke, builtin, Sem.run_bind, Sem.run_pure, Result.andThen_ok, List.map_toArray, List.map_cons, List.map_nil, hs, hx, hr]
      have hblk : ∃ b, v'.ownBlock = some b ∧ b < w'.heap.size ∧ (b = g ∨ w.heap.size ≤ b) := by
        obtain ⟨hl, ⟨_, h9⟩ | ⟨g', cap', cur, hv, hb, hh, _⟩⟩ := r1
        · simp at h9; omega
        · exact ⟨g', by rw [hv]; rfl, (Array.getElem?_eq_some_iff.1 hh).1, .inr hb⟩
      refine h v' w' ?_ r2 hblk
      refine Own.base_le (base := w.heap.size) ?_ (by omega)
      unfold Own
      simpa [hn.len] using r1
end
end Go.Proofs.Ytjhdhnefoclccaa
