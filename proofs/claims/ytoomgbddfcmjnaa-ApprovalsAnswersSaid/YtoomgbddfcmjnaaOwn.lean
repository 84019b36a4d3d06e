/- A row of ints that a function makes for itself by append. -/
import Derived.Test.YtoomgbddfcmjnaaOpen
import Derived.OwnWalk
import Derived.Laws.OwnMore
import Derived.Below
import Derived.Laws.AppendOwnNone
namespace Go.Proofs.Ytoomgbddfcmjnaa
open Go.RowKit
/-- v is nil, or a row of the function's own from block base on, that holds the ints l. -/
def Own (w : World) (base : Nat) (e : TypeId) (k : IntKind) (v : Value) (l : List Int) : Prop := w.ownsRow base e 1 v l.length (l.map (Value.int k))
theorem Own.nil (w : World) (base : Nat) (e : TypeId) (k : IntKind) : Own w base e k (.slice none 0 0) [] := ⟨rfl, .inl ⟨rfl, rfl⟩⟩
theorem Own.alloc {w : World} {base : Nat} {e : TypeId} {k : IntKind} {v : Value} {l : List Int} (h : Own w base e k v l) (o : Obj) : Own (w.alloc o) base e k v l := World.ownsRow.alloc h o
theorem Own.drewN {w : World} {base : Nat} {e : TypeId} {k : IntKind} {v : Value} {l : List Int} (h : Own w base e k v l) (m : Nat) : Own (w.drewN m) base e k v l := h
theorem Own.base_le {w : World} {base base' : Nat} {e : TypeId} {k : IntKind} {v : Value} {l : List Int} (h : Own w base e k v l) (hb : base' ≤ base) : Own w base' e k v l := by
  obtain ⟨h1, h2 | ⟨g, cap, cur, hv, hg, r⟩⟩ := h
  · exact ⟨h1, .inl h2⟩
  · exact ⟨h1, .inr ⟨g, cap, cur, hv, by omega, r⟩⟩
theorem Own.nums {w : World} {base : Nat} {e : TypeId} {k : IntKind} {v : Value} {l : List Int} (h : Own w base e k v l) (hw : ∀ x ∈ l, (Lit.int k x).wf = true) :
    ∃ A c, v = .slice A l.length c ∧ Nums w k w.heap.size A l.length c l := by
  have h0 := h
  obtain ⟨h1, ⟨hv, hn⟩ | ⟨g, cap, cur, hv, hg, hheap, hle, hmax, hsz, htake⟩⟩ := h
  · have : l = [] := List.eq_nil_of_length_eq_zero hn
    subst this
    exact ⟨none, 0, hv, Nums.nil _ _ _⟩
  · refine ⟨some ⟨g, 0, none⟩, cap, hv, rfl, hle, hmax, fun hn => ⟨⟨g, 0, none⟩, rfl, ?_, fun j hj => ?_⟩, hw, fun h => by cases h⟩
    · have := (World.ownsRow.lt h0 g (by rw [hv]; rfl)).2
      exact this
    · have hg' : v.ownBlock = some g := by rw [hv]; rfl
      have := World.ownsRow.cells h0 hg' j (.int k (l.getD j 0)) (by simp [List.getD, List.getElem?_eq_getElem hj])
      exact this
theorem Own.kept {w w' : World} {row : Option Nat} {base : Nat} {e : TypeId} {k : IntKind} {v : Value} {l : List Int} (h : Own w base e k v l) (hg : w.grownBy w' row) (hne : v.ownBlock = none ∨ v.ownBlock ≠ row) : Own w' base e k v l := World.ownsRow.kept h hg hne
theorem Own.below {w w' : World} {base : Nat} {e : TypeId} {k : IntKind} {v : Value} {l : List Int} (h : Own w base e k v l) (hb : Below w.heap.size w w') : Own w' base e k v l := by
  obtain ⟨h1, h2 | ⟨g, cap, cur, hv, hg, hheap, r⟩⟩ := h
  · exact ⟨h1, .inl h2⟩
  · refine ⟨h1, .inr ⟨g, cap, cur, hv, hg, ?_, r⟩⟩
    rw [hb.block g ?_]
    · exact hheap
    · rcases Nat.lt_or_ge g w.heap.size with h | h
      · exact h
      · rw [Array.getElem?_eq_none h] at hheap; cases hheap
/-- a block of another element type stays as it is when a row grows -/
theorem Own.blk {w w' : World} {base f : Nat} {e tf : TypeId} {k : IntKind} {v : Value} {l : List Int} {cs : Array Value} {fr : Nat × Nat} (h : Own w base e k v l) (hg : w.grownBy w' v.ownBlock) (hf : w.heap[f]? = some (.cells cs tf fr)) (hne : e ≠ tf) : w'.heap[f]? = some (.cells cs tf fr) := by
  have hlt : f < w.heap.size := by
    rcases Nat.lt_or_ge f w.heap.size with h | h
    · exact h
    · rw [Array.getElem?_eq_none h] at hf; cases hf
  rw [hg.block f hlt ?_]
  · exact hf
  · obtain ⟨_, ⟨rfl, _⟩ | ⟨g, cap, cur, rfl, _, hh, _⟩⟩ := h
    · simp [Value.ownBlock]
    · simp [Value.ownBlock]
      rintro rfl
      rw [hf] at hh
      injection hh with hh
      injection hh with _ ht
      exact hne ht.symm
theorem Own.setCell {w : World} {base : Nat} {e : TypeId} {k : IntKind} {v : Value} {l : List Int} (h : Own w base e k v l) {a : Addr} (ha : a.block < base) (u : Value) : Own (w.setCell a u) base e k v l := ownsRow_setCell_below h ha u
theorem Own.grow {w0 w w' : World} {base B : Nat} {e : TypeId} {k : IntKind} {v : Value} {l : List Int} (h : Own w base e k v l) (hb : Below B w0 w) (hg : w.grownBy w' v.ownBlock) (hB : B ≤ w.heap.size) (hB' : B ≤ base) : Below B w0 w' :=
  hb.grown hg hB (fun g hg' => by have := (World.ownsRow.lt h g hg').1; omega)
section
variable {P : Program} (w : World)
/-- append(v, y): one int more. -/
theorem app_int {ops : Array Oper} {rest : List Oper} {o : Oper} {a : Act} {Q : Exit → Act → World → Prop} (hgd : o.guard = none) (s x : Operand) (t : TypeId)
    (ho : o.op = .call { callee := .builtin .append, args := #[s, x], argTypes := #[t, t] })
    (base : Nat) (e : TypeId) (bytes : Nat) (k : IntKind) (hinfo : (P.info? e).map (fun i => (i.zero, i.size, i.bytes)) = some (some (.int k 0), 1, bytes)) (ht : P.underlying t = some (.slice e))
    (v : Value) (l : List Int) (hs : a.eval s = v) (hown : Own w base e k v l)
    (y : Int) (g : Nat) (hx : a.eval x = .slice (some ⟨g, 0, none⟩) 1 1) (hc : w.cell? ⟨g, 0, none⟩ = some (.int k y))
    (h63 : l.length + 1 ≤ maxLen) (hbytes : (l.length + 1) * bytes ≤ 140737488355328) (hbase : base ≤ w.heap.size)
    (h : ∀ v' w', Own w' base e k v' (l ++ [y]) → w.grownBy w' v.ownBlock → wpList P ops Q rest (a.put o.dst v') w') : wpList P ops Q (o :: rest) a w := by
  obtain ⟨i, hi, hz, hz1, hz2⟩ := info_parts hinfo
  refine wpList_append_own w hgd s x t ho base e i (.int k 0) 1 bytes ht hi hz hz1 hz2 rfl (by decide) v l.length (l.map (Value.int k)) hs hown ⟨g, 0, none⟩ 1 1 [.int k y] hx rfl ?_ ?_ h63 hbytes hbase ?_
  · intro j u hu
    cases j with
    | zero => simp at hu; subst hu; exact hc
    | succ j => simp at hu
  · intro u hu; simp at hu; subst hu; rfl
  · intro v' w' h2 h3 _
    refine h v' w' ?_ h3
    unfold Own
    simpa using h2
/-- append(v, u...): the ints of another row more. -/
theorem app_ints {ops : Array Oper} {rest : List Oper} {o : Oper} {a : Act} {Q : Exit → Act → World → Prop} (hgd : o.guard = none) (s x : Operand) (t : TypeId)
    (ho : o.op = .call { callee := .builtin .append, args := #[s, x], argTypes := #[t, t] })
    (base : Nat) (e : TypeId) (bytes : Nat) (k : IntKind) (hinfo : (P.info? e).map (fun i => (i.zero, i.size, i.bytes)) = some (some (.int k 0), 1, bytes)) (ht : P.underlying t = some (.slice e))
    (v : Value) (l : List Int) (hs : a.eval s = v) (hown : Own w base e k v l)
    (B : Nat) (A : Option Addr) (m c : Nat) (l2 : List Int) (hx : a.eval x = .slice A m c) (hn : Nums w k B A m c l2)
    (h63 : l.length + m ≤ maxLen) (hbytes : (l.length + m) * bytes ≤ 140737488355328) (hbase : base ≤ w.heap.size)
    (h : ∀ v' w', Own w' base e k v' (l ++ l2) → w.grownBy w' v.ownBlock → wpList P ops Q rest (a.put o.dst v') w') : wpList P ops Q (o :: rest) a w := by
  obtain ⟨i, hi, hz, hz1, hz2⟩ := info_parts hinfo
  rcases A with _ | ad
  · have hm : m = 0 := by
      rcases Nat.eq_zero_or_pos m with h0 | h0
      · exact h0
      · obtain ⟨ad, h, _⟩ := hn.cells h0; cases h
    subst hm
    have hc := hn.zero rfl
    subst hc
    have hl2 : l2 = [] := List.eq_nil_of_length_eq_zero hn.len
    subst hl2
    exact wpList_append_own_none hgd s x t ho base e i 1 ht hi v l.length (l.map (Value.int k)) hs hown hx (h v w (by simpa using hown) (World.grownBy.refl w _))
  · refine wpList_append_own w hgd s x t ho base e i (.int k 0) 1 bytes ht hi hz hz1 hz2 rfl (by decide) v l.length (l.map (Value.int k)) hs hown ad m c (l2.map (Value.int k)) hx (by simp [hn.len]) ?_ ?_ h63 hbytes hbase ?_
    · intro j u hu
      have hj : j < m := by
        have := (List.getElem?_eq_some_iff.1 hu).1
        simpa [hn.len] using this
      obtain ⟨ad', e', _, hcell⟩ := hn.cells (by omega)
      injection e' with e'
      subst e'
      rw [hcell j hj]
      have hjl : j < l2.length := by rw [hn.len]; exact hj
      rw [List.getElem?_map, List.getElem?_eq_getElem hjl] at hu
      simp at hu
      rw [← hu]
      simp [List.getD, List.getElem?_eq_getElem hjl]
    · intro u hu; obtain ⟨y, _, rfl⟩ := List.mem_map.1 hu; rfl
    · intro v' w' h2 h3 _
      refine h v' w' ?_ h3
      unfold Own
      simpa [hn.len] using h2
/-- append(v, u...) in a region that draws its order. -/
theorem step_app_ints {ops : Array Oper} {o : Oper} {a : Act} {K : Act → World → Prop} {Q : Exit → Act → World → Prop} {E : Prop} (hgd : o.guard = none) (s x : Operand) (t : TypeId)
    (ho : o.op = .call { callee := .builtin .append, args := #[s, x], argTypes := #[t, t] })
    (base : Nat) (e : TypeId) (bytes : Nat) (k : IntKind) (hinfo : (P.info? e).map (fun i => (i.zero, i.size, i.bytes)) = some (some (.int k 0), 1, bytes)) (ht : P.underlying t = some (.slice e))
    (v : Value) (l : List Int) (hs : a.eval s = v) (hown : Own w base e k v l)
    (B : Nat) (ad : Addr) (m c : Nat) (l2 : List Int) (hx : a.eval x = .slice (some ad) m c) (hn : Nums w k B (some ad) m c l2)
    (h63 : l.length + m ≤ maxLen) (hbytes : (l.length + m) * bytes ≤ 140737488355328) (hbase : base ≤ w.heap.size)
    (h : ∀ v' w', Own w' base e k v' (l ++ l2) → w.grownBy w' v.ownBlock → K (a.put o.dst v') w') : if Region.wanted o (yielded ops a.tmps) = true then Oper.wp P o a w K Q else E := by
  obtain ⟨i, hi, hz, hz1, hz2⟩ := info_parts hinfo
  have hw : Region.wanted o (yielded ops a.tmps) = true := by simp [Region.wanted, hgd]
  rw [if_pos hw]
  refine wp_append_own w s x t ho base e i (.int k 0) 1 bytes ht hi hz hz1 hz2 rfl (by decide) v l.length (l.map (Value.int k)) hs hown ad m c (l2.map (Value.int k)) hx (by simp [hn.len]) ?_ ?_ h63 hbytes hbase ?_
  · intro j u hu
    have hj : j < m := by
      have := (List.getElem?_eq_some_iff.1 hu).1
      simpa [hn.len] using this
    obtain ⟨ad', e', _, hcell⟩ := hn.cells (by omega)
    injection e' with e'
    subst e'
    rw [hcell j hj]
    have hjl : j < l2.length := by rw [hn.len]; exact hj
    rw [List.getElem?_map, List.getElem?_eq_getElem hjl] at hu
    simp at hu
    rw [← hu]
    simp [List.getD, List.getElem?_eq_getElem hjl]
  · intro u hu; obtain ⟨y, _, rfl⟩ := List.mem_map.1 hu; rfl
  · intro v' w' h2 h3 _
    refine h v' w' ?_ h3
    unfold Own
    simpa [hn.len] using h2
end
end Go.Proofs.Ytoomgbddfcmjnaa
