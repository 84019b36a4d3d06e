/- A row of rows that a function makes for itself by append. -/
import Derived.Test.YtoomgbddfcmjnaaOwn
namespace Go.Proofs.Ytoomgbddfcmjnaa
open Go.RowKit
/-- two rows of different element types lie in different blocks -/
theorem Own.apart {w : World} {base base' : Nat} {e eb : TypeId} {k : IntKind} {v vi : Value} {l : List Int} {n : Nat} {xs : List Value} (h : Own w base' eb k vi l) (ho : w.ownsRow base e 1 v n xs) (hne : eb ≠ e) :
    vi.ownBlock = none ∨ vi.ownBlock ≠ v.ownBlock := by
  obtain ⟨_, ⟨rfl, _⟩ | ⟨g, cap, cur, rfl, _, hh, _⟩⟩ := h
  · exact .inl rfl
  · refine .inr fun he => ?_
    obtain ⟨_, ⟨rfl, _⟩ | ⟨g', cap', cur', rfl, _, hh', _⟩⟩ := ho
    · simp [Value.ownBlock] at he
    · simp [Value.ownBlock] at he
      subst he
      rw [hh] at hh'
      injection hh' with hh'
      injection hh' with _ ht
      exact hne ht
def AllOwn (w : World) (base : Nat) (eb : TypeId) (k : IntKind) : List Value → List (List Int) → Prop
  | [], [] => True
  | v :: vs, l :: ls => Own w base eb k v l ∧ AllOwn w base eb k vs ls
  | _, _ => False
theorem AllOwn.len {w : World} {base : Nat} {eb : TypeId} {k : IntKind} : ∀ {vs : List Value} {ls : List (List Int)}, AllOwn w base eb k vs ls → vs.length = ls.length
  | [], [], _ => rfl
  | _ :: _, _ :: _, h => by simp [AllOwn.len h.2]
  | [], _ :: _, h => h.elim
  | _ :: _, [], h => h.elim
theorem AllOwn.imp {w w' : World} {base base' : Nat} {eb : TypeId} {k : IntKind} (hi : ∀ v l, Own w base eb k v l → Own w' base' eb k v l) : ∀ {vs : List Value} {ls : List (List Int)}, AllOwn w base eb k vs ls → AllOwn w' base' eb k vs ls
  | [], [], _ => trivial
  | _ :: _, _ :: _, h => ⟨hi _ _ h.1, AllOwn.imp hi h.2⟩
  | [], _ :: _, h => h.elim
  | _ :: _, [], h => h.elim
theorem AllOwn.snoc {w : World} {base : Nat} {eb : TypeId} {k : IntKind} {v : Value} {l : List Int} (hv : Own w base eb k v l) : ∀ {vs : List Value} {ls : List (List Int)}, AllOwn w base eb k vs ls → AllOwn w base eb k (vs ++ [v]) (ls ++ [l])
  | [], [], _ => ⟨hv, trivial⟩
  | _ :: _, _ :: _, h => ⟨h.1, AllOwn.snoc hv h.2⟩
  | [], _ :: _, h => h.elim
  | _ :: _, [], h => h.elim
theorem AllOwn.get {w : World} {base : Nat} {eb : TypeId} {k : IntKind} : ∀ {vs : List Value} {ls : List (List Int)} (_ : AllOwn w base eb k vs ls) (i : Nat), i < ls.length → Own w base eb k (vs.getD i undef) (ls.getD i [])
  | [], [], _, i, hi => absurd hi (by simp)
  | _ :: _, _ :: _, h, 0, _ => h.1
  | _ :: _, _ :: _, h, i + 1, hi => by simpa using AllOwn.get h.2 i (by simpa using hi)
  | [], _ :: _, h, _, _ => h.elim
  | _ :: _, [], h, _, _ => h.elim
/-- v is nil, or a row of the function's own from block base on, whose elements are rows of its own that hold the lists ls. -/
def OwnRows (w : World) (base : Nat) (e eb : TypeId) (k : IntKind) (v : Value) (ls : List (List Int)) : Prop :=
  ∃ vs : List Value, w.ownsRow base e 1 v vs.length vs ∧ AllOwn w base eb k vs ls
theorem OwnRows.nil (w : World) (base : Nat) (e eb : TypeId) (k : IntKind) : OwnRows w base e eb k (.slice none 0 0) [] := ⟨[], ⟨rfl, .inl ⟨rfl, rfl⟩⟩, trivial⟩
theorem ownsRow_below {w w' : World} {base size n : Nat} {e : TypeId} {v : Value} {xs : List Value} (h : w.ownsRow base e size v n xs) (hb : Below w.heap.size w w') : w'.ownsRow base e size v n xs := by
  obtain ⟨h1, h2 | ⟨g, cap, cur, hv, hg, hheap, r⟩⟩ := h
  · exact ⟨h1, .inl h2⟩
  · refine ⟨h1, .inr ⟨g, cap, cur, hv, hg, ?_, r⟩⟩
    rw [hb.block g ?_]
    · exact hheap
    · rcases Nat.lt_or_ge g w.heap.size with h | h
      · exact h
      · rw [Array.getElem?_eq_none h] at hheap; cases hheap
theorem OwnRows.below {w w' : World} {base : Nat} {e eb : TypeId} {k : IntKind} {v : Value} {ls : List (List Int)} (h : OwnRows w base e eb k v ls) (hb : Below w.heap.size w w') : OwnRows w' base e eb k v ls := by
  obtain ⟨vs, h1, h2⟩ := h
  exact ⟨vs, ownsRow_below h1 hb, h2.imp fun _ _ ho => ho.below hb⟩
theorem OwnRows.drewN {w : World} {base : Nat} {e eb : TypeId} {k : IntKind} {v : Value} {ls : List (List Int)} (h : OwnRows w base e eb k v ls) (m : Nat) : OwnRows (w.drewN m) base e eb k v ls := h.below (w' := w.drewN m) ⟨rfl, rfl, rfl, Nat.le_refl _, fun _ _ => rfl⟩
theorem OwnRows.base_le {w : World} {base base' : Nat} {e eb : TypeId} {k : IntKind} {v : Value} {ls : List (List Int)} (h : OwnRows w base e eb k v ls) (hb : base' ≤ base) : OwnRows w base' e eb k v ls := by
  obtain ⟨vs, ⟨h1, h2 | ⟨g, cap, cur, hv, hg, r⟩⟩, h3⟩ := h
  · exact ⟨vs, ⟨h1, .inl h2⟩, h3.imp fun _ _ ho => ho.base_le hb⟩
  · exact ⟨vs, ⟨h1, .inr ⟨g, cap, cur, hv, by omega, r⟩⟩, h3.imp fun _ _ ho => ho.base_le hb⟩
theorem OwnRows.grow {w0 w w' : World} {base B : Nat} {e eb : TypeId} {k : IntKind} {v : Value} {ls : List (List Int)} (h : OwnRows w base e eb k v ls) (hb : Below B w0 w) (hg : w.grownBy w' v.ownBlock) (hB : B ≤ w.heap.size) (hB' : B ≤ base) : Below B w0 w' := by
  obtain ⟨vs, h1, _⟩ := h
  exact hb.grown hg hB (fun g hg' => by have := (World.ownsRow.lt h1 g hg').1; omega)
/-- the row's own value, its length, and where its elements lie -/
theorem OwnRows.read {w : World} {base : Nat} {e eb : TypeId} {k : IntKind} {v : Value} {ls : List (List Int)} (h : OwnRows w base e eb k v ls) :
    ∃ A c, v = .slice A ls.length c ∧ (A = none → ls = []) ∧ ∀ j, j < ls.length → ∃ g vi, A = some ⟨g, 0, none⟩ ∧ g < w.heap.size ∧ w.cell? ⟨g, j, none⟩ = some vi ∧ Own w base eb k vi (ls.getD j []) := by
  obtain ⟨vs, h1, h2⟩ := h
  have hlen := h2.len
  have h10 := h1
  obtain ⟨_, ⟨rfl, hn⟩ | ⟨g, cap, cur, rfl, hg, hheap, hle, hmax, hsz, htake⟩⟩ := h1
  · have : ls = [] := List.eq_nil_of_length_eq_zero (by omega)
    subst this
    exact ⟨none, 0, rfl, fun _ => rfl, fun j hj => absurd hj (by simp)⟩
  · refine ⟨some ⟨g, 0, none⟩, cap, by rw [hlen], (fun h => by cases h), fun j hj => ⟨g, vs.getD j undef, rfl, ?_, ?_, h2.get j hj⟩⟩
    · exact (World.ownsRow.lt h10 g rfl).2
    · have hjl : j < vs.length := by omega
      have := World.ownsRow.cells h10 (g := g) rfl j (vs.getD j undef) (by simp [List.getD, List.getElem?_eq_getElem hjl])
      have e : (⟨g, 0, none⟩ : Addr).add j = ⟨g, j, none⟩ := by unfold Addr.add; by_cases h : j = 0 <;> simp [h]
      rwa [e] at this
section
variable {P : Program} (w : World)
/-- append(v, y): one row more. -/
theorem app_row {ops : Array Oper} {rest : List Oper} {o : Oper} {a : Act} {Q : Exit → Act → World → Prop} (hgd : o.guard = none) (s x : Operand) (t : TypeId)
    (ho : o.op = .call { callee := .builtin .append, args := #[s, x], argTypes := #[t, t] })
    (base : Nat) (e eb : TypeId) (hee : eb ≠ e) (bytes : Nat) (k : IntKind) (hinfo : (P.info? e).map (fun i => (i.zero, i.size, i.bytes)) = some (some (.slice none 0 0), 1, bytes)) (ht : P.underlying t = some (.slice e))
    (v : Value) (ls : List (List Int)) (hs : a.eval s = v) (hown : OwnRows w base e eb k v ls)
    (y : Value) (l : List Int) (hy : Own w base eb k y l) (g : Nat) (hx : a.eval x = .slice (some ⟨g, 0, none⟩) 1 1) (hc : w.cell? ⟨g, 0, none⟩ = some y) (hy1 : y.oneCell' = true)
    (h63 : ls.length + 1 ≤ maxLen) (hbytes : (ls.length + 1) * bytes ≤ 140737488355328) (hbase : base ≤ w.heap.size)
    (h : ∀ v' w', OwnRows w' base e eb k v' (ls ++ [l]) → w.grownBy w' v.ownBlock → wpList P ops Q rest (a.put o.dst v') w') : wpList P ops Q (o :: rest) a w := by
  obtain ⟨i, hi, hz, hz1, hz2⟩ := info_parts hinfo
  obtain ⟨vs, h1, h2⟩ := hown
  have hlen := h2.len
  refine wpList_append_own w hgd s x t ho base e i (.slice none 0 0) 1 bytes ht hi hz hz1 hz2 rfl (by decide) v vs.length vs hs h1 ⟨g, 0, none⟩ 1 1 [y] hx rfl ?_ ?_ (by omega) (by rw [hlen]; exact hbytes) hbase ?_
  · intro j u hu
    cases j with
    | zero => simp at hu; subst hu; exact hc
    | succ j => simp at hu
  · intro u hu; simp at hu; subst hu; exact hy1
  · intro v' w' h3 h4 _
    refine h v' w' ⟨vs ++ [y], by simpa using h3, AllOwn.snoc (hy.kept h4 (hy.apart h1 hee)) (h2.imp fun _ _ ho => ho.kept h4 (ho.apart h1 hee))⟩ h4
end
end Go.Proofs.Ytoomgbddfcmjnaa
