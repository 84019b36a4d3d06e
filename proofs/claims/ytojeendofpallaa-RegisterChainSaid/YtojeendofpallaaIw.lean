/- 'u, v := made.View(c, s), made.View(c, s)': one of the calls, its variable's box and its store, in a region that draws its order. -/
import Derived.Test.YtojeendofpallaaIv
import Derived.Test.YtojeendofpallaaBo
namespace Go.Proofs.Ytojeendofpallaa
open Go.RowKit
def SV (base b f g B : Nat) (sv : Value) (ss : List Int) (W0 : World) (w : World) : Prop := Cod w base g ∧ SpO w b (.agg #[sv]) ss ∧ Box w f sv 24 ∧ Below B W0 w
theorem SV.drew {base b f g B : Nat} {sv : Value} {ss : List Int} {W0 w : World} (h : SV base b f g B sv ss W0 w) : SV base b f g B sv ss W0 (w.drewN 1) := by
  have hb : Below w.heap.size w (w.drewN 1) := below_drewN (Below.refl _ _) 1
  exact ⟨h.1.below hb, h.2.1.below hb, h.2.2.1.below hb, below_drewN h.2.2.2 1⟩
theorem SV.turn {base b f g B : Nat} {sv : Value} {ss : List Int} {W0 w w' : World} (h : SV base b f g B sv ss W0 w) (hc : Cod w' base g) (hg : w.grownBy w' (some g)) (hB : B ≤ g) (hB2 : B ≤ w.heap.size) : SV base b f g B sv ss W0 w' :=
  ⟨hc, h.2.1.cod h.1 hg, h.2.2.1.cod h.1 hg (by decide), h.2.2.2.grown hg hB2 (fun r e => by injection e with e; omega)⟩
theorem SV.alloc {base b f g B : Nat} {sv : Value} {ss : List Int} {W0 w : World} (h : SV base b f g B sv ss W0 w) (hB2 : B ≤ w.heap.size) (o : Obj) : SV base b f g B sv ss W0 (w.alloc o) := by
  have hb : Below w.heap.size w (w.alloc o) := (Below.refl _ _).alloc (Nat.le_refl _) _
  exact ⟨h.1.below hb, h.2.1.below hb, h.2.2.1.below hb, h.2.2.2.trans (hb.mono hB2)⟩
/-- a store into a box of ours that is no other's -/
theorem VwO.set {w : World} {b f : Nat} {v u : Value} {ss : List Int} {vs : List (List Int)} (h : VwO w b v ss vs) (hf : f < b) : VwO (w.setCell ⟨f, 0, none⟩ u) b v ss vs := by
  obtain ⟨⟨q, rfl, ho⟩, hv⟩ := h
  exact ⟨⟨q, rfl, ho.set hf u⟩, hv⟩
theorem OwnRows.box {w : World} {base f : Nat} {e eb T : TypeId} {k : IntKind} {v u x : Value} {ls : List (List Int)} (h : OwnRows w base e eb k v ls) (hb : Box w f x T) (he : e ≠ T) (heb : eb ≠ T) : OwnRows (w.setCell ⟨f, 0, none⟩ u) base e eb k v ls := by
  have hb0 : w.heap[f]? = some (.cells #[x] T (0, 0)) := hb
  have hg := grownBy_set w f 0 u
  obtain ⟨vs, h1, h2⟩ := h
  refine ⟨vs, World.ownsRow.kept h1 hg ?_, h2.imp fun _ _ ho => ho.kept hg ?_⟩
  · obtain ⟨_, ⟨rfl, _⟩ | ⟨g', cap, cur, rfl, _, hh, _⟩⟩ := h1
    · exact .inl rfl
    · refine .inr fun e9 => ?_
      simp [Value.ownBlock] at e9
      subst e9
      rw [hh] at hb0
      injection hb0 with hb0
      injection hb0 with _ ht
      exact he ht
  · obtain ⟨_, ⟨rfl, _⟩ | ⟨g', cap, cur, rfl, _, hh, _⟩⟩ := ho
    · exact .inl rfl
    · refine .inr fun e9 => ?_
      simp [Value.ownBlock] at e9
      subst e9
      rw [hh] at hb0
      injection hb0 with hb0
      injection hb0 with _ ht
      exact heb ht
theorem VwO.box {w : World} {b f : Nat} {T : TypeId} {v u x : Value} {ss : List Int} {vs : List (List Int)} (h : VwO w b v ss vs) (hb : Box w f x T) (he : 22 ≠ T) (heb : 3 ≠ T) : VwO (w.setCell ⟨f, 0, none⟩ u) b v ss vs := by
  obtain ⟨⟨q, rfl, ho⟩, hv⟩ := h
  exact ⟨⟨q, rfl, ho.box hb he heb⟩, hv⟩
theorem SV.box {base b f g B f2 : Nat} {sv x u : Value} {ss : List Int} {W0 w : World} (h : SV base b f g B sv ss W0 w) (hb : Box w f2 x 27) (hB : B ≤ f2) (hbs : base ≤ f2) : SV base b f g B sv ss W0 (w.setCell ⟨f2, 0, none⟩ u) := by
  have hb0 : w.heap[f2]? = some (.cells #[x] 27 (0, 0)) := hb
  have hg := grownBy_set w f2 0 u
  obtain ⟨h1, h2, h3, h4⟩ := h
  have hne : f2 ≠ g := by
    intro e
    obtain ⟨A, n, c, i, l, _, _, _, h9, _⟩ := h1
    rw [← e, hb0] at h9
    injection h9 with h9
    injection h9 with _ ht
    exact absurd ht (by decide)
  have hnf : f ≠ f2 := by
    intro e
    have h9 : w.heap[f]? = some (.cells #[sv] 24 (0, 0)) := h3
    rw [e, hb0] at h9
    injection h9 with h9
    injection h9 with _ ht
    exact absurd ht (by decide)
  refine ⟨h1.grown hg (fun r e => by injection e with e; omega), ?_, h3.far hg hnf, h4.setCell (by simpa using hB) _⟩
  obtain ⟨⟨q, hq, ho⟩, hs⟩ := h2
  refine ⟨⟨q, hq, ho.kept hg ?_⟩, hs⟩
  obtain ⟨_, ⟨rfl, _⟩ | ⟨g', cap, cur, rfl, _, hh, _⟩⟩ := ho
  · exact .inl rfl
  · refine .inr fun e9 => ?_
    simp [Value.ownBlock] at e9
    subst e9
    rw [hh] at hb0
    injection hb0 with hb0
    injection hb0 with _ ht
    exact absurd ht (by decide)
/-- what is known of one of the calls: i0 its pointer, i1 its space, i2 the call, i3 the box, i4 the store -/
structure One (b B : Nat) (ss : List Int) (p s : Value) (i0 i1 i2 i3 i4 : Nat) (listed : Array Bool) (xm xl xc xa : Value) (w : World) : Prop where
  mv : up listed i0 → xm = p
  ld : up listed i1 → xl = s
  cl : up listed i2 → ∃ A n c vs, xc = .agg #[.slice A n c] ∧ VwO w b xc ss vs
  al : up listed i3 → ∃ f, xa = .pointer (some ⟨f, 0, none⟩) ∧ B ≤ f ∧ (¬ up listed i4 → Box w f (.slice none 0 0) 27) ∧ (up listed i4 → ∃ q, xc = .agg #[q] ∧ Box w f q 27)
  st : up listed i4 → up listed i2 ∧ up listed i3
theorem up_none (n k : Nat) : ¬ up (Array.replicate n false) k := fun hk => by
  unfold up at hk
  simp only [Array.getD_eq_getD_getElem?, Array.getElem?_replicate] at hk
  split at hk <;> simp at hk
theorem One.start {b B : Nat} {ss : List Int} {p s : Value} {i0 i1 i2 i3 i4 n : Nat} {xm xl xc xa : Value} {w : World} : One b B ss p s i0 i1 i2 i3 i4 (Array.replicate n false) xm xl xc xa w := by
  have h : ∀ k, ¬ up (Array.replicate n false) k := fun k hk => by
    unfold up at hk
    simp only [Array.getD_eq_getD_getElem?, Array.getElem?_replicate] at hk
    split at hk <;> simp at hk
  exact ⟨fun h9 => absurd h9 (h _), fun h9 => absurd h9 (h _), fun h9 => absurd h9 (h _), fun h9 => absurd h9 (h _), fun h9 => absurd h9 (h _)⟩
/-- something else has come up, which left views and boxes as they were -/
theorem One.other {b B : Nat} {ss : List Int} {p s : Value} {i0 i1 i2 i3 i4 i : Nat} {listed : Array Bool} {xm xl xc xa : Value} {w w' : World} (h : One b B ss p s i0 i1 i2 i3 i4 listed xm xl xc xa w) (hi : i < listed.size) (hne : i ≠ i0 ∧ i ≠ i1 ∧ i ≠ i2 ∧ i ≠ i3 ∧ i ≠ i4)
    (hV : ∀ v vs, VwO w b v ss vs → VwO w' b v ss vs) (hB : ∀ f q, xa = .pointer (some ⟨f, 0, none⟩) → Box w f q 27 → Box w' f q 27) : One b B ss p s i0 i1 i2 i3 i4 (listed.setIfInBounds i true) xm xl xc xa w' := by
  have e : ∀ k, i ≠ k → (up (listed.setIfInBounds i true) k ↔ up listed k) := fun k hk => by rw [up_set hi]; exact ⟨fun h9 => h9.elim (fun e => absurd e.symm hk) id, .inr⟩
  obtain ⟨h0, h1, h2, h3, h4⟩ := hne
  refine ⟨fun hu => h.mv ((e _ h0).1 hu), fun hu => h.ld ((e _ h1).1 hu), fun hu => ?_, fun hu => ?_, fun hu => ?_⟩
  · obtain ⟨A, n, c, vs, q, hv⟩ := h.cl ((e _ h2).1 hu)
    exact ⟨A, n, c, vs, q, hV _ _ hv⟩
  · obtain ⟨f, q1, q2, q3, q4⟩ := h.al ((e _ h3).1 hu)
    refine ⟨f, q1, q2, fun hn => hB _ _ q1 (q3 fun h9 => hn ((e _ h4).2 h9)), fun hy => ?_⟩
    obtain ⟨q, q5, q6⟩ := q4 ((e _ h4).1 hy)
    exact ⟨q, q5, hB _ _ q1 q6⟩
  · have := h.st ((e _ h4).1 hu)
    exact ⟨(e _ h2).2 this.1, (e _ h3).2 this.2⟩
/-- one of its own has come up -/
theorem One.own {b B : Nat} {ss : List Int} {p s : Value} {i0 i1 i2 i3 i4 i : Nat} {listed : Array Bool} {xm xl xc xa xm' xl' xc' xa' : Value} {w w' : World} (h : One b B ss p s i0 i1 i2 i3 i4 listed xm xl xc xa w) (hi : i < listed.size)
    (hV : ∀ v vs, VwO w b v ss vs → VwO w' b v ss vs)
    (q0 : (i = i0 ∧ xm' = p) ∨ (i ≠ i0 ∧ xm' = xm)) (q1 : (i = i1 ∧ xl' = s) ∨ (i ≠ i1 ∧ xl' = xl))
    (q2 : (i = i2 ∧ ¬ up listed i4 ∧ ∃ A n c vs, xc' = .agg #[.slice A n c] ∧ VwO w' b xc' ss vs) ∨ (i ≠ i2 ∧ xc' = xc))
    (q3 : (i = i3 ∧ i ≠ i4 ∧ ¬ up listed i4 ∧ ∃ f, xa' = .pointer (some ⟨f, 0, none⟩) ∧ B ≤ f ∧ Box w' f (.slice none 0 0) 27) ∨ (i ≠ i3 ∧ xa' = xa))
    (q4 : (i = i4 ∧ i ≠ i2 ∧ up listed i2 ∧ up listed i3 ∧ ∀ f, xa = .pointer (some ⟨f, 0, none⟩) → ∃ q, xc = .agg #[q] ∧ Box w' f q 27) ∨ (i ≠ i4 ∧ ∀ f q, xa = .pointer (some ⟨f, 0, none⟩) → Box w f q 27 → Box w' f q 27)) :
    One b B ss p s i0 i1 i2 i3 i4 (listed.setIfInBounds i true) xm' xl' xc' xa' w' := by
  have e : ∀ k, i ≠ k → (up (listed.setIfInBounds i true) k ↔ up listed k) := fun k hk => by rw [up_set hi]; exact ⟨fun h9 => h9.elim (fun e => absurd e.symm hk) id, .inr⟩
  refine ⟨fun hu => ?_, fun hu => ?_, fun hu => ?_, fun hu => ?_, fun hu => ?_⟩
  · rcases q0 with ⟨_, e0⟩ | ⟨e0, rfl⟩
    · exact e0
    · exact h.mv ((e _ e0).1 hu)
  · rcases q1 with ⟨_, e0⟩ | ⟨e0, rfl⟩
    · exact e0
    · exact h.ld ((e _ e0).1 hu)
  · rcases q2 with ⟨_, _, e0⟩ | ⟨e0, rfl⟩
    · exact e0
    · obtain ⟨A, n, c, vs, q, hv⟩ := h.cl ((e _ e0).1 hu)
      exact ⟨A, n, c, vs, q, hV _ _ hv⟩
  · rcases q3 with ⟨_, e4, hn4, f, e0, e1, e2⟩ | ⟨e0, rfl⟩
    · exact ⟨f, e0, e1, fun _ => e2, fun hy => absurd ((e _ e4).1 hy) hn4⟩
    · obtain ⟨f, r1, r2, r3, r4⟩ := h.al ((e _ e0).1 hu)
      refine ⟨f, r1, r2, fun hn => ?_, fun hy => ?_⟩
      · rcases q4 with ⟨rfl, _⟩ | ⟨e4, hb⟩
        · exact absurd ((up_set hi).2 (.inl rfl)) hn
        · exact hb _ _ r1 (r3 fun h9 => hn ((e _ e4).2 h9))
      · rcases q4 with ⟨rfl, e5, _, _, hb⟩ | ⟨e4, hb⟩
        · obtain ⟨q, g1, g2⟩ := hb f r1
          rcases q2 with ⟨e6, _⟩ | ⟨_, rfl⟩
          · exact absurd e6 e5
          · exact ⟨q, g1, g2⟩
        · obtain ⟨q, g1, g2⟩ := r4 ((e _ e4).1 hy)
          rcases q2 with ⟨_, e6, _⟩ | ⟨_, rfl⟩
          · exact absurd ((e _ e4).1 hy) e6
          · exact ⟨q, g1, hb _ _ r1 g2⟩
  · rcases q4 with ⟨_, _, e2, e3, _⟩ | ⟨e4, _⟩
    · exact ⟨(up_set hi).2 (.inr e2), (up_set hi).2 (.inr e3)⟩
    · have := h.st ((e _ e4).1 hu)
      exact ⟨(up_set hi).2 (.inr this.1), (up_set hi).2 (.inr this.2)⟩
theorem dist_other {listed : Array Bool} {i p q : Nat} {x y : Value} (h : up listed p → up listed q → x ≠ y) (hi : i < listed.size) (hp : i ≠ p) (hq : i ≠ q) : up (listed.setIfInBounds i true) p → up (listed.setIfInBounds i true) q → x ≠ y := by
  rw [up_set hi, up_set hi]
  exact fun h1 h2 => h (h1.elim (fun e => absurd e.symm hp) id) (h2.elim (fun e => absurd e.symm hq) id)
theorem up_other {listed : Array Bool} {i p : Nat} (hi : i < listed.size) (hp : i ≠ p) (h : up (listed.setIfInBounds i true) p) : up listed p := by
  rw [up_set hi] at h
  exact h.elim (fun e => absurd e.symm hp) id
theorem One.lt {b B : Nat} {ss : List Int} {p s : Value} {i0 i1 i2 i3 i4 : Nat} {listed : Array Bool} {xm xl xc xa : Value} {w : World} (h : One b B ss p s i0 i1 i2 i3 i4 listed xm xl xc xa w) (hu : up listed i3) : xa ≠ .pointer (some ⟨w.heap.size, 0, none⟩) := by
  obtain ⟨f, q1, _, q3, q4⟩ := h.al hu
  rw [q1]
  intro e
  injection e with e
  injection e with e
  injection e with e
  subst e
  by_cases h4 : up listed i4
  · obtain ⟨q, _, hb⟩ := q4 h4
    exact absurd hb.lt (by omega)
  · exact absurd (q3 h4).lt (by omega)
theorem VwO.base_le {w : World} {b b2 : Nat} {v : Value} {ss : List Int} {vs : List (List Int)} (h : VwO w b v ss vs) (hb : b2 ≤ b) : VwO w b2 v ss vs := by
  obtain ⟨⟨q, rfl, ho⟩, hv⟩ := h
  exact ⟨⟨q, rfl, ho.base_le hb⟩, hv⟩
end Go.Proofs.Ytojeendofpallaa
