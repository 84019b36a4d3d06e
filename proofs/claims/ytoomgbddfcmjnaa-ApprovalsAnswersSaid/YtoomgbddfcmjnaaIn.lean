/- 'append(append(append([]T{}, l[:at]...), x), l[at:]...)' in a region that draws its order: what has come up. -/
import Derived.Test.YtoomgbddfcmjnaaGr
import Derived.Test.YtoomgbddfcmjnaaIz
namespace Go.Proofs.Ytoomgbddfcmjnaa
open Go.RowKit
section
variable {P : Program} {ops : Array Oper} {Q : Exit → Act → World → Prop} {α : Type} (R : Rec α)
/-- append(v, x...) of records -/
theorem wpOp_app_recs {i : Nat} {o : Oper} (hoi : ops[i]? = some o) (hgd : o.guard = none) {K : Act → World → Prop} {a : Act} {w : World} (s x : Operand) (t : TypeId)
    (ho : o.op = .call { callee := .builtin .append, args := #[s, x], argTypes := #[t, t] })
    (base : Nat) (z : Value) (bytes : Nat) (hinfo : (P.info? R.ty).map (fun i => (i.zero, i.size, i.bytes)) = some (some z, R.k, bytes)) (hz9 : z.cells.size = R.k) (hby : bytes ≤ 1000) (ht : P.underlying t = some (.slice R.ty))
    (v : Value) (L : List α) (hs : a.eval s = v) (hown : ROwn R w base v L)
    (B : Nat) (A : Option Addr) (m c : Nat) (M : List α) (hx : a.eval x = .slice A m c) (hn : RRow R w B A m c M)
    (h63 : L.length + m ≤ 1000) (hbase : base ≤ w.heap.size)
    (h : ∀ v' w', ROwn R w' base v' (L ++ M) → w.grownBy w' v.ownBlock → K (a.put o.dst v') w') : wpOp P ops Q i K a w := by
  obtain ⟨inf, hi, hz, hz1, hz2⟩ := info_parts hinfo
  rcases A with _ | ad
  · have hm : m = 0 := by
      rcases Nat.eq_zero_or_pos m with h0 | h0
      · exact h0
      · obtain ⟨ad, h, _⟩ := hn.cells h0; cases h
    subst hm
    have hc := hn.zero rfl
    subst hc
    have hl2 : M = [] := List.eq_nil_of_length_eq_zero hn.len
    subst hl2
    refine wpOp_wp hoi hgd ?_
    have hrun := run_append_owned_none (P := P) (w := w) base t o.type R.ty inf R.k ht hi v L.length (R.flat L) hown
    unfold Oper.wp execOp
    simp only [ho, resolve, invoke, builtin, Sem.run_bind, Sem.run_pure, Result.andThen_ok, List.map_toArray, List.map_cons, List.map_nil, hs, hx, hrun]
    exact h v w (by simpa using hown) (World.grownBy.refl w _)
  · refine wpOp_wp hoi hgd (wp_append_own w s x t ho base R.ty inf _ R.k bytes ht hi hz hz1 hz2 hz9 R.pos v L.length (R.flat L) hs hown ad m c (R.flat M) hx ?_ ?_ ?_ (by simp only [maxLen]; omega) ?_ hbase ?_)
    · rw [R.flat_len, hn.len]
    · intro j u hu
      have hj := (List.getElem?_eq_some_iff.1 hu).1
      rw [R.flat_len] at hj
      have hq : j / R.k < M.length := Nat.div_lt_of_lt_mul (by rw [Nat.mul_comm]; exact hj)
      have hi7 : j % R.k < R.k := Nat.mod_lt _ R.pos
      have hjj : j = j / R.k * R.k + j % R.k := by rw [Nat.mul_comm]; exact (Nat.div_add_mod _ _).symm
      rw [hjj, R.flat_get M _ hq _ hi7] at hu
      obtain ⟨ad', e, _, hc⟩ := hn.cells (by rw [← hn.len]; exact Nat.lt_of_le_of_lt (Nat.zero_le _) hq)
      injection e with e
      subst e
      rw [hjj]
      exact hc _ (by rw [← hn.len]; exact hq) _ _ hu
    · intro u hu
      obtain ⟨x, _, hx2⟩ := List.mem_flatMap.1 hu
      exact R.one x u hx2
    · exact Nat.le_trans (Nat.mul_le_mul h63 hby) (by decide)
    · intro v' w' h2 h3 _
      refine h v' w' ?_ h3
      unfold ROwn
      rw [R.flat_append, List.length_append, hn.len]
      exact h2
end
theorem heap_oldI {w : World} {g : Nat} {o o' : Obj} (h : w.heap[g]? = some o) : (w.alloc o').heap[g]? = some o := by
  have := (Array.getElem?_eq_some_iff.1 h).1
  show (w.heap.push o')[g]? = some o
  rw [Array.getElem?_push_lt this]
  rw [← h, Array.getElem?_eq_getElem this]
/-- how far the three appends have come; e the empty literal's operation, l the literal's of x, a1 a2 a3 the appends' -/
structure InsI {α : Type} (R : Rec α) (e l a1 a2 a3 : Nat) (W0 : World) (L1 : List α) (x : α) (L2 : List α) (listed : Array Bool) (se sl s1 s2 s3 : Value) (w : World) : Prop where
  bel : Below W0.heap.size W0 w
  o2 : up listed a2 → up listed a1
  o3 : up listed a3 → up listed a2
  pe : up listed e → ¬ up listed a1 → ∃ g, se = .slice (some ⟨g, 0, none⟩) 0 0 ∧ W0.heap.size ≤ g ∧ w.heap[g]? = some (.cells #[] R.ty (0, 0)) ∧ (up listed l → ¬ up listed a2 → ∀ q, sl = .slice (some ⟨q, 0, none⟩) 1 1 → q ≠ g)
  pl : up listed l → ¬ up listed a2 → ∃ q, sl = .slice (some ⟨q, 0, none⟩) 1 1 ∧ w.heap[q]? = some (.cells (R.cells x).toArray R.ty (0, 0))
  p1 : up listed a1 → ¬ up listed a2 → ROwn R w W0.heap.size s1 L1
  p2 : up listed a2 → ¬ up listed a3 → ROwn R w W0.heap.size s2 (L1 ++ [x])
  p3 : up listed a3 → ROwn R w W0.heap.size s3 (L1 ++ [x] ++ L2)
section
variable {α : Type} {R : Rec α} {e l a1 a2 a3 : Nat} {W0 : World} {L1 : List α} {x : α} {L2 : List α} {listed : Array Bool} {se sl s1 s2 s3 : Value} {w : World}
theorem InsI.start {n : Nat} : InsI R e l a1 a2 a3 W0 L1 x L2 (Array.replicate n false) se sl s1 s2 s3 (W0.drewN 1) :=
  ⟨below_drewN (Below.refl _ _) 1, fun h => absurd h (up_start _ _), fun h => absurd h (up_start _ _), fun h => absurd h (up_start _ _), fun h => absurd h (up_start _ _), fun h => absurd h (up_start _ _), fun h => absurd h (up_start _ _), fun h => absurd h (up_start _ _)⟩
theorem InsI.same (h : InsI R e l a1 a2 a3 W0 L1 x L2 listed se sl s1 s2 s3 w) {i : Nat} (hi : i < listed.size) (he : i ≠ e) (hl : i ≠ l) (h1 : i ≠ a1) (h2 : i ≠ a2) (h3 : i ≠ a3) :
    InsI R e l a1 a2 a3 W0 L1 x L2 (listed.setIfInBounds i true) se sl s1 s2 s3 w := by
  constructor
  · exact h.bel
  · rw [up_rest hi h1, up_rest hi h2]; exact h.o2
  · rw [up_rest hi h2, up_rest hi h3]; exact h.o3
  · rw [up_rest hi he, up_rest hi h1, up_rest hi hl, up_rest hi h2]; exact h.pe
  · rw [up_rest hi hl, up_rest hi h2]; exact h.pl
  · rw [up_rest hi h1, up_rest hi h2]; exact h.p1
  · rw [up_rest hi h2, up_rest hi h3]; exact h.p2
  · rw [up_rest hi h3]; exact h.p3
/-- the empty literal -/
theorem InsI.empty (h : InsI R e l a1 a2 a3 W0 L1 x L2 listed se sl s1 s2 s3 w) (hi : e < listed.size) (hl : e ≠ l) (h1 : e ≠ a1) (h2 : e ≠ a2) (h3 : e ≠ a3) :
    InsI R e l a1 a2 a3 W0 L1 x L2 (listed.setIfInBounds e true) (.slice (some ⟨w.heap.size, 0, none⟩) 0 0) sl s1 s2 s3 (w.alloc (.cells #[] R.ty (0, 0))) := by
  constructor
  · exact h.bel.alloc h.bel.size _
  · rw [up_rest hi h1, up_rest hi h2]; exact h.o2
  · rw [up_rest hi h2, up_rest hi h3]; exact h.o3
  · rw [up_rest hi h1, up_rest hi hl, up_rest hi h2]
    refine fun _ _ => ⟨w.heap.size, rfl, h.bel.size, heap_alloc_new w _, fun hu hn q hq => ?_⟩
    obtain ⟨q', e1, hq'⟩ := h.pl hu hn
    rw [hq] at e1
    injection e1 with e1
    injection e1 with e1
    injection e1 with e1
    subst e1
    have := (Array.getElem?_eq_some_iff.1 hq').1
    omega
  · rw [up_rest hi hl, up_rest hi h2]
    intro hu hn
    obtain ⟨q, e1, hq⟩ := h.pl hu hn
    exact ⟨q, e1, heap_oldI hq⟩
  · rw [up_rest hi h1, up_rest hi h2]; exact fun a b => (h.p1 a b).alloc _
  · rw [up_rest hi h2, up_rest hi h3]; exact fun a b => (h.p2 a b).alloc _
  · rw [up_rest hi h3]; exact fun a => (h.p3 a).alloc _
/-- the literal that holds x -/
theorem InsI.lit (h : InsI R e l a1 a2 a3 W0 L1 x L2 listed se sl s1 s2 s3 w) (hi : l < listed.size) (he : l ≠ e) (h1 : l ≠ a1) (h2 : l ≠ a2) (h3 : l ≠ a3) :
    InsI R e l a1 a2 a3 W0 L1 x L2 (listed.setIfInBounds l true) se (.slice (some ⟨w.heap.size, 0, none⟩) 1 1) s1 s2 s3 (w.alloc (.cells (R.cells x).toArray R.ty (0, 0))) := by
  constructor
  · exact h.bel.alloc h.bel.size _
  · rw [up_rest hi h1, up_rest hi h2]; exact h.o2
  · rw [up_rest hi h2, up_rest hi h3]; exact h.o3
  · rw [up_rest hi he, up_rest hi h1, up_rest hi h2]
    intro hu hn
    obtain ⟨g, e1, hg, hh, _⟩ := h.pe hu hn
    refine ⟨g, e1, hg, heap_oldI hh, fun _ _ q hq => ?_⟩
    injection hq with e1
    injection e1 with e1
    injection e1 with e1
    have := (Array.getElem?_eq_some_iff.1 hh).1
    omega
  · rw [up_rest hi h2]
    exact fun _ _ => ⟨_, rfl, heap_alloc_new w _⟩
  · rw [up_rest hi h1, up_rest hi h2]; exact fun a b => (h.p1 a b).alloc _
  · rw [up_rest hi h2, up_rest hi h3]; exact fun a b => (h.p2 a b).alloc _
  · rw [up_rest hi h3]; exact fun a => (h.p3 a).alloc _
theorem ROwn.empty {w : World} {base g : Nat} (h : w.heap[g]? = some (.cells #[] R.ty (0, 0))) (hb : base ≤ g) : ROwn R w base (.slice (some ⟨g, 0, none⟩) 0 0) [] :=
  ⟨by simp [Rec.flat], .inr ⟨g, 0, #[], rfl, hb, h, Nat.le_refl _, by simp [maxLen], by simp, by simp [Rec.flat]⟩⟩
/-- the first append -/
theorem InsI.app1 (h : InsI R e l a1 a2 a3 W0 L1 x L2 listed se sl s1 s2 s3 w) (hi : a1 < listed.size) (hl : a1 ≠ l) (h2 : a1 ≠ a2) (h3 : a1 ≠ a3) (hn : ¬ up listed a1) (hue : up listed e) {u : Value} {w' : World}
    (ho : ROwn R w' W0.heap.size u ([] ++ L1)) (hg : w.grownBy w' se.ownBlock) : InsI R e l a1 a2 a3 W0 L1 x L2 (listed.setIfInBounds a1 true) se sl u s2 s3 w' := by
  have hn2 : ¬ up listed a2 := fun h9 => hn (h.o2 h9)
  have hn3 : ¬ up listed a3 := fun h9 => hn2 (h.o3 h9)
  obtain ⟨g, rfl, hge, hh, hq⟩ := h.pe hue hn
  constructor
  · exact (ROwn.empty hh hge).grow h.bel hg h.bel.size (Nat.le_refl _)
  · rw [up_rest hi h2]; exact fun h9 => absurd h9 hn2
  · rw [up_rest hi h2, up_rest hi h3]; exact h.o3
  · exact fun _ h9 => absurd ((up_set hi).2 (.inl rfl)) h9
  · rw [up_rest hi hl, up_rest hi h2]
    intro hu hn9
    obtain ⟨q, e1, hq'⟩ := h.pl hu hn9
    refine ⟨q, e1, ?_⟩
    rw [hg.block q (Array.getElem?_eq_some_iff.1 hq').1 (fun e9 => hq hu hn9 q e1 (by injection e9))]
    exact hq'
  · exact fun _ _ => by simpa using ho
  · rw [up_rest hi h2]; exact fun h9 => absurd h9 hn2
  · rw [up_rest hi h3]; exact fun h9 => absurd h9 hn3
/-- the second append -/
theorem InsI.app2 (h : InsI R e l a1 a2 a3 W0 L1 x L2 listed se sl s1 s2 s3 w) (hi : a2 < listed.size) (h1 : a2 ≠ a1) (h3 : a2 ≠ a3) (hn : ¬ up listed a2) (hu1 : up listed a1) {u : Value} {w' : World}
    (ho : ROwn R w' W0.heap.size u (L1 ++ [x])) (hg : w.grownBy w' s1.ownBlock) : InsI R e l a1 a2 a3 W0 L1 x L2 (listed.setIfInBounds a2 true) se sl s1 u s3 w' := by
  have hn3 : ¬ up listed a3 := fun h9 => hn (h.o3 h9)
  constructor
  · exact (h.p1 hu1 hn).grow h.bel hg h.bel.size (Nat.le_refl _)
  · exact fun _ => (up_rest hi h1).2 hu1
  · exact fun _ => (up_set hi).2 (.inl rfl)
  · exact fun _ h9 => absurd ((up_rest hi h1).2 hu1) h9
  · exact fun _ h9 => absurd ((up_set hi).2 (.inl rfl)) h9
  · exact fun _ h9 => absurd ((up_set hi).2 (.inl rfl)) h9
  · exact fun _ _ => ho
  · rw [up_rest hi h3]; exact fun h9 => absurd h9 hn3
/-- the third append -/
theorem InsI.app3 (h : InsI R e l a1 a2 a3 W0 L1 x L2 listed se sl s1 s2 s3 w) (hi : a3 < listed.size) (h1 : a3 ≠ a1) (h2 : a3 ≠ a2) (hn : ¬ up listed a3) (hu2 : up listed a2) {u : Value} {w' : World}
    (ho : ROwn R w' W0.heap.size u (L1 ++ [x] ++ L2)) (hg : w.grownBy w' s2.ownBlock) : InsI R e l a1 a2 a3 W0 L1 x L2 (listed.setIfInBounds a3 true) se sl s1 s2 u w' := by
  have hu1 := h.o2 hu2
  constructor
  · exact (h.p2 hu2 hn).grow h.bel hg h.bel.size (Nat.le_refl _)
  · exact fun _ => (up_rest hi h1).2 hu1
  · exact fun _ => (up_rest hi h2).2 hu2
  · exact fun _ h9 => absurd ((up_rest hi h1).2 hu1) h9
  · exact fun _ h9 => absurd ((up_rest hi h2).2 hu2) h9
  · exact fun _ h9 => absurd ((up_rest hi h2).2 hu2) h9
  · exact fun _ h9 => absurd ((up_set hi).2 (.inl rfl)) h9
  · exact fun _ => ho
end
end Go.Proofs.Ytoomgbddfcmjnaa
