/- 'l.Codes = append(l.Codes, api.Code{..})' in a region that draws its order: what has come up. -/
import Derived.Test.YtdlgfhegafnmcaaDoorLe
import Derived.Test.YtdlgfhegafnmcaaDoorIz
namespace Go.Proofs.YtdlgfhegafnmcaaDoor
open Go.RowKit
section
variable {P : Program} {ops : Array Oper} {Q : Exit → Act → World → Prop}
/-- append(v, one code) -/
theorem wpOp_app_code {i : Nat} {o : Oper} (hoi : ops[i]? = some o) (hg : o.guard = none) {K : Act → World → Prop} {a : Act} {w : World} (s x : Operand) (t : TypeId)
    (ho : o.op = .call { callee := .builtin .append, args := #[s, x], argTypes := #[t, t] })
    (base : Nat) (bytes : Nat) (hinfo : (P.info? 50).map (fun i => (i.zero, i.size, i.bytes)) = some (some (.agg #[.string ⟨#[]⟩, .int .i64 0]), 2, bytes)) (hby : bytes ≤ 1000) (ht : P.underlying t = some (.slice 50))
    (v : Value) (L : List Cd.Co) (hs : a.eval s = v) (hown : CoOwn w base v L) (g : Nat) (nm : ByteArray) (pa : Int) (hx : a.eval x = .slice (some ⟨g, 0, none⟩) 1 1)
    (hh : w.heap[g]? = some (.cells #[.string nm, .int .i64 pa] 50 (0, 0))) (h63 : L.length + 1 ≤ 1000) (hbase : base ≤ w.heap.size)
    (h : ∀ v' w', CoOwn w' base v' (L ++ [⟨nm, pa⟩]) → w.grownBy w' v.ownBlock → K (a.put o.dst v') w') : wpOp P ops Q i K a w := by
  obtain ⟨inf, hi, hz, hz1, hz2⟩ := info_parts hinfo
  refine wpOp_wp hoi hg (wp_append_own w s x t ho base 50 inf _ 2 bytes ht hi hz hz1 hz2 rfl (by decide) v L.length (Cd.flat L) hs hown ⟨g, 0, none⟩ 1 1 [.string nm, .int .i64 pa] hx rfl ?_ ?_ (by simp only [maxLen]; omega) ?_ hbase ?_)
  · intro j u hu
    have hj : j < 2 := (List.getElem?_eq_some_iff.1 hu).1
    rw [Cd.addr_zero]
    rcases (show j = 0 ∨ j = 1 by omega) with rfl | rfl
    · simp at hu; subst hu; simp [World.cell?, hh]
    · simp at hu; subst hu; simp [World.cell?, hh]
  · intro u hu
    simp only [List.mem_cons, List.not_mem_nil, or_false] at hu
    rcases hu with rfl | rfl <;> rfl
  · exact Nat.le_trans (Nat.mul_le_mul h63 hby) (by decide)
  · intro v' w' h2 h3 _
    refine h v' w' ?_ h3
    unfold CoOwn
    rw [Cd.flat_append, List.length_append]
    exact h2
end
/-- how far the append has come: bs the literal's operation, ap the append's, st the store's -/
def PuI (bs ap st base g f r B : Nat) (s : ByteArray) (W0 : World) (v : Value) (L : List Cd.Co) (nm : ByteArray) (pa : Int) (listed : Array Bool) (xb xa : Value) (w : World) : Prop :=
  (¬ up listed ap ∧ ¬ up listed st ∧ LS base g f r B s W0 w v L ∧ (up listed bs → ∃ q, xb = .slice (some ⟨q, 0, none⟩) 1 1 ∧ w.heap[q]? = some (.cells #[.string nm, .int .i64 pa] 50 (0, 0)))) ∨
  (up listed ap ∧ ¬ up listed st ∧ up listed bs ∧ LB w f s v ∧ ∃ w0, LS base g f r B s W0 w0 v L ∧ CoOwn w B xa (L ++ [⟨nm, pa⟩]) ∧ w0.grownBy w v.ownBlock) ∨
  ((∀ k, k ≤ st → up listed k) ∧ LS base g f r B s W0 w xa (L ++ [⟨nm, pa⟩]))
section
variable {bs ap st base g f r B : Nat} {s : ByteArray} {W0 w : World} {v : Value} {L : List Cd.Co} {nm : ByteArray} {pa : Int} {listed : Array Bool} {xb xa : Value}
theorem PuI.start {n : Nat} (h : LS base g f r B s W0 w v L) : PuI bs ap st base g f r B s W0 v L nm pa (Array.replicate n false) xb xa (w.drewN 1) :=
  .inl ⟨up_start _ _, up_start _ _, h.below (below_drewN (Below.refl _ _) 1), fun h9 => absurd h9 (up_start _ _)⟩
/-- an operation that leaves the world -/
theorem PuI.same (h : PuI bs ap st base g f r B s W0 v L nm pa listed xb xa w) {i : Nat} (hi : i < listed.size) (hb : i ≠ bs) (ha : i ≠ ap) (hs : i ≠ st) : PuI bs ap st base g f r B s W0 v L nm pa (listed.setIfInBounds i true) xb xa w := by
  rcases h with ⟨h1, h2, h3, h4⟩ | ⟨h1, h2, h3, h4, h5⟩ | ⟨h1, h2⟩
  · exact .inl ⟨by rwa [up_rest hi ha], by rwa [up_rest hi hs], h3, fun h9 => h4 ((up_rest hi hb).1 h9)⟩
  · exact .inr (.inl ⟨(up_rest hi ha).2 h1, by rwa [up_rest hi hs], (up_rest hi hb).2 h3, h4, h5⟩)
  · exact .inr (.inr ⟨fun k hk => (up_set hi).2 (.inr (h1 k hk)), h2⟩)
/-- before the store the box holds what it held -/
theorem PuI.cell (h : PuI bs ap st base g f r B s W0 v L nm pa listed xb xa w) (hn : ¬ up listed st) : LB w f s v := by
  rcases h with ⟨_, _, h3, _⟩ | ⟨_, _, _, h4, _⟩ | ⟨h1, _⟩
  · exact h3.box
  · exact h4
  · exact absurd (h1 st (Nat.le_refl _)) hn
theorem PuI.lit (h : PuI bs ap st base g f r B s W0 v L nm pa listed xb xa w) (hi : bs < listed.size) (hn : ¬ up listed bs) (hba : bs ≠ ap) (hbs : bs < st) :
    PuI bs ap st base g f r B s W0 v L nm pa (listed.setIfInBounds bs true) (.slice (some ⟨w.heap.size, 0, none⟩) 1 1) xa (w.alloc (.cells #[.string nm, .int .i64 pa] 50 (0, 0))) := by
  rcases h with ⟨h1, h2, h3, _⟩ | ⟨_, _, h3, _⟩ | ⟨h1, _⟩
  · exact .inl ⟨by rwa [up_rest hi hba], by rwa [up_rest hi (by omega)], h3.below ((Below.refl _ _).alloc (Nat.le_refl _) _), fun _ => ⟨_, rfl, heap_alloc_new _ _⟩⟩
  · exact absurd h3 hn
  · exact absurd (h1 bs (by omega)) hn
theorem PuI.before (h : PuI bs ap st base g f r B s W0 v L nm pa listed xb xa w) (hn : ¬ up listed ap) (hap : ap < st) : LS base g f r B s W0 w v L ∧ (up listed bs → ∃ q, xb = .slice (some ⟨q, 0, none⟩) 1 1 ∧ w.heap[q]? = some (.cells #[.string nm, .int .i64 pa] 50 (0, 0))) := by
  rcases h with ⟨_, _, h3, h4⟩ | ⟨h1, _⟩ | ⟨h1, _⟩
  · exact ⟨h3, h4⟩
  · exact absurd h1 hn
  · exact absurd (h1 ap (by omega)) hn
theorem PuI.app (h : PuI bs ap st base g f r B s W0 v L nm pa listed xb xa w) (hi : ap < listed.size) (hn : ¬ up listed ap) (hap : ap < st) (hb : up listed bs) {u : Value} {w' : World} (ho : CoOwn w' B u (L ++ [⟨nm, pa⟩])) (hg : w.grownBy w' v.ownBlock) :
    PuI bs ap st base g f r B s W0 v L nm pa (listed.setIfInBounds ap true) xb u w' := by
  have hL := (h.before hn hap).1
  have hns : ¬ up listed st := by
    rcases h with ⟨_, h2, _⟩ | ⟨_, h2, _⟩ | ⟨h1, _⟩
    · exact h2
    · exact h2
    · exact absurd (h1 ap (by omega)) hn
  exact .inr (.inl ⟨(up_set hi).2 (.inl rfl), by rwa [up_rest hi (by omega)], (up_set hi).2 (.inr hb), hL.box.row hL.own hg, w, hL, ho, hg⟩)
theorem PuI.store (h : PuI bs ap st base g f r B s W0 v L nm pa listed xb xa w) (hi : st < listed.size) (hn : ¬ up listed st) (hall : ∀ k, k < st → up listed k) (hap : ap < st) :
    PuI bs ap st base g f r B s W0 v L nm pa (listed.setIfInBounds st true) xb xa (w.setCell ⟨f, 1, none⟩ xa) := by
  rcases h with ⟨h1, _⟩ | ⟨_, _, _, _, w0, h5, h6, h7⟩ | ⟨h1, _⟩
  · exact absurd (hall ap hap) h1
  · refine .inr (.inr ⟨fun k hk => (up_set hi).2 ?_, h5.push h6 h7⟩)
    rcases Nat.lt_or_ge k st with h9 | h9
    · exact .inr (hall k h9)
    · exact .inl (by omega)
  · exact absurd (h1 st (Nat.le_refl _)) hn
theorem PuI.form (h : PuI bs ap st base g f r B s W0 v L nm pa listed xb xa w) (ha : up listed ap) (hn : ¬ up listed st) : ∃ A n c, xa = .slice A n c := by
  rcases h with ⟨h1, _⟩ | ⟨_, _, _, _, _, _, h6, _⟩ | ⟨h1, _⟩
  · exact absurd ha h1
  · obtain ⟨A, n, c, e, _⟩ := h6.row
    exact ⟨A, n, c, e⟩
  · exact absurd (h1 st (Nat.le_refl _)) hn
theorem PuI.fin (h : PuI bs ap st base g f r B s W0 v L nm pa listed xb xa w) (hs : up listed st) : LS base g f r B s W0 w xa (L ++ [⟨nm, pa⟩]) := by
  rcases h with ⟨_, h2, _⟩ | ⟨_, h2, _⟩ | ⟨_, h2⟩
  · exact absurd hs h2
  · exact absurd hs h2
  · exact h2
end
theorem LB.set0 {w : World} {f : Nat} {s : ByteArray} {v : Value} (h : LB w f s v) (t : ByteArray) : LB (w.setCell ⟨f, 0, none⟩ (.string t)) f t v ∧ w.grownBy (w.setCell ⟨f, 0, none⟩ (.string t)) (some f) := by
  unfold LB at *
  refine ⟨by simp [World.setCell, Array.getElem?_modify, h], rfl, rfl, rfl, by simp [World.setCell], fun q hq hne => ?_⟩
  simp only [World.setCell, Array.getElem?_modify]
  rw [if_neg (fun e => hne (by rw [← e]))]
/-- what is returned: the box's value, laid into the result's box -/
theorem LS.result {base g f r B : Nat} {s : ByteArray} {W0 w : World} {v : Value} {L : List Cd.Co} (h : LS base g f r B s W0 w v L) {Z : World} (hZ : (w.setCell ⟨r, 0, none⟩ (.string s)).setCell ⟨r, 1, none⟩ v = Z) :
    CoOwn Z B v L ∧ Cod Z base g ∧ W0.grownBy Z (some g) ∧ LB Z r s v := by
  have q0 := h.res.set0 s
  have q1 := q0.1.set v
  rw [hZ] at q1
  have hr : base ≤ r := Nat.le_trans h.bs h.rB
  refine ⟨(h.own.box h.res q0.2).box q0.1 q1.2, (h.cod.box h.res hr q0.2).box q0.1 hr q1.2, grown_push (grown_push h.gr q0.2 ?_) q1.2 ?_, q1.1⟩
  · intro k hk; injection hk with hk; have := h.rB; have := h.B0; omega
  · intro k hk; injection hk with hk; have := h.rB; have := h.B0; omega
end Go.Proofs.YtdlgfhegafnmcaaDoor
