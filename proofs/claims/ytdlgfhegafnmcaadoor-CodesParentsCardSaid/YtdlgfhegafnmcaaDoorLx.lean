/- Codes: 'y := api.CodeList{Name: x.Name, Codes: append(append([]api.Code(nil), x.Codes...), api.Code{..})}' in a region that draws its order. -/
import Derived.Test.YtdlgfhegafnmcaaDoorLf
namespace Go.Proofs.YtdlgfhegafnmcaaDoor
open Go.RowKit
section
variable {P : Program} {ops : Array Oper} {Q : Exit → Act → World → Prop}
/-- append(v, codes...) -/
theorem wpOp_app_codes {i : Nat} {o : Oper} (hoi : ops[i]? = some o) (hg : o.guard = none) {K : Act → World → Prop} {a : Act} {w : World} (s x : Operand) (t : TypeId)
    (ho : o.op = .call { callee := .builtin .append, args := #[s, x], argTypes := #[t, t] })
    (base : Nat) (bytes : Nat) (hinfo : (P.info? 50).map (fun i => (i.zero, i.size, i.bytes)) = some (some (.agg #[.string ⟨#[]⟩, .int .i64 0]), 2, bytes)) (hby : bytes ≤ 1000) (ht : P.underlying t = some (.slice 50))
    (v : Value) (L : List Cd.Co) (hs : a.eval s = v) (hown : CoOwn w base v L) (B : Nat) (A : Option Addr) (m c : Nat) (M : List Cd.Co) (hx : a.eval x = .slice A m c) (hn : CoRow w B A m c M) (hm : 0 < m)
    (h63 : L.length + m ≤ 1000) (hbase : base ≤ w.heap.size)
    (h : ∀ v' w', CoOwn w' base v' (L ++ M) → w.grownBy w' v.ownBlock → K (a.put o.dst v') w') : wpOp P ops Q i K a w := by
  obtain ⟨inf, hi, hz, hz1, hz2⟩ := info_parts hinfo
  obtain ⟨g, rfl, _, hc⟩ := hn.cells hm
  refine wpOp_wp hoi hg (wp_append_own w s x t ho base 50 inf _ 2 bytes ht hi hz hz1 hz2 rfl (by decide) v L.length (Cd.flat L) hs hown ⟨g, 0, none⟩ m c (Cd.flat M) hx ?_ ?_ ?_ (by simp only [maxLen]; omega) ?_ hbase ?_)
  · rw [Cd.flat_len, hn.len]
  · intro j u hu
    have hj := (List.getElem?_eq_some_iff.1 hu).1
    rw [Cd.flat_len] at hj
    have hq : j / 2 < M.length := by omega
    have hi7 : j % 2 < 2 := by omega
    have hjj : j = j / 2 * 2 + j % 2 := by omega
    rw [hjj, Cd.flat_get M _ hq _ hi7] at hu
    rw [Cd.addr_zero, hjj]
    exact hc _ (by rw [← hn.len]; exact hq) _ _ hu
  · intro u hu
    obtain ⟨x, _, hx2⟩ := List.mem_flatMap.1 hu
    simp only [Cd.Co.cells, List.mem_cons, List.not_mem_nil, or_false] at hx2
    rcases hx2 with rfl | rfl <;> rfl
  · exact Nat.le_trans (Nat.mul_le_mul h63 hby) (by decide)
  · intro v' w' h2 h3 _
    refine h v' w' ?_ h3
    unfold CoOwn
    rw [Cd.flat_append, List.length_append, hn.len]
    exact h2
end
/-- how far the list that is one longer has come -/
structure PaI (B : Nat) (w4 : World) (s : ByteArray) (L : List Cd.Co) (nm : ByteArray) (k : Int) (listed : Array Bool) (xa xl xb xr xg : Value) (w : World) : Prop where
  bel : Below B w4 w
  ap : up listed 4 → ¬ up listed 8 → CoOwn w B xa L
  li : up listed 7 → ¬ up listed 8 → ∃ q, xl = .slice (some ⟨q, 0, none⟩) 1 1 ∧ w.heap[q]? = some (.cells #[.string nm, .int .i64 k] 50 (0, 0))
  d8 : up listed 8 → up listed 4 ∧ up listed 7
  a2 : up listed 8 → CoOwn w B xb (L ++ [⟨nm, k⟩])
  b9 : up listed 9 → up listed 8 ∧ xg = .agg #[.string s, xb]
  al : up listed 10 → ∃ r, xr = .pointer (some ⟨r, 0, none⟩) ∧ B ≤ r ∧ (¬ up listed 11 → LB w r ⟨#[]⟩ (.slice none 0 0)) ∧ (up listed 11 → LB w r s xb)
  d11 : up listed 11 → ∀ q, q < 11 → up listed q
section
variable {B : Nat} {w4 w : World} {s nm : ByteArray} {L : List Cd.Co} {k : Int} {listed : Array Bool} {xa xl xb xr xg : Value}
theorem PaI.start {n : Nat} (hB : B = w4.heap.size) : PaI B w4 s L nm k (Array.replicate n false) xa xl xb xr xg (w4.drewN 1) :=
  ⟨by rw [hB]; exact below_drewN (Below.refl _ _) 1, fun h => absurd h (up_start _ _), fun h => absurd h (up_start _ _), fun h => absurd h (up_start _ _), fun h => absurd h (up_start _ _), fun h => absurd h (up_start _ _), fun h => absurd h (up_start _ _), fun h => absurd h (up_start _ _)⟩
theorem PaI.same (h : PaI B w4 s L nm k listed xa xl xb xr xg w) {i : Nat} (hi : i < listed.size) (hne : i = 0 ∨ i = 1 ∨ i = 2 ∨ i = 3 ∨ i = 5 ∨ i = 6) : PaI B w4 s L nm k (listed.setIfInBounds i true) xa xl xb xr xg w := by
  have r : ∀ {p}, p = 4 ∨ p = 7 ∨ p = 8 ∨ p = 9 ∨ p = 10 ∨ p = 11 → (up (listed.setIfInBounds i true) p ↔ up listed p) := fun hp => up_rest hi (by omega)
  refine ⟨h.bel, fun h1 h2 => h.ap ((r (by omega)).1 h1) (fun h3 => h2 ((r (by omega)).2 h3)), fun h1 h2 => h.li ((r (by omega)).1 h1) (fun h3 => h2 ((r (by omega)).2 h3)), fun h1 => ?_, fun h1 => h.a2 ((r (by omega)).1 h1), fun h1 => ?_, fun h1 => ?_, fun h1 q hq => (up_set hi).2 (.inr (h.d11 ((r (by omega)).1 h1) q hq))⟩
  · rw [r (by omega), r (by omega)]; exact h.d8 ((r (by omega)).1 h1)
  · rw [r (by omega)]; exact h.b9 ((r (by omega)).1 h1)
  · obtain ⟨q, e, hq, h2, h3⟩ := h.al ((r (by omega)).1 h1)
    exact ⟨q, e, hq, fun h4 => h2 (fun h5 => h4 ((r (by omega)).2 h5)), fun h4 => h3 ((r (by omega)).1 h4)⟩
/-- the codes themselves have been appended to nothing -/
theorem PaI.app1 (h : PaI B w4 s L nm k listed xa xl xb xr xg w) (hi : 4 < listed.size) (hn : ¬ up listed 4) (hB : B ≤ w.heap.size) {u : Value} {w' : World} (ho : CoOwn w' B u L) (hg : w.grownBy w' none) : PaI B w4 s L nm k (listed.setIfInBounds 4 true) u xl xb xr xg w' := by
  have r : ∀ {p}, p ≠ 4 → (up (listed.setIfInBounds 4 true) p ↔ up listed p) := fun hp => up_rest hi (by omega)
  have n8 : ¬ up listed 8 := fun h8 => hn (h.d8 h8).1
  have n9 : ¬ up listed 9 := fun h8 => n8 (h.b9 h8).1
  have n11 : ¬ up listed 11 := fun h8 => hn (h.d11 h8 4 (by decide))
  have hb : Below w.heap.size w w' := (Below.refl _ _).grown hg (Nat.le_refl _) (fun k hk => by cases hk)
  refine ⟨h.bel.trans (hb.mono hB), fun _ _ => ho, fun h1 _ => ?_, fun h1 => absurd ((r (by omega)).1 h1) n8, fun h1 => absurd ((r (by omega)).1 h1) n8, fun h1 => absurd ((r (by omega)).1 h1) n9, fun h1 => ?_, fun h1 => absurd ((r (by omega)).1 h1) n11⟩
  · obtain ⟨q, e, hq⟩ := h.li ((r (by omega)).1 h1) n8
    exact ⟨q, e, (hb.block q (Array.getElem?_eq_some_iff.1 hq).1).trans hq⟩
  · obtain ⟨q, e, hq, h2, h3⟩ := h.al ((r (by omega)).1 h1)
    exact ⟨q, e, hq, fun _ => (h2 n11).below hb, fun h4 => absurd ((r (by omega)).1 h4) n11⟩
theorem PaI.lit (h : PaI B w4 s L nm k listed xa xl xb xr xg w) (hi : 7 < listed.size) (hn : ¬ up listed 7) (hB : B ≤ w.heap.size) : PaI B w4 s L nm k (listed.setIfInBounds 7 true) xa (.slice (some ⟨w.heap.size, 0, none⟩) 1 1) xb xr xg (w.alloc (.cells #[.string nm, .int .i64 k] 50 (0, 0))) := by
  have r : ∀ {p}, p ≠ 7 → (up (listed.setIfInBounds 7 true) p ↔ up listed p) := fun hp => up_rest hi (by omega)
  have n8 : ¬ up listed 8 := fun h8 => hn (h.d8 h8).2
  have n9 : ¬ up listed 9 := fun h8 => n8 (h.b9 h8).1
  have n11 : ¬ up listed 11 := fun h8 => hn (h.d11 h8 7 (by decide))
  have hb : Below w.heap.size w (w.alloc (.cells #[.string nm, .int .i64 k] 50 (0, 0))) := (Below.refl _ _).alloc (Nat.le_refl _) _
  refine ⟨h.bel.trans (hb.mono hB), fun h1 _ => (h.ap ((r (by omega)).1 h1) n8).alloc _, fun _ _ => ⟨_, rfl, heap_alloc_new _ _⟩, fun h1 => absurd ((r (by omega)).1 h1) n8, fun h1 => absurd ((r (by omega)).1 h1) n8, fun h1 => absurd ((r (by omega)).1 h1) n9, fun h1 => ?_, fun h1 => absurd ((r (by omega)).1 h1) n11⟩
  obtain ⟨q, e, hq, h2, h3⟩ := h.al ((r (by omega)).1 h1)
  exact ⟨q, e, hq, fun _ => (h2 n11).below hb, fun h4 => absurd ((r (by omega)).1 h4) n11⟩
theorem PaI.app2 (h : PaI B w4 s L nm k listed xa xl xb xr xg w) (hi : 8 < listed.size) (hn : ¬ up listed 8) (h4 : up listed 4) (h7 : up listed 7) (hB : B ≤ w.heap.size) {u : Value} {w' : World} (ho : CoOwn w' B u (L ++ [⟨nm, k⟩])) (hg : w.grownBy w' xa.ownBlock) : PaI B w4 s L nm k (listed.setIfInBounds 8 true) xa xl u xr xg w' := by
  have r : ∀ {p}, p ≠ 8 → (up (listed.setIfInBounds 8 true) p ↔ up listed p) := fun hp => up_rest hi (by omega)
  have n9 : ¬ up listed 9 := fun h8 => hn (h.b9 h8).1
  have n11 : ¬ up listed 11 := fun h8 => hn (h.d11 h8 8 (by decide))
  have hoa := h.ap h4 hn
  refine ⟨hoa.grow h.bel hg hB (Nat.le_refl _), fun _ h1 => absurd ((up_set hi).2 (.inl rfl)) h1, fun _ h1 => absurd ((up_set hi).2 (.inl rfl)) h1, fun _ => ⟨(up_set hi).2 (.inr h4), (up_set hi).2 (.inr h7)⟩, fun _ => ho, fun h1 => absurd ((r (by omega)).1 h1) n9, fun h1 => ?_, fun h1 => absurd ((r (by omega)).1 h1) n11⟩
  obtain ⟨q, e, hq, h2, h3⟩ := h.al ((r (by omega)).1 h1)
  exact ⟨q, e, hq, fun _ => (h2 n11).row hoa hg, fun h4 => absurd ((r (by omega)).1 h4) n11⟩
theorem PaI.build (h : PaI B w4 s L nm k listed xa xl xb xr xg w) (hi : 9 < listed.size) (hn : ¬ up listed 9) (h8 : up listed 8) : PaI B w4 s L nm k (listed.setIfInBounds 9 true) xa xl xb xr (.agg #[.string s, xb]) w := by
  have r : ∀ {p}, p ≠ 9 → (up (listed.setIfInBounds 9 true) p ↔ up listed p) := fun hp => up_rest hi (by omega)
  have n11 : ¬ up listed 11 := fun h8 => hn (h.d11 h8 9 (by decide))
  refine ⟨h.bel, fun h1 h2 => absurd ((r (by omega)).2 h8) h2, fun h1 h2 => absurd ((r (by omega)).2 h8) h2, fun _ => ?_, fun _ => h.a2 h8, fun _ => ⟨(r (by omega)).2 h8, rfl⟩, fun h1 => ?_, fun h1 => absurd ((r (by omega)).1 h1) n11⟩
  · rw [r (by omega), r (by omega)]; exact h.d8 h8
  · obtain ⟨q, e, hq, h2, h3⟩ := h.al ((r (by omega)).1 h1)
    exact ⟨q, e, hq, fun _ => h2 n11, fun h4 => absurd ((r (by omega)).1 h4) n11⟩
theorem PaI.alloc (h : PaI B w4 s L nm k listed xa xl xb xr xg w) (hi : 10 < listed.size) (hn : ¬ up listed 10) (hB : B ≤ w.heap.size) : PaI B w4 s L nm k (listed.setIfInBounds 10 true) xa xl xb (.pointer (some ⟨w.heap.size, 0, none⟩)) xg (w.alloc (.cells #[.string ⟨#[]⟩, .slice none 0 0] 25 (0, 0))) := by
  have r : ∀ {p}, p ≠ 10 → (up (listed.setIfInBounds 10 true) p ↔ up listed p) := fun hp => up_rest hi (by omega)
  have n11 : ¬ up listed 11 := fun h8 => hn (h.d11 h8 10 (by decide))
  have hb : Below w.heap.size w (w.alloc (.cells #[.string ⟨#[]⟩, .slice none 0 0] 25 (0, 0))) := (Below.refl _ _).alloc (Nat.le_refl _) _
  refine ⟨h.bel.trans (hb.mono hB), fun h1 h2 => (h.ap ((r (by omega)).1 h1) (fun h3 => h2 ((r (by omega)).2 h3))).alloc _, fun h1 h2 => ?_, fun h1 => ?_, fun h1 => (h.a2 ((r (by omega)).1 h1)).alloc _, fun h1 => ?_, fun h1 => ⟨_, rfl, hB, fun _ => heap_alloc_new _ _, fun h4 => absurd ((r (by omega)).1 h4) n11⟩, fun h1 => absurd ((r (by omega)).1 h1) n11⟩
  · obtain ⟨q, e, hq⟩ := h.li ((r (by omega)).1 h1) (fun h3 => h2 ((r (by omega)).2 h3))
    exact ⟨q, e, (hb.block q (Array.getElem?_eq_some_iff.1 hq).1).trans hq⟩
  · rw [r (by omega), r (by omega)]; exact h.d8 ((r (by omega)).1 h1)
  · rw [r (by omega)]; exact h.b9 ((r (by omega)).1 h1)
theorem PaI.store (h : PaI B w4 s L nm k listed xa xl xb xr xg w) (hi : 11 < listed.size) (hn : ¬ up listed 11) (hall : ∀ q, q < 11 → up listed q) (hB : B ≤ w.heap.size) {r : Nat} (hr : xr = .pointer (some ⟨r, 0, none⟩)) :
    PaI B w4 s L nm k (listed.setIfInBounds 11 true) xa xl xb xr xg ((w.setCell ⟨r, 0, none⟩ (.string s)).setCell ⟨r, 1, none⟩ xb) := by
  have rr : ∀ {p}, p ≠ 11 → (up (listed.setIfInBounds 11 true) p ↔ up listed p) := fun hp => up_rest hi (by omega)
  obtain ⟨q, e, hq, h2, _⟩ := h.al (hall 10 (by decide))
  rw [hr] at e
  injection e with e
  injection e with e
  injection e with e
  subst e
  have q0 := (h2 hn).set0 s
  have q1 := q0.1.set xb
  have hg1 : Below B w4 (w.setCell ⟨r, 0, none⟩ (.string s)) := h.bel.grown q0.2 hB (fun k hk => by injection hk with hk; omega)
  have hg2 : Below B w4 ((w.setCell ⟨r, 0, none⟩ (.string s)).setCell ⟨r, 1, none⟩ xb) := hg1.grown q1.2 (Nat.le_trans hB q0.2.size) (fun k hk => by injection hk with hk; omega)
  refine ⟨hg2, fun _ h1 => absurd ((rr (by omega)).2 (hall 8 (by decide))) h1, fun _ h1 => absurd ((rr (by omega)).2 (hall 8 (by decide))) h1, fun _ => ⟨(rr (by omega)).2 (hall 4 (by decide)), (rr (by omega)).2 (hall 7 (by decide))⟩, fun _ => ((h.a2 (hall 8 (by decide))).box (h2 hn) q0.2).box q0.1 q1.2, fun _ => ⟨(rr (by omega)).2 (hall 8 (by decide)), (h.b9 (hall 9 (by decide))).2⟩, fun _ => ⟨r, hr, hq, fun h1 => absurd ((up_set hi).2 (.inl rfl)) h1, fun _ => q1.1⟩, fun _ q h9 => (rr (by omega)).2 (hall q h9)⟩
end
end Go.Proofs.YtdlgfhegafnmcaaDoor
