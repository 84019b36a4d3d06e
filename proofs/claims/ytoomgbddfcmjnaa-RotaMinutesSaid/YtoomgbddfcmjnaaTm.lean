/- Rota: what Next tells of all times. -/
import Derived.Test.YtoomgbddfcmjnaaTl
namespace Go.Proofs.Ytoomgbddfcmjnaa
open Go.RowKit
/-- between two times no shift begins or ends -/
def Sf.still (L : List Sf) (a b : Int) : Prop := ∀ s ∈ L, (s.f ≤ a ∨ b < s.f) ∧ (s.u ≤ a ∨ b < s.u)
theorem Sf.who_still {L : List Sf} {a b : Int} (h : Sf.still L a b) (hab : a ≤ b) : Sf.who L b = Sf.who L a := by
  unfold Sf.who
  rw [List.filter_congr (p := fun x : Sf => x.has b) (q := fun x : Sf => x.has a)]
  intro s hs
  have h1 := h s hs
  unfold Sf.has
  have e1 : decide (s.f ≤ b) = decide (s.f ≤ a) := by
    rw [Bool.eq_iff_iff, decide_eq_true_eq, decide_eq_true_eq]; omega
  have e2 : decide (b < s.u) = decide (a < s.u) := by
    rw [Bool.eq_iff_iff, decide_eq_true_eq, decide_eq_true_eq]; omega
  rw [e1, e2]
theorem Sf.mem_tms {L : List Sf} {a b x : Int} : x ∈ Sf.tms L a b ↔ x = a ∨ (a < x ∧ x < b ∧ ∃ s ∈ L, x = s.f ∨ x = s.u) := by
  unfold Sf.tms
  rw [List.mem_cons, List.mem_flatMap]
  constructor
  · rintro (h | ⟨s, hs, h⟩)
    · exact .inl h
    · obtain ⟨h1, h2⟩ := List.mem_filter.1 h
      simp only [Bool.and_eq_true, decide_eq_true_eq] at h2
      exact .inr ⟨h2.1, h2.2, s, hs, by simpa using h1⟩
  · rintro (h | ⟨h1, h2, s, hs, h⟩)
    · exact .inl h
    · exact .inr ⟨s, hs, List.mem_filter.2 ⟨by simpa using h, by simp [h1, h2]⟩⟩
/-- the last time of the list before a time -/
theorem Sf.last_tm (L : List Sf) {a b x : Int} (h0 : a ≤ x) (h1 : x < b) : ∃ t, t ∈ Sf.tms L a b ∧ t ≤ x ∧ Sf.still L t x := by
  have key : ∀ n : Nat, ∀ y : Int, (x - y).toNat = n → a ≤ y → y ≤ x → Sf.still L y x → ∃ t, t ∈ Sf.tms L a b ∧ t ≤ x ∧ Sf.still L t x := by
    intro n0
    suffices hs : ∀ n : Nat, ∀ y : Int, (y - a).toNat = n → a ≤ y → y ≤ x → Sf.still L y x → ∃ t, t ∈ Sf.tms L a b ∧ t ≤ x ∧ Sf.still L t x from fun y _ => hs _ y rfl
    intro n
    induction n with
    | zero =>
      intro y hy hay hyx hst
      obtain rfl : y = a := by omega
      exact ⟨y, Sf.mem_tms.2 (.inl rfl), hyx, hst⟩
    | succ n ih =>
      intro y hy hay hyx hst
      by_cases hm : ∃ s ∈ L, y = s.f ∨ y = s.u
      · exact ⟨y, Sf.mem_tms.2 (.inr ⟨by omega, by omega, hm⟩), hyx, hst⟩
      · refine ih (y - 1) (by omega) (by omega) (by omega) fun s hs => ?_
        have h2 := hst s hs
        have h3 : ¬ (y = s.f ∨ y = s.u) := fun h => hm ⟨s, hs, h⟩
        omega
  exact key _ x rfl h0 (Int.le_refl _) fun s _ => by omega
theorem Sf.nxt_some {L : List Sf} (h : Sf.Ok L) {who : ByteArray} {t0 u : Int} {o : Int} (ht : 0 ≤ t0 ∧ t0 < 1073741824) (he : Sf.nxt L who t0 = (u, true, o)) :
    o = 0 ∧ t0 ≤ u ∧ u ≤ 1073741824 ∧ 2 ≤ (Sf.others L who u).length ∧ ∀ x, t0 ≤ x → x < u → (Sf.others L who x).length < 2 := by
  unfold Sf.nxt at he
  rw [if_neg (by simpa using Sf.chk_ok.2 h), if_neg (by omega)] at he
  cases hf : Sf.fstT L who (Zs.of (Sf.tms L t0 1073741824)) with
  | none => rw [hf] at he; simp at he
  | some v =>
    rw [hf] at he
    injection he with e1 e2
    injection e2 with _ e2
    subst e1
    unfold Sf.fstT at hf
    have hp := List.find?_some (p := fun t => decide (2 ≤ (Sf.others L who t).length)) hf
    have hm := Zs.mem_of.1 (List.mem_of_find?_eq_some hf)
    rw [decide_eq_true_eq] at hp
    have hb : t0 ≤ v ∧ v ≤ 1073741824 := by
      rcases Sf.tms_bd h hm with rfl | h1
      · exact ⟨Int.le_refl _, by omega⟩
      · exact ⟨by omega, h1.2.1⟩
    refine ⟨e2.symm, hb.1, hb.2, hp, fun x hx hxv => ?_⟩
    obtain ⟨t, htm, htx, hst⟩ := Sf.last_tm L (b := 1073741824) hx (by omega)
    have hw : Sf.others L who x = Sf.others L who t := by
      unfold Sf.others Sf.onl
      rw [Sf.who_still hst htx]
    rw [hw]
    obtain ⟨_, xs, ys, hT, has⟩ := List.find?_eq_some_iff_append.1 hf
    have hasc := Zs.asc_of (Sf.tms L t0 1073741824)
    have htT := Zs.mem_of.2 htm
    rw [hT] at hasc htT
    have hasc2 := List.pairwise_append.1 hasc
    rcases List.mem_append.1 htT with h1 | h1
    · have := has t h1
      simpa using this
    · exfalso
      rcases List.mem_cons.1 h1 with h2 | h2
      · omega
      · have := (List.pairwise_cons.1 hasc2.2.1).1 t h2
        omega
theorem Sf.nxt_none {L : List Sf} (h : Sf.Ok L) {who : ByteArray} {t0 u : Int} {o : Int} (ht : 0 ≤ t0 ∧ t0 < 1073741824) (he : Sf.nxt L who t0 = (u, false, o)) :
    o = 0 ∧ u = 0 ∧ ∀ x, t0 ≤ x → x < 1073741824 → (Sf.others L who x).length < 2 := by
  unfold Sf.nxt at he
  rw [if_neg (by simpa using Sf.chk_ok.2 h), if_neg (by omega)] at he
  cases hf : Sf.fstT L who (Zs.of (Sf.tms L t0 1073741824)) with
  | some v => rw [hf] at he; simp at he
  | none =>
    rw [hf] at he
    injection he with e1 e2
    injection e2 with _ e2
    refine ⟨e2.symm, e1.symm, fun x hx hxv => ?_⟩
    obtain ⟨t, htm, htx, hst⟩ := Sf.last_tm L (b := 1073741824) hx (by omega)
    have hw : Sf.others L who x = Sf.others L who t := by
      unfold Sf.others Sf.onl
      rw [Sf.who_still hst htx]
    rw [hw]
    unfold Sf.fstT at hf
    have := List.find?_eq_none.1 hf t (Zs.mem_of.2 htm)
    simpa using this
end Go.Proofs.Ytoomgbddfcmjnaa
