/- Rota: the mathematics of right lists; what Add makes of them. -/
import Derived.Test.YtoomgbddfcmjnaaTb
namespace Go.Proofs.Ytoomgbddfcmjnaa
open Go.RowKit
theorem Sf.lt_iff {a b : Sf} : Sf.lt a b = true ↔ a.f < b.f ∨ (a.f = b.f ∧ Op.bytesLess a.p.toList b.p.toList = true) := by
  simp [Sf.lt]
theorem Sf.lt_irr (a : Sf) : Sf.lt a a = false := by simp [Sf.lt, bl_irr]
theorem Sf.lt_tr {a b c : Sf} (h : Sf.lt a b = true) (h' : Sf.lt b c = true) : Sf.lt a c = true := by
  rw [Sf.lt_iff] at h h' ⊢
  rcases h with h | ⟨h1, h2⟩ <;> rcases h' with h' | ⟨h3, h4⟩
  · exact .inl (by omega)
  · exact .inl (by omega)
  · exact .inl (by omega)
  · exact .inr ⟨by omega, bl_tr h2 h4⟩
theorem Sf.lt_asym {a b : Sf} (h : Sf.lt a b = true) : Sf.lt b a = false := by
  rw [Bool.eq_false_iff]
  intro h'
  have := Sf.lt_tr h h'
  rw [Sf.lt_irr] at this
  cases this
theorem Sf.lt_tot {a b : Sf} (h : Sf.lt a b = false) (h' : Sf.lt b a = false) : a.f = b.f ∧ a.p.toList = b.p.toList := by
  rw [Bool.eq_false_iff, ne_eq, Sf.lt_iff] at h h'
  have hf : a.f = b.f := by
    rcases (show a.f < b.f ∨ a.f = b.f ∨ b.f < a.f by omega) with h1 | h1 | h1
    · exact absurd (.inl h1) h
    · exact h1
    · exact absurd (.inl h1) h'
  refine ⟨hf, bl_tot ?_ ?_⟩
  · rw [Bool.eq_false_iff]; intro h2; exact h (.inr ⟨hf, h2⟩)
  · rw [Bool.eq_false_iff]; intro h2; exact h' (.inr ⟨hf.symm, h2⟩)
theorem Sf.meet_iff {y x : Sf} : Sf.meet y x = true ↔ y.p.toList = x.p.toList ∧ y.f < x.u ∧ x.f < y.u := by
  simp [Sf.meet, and_assoc]
theorem Sf.one_iff {x : Sf} : Sf.one x = 0 ↔ Sf.named x = true ∧ 0 ≤ x.f ∧ x.f < x.u ∧ x.u ≤ 1073741824 := by
  unfold Sf.one Sf.proper
  rcases Sf.named x with _ | _
  · simp
  · by_cases h : 0 ≤ x.f ∧ x.f < x.u ∧ x.u ≤ 1073741824
    · simp [h]
    · have : (decide (0 ≤ x.f) && decide (x.f < x.u) && decide (x.u ≤ 1073741824)) = false := by
        rw [Bool.eq_false_iff]; simp; intro h1 h2; omega
      rw [this]
      simp; intro h1 h2; omega
def Sf.rel (a b : Sf) : Prop := Sf.lt a b = true ∧ Sf.meet a b = false
structure Sf.Ok (L : List Sf) : Prop where
  few : L.length ≤ 60
  one : ∀ x ∈ L, Sf.one x = 0
  pw : L.Pairwise Sf.rel
theorem Sf.at_zero {L : List Sf} {j : Nat} : Sf.at L j = 0 ↔ Sf.one (L.getD j Sf0) = 0 ∧ (0 < j → Sf.lt (L.getD (j - 1) Sf0) (L.getD j Sf0) = true) ∧ Sf.meets (L.take j) (L.getD j Sf0) = false := by
  rw [Sf.at_one]
  by_cases h1 : Sf.one (L.getD j Sf0) = 0
  · rw [if_neg (by simpa using h1)]
    by_cases h2 : 0 < j ∧ Sf.lt (L.getD (j - 1) Sf0) (L.getD j Sf0) = false
    · rw [if_pos h2]
      constructor
      · intro h; cases h
      · intro h; have := h.2.1 h2.1; rw [h2.2] at this; cases this
    · rw [if_neg h2]
      by_cases h3 : Sf.meets (L.take j) (L.getD j Sf0) = true
      · rw [if_pos h3]
        constructor
        · intro h; cases h
        · intro h; rw [h3] at h; cases h.2.2
      · rw [if_neg h3]
        refine ⟨fun _ => ⟨h1, fun h => ?_, by simpa using h3⟩, fun _ => rfl⟩
        rcases hb : Sf.lt (L.getD (j - 1) Sf0) (L.getD j Sf0) with _ | _
        · exact absurd ⟨h, hb⟩ h2
        · rfl
  · rw [if_pos h1]
    exact ⟨fun h => absurd h h1, fun h => absurd h.1 h1⟩
theorem Sf.chk_ok {L : List Sf} : Sf.chk L = 0 ↔ Sf.Ok L := by
  unfold Sf.chk
  constructor
  · intro h
    by_cases h60 : 60 < L.length
    · rw [if_pos h60] at h; cases h
    rw [if_neg h60] at h
    have hz := upTo_zero.1 h
    refine ⟨by omega, fun x hx => ?_, ?_⟩
    · obtain ⟨j, hj, rfl⟩ := List.getElem_of_mem hx
      have := (Sf.at_zero.1 (hz j hj)).1
      rwa [getD_getElem hj] at this
    · have hlt : ∀ k i, i < k → ∀ hk : k < L.length, Sf.lt (L.getD i Sf0) (L.getD k Sf0) = true := by
        intro k
        induction k with
        | zero => intro i hi; omega
        | succ k ih =>
          intro i hi hk
          have h1 := (Sf.at_zero.1 (hz (k + 1) hk)).2.1 (by omega)
          rw [show k + 1 - 1 = k from rfl] at h1
          rcases Nat.lt_or_ge i k with h2 | h2
          · exact Sf.lt_tr (ih i h2 (by omega)) h1
          · obtain rfl : i = k := by omega
            exact h1
      rw [List.pairwise_iff_getElem]
      intro i j hi hj hij
      refine ⟨?_, ?_⟩
      · have := hlt j i hij hj
        rwa [getD_getElem hi, getD_getElem hj] at this
      · have h1 := (Sf.at_zero.1 (hz j hj)).2.2
        unfold Sf.meets at h1
        rw [getD_getElem hj, List.any_eq_false] at h1
        have := h1 L[i] (List.mem_take_iff_getElem.2 ⟨i, by omega, rfl⟩)
        simpa using this
  · intro h
    rw [if_neg (by have := h.few; omega), upTo_zero]
    intro j hj
    have hp := List.pairwise_iff_getElem.1 h.pw
    rw [Sf.at_zero, getD_getElem hj]
    refine ⟨h.one _ (List.getElem_mem hj), fun h0 => ?_, ?_⟩
    · rw [getD_getElem (show j - 1 < L.length by omega)]
      exact (hp (j - 1) j (by omega) hj (by omega)).1
    · unfold Sf.meets
      rw [List.any_eq_false]
      intro y hy
      obtain ⟨i, hi, rfl⟩ := List.mem_take_iff_getElem.1 hy
      rw [(hp i j (by omega) hj (by omega)).2]
      decide
theorem Sf.Ok.sub {L M : List Sf} (h : Sf.Ok L) (hs : M.Sublist L) : Sf.Ok M := ⟨Nat.le_trans hs.length_le h.few, fun x hx => h.one x (hs.subset hx), h.pw.sublist hs⟩
theorem Sf.nil_ok : Sf.Ok [] := ⟨by simp, by simp, List.Pairwise.nil⟩
def Sf.ins (L : List Sf) (x : Sf) : List Sf := L.take (L.findIdx (Sf.lt x)) ++ [x] ++ L.drop (L.findIdx (Sf.lt x))
def Sf.add (L : List Sf) (x : Sf) : List Sf × Int :=
  if Sf.chk L ≠ 0 then (L, Sf.chk L) else if Sf.one x ≠ 0 then (L, Sf.one x) else if Sf.meets L x = true then (L, 46) else if L.length = 60 then (L, 1) else (Sf.ins L x, 0)
theorem Sf.meet_symm (a b : Sf) : Sf.meet a b = Sf.meet b a := by
  rw [Bool.eq_iff_iff, Sf.meet_iff, Sf.meet_iff]
  constructor <;> (rintro ⟨h1, h2, h3⟩; exact ⟨h1.symm, h3, h2⟩)
/-- two that do not meet stand one before the other -/
theorem Sf.lt_of_apart {a b : Sf} (ha : Sf.one a = 0) (hb : Sf.one b = 0) (h : Sf.meet a b = false) : Sf.lt a b = !(Sf.lt b a) := by
  rcases h1 : Sf.lt b a with _ | _
  · rcases h2 : Sf.lt a b with _ | _
    · obtain ⟨hf, hp⟩ := Sf.lt_tot h2 h1
      have a1 := Sf.one_iff.1 ha
      have b1 := Sf.one_iff.1 hb
      have : Sf.meet a b = true := Sf.meet_iff.2 ⟨hp, by omega, by omega⟩
      rw [h] at this; cases this
    · rfl
  · rw [Sf.lt_asym h1]; rfl
theorem Sf.meets_false {L : List Sf} {x : Sf} (h : Sf.meets L x = false) : ∀ y ∈ L, Sf.meet y x = false := by
  intro y hy
  unfold Sf.meets at h
  rw [List.any_eq_false] at h
  simpa using h y hy
def Sf.rins (L : List Sf) (x : Sf) : List Sf := L.take (L.findIdx fun y => !(Sf.lt y x)) ++ [x] ++ L.drop (L.findIdx fun y => !(Sf.lt y x))
theorem Sf.ins_rins {L : List Sf} {x : Sf} (h : Sf.Ok L) (hx : Sf.one x = 0) (hm : Sf.meets L x = false) : Sf.rins L x = Sf.ins L x := by
  unfold Sf.rins Sf.ins
  rw [findIdx_cong (p := fun y => !(Sf.lt y x)) (q := Sf.lt x) fun y hy => (Sf.lt_of_apart hx (h.one y hy) (by rw [Sf.meet_symm]; exact Sf.meets_false hm y hy)).symm]
theorem Sf.Ok.ins {L : List Sf} {x : Sf} (h : Sf.Ok L) (hx : Sf.one x = 0) (hm : Sf.meets L x = false) (h60 : L.length < 60) : Sf.Ok (Sf.ins L x) := by
  obtain ⟨k, hk⟩ : ∃ k, L.findIdx (Sf.lt x) = k := ⟨_, rfl⟩
  have hb : ∀ y ∈ L.take k, Sf.lt x y = false := by
    intro y hy
    obtain ⟨i, hi, rfl⟩ := List.mem_take_iff_getElem.1 hy
    have := List.not_of_lt_findIdx (p := Sf.lt x) (xs := L) (show i < L.findIdx (Sf.lt x) by omega)
    simpa using this
  have ha : ∀ y ∈ L.drop k, Sf.lt x y = true := by
    intro y hy
    obtain ⟨i, hi, rfl⟩ := List.mem_drop_iff_getElem.1 hy
    have hkl : k < L.length := by omega
    have h0 : Sf.lt x L[k] = true := by
      have := List.findIdx_getElem (p := Sf.lt x) (xs := L) (w := by omega)
      simpa [hk] using this
    rcases Nat.eq_zero_or_pos i with rfl | hi0
    · simpa using h0
    · exact Sf.lt_tr h0 (List.pairwise_iff_getElem.1 h.pw k (k + i) hkl (by omega) (by omega)).1
  have hp := h.pw
  rw [← List.take_append_drop k L, List.pairwise_append] at hp
  unfold Sf.ins
  rw [hk]
  refine ⟨?_, fun y hy => ?_, ?_⟩
  · have := List.length_take_le k L
    simp only [List.length_append, List.length_take, List.length_drop, List.length_cons, List.length_nil]
    omega
  · simp only [List.mem_append, List.mem_singleton] at hy
    rcases hy with (hy | rfl) | hy
    · exact h.one y (List.mem_of_mem_take hy)
    · exact hx
    · exact h.one y (List.mem_of_mem_drop hy)
  · rw [List.append_assoc, List.pairwise_append]
    refine ⟨hp.1, ?_, ?_⟩
    · rw [List.singleton_append, List.pairwise_cons]
      exact ⟨fun y hy => ⟨ha y hy, by rw [Sf.meet_symm]; exact Sf.meets_false hm y (List.mem_of_mem_drop hy)⟩, hp.2.1⟩
    · intro a h1 b h2
      rw [List.singleton_append, List.mem_cons] at h2
      rcases h2 with rfl | h2
      · have hma := List.mem_of_mem_take h1
        refine ⟨?_, Sf.meets_false hm a hma⟩
        rw [Sf.lt_of_apart (h.one a hma) hx (Sf.meets_false hm a hma), hb a h1]
        rfl
      · exact hp.2.2 a h1 b h2
/-- what stands before a right list is put before it -/
theorem Sf.add_cons {L : List Sf} {x : Sf} (h : Sf.Ok (x :: L)) : Sf.add L x = (x :: L, 0) := by
  have hl := h.sub (List.sublist_cons_self x L)
  have hp := List.pairwise_cons.1 h.pw
  have hm : Sf.meets L x = false := by
    unfold Sf.meets
    rw [List.any_eq_false]
    intro y hy
    rw [Sf.meet_symm, (hp.1 y hy).2]
    decide
  have hlen : L.length ≠ 60 := by
    have := h.few
    simp at this
    omega
  unfold Sf.add
  rw [if_neg (by simpa using Sf.chk_ok.2 hl), if_neg (by simpa using h.one x (by simp)), if_neg (by rw [hm]; decide), if_neg hlen]
  have h0 : L.findIdx (Sf.lt x) = 0 := by
    cases L with
    | nil => rfl
    | cons y L => rw [List.findIdx_cons, (hp.1 y (by simp)).1]; rfl
  unfold Sf.ins
  rw [h0]
  rfl
theorem Sf.Ok.add {L : List Sf} (h : Sf.Ok L) (x : Sf) : Sf.Ok (Sf.add L x).1 ∧ (Sf.add L x).1.length ≤ L.length + 1 := by
  unfold Sf.add
  rw [if_neg (by simpa using Sf.chk_ok.2 h)]
  by_cases h1 : Sf.one x = 0
  · rw [if_neg (by simpa using h1)]
    rcases h2 : Sf.meets L x with _ | _
    · rw [if_neg (by decide)]
      by_cases h3 : L.length = 60
      · rw [if_pos h3]; exact ⟨h, by simp⟩
      · rw [if_neg h3]
        refine ⟨h.ins h1 h2 (by have := h.few; omega), ?_⟩
        simp only [Sf.ins, List.length_append, List.length_take, List.length_drop, List.length_cons, List.length_nil]
        omega
    · rw [if_pos rfl]; exact ⟨h, by simp⟩
  · rw [if_pos (by simpa using h1)]; exact ⟨h, by simp⟩
end Go.Proofs.Ytoomgbddfcmjnaa
