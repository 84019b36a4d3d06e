/- Approvals: the mathematics of right lists. -/
import Derived.Test.YtoomgbddfcmjnaaAi
namespace Go.Proofs.Ytoomgbddfcmjnaa
open Go.RowKit
theorem bl_irr : ∀ x : List UInt8, Op.bytesLess x x = false
  | [] => rfl
  | a :: x => by simp [Op.bytesLess, bl_irr x]
theorem bl_tr : ∀ {x y z : List UInt8}, Op.bytesLess x y = true → Op.bytesLess y z = true → Op.bytesLess x z = true
  | _, [], _, h, _ => by simp [Op.bytesLess] at h
  | [], _ :: _, [], _, h => by simp [Op.bytesLess] at h
  | [], _ :: _, _ :: _, _, _ => rfl
  | _ :: _, _ :: _, [], _, h => by simp [Op.bytesLess] at h
  | a :: x, b :: y, c :: z, h, h' => by
    simp only [Op.bytesLess, Bool.or_eq_true, decide_eq_true_eq, Bool.and_eq_true, beq_iff_eq] at h h' ⊢
    rcases h with h | ⟨rfl, h⟩
    · rcases h' with h' | ⟨rfl, h'⟩
      · exact .inl (UInt8.lt_trans h h')
      · exact .inl h
    · rcases h' with h' | ⟨rfl, h'⟩
      · exact .inl h'
      · exact .inr ⟨rfl, bl_tr h h'⟩
theorem bl_tot : ∀ {x y : List UInt8}, Op.bytesLess x y = false → Op.bytesLess y x = false → x = y
  | [], [], _, _ => rfl
  | [], _ :: _, h, _ => by simp [Op.bytesLess] at h
  | _ :: _, [], _, h => by simp [Op.bytesLess] at h
  | a :: x, b :: y, h, h' => by
    simp only [Op.bytesLess, Bool.or_eq_false_iff, decide_eq_false_iff_not] at h h'
    have hab : a = b := UInt8.le_antisymm (UInt8.not_lt.1 h'.1) (UInt8.not_lt.1 h.1)
    subst hab
    simp only [beq_self_eq_true, Bool.true_and] at h h'
    rw [bl_tot h.2 h'.2]
theorem Ap.lt_iff {a b : Ap} : Ap.lt a b = true ↔ a.f < b.f ∨ (a.f = b.f ∧ Op.bytesLess a.p.toList b.p.toList = true) := by
  simp [Ap.lt]
theorem Ap.lt_irr (a : Ap) : Ap.lt a a = false := by simp [Ap.lt, bl_irr]
theorem Ap.lt_tr {a b c : Ap} (h : Ap.lt a b = true) (h' : Ap.lt b c = true) : Ap.lt a c = true := by
  rw [Ap.lt_iff] at h h' ⊢
  rcases h with h | ⟨h1, h2⟩ <;> rcases h' with h' | ⟨h3, h4⟩
  · exact .inl (by omega)
  · exact .inl (by omega)
  · exact .inl (by omega)
  · exact .inr ⟨by omega, bl_tr h2 h4⟩
theorem Ap.lt_asym {a b : Ap} (h : Ap.lt a b = true) : Ap.lt b a = false := by
  rw [Bool.eq_false_iff]
  intro h'
  have := Ap.lt_tr h h'
  rw [Ap.lt_irr] at this
  cases this
theorem Ap.lt_tot {a b : Ap} (h : Ap.lt a b = false) (h' : Ap.lt b a = false) : a.f = b.f ∧ a.p.toList = b.p.toList := by
  rw [Bool.eq_false_iff, ne_eq, Ap.lt_iff] at h h'
  have hf : a.f = b.f := by
    rcases (show a.f < b.f ∨ a.f = b.f ∨ b.f < a.f by omega) with h1 | h1 | h1
    · exact absurd (.inl h1) h
    · exact h1
    · exact absurd (.inl h1) h'
  refine ⟨hf, bl_tot ?_ ?_⟩
  · rw [Bool.eq_false_iff]; intro h2; exact h (.inr ⟨hf, h2⟩)
  · rw [Bool.eq_false_iff]; intro h2; exact h' (.inr ⟨hf.symm, h2⟩)
theorem Ap.meet_iff {y x : Ap} : Ap.meet y x = true ↔ y.p.toList = x.p.toList ∧ y.f < x.u ∧ x.f < y.u := by
  simp [Ap.meet, and_assoc]
theorem Ap.has_iff {x : Ap} {p : ByteArray} {t : Int} : Ap.has x p t = true ↔ x.p.toList = p.toList ∧ x.f ≤ t ∧ t < x.u := by
  simp [Ap.has, and_assoc]
theorem Ap.one_iff {x : Ap} : Ap.one x = 0 ↔ Ap.named x = true ∧ 0 ≤ x.f ∧ x.f < x.u ∧ x.u ≤ 1073741824 := by
  unfold Ap.one Ap.proper
  rcases Ap.named x with _ | _
  · simp
  · by_cases h : 0 ≤ x.f ∧ x.f < x.u ∧ x.u ≤ 1073741824
    · simp [h]
    · have : (decide (0 ≤ x.f) && decide (x.f < x.u) && decide (x.u ≤ 1073741824)) = false := by
        rw [Bool.eq_false_iff]; simp; intro h1 h2; omega
      rw [this]
      simp; intro h1 h2; omega
def Ap.rel (a b : Ap) : Prop := Ap.lt a b = true ∧ Ap.meet a b = false
structure Ap.Ok (L : List Ap) : Prop where
  few : L.length ≤ 60
  one : ∀ x ∈ L, Ap.one x = 0
  pw : L.Pairwise Ap.rel
theorem Ap.at_zero {L : List Ap} {j : Nat} : Ap.at L j = 0 ↔ Ap.one (L.getD j Ap0) = 0 ∧ (0 < j → Ap.lt (L.getD (j - 1) Ap0) (L.getD j Ap0) = true) ∧ Ap.meets (L.take j) (L.getD j Ap0) = false := by
  rw [Ap.at_one]
  by_cases h1 : Ap.one (L.getD j Ap0) = 0
  · rw [if_neg (by simpa using h1)]
    by_cases h2 : 0 < j ∧ Ap.lt (L.getD (j - 1) Ap0) (L.getD j Ap0) = false
    · rw [if_pos h2]
      constructor
      · intro h; cases h
      · intro h; have := h.2.1 h2.1; rw [h2.2] at this; cases this
    · rw [if_neg h2]
      by_cases h3 : Ap.meets (L.take j) (L.getD j Ap0) = true
      · rw [if_pos h3]
        constructor
        · intro h; cases h
        · intro h; rw [h3] at h; cases h.2.2
      · rw [if_neg h3]
        refine ⟨fun _ => ⟨h1, fun h => ?_, by simpa using h3⟩, fun _ => rfl⟩
        rcases hb : Ap.lt (L.getD (j - 1) Ap0) (L.getD j Ap0) with _ | _
        · exact absurd ⟨h, hb⟩ h2
        · rfl
  · rw [if_pos h1]
    exact ⟨fun h => absurd h h1, fun h => absurd h.1 h1⟩
theorem getD_getElem {α : Type} {L : List α} {j : Nat} {d : α} (hj : j < L.length) : L.getD j d = L[j] := by
  simp [List.getD, List.getElem?_eq_getElem hj]
theorem Ap.chk_ok {L : List Ap} : Ap.chk L = 0 ↔ Ap.Ok L := by
  unfold Ap.chk
  constructor
  · intro h
    by_cases h60 : 60 < L.length
    · rw [if_pos h60] at h; cases h
    rw [if_neg h60] at h
    have hz := upTo_zero.1 h
    refine ⟨by omega, fun x hx => ?_, ?_⟩
    · obtain ⟨j, hj, rfl⟩ := List.getElem_of_mem hx
      have := (Ap.at_zero.1 (hz j hj)).1
      rwa [getD_getElem hj] at this
    · have hlt : ∀ k i, i < k → ∀ hk : k < L.length, Ap.lt (L.getD i Ap0) (L.getD k Ap0) = true := by
        intro k
        induction k with
        | zero => intro i hi; omega
        | succ k ih =>
          intro i hi hk
          have h1 := (Ap.at_zero.1 (hz (k + 1) hk)).2.1 (by omega)
          rw [show k + 1 - 1 = k from rfl] at h1
          rcases Nat.lt_or_ge i k with h2 | h2
          · exact Ap.lt_tr (ih i h2 (by omega)) h1
          · obtain rfl : i = k := by omega
            exact h1
      rw [List.pairwise_iff_getElem]
      intro i j hi hj hij
      refine ⟨?_, ?_⟩
      · have := hlt j i hij hj
        rwa [getD_getElem hi, getD_getElem hj] at this
      · have h1 := (Ap.at_zero.1 (hz j hj)).2.2
        unfold Ap.meets at h1
        rw [getD_getElem hj, List.any_eq_false] at h1
        have := h1 L[i] (List.mem_take_iff_getElem.2 ⟨i, by omega, rfl⟩)
        simpa using this
  · intro h
    rw [if_neg (by have := h.few; omega), upTo_zero]
    intro j hj
    have hp := List.pairwise_iff_getElem.1 h.pw
    rw [Ap.at_zero, getD_getElem hj]
    refine ⟨h.one _ (List.getElem_mem hj), fun h0 => ?_, ?_⟩
    · rw [getD_getElem (show j - 1 < L.length by omega)]
      exact (hp (j - 1) j (by omega) hj (by omega)).1
    · unfold Ap.meets
      rw [List.any_eq_false]
      intro y hy
      obtain ⟨i, hi, rfl⟩ := List.mem_take_iff_getElem.1 hy
      rw [(hp i j (by omega) hj (by omega)).2]
      decide
theorem Ap.Ok.sub {L M : List Ap} (h : Ap.Ok L) (hs : M.Sublist L) : Ap.Ok M := ⟨Nat.le_trans hs.length_le h.few, fun x hx => h.one x (hs.subset hx), h.pw.sublist hs⟩
theorem Ap.nil_ok : Ap.Ok [] := ⟨by simp, by simp, List.Pairwise.nil⟩
end Go.Proofs.Ytoomgbddfcmjnaa
