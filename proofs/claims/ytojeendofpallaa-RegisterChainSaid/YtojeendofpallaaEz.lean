/- Register: how a history goes back. -/
import Derived.Test.YtojeendofpallaaEy
namespace Go.Proofs.Ytojeendofpallaa
open Go.RowKit
/-- what is known of a history -/
structure Rg.Line (L : List Rg.En) (k : Nat) (h : List Int) : Prop where
  pos : 1 ≤ h.length
  few : h.length ≤ k
  first : h.getD 0 0 = k
  within : ∀ i, i < h.length → 1 ≤ h.getD i 0 ∧ h.getD i 0 ≤ L.length
  step : ∀ i, i + 1 < h.length → h.getD (i + 1) 0 < h.getD i 0 ∧ (L.getD (h.getD i 0 - 1).toNat Rg.En0).of = h.getD (i + 1) 0 ∧ h.getD (i + 1) 0 ∉ Rg.inf L
  last : (L.getD (h.getD (h.length - 1) 0 - 1).toNat Rg.En0).kind = 1
theorem Rg.Reg.line {L : List Rg.En} (h : Rg.Reg L) : ∀ k, 1 ≤ k → k ≤ L.length → (L.getD (k - 1) Rg.En0).kind ≠ 2 → Rg.Line L k (Rg.hist L k k) := by
  intro k
  induction k using Nat.strongRecOn with
  | ind k ih =>
    intro h1 hl hk
    obtain ⟨j, rfl⟩ : ∃ j, k = j + 1 := ⟨k - 1, by omega⟩
    have hj : j < L.length := by omega
    rw [show j + 1 - 1 = j by omega] at hk
    have hof := h.of_le hj
    have hab := Rg.about_of (h.abt j hj)
    rw [Rg.hist_step h hj]
    obtain ⟨o, ho⟩ := Int.eq_ofNat_of_zero_le hof.1
    rw [ho] at hof hab
    rw [ho, Int.toNat_natCast]
    rcases Nat.eq_zero_or_pos o with rfl | hpos
    · have hk1 : (L.getD j Rg.En0).kind = 1 := by
        rcases hab with ⟨q, _⟩ | ⟨q, _⟩ | ⟨q, _⟩
        · exact q
        · exact absurd q hk
        · have := hof.2.2.2 q; omega
      refine ⟨by simp [Rg.hist], by simp [Rg.hist], by simp [Rg.hist], fun i hi => ?_, fun i hi => ?_, ?_⟩
      · simp [Rg.hist] at hi
        subst hi
        simp [Rg.hist]; omega
      · simp [Rg.hist] at hi
      · show (L.getD (((j : Int) + 1) - 1).toNat Rg.En0).kind = 1
        rw [show ((j : Int) + 1 - 1).toNat = j by omega]
        exact hk1
    · have hk3 : (L.getD j Rg.En0).kind = 3 ∧ (o : Int) ∈ Rg.inf (L.take j) := by
        rcases hab with ⟨q, q2⟩ | ⟨q, _⟩ | ⟨q, q2⟩
        · omega
        · exact absurd q hk
        · exact ⟨q, q2⟩
      obtain ⟨t, ht, e⟩ := h.inf_of (by omega) hk3.2
      obtain rfl : o = t + 1 := by omega
      have hk2 : (L.getD t Rg.En0).kind ≠ 2 := by
        have h9 := (h.inf_iff j (by omega) t ht).1 (by rw [← e]; exact hk3.2)
        exact h9.1
      have IH := ih (t + 1) (by omega) (by omega) (by omega) (by rw [show t + 1 - 1 = t by omega]; exact hk2)
      generalize Rg.hist L (t + 1) (t + 1) = r at IH
      obtain ⟨p1, p2, p3, p4, p5, p6⟩ := IH
      refine ⟨by simp, by simp; omega, by simp, fun i hi => ?_, fun i hi => ?_, ?_⟩
      · rcases Nat.eq_zero_or_pos i with rfl | hi0
        · simp; omega
        · obtain ⟨i, rfl⟩ : ∃ q, i = q + 1 := ⟨i - 1, by omega⟩
          rw [List.getD_cons_succ]
          exact p4 i (by simpa using hi)
      · rcases Nat.eq_zero_or_pos i with rfl | hi0
        · simp only [List.getD_cons_succ, List.getD_cons_zero]
          rw [p3, show ((j : Int) + 1 - 1).toNat = j by omega, ho]
          refine ⟨by omega, rfl, fun h9 => ?_⟩
          have h8 := (h.inf_all (i := t) (by omega)).1 (by rw [show ((t : Int) + 1) = ((t + 1 : Nat) : Int) by omega]; exact h9)
          rcases h8.2 j hj with h7 | h7
          · omega
          · rw [ho] at h7; omega
        · obtain ⟨i, rfl⟩ : ∃ q, i = q + 1 := ⟨i - 1, by omega⟩
          simp only [List.getD_cons_succ]
          exact p5 i (by simpa using hi)
      · have e9 : ((↑j + 1) :: r : List Int).length - 1 = (r.length - 1) + 1 := by simp; omega
        rw [e9, List.getD_cons_succ]
        exact p6
end Go.Proofs.Ytojeendofpallaa
