/- Rows of records: a cell of one of them is stored. -/
import Derived.Test.YtoomgbddfcmjnaaGr
namespace Go.Proofs.Ytoomgbddfcmjnaa
open Go.RowKit
section
variable {α : Type} {R : Rec α}
theorem Rec.flat_set (R : Rec α) {L : List α} {k i : Nat} (hk : k < L.length) (hi : i < R.k) (v : Value) (x' : α) (hx : R.cells x' = (R.cells (L.getD k R.d)).set i v) :
    (R.flat L).set (k * R.k + i) v = R.flat (L.set k x') := by
  refine List.ext_getElem? fun m => ?_
  rcases Nat.lt_or_ge m (L.length * R.k) with hm | hm
  · have hq : m / R.k < L.length := Nat.div_lt_of_lt_mul (by rw [Nat.mul_comm]; exact hm)
    have hr : m % R.k < R.k := Nat.mod_lt _ R.pos
    have hmm : m = m / R.k * R.k + m % R.k := by rw [Nat.mul_comm]; exact (Nat.div_add_mod _ _).symm
    have e1 := R.flat_get L (m / R.k) hq (m % R.k) hr
    have e2 := R.flat_get (L.set k x') (m / R.k) (by rw [List.length_set]; exact hq) (m % R.k) hr
    rw [← hmm] at e1 e2
    rw [e2, List.getElem?_set]
    by_cases hik : m / R.k = k
    · subst hik
      have e3 : (L.set (m / R.k) x').getD (m / R.k) R.d = x' := by simp [List.getD, hq]
      rw [e3, hx, List.getElem?_set]
      by_cases h5 : i = m % R.k
      · subst h5
        rw [if_pos hmm.symm, if_pos rfl, if_pos (by rw [R.flat_len]; exact hmm ▸ hm), if_pos (by rw [R.len]; exact hr)]
      · rw [if_neg (by omega), if_neg h5, e1]
    · have e3 : (L.set k x').getD (m / R.k) R.d = L.getD (m / R.k) R.d := by
        simp only [List.getD_eq_getElem?_getD, List.getElem?_set]
        rw [if_neg (fun h => hik h.symm)]
      rw [e3, if_neg ?_, e1]
      intro e
      apply hik
      rw [← e, Nat.mul_comm, Nat.mul_add_div R.pos, Nat.div_eq_of_lt hi, Nat.add_zero]
  · rw [List.getElem?_eq_none (by rw [List.length_set, R.flat_len]; exact hm), List.getElem?_eq_none (by rw [R.flat_len, List.length_set]; exact hm)]
theorem ROwn.stored {w : World} {base g n cap k i : Nat} {L : List α} (h : ROwn R w base (.slice (some ⟨g, 0, none⟩) n cap) L) (hk : k < L.length) (hi : i < R.k) (v : Value) (x' : α) (hx : R.cells x' = (R.cells (L.getD k R.d)).set i v) :
    ROwn R (w.setCell ⟨g, k * R.k + i, none⟩ v) base (.slice (some ⟨g, 0, none⟩) n cap) (L.set k x') ∧ w.grownBy (w.setCell ⟨g, k * R.k + i, none⟩ v) (some g) := by
  have hn : n = L.length := by
    obtain ⟨_, ⟨hv, _⟩ | ⟨g', cap', cur, hv, _⟩⟩ := h
    · cases hv
    · injection hv
  subst hn
  have q := World.ownsRow.stored h (k * R.k + i) v
  refine ⟨?_, q.2⟩
  have := q.1
  rw [R.flat_set hk hi v x' hx] at this
  unfold ROwn
  rw [List.length_set]
  exact this
/-- what a row that is not empty is good for -/
theorem ROwn.fat {w : World} {base : Nat} {v : Value} {L : List α} (h : ROwn R w base v L) (hL : 0 < L.length) :
    ∃ g c, v = .slice (some ⟨g, 0, none⟩) L.length c ∧ base ≤ g ∧ g < w.heap.size ∧ L.length ≤ c ∧ c ≤ maxLen ∧ ∀ k, k < L.length → ∀ i, (∀ u, (R.cells (L.getD k R.d))[i]? = some u → w.cell? ⟨g, k * R.k + i, none⟩ = some u) ∧ w.frozen? ⟨g, k * R.k + i, none⟩ = false := by
  have h0 := h
  obtain ⟨h1, ⟨rfl, hn⟩ | ⟨g, cap, cur, rfl, hb, hh, hle, hmx, _⟩⟩ := h
  · omega
  · refine ⟨g, cap, rfl, hb, (Array.getElem?_eq_some_iff.1 hh).1, hle, hmx, fun k hk i => ⟨fun u hu => ?_, World.ownsRow.frozenAt h0 _⟩⟩
    have hi : i < R.k := by
      have := (List.getElem?_eq_some_iff.1 hu).1
      rwa [R.len] at this
    have hlt : k * R.k + i < L.length * R.k := by
      have : (k + 1) * R.k ≤ L.length * R.k := Nat.mul_le_mul_right _ hk
      rw [Nat.add_mul] at this; omega
    rw [World.ownsRow.cellAt h0 (k * R.k + i) hlt, R.flat_get L k hk i hi, hu]
end
end Go.Proofs.Ytoomgbddfcmjnaa
