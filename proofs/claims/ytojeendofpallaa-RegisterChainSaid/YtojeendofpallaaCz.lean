/- Cells: margins: groups that are made one: the arithmetic. -/
import Derived.Test.YtojeendofpallaaCu
namespace Go.Proofs.Ytojeendofpallaa.Ce
def flat1 (g : List Int) : List Int := g.map fun x => if x = -1 then -1 else 0
theorem flat1_len (g : List Int) : (flat1 g).length = g.length := by simp [flat1]
theorem flat1_get {g : List Int} {j : Nat} (hj : j < g.length) : (flat1 g).getD j 0 = if g.getD j 0 = -1 then -1 else 0 := by simp [flat1, List.getD, hj]
def bit (set i : Nat) : Nat := set / 2 ^ i % 2
def togi (vs : List (List Int)) (set i : Nat) : List Int := if bit set i = 1 then flat1 (vs.getD i []) else vs.getD i []
def tog (vs : List (List Int)) (set : Nat) : List (List Int) := (List.range vs.length).map (togi vs set)
theorem tog_len (vs : List (List Int)) (set : Nat) : (tog vs set).length = vs.length := by simp [tog]
theorem tog_get {vs : List (List Int)} {set i : Nat} (hi : i < vs.length) : (tog vs set).getD i [] = togi vs set i := by simp [tog, List.getD, hi]
theorem tog_take {vs : List (List Int)} {set i : Nat} (hi : i < vs.length) : (tog vs set).take (i + 1) = (tog vs set).take i ++ [togi vs set i] := by
  rw [List.take_succ_eq_append_getElem (by rw [tog_len]; exact hi)]
  simp [tog]
/-- 0 occurs, and it is the first group that does -/
theorem zero_in {g : List Int} (h : Numbered g) : ∃ c, c < g.length ∧ g.getD c 0 = 0 := by
  have := h.some
  exact occurs (j := g.length) (v := 0) (Int.le_refl _) (by unfold groups at this; omega)
theorem next_flat {g : List Int} : ∀ {j}, j ≤ g.length → nextN (flat1 g) j = 0 ∧ (∀ c, c < j → g.getD c 0 = -1) ∨ nextN (flat1 g) j = 1
  | 0, _ => .inl ⟨rfl, fun c hc => absurd hc (by omega)⟩
  | j + 1, hj => by
    simp only [nextN]
    rw [flat1_get (show j < g.length by omega)]
    rcases next_flat (g := g) (j := j) (by omega) with ⟨h1, h2⟩ | h1
    · rw [h1]
      by_cases hg : g.getD j 0 = -1
      · rw [if_pos hg, if_neg (by omega)]
        refine .inl ⟨rfl, fun c hc => ?_⟩
        rcases Nat.lt_or_ge c j with h | h
        · exact h2 c h
        · rw [show c = j by omega]; exact hg
      · rw [if_neg hg, if_pos rfl]; exact .inr rfl
    · rw [h1]
      by_cases hg : g.getD j 0 = -1
      · rw [if_pos hg, if_neg (by omega)]; exact .inr rfl
      · rw [if_neg hg, if_neg (by omega)]; exact .inr rfl
theorem flat1_num {g : List Int} (h : Numbered g) : Numbered (flat1 g) := by
  refine ⟨fun j hj => ?_, fun j hj => ?_, ?_⟩
  · rw [flat1_len] at hj; rw [flat1_get hj]; split <;> omega
  · rw [flat1_len] at hj; rw [flat1_get hj]
    have := nextN_nonneg (flat1 g) j
    split <;> omega
  · unfold groups
    rw [flat1_len]
    rcases next_flat (g := g) (Nat.le_refl _) with ⟨_, h2⟩ | h1
    · obtain ⟨c, hc, he⟩ := zero_in h
      have := h2 c hc
      omega
    · omega
theorem flat1_fine (g : List Int) : Fine g (flat1 g) := by
  refine ⟨fun c d hc hd h => ?_, fun c hc h => ?_⟩
  · rw [flat1_get hc, flat1_get hd, h]
  · rw [flat1_get hc, if_pos h]
theorem flat1_out {g : List Int} {c : Nat} (hc : c < g.length) : (flat1 g).getD c 0 = -1 ↔ g.getD c 0 = -1 := by
  rw [flat1_get hc]; split <;> omega
theorem tog_view {ss : List Int} {vs : List (List Int)} (h : View ss vs) (set : Nat) : View ss (tog vs set) := by
  refine ⟨by rw [tog_len, h.len], fun j hj => ?_, fun j hj => ?_⟩
  · rw [tog_get (by rw [h.len]; exact hj)]
    unfold togi
    split
    · rw [flat1_len]; exact h.lens j hj
    · exact h.lens j hj
  · rw [tog_get (by rw [h.len]; exact hj)]
    unfold togi
    split
    · exact flat1_num (h.num j hj)
    · exact h.num j hj
theorem tog_fine {ss : List Int} {vs : List (List Int)} (h : View ss vs) (set : Nat) : finB ss.length vs (tog vs set) = true := by
  refine finB_iff.2 fun i hi => ?_
  rw [tog_get (by rw [h.len]; exact hi)]
  unfold togi
  split
  · exact flat1_fine _
  · exact fine_refl _
theorem tog_coarse {ss : List Int} {vs : List (List Int)} (h : View ss vs) {set : Nat} (hne : tog vs set ≠ vs) : finB ss.length (tog vs set) vs = false := by
  cases hb : finB ss.length (tog vs set) vs with
  | false => rfl
  | true => exact absurd (finB_anti (tog_view h set) h hb (tog_fine h set)) hne
/-- the bytes of a key -/
def kb (x : Int) : Int := x % 256
def kbytes (vs : List (List Int)) : List Int := vs.flatMap fun g => g.map kb
theorem kbytes_wf (vs : List (List Int)) : ∀ x ∈ kbytes vs, (Lit.int .u8 x).wf = true := by
  intro x hx
  obtain ⟨g, _, hg⟩ := List.mem_flatMap.1 hx
  obtain ⟨y, _, rfl⟩ := List.mem_map.1 hg
  have h0 := Int.emod_nonneg y (show (256 : Int) ≠ 0 by omega)
  have h1 := Int.emod_lt_of_pos y (show (0 : Int) < 256 by omega)
  unfold kb
  generalize y % 256 = z at *
  have h2 : IntKind.u8.min = 0 := by decide
  have h3 : IntKind.u8.max = 255 := by decide
  simp [Lit.wf, h2, h3]
  omega
end Go.Proofs.Ytojeendofpallaa.Ce
