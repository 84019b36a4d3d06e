/- Cells: when a list of groups is finer than another one: the arithmetic, and a map as a partial function. -/
import Derived.Test.YtojeendofpallaaCm
import Derived.Maps.OwnSet
import Derived.Maps.OwnOps
namespace Go.Proofs.Ytojeendofpallaa.Ce
open Go.Maps
/-- what is in the map behind the first j categories -/
def mapN (x y : List Int) : Nat → Int → Option Int
  | 0, k => if k = -1 then some (-1) else none
  | j + 1, k => if k = x.getD j 0 then some (y.getD j 0) else mapN x y j k
def Pass (x y : List Int) (j : Nat) : Prop := ∀ b, mapN x y j (x.getD j 0) = some b → b = y.getD j 0
structure Fine (x y : List Int) : Prop where
  same : ∀ c d, c < x.length → d < x.length → x.getD c 0 = x.getD d 0 → y.getD c 0 = y.getD d 0
  out : ∀ c, c < x.length → x.getD c 0 = -1 → y.getD c 0 = -1
theorem mapN_some {x y : List Int} {k b : Int} : ∀ {j}, mapN x y j k = some b → (k = -1 ∧ b = -1) ∨ ∃ c, c < j ∧ x.getD c 0 = k ∧ y.getD c 0 = b
  | 0, h => by
    simp only [mapN] at h
    split at h
    · injection h with h; exact .inl ⟨by assumption, h.symm⟩
    · cases h
  | j + 1, h => by
    simp only [mapN] at h
    split at h
    · injection h with h
      rename_i hk
      exact .inr ⟨j, by omega, hk.symm, h⟩
    · rcases mapN_some h with h | ⟨c, h1, h2⟩
      · exact .inl h
      · exact .inr ⟨c, by omega, h2⟩
theorem Fine.pass {x y : List Int} (h : Fine x y) {j : Nat} (hj : j < x.length) : Pass x y j := by
  intro b hb
  rcases mapN_some hb with ⟨h1, h2⟩ | ⟨c, h1, h2, h3⟩
  · rw [h2]; exact (h.out j hj h1).symm
  · rw [← h3]; exact h.same c j (by omega) hj h2
theorem pass_all {x y : List Int} : ∀ {j}, (∀ i, i < j → Pass x y i) → mapN x y j (-1) = some (-1) ∧ ∀ c, c < j → mapN x y j (x.getD c 0) = some (y.getD c 0)
  | 0, _ => ⟨rfl, fun c hc => absurd hc (by omega)⟩
  | j + 1, h => by
    have h1 := pass_all (j := j) (fun i hi => h i (by omega))
    have hp := h j (by omega)
    refine ⟨?_, fun c hc => ?_⟩
    · simp only [mapN]
      by_cases hx : -1 = x.getD j 0
      · rw [if_pos hx]
        have := hp (-1) (by rw [← hx]; exact h1.1)
        rw [← this]
      · rw [if_neg hx]; exact h1.1
    · simp only [mapN]
      by_cases hx : x.getD c 0 = x.getD j 0
      · rw [if_pos hx]
        by_cases hcj : c < j
        · have := hp _ (by rw [← hx]; exact h1.2 c hcj)
          rw [this]
        · obtain rfl : c = j := by omega
          rfl
      · rw [if_neg hx]
        have : c ≠ j := fun e => hx (by rw [e])
        exact h1.2 c (by omega)
theorem fine_of_pass {x y : List Int} (h : ∀ i, i < x.length → Pass x y i) : Fine x y := by
  have h1 := pass_all (j := x.length) h
  refine ⟨fun c d hc hd e => ?_, fun c hc e => ?_⟩
  · have a := h1.2 c hc
    have b := h1.2 d hd
    rw [e, b] at a
    injection a with a
    exact a.symm
  · have a := h1.2 c hc
    rw [e, h1.1] at a
    injection a with a
    exact a.symm
/-- the map reads as the partial function m -/
structure Rep (D : DataW Unit) (m : Int → Option Int) : Prop where
  isMap : IsMap D
  has : ∀ k, Maps.has D (.int .i64 k) = (m k).isSome
  at_ : ∀ k v, m k = some v → D.atKey (.int .i64 k) (.lit (.int .i64 0)) = .lit (.int .i64 v)
theorem Rep.put {D : DataW Unit} {m : Int → Option Int} (h : Rep D m) (k v : Int) : Rep (D.put (.int .i64 k) (.lit (.int .i64 v))) (fun j => if j = k then some v else m j) := by
  have hk : WideAt.IsKeyLit (.int .i64 k) := trivial
  refine ⟨h.isMap.put _ _, fun j => ?_, fun j u hj => ?_⟩
  · by_cases hjk : j = k
    · subst hjk; simp only [if_pos]; exact has_put_same h.isMap hk _
    · rw [if_neg hjk, has_put_other (fun e => hjk (by injection e)), h.has]
  · by_cases hjk : j = k
    · subst hjk
      simp only [if_pos] at hj
      injection hj with hj
      subst hj
      exact atKey_put_same h.isMap hk _ _
    · rw [if_neg hjk] at hj
      rw [atKey_put_other (fun e => hjk (by injection e))]
      exact h.at_ j u hj
theorem Rep.empty : Rep (.map []) (fun _ => none) := ⟨isMap_empty, fun k => rfl, fun k v h => by cases h⟩
end Go.Proofs.Ytojeendofpallaa.Ce
