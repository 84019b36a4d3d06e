/- A region that draws its order, by an invariant over what has come up: each operation is looked at once. -/
import Derived.WalkKit
import Derived.Orders
import Derived.Lib.Hide
namespace Go.Proofs.Ytoomgbddfcmjnaa
open Go.RowKit
section
variable {P : Program} {ops : Array Oper} {Q : Exit → Act → World → Prop}
/-- has operation k come up? -/
def up (listed : Array Bool) (k : Nat) : Prop := listed.getD k false = true
theorem up_set {listed : Array Bool} {i k : Nat} (hi : i < listed.size) : up (listed.setIfInBounds i true) k ↔ k = i ∨ up listed k := by
  unfold up
  simp only [Array.getD_eq_getD_getElem?, Array.getElem?_setIfInBounds]
  by_cases h : i = k
  · subst h; simp [hi]
  · rw [if_neg h]
    constructor
    · exact fun h => .inr h
    · rintro (e | h2)
      · exact absurd e.symm h
      · exact h2
theorem ready_spec {md : Region.Mode} {listed : Array Bool} {i : Nat} (h : i ∈ Region.ready md ops listed) : i < ops.size ∧ ¬ (listed.getD i true = true) ∧ ∃ o, ops[i]? = some o ∧ ∀ e ∈ o.after, Region.binds md e = true → up listed e.on := by
  unfold Region.ready at h
  obtain ⟨h1, h2⟩ := List.mem_filter.1 h
  have h3 := List.mem_range.1 h1
  simp only [Bool.and_eq_true, Bool.not_eq_true'] at h2
  refine ⟨h3, by rw [h2.1]; simp, ops[i], by simp [h3], fun e he hb => ?_⟩
  have h4 := h2.2
  simp only [Array.getElem?_eq_getElem h3, Option.map_some, Option.getD_some, Array.all_eq_true_iff_forall_mem] at h4
  have h5 := h4 e he
  simp only [Bool.or_eq_true, Bool.not_eq_true'] at h5
  rcases h5 with h5 | h5
  · rw [hb] at h5; cases h5
  · exact h5
theorem wpAny_inv {md : Region.Mode} (I : Array Bool → Act → World → Prop)
    (hsize : ∀ listed a w, I listed a w → listed.size = ops.size)
    (hstep : ∀ listed a w i o, I listed a w → ops[i]? = some o → (∀ e ∈ o.after, Region.binds md e = true → up listed e.on) → ¬ up listed i → wpOp P ops Q i (fun a' w' => I (listed.setIfInBounds i true) a' w') a w)
    (hend : ∀ listed a w, I listed a w → Region.ready md ops listed = [] → Q .normal a w) :
    ∀ (fuel : Nat) (listed : Array Bool) (a : Act) (w : World), I listed a w → (listed.toList.countP (fun b => !b)) ≤ fuel → wpAny P md ops Q fuel listed a w := by
  intro fuel
  induction fuel with
  | zero =>
    intro listed a w hI hc
    have hr : Region.ready md ops listed = [] := by
      rcases hx : Region.ready md ops listed with _ | ⟨i, rest⟩
      · rfl
      · exfalso
        have hm : i ∈ Region.ready md ops listed := by rw [hx]; simp
        obtain ⟨h1, h2, _⟩ := ready_spec hm
        have hs := hsize _ _ _ hI
        have h3 : listed.toList.countP (fun b => !b) = 0 := by omega
        rw [List.countP_eq_zero] at h3
        have hl : i < listed.size := by omega
        have := h3 listed[i] (by simp)
        simp at this
        apply h2
        simp [Array.getD_eq_getD_getElem?, hl, this]
    exact ⟨hr, hend _ _ _ hI hr⟩
  | succ fuel ih =>
    intro listed a w hI hc
    refine ⟨fun hr => hend _ _ _ hI hr, fun i hi => ?_⟩
    obtain ⟨h1, h2, o, ho, hdep⟩ := ready_spec hi
    have hs := hsize _ _ _ hI
    have hl : i < listed.size := by omega
    have hf : listed[i] = false := by
      cases hb : listed[i] with
      | false => rfl
      | true => exact absurd (by simp [Array.getD_eq_getD_getElem?, hl, hb]) h2
    have hnu : ¬ up listed i := by unfold up; simp [Array.getD_eq_getD_getElem?, hl, hf]
    refine wpOp_mono (fun a' w' hI' => ih _ a' w' hI' ?_) (hstep listed a w i o hI ho hdep hnu)
    have : (listed.setIfInBounds i true).toList = listed.toList.set i true := by simp
    rw [this]
    have hcs := List.countP_set (p := fun b => !b) (l := listed.toList) (i := i) (a := true) (by simpa using hl)
    rw [hcs]
    have hpos : 0 < listed.toList.countP (fun b => !b) := by
      rw [List.countP_pos_iff]
      exact ⟨listed[i], by simp, by simp [hf]⟩
    have e1 : (!listed.toList[i]'(by simpa using hl)) = true := by simp [hf]
    rw [if_pos e1, if_neg (by simp)]
    omega
theorem wp_region_inv {id : Nat} {a : Act} {w : World} (hm : P.follows .mixedOrders = true) (I : Array Bool → Act → World → Prop)
    (hsize : ∀ listed a w, I listed a w → listed.size = ops.size)
    (hstart : I (Array.replicate ops.size false) a { w with drawn := w.drawn + 1 })
    (hstep : ∀ listed a w i o, I listed a w → ops[i]? = some o → (∀ e ∈ o.after, Region.binds .any e = true → up listed e.on) → ¬ up listed i → wpOp P ops Q i (fun a' w' => I (listed.setIfInBounds i true) a' w') a w)
    (hend : ∀ listed a w, I listed a w → Region.ready .any ops listed = [] → Q .normal a w) : (Code.region id ops true).wp P Q a w :=
  wp_region_any hm (wpAny_inv I hsize hstep hend _ _ _ _ hstart (by
    rw [Array.toList_replicate]
    exact Nat.le_trans List.countP_le_length (by simp)))
/-- each operation waits for earlier ones alone -/
def early (ops : Array Oper) : Bool := (List.range ops.size).all fun i => match ops[i]? with | some o => o.after.toList.all fun e => decide (e.on < i) | none => true
theorem all_up {md : Region.Mode} {listed : Array Bool} (hr : Region.ready md ops listed = []) (hz : listed.size = ops.size) (he : early ops = true) : ∀ n k, k < n → k < ops.size → up listed k := by
  intro n
  induction n with
  | zero => intro k hk; omega
  | succ n ih =>
    intro k hk hks
    rcases Nat.lt_or_ge k n with h | h
    · exact ih k h hks
    · obtain rfl : k = n := by omega
      cases hb : listed[k] with
      | true => unfold up; simp [Array.getD_eq_getD_getElem?, show k < listed.size by omega, hb]
      | false =>
        exfalso
        have : k ∈ Region.ready md ops listed := by
          unfold Region.ready
          refine List.mem_filter.2 ⟨List.mem_range.2 hks, ?_⟩
          simp only [Array.getD_eq_getD_getElem?, Array.getElem?_eq_getElem hks, Array.getElem?_eq_getElem (show k < listed.size by omega), hb, Option.map_some, Option.getD_some, Bool.not_false, Bool.true_and, Array.all_eq_true_iff_forall_mem]
          intro e hme
          unfold early at he
          have h1 := List.all_eq_true.1 he k (List.mem_range.2 hks)
          simp only [Array.getElem?_eq_getElem hks] at h1
          have h2 := List.all_eq_true.1 h1 e (by simpa using hme)
          have h3 : e.on < k := by simpa using h2
          have h4 := ih e.on h3 (by omega)
          unfold up at h4
          rw [Array.getD_eq_getD_getElem?] at h4
          simp [h4]
        rw [hr] at this
        cases this
theorem wpOp_value {i : Nat} {o : Oper} (ho : ops[i]? = some o) (hg : o.guard = none) {K : Act → World → Prop} {a : Act} {w w' : World} {v : Value} (hr : (execOp a.eval o).run P w = .ok (.value v) w') (hK : K (a.put o.dst v) w') : wpOp P ops Q i K a w := by
  unfold wpOp
  simp only [ho]
  rw [if_pos (by simp [Region.wanted, hg])]
  left
  unfold Oper.wp
  rw [hr]
  exact hK
theorem wpOp_skip {i : Nat} {o : Oper} (ho : ops[i]? = some o) (hg : o.guard = none) {K : Act → World → Prop} {a : Act} {w w' : World} (hr : (execOp a.eval o).run P w = .ok .skip w') (hK : K (a.put o.dst undef) w') : wpOp P ops Q i K a w := by
  unfold wpOp
  simp only [ho]
  rw [if_pos (by simp [Region.wanted, hg])]
  left
  unfold Oper.wp
  rw [hr]
  exact hK
theorem wpOp_call {i : Nat} {o : Oper} (ho : ops[i]? = some o) (hg : o.guard = none) {K : Act → World → Prop} {a : Act} {w w' : World} {f : FuncId} {args : Array Value} (hr : (execOp a.eval o).run P w = .ok (.enter f args) w') (hK : Calls P f args w' fun e w'' => ∃ v, e = .returned v ∧ K (a.put o.dst v) w'') : wpOp P ops Q i K a w := by
  unfold wpOp
  simp only [ho]
  rw [if_pos (by simp [Region.wanted, hg])]
  left
  unfold Oper.wp
  rw [hr]
  refine hK.mono ?_
  rintro e w'' ⟨v, rfl, h⟩
  exact h
end
end Go.Proofs.Ytoomgbddfcmjnaa
