/- A region that draws its order, whose operations wait for earlier ones alone where orders are mixed. -/
import Derived.Test.YtoomgbddfcmjnaaIv
namespace Go.Proofs.Ytoomgbddfcmjnaa
open Go.RowKit
/-- each operation waits, where orders are mixed, for earlier ones alone -/
def early2 (ops : Array Oper) : Bool := (List.range ops.size).all fun i => match ops[i]? with | some o => o.after.toList.all fun e => !Region.binds .any e || decide (e.on < i) | none => true
theorem all_up2 {ops : Array Oper} {listed : Array Bool} (hr : Region.ready .any ops listed = []) (hz : listed.size = ops.size) (he : early2 ops = true) : ∀ n k, k < n → k < ops.size → up listed k := by
  intro n
  induction n with
  | zero => intro k hk; omega
  | succ n ih =>
    intro k hk hks
    rcases Nat.lt_or_ge k n with h | h
    · exact ih k h hks
    · obtain rfl : k = n := by omega
      cases hb : listed[k] with
      | true => unfold up; simp [Array.getD_eq_getD_getElem?, show k < listed.size by omega, hb]
      | false =>
        exfalso
        have : k ∈ Region.ready .any ops listed := by
          unfold Region.ready
          refine List.mem_filter.2 ⟨List.mem_range.2 hks, ?_⟩
          simp only [Array.getD_eq_getD_getElem?, Array.getElem?_eq_getElem hks, Array.getElem?_eq_getElem (show k < listed.size by omega), hb, Option.map_some, Option.getD_some, Bool.not_false, Bool.true_and, Array.all_eq_true_iff_forall_mem]
          intro e hme
          unfold early2 at he
          have h1 := List.all_eq_true.1 he k (List.mem_range.2 hks)
          simp only [Array.getElem?_eq_getElem hks] at h1
          have h2 := List.all_eq_true.1 h1 e (by simpa using hme)
          cases hbd : Region.binds .any e with
          | false => simp
          | true =>
            rw [hbd] at h2
            have h3 : e.on < k := by simpa using h2
            have h4 := ih e.on h3 (by omega)
            unfold up at h4
            rw [Array.getD_eq_getD_getElem?] at h4
            simp [h4]
        rw [hr] at this
        cases this
theorem up_start (n k : Nat) : ¬ up (Array.replicate n false) k := fun hk => by
  unfold up at hk
  simp only [Array.getD_eq_getD_getElem?, Array.getElem?_replicate] at hk
  split at hk <;> simp at hk
theorem up_rest {listed : Array Bool} {i p : Nat} (hi : i < listed.size) (hp : i ≠ p) : up (listed.setIfInBounds i true) p ↔ up listed p := by
  rw [up_set hi]
  exact ⟨fun h => h.elim (fun e => absurd e.symm hp) id, .inr⟩
/-- each operation that has come up has laid its value: number, slot's value, value -/
def CF (listed : Array Bool) (l : List (Nat × Value × Value)) : Prop := ∀ p ∈ l, up listed p.1 → p.2.1 = p.2.2
theorem CF.start {n : Nat} {l : List (Nat × Value × Value)} : CF (Array.replicate n false) l := fun _ _ h => absurd h (up_start _ _)
theorem CF.step {listed : Array Bool} {l l' : List (Nat × Value × Value)} {i : Nat} (h : CF listed l) (hi : i < listed.size) (h' : ∀ p ∈ l', p.2.1 = p.2.2 ∨ (p ∈ l ∧ i ≠ p.1)) : CF (listed.setIfInBounds i true) l' := fun p hp hu => by
  rcases h' p hp with h9 | ⟨h9, h8⟩
  · exact h9
  · exact h p h9 ((up_rest hi h8).1 hu)
section
variable {P : Program} {ops : Array Oper} {Q : Exit → Act → World → Prop}
theorem wpOp_wp {i : Nat} {o : Oper} (ho : ops[i]? = some o) (hg : o.guard = none) {K : Act → World → Prop} {a : Act} {w : World} (h : o.wp P a w K Q) : wpOp P ops Q i K a w := by
  unfold wpOp
  simp only [ho]
  rw [if_pos (by simp [Region.wanted, hg])]
  left
  exact h
end
end Go.Proofs.Ytoomgbddfcmjnaa
