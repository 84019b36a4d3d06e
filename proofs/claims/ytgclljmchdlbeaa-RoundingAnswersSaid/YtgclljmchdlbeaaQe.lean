/- Rounding, the reference: Round. -/
import Derived.Test.YtgclljmchdlbeaaQd
namespace Go.Proofs.Ytgclljmchdlbeaa
open Go.RowKit
/-- the choice that the bits say, behind what is chosen -/
def Rd.pick : List Int → List (List Int) → Nat → Option (List Int)
  | p, [], _ => some p
  | p, l :: L, bits => (l[bits / 2 ^ L.length % 2]?).bind fun y => Rd.pick (p ++ [y]) L bits
theorem Rd.pick_mod : ∀ (L : List (List Int)) (p : List Int) (bits c : Nat), Rd.pick p L (bits + 2 ^ L.length * c) = Rd.pick p L bits
  | [], _, _, _ => rfl
  | l :: L, p, bits, c => by
    have e1 : 2 ^ (l :: L).length * c = 2 ^ L.length * (2 * c) := by
      rw [List.length_cons, Nat.pow_succ, Nat.mul_assoc]
    rw [e1]
    simp only [Rd.pick]
    rw [Nat.add_mul_div_left _ _ (Nat.two_pow_pos _), Nat.add_mul_mod_self_left]
    congr 1
    funext y
    exact Rd.pick_mod L (p ++ [y]) bits (2 * c)
def Rd.sel (F : List Int → Bool) (p : List Int) (V : List (List Int)) (bits : Nat) : Option (List Int) := (Rd.pick p V bits).bind fun q => if F q then some q else none
theorem Rd.range_two (m : Nat) : List.range (2 ^ (m + 1)) = List.range (2 ^ m) ++ (List.range (2 ^ m)).map (2 ^ m + ·) := by
  rw [Nat.pow_succ, Nat.mul_two, List.range_add]
theorem Rd.find_bits (F : List Int → Bool) (b : Int) : ∀ (t p : List Int), Rd.find F b p t = (List.range (2 ^ t.length)).findSome? (Rd.sel F p (t.map (Rd.mult · b)))
  | [], p => by
    show (if F p = true then some p else none) = (List.range 1).findSome? _
    simp [Rd.sel, Rd.pick, List.range_succ]
  | x :: t, p => by
    have hl : (t.map (Rd.mult · b)).length = t.length := List.length_map _
    have h0 : ∀ bits ∈ List.range (2 ^ t.length), Rd.sel F p ((x :: t).map (Rd.mult · b)) bits = ((Rd.mult x b)[0]?).bind fun y => Rd.sel F (p ++ [y]) (t.map (Rd.mult · b)) bits := by
      intro bits hb
      have hb := List.mem_range.1 hb
      unfold Rd.sel
      rw [List.map_cons]
      simp only [Rd.pick]
      rw [hl, Nat.div_eq_of_lt hb]
      simp
      cases (Rd.mult x b)[0]? <;> rfl
    have h1 : ∀ bits ∈ List.range (2 ^ t.length), Rd.sel F p ((x :: t).map (Rd.mult · b)) (2 ^ t.length + bits) = ((Rd.mult x b)[1]?).bind fun y => Rd.sel F (p ++ [y]) (t.map (Rd.mult · b)) bits := by
      intro bits hb
      have hb := List.mem_range.1 hb
      unfold Rd.sel
      rw [List.map_cons]
      simp only [Rd.pick]
      have e : (2 ^ t.length + bits) / 2 ^ t.length = 1 := by
        rw [Nat.add_div_left _ (Nat.two_pow_pos _), Nat.div_eq_of_lt hb]
      rw [hl, e]
      have hp : ∀ y, Rd.pick (p ++ [y]) (t.map (Rd.mult · b)) (2 ^ t.length + bits) = Rd.pick (p ++ [y]) (t.map (Rd.mult · b)) bits := fun y => by
        have := Rd.pick_mod (t.map (Rd.mult · b)) (p ++ [y]) bits 1
        rw [hl, Nat.mul_one, Nat.add_comm] at this
        exact this
      simp only [hp]
      cases (Rd.mult x b)[1]? <;> rfl
    have hcong : ∀ {α : Type} (l : List α) (f g : α → Option (List Int)), (∀ a ∈ l, f a = g a) → l.findSome? f = l.findSome? g := by
      intro α l f g h
      induction l with
      | nil => rfl
      | cons a l ih =>
        rw [List.findSome?_cons, List.findSome?_cons, h a (by simp), ih (fun c hc => h c (List.mem_cons_of_mem _ hc))]
    rw [List.length_cons, Rd.range_two, List.findSome?_append, List.findSome?_map, hcong _ _ _ h0]
    rw [hcong _ (Rd.sel F p ((x :: t).map (Rd.mult · b)) ∘ (2 ^ t.length + ·)) _ h1]
    have ih := fun p => Rd.find_bits F b t p
    show (Rd.mult x b).findSome? (fun y => Rd.find F b (p ++ [y]) t) = _
    have hnone : ∀ l : List Nat, l.findSome? (fun _ => (none : Option (List Int))) = none := by
      intro l; induction l with
      | nil => rfl
      | cons a l ih => rw [List.findSome?_cons]; exact ih
    have hc : (∃ y, Rd.mult x b = [y]) ∨ ∃ y z, Rd.mult x b = [y, z] := by
      unfold Rd.mult
      split
      · exact .inl ⟨_, rfl⟩
      · exact .inr ⟨_, _, rfl⟩
    rcases hc with ⟨y, hm⟩ | ⟨y, z, hm⟩
    · rw [hm]
      have e0 : (fun bits => ([y][0]?).bind fun y => Rd.sel F (p ++ [y]) (t.map (Rd.mult · b)) bits) = Rd.sel F (p ++ [y]) (t.map (Rd.mult · b)) := rfl
      have e1 : (fun bits => ([y][1]?).bind fun y => Rd.sel F (p ++ [y]) (t.map (Rd.mult · b)) bits) = fun _ => none := rfl
      rw [e0, e1, hnone, List.findSome?_cons, ih]
      cases (List.range (2 ^ t.length)).findSome? (Rd.sel F (p ++ [y]) (t.map (Rd.mult · b))) <;> rfl
    · rw [hm]
      have e0 : (fun bits => ([y, z][0]?).bind fun y => Rd.sel F (p ++ [y]) (t.map (Rd.mult · b)) bits) = Rd.sel F (p ++ [y]) (t.map (Rd.mult · b)) := rfl
      have e1 : (fun bits => ([y, z][1]?).bind fun y => Rd.sel F (p ++ [y]) (t.map (Rd.mult · b)) bits) = Rd.sel F (p ++ [z]) (t.map (Rd.mult · b)) := rfl
      rw [e0, e1, List.findSome?_cons, List.findSome?_cons, ih, ih]
      cases (List.range (2 ^ t.length)).findSome? (Rd.sel F (p ++ [y]) (t.map (Rd.mult · b)))
      · cases (List.range (2 ^ t.length)).findSome? (Rd.sel F (p ++ [z]) (t.map (Rd.mult · b))) <;> rfl
      · rfl
end Go.Proofs.Ytgclljmchdlbeaa
