/- Small things: what is returned, the beginnings of lists. -/
import Derived.WalkKit
import Derived.Lib.Hide
namespace Go.Proofs.Ytoomgbddfcmjnaa
open Go.RowKit
theorem retb {a b : Bool} (h : a = b) : Ending.returned (.bool a) = Ending.returned (.bool b) := by rw [h]
theorem ret_int {a b : Int} (h : a = b) : Ending.returned (.int .i64 a) = Ending.returned (.int .i64 b) := by rw [h]
theorem take_succ_getD (l : List Int) (j : Nat) (h : j < l.length) : l.take (j + 1) = l.take j ++ [l.getD j 0] := by
  rw [List.take_succ_eq_append_getElem h]; simp [List.getD, List.getElem?_eq_getElem h]
theorem getD_mem {l : List Int} {j : Nat} {x : Int} (h : l.getD j 0 = x ∧ j < l.length) : x ∈ l := by
  rw [← h.1]; simp [List.getD, List.getElem?_eq_getElem h.2]
theorem mem_take_succ {l : List Int} {j : Nat} {x k : Int} (h : l.getD j 0 = x ∧ j < l.length) : k ∈ l.take (j + 1) ↔ k ∈ l.take j ∨ k = x := by
  rw [take_succ_getD l j h.2, h.1]; simp
theorem take_succ_eq {l l' : List Int} {j : Nat} {x x' : Int} (h : l.getD j 0 = x ∧ j < l.length) (h' : l'.getD j 0 = x' ∧ j < l'.length) (e : l.take j = l'.take j) : l.take (j + 1) = l'.take (j + 1) ↔ x = x' := by
  rw [take_succ_getD l j h.2, take_succ_getD l' j h'.2, h.1, h'.1, e]; simp
theorem take_len {l : List Int} {n : Nat} (h : l.length = n) : l.take n = l := List.take_of_length_le (by omega)
end Go.Proofs.Ytoomgbddfcmjnaa
