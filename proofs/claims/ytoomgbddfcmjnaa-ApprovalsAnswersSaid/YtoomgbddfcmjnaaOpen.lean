/- The words by which arguments are opened: a slice of numbers that reads as a list, a struct by value. -/
import Derived.WalkKit
import Derived.ProofKit
import Derived.OpenShut
import Derived.ChangeSlices
import Derived.ChangeReads
import Derived.Deep.Draws
import Derived.Below
import Derived.Lib.SmallJoins
namespace Go.Proofs.Ytoomgbddfcmjnaa
open Go.ChangeShapes Go.WideShapes Go.ChangeAt Go.RowKit

theorem add_block (a : Addr) (n : Nat) : (a.add n).block = a.block := by unfold Addr.add; split <;> rfl
theorem add_add (a : Addr) (i j : Nat) : (a.add i).add j = a.add (i + j) := by
  unfold Addr.add
  by_cases hi : i = 0 <;> by_cases hj : j = 0 <;> simp [hi, hj, Nat.add_assoc]

/-- The slice '.slice A n c' holds, in w, the numbers l of kind k, and lies below block B. -/
structure Nums (w : World) (k : IntKind) (B : Nat) (A : Option Addr) (n c : Nat) (l : List Int) : Prop where
  len : l.length = n
  cap : n ≤ c
  max : c ≤ maxLen
  cells : 0 < n → ∃ ad, A = some ad ∧ ad.block < B ∧ ∀ j, j < n → w.cell? (ad.add j) = some (.int k (l.getD j 0))
  wf : ∀ x ∈ l, (Lit.int k x).wf = true
  zero : A = none → c = 0

theorem Nums.nil (w : World) (k : IntKind) (B : Nat) : Nums w k B none 0 0 [] := ⟨rfl, Nat.le_refl _, by simp [maxLen], fun h => absurd h (by omega), by simp, fun _ => rfl⟩
theorem Nums.at_ {w : World} {k : IntKind} {B : Nat} {A : Option Addr} {n c : Nat} {l : List Int} (h : Nums w k B A n c l) {j : Nat} (hj : j < n) :
    ∃ ad, A = some ad ∧ ad.block < B ∧ w.cell? (ad.add j) = some (.int k (l.getD j 0)) := by
  obtain ⟨ad, e, hb, hc⟩ := h.cells (by omega)
  exact ⟨ad, e, hb, hc j hj⟩
theorem Nums.val {w : World} {k : IntKind} {B : Nat} {A : Option Addr} {n c : Nat} {l : List Int} (h : Nums w k B A n c l) {j : Nat} (hj : j < n) :
    ∃ ad x, A = some ad ∧ ad.block < B ∧ Hid (l.getD j 0 = x ∧ j < l.length) ∧ w.cell? (ad.add j) = some (.int k x) ∧ (Lit.int k x).wf = true := by
  obtain ⟨ad, e, hb, hc⟩ := h.cells (by omega)
  have hl : j < l.length := by have := h.len; omega
  refine ⟨ad, _, e, hb, ⟨rfl, hl⟩, hc j hj, h.wf _ ?_⟩
  simp [List.getD, List.getElem?_eq_getElem hl]
theorem Nums.keep {w w' : World} {k : IntKind} {B B' : Nat} {A : Option Addr} {n c : Nat} {l : List Int} (h : Nums w k B A n c l) (hb : Below B w w') (hB : B ≤ B') : Nums w' k B' A n c l :=
  ⟨h.len, h.cap, h.max, fun hn => by
    obtain ⟨ad, e, hlt, hc⟩ := h.cells hn
    exact ⟨ad, e, by omega, fun j hj => by rw [hb.cell (by rw [add_block]; exact hlt)]; exact hc j hj⟩, h.wf, h.zero⟩
theorem Nums.getD_wf {w : World} {k : IntKind} {B : Nat} {A : Option Addr} {n c : Nat} {l : List Int} (h : Nums w k B A n c l) {j : Nat} (hj : j < n) : (Lit.int k (l.getD j 0)).wf = true := by
  have hl := h.len
  have e : l.getD j 0 = l[j]'(by omega) := by simp [List.getD, List.getElem?_eq_getElem (show j < l.length by omega)]
  rw [e]
  exact h.wf _ (List.getElem_mem _)

section
variable {H : Type} {enc : TypeId × Value → H} {P : Program} {w : World} {held : Bool}
theorem open_nums_in {t e : TypeId} {k : IntKind} {fuel : Nat} {v : Value} {x : DataW H × List MemPlace} {B : Nat} (ht : P.underlying t = some (.slice e)) (he : P.underlying e = some (.int k)) (hc : P.cellsOf e = 1)
    (h : DataW.trod enc P w 0 (fun _ => true) held fuel t [v] = some x) (hlt : ∀ p ∈ x.2, p.block < B) :
    ∃ A n c l, v = .slice A n c ∧ Nums w k B A n c l := by
  rcases open_ints ht he hc h with ⟨h1, _⟩ | ⟨a, len, cap, zs, h1, _, hl, hm, hz, rfl, hcell, hwf⟩
  · simp at h1; subst h1
    exact ⟨none, 0, 0, [], rfl, Nums.nil _ _ _⟩
  · simp at h1; subst h1
    simp at hz
    refine ⟨some a, len, cap, zs.take len, rfl, by simp; omega, hl, hm, fun hn => ⟨a, rfl, ?_, fun j hj => ?_⟩, fun y hy => hwf y (List.mem_of_mem_take hy), fun h => by cases h⟩
    · exact hlt (.cell a.block (a.off + 0)) (MemPlace.mem_row.2 ⟨0, by omega, rfl⟩)
    · rw [hcell j (by omega)]
      simp [List.getD, hj]
theorem open_nums {r : Reach} {b0 : Nat} {t e : TypeId} {k : IntKind} {v : Value} {d : DataW H} {ps : List MemPlace} (ht : P.underlying t = some (.slice e)) (he : P.underlying e = some (.int k)) (hc : P.cellsOf e = 1)
    (hval : Value.okWide P w r b0 t v) (hd : DataW.Trod enc P w 0 (fun _ => true) held t v d ps) (hlt : ∀ p ∈ ps, p.block < w.heap.size) :
    ∃ A n c l, v = .slice A n c ∧ Nums w k w.heap.size A n c l := by
  obtain ⟨a, len, cap, rfl⟩ := okWide_slice ht hval
  obtain ⟨fuel, hf⟩ := hd
  exact open_nums_in ht he hc (by simpa [Value.cells] using hf) hlt
theorem open_int_in {t : TypeId} {k : IntKind} {fuel : Nat} {v : Value} {x : DataW H × List MemPlace} (ht : P.underlying t = some (.int k)) (h : DataW.trod enc P w 0 (fun _ => true) held fuel t [v] = some x) :
    ∃ n, v = .int k n ∧ (Lit.int k n).wf = true := by
  obtain ⟨n', h, hx, hw⟩ := DataW.trod_int ht h
  simp at h
  exact ⟨n', h, hw⟩
end
end Go.Proofs.Ytoomgbddfcmjnaa
