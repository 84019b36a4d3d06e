/- Rows of ints of a function's own that a library function writes: what is sorted, or made shorter. -/
import Derived.Test.YtoomgbddfcmjnaaGi
import Derived.Test.YtoomgbddfcmjnaaShelf
import Derived.Sort.OwnSortedInts
namespace Go.Proofs.Ytoomgbddfcmjnaa
open Go.RowKit Go.Sort Go.Lib
theorem below_putRow {w : World} {B g q : Nat} {os : Array Obj} (d : Array Int) (hg : B ≤ g) (hB : B ≤ w.heap.size) : Below B w (grow (putRow (Value.int .i64) (Sort.ahead w q) g 0 d) os) :=
  (Below.refl B w).grown (grownBy_sortedI d) hB (fun k hk => by injection hk with hk; omega)
/-- what a row of ints of the function's own is good for -/
theorem Own.row {w : World} {base : Nat} {e : TypeId} {v : Value} {l : List Int} (h : Own w base e .i64 v l) :
    (v = .slice none 0 0 ∧ l = []) ∨ ∃ g cap, v = .slice (some ⟨g, 0, none⟩) l.length cap ∧ base ≤ g ∧ g < w.heap.size ∧ l.length ≤ cap ∧ cap ≤ maxLen ∧ Holds (Value.int .i64) w g 0 l.toArray ∧
      ∀ (ts : List Int) (q : Nat) (os : Array Obj), ts.length = l.length → Own (Go.Sort.grow (putRow (Value.int .i64) (Sort.ahead w q) g 0 ts.toArray) os) base e .i64 (.slice (some ⟨g, 0, none⟩) ts.length cap) ts := by
  have h0 := h
  obtain ⟨hl, ⟨rfl, hn⟩ | ⟨g, cap, cur, rfl, hg, hh, hle, hmax, hsz, htake⟩⟩ := h
  · exact .inl ⟨rfl, List.eq_nil_of_length_eq_zero hn⟩
  · refine .inr ⟨g, cap, rfl, hg, (World.ownsRow.lt h0 g rfl).2, hle, hmax, holds_of_blockI hh (by simpa using htake), fun ts q os ht => ?_⟩
    have := ownsRow_sortedI (n := q) (os := os) ht hg hh hle hmax hsz
    rw [← ht] at this
    exact this
/-- the same row, shorter -/
theorem Own.cut {w : World} {base g n cap m : Nat} {e : TypeId} {k : IntKind} {l : List Int} (h : Own w base e k (.slice (some ⟨g, 0, none⟩) n cap) l) (hm : m ≤ n) : Own w base e k (.slice (some ⟨g, 0, none⟩) m cap) (l.take m) := by
  obtain ⟨hl, ⟨hv, hn⟩ | ⟨g', cap', cur, hv, hg, hh, hle, hmax, hsz, htake⟩⟩ := h
  · cases hv
  · cases hv
    have e1 : (l.take m).length = m := by rw [List.length_take]; omega
    refine ⟨by simp, .inr ⟨g, cap, cur, by rw [e1], hg, hh, by rw [e1]; omega, hmax, hsz, ?_⟩⟩
    rw [e1, List.map_take, ← htake, List.take_take]
    congr 1
    rw [Nat.mul_one, Nat.mul_one]; omega
theorem Own.numsN {w : World} {base : Nat} {e : TypeId} {k : IntKind} {v : Value} {l : List Int} (h : Own w base e k v l) (hw : ∀ x ∈ l, (Lit.int k x).wf = true) :
    ∃ A N c, v = .slice A N c ∧ Hid (N = l.length) ∧ Nums w k w.heap.size A N c l := by
  obtain ⟨A, c, hv, hn⟩ := h.nums hw
  exact ⟨A, _, c, hv, Lib.hid rfl, hn⟩
theorem putRow_grow0 (w : World) (q g : Nat) (d : Array Int) : putRow (Value.int .i64) (Sort.ahead w q) g 0 d = grow (putRow (Value.int .i64) (Sort.ahead w q) g 0 d) #[] := by simp
theorem sort_own (base : Nat) (v : Value) (l : List Int) (w : World) (h : Own w base 3 .i64 v l) (hb : base ≤ w.heap.size) (hn : l.length ≤ 1000000) :
    Calls Try.prog 116 #[v] w fun e w' => e = .returned (.tuple #[]) ∧ Own w' base 3 .i64 v (l.mergeSort fun x y => decide (x ≤ y)) ∧ Below base w w' := by
  rcases h.row with ⟨rfl, rfl⟩ | ⟨g, cap, rfl, hg, hgs, hle, hmax, hH, hown⟩
  · refine (Try.slices_Sort_int_none none 0 w).mono fun e w' ⟨he, hw⟩ => ?_
    subst hw
    exact ⟨he, by simpa using Own.nil _ _ _ _, Below.refl _ _⟩
  · refine (Try.slices_Sort_int g 0 cap l w hH hgs (by omega)).mono fun e w' ⟨he, q, os, hw⟩ => ?_
    subst hw
    have hl : (l.mergeSort fun x y => decide (x ≤ y)).length = l.length := List.length_mergeSort _
    refine ⟨he, ?_, below_putRow _ hg hb⟩
    have := hown _ q os hl
    rwa [hl] at this
end Go.Proofs.Ytoomgbddfcmjnaa
