/- Rows of texts, sorted. -/
import Derived.Test.YtoomgbddfcmjnaaTs0
import Derived.Test.YtoomgbddfcmjnaaShelf
import Derived.Sort.OwnSorted
namespace Go.Proofs.Ytoomgbddfcmjnaa
open Go.RowKit Go.Sort Go.Lib
theorem tx_sorted_len (L : List Tx) : (L.mergeSort fun x y => decide (x ≤ y)).length = L.length := List.length_mergeSort _
theorem sort_tx (base : Nat) (v : Value) (L : List Tx) (w : World) (h : ROwn txRec w base v L) (hb : base ≤ w.heap.size) (hn : L.length ≤ 1000000) :
    Calls Try.prog 102 #[v] w fun e w' => e = .returned (.tuple #[]) ∧ ROwn txRec w' base v (L.mergeSort fun x y => decide (x ≤ y)) ∧ Below base w w' := by
  have h0 := h
  unfold ROwn at h
  rw [tx_flat] at h
  obtain ⟨hl, ⟨rfl, hn0⟩ | ⟨g, cap, cur, rfl, hg, hh, hle, hmax, hsz, htake⟩⟩ := h
  · have : L = [] := List.eq_nil_of_length_eq_zero hn0
    subst this
    refine (Try.slices_Sort_string_none none 0 w).mono fun e w' ⟨he, hw⟩ => ?_
    subst hw
    exact ⟨he, by simpa using ROwn.nil _ _, Below.refl _ _⟩
  · have hsz' : cur.size = cap * 1 := hsz
    refine (Try.slices_Sort_string g 0 cap L w (holds_of_block hh (by simpa [txRec] using htake)) (Array.getElem?_eq_some_iff.1 hh).1 (by omega)).mono fun e w' ⟨he, q, os, hw⟩ => ?_
    subst hw
    refine ⟨he, ?_, (Below.refl base w).grown (grownBy_sorted _) hb (fun k hk => by injection hk with hk; omega)⟩
    unfold ROwn
    rw [tx_flat, tx_sorted_len]
    exact ownsRow_sorted (tx_sorted_len L) hg hh hle hmax hsz'
end Go.Proofs.Ytoomgbddfcmjnaa
