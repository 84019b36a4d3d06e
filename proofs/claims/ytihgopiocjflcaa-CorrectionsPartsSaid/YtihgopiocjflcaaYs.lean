/- lineage: what is sorted without repetitions. -/
import Derived.Test.YtihgopiocjflcaaZs
import Derived.Test.YtihgopiocjflcaaSo
namespace Go.Proofs.Ytihgopiocjflcaa
open Go.RowKit Go.Sort Go.Lib
theorem compact_own (base : Nat) (v : Value) (l : List Int) (w : World) (h : Own w base 3 .i64 v l) (hb : base ≤ w.heap.size) (hn : l.length ≤ 1000000) :
    Calls Try.prog 19 #[v] w fun e w' => ∃ v', e = .returned v' ∧ Own w' base 3 .i64 v' (Lib.compactUpTo l.toArray l.length) ∧ Below base w w' := by
  rcases h.row with ⟨rfl, rfl⟩ | ⟨g, cap, rfl, hg, hgs, hle, hmax, hH, hown⟩
  · refine (Try.slices_Compact_int_empty none 0 w).mono fun e w' ⟨he, hw⟩ => ?_
    subst hw
    exact ⟨_, he, by simpa [Lib.compactUpTo] using Own.nil _ _ _ _, Below.refl _ _⟩
  · have hc := Try.slices_Compact_int_arr g 0 cap l.toArray w hH (by simp; omega) (by simpa using hle)
    have hsz : l.toArray.size = l.length := by simp
    rw [hsz] at hc
    refine hc.mono fun e w' ⟨he, q, hw⟩ => ?_
    have hcl : (Lib.compactUpTo l.toArray l.length).length ≤ l.length := by
      unfold Lib.compactUpTo
      rw [List.length_map]
      exact Nat.le_trans (List.length_filter_le _ _) (by simp)
    subst hw
    rw [putRow_grow0]
    have h1 := hown (Lib.compactUpTo l.toArray l.length ++ List.replicate (l.length - (Lib.compactUpTo l.toArray l.length).length) 0) q #[] (by rw [List.length_append, List.length_replicate]; omega)
    have h2 := h1.cut (m := (Lib.compactUpTo l.toArray l.length).length) (by rw [List.length_append]; omega)
    rw [List.take_left' rfl] at h2
    exact ⟨_, he, h2, below_putRow _ hg hb⟩
theorem set_own (A : Option Addr) (n c : Nat) (l : List Int) (w : World) (h : Nums w .i64 w.heap.size A n c l) (hn : n ≤ 1000000) :
    Calls Try.prog 15 #[.slice A n c] w (GivesInts (Zs.of l) w) := by
  have HL := Lib.hid h.len
  have HN := Lib.hid hn
  go_enter Try.func15, Try.ntmps15
  go_wp2_with fail
  refine (clone_any A n c l w h (by have := HN.out; omega)).mono ?_; rintro e w1 ⟨v1, rfl, hown1, hb1⟩
  have HO1 := Lib.hid hown1
  have HB1 := Lib.hid hb1
  clear h hn hown1 hb1
  go_wp2_with fail
  refine (sort_own w.heap.size v1 l w1 HO1.out HB1.out.size (by rw [HL.out]; exact HN.out)).mono ?_; rintro e w2 ⟨rfl, hown2, hb2⟩
  have HO2 := Lib.hid hown2
  have HB2 := Lib.hid (HB1.out.trans hb2)
  clear hown2 hb2
  go_wp2_with fail
  refine (compact_own w.heap.size v1 _ w2 HO2.out HB2.out.size (by rw [List.length_mergeSort, HL.out]; exact HN.out)).mono ?_; rintro e w3 ⟨v3, rfl, hown3, hb3⟩
  have HO3 := Lib.hid hown3
  have HB3 := Lib.hid (HB2.out.trans hb3)
  clear hown3 hb3
  go_wp2_with fail
  go_ret
  refine ⟨_, rfl, ?_, HB3.out⟩
  have := HO3.out
  rwa [List.length_mergeSort, Zs.compact_sort] at this
theorem of15 (A : Option Addr) (n c : Nat) (l : List Int) (w : World) (h : Nums w .i64 w.heap.size A n c l) (hn : n ≤ 1000000) :
    Calls Try.prog 12 #[.slice A n c] w (GivesInts (Zs.of l) w) := by
  go_enter Try.func12, Try.ntmps12
  go_wp2_with fail
  refine (set_own A n c l w h hn).mono ?_; rintro e w1 ⟨v1, rfl, hown1, hb1⟩
  clear h hn
  go_wp2_with fail
  go_ret
  exact ⟨_, rfl, hown1, hb1⟩
end Go.Proofs.Ytihgopiocjflcaa
