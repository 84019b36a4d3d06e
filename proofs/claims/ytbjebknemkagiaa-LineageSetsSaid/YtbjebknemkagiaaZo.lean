/- Rows of ints of a function's own that a library function writes: what is sorted, made shorter, or filtered. And lineage's set and part. -/
import Derived.Test.YtbjebknemkagiaaZw
import Derived.Test.YtbjebknemkagiaaShelf
import Derived.Sort.OwnSortedInts
namespace Go.Proofs.Ytbjebknemkagiaa
open Go.RowKit Go.Sort Go.Lib
theorem below_putRow {w : World} {B g q : Nat} {os : Array Obj} (d : Array Int) (hg : B ≤ g) (hB : B ≤ w.heap.size) : Below B w (grow (putRow (Value.int .i64) (Sort.ahead w q) g 0 d) os) :=
  (Below.refl B w).grown (grownBy_sortedI d) hB (fun k hk => by injection hk with hk; omega)
/-- what a row of ints of the function's own is good for -/
theorem Own.row {w : World} {base : Nat} {e : TypeId} {v : Value} {l : List Int} (h : Own w base e .i64 v l) :
    (v = .slice none 0 0 ∧ l = []) ∨ ∃ g cap, v = .slice (some ⟨g, 0, none⟩) l.length cap ∧ base ≤ g ∧ g < w.heap.size ∧ l.length ≤ cap ∧ cap ≤ maxLen ∧ Holds (Value.int .i64) w g 0 l.toArray ∧
      ∀ (ts : List Int) (q : Nat) (os : Array Obj), ts.length = l.length → Own (Go.Sort.grow (putRow (Value.int .i64) (Sort.ahead w q) g 0 ts.toArray) os) base e .i64 (.slice (some ⟨g, 0, none⟩) ts.length cap) ts := by
  have h0 := h
  obtain ⟨hl, ⟨rfl, hn⟩ | ⟨g, cap, cur, rfl, hg, hh, hle, hmax, hsz, htake⟩⟩ := h
  · exact .inl ⟨rfl, List.eq_nil_of_length_eq_zero hn⟩
  · refine .inr ⟨g, cap, rfl, hg, (World.ownsRow.lt h0 g rfl).2, hle, hmax, holds_of_blockI hh (by simpa using htake), fun ts q os ht => ?_⟩
    have := ownsRow_sortedI (n := q) (os := os) ht hg hh hle hmax hsz
    rw [← ht] at this
    exact this
/-- the same row, shorter -/
theorem Own.cut {w : World} {base g n cap m : Nat} {e : TypeId} {k : IntKind} {l : List Int} (h : Own w base e k (.slice (some ⟨g, 0, none⟩) n cap) l) (hm : m ≤ n) : Own w base e k (.slice (some ⟨g, 0, none⟩) m cap) (l.take m) := by
  obtain ⟨hl, ⟨hv, hn⟩ | ⟨g', cap', cur, hv, hg, hh, hle, hmax, hsz, htake⟩⟩ := h
  · cases hv
  · cases hv
    have e1 : (l.take m).length = m := by rw [List.length_take]; omega
    refine ⟨by simp, .inr ⟨g, cap, cur, by rw [e1], hg, hh, by rw [e1]; omega, hmax, hsz, ?_⟩⟩
    rw [e1, List.map_take, ← htake, List.take_take]
    congr 1
    rw [Nat.mul_one, Nat.mul_one]; omega
theorem Own.numsN {w : World} {base : Nat} {e : TypeId} {k : IntKind} {v : Value} {l : List Int} (h : Own w base e k v l) (hw : ∀ x ∈ l, (Lit.int k x).wf = true) :
    ∃ A N c, v = .slice A N c ∧ Hid (N = l.length) ∧ Nums w k w.heap.size A N c l := by
  obtain ⟨A, c, hv, hn⟩ := h.nums hw
  exact ⟨A, _, c, hv, Lib.hid rfl, hn⟩
theorem putRow_grow0 (w : World) (q g : Nat) (d : Array Int) : putRow (Value.int .i64) (Sort.ahead w q) g 0 d = grow (putRow (Value.int .i64) (Sort.ahead w q) g 0 d) #[] := by simp
theorem sort_own (base : Nat) (v : Value) (l : List Int) (w : World) (h : Own w base 3 .i64 v l) (hb : base ≤ w.heap.size) (hn : l.length ≤ 1000000) :
    Calls Try.prog 52 #[v] w fun e w' => e = .returned (.tuple #[]) ∧ Own w' base 3 .i64 v (l.mergeSort fun x y => decide (x ≤ y)) ∧ Below base w w' := by
  rcases h.row with ⟨rfl, rfl⟩ | ⟨g, cap, rfl, hg, hgs, hle, hmax, hH, hown⟩
  · refine (Try.slices_Sort_int_none none 0 w).mono fun e w' ⟨he, hw⟩ => ?_
    subst hw
    exact ⟨he, by simpa using Own.nil _ _ _ _, Below.refl _ _⟩
  · refine (Try.slices_Sort_int g 0 cap l w hH hgs (by omega)).mono fun e w' ⟨he, q, os, hw⟩ => ?_
    subst hw
    have hl : (l.mergeSort fun x y => decide (x ≤ y)).length = l.length := List.length_mergeSort _
    refine ⟨he, ?_, below_putRow _ hg hb⟩
    have := hown _ q os hl
    rwa [hl] at this
theorem compact_own (base : Nat) (v : Value) (l : List Int) (w : World) (h : Own w base 3 .i64 v l) (hb : base ≤ w.heap.size) (hn : l.length ≤ 1000000) :
    Calls Try.prog 53 #[v] w fun e w' => ∃ v', e = .returned v' ∧ Own w' base 3 .i64 v' (Lib.compactUpTo l.toArray l.length) ∧ Below base w w' := by
  rcases h.row with ⟨rfl, rfl⟩ | ⟨g, cap, rfl, hg, hgs, hle, hmax, hH, hown⟩
  · refine (Try.slices_Compact_int_empty none 0 w).mono fun e w' ⟨he, hw⟩ => ?_
    subst hw
    exact ⟨_, he, by simpa [Lib.compactUpTo] using Own.nil _ _ _ _, Below.refl _ _⟩
  · have hc := Try.slices_Compact_int_arr g 0 cap l.toArray w hH (by simp; omega) (by simpa using hle)
    have hsz : l.toArray.size = l.length := by simp
    rw [hsz] at hc
    refine hc.mono fun e w' ⟨he, q, hw⟩ => ?_
    have hcl : (Lib.compactUpTo l.toArray l.length).length ≤ l.length := by
      unfold Lib.compactUpTo
      rw [List.length_map]
      exact Nat.le_trans (List.length_filter_le _ _) (by simp)
    subst hw
    rw [putRow_grow0]
    have h1 := hown (Lib.compactUpTo l.toArray l.length ++ List.replicate (l.length - (Lib.compactUpTo l.toArray l.length).length) 0) q #[] (by rw [List.length_append, List.length_replicate]; omega)
    have h2 := h1.cut (m := (Lib.compactUpTo l.toArray l.length).length) (by rw [List.length_append]; omega)
    rw [List.take_left' rfl] at h2
    exact ⟨_, he, h2, below_putRow _ hg hb⟩
theorem set_own (A : Option Addr) (n c : Nat) (l : List Int) (w : World) (h : Nums w .i64 w.heap.size A n c l) (hn : n ≤ 1000000) :
    Calls Try.prog 35 #[.slice A n c] w (GivesInts (Zs.of l) w) := by
  have HL := Lib.hid h.len
  have HN := Lib.hid hn
  go_enter Try.func35, Try.ntmps35
  go_wp2_with fail
  refine (clone_any A n c l w h (by have := HN.out; omega)).mono ?_; rintro e w1 ⟨v1, rfl, hown1, hb1⟩
  have HO1 := Lib.hid hown1
  have HB1 := Lib.hid hb1
  clear h hn hown1 hb1
  go_wp2_with fail
  refine (sort_own w.heap.size v1 l w1 HO1.out HB1.out.size (by rw [HL.out]; exact HN.out)).mono ?_; rintro e w2 ⟨rfl, hown2, hb2⟩
  have HO2 := Lib.hid hown2
  have HB2 := Lib.hid (HB1.out.trans hb2)
  clear hown2 hb2
  go_wp2_with fail
  refine (compact_own w.heap.size v1 _ w2 HO2.out HB2.out.size (by rw [List.length_mergeSort, HL.out]; exact HN.out)).mono ?_; rintro e w3 ⟨v3, rfl, hown3, hb3⟩
  have HO3 := Lib.hid hown3
  have HB3 := Lib.hid (HB2.out.trans hb3)
  clear hown3 hb3
  go_wp2_with fail
  go_ret
  refine ⟨_, rfl, ?_, HB3.out⟩
  have := HO3.out
  rwa [List.length_mergeSort, Zs.compact_sort] at this
end Go.Proofs.Ytbjebknemkagiaa
