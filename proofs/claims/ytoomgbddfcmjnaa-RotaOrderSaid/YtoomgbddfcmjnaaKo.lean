/- Ints: slices.Compact. -/
import Derived.Test.YtoomgbddfcmjnaaZs
import Derived.Test.YtoomgbddfcmjnaaSo
namespace Go.Proofs.Ytoomgbddfcmjnaa
open Go.RowKit Go.Sort Go.Lib
theorem compact_own (base : Nat) (v : Value) (l : List Int) (w : World) (h : Own w base 3 .i64 v l) (hb : base ≤ w.heap.size) (hn : l.length ≤ 1000000) :
    Calls Try.prog 117 #[v] w fun e w' => ∃ v', e = .returned v' ∧ Own w' base 3 .i64 v' (Lib.compactUpTo l.toArray l.length) ∧ Below base w w' := by
  rcases h.row with ⟨rfl, rfl⟩ | ⟨g, cap, rfl, hg, hgs, hle, hmax, hH, hown⟩
  · refine (Try.slices_Compact_int_empty none 0 w).mono fun e w' ⟨he, hw⟩ => ?_
    subst hw
    exact ⟨_, he, by simpa [Lib.compactUpTo] using Own.nil _ _ _ _, Below.refl _ _⟩
  · have hc := Try.slices_Compact_int_arr g 0 cap l.toArray w hH (by simp; omega) (by simpa using hle)
    have hsz : l.toArray.size = l.length := by simp
    rw [hsz] at hc
    refine hc.mono fun e w' ⟨he, q, hw⟩ => ?_
    have hcl : (Lib.compactUpTo l.toArray l.length).length ≤ l.length := by
      unfold Lib.compactUpTo
      rw [List.length_map]
      exact Nat.le_trans (List.length_filter_le _ _) (by simp)
    subst hw
    rw [putRow_grow0]
    have h1 := hown (Lib.compactUpTo l.toArray l.length ++ List.replicate (l.length - (Lib.compactUpTo l.toArray l.length).length) 0) q #[] (by rw [List.length_append, List.length_replicate]; omega)
    have h2 := h1.cut (m := (Lib.compactUpTo l.toArray l.length).length) (by rw [List.length_append]; omega)
    rw [List.take_left' rfl] at h2
    exact ⟨_, he, h2, below_putRow _ hg hb⟩
end Go.Proofs.Ytoomgbddfcmjnaa
