/- Journals: whether lists of bytes are of moderate size; whether two rows of rows are the same. -/
import Derived.Test.YtjhdhnefoclccaaK1
import Derived.Test.YtjhdhnefoclccaaOpm
import Derived.Test.YtjhdhnefoclccaaStr
import Derived.Deep.QuietTactic
import Derived.BigQuiet
import Derived.BigGuardPart
namespace Go.Proofs.Ytjhdhnefoclccaa
open Go.RowKit
def GivesSize (S : Nat → Option Addr × Nat × Nat) (w : World) (e : Ending) (w' : World) : Prop := ∃ r : Bool, e = .returned (.bool r) ∧ (r = true ↔ ∀ j, j < 3 → (S j).2.1 ≤ 4000) ∧ w = w'
set_option maxHeartbeats 800000 in
theorem size23 (g : Nat) (S : Nat → Option Addr × Nat × Nat) (w : World) (h : ∀ j, j < 3 → w.cell? ⟨g, j, none⟩ = some (.slice (S j).1 (S j).2.1 (S j).2.2)) :
    Calls Try.prog 10 #[.slice (some ⟨g, 0, none⟩) 3 3] w (GivesSize S w) := by
  have H := Lib.hid h
  clear h
  go_enter Try.func10, Try.ntmps10
  go_wp2_with fail
  go_loop [4, 7] (fun _ i => ∃ j : Nat, j ≤ 3 ∧ i = .int .i64 j ∧ Hid (∀ i, i < j → (S i).2.1 ≤ 4000)) (fun _ i => 3 - (intOf i).toNat)
  case atStart => exact ⟨0, by omega, rfl, Lib.hid (fun i hi => by omega)⟩
  case round =>
    obtain ⟨j, hj, rfl, HN⟩ := hrel
    by_cases hlt : j < 3
    · have hc := H.out j hlt
      have j3 : (j : Int) < 3 := by omega
      rcases hS : S j with ⟨A, n, c⟩
      simp only [hS] at hc
      by_cases hn : 4000 < n
      · have d1 : decide (4000 < (n : Int)) = true := by simp; omega
        have HF := Lib.hid (show ¬ (∀ j, j < 3 → (S j).2.1 ≤ 4000) from fun hall => by have := hall j hlt; rw [hS] at this; simp only at this; omega)
        clear hn
        go_wp2_with fail
        go_ret
        exact ⟨false, rfl, ⟨(fun h => Bool.noConfusion h), (fun h => absurd h HF.out)⟩, rfl⟩
      · have d1 : decide (4000 < (n : Int)) = false := by simp; omega
        have HS := Lib.hid (show ∀ i, i < j + 1 → (S i).2.1 ≤ 4000 from fun i hi => by
          rcases Nat.lt_or_ge i j with h | h
          · exact HN.out i h
          · obtain rfl : i = j := by omega
            rw [hS]; simp only; omega)
        clear hn
        go_wp2_with fail
        go_round
        case rel => exact ⟨j + 1, by omega, by go_num, HS⟩
        case measure => simp [intOf]; omega
    · obtain rfl : j = 3 := by omega
      go_wp2_with fail
      go_ret
      exact ⟨true, rfl, ⟨fun _ => HN.out, fun _ => rfl⟩, rfl⟩
theorem OwnRows.numRows {w : World} {base : Nat} {e eb : TypeId} {k : IntKind} {v : Value} {ls : List (List Int)} (h : OwnRows w base e eb k v ls) (hs : ls.length ≤ 1000000000) (hw : ∀ l ∈ ls, ∀ x ∈ l, (Lit.int k x).wf = true) :
    ∃ A N c, v = .slice A N c ∧ Hid (N = ls.length) ∧ NumRows w k w.heap.size A N N ls := by
  obtain ⟨A, c, hv, _, hr⟩ := h.read
  refine ⟨A, _, c, hv, Lib.hid rfl, rfl, Nat.le_refl _, by simp only [maxLen]; omega, fun hn => ?_⟩
  obtain ⟨g, _, hA, hg, _, _⟩ := hr 0 hn
  refine ⟨⟨g, 0, none⟩, hA, hg, fun j hj => ?_⟩
  obtain ⟨g', vi, hA', _, hc, ho⟩ := hr j hj
  rw [hA] at hA'
  injection hA' with hA'
  injection hA' with hA'
  subst hA'
  obtain ⟨Aj, nj, cj, rfl, _, hn⟩ := ho.numsN (fun x hx => hw _ (by simp [List.getD, List.getElem?_eq_getElem hj]) x hx)
  exact ⟨Aj, nj, cj, by rw [show (⟨g, 0, none⟩ : Addr).add j = ⟨g, j, none⟩ from addr_add g j]; exact hc, hn⟩
set_option maxHeartbeats 800000 in
theorem lists_true (A A' : Option Addr) (n c c' d d' : Nat) (ls : List (List Int)) (w : World) (h : NumRows w .u8 w.heap.size A n d ls) (h' : NumRows w .u8 w.heap.size A' n d' ls) :
    Calls Try.prog 20 #[.slice A n c, .slice A' n c'] w fun e w' => e = .returned (.bool true) ∧ Below w.heap.size w w' := by
  have hm : n ≤ 9223372036854775807 := by have := h.cap; have := h.max; unfold maxLen at this; omega
  have H := Lib.hid h
  have H' := Lib.hid h'
  clear h h'
  go_enter Try.func20, Try.ntmps20
  go_wp2_with fail
  go_loopw [5, 13] (fun _ i wr => ∃ j m : Nat, j ≤ n ∧ i = .int .i64 j ∧ wr = w.drewN m) (fun _ i _ => n - (intOf i).toNat)
  case atStart => exact ⟨0, 0, by omega, rfl, rfl⟩
  case round =>
    obtain ⟨j, m, hj, rfl, rfl⟩ := hrel
    by_cases hlt : j < n
    · obtain ⟨ad, rfl, _, hc⟩ := H.out.cells (by omega)
      obtain ⟨ad', rfl, _, hc'⟩ := H'.out.cells (by omega)
      obtain ⟨Aj, nj, cj, x1, n1⟩ := hc j hlt
      obtain ⟨Bj, mj, dj, x2, n2⟩ := hc' j hlt
      have s1 : ∀ m, (convert 22 9 (.slice Aj nj cj)).run Try.prog (w.drewN m) = .ok (.string (strOfNums (ls.getD j []))) (w.drewN m) := fun m => (n1.keep (below_drewN (Below.refl _ _) m) (Nat.le_refl _)).str _ _ _ Try.underlying22 Try.underlying5 Try.underlying9
      have s2 : ∀ m, (convert 22 9 (.slice Bj mj dj)).run Try.prog (w.drewN m) = .ok (.string (strOfNums (ls.getD j []))) (w.drewN m) := fun m => (n2.keep (below_drewN (Below.refl _ _) m) (Nat.le_refl _)).str _ _ _ Try.underlying22 Try.underlying5 Try.underlying9
      generalize strOfNums (ls.getD j []) = str at *
      have i1 : (j : Int) < n := by omega
      have i2 : (0 : Int) ≤ j := by omega
      clear hc hc' n1 n2
      go_wp2_with fail
      go_quiet (fail)
      go_wp2_with fail
      go_roundw
      case rel => exact ⟨j + 1, _, by omega, by go_num, rfl⟩
      case measure => simp [intOf]; omega
    · obtain rfl : j = n := by omega
      go_wp2_with fail
      go_ret
      exact ⟨rfl, below_drewN (Below.refl _ _) _⟩
end Go.Proofs.Ytjhdhnefoclccaa
