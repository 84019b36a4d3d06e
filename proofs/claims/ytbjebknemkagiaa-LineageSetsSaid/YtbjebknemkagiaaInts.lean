/- Lists of ints: whether one has a number, whether two are the same. -/
import Derived.Test.YtbjebknemkagiaaProg
import Derived.Test.YtbjebknemkagiaaOpen
import Derived.Test.YtbjebknemkagiaaGen
import Derived.Lib.Hide
import Derived.BigGuardPart
import Derived.Deep.QuietTactic
import Derived.BigQuiet
namespace Go.Proofs.Ytbjebknemkagiaa
open Go.RowKit
theorem has_any (A : Option Addr) (n c : Nat) (l : List Int) (k : Int) (B : Nat) (w : World) (h : Nums w .i64 B A n c l) :
    Calls Try.prog 41 #[.slice A n c, .int .i64 k] w fun e w' => e = .returned (.bool (decide (k ∈ l))) ∧ w = w' := by
  have hm : n ≤ 9223372036854775807 := by have := h.cap; have := h.max; unfold maxLen at this; omega
  have H := Lib.hid h
  have HL := Lib.hid h.len
  clear h
  go_enter Try.func41, Try.ntmps41
  go_wp2_with fail
  go_loop [5] (fun i => ∃ j : Nat, j ≤ n ∧ i = .int .i64 j ∧ Hid (k ∉ l.take j)) (fun i => n - (intOf i).toNat)
  case atStart => exact ⟨0, by omega, rfl, Lib.hid (by simp)⟩
  case round =>
    obtain ⟨j, hj, rfl, HN⟩ := hrel
    by_cases hlt : j < n
    · obtain ⟨ad, x, rfl, _, HX, hx, _⟩ := H.out.val hlt
      by_cases he : x = k
      · have hb : (x == k) = true := by simpa using he
        have HE := Lib.hid he
        clear he
        go_wp2
        go_ret
        refine ⟨retb ?_, rfl⟩
        have := getD_mem HX.out
        rw [HE.out] at this
        simp [this]
      · have hb : (x == k) = false := by simpa using he
        have HE := Lib.hid he
        clear he
        go_wp2
        go_round
        case rel => exact ⟨j + 1, by omega, by go_num, Lib.hid fun e => ((mem_take_succ HX.out).1 e).elim HN.out fun e => HE.out e.symm⟩
        case measure => simp [intOf]; omega
    · obtain rfl : j = n := by omega
      go_wp2
      go_ret
      refine ⟨retb ?_, rfl⟩
      have := HN.out
      rw [take_len HL.out] at this
      simp [this]
theorem ints_any (A A' : Option Addr) (n c n' c' : Nat) (l l' : List Int) (B B' : Nat) (w : World) (h : Nums w .i64 B A n c l) (h' : Nums w .i64 B' A' n' c' l') :
    Calls Try.prog 14 #[.slice A n c, .slice A' n' c'] w fun e w' => e = .returned (.bool (decide (l = l'))) ∧ ∃ m, w' = w.drewN m := by
  have hm : n ≤ 9223372036854775807 := by have := h.cap; have := h.max; unfold maxLen at this; omega
  have hm' : n' ≤ 9223372036854775807 := by have := h'.cap; have := h'.max; unfold maxLen at this; omega
  have H := Lib.hid h
  have HL := Lib.hid h.len
  have H' := Lib.hid h'
  have HL' := Lib.hid h'.len
  clear h h'
  by_cases hn : n = n'
  · subst hn
    go_enter Try.func14, Try.ntmps14
    go_wp2_with fail
    go_loopw [5] (fun i wr => ∃ j : Nat, j ≤ n ∧ i = .int .i64 j ∧ Hid (l.take j = l'.take j) ∧ ∃ m, wr = w.drewN m) (fun i _ => n - (intOf i).toNat)
    case atStart => exact ⟨0, by omega, rfl, Lib.hid rfl, 0, rfl⟩
    case round =>
      obtain ⟨j, hj, rfl, HN, m, rfl⟩ := hrel
      by_cases hlt : j < n
      · obtain ⟨ad, x, rfl, _, HX, hx, _⟩ := H.out.val hlt
        obtain ⟨ad', x', rfl, _, HX', hx', _⟩ := H'.out.val hlt
        by_cases he : x = x'
        · have hb : (x != x') = false := by simpa using he
          have HE := Lib.hid he
          clear he
          go_wp2_with fail
          go_quiet (fail)
          go_wp2_with fail
          go_roundw
          case rel => exact ⟨j + 1, by omega, by go_num, Lib.hid ((take_succ_eq HX.out HX'.out HN.out).2 HE.out), _, rfl⟩
          case measure => simp [intOf]; omega
        · have hb : (x != x') = true := by simpa using he
          have HE := Lib.hid he
          clear he
          go_wp2_with fail
          go_quiet (fail)
          go_wp2_with fail
          go_ret
          refine ⟨retb ?_, m + nq, by simp⟩
          have : l ≠ l' := fun e => HE.out ((take_succ_eq HX.out HX'.out HN.out).1 (by rw [e]))
          simp [this]
      · obtain rfl : j = n := by omega
        go_wp2
        go_ret
        refine ⟨retb ?_, _, rfl⟩
        have := HN.out
        rw [take_len HL.out, take_len HL'.out] at this
        simp [this]
  · have hb : ((n : Int) != (n' : Int)) = true := by simp; omega
    have HE := Lib.hid hn
    clear hn
    go_enter Try.func14, Try.ntmps14
    go_wp2
    go_ret
    refine ⟨retb ?_, 0, rfl⟩
    have : l ≠ l' := fun e => HE.out (by rw [← HL.out, ← HL'.out, e])
    simp [this]
end Go.Proofs.Ytbjebknemkagiaa
