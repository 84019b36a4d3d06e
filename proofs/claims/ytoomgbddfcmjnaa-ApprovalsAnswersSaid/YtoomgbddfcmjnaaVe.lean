/- Lists of texts: whether two are the same; draws of a rest. -/
import Derived.Test.YtoomgbddfcmjnaaVd
import Derived.Test.YtoomgbddfcmjnaaAq
import Derived.Test.YtoomgbddfcmjnaaAo
import Derived.Test.YtoomgbddfcmjnaaMo
namespace Go.Proofs.Ytoomgbddfcmjnaa
open Go.RowKit
set_option maxRecDepth 100000 in
set_option maxHeartbeats 800000 in
theorem texts36 (A A' : Option Addr) (n c c' : Nat) (L : List Tx) (w : World) (h : RRow txRec w w.heap.size A n c L) (h' : RRow txRec w w.heap.size A' n c' L) :
    Calls Try.prog 58 #[.slice A n c, .slice A' n c'] w fun e w' => e = .returned (.bool true) ∧ Below w.heap.size w w' := by
  have H := Lib.hid h
  have H' := Lib.hid h'
  have hm : n ≤ 9223372036854775807 := by have := h.cap; have := h.max; unfold maxLen at this; omega
  have g0 : ((n : Int) != (n : Int)) = false := by simp
  clear h h'
  go_enter Try.func58, Try.ntmps58
  go_wp2_with fail
  go_loopw [13] (fun iv wr => ∃ j : Nat, j ≤ n ∧ iv = .int .i64 j ∧ ∃ m, wr = w.drewN m) (fun iv _ => n - (intOf iv).toNat)
  case atStart => exact ⟨0, by omega, rfl, 0, rfl⟩
  case round =>
    obtain ⟨j, hj, rfl, m, rfl⟩ := hrel
    by_cases hlt : j < n
    · obtain ⟨ad, s, rfl, HX, c0⟩ := H.out.tx hlt
      obtain ⟨ad', s', rfl, HX', c0'⟩ := H'.out.tx hlt
      obtain rfl : s = s' := txOf_inj (by rw [← HX.out.1, ← HX'.out.1])
      have gx : (s.toList == s.toList) = true := by simp
      have i1 : (0 : Int) ≤ (j : Int) := by omega
      have i2 : (j : Int) < (n : Int) := by omega
      go_wp2_with fail
      go_quiet (fail)
      go_wp2_with fail
      go_roundw
      case rel => exact ⟨j + 1, by omega, by go_num, _, rfl⟩
      case measure => simp [intOf]; omega
    · obtain rfl : n = j := by omega
      go_wp2_with fail
      go_ret
      exact ⟨rfl, below_drewN (Below.refl _ _) _⟩
end Go.Proofs.Ytoomgbddfcmjnaa
