/- Approvals: the reference's comparison of what is the same. -/
import Derived.Test.YtoomgbddfcmjnaaAl
namespace Go.Proofs.Ytoomgbddfcmjnaa
open Go.RowKit
theorem neqAp (p r : ByteArray) (f u : Int) (w : World) : (binOp .neq 74 (.agg #[.string p, .string r, .int .i64 f, .int .i64 u]) (.agg #[.string p, .string r, .int .i64 f, .int .i64 u])).run Try.prog w = .ok (.bool false) w := by
  have u3 := Try.underlying3
  have a3 := Try.isAgg3
  have z3 := Try.sizeOf3
  have u9 := Try.underlying9
  have a9 := Try.isAgg9
  have z9 := Try.sizeOf9
  have hS : Try.prog.underlying 74 = some (.struct (Try.prog.fieldsOf 74)) := by kernel_rfl
  have hp : Try.prog.stoodInHeld 74 = false := by kernel_rfl
  rw [run_neq_struct, show (10000 : Nat) = 9999 + 1 from rfl, run_equalIn_agg w 9999 74 _ _ hS hp]
  simp only [Program.fieldsOf, Try.underlying74]
  go_simp
set_option maxRecDepth 100000 in
set_option maxHeartbeats 800000 in
theorem same39 (A A' : Option Addr) (n c c' : Nat) (L : List Ap) (w : World) (h : RRow apRec w w.heap.size A n c L) (h' : RRow apRec w w.heap.size A' n c' L) :
    Calls Try.prog 53 #[.slice A n c, .slice A' n c'] w fun e w' => e = .returned (.bool true) ∧ Below w.heap.size w w' := by
  have H := Lib.hid h
  have H' := Lib.hid h'
  have hm : n ≤ 9223372036854775807 := by have := h.cap; have := h.max; unfold maxLen at this; omega
  have g0 : ((n : Int) != (n : Int)) = false := by simp
  clear h h'
  go_enter Try.func53, Try.ntmps53
  go_wp2_with fail
  go_loopw [13] (fun iv wr => ∃ j : Nat, j ≤ n ∧ iv = .int .i64 j ∧ ∃ m, wr = w.drewN m) (fun iv _ => n - (intOf iv).toNat)
  case atStart => exact ⟨0, by omega, rfl, 0, rfl⟩
  case round =>
    obtain ⟨j, hj, rfl, m, rfl⟩ := hrel
    by_cases hlt : j < n
    · obtain ⟨ad, yp, yr, yf, yu, rfl, HX, c0, c1, c2, c3⟩ := H.out.ap hlt
      obtain ⟨ad', yp', yr', yf', yu', rfl, HX', d0, d1, d2, d3⟩ := H'.out.ap hlt
      obtain ⟨rfl, rfl, rfl, rfl⟩ : yp = yp' ∧ yr = yr' ∧ yf = yf' ∧ yu = yu' := by
        have h1 := HX.out.1.symm.trans HX'.out.1
        simpa using h1
      have i1 : (0 : Int) ≤ (j : Int) := by omega
      have i2 : (j : Int) < (n : Int) := by omega
      have hneq := neqAp yp yr yf yu
      go_wp2_with fail
      go_quiet (fail)
      go_wp2_with fail
      go_roundw
      case rel => exact ⟨j + 1, by omega, by go_num, _, rfl⟩
      case measure => simp [intOf]; omega
    · obtain rfl : n = j := by omega
      go_wp2_with fail
      go_ret
      exact ⟨rfl, below_drewN (Below.refl _ _) _⟩
end Go.Proofs.Ytoomgbddfcmjnaa
