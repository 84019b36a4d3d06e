/- draw.Mod. -/
import Derived.Test.YtoomgbddfcmjnaaGi
import Derived.BigGuardPart
import Derived.Lib.Hide
namespace Go.Proofs.Ytoomgbddfcmjnaa
open Go.RowKit
theorem Mo.tmod_cases (v w : Int) (hw : 1 ≤ w) : (v.tmod w < 0 ∧ v % w = v.tmod w + w) ∨ (0 ≤ v.tmod w ∧ v % w = v.tmod w) := by
  have h1 := Int.emod_nonneg v (show w ≠ 0 by omega)
  have h2 := Int.emod_lt_of_pos v (show 0 < w by omega)
  rcases Int.lt_or_le v 0 with h | h
  · have e := Int.tmod_eq_emod (a := v) (b := w)
    rw [e]
    by_cases hd : 0 ≤ v ∨ w ∣ v
    · rw [if_pos hd]; right; exact ⟨by omega, by omega⟩
    · rw [if_neg hd]
      have : v % w ≠ 0 := fun h0 => hd (.inr (Int.dvd_of_emod_eq_zero h0))
      left; omega
  · right
    rw [Int.tmod_eq_emod_of_nonneg h]
    exact ⟨h1, rfl⟩
theorem mod_any (k n : Int) (w : World) (h1 : 1 ≤ n) (h2 : n ≤ 1000000) : Calls Try.prog 24 #[.int .i64 k, .int .i64 n] w fun e w' => e = .returned (.int .i64 (k % n)) ∧ w = w' := by
  have hc := Mo.tmod_cases k n h1
  have hn := Int.emod_nonneg k (show n ≠ 0 by omega)
  have hl := Int.emod_lt_of_pos k (show 0 < n by omega)
  have hn0 : n ≠ 0 := by omega
  have g1 : decide (n < 1) = false := decide_eq_false (by omega)
  generalize k % n = m at *
  generalize hr : k.tmod n = r at *
  rcases hc with ⟨ha, hb⟩ | ⟨ha, hb⟩
  · have HB := Lib.hid hb
    have hlo : -n ≤ r := by omega
    clear hb
    go_enter Try.func24, Try.ntmps24
    go_wp2
    go_ret
    exact ⟨congrArg (fun b => Ending.returned (.int .i64 b)) HB.out.symm, rfl⟩
  · have HB := Lib.hid hb
    have hhi : r ≤ n := by omega
    clear hb
    go_enter Try.func24, Try.ntmps24
    go_wp2
    go_ret
    exact ⟨congrArg (fun b => Ending.returned (.int .i64 b)) HB.out.symm, rfl⟩
end Go.Proofs.Ytoomgbddfcmjnaa
