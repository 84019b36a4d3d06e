/- Drawing: Range. -/
import Derived.Test.YtoomgbddfcmjnaaDw
namespace Go.Proofs.Ytoomgbddfcmjnaa
open Go.RowKit
def GivesRangeD (lo hi : Int) (base g : Nat) (w : World) (e : Ending) (w' : World) : Prop := ∃ x : Int, e = .returned (.int .i64 x) ∧ lo ≤ x ∧ x ≤ hi ∧ Cod w' base g ∧ w.grownBy w' (some g)
set_option maxHeartbeats 400000 in
theorem rangeD (lo hi : Int) (hl : -1000000 ≤ lo) (hlh : lo ≤ hi) (hh : hi ≤ 1000000) (base g : Nat) (w : World) (h : Cod w base g) :
    Calls Try.prog 41 #[.pointer (some ⟨g, 0, none⟩), .int .i64 lo, .int .i64 hi] w (GivesRangeD lo hi base g w) := by
  go_enter Try.func41, Try.ntmps41
  go_wp2_with fail
  refine (next_any _ (by omega) (by omega) base g w h).mono ?_; rintro e w1 ⟨x, rfl, h0, h9, _, hc1, hg1⟩
  have h9 := h9 (by omega)
  go_wp2_with fail
  go_ret
  exact ⟨_, rfl, by omega, by omega, hc1, hg1⟩
end Go.Proofs.Ytoomgbddfcmjnaa
