/- Drawing: a digit as a text. -/
import Derived.Test.YtdlgfhegafnmcaaDoorLc
import Derived.Test.YtdlgfhegafnmcaaDoorRn
namespace Go.Proofs.YtdlgfhegafnmcaaDoor
open Go.RowKit
theorem CoOwn.cod {w w' : World} {base b2 g : Nat} {v : Value} {L : List Cd.Co} (h : CoOwn w b2 v L) (hc : Cod w base g) (hg : w.grownBy w' (some g)) : CoOwn w' b2 v L := by
  obtain ⟨A, n, c, i, l, _, _, _, h4, _⟩ := hc
  refine World.ownsRow.kept h hg ?_
  obtain ⟨_, ⟨rfl, _⟩ | ⟨g', cap, cur, rfl, _, hh, _⟩⟩ := h
  · exact .inl rfl
  · refine .inr fun e9 => ?_
    simp [Value.ownBlock] at e9
    subst e9
    rw [hh] at h4
    injection h4 with h4
    injection h4 with _ ht
    exact absurd ht (by decide)
def Cd.dig (n : Nat) : ByteArray := ⟨#[UInt8.ofNat (48 + n)]⟩
set_option maxRecDepth 100000 in
set_option maxHeartbeats 1600000 in
theorem small01 (n : Nat) (hn : n < 10) (w : World) : Calls Tryd.prog 55 #[.int .i64 n] w fun e w' => e = .returned (.string (Cd.dig n)) ∧ w = w' := by
  rcases (show n = 0 ∨ n = 1 ∨ n = 2 ∨ n = 3 ∨ n = 4 ∨ n = 5 ∨ n = 6 ∨ n = 7 ∨ n = 8 ∨ n = 9 by omega) with rfl | rfl | rfl | rfl | rfl | rfl | rfl | rfl | rfl | rfl
  all_goals
    go_enter Tryd.func55, Tryd.ntmps55
    go_wp2_with fail
  all_goals go_ret
  all_goals exact ⟨rfl, rfl⟩
set_option maxRecDepth 100000 in
set_option maxHeartbeats 1600000 in
theorem format01 (n : Nat) (hn : n < 10) (w : World) : Calls Tryd.prog 54 #[.int .i64 n, .int .i64 10] w fun e w' => e = .returned (.string (Cd.dig n)) ∧ w = w' := by
  have g1 : decide ((0 : Int) ≤ (n : Int)) = true := decide_eq_true (by omega)
  have g2 : decide ((n : Int) < 100) = true := decide_eq_true (by omega)
  go_enter Tryd.func54, Tryd.ntmps54
  go_wp2_with fail
  refine (small01 n hn w).mono ?_; rintro e w1 ⟨rfl, rfl⟩
  go_wp2_with fail
  go_ret
  exact ⟨rfl, rfl⟩
theorem itoaI01 (n : Nat) (hn : n < 10) (w : World) : Calls Tryd.prog 53 #[.int .i64 n] w fun e w' => e = .returned (.string (Cd.dig n)) ∧ w = w' := by
  go_enter Tryd.func53, Tryd.ntmps53
  go_wp2_with fail
  refine (format01 n hn w).mono ?_; rintro e w1 ⟨rfl, rfl⟩
  go_wp2_with fail
  go_ret
  exact ⟨rfl, rfl⟩
theorem itoa01 (n : Nat) (hn : n < 10) (w : World) : Calls Tryd.prog 43 #[.int .i64 n] w fun e w' => e = .returned (.string (Cd.dig n)) ∧ w = w' := by
  go_enter Tryd.func43, Tryd.ntmps43
  go_wp2_with fail
  refine (itoaI01 n hn w).mono ?_; rintro e w1 ⟨rfl, rfl⟩
  go_wp2_with fail
  go_ret
  exact ⟨rfl, rfl⟩
end Go.Proofs.YtdlgfhegafnmcaaDoor
