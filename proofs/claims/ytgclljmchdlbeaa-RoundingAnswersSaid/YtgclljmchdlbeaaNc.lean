/- Rounding: multiples, near. -/
import Derived.Test.YtgclljmchdlbeaaMk
import Derived.Test.YtgclljmchdlbeaaGi
import Derived.Test.YtgclljmchdlbeaaAft
import Derived.BigGuardPart
import Derived.Deep.QuietTactic
import Derived.BigQuiet
namespace Go.Proofs.Ytgclljmchdlbeaa
open Go.RowKit
/-- the multiples of b next to n -/
def Rd.mult (n b : Int) : List Int := if n % b = 0 then [n] else [n - n % b, n - n % b + b]
theorem Own.lit {w : World} {base g : Nat} {e : TypeId} {k : IntKind} {l : List Int} (h : w.heap[g]? = some (.cells (l.map (Value.int k)).toArray e (0, 0))) (hb : base ≤ g) (hl : l.length ≤ 1000) : Own w base e k (.slice (some ⟨g, 0, none⟩) l.length l.length) l :=
  ⟨by simp, .inr ⟨g, l.length, (l.map (Value.int k)).toArray, rfl, hb, h, Nat.le_refl _, by simp only [maxLen]; omega, by simp, by rw [List.take_of_length_le (by simp)]⟩⟩
theorem mult34 (n b : Int) (w : World) (hn0 : 0 ≤ n) (hn1 : n ≤ 1000000) (hb0 : 1 ≤ b) (hb1 : b ≤ 20) : Calls Try.prog 44 #[.int .i64 n, .int .i64 b] w (GivesInts (Rd.mult n b) w) := by
  have hm0 := Int.emod_nonneg n (show b ≠ 0 by omega)
  have hm1 := Int.emod_lt_of_pos n (show 0 < b by omega)
  have ht : n.tmod b = n % b := Int.tmod_eq_emod_of_nonneg hn0
  have hbn : b ≠ 0 := by omega
  obtain ⟨r, hr⟩ : ∃ r, n % b = r := ⟨_, rfl⟩
  have HR := Lib.hid hr
  have hle : r ≤ n := by
    have h1 := Int.mul_ediv_add_emod n b
    have h2 := Int.mul_nonneg (show 0 ≤ b by omega) (Int.ediv_nonneg hn0 (show 0 ≤ b by omega))
    omega
  rw [hr] at hm0 hm1 ht
  clear hr
  by_cases h0 : r = 0
  · subst h0
    have HM := Lib.hid (show Rd.mult n b = [n] by unfold Rd.mult; rw [if_pos HR.out])
    have g1 : (n - 0 == n) = true := by simp
    go_enter Try.func44, Try.ntmps44
    go_wp2_with fail
    go_ret
    exact ⟨_, rfl, by rw [HM.out]; exact Own.lit (l := [n]) (heap_alloc_new _ _) (Nat.le_refl _) (by simp), (Below.refl _ _).alloc (Nat.le_refl _) _⟩
  · have HM := Lib.hid (show Rd.mult n b = [n - r, n - r + b] by unfold Rd.mult; rw [HR.out, if_neg h0])
    have g1 : (n - r == n) = false := beq_false_of_ne (by omega)
    go_enter Try.func44, Try.ntmps44
    go_wp2_with fail
    go_ret
    exact ⟨_, rfl, by rw [HM.out]; exact Own.lit (l := [n - r, n - r + b]) (heap_alloc_new _ _) (Nat.le_refl _) (by simp), (Below.refl _ _).alloc (Nat.le_refl _) _⟩
def Rd.near (s r b : Int) : Bool := decide (r - s < b) && decide (s - r < b)
theorem near34 (s r b : Int) (w : World) (hs : -100000000 ≤ s ∧ s ≤ 100000000) (hr : -100000000 ≤ r ∧ r ≤ 100000000) : Calls Try.prog 66 #[.int .i64 s, .int .i64 r, .int .i64 b] w fun e w' => e = .returned (.bool (Rd.near s r b)) ∧ w = w' := by
  rcases h1 : decide (r - s < b) with _ | _
  · have HR := Lib.hid (show Rd.near s r b = false by unfold Rd.near; rw [h1]; rfl)
    go_enter Try.func66, Try.ntmps66
    go_wp2_with fail
    go_ret
    exact ⟨congrArg (fun b => Ending.returned (.bool b)) HR.out.symm, rfl⟩
  · have HR := Lib.hid (show Rd.near s r b = decide (s - r < b) by unfold Rd.near; rw [h1]; rfl)
    go_enter Try.func66, Try.ntmps66
    go_wp2_with fail
    go_ret
    exact ⟨congrArg (fun b => Ending.returned (.bool b)) HR.out.symm, rfl⟩
end Go.Proofs.Ytgclljmchdlbeaa
