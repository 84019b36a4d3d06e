/- Rounding: all tables, right or wrong. -/
import Derived.Test.YtgclljmchdlbeaaNs
import Derived.Test.YtgclljmchdlbeaaNv
namespace Go.Proofs.Ytgclljmchdlbeaa
open Go.RowKit
def Rd.rng (t : List Int) (b : Int) : Int := if b < 1 ∨ 20 < b ∨ t.any Rd.out = true then 2 else 0
def Rd.err (R C : Int) (t : List Int) (b : Int) : Int := if R < 1 ∨ C < 1 ∨ 12 < R * C then 55 else if (t.length : Int) ≠ R * C then 17 else Rd.rng t b
theorem Rd.rng_ok {t : List Int} {b : Int} (h : Rd.rng t b = 0) : 1 ≤ b ∧ b ≤ 20 ∧ ∀ x ∈ t, 0 ≤ x ∧ x ≤ 1000000 := by
  unfold Rd.rng at h
  split at h
  · cases h
  · rename_i h0
    refine ⟨by omega, by omega, fun x hx => ?_⟩
    have h1 : ¬ t.any Rd.out = true := fun e => h0 (.inr (.inr e))
    rw [Bool.not_eq_true, List.any_eq_false] at h1
    have h2 := h1 x hx
    simp [Rd.out] at h2
    omega
theorem Rd.err_ok {R C : Int} {t : List Int} {b : Int} (h : Rd.err R C t b = 0) : ∃ m n : Nat, R = m ∧ C = n ∧ 1 ≤ m ∧ 1 ≤ n ∧ m * n ≤ 12 ∧ t.length = m * n ∧ 1 ≤ b ∧ b ≤ 20 ∧ ∀ x ∈ t, 0 ≤ x ∧ x ≤ 1000000 := by
  unfold Rd.err at h
  split at h
  · cases h
  · split at h
    · cases h
    · rename_i h0 h1
      obtain ⟨m, rfl⟩ := Int.eq_ofNat_of_zero_le (show 0 ≤ R by omega)
      obtain ⟨n, rfl⟩ := Int.eq_ofNat_of_zero_le (show 0 ≤ C by omega)
      obtain ⟨h2, h3, h4⟩ := Rd.rng_ok h
      have e : (m : Int) * (n : Int) = ((m * n : Nat) : Int) := by simp
      exact ⟨m, n, rfl, rfl, by omega, by omega, by omega, by omega, h2, h3, h4⟩
theorem rangeG (A : Option Addr) (k c : Nat) (t : List Int) (b : Int) (B : Nat) (w : World) (h : Nums w .i64 B A k c t) :
    Calls Try.prog 51 #[.slice A k c, .int .i64 b] w fun e w' => e = .returned (.int .i64 (Rd.rng t b)) ∧ w = w' := by
  by_cases h1 : b < 1
  · have HR := Lib.hid (show Rd.rng t b = 2 by unfold Rd.rng; rw [if_pos (.inl h1)])
    go_enter Try.func51, Try.ntmps51
    go_wp2_with fail
    go_ret
    exact ⟨congrArg (fun b => Ending.returned (.int .i64 b)) HR.out.symm, rfl⟩
  · by_cases h2 : 20 < b
    · have HR := Lib.hid (show Rd.rng t b = 2 by unfold Rd.rng; rw [if_pos (.inr (.inl h2))])
      go_enter Try.func51, Try.ntmps51
      go_wp2_with fail
      go_ret
      exact ⟨congrArg (fun b => Ending.returned (.int .i64 b)) HR.out.symm, rfl⟩
    · have g1 : decide (b < 1) = false := decide_eq_false h1
      have g2 : decide (20 < b) = false := decide_eq_false h2
      rcases ha : t.any Rd.out with _ | _
      · have HA := Lib.hid ha
        have HR := Lib.hid (show Rd.rng t b = 0 by unfold Rd.rng; rw [if_neg (fun h => h.elim h1 (fun h => h.elim h2 (fun h => by rw [ha] at h; cases h)))])
        clear ha h1 h2
        go_enter Try.func51, Try.ntmps51
        go_wp2_with fail
        refine (contains_out A k c t B w h).mono ?_; rintro e w1 ⟨rfl, rfl⟩
        rw [HA.out]
        go_wp2_with fail
        go_ret
        exact ⟨congrArg (fun b => Ending.returned (.int .i64 b)) HR.out.symm, rfl⟩
      · have HA := Lib.hid ha
        have HR := Lib.hid (show Rd.rng t b = 2 by unfold Rd.rng; rw [if_pos (.inr (.inr ha))])
        clear ha h1 h2
        go_enter Try.func51, Try.ntmps51
        go_wp2_with fail
        refine (contains_out A k c t B w h).mono ?_; rintro e w1 ⟨rfl, rfl⟩
        rw [HA.out]
        go_wp2_with fail
        go_ret
        exact ⟨congrArg (fun b => Ending.returned (.int .i64 b)) HR.out.symm, rfl⟩
theorem Rd.div_lt {R C : Int} (hC : 1 ≤ C) : (12 : Int).tdiv C < R ↔ 12 < R * C := by
  rw [Int.tdiv_eq_ediv_of_nonneg (by decide)]
  exact Int.ediv_lt_iff_lt_mul (by omega)
theorem Rd.prod_bd {R C : Int} (hR : 1 ≤ R) (hC : 1 ≤ C) (h : R * C ≤ 12) : R ≤ 12 ∧ C ≤ 12 ∧ 1 ≤ R * C := by
  have h1 := Int.mul_le_mul_of_nonneg_left hC (show 0 ≤ R by omega)
  have h2 := Int.mul_le_mul_of_nonneg_right hR (show 0 ≤ C by omega)
  omega
theorem wrongG (R C : Int) (hR : -9223372036854775808 ≤ R ∧ R ≤ 9223372036854775807) (hC : -9223372036854775808 ≤ C ∧ C ≤ 9223372036854775807) (A : Option Addr) (k c : Nat) (t : List Int) (b : Int) (B : Nat) (w : World) (h : Nums w .i64 B A k c t) :
    Calls Try.prog 39 #[.int .i64 R, .int .i64 C, .slice A k c, .int .i64 b] w fun e w' => e = .returned (.int .i64 (Rd.err R C t b)) ∧ w = w' := by
  have HRC := Lib.hid (And.intro hR hC)
  have HL := Lib.hid h.len
  have H := Lib.hid h
  clear hR hC h
  by_cases h1 : R < 1
  · have HE := Lib.hid (show Rd.err R C t b = 55 by unfold Rd.err; rw [if_pos (.inl h1)])
    have g1 : decide (R < 1) = true := decide_eq_true h1
    clear h1
    go_enter Try.func39, Try.ntmps39
    go_wp2_with fail
    go_ret
    exact ⟨congrArg (fun b => Ending.returned (.int .i64 b)) HE.out.symm, rfl⟩
  · by_cases h2 : C < 1
    · have HE := Lib.hid (show Rd.err R C t b = 55 by unfold Rd.err; rw [if_pos (.inr (.inl h2))])
      have g1 : decide (R < 1) = false := decide_eq_false h1
      have g2 : decide (C < 1) = true := decide_eq_true h2
      clear h1 h2
      go_enter Try.func39, Try.ntmps39
      go_wp2_with fail
      go_ret
      exact ⟨congrArg (fun b => Ending.returned (.int .i64 b)) HE.out.symm, rfl⟩
    · have hd := Rd.div_lt (R := R) (show 1 ≤ C by omega)
      have hC0 : C ≠ 0 := by omega
      obtain ⟨q, hq⟩ : ∃ q, (12 : Int).tdiv C = q := ⟨_, rfl⟩
      have hqb : 0 ≤ q ∧ q ≤ 12 := by
        rw [← hq, Int.tdiv_eq_ediv_of_nonneg (by decide)]
        exact ⟨Int.ediv_nonneg (by decide) (by omega), Int.ediv_le_self _ (by decide)⟩
      rw [hq] at hd
      by_cases h3 : 12 < R * C
      · have HE := Lib.hid (show Rd.err R C t b = 55 by unfold Rd.err; rw [if_pos (.inr (.inr h3))])
        have g1 : decide (R < 1) = false := decide_eq_false h1
        have g2 : decide (C < 1) = false := decide_eq_false h2
        have g3 : decide (q < R) = true := decide_eq_true (hd.2 h3)
        clear h1 h2 h3 hd
        go_enter Try.func39, Try.ntmps39
        go_wp2_with fail
        go_ret
        exact ⟨congrArg (fun b => Ending.returned (.int .i64 b)) HE.out.symm, rfl⟩
      · have g1 : decide (R < 1) = false := decide_eq_false h1
        have g2 : decide (C < 1) = false := decide_eq_false h2
        have g3 : decide (q < R) = false := decide_eq_false (fun e => h3 (hd.1 e))
        have hp := Rd.prod_bd (show 1 ≤ R by omega) (show 1 ≤ C by omega) (by omega)
        obtain ⟨z, hz⟩ : ∃ z, R * C = z := ⟨_, rfl⟩
        have hz9 : 1 ≤ z ∧ z ≤ 12 := by omega
        by_cases h4 : (k : Int) = z
        · have HE := Lib.hid (show Rd.err R C t b = Rd.rng t b by unfold Rd.err; rw [if_neg (fun h => h.elim h1 (fun h => h.elim h2 h3)), if_neg (by rw [HL.out, hz]; exact fun e => e h4)])
          have g4 : ((k : Int) != z) = false := by simpa using h4
          clear h1 h2 h3 h4 hd hp
          go_enter Try.func39, Try.ntmps39
          go_wp2_with fail
          refine (rangeG A k c t b B w H.out).mono ?_; rintro e w1 ⟨rfl, rfl⟩
          go_wp2_with fail
          go_ret
          exact ⟨congrArg (fun b => Ending.returned (.int .i64 b)) HE.out.symm, rfl⟩
        · have HE := Lib.hid (show Rd.err R C t b = 17 by unfold Rd.err; rw [if_neg (fun h => h.elim h1 (fun h => h.elim h2 h3)), if_pos (by rw [HL.out, hz]; exact h4)])
          have g4 : ((k : Int) != z) = true := by simpa using h4
          clear h1 h2 h3 h4 hd hp
          go_enter Try.func39, Try.ntmps39
          go_wp2_with fail
          go_ret
          exact ⟨congrArg (fun b => Ending.returned (.int .i64 b)) HE.out.symm, rfl⟩
end Go.Proofs.Ytgclljmchdlbeaa
