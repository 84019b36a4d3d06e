/- Rounding, the reference: near, numbers, check. -/
import Derived.Test.YtgclljmchdlbeaaNy
namespace Go.Proofs.Ytgclljmchdlbeaa
open Go.RowKit
def Rd.nearM (n r b : Int) : Bool := decide (b ∣ r) && (decide (n - b < r) && decide (r < n + b))
theorem Rd.nearM_mult {n r b : Int} (hb : 1 ≤ b) : Rd.nearM n r b = decide (r ∈ Rd.mult n b) := by
  rw [Bool.eq_iff_iff]
  unfold Rd.nearM
  simp only [Bool.and_eq_true, decide_eq_true_eq]
  exact ⟨fun h => Rd.mem_mult hb ⟨h.1, by omega, by omega⟩, fun h => by have := Rd.of_mult hb h; exact ⟨this.1, by omega, by omega⟩⟩
theorem rnear34 (n r b : Int) (hn : -100000000 ≤ n ∧ n ≤ 100000000) (hb0 : 1 ≤ b) (hb1 : b ≤ 20) (w : World) :
    Calls Try.prog 50 #[.int .i64 n, .int .i64 r, .int .i64 b] w fun e w' => e = .returned (.bool (Rd.nearM n r b)) ∧ w = w' := by
  have hbn : b ≠ 0 := by omega
  have hlt : r.tmod b < b := Int.tmod_lt_of_pos r (by omega)
  have hgt : -b < r.tmod b := by
    have := Int.tmod_lt_of_pos (-r) (show 0 < b by omega)
    rw [Int.neg_tmod] at this
    omega
  by_cases h1 : b ∣ r
  · have ht : r.tmod b = 0 := Int.tmod_eq_zero_of_dvd h1
    by_cases h2 : n - b < r
    · have HE := Lib.hid (show Rd.nearM n r b = decide (r < n + b) by unfold Rd.nearM; rw [decide_eq_true h1, decide_eq_true h2]; rfl)
      have g1 : decide (n - b < r) = true := decide_eq_true h2
      clear h1 h2 hlt hgt
      go_enter Try.func50, Try.ntmps50
      go_wp2_with fail
      go_ret
      exact ⟨congrArg (fun b => Ending.returned (.bool b)) HE.out.symm, rfl⟩
    · have HE := Lib.hid (show Rd.nearM n r b = false by unfold Rd.nearM; rw [decide_eq_true h1, decide_eq_false h2]; rfl)
      have g1 : decide (n - b < r) = false := decide_eq_false h2
      clear h1 h2 hlt hgt
      go_enter Try.func50, Try.ntmps50
      go_wp2_with fail
      go_ret
      exact ⟨congrArg (fun b => Ending.returned (.bool b)) HE.out.symm, rfl⟩
  · have HE := Lib.hid (show Rd.nearM n r b = false by unfold Rd.nearM; rw [decide_eq_false h1]; rfl)
    have g1 : (r.tmod b == 0) = false := by simpa using fun e => h1 (Int.dvd_of_tmod_eq_zero e)
    obtain ⟨z, hz⟩ : ∃ z, r.tmod b = z := ⟨_, rfl⟩
    rw [hz] at g1 hlt hgt
    clear h1
    go_enter Try.func50, Try.ntmps50
    go_wp2_with fail
    go_ret
    exact ⟨congrArg (fun b => Ending.returned (.bool b)) HE.out.symm, rfl⟩
theorem rnum34 (A : Option Addr) (k c : Nat) (t : List Int) (b : Int) (B : Nat) (w : World) (h : Nums w .i64 B A k c t) :
    Calls Try.prog 49 #[.slice A k c, .int .i64 b] w fun e w' => e = .returned (.int .i64 (Rd.rng t b)) ∧ w = w' := by
  have hm : k ≤ 9223372036854775807 := by have := h.cap; have := h.max; unfold maxLen at this; omega
  have H := Lib.hid h
  have HL := Lib.hid h.len
  clear h
  go_enter Try.func49, Try.ntmps49
  go_wp2_with fail
  go_loop [9] (fun i => ∃ j : Nat, j ≤ k ∧ i = .int .i64 j ∧ Hid ((t.take j).any Rd.out = false)) (fun i => k - (intOf i).toNat)
  case atStart => exact ⟨0, by omega, rfl, Lib.hid (by simp)⟩
  case round =>
    obtain ⟨j, hj, rfl, HN⟩ := hrel
    by_cases hlt : j < k
    · obtain ⟨ad, x, rfl, _, HX, hx, _⟩ := H.out.val hlt
      have HS := Lib.hid (any_take_succ Rd.out HX.out)
      rcases ho : Rd.out x with _ | _
      · have hxx : ¬ x < 0 ∧ ¬ 1000000 < x := by unfold Rd.out at ho; simp at ho; omega
        have g1 : decide (x < 0) = false := decide_eq_false hxx.1
        have g2 : decide (1000000 < x) = false := decide_eq_false hxx.2
        have HO := Lib.hid ho
        clear ho hxx
        go_wp2_with fail
        go_round
        case rel => exact ⟨j + 1, by omega, by go_num, Lib.hid (by rw [HS.out, HN.out, HO.out]; rfl)⟩
        case measure => simp [intOf]; omega
      · have HR := Lib.hid (show Rd.rng t b = 2 by unfold Rd.rng; rw [if_pos (.inr (.inr (List.any_eq_true.2 ⟨x, getD_mem HX.out, ho⟩)))])
        by_cases h1 : x < 0
        · have g1 : decide (x < 0) = true := decide_eq_true h1
          clear h1 ho
          go_wp2_with fail
          go_ret
          exact ⟨congrArg (fun b => Ending.returned (.int .i64 b)) HR.out.symm, rfl⟩
        · have g1 : decide (x < 0) = false := decide_eq_false h1
          have g2 : decide (1000000 < x) = true := by unfold Rd.out at ho; simp at ho; exact decide_eq_true (by omega)
          clear h1 ho
          go_wp2_with fail
          go_ret
          exact ⟨congrArg (fun b => Ending.returned (.int .i64 b)) HR.out.symm, rfl⟩
    · obtain rfl : j = k := by omega
      have hn0 := HN.out
      rw [take_len HL.out] at hn0
      by_cases h1 : b < 1
      · have HR := Lib.hid (show Rd.rng t b = 2 by unfold Rd.rng; rw [if_pos (.inl h1)])
        have g1 : decide (b < 1) = true := decide_eq_true h1
        clear h1 hn0
        go_wp2_with fail
        go_ret
        exact ⟨congrArg (fun b => Ending.returned (.int .i64 b)) HR.out.symm, rfl⟩
      · have g1 : decide (b < 1) = false := decide_eq_false h1
        by_cases h2 : 20 < b
        · have HR := Lib.hid (show Rd.rng t b = 2 by unfold Rd.rng; rw [if_pos (.inr (.inl h2))])
          have g2 : decide (20 < b) = true := decide_eq_true h2
          clear h1 hn0 h2
          go_wp2_with fail
          go_ret
          exact ⟨congrArg (fun b => Ending.returned (.int .i64 b)) HR.out.symm, rfl⟩
        · have HR := Lib.hid (show Rd.rng t b = 0 by unfold Rd.rng; rw [if_neg (fun h => h.elim h1 (fun h => h.elim h2 (fun h => by rw [hn0] at h; cases h)))])
          have g2 : decide (20 < b) = false := decide_eq_false h2
          clear h1 hn0 h2
          go_wp2_with fail
          go_ret
          exact ⟨congrArg (fun b => Ending.returned (.int .i64 b)) HR.out.symm, rfl⟩
theorem rcheck34 (R C : Int) (hR : -9223372036854775808 ≤ R ∧ R ≤ 9223372036854775807) (hC : -9223372036854775808 ≤ C ∧ C ≤ 9223372036854775807) (A : Option Addr) (k c : Nat) (t : List Int) (b : Int) (B : Nat) (w : World) (h : Nums w .i64 B A k c t) :
    Calls Try.prog 46 #[.int .i64 R, .int .i64 C, .slice A k c, .int .i64 b] w fun e w' => e = .returned (.int .i64 (Rd.err R C t b)) ∧ w = w' := by
  have HRC := Lib.hid (And.intro hR hC)
  have HL := Lib.hid h.len
  have H := Lib.hid h
  clear hR hC h
  by_cases h1 : R < 1
  · have HE := Lib.hid (show Rd.err R C t b = 55 by unfold Rd.err; rw [if_pos (.inl h1)])
    have g1 : decide (R < 1) = true := decide_eq_true h1
    clear h1
    go_enter Try.func46, Try.ntmps46
    go_wp2_with fail
    go_ret
    exact ⟨congrArg (fun b => Ending.returned (.int .i64 b)) HE.out.symm, rfl⟩
  · have g1 : decide (R < 1) = false := decide_eq_false h1
    by_cases h2 : C < 1
    · have HE := Lib.hid (show Rd.err R C t b = 55 by unfold Rd.err; rw [if_pos (.inr (.inl h2))])
      have g2 : decide (C < 1) = true := decide_eq_true h2
      clear h1 h2
      go_enter Try.func46, Try.ntmps46
      go_wp2_with fail
      go_ret
      exact ⟨congrArg (fun b => Ending.returned (.int .i64 b)) HE.out.symm, rfl⟩
    · have g2 : decide (C < 1) = false := decide_eq_false h2
      by_cases h3 : 12 < R * C
      · have HE := Lib.hid (show Rd.err R C t b = 55 by unfold Rd.err; rw [if_pos (.inr (.inr h3))])
        by_cases h4 : 12 < R
        · have g3 : decide (12 < R) = true := decide_eq_true h4
          clear h1 h2 h3 h4
          go_enter Try.func46, Try.ntmps46
          go_wp2_with fail
          go_ret
          exact ⟨congrArg (fun b => Ending.returned (.int .i64 b)) HE.out.symm, rfl⟩
        · have g3 : decide (12 < R) = false := decide_eq_false h4
          by_cases h5 : 12 < C
          · have g4 : decide (12 < C) = true := decide_eq_true h5
            clear h1 h2 h3 h4 h5
            go_enter Try.func46, Try.ntmps46
            go_wp2_with fail
            go_ret
            exact ⟨congrArg (fun b => Ending.returned (.int .i64 b)) HE.out.symm, rfl⟩
          · have g4 : decide (12 < C) = false := decide_eq_false h5
            have hz0 : R * C ≤ 144 := by
              have q1 := Int.mul_le_mul_of_nonneg_right (show R ≤ 12 by omega) (show 0 ≤ C by omega)
              omega
            obtain ⟨z, hz⟩ : ∃ z, R * C = z := ⟨_, rfl⟩
            rw [hz] at hz0 h3
            have g5 : decide (12 < z) = true := decide_eq_true h3
            clear h1 h2 h4 h5
            go_enter Try.func46, Try.ntmps46
            go_wp2_with fail
            go_ret
            exact ⟨congrArg (fun b => Ending.returned (.int .i64 b)) HE.out.symm, rfl⟩
      · have hp := Rd.prod_bd (show 1 ≤ R by omega) (show 1 ≤ C by omega) (by omega)
        have g3 : decide (12 < R) = false := decide_eq_false (by omega)
        have g4 : decide (12 < C) = false := decide_eq_false (by omega)
        obtain ⟨z, hz⟩ : ∃ z, R * C = z := ⟨_, rfl⟩
        have hz9 : 1 ≤ z ∧ z ≤ 12 := by omega
        have g5 : decide (12 < z) = false := decide_eq_false (by omega)
        by_cases h4 : (k : Int) = z
        · have HE := Lib.hid (show Rd.err R C t b = Rd.rng t b by unfold Rd.err; rw [if_neg (fun h => h.elim h1 (fun h => h.elim h2 h3)), if_neg (by rw [HL.out, hz]; exact fun e => e h4)])
          have g6 : ((k : Int) != z) = false := by simpa using h4
          clear h1 h2 h3 h4 hp
          go_enter Try.func46, Try.ntmps46
          go_wp2_with fail
          refine (rnum34 A k c t b B w H.out).mono ?_; rintro e w1 ⟨rfl, rfl⟩
          go_wp2_with fail
          go_ret
          exact ⟨congrArg (fun b => Ending.returned (.int .i64 b)) HE.out.symm, rfl⟩
        · have HE := Lib.hid (show Rd.err R C t b = 17 by unfold Rd.err; rw [if_neg (fun h => h.elim h1 (fun h => h.elim h2 h3)), if_pos (by rw [HL.out, hz]; exact h4)])
          have g6 : ((k : Int) != z) = true := by simpa using h4
          clear h1 h2 h3 h4 hp
          go_enter Try.func46, Try.ntmps46
          go_wp2_with fail
          go_ret
          exact ⟨congrArg (fun b => Ending.returned (.int .i64 b)) HE.out.symm, rfl⟩
end Go.Proofs.Ytgclljmchdlbeaa
