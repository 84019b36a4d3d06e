/- Rounding: what is wrong with a table; the search. -/
import Derived.Test.YtgclljmchdlbeaaNd
import Derived.Test.YtgclljmchdlbeaaGen
namespace Go.Proofs.Ytgclljmchdlbeaa
open Go.RowKit
def Rd.out (x : Int) : Bool := decide (x < 0) || decide (1000000 < x)
theorem out34 (x : Int) (w : World) : Calls Try.prog 69 #[.int .i64 x] w fun e w' => e = .returned (.bool (Rd.out x)) ∧ w = w' := by
  by_cases h : x < 0
  · have hr : Rd.out x = true := by simp [Rd.out, h]
    have HR := Lib.hid hr
    clear hr
    go_enter Try.func69, Try.ntmps69
    go_wp2
    go_ret
    exact ⟨retb HR.out.symm, rfl⟩
  · by_cases h2 : 1000000 < x
    · have hr : Rd.out x = true := by simp [Rd.out, h2]
      have HR := Lib.hid hr
      clear hr
      go_enter Try.func69, Try.ntmps69
      go_wp2
      go_ret
      exact ⟨retb HR.out.symm, rfl⟩
    · have hr : Rd.out x = false := by simp only [Rd.out, Bool.or_eq_false_iff, decide_eq_false_iff_not]; omega
      have HR := Lib.hid hr
      clear hr
      go_enter Try.func69, Try.ntmps69
      go_wp2
      go_ret
      exact ⟨retb HR.out.symm, rfl⟩
def GivesPlaceP (p : Int → Bool) (l : List Int) (w : World) (e : Ending) (w' : World) : Prop := ∃ i : Int, e = .returned (.int .i64 i) ∧ (0 ≤ i ↔ l.any p = true) ∧ w = w'
theorem any_take_succ (p : Int → Bool) {l : List Int} {j : Nat} {x : Int} (h : l.getD j 0 = x ∧ j < l.length) : (l.take (j + 1)).any p = ((l.take j).any p || p x) := by
  rw [take_succ_getD l j h.2, h.1, List.any_append]; simp
theorem index_out (A : Option Addr) (n c : Nat) (l : List Int) (B : Nat) (w : World) (h : Nums w .i64 B A n c l) :
    Calls Try.prog 67 #[.slice A n c, .func (.func 69) #[] #[]] w (GivesPlaceP Rd.out l w) := by
  have hm : n ≤ 9223372036854775807 := by have := h.cap; have := h.max; unfold maxLen at this; omega
  have H := Lib.hid h
  have HL := Lib.hid h.len
  clear h
  go_enter Try.func67, Try.ntmps67
  go_wp2_with fail
  go_loop [5, 8] (fun _ i => ∃ j : Nat, j ≤ n ∧ i = .int .i64 j ∧ Hid ((l.take j).any Rd.out = false)) (fun _ i => n - (intOf i).toNat)
  case atStart => exact ⟨0, by omega, rfl, Lib.hid (by simp)⟩
  case round =>
    obtain ⟨j, hj, rfl, HN⟩ := hrel
    by_cases hlt : j < n
    · obtain ⟨ad, x, rfl, _, HX, hx, _⟩ := H.out.val hlt
      have HS := Lib.hid (any_take_succ Rd.out HX.out)
      rcases ho : Rd.out x with _ | _
      · have HO := Lib.hid ho
        clear ho
        go_wp2_with fail
        refine (out34 x w).mono ?_; rintro e w1 ⟨rfl, rfl⟩
        rw [HO.out]
        go_wp2_with fail
        go_round
        case rel => exact ⟨j + 1, by omega, by go_num, Lib.hid (by rw [HS.out, HN.out, HO.out]; rfl)⟩
        case measure => simp [intOf]; omega
      · have HO := Lib.hid ho
        clear ho
        go_wp2_with fail
        refine (out34 x w).mono ?_; rintro e w1 ⟨rfl, rfl⟩
        rw [HO.out]
        go_wp2_with fail
        go_ret
        exact ⟨j, rfl, ⟨fun _ => List.any_eq_true.2 ⟨x, getD_mem HX.out, HO.out⟩, fun _ => by omega⟩, rfl⟩
    · obtain rfl : j = n := by omega
      go_wp2
      go_ret
      have := HN.out
      rw [take_len HL.out] at this
      exact ⟨-1, rfl, by rw [this]; simp, rfl⟩
theorem contains_out (A : Option Addr) (n c : Nat) (l : List Int) (B : Nat) (w : World) (h : Nums w .i64 B A n c l) :
    Calls Try.prog 43 #[.slice A n c, .func (.func 69) #[] #[]] w fun e w' => e = .returned (.bool (l.any Rd.out)) ∧ w = w' := by
  go_enter Try.func43, Try.ntmps43
  go_wp2_with fail
  refine (index_out A n c l B w h).mono ?_; rintro e w1 ⟨i, rfl, hi, rfl⟩
  have HI := Lib.hid hi
  clear hi h
  go_wp2_with fail
  go_ret
  refine ⟨retb ?_, rfl⟩
  rw [Bool.eq_iff_iff, ← HI.out]
  simp

theorem range34 (A : Option Addr) (k c : Nat) (t : List Int) (ht : ∀ x ∈ t, 0 ≤ x ∧ x ≤ 1000000) (b : Int) (hb0 : 1 ≤ b) (hb1 : b ≤ 20) (B : Nat) (w : World) (h : Nums w .i64 B A k c t) :
    Calls Try.prog 51 #[.slice A k c, .int .i64 b] w fun e w' => e = .returned (.int .i64 0) ∧ w = w' := by
  have ha : t.any Rd.out = false := by
    rw [List.any_eq_false]
    intro x hx
    have := ht x hx
    simp [Rd.out]; omega
  have HA := Lib.hid ha
  have g1 : decide (b < 1) = false := decide_eq_false (by omega)
  have g2 : decide (20 < b) = false := decide_eq_false (by omega)
  clear ha
  go_enter Try.func51, Try.ntmps51
  go_wp2_with fail
  refine (contains_out A k c t B w h).mono ?_; rintro e w1 ⟨rfl, rfl⟩
  rw [HA.out]
  go_wp2_with fail
  go_ret
  exact ⟨rfl, rfl⟩
theorem wrong34 (m n : Nat) (hm : 1 ≤ m) (hn : 1 ≤ n) (hmn : m * n ≤ 12) (A : Option Addr) (k c : Nat) (hk : k = m * n) (t : List Int) (ht : ∀ x ∈ t, 0 ≤ x ∧ x ≤ 1000000) (b : Int) (hb0 : 1 ≤ b) (hb1 : b ≤ 20) (B : Nat) (w : World) (h : Nums w .i64 B A k c t) :
    Calls Try.prog 39 #[.int .i64 m, .int .i64 n, .slice A k c, .int .i64 b] w fun e w' => e = .returned (.int .i64 0) ∧ w = w' := by
  subst hk
  have hm12 : m ≤ 12 := Nat.le_trans (by simpa using Nat.mul_le_mul_left m hn) hmn
  have hn12 : n ≤ 12 := Nat.le_trans (by simpa using Nat.mul_le_mul_right n hm) hmn
  have hq : (12 : Int).tdiv (n : Int) = ((12 / n : Nat) : Int) := by rw [Int.tdiv_eq_ediv_of_nonneg (by decide)]; rfl
  have hle : m ≤ 12 / n := (Nat.le_div_iff_mul_le (by omega)).2 hmn
  obtain ⟨q, hqe⟩ : ∃ q, 12 / n = q := ⟨_, rfl⟩
  rw [hqe] at hq hle
  have hq12 : q ≤ 12 := by rw [← hqe]; exact Nat.div_le_self _ _
  have hn0 : (n : Int) ≠ 0 := by omega
  have g1 : decide ((m : Int) < 1) = false := decide_eq_false (by omega)
  have g2 : decide ((n : Int) < 1) = false := decide_eq_false (by omega)
  have g3 : decide ((q : Int) < (m : Int)) = false := decide_eq_false (by omega)
  obtain ⟨p, hp⟩ : ∃ p : Nat, m * n = p := ⟨_, rfl⟩
  have hpi : (m : Int) * (n : Int) = (p : Int) := by rw [← hp]; simp
  rw [hp] at h hmn ⊢
  have g4 : ((p : Int) != (p : Int)) = false := by simp
  clear hqe hp
  go_enter Try.func39, Try.ntmps39
  go_wp2_with fail
  refine (range34 A p c t ht b hb0 hb1 B w h).mono ?_; rintro e w1 ⟨rfl, rfl⟩
  go_wp2_with fail
  go_ret
  exact ⟨rfl, rfl⟩
end Go.Proofs.Ytgclljmchdlbeaa
