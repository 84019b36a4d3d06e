/- Pseudonyms: the plain functions. -/
import Derived.Test.YtjeeobaiibhbaaaProg
import Derived.WalkKit
import Derived.Test.YtjeeobaiibhbaaaBits
namespace Go.Proofs.Ytjeeobaiibhbaaa
open Go.RowKit
namespace Ps
def mixS (h : Nat) : Nat := (h ^^^ h / 2147483648) * 13787848793156543929 % 18446744073709551616
def start (s r h : Nat) : Nat := (s + r * 11400714819323198485 + h * 14029467366897019727) % 18446744073709551616
def mixN : Nat → Nat → Nat
  | 0, x => x
  | n + 1, x => mixS (mixN n x)
def rndN (s r h : Nat) : Nat := mixN 3 (start s r h) / 18014398509481984
theorem mixS_lt (h : Nat) : mixS h < 18446744073709551616 := by unfold mixS; omega
theorem start_lt (s r h : Nat) : start s r h < 18446744073709551616 := by unfold start; omega
theorem mixN_lt (n x : Nat) (hx : x < 18446744073709551616) : mixN n x < 18446744073709551616 := by
  cases n with
  | zero => exact hx
  | succ n => exact mixS_lt _
theorem rndN_lt (s r h : Nat) : rndN s r h < 1024 := by
  have := mixN_lt 3 _ (start_lt s r h); unfold rndN; omega
def kst (s : Nat) : Nat → Nat × Nat → Nat × Nat
  | 0, p => p
  | n + 1, p => ((kst s n p).2, (kst s n p).1 ^^^ rndN s n (kst s n p).2)
theorem kst_lt' (s n : Nat) (p : Nat × Nat) (h1 : p.1 < 1024) (h2 : p.2 < 1024) : (kst s n p).1 < 1024 ∧ (kst s n p).2 < 1024 := by
  induction n with
  | zero => exact ⟨h1, h2⟩
  | succ n ih => exact ⟨ih.2, Nat.xor_lt_two_pow (n := 10) ih.1 (rndN_lt _ _ _)⟩
theorem kst_lt (s n k : Nat) (h : k < 1048576) : (kst s n (k / 1024, k % 1024)).1 < 1024 ∧ (kst s n (k / 1024, k % 1024)).2 < 1024 :=
  kst_lt' _ _ _ (by show k / 1024 < 1024; omega) (by show k % 1024 < 1024; omega)
def joinN (p : Nat × Nat) : Nat := p.1 * 1024 + p.2
def keyN (s k : Nat) : Nat := joinN (kst s 8 (k / 1024, k % 1024))
def bst (s : Nat) : Nat → Nat × Nat → Nat × Nat
  | 0, p => p
  | n + 1, p => ((bst s n p).2 ^^^ rndN s (7 - n) (bst s n p).1, (bst s n p).1)
theorem bst_lt' (s n : Nat) (p : Nat × Nat) (h1 : p.1 < 1024) (h2 : p.2 < 1024) : (bst s n p).1 < 1024 ∧ (bst s n p).2 < 1024 := by
  induction n with
  | zero => exact ⟨h1, h2⟩
  | succ n ih => exact ⟨Nat.xor_lt_two_pow (n := 10) ih.2 (rndN_lt _ _ _), ih.1⟩
theorem bst_lt (s n k : Nat) (h : k < 1048576) : (bst s n (k / 1024, k % 1024)).1 < 1024 ∧ (bst s n (k / 1024, k % 1024)).2 < 1024 :=
  bst_lt' _ _ _ (by show k / 1024 < 1024; omega) (by show k % 1024 < 1024; omega)
def idN (s k : Nat) : Nat := joinN (bst s 8 (k / 1024, k % 1024))
theorem mask10 (k : Nat) (h : k < 9223372036854775808) : bits .and .i64 (k : Int) 1023 = ((k % 1024 : Nat) : Int) := by
  have := Bw.i64_and_nat k 1023 h (by omega)
  rw [nat_mask10] at this
  exact this
theorem joined (p : Nat × Nat) (h1 : p.1 < 1024) (h2 : p.2 < 1024) : bits .or .i64 ((p.1 : Int) * 1024) (p.2 : Int) = ((joinN p : Nat) : Int) := by
  have := Bw.i64_or_nat (p.1 * 1024) p.2 (by omega) (by omega)
  rw [Bw.or_join _ _ h2] at this
  have e : ((p.1 * 1024 : Nat) : Int) = (p.1 : Int) * 1024 := by omega
  rw [e] at this
  exact this
theorem start_wrap (s r h : Nat) : IntKind.u64.wrap (IntKind.u64.wrap ((s : Int) + IntKind.u64.wrap ((r : Int) * 11400714819323198485)) + IntKind.u64.wrap ((h : Int) * 14029467366897019727)) = ((start s r h : Nat) : Int) := by
  simp only [IntKind.wrap_u64]; unfold start; omega
end Ps
theorem secret_yes (s : Int) (w : World) (h0 : 0 ≤ s) (h1 : s ≤ 1152921504606846975) :
    Calls Try.prog 32 #[.int .i64 s] w fun e w' => e = .returned (.bool true) ∧ w = w' := by
  go_enter Try.func32, Try.ntmps32
  go_wp2
  go_ret
  exact ⟨rfl, rfl⟩
theorem secret_no (s : Int) (w : World) (h : s < 0 ∨ 1152921504606846975 < s) :
    Calls Try.prog 32 #[.int .i64 s] w fun e w' => e = .returned (.bool false) ∧ w = w' := by
  rcases h with h | h
  · go_enter Try.func32, Try.ntmps32
    go_wp2
    go_ret
    exact ⟨rfl, rfl⟩
  · have h0 : 0 ≤ s := by omega
    have h1 : decide (s ≤ 1152921504606846975) = false := by simp; omega
    go_enter Try.func32, Try.ntmps32
    go_wp2
    go_ret
    exact ⟨rfl, rfl⟩
/-- the number of a round -/
theorem round_yes (s r h : Nat) (w : World) (h1 : s ≤ 1152921504606846975) (h2 : r < 8) (h3 : h < 1024) :
    Calls Try.prog 28 #[.int .i64 s, .int .i64 r, .int .i64 h] w fun e w' => e = .returned (.int .i64 (Ps.rndN s r h)) ∧ w = w' := by
  go_enter Try.func28, Try.ntmps28
  go_wp2_with (go_at_call 32; refine (secret_yes _ _ (by omega) (by omega)).mono ?_; rintro e w' ⟨rfl, rfl⟩)
  go_loop [7, 37] (fun x k => ∃ n : Nat, n ≤ 3 ∧ k = .int .i64 n ∧ x = .int .u64 (Ps.mixN n (Ps.start s r h) : Nat)) (fun _ k => 3 - (intOf k).toNat)
  case atStart => exact ⟨0, by omega, rfl, by rw [Ps.start_wrap]; rfl⟩
  case round =>
    obtain ⟨n, hn, rfl, rfl⟩ := hrel
    have hx := Ps.mixN_lt n _ (Ps.start_lt s r h)
    by_cases hlt : n < 3
    · go_wp2_with fail
      go_round
      case rel => exact ⟨n + 1, by omega, by go_num, congrArg (Value.int .u64) (mixStep_u64 _ 2147483648 13787848793156543929 hx)⟩
      case measure => simp [intOf]; omega
    · obtain rfl : n = 3 := by omega
      go_wp2
      go_ret
      exact ⟨rfl, rfl⟩

theorem round_any (s r h : Int) (w : World) (h1 : 0 ≤ s) (h1' : s ≤ 1152921504606846975) (h2 : 0 ≤ r) (h2' : r < 8) (h3 : 0 ≤ h) (h3' : h < 1024) :
    Calls Try.prog 28 #[.int .i64 s, .int .i64 r, .int .i64 h] w fun e w' => e = .returned (.int .i64 (Ps.rndN s.toNat r.toNat h.toNat)) ∧ w = w' := by
  obtain ⟨s, rfl⟩ := Int.eq_ofNat_of_zero_le h1
  obtain ⟨r, rfl⟩ := Int.eq_ofNat_of_zero_le h2
  obtain ⟨h, rfl⟩ := Int.eq_ofNat_of_zero_le h3
  exact round_yes s r h w (by omega) (by omega) (by omega)

theorem round_no (s r h : Int) (w : World) (hn : s < 0 ∨ 1152921504606846975 < s ∨ r < 0 ∨ 7 < r ∨ h < 0 ∨ 1023 < h) :
    Calls Try.prog 28 #[.int .i64 s, .int .i64 r, .int .i64 h] w fun e w' => e = .returned (.int .i64 0) ∧ w = w' := by
  by_cases hs : s < 0 ∨ 1152921504606846975 < s
  · go_enter Try.func28, Try.ntmps28
    go_wp2_with (go_at_call 32; refine (secret_no _ _ hs).mono ?_; rintro e w' ⟨rfl, rfl⟩)
    go_ret
    exact ⟨rfl, rfl⟩
  · have hs0 : 0 ≤ s := by omega
    have hs1 : s ≤ 1152921504606846975 := by omega
    have hq : r < 0 ∨ (0 ≤ r ∧ 7 < r) ∨ (0 ≤ r ∧ r ≤ 7 ∧ h < 0) ∨ (0 ≤ r ∧ r ≤ 7 ∧ 0 ≤ h ∧ 1023 < h) := by omega
    clear hn hs
    rcases hq with hq | ⟨hq, hq2⟩ | ⟨hq, hq2, hq3⟩ | ⟨hq, hq2, hq3, hq4⟩
    all_goals
      try have f1 : decide (r < 0) = true := by simp; omega
      try have f1 : decide (r < 0) = false := by simp; omega
      try have f2 : decide (8 ≤ r) = true := by simp; omega
      try have f2 : decide (8 ≤ r) = false := by simp; omega
      try have f3 : decide (h < 0) = true := by simp; omega
      try have f3 : decide (h < 0) = false := by simp; omega
      try have f4 : decide (1023 < h) = true := by simp; omega
      go_enter Try.func28, Try.ntmps28
      go_wp2_with (go_at_call 32; refine (secret_yes _ _ hs0 hs1).mono ?_; rintro e w' ⟨rfl, rfl⟩)
      go_ret
      exact ⟨rfl, rfl⟩
/-- Round, whatever comes in. -/
def Ps.rnd (s r h : Int) : Int := if s < 0 ∨ 1152921504606846975 < s ∨ r < 0 ∨ 7 < r ∨ h < 0 ∨ 1023 < h then 0 else Ps.rndN s.toNat r.toNat h.toNat
theorem round_all (s r h : Int) (w : World) :
    Calls Try.prog 28 #[.int .i64 s, .int .i64 r, .int .i64 h] w fun e w' => e = .returned (.int .i64 (Ps.rnd s r h)) ∧ w = w' := by
  unfold Ps.rnd
  by_cases hn : s < 0 ∨ 1152921504606846975 < s ∨ r < 0 ∨ 7 < r ∨ h < 0 ∨ 1023 < h
  · rw [if_pos hn]; exact round_no s r h w hn
  · rw [if_neg hn]
    exact round_any s r h w (by omega) (by omega) (by omega) (by omega) (by omega) (by omega)

theorem key_yes (s k : Nat) (w : World) (h1 : s ≤ 1152921504606846975) (h2 : k < 1048576) :
    Calls Try.prog 24 #[.int .i64 s, .int .i64 k] w fun e w' => e = .returned (.int .i64 (Ps.keyN s k)) ∧ w = w' := by
  go_enter Try.func24, Try.ntmps24
  go_wp2_with (go_at_call 32; refine (secret_yes _ _ (by omega) (by omega)).mono ?_; rintro e w' ⟨rfl, rfl⟩)
  go_loop [5, 6, 7, 23] (fun a b _ i => ∃ n : Nat, n ≤ 8 ∧ i = .int .i64 n ∧ a = .int .i64 (Ps.kst s n (k / 1024, k % 1024)).1 ∧ b = .int .i64 (Ps.kst s n (k / 1024, k % 1024)).2) (fun _ _ _ i => 8 - (intOf i).toNat)
  case atStart => exact ⟨0, by omega, rfl, rfl, by rw [Ps.mask10 k (by omega)]; rfl⟩
  case round =>
    obtain ⟨n, hn, rfl, rfl, rfl⟩ := hrel
    have hk := Ps.kst_lt s n k h2
    by_cases hlt : n < 8
    · go_wp2_with fail
      refine (round_any _ _ _ _ (by omega) (by omega) (by omega) (by omega) (by omega) (by omega)).mono ?_
      rintro e w' ⟨rfl, rfl⟩
      go_wp2_with fail
      go_round
      case rel => exact ⟨n + 1, by omega, by go_num, rfl, congrArg (Value.int .i64) (Bw.i64_xor_nat _ _ (by omega) (Nat.lt_of_lt_of_le (Ps.rndN_lt _ _ _) (by omega)))⟩
      case measure => simp [intOf]; omega
    · obtain rfl : n = 8 := by omega
      go_wp2
      go_ret
      exact ⟨congrArg (fun x : Int => Ending.returned (Value.int .i64 x)) (Ps.joined _ hk.1 hk.2), rfl⟩
theorem key_no (s k : Int) (w : World) (hn : s < 0 ∨ 1152921504606846975 < s ∨ k < 0 ∨ 1048575 < k) :
    Calls Try.prog 24 #[.int .i64 s, .int .i64 k] w fun e w' => e = .returned (.int .i64 (-1)) ∧ w = w' := by
  by_cases hs : s < 0 ∨ 1152921504606846975 < s
  · go_enter Try.func24, Try.ntmps24
    go_wp2_with (go_at_call 32; refine (secret_no _ _ hs).mono ?_; rintro e w' ⟨rfl, rfl⟩)
    go_ret
    exact ⟨rfl, rfl⟩
  · have hs0 : 0 ≤ s := by omega
    have hs1 : s ≤ 1152921504606846975 := by omega
    have hq : k < 0 ∨ (0 ≤ k ∧ 1048575 < k) := by omega
    clear hn hs
    rcases hq with hq | ⟨hq, hq2⟩
    all_goals
      try have f1 : decide (k < 0) = true := by simp; omega
      try have f1 : decide (k < 0) = false := by simp; omega
      try have f2 : decide (1048575 < k) = true := by simp; omega
      go_enter Try.func24, Try.ntmps24
      go_wp2_with (go_at_call 32; refine (secret_yes _ _ hs0 hs1).mono ?_; rintro e w' ⟨rfl, rfl⟩)
      go_ret
      exact ⟨rfl, rfl⟩
def Ps.key (s k : Int) : Int := if s < 0 ∨ 1152921504606846975 < s ∨ k < 0 ∨ 1048575 < k then -1 else Ps.keyN s.toNat k.toNat
theorem key_all (s k : Int) (w : World) :
    Calls Try.prog 24 #[.int .i64 s, .int .i64 k] w fun e w' => e = .returned (.int .i64 (Ps.key s k)) ∧ w = w' := by
  unfold Ps.key
  by_cases hn : s < 0 ∨ 1152921504606846975 < s ∨ k < 0 ∨ 1048575 < k
  · rw [if_pos hn]; exact key_no s k w hn
  · rw [if_neg hn]
    obtain ⟨s, rfl⟩ := Int.eq_ofNat_of_zero_le (a := s) (by omega)
    obtain ⟨k, rfl⟩ := Int.eq_ofNat_of_zero_le (a := k) (by omega)
    exact key_yes s k w (by omega) (by omega)
theorem id_yes (s k : Nat) (w : World) (h1 : s ≤ 1152921504606846975) (h2 : k < 1048576) :
    Calls Try.prog 26 #[.int .i64 s, .int .i64 k] w fun e w' => e = .returned (.int .i64 (Ps.idN s k)) ∧ w = w' := by
  go_enter Try.func26, Try.ntmps26
  go_wp2_with (go_at_call 32; refine (secret_yes _ _ (by omega) (by omega)).mono ?_; rintro e w' ⟨rfl, rfl⟩)
  go_loop [5, 6, 7, 23] (fun a b _ i => ∃ n : Nat, n ≤ 8 ∧ i = .int .i64 n ∧ a = .int .i64 (Ps.bst s n (k / 1024, k % 1024)).1 ∧ b = .int .i64 (Ps.bst s n (k / 1024, k % 1024)).2) (fun _ _ _ i => 8 - (intOf i).toNat)
  case atStart => exact ⟨0, by omega, rfl, rfl, by rw [Ps.mask10 k (by omega)]; rfl⟩
  case round =>
    obtain ⟨n, hn, rfl, rfl, rfl⟩ := hrel
    have hk := Ps.bst_lt s n k h2
    by_cases hlt : n < 8
    · go_wp2_with fail
      refine (round_any _ _ _ _ (by omega) (by omega) (by omega) (by omega) (by omega) (by omega)).mono ?_
      rintro e w' ⟨rfl, rfl⟩
      rw [show ((7 : Int) - (n : Int)).toNat = 7 - n from by omega]
      go_wp2_with fail
      go_round
      case rel => exact ⟨n + 1, by omega, by go_num, congrArg (Value.int .i64) (Bw.i64_xor_nat _ _ (by omega) (Nat.lt_of_lt_of_le (Ps.rndN_lt _ _ _) (by omega))), rfl⟩
      case measure => simp [intOf]; omega
    · obtain rfl : n = 8 := by omega
      go_wp2
      go_ret
      exact ⟨congrArg (fun x : Int => Ending.returned (Value.int .i64 x)) (Ps.joined _ hk.1 hk.2), rfl⟩
theorem id_no (s k : Int) (w : World) (hn : s < 0 ∨ 1152921504606846975 < s ∨ k < 0 ∨ 1048575 < k) :
    Calls Try.prog 26 #[.int .i64 s, .int .i64 k] w fun e w' => e = .returned (.int .i64 (-1)) ∧ w = w' := by
  by_cases hs : s < 0 ∨ 1152921504606846975 < s
  · go_enter Try.func26, Try.ntmps26
    go_wp2_with (go_at_call 32; refine (secret_no _ _ hs).mono ?_; rintro e w' ⟨rfl, rfl⟩)
    go_ret
    exact ⟨rfl, rfl⟩
  · have hs0 : 0 ≤ s := by omega
    have hs1 : s ≤ 1152921504606846975 := by omega
    have hq : k < 0 ∨ (0 ≤ k ∧ 1048575 < k) := by omega
    clear hn hs
    rcases hq with hq | ⟨hq, hq2⟩
    all_goals
      try have f1 : decide (k < 0) = true := by simp; omega
      try have f1 : decide (k < 0) = false := by simp; omega
      try have f2 : decide (1048575 < k) = true := by simp; omega
      go_enter Try.func26, Try.ntmps26
      go_wp2_with (go_at_call 32; refine (secret_yes _ _ hs0 hs1).mono ?_; rintro e w' ⟨rfl, rfl⟩)
      go_ret
      exact ⟨rfl, rfl⟩
def Ps.id (s k : Int) : Int := if s < 0 ∨ 1152921504606846975 < s ∨ k < 0 ∨ 1048575 < k then -1 else Ps.idN s.toNat k.toNat
theorem id_all (s k : Int) (w : World) :
    Calls Try.prog 26 #[.int .i64 s, .int .i64 k] w fun e w' => e = .returned (.int .i64 (Ps.id s k)) ∧ w = w' := by
  unfold Ps.id
  by_cases hn : s < 0 ∨ 1152921504606846975 < s ∨ k < 0 ∨ 1048575 < k
  · rw [if_pos hn]; exact id_no s k w hn
  · rw [if_neg hn]
    obtain ⟨s, rfl⟩ := Int.eq_ofNat_of_zero_le (a := s) (by omega)
    obtain ⟨k, rfl⟩ := Int.eq_ofNat_of_zero_le (a := k) (by omega)
    exact id_yes s k w (by omega) (by omega)
end Go.Proofs.Ytjeeobaiibhbaaa
