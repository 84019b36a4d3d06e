/- Pseudonyms: the laws of keys, on numbers; the example that every law asks; and the walks of the five laws. -/
import Derived.Test.YtjeeobaiibhbaaaPs
import Derived.RowKit3
import Derived.Lib.Hide
namespace Go.Proofs.Ytjeeobaiibhbaaa
open Go.RowKit
namespace Ps
theorem xor_back (a b : Nat) : a ^^^ b ^^^ b = a := by rw [Nat.xor_assoc, Nat.xor_self, Nat.xor_zero]
theorem back_step (s m : Nat) (p : Nat × Nat) : ((p.1 ^^^ rndN s m p.2) ^^^ rndN s m p.2, p.2) = p := by rw [xor_back]
theorem keyN_def (s k : Nat) : keyN s k = joinN (kst s 8 (k / 1024, k % 1024)) := by unfold keyN; rfl
theorem bst_kst (s n : Nat) (p : Nat × Nat) (hn : n ≤ 8) : bst s n (kst s 8 p) = kst s (8 - n) p := by
  induction n with
  | zero => rfl
  | succ n ih =>
    have e : 8 - n = (7 - n) + 1 := by omega
    have e2 : 8 - (n + 1) = 7 - n := by omega
    rw [bst, ih (by omega), e, e2, kst]
    exact back_step s (7 - n) _
theorem kst_bst (s n : Nat) (p : Nat × Nat) (hn : n ≤ 8) : kst s n (bst s 8 p) = bst s (8 - n) p := by
  induction n with
  | zero => rfl
  | succ n ih =>
    have e : 8 - n = (7 - n) + 1 := by omega
    have e2 : 8 - (n + 1) = 7 - n := by omega
    have e3 : 7 - (7 - n) = n := by omega
    rw [kst, ih (by omega), e, e2, bst, e3]
    show (_, _) = _
    rw [xor_back]
theorem join_lt (p : Nat × Nat) (h1 : p.1 < 1024) (h2 : p.2 < 1024) : joinN p < 1048576 := by unfold joinN; omega
theorem join_back (p : Nat × Nat) (h2 : p.2 < 1024) : (joinN p / 1024, joinN p % 1024) = p := by
  have e1 : joinN p / 1024 = p.1 := by unfold joinN; omega
  have e2 : joinN p % 1024 = p.2 := by unfold joinN; omega
  rw [e1, e2]
theorem join_split (k : Nat) : joinN (k / 1024, k % 1024) = k := by unfold joinN; show k / 1024 * 1024 + k % 1024 = k; omega
theorem keyN_lt (s k : Nat) (h : k < 1048576) : keyN s k < 1048576 := join_lt _ (kst_lt s 8 k h).1 (kst_lt s 8 k h).2
theorem idN_lt (s k : Nat) (h : k < 1048576) : idN s k < 1048576 := join_lt _ (bst_lt s 8 k h).1 (bst_lt s 8 k h).2
theorem id_key (s k : Nat) (h : k < 1048576) : idN s (keyN s k) = k := by
  unfold idN keyN
  rw [join_back _ (kst_lt s 8 k h).2, bst_kst s 8 _ (by omega)]
  exact join_split k
theorem key_id (s k : Nat) (h : k < 1048576) : keyN s (idN s k) = k := by
  unfold idN keyN
  rw [join_back _ (bst_lt s 8 k h).2, kst_bst s 8 _ (by omega)]
  exact join_split k
end Ps
theorem key_lit (s k v : Int) (h : Ps.key s k = v) (w : World) :
    Calls Try.prog 24 #[.int .i64 s, .int .i64 k] w fun e w' => e = .returned (.int .i64 v) ∧ w = w' := by
  rw [← h]; exact key_all s k w
theorem id_lit (s k v : Int) (h : Ps.id s k = v) (w : World) :
    Calls Try.prog 26 #[.int .i64 s, .int .i64 k] w fun e w' => e = .returned (.int .i64 v) ∧ w = w' := by
  rw [← h]; exact id_all s k w
theorem awake12 (w : World) :
    Calls Try.prog 30 #[] w fun e w' => e = .returned (.bool true) ∧ w = w' := by
  go_enter Try.func30, Try.ntmps30
  go_wp2_with fail
  refine (key_lit _ _ 541013 (by decide +kernel) _).mono ?_; rintro e w' ⟨rfl, rfl⟩
  go_wp2_with fail
  refine (id_lit _ _ 678 (by decide +kernel) _).mono ?_; rintro e w' ⟨rfl, rfl⟩
  go_wp2_with fail
  refine (key_lit _ _ (-1) (by decide +kernel) _).mono ?_; rintro e w' ⟨rfl, rfl⟩
  go_wp2_with fail
  refine (key_lit _ _ (-1) (by decide +kernel) _).mono ?_; rintro e w' ⟨rfl, rfl⟩
  go_wp2_with fail
  refine (key_lit _ _ 315593 (by decide +kernel) _).mono ?_; rintro e w' ⟨rfl, rfl⟩
  go_wp2_with fail
  refine (key_lit _ _ 590674 (by decide +kernel) _).mono ?_; rintro e w' ⟨rfl, rfl⟩
  go_wp2_with fail
  go_ret
  exact ⟨rfl, rfl⟩
theorem secret_is (s : Int) : IntKind.i64.wrap (IntKind.u64.wrap s / 16) = s % 18446744073709551616 / 16 := by
  rw [IntKind.wrap_u64, IntKind.wrap_i64]; omega
theorem secret12 (s : Int) (w : World) :
    Calls Try.prog 23 #[.int .i64 s] w fun e w' => ∃ S : Nat, S ≤ 1152921504606846975 ∧ e = .returned (.int .i64 S) ∧ w = w' := by
  obtain ⟨S, hS⟩ : ∃ S : Nat, s % 18446744073709551616 / 16 = S := ⟨(s % 18446744073709551616 / 16).toNat, by omega⟩
  have hS' : S ≤ 1152921504606846975 := by omega
  have hw : wrap64 (IntKind.u64.wrap s / 16) = S := by rw [← IntWalk.i64_left, secret_is, hS]
  clear hS
  go_enter Try.func23, Try.ntmps23
  go_wp2
  go_ret
  exact ⟨S, hS', by rw [← hw]; rfl, rfl⟩
/-- A key within its limits. -/
theorem key_nat (s k : Int) (w : World) (h0 : 0 ≤ s) (h1 : s ≤ 1152921504606846975) (h2 : 0 ≤ k) (h3 : k < 1048576) :
    Calls Try.prog 24 #[.int .i64 s, .int .i64 k] w fun e w' => e = .returned (.int .i64 (Ps.keyN s.toNat k.toNat : Nat)) ∧ w = w' := by
  obtain ⟨s, rfl⟩ := Int.eq_ofNat_of_zero_le h0
  obtain ⟨k, rfl⟩ := Int.eq_ofNat_of_zero_le h2
  exact key_yes s k w (by omega) (by omega)
theorem id_nat (s k : Int) (w : World) (h0 : 0 ≤ s) (h1 : s ≤ 1152921504606846975) (h2 : 0 ≤ k) (h3 : k < 1048576) :
    Calls Try.prog 26 #[.int .i64 s, .int .i64 k] w fun e w' => e = .returned (.int .i64 (Ps.idN s.toNat k.toNat : Nat)) ∧ w = w' := by
  obtain ⟨s, rfl⟩ := Int.eq_ofNat_of_zero_le h0
  obtain ⟨k, rfl⟩ := Int.eq_ofNat_of_zero_le h2
  exact id_yes s k w (by omega) (by omega)
theorem walkBack (w : World) (s : Int) (_ : -9223372036854775808 ≤ s) (_ : s ≤ 9223372036854775807) (k : Int) (hk0 : 0 ≤ k) (hk1 : k ≤ 4294967295) :
    Calls Try.prog 8 #[.int .i64 s, .int .u32 k] w fun e w' => e = .returned (.bool true) ∧ Below w.heap.size w w' := by
  obtain ⟨k, rfl⟩ := Int.eq_ofNat_of_zero_le hk0
  have hN : ((k : Int) % 1048576) = ((k % 1048576 : Nat) : Int) := by omega
  have hN' : k % 1048576 < 1048576 := by omega
  generalize k % 1048576 = N at *
  go_enter Try.func8, Try.ntmps8
  go_wp2_with fail
  refine (secret12 _ _).mono ?_; rintro e w' ⟨S, hS, rfl, rfl⟩
  go_wp2_with fail
  refine (key_nat _ _ _ (by omega) (by omega) (by omega) (by omega)).mono ?_; rintro e w' ⟨rfl, rfl⟩
  go_wp2_with fail
  refine (id_nat _ _ _ (by omega) (by omega) (by omega) (by omega)).mono ?_; rintro e w' ⟨rfl, rfl⟩
  simp only [Int.toNat_natCast]
  have hkl := Ps.keyN_lt S N hN'
  have hil := Ps.idN_lt S N hN'
  have hik := Lib.hid (Ps.id_key S N hN')
  have hki := Lib.hid (Ps.key_id S N hN')
  generalize Ps.keyN S N = a at *
  generalize Ps.idN S N = b at *
  have q1 : (0 : Int) ≤ a := by omega
  have q2 : (a : Int) < 1048576 := by omega
  have q3 : (0 : Int) ≤ b := by omega
  have q4 : (b : Int) < 1048576 := by omega
  clear hkl hil hN
  go_wp2_with fail
  refine (id_nat _ _ _ (by omega) (by omega) (by omega) (by omega)).mono ?_; rintro e w' ⟨rfl, rfl⟩
  simp only [Int.toNat_natCast]
  rw [hik.out]
  go_wp2_with fail
  refine (key_nat _ _ _ (by omega) (by omega) (by omega) (by omega)).mono ?_; rintro e w' ⟨rfl, rfl⟩
  simp only [Int.toNat_natCast]
  rw [hki.out]
  go_wp2_with fail
  refine (awake12 _).mono ?_; rintro e w' ⟨rfl, rfl⟩
  go_wp2_with fail
  go_ret
  exact ⟨rfl, Below.refl _ _⟩
set_option maxRecDepth 100000 in
theorem walkRounds (w : World) (s : Int) (_ : -9223372036854775808 ≤ s) (_ : s ≤ 9223372036854775807) (k : Int) (hk0 : 0 ≤ k) (hk1 : k ≤ 4294967295) :
    Calls Try.prog 10 #[.int .i64 s, .int .u32 k] w fun e w' => e = .returned (.bool true) ∧ Below w.heap.size w w' := by
  obtain ⟨k, rfl⟩ := Int.eq_ofNat_of_zero_le hk0
  have hN : ((k : Int) % 1048576) = ((k % 1048576 : Nat) : Int) := by omega
  have hN' : k % 1048576 < 1048576 := by omega
  generalize k % 1048576 = N at *
  have q1 : (N : Int) < 1048576 := by omega
  go_enter Try.func10, Try.ntmps10
  go_wp2_with fail
  refine (secret12 _ _).mono ?_; rintro e w' ⟨S, hS, rfl, rfl⟩
  go_wp2_with fail
  simp only [hN]
  have HN := Lib.hid hN'
  clear hk0 hk1 hN q1 hN'
  go_loop [7, 8, 9, 10] (fun a b i _ => ∃ n : Nat, n ≤ 8 ∧ i = .int .i64 n ∧ a = .int .i64 (Ps.kst S n (N / 1024, N % 1024)).1 ∧ b = .int .i64 (Ps.kst S n (N / 1024, N % 1024)).2) (fun _ _ i _ => 8 - (intOf i).toNat)
  case atStart => exact ⟨0, by omega, rfl, rfl, by rw [Ps.mask10 N (by have := HN.out; omega)]; rfl⟩
  case round =>
    obtain ⟨n, hn, rfl, rfl, rfl⟩ := hrel
    have hk := Ps.kst_lt S n N HN.out
    by_cases hlt : n < 8
    · go_wp2_with fail
      refine (round_any _ _ _ _ (by omega) (by omega) (by omega) (by omega) (by omega) (by omega)).mono ?_
      rintro e w' ⟨rfl, rfl⟩
      simp only [Int.toNat_natCast]
      have hr := Ps.rndN_lt S n (Ps.kst S n (N / 1024, N % 1024)).2
      generalize hrr : Ps.rndN S n (Ps.kst S n (N / 1024, N % 1024)).2 = r at *
      have HR := Lib.hid hrr
      have HB := Lib.hid hr
      have f1 : decide ((r : Int) < 0) = false := by simp
      have f2 : decide (1023 < (r : Int)) = false := by simp; omega
      clear hrr hr
      go_wp2_with fail
      go_round
      case rel => exact ⟨n + 1, by omega, by go_num, rfl, by rw [Bw.i64_xor_nat _ _ (by omega) (by have := HB.out; omega), ← HR.out]; rfl⟩
      case measure => simp [intOf]; omega
    · obtain rfl : n = 8 := by omega
      have hj := Lib.hid (Ps.joined _ hk.1 hk.2)
      go_wp2_with fail
      refine (key_nat _ _ _ (by omega) (by omega) (by omega) (by have := HN.out; omega)).mono ?_; rintro e w' ⟨rfl, rfl⟩
      simp only [Int.toNat_natCast]
      have he : (((Ps.keyN S N : Nat) : Int) == bits .or .i64 ((Ps.kst S 8 (N / 1024, N % 1024)).1 * 1024) (Ps.kst S 8 (N / 1024, N % 1024)).2) = true := by rw [hj.out, beq_iff_eq, Ps.keyN_def]
      go_wp2_with fail
      refine (awake12 _).mono ?_; rintro e w' ⟨rfl, rfl⟩
      go_wp2_with fail
      go_ret
      exact ⟨rfl, Below.refl _ _⟩
/-- n keys of keys. -/
def Ps.ups (s : Nat) : Nat → Nat → Nat
  | 0, k => k
  | n + 1, k => Ps.keyN s (Ps.ups s n k)
theorem Ps.ups_lt (s n k : Nat) (h : k < 1048576) : Ps.ups s n k < 1048576 := by
  induction n with
  | zero => exact h
  | succ n ih => exact Ps.keyN_lt _ _ ih
set_option maxRecDepth 100000 in
theorem walkWalks (w : World) (s : Int) (_ : -9223372036854775808 ≤ s) (_ : s ≤ 9223372036854775807) (k : Int) (hk0 : 0 ≤ k) (hk1 : k ≤ 4294967295) (m : Int) (hm0 : 0 ≤ m) (hm1 : m ≤ 255) :
    Calls Try.prog 11 #[.int .i64 s, .int .u32 k, .int .u8 m] w fun e w' => e = .returned (.bool true) ∧ Below w.heap.size w w' := by
  obtain ⟨k, rfl⟩ := Int.eq_ofNat_of_zero_le hk0
  obtain ⟨m, rfl⟩ := Int.eq_ofNat_of_zero_le hm0
  have hN : ((k : Int) % 1048576) = ((k % 1048576 : Nat) : Int) := by omega
  have hN' : k % 1048576 < 1048576 := by omega
  generalize k % 1048576 = N at *
  have hM : ((m : Int) % 40) = ((m % 40 : Nat) : Int) := by omega
  have hM' : m % 40 < 40 := by omega
  generalize m % 40 = M at *
  go_enter Try.func11, Try.ntmps11
  go_wp2_with fail
  refine (secret12 _ _).mono ?_; rintro e w' ⟨S, hS, rfl, rfl⟩
  go_wp2_with fail
  simp only [hN, hM]
  clear hk0 hk1 hm0 hm1 hN hM
  go_loop [10, 11] (fun a i => ∃ n : Nat, n ≤ M ∧ i = .int .i64 n ∧ a = .int .i64 (Ps.ups S n N)) (fun _ i => M - (intOf i).toNat)
  case atStart => exact ⟨0, by omega, rfl, rfl⟩
  case round =>
    obtain ⟨n, hn, rfl, rfl⟩ := hrel
    have hk := Ps.ups_lt S n N hN'
    by_cases hlt : n < M
    · go_wp2_with fail
      refine (key_nat _ _ _ (by omega) (by omega) (by omega) (by omega)).mono ?_
      rintro e w' ⟨rfl, rfl⟩
      simp only [Int.toNat_natCast]
      go_wp2_with fail
      go_round
      case rel => exact ⟨n + 1, by omega, by go_num, rfl⟩
      case measure => simp [intOf]; omega
    · obtain rfl : n = M := by omega
      go_wp2_with fail
      go_loop [10, 12] (fun a i => ∃ j : Nat, j ≤ n ∧ i = .int .i64 j ∧ a = .int .i64 (Ps.ups S (n - j) N)) (fun _ i => n - (intOf i).toNat)
      case atStart => exact ⟨0, by omega, rfl, rfl⟩
      case round =>
        obtain ⟨j, hj, rfl, rfl⟩ := hrel
        have hk2 := Ps.ups_lt S (n - j) N hN'
        by_cases hlt2 : j < n
        · have hback0 : Ps.idN S (Ps.ups S (n - j) N) = Ps.ups S (n - (j + 1)) N := by
            rw [show n - j = (n - (j + 1)) + 1 from by omega]
            exact Ps.id_key S _ (Ps.ups_lt _ _ _ hN')
          have hback := Lib.hid hback0
          clear hback0
          go_wp2_with fail
          refine (id_nat _ _ _ (by omega) (by omega) (by omega) (by omega)).mono ?_
          rintro e w' ⟨rfl, rfl⟩
          simp only [Int.toNat_natCast]
          rw [hback.out]
          go_wp2_with fail
          go_round
          case rel => exact ⟨j + 1, by omega, by go_num, rfl⟩
          case measure => simp [intOf]; omega
        · obtain rfl : j = n := by omega
          rw [Nat.sub_self]
          have hself : Ps.ups S 0 N = N := rfl
          go_wp2_with fail
          refine (awake12 _).mono ?_; rintro e w' ⟨rfl, rfl⟩
          go_wp2_with fail
          go_ret
          exact ⟨rfl, Below.refl _ _⟩
end Go.Proofs.Ytjeeobaiibhbaaa
