/- Pseudonyms: the reference's functions, and the law on keys. -/
import Derived.Test.YtjeeobaiibhbaaaPl
import Derived.BigGuardPart
namespace Go.Proofs.Ytjeeobaiibhbaaa
open Go.RowKit
theorem ret_bool {a b : Bool} (h : a = b) : Ending.returned (.bool a) = Ending.returned (.bool b) := by rw [h]
theorem ret_i64 {a b : Int} (h : a = b) : Ending.returned (.int .i64 a) = Ending.returned (.int .i64 b) := by rw [h]
theorem right12 (s k : Int) (w : World) :
    Calls Try.prog 33 #[.int .i64 s, .int .i64 k] w fun e w' => e = .returned (.bool (decide (0 ≤ s ∧ s ≤ 1152921504606846975 ∧ 0 ≤ k ∧ k ≤ 1048575))) ∧ w = w' := by
  go_enter Try.func33, Try.ntmps33
  go_wp2
  all_goals
    go_ret
    exact ⟨ret_bool (by rw [Bool.eq_iff_iff]; simp; omega), rfl⟩
theorem rround_no (s r h : Int) (w : World) (hn : s < 0 ∨ 1152921504606846975 < s ∨ r < 0 ∨ 7 < r ∨ h < 0 ∨ 1023 < h) :
    Calls Try.prog 29 #[.int .i64 s, .int .i64 r, .int .i64 h] w fun e w' => e = .returned (.int .i64 0) ∧ w = w' := by
  have HN := Lib.hid hn
  clear hn
  go_enter Try.func29, Try.ntmps29
  go_wp2
  all_goals first
    | (go_ret; exact ⟨rfl, rfl⟩)
    | (exfalso; have := HN.out; omega)
theorem rround_yes (s r h : Nat) (w : World) (h1 : s ≤ 1152921504606846975) (h2 : r < 8) (h3 : h < 1024) :
    Calls Try.prog 29 #[.int .i64 s, .int .i64 r, .int .i64 h] w fun e w' => e = .returned (.int .i64 (Ps.rndN s r h)) ∧ w = w' := by
  have f1 : decide ((s : Int) < 0) = false := by simp
  have f2 : decide (1152921504606846976 ≤ (s : Int)) = false := by simp; omega
  have f3 : decide ((r : Int) < 0) = false := by simp
  have f4 : decide (7 < (r : Int)) = false := by simp; omega
  have f5 : decide ((h : Int) < 0) = false := by simp
  have f6 : decide (1023 < (h : Int)) = false := by simp; omega
  go_enter Try.func29, Try.ntmps29
  go_wp2
  go_loop [7, 8] (fun x k => ∃ n : Nat, n ≤ 3 ∧ k = .int .i64 n ∧ x = .int .u64 (Ps.mixN n (Ps.start s r h) : Nat)) (fun _ k => 3 - (intOf k).toNat)
  case atStart => exact ⟨0, by omega, rfl, by rw [Ps.start_wrap]; rfl⟩
  case round =>
    obtain ⟨n, hn, rfl, rfl⟩ := hrel
    have hx := Ps.mixN_lt n _ (Ps.start_lt s r h)
    by_cases hlt : n < 3
    · go_wp2_with fail
      go_round
      case rel => exact ⟨n + 1, by omega, by go_num, congrArg (Value.int .u64) (mixStep_u64 _ 2147483648 13787848793156543929 hx)⟩
      case measure => simp [intOf]; omega
    · obtain rfl : n = 3 := by omega
      go_wp2
      go_ret
      exact ⟨rfl, rfl⟩
theorem rround_all (s r h : Int) (w : World) :
    Calls Try.prog 29 #[.int .i64 s, .int .i64 r, .int .i64 h] w fun e w' => e = .returned (.int .i64 (Ps.rnd s r h)) ∧ w = w' := by
  unfold Ps.rnd
  by_cases hn : s < 0 ∨ 1152921504606846975 < s ∨ r < 0 ∨ 7 < r ∨ h < 0 ∨ 1023 < h
  · rw [if_pos hn]; exact rround_no s r h w hn
  · rw [if_neg hn]
    obtain ⟨s, rfl⟩ := Int.eq_ofNat_of_zero_le (a := s) (by omega)
    obtain ⟨r, rfl⟩ := Int.eq_ofNat_of_zero_le (a := r) (by omega)
    obtain ⟨h, rfl⟩ := Int.eq_ofNat_of_zero_le (a := h) (by omega)
    exact rround_yes s r h w (by omega) (by omega) (by omega)
theorem rround_any (s r h : Int) (w : World) (h1 : 0 ≤ s) (h1' : s ≤ 1152921504606846975) (h2 : 0 ≤ r) (h2' : r < 8) (h3 : 0 ≤ h) (h3' : h < 1024) :
    Calls Try.prog 29 #[.int .i64 s, .int .i64 r, .int .i64 h] w fun e w' => e = .returned (.int .i64 (Ps.rndN s.toNat r.toNat h.toNat)) ∧ w = w' := by
  obtain ⟨s, rfl⟩ := Int.eq_ofNat_of_zero_le h1
  obtain ⟨r, rfl⟩ := Int.eq_ofNat_of_zero_le h2
  obtain ⟨h, rfl⟩ := Int.eq_ofNat_of_zero_le h3
  exact rround_yes s r h w (by omega) (by omega) (by omega)
theorem Ps.joined' (p : Nat × Nat) : ((p.1 : Int) * 1024 + (p.2 : Int)) = ((Ps.joinN p : Nat) : Int) := by unfold Ps.joinN; omega
theorem rkey_yes (s k : Nat) (w : World) (h1 : s ≤ 1152921504606846975) (h2 : k < 1048576) :
    Calls Try.prog 25 #[.int .i64 s, .int .i64 k] w fun e w' => e = .returned (.int .i64 (Ps.keyN s k)) ∧ w = w' := by
  have hd : decide (0 ≤ (s : Int) ∧ (s : Int) ≤ 1152921504606846975 ∧ 0 ≤ (k : Int) ∧ (k : Int) ≤ 1048575) = true := by simp; omega
  go_enter Try.func25, Try.ntmps25
  go_wp2_with fail
  refine (right12 _ _ _).mono ?_; rintro e w' ⟨rfl, rfl⟩
  rw [hd]
  go_wp2_with fail
  go_loop [5, 6, 7] (fun a b i => ∃ n : Nat, n ≤ 8 ∧ i = .int .i64 n ∧ a = .int .i64 (Ps.kst s n (k / 1024, k % 1024)).1 ∧ b = .int .i64 (Ps.kst s n (k / 1024, k % 1024)).2) (fun _ _ i => 8 - (intOf i).toNat)
  case atStart => exact ⟨0, by omega, rfl, rfl, rfl⟩
  case round =>
    obtain ⟨n, hn, rfl, rfl, rfl⟩ := hrel
    have hk := Ps.kst_lt s n k h2
    by_cases hlt : n < 8
    · go_wp2_with fail
      refine (rround_any _ _ _ _ (by omega) (by omega) (by omega) (by omega) (by omega) (by omega)).mono ?_
      rintro e w' ⟨rfl, rfl⟩
      go_wp2_with fail
      go_round
      case rel => exact ⟨n + 1, by omega, by go_num, rfl, congrArg (Value.int .i64) (Bw.i64_xor_nat _ _ (by omega) (Nat.lt_of_lt_of_le (Ps.rndN_lt _ _ _) (by omega)))⟩
      case measure => simp [intOf]; omega
    · obtain rfl : n = 8 := by omega
      go_wp2
      go_ret
      exact ⟨ret_i64 (Ps.joined' _), rfl⟩
theorem rid_yes (s k : Nat) (w : World) (h1 : s ≤ 1152921504606846975) (h2 : k < 1048576) :
    Calls Try.prog 27 #[.int .i64 s, .int .i64 k] w fun e w' => e = .returned (.int .i64 (Ps.idN s k)) ∧ w = w' := by
  have hd : decide (0 ≤ (s : Int) ∧ (s : Int) ≤ 1152921504606846975 ∧ 0 ≤ (k : Int) ∧ (k : Int) ≤ 1048575) = true := by simp; omega
  go_enter Try.func27, Try.ntmps27
  go_wp2_with fail
  refine (right12 _ _ _).mono ?_; rintro e w' ⟨rfl, rfl⟩
  rw [hd]
  go_wp2_with fail
  go_loop [5, 6, 7] (fun a b i => ∃ n : Nat, n ≤ 8 ∧ i = .int .i64 (7 - (n : Int)) ∧ a = .int .i64 (Ps.bst s n (k / 1024, k % 1024)).1 ∧ b = .int .i64 (Ps.bst s n (k / 1024, k % 1024)).2) (fun _ _ i => (intOf i + 1).toNat)
  case atStart => exact ⟨0, by omega, rfl, rfl, rfl⟩
  case round =>
    obtain ⟨n, hn, rfl, rfl, rfl⟩ := hrel
    have hk := Ps.bst_lt s n k h2
    by_cases hlt : n < 8
    · go_wp2_with fail
      refine (rround_any _ _ _ _ (by omega) (by omega) (by omega) (by omega) (by omega) (by omega)).mono ?_
      rintro e w' ⟨rfl, rfl⟩
      rw [show ((7 : Int) - (n : Int)).toNat = 7 - n from by omega]
      go_wp2_with fail
      go_round
      case rel => exact ⟨n + 1, by omega, congrArg (Value.int .i64) (by omega), congrArg (Value.int .i64) (Bw.i64_xor_nat _ _ (by omega) (Nat.lt_of_lt_of_le (Ps.rndN_lt _ _ _) (by omega))), rfl⟩
      case measure => simp [intOf]; omega
    · obtain rfl : n = 8 := by omega
      go_wp2
      go_ret
      exact ⟨ret_i64 (Ps.joined' _), rfl⟩
theorem rkey_all (s k : Int) (w : World) :
    Calls Try.prog 25 #[.int .i64 s, .int .i64 k] w fun e w' => e = .returned (.int .i64 (Ps.key s k)) ∧ w = w' := by
  unfold Ps.key
  by_cases hn : s < 0 ∨ 1152921504606846975 < s ∨ k < 0 ∨ 1048575 < k
  · rw [if_pos hn]
    have hd : decide (0 ≤ s ∧ s ≤ 1152921504606846975 ∧ 0 ≤ k ∧ k ≤ 1048575) = false := by simp; omega
    clear hn
    go_enter Try.func25, Try.ntmps25
    go_wp2_with fail
    refine (right12 _ _ _).mono ?_; rintro e w' ⟨rfl, rfl⟩
    rw [hd]
    go_wp2_with fail
    go_ret
    exact ⟨rfl, rfl⟩
  · rw [if_neg hn]
    obtain ⟨s, rfl⟩ := Int.eq_ofNat_of_zero_le (a := s) (by omega)
    obtain ⟨k, rfl⟩ := Int.eq_ofNat_of_zero_le (a := k) (by omega)
    exact rkey_yes s k w (by omega) (by omega)
theorem rid_all (s k : Int) (w : World) :
    Calls Try.prog 27 #[.int .i64 s, .int .i64 k] w fun e w' => e = .returned (.int .i64 (Ps.id s k)) ∧ w = w' := by
  unfold Ps.id
  by_cases hn : s < 0 ∨ 1152921504606846975 < s ∨ k < 0 ∨ 1048575 < k
  · rw [if_pos hn]
    have hd : decide (0 ≤ s ∧ s ≤ 1152921504606846975 ∧ 0 ≤ k ∧ k ≤ 1048575) = false := by simp; omega
    clear hn
    go_enter Try.func27, Try.ntmps27
    go_wp2_with fail
    refine (right12 _ _ _).mono ?_; rintro e w' ⟨rfl, rfl⟩
    rw [hd]
    go_wp2_with fail
    go_ret
    exact ⟨rfl, rfl⟩
  · rw [if_neg hn]
    obtain ⟨s, rfl⟩ := Int.eq_ofNat_of_zero_le (a := s) (by omega)
    obtain ⟨k, rfl⟩ := Int.eq_ofNat_of_zero_le (a := k) (by omega)
    exact rid_yes s k w (by omega) (by omega)
set_option maxRecDepth 100000 in
theorem walkKeys (w : World) (s : Int) (_ : -9223372036854775808 ≤ s) (_ : s ≤ 9223372036854775807) (n : Int) (_ : -9223372036854775808 ≤ n) (_ : n ≤ 9223372036854775807) (k : Int) (hk0 : 0 ≤ k) (hk1 : k ≤ 4294967295)
    (r : Int) (_ : -9223372036854775808 ≤ r) (_ : r ≤ 9223372036854775807) (h : Int) (_ : -9223372036854775808 ≤ h) (_ : h ≤ 9223372036854775807) :
    Calls Try.prog 7 #[.int .i64 s, .int .i64 n, .int .u32 k, .int .i64 r, .int .i64 h] w fun e w' => e = .returned (.bool true) ∧ Below w.heap.size w w' := by
  go_enter Try.func7, Try.ntmps7
  go_wp2_with fail
  refine (secret12 _ _).mono ?_; rintro e w' ⟨S, hS, rfl, rfl⟩
  go_wp2_with fail
  obtain ⟨w1, hw1⟩ : ∃ w1 : World, w.alloc (.cells #[.int .i64 s, .int .i64 S, .int .i64 0, .int .i64 1152921504606846975, .int .i64 1152921504606846976, .int .i64 (-1)] 3) = w1 := ⟨_, rfl⟩
  have hb : Below w.heap.size w w1 := by rw [← hw1]; exact (Below.refl _ _).alloc (Nat.le_refl _) _
  have hcell : ∀ j : Nat, j < 6 → ∃ x : Int, w1.cell? ⟨w.heap.size, j, none⟩ = some (.int .i64 x) := by
    intro j hj
    rw [← hw1]
    match j, hj with
    | 0, _ => exact ⟨_, by simp [go_sem]; rfl⟩
    | 1, _ => exact ⟨_, by simp [go_sem]; rfl⟩
    | 2, _ => exact ⟨_, by simp [go_sem]; rfl⟩
    | 3, _ => exact ⟨_, by simp [go_sem]; rfl⟩
    | 4, _ => exact ⟨_, by simp [go_sem]; rfl⟩
    | 5, _ => exact ⟨_, by simp [go_sem]; rfl⟩
  simp only [hw1]
  have HC := Lib.hid hcell
  have HB := Lib.hid hb
  clear hcell hb hw1
  go_loop [13, 22] (fun _ i => ∃ j : Nat, j ≤ 6 ∧ i = .int .i64 j) (fun _ i => 6 - (intOf i).toNat)
  case atStart => exact ⟨0, by omega, rfl⟩
  case round =>
    obtain ⟨j, hj, rfl⟩ := hrel
    by_cases hlt : j < 6
    · obtain ⟨x, hx⟩ := HC.out j hlt
      go_wp2_with fail
      refine (key_all _ _ _).mono ?_; rintro e w' ⟨rfl, rfl⟩
      go_wp2_with fail
      refine (rkey_all _ _ _).mono ?_; rintro e w' ⟨rfl, rfl⟩
      go_wp2_with fail
      refine (id_all _ _ _).mono ?_; rintro e w' ⟨rfl, rfl⟩
      go_wp2_with fail
      refine (rid_all _ _ _).mono ?_; rintro e w' ⟨rfl, rfl⟩
      go_wp2_with fail
      refine (key_all _ _ _).mono ?_; rintro e w' ⟨rfl, rfl⟩
      go_wp2_with fail
      refine (rkey_all _ _ _).mono ?_; rintro e w' ⟨rfl, rfl⟩
      go_wp2_with fail
      refine (id_all _ _ _).mono ?_; rintro e w' ⟨rfl, rfl⟩
      go_wp2_with fail
      refine (rid_all _ _ _).mono ?_; rintro e w' ⟨rfl, rfl⟩
      go_wp2_with fail
      refine (round_all _ _ _ _).mono ?_; rintro e w' ⟨rfl, rfl⟩
      go_wp2_with fail
      refine (rround_all _ _ _ _).mono ?_; rintro e w' ⟨rfl, rfl⟩
      go_wp2_with fail
      refine (round_all _ _ _ _).mono ?_; rintro e w' ⟨rfl, rfl⟩
      go_wp2_with fail
      refine (rround_all _ _ _ _).mono ?_; rintro e w' ⟨rfl, rfl⟩
      go_wp2_with fail
      go_round
      case rel => exact ⟨j + 1, by omega, by go_num⟩
      case measure => simp [intOf]; omega
    · obtain rfl : j = 6 := by omega
      go_wp2_with fail
      refine (awake12 _).mono ?_; rintro e w' ⟨rfl, rfl⟩
      go_wp2_with fail
      go_ret
      exact ⟨rfl, HB.out⟩
end Go.Proofs.Ytjeeobaiibhbaaa
