/- Journals: a payload's and a file's greatest length. -/
import Derived.Test.YtjhdhnefoclccaaJt0
namespace Go.Proofs.Ytjhdhnefoclccaa
open Go.RowKit
theorem Nums.make (w : World) (N : Nat) (h : N ≤ 1000000) : Nums (w.alloc (.cells (Array.replicate N (.int .u8 0)) 5)) .u8 (w.alloc (.cells (Array.replicate N (.int .u8 0)) 5)).heap.size (some ⟨w.heap.size, 0, none⟩) N N (List.replicate N 0) := by
  refine ⟨by simp, Nat.le_refl _, by simp only [maxLen]; omega, fun _ => ⟨_, rfl, by simp, fun j hj => ?_⟩, fun x hx => ?_, fun h => by cases h⟩
  · rw [addr_add]
    simp [go_sem, hj, List.getD]
  · rw [List.eq_of_mem_replicate hx]; decide
theorem make_run (w : World) (N : Nat) (h : N ≤ 1000000) : ∃ w', (Instr.makeSlice 22 (.int .i64 (N : Int)) (.int .i64 (N : Int))).run Try.prog w = .ok (.slice (some ⟨w.heap.size, 0, none⟩) N N) w' ∧
    Nums w' .u8 w'.heap.size (some ⟨w.heap.size, 0, none⟩) N N (List.replicate N 0) ∧ Below w.heap.size w w' := by
  obtain ⟨i, hi, hz, h1, h2⟩ := info_parts byte_info
  have hr := run_makeSlice (P := Try.prog) w 22 5 i (.int .u8 0) Try.underlying22 hi hz .i64 .i64 (N : Int) (N : Int) (by omega) (Int.le_refl _) (by rw [h1]; simp; omega) (by rw [h2]; omega) (by omega)
  rw [h1] at hr
  have e : madeCells (Value.int .u8 0).cells (N * 1) = Array.replicate N (.int .u8 0) := by
    apply Array.ext'
    rw [Nat.mul_one, show (Value.int .u8 0).cells = #[.int .u8 0] from rfl, toList_madeCells_one]
    simp
  simp only [Int.toNat_natCast] at hr
  rw [e] at hr
  exact ⟨_, hr, Nums.make w N h, (Below.refl _ _).alloc (Nat.le_refl _) _⟩
theorem one_lit (w : World) : Nums (w.alloc (.cells #[.int .u8 1] 5)) .u8 (w.alloc (.cells #[.int .u8 1] 5)).heap.size (some ⟨w.heap.size, 0, none⟩) 1 1 [1] := by
  refine Nums.lit [1] (by simp) (by simp) (fun j hj => ?_) (by decide)
  obtain rfl : j = 0 := by simp at hj; omega
  simp [go_sem]
theorem frame_code (A : Option Addr) (N c : Nat) (l : List Int) (w : World) (h : Nums w .u8 w.heap.size A N c l) (hs : N ≤ 1000000) :
    Calls Try.prog 25 #[.slice A N c] w fun e w' => ∃ A2 n2 c2 code, e = .returned (.tuple #[.slice A2 n2 c2, .int .i64 code]) ∧ Hid (code = if 4096 < N then 1 else 0) ∧ Below w.heap.size w w' := by
  by_cases hN : 4096 < N
  · refine (frame23_limit A N c w hN).mono ?_
    rintro e w1 ⟨rfl, rfl⟩
    exact ⟨none, 0, 0, 1, rfl, Lib.hid (by rw [if_pos hN]), Below.refl _ _⟩
  · refine (frame23 A N c l w h (by omega)).mono ?_
    rintro e w1 ⟨v, rfl, hown, hb⟩
    obtain ⟨A2, n2, c2, rfl, _, _⟩ := hown.numsN (Jn.frame_wf h.wf)
    exact ⟨A2, n2, c2, 0, rfl, Lib.hid (by rw [if_neg hN]), hb⟩
theorem append_full (A B : Option Addr) (n c m d : Nat) (l p : List Int) (w : World) (h : Nums w .u8 w.heap.size A n c l) (hp : Nums w .u8 w.heap.size B m d p) (hs : n ≤ 1000000) (hm : m ≤ 4096) :
    Calls Try.prog 13 #[.agg #[.slice none 0 0, .slice A n c], .slice B m d] w fun e w' => ∃ A1 n1 c1 A2 n2 c2 code, e = .returned (.tuple #[.agg #[.slice A1 n1 c1, .slice A2 n2 c2], .int .i64 code]) ∧ Hid (code = if 262144 < n + (m + 8) then 42 else 0) ∧ Below w.heap.size w w' := by
  by_cases hf : 262144 < n + (m + 8)
  · refine (append23 none A B 0 0 n c m d [] l p w (Nums.nil _ _ _) h hp (by omega) hm (GivesError (.slice none 0 0) (.slice A n c) 42 w) (fun hx => absurd rfl hx) (fun _ _ => rfl) (fun _ hx => absurd hx (by omega))).mono ?_
    rintro e w1 ⟨rfl, hb⟩
    exact ⟨none, 0, 0, A, n, c, 42, rfl, Lib.hid (by rw [if_pos hf]), hb⟩
  · refine (append_ok none A B 0 0 n c m d [] l p w (Nums.nil _ _ _) h hp rfl (by omega) hm).mono ?_
    rintro e w1 ⟨v, rfl, hown, hb⟩
    obtain ⟨A2, n2, c2, rfl, _, _⟩ := hown.numsN (fun x hx => (List.mem_append.1 hx).elim (h.wf x) (Jn.frame_wf hp.wf x))
    exact ⟨none, 0, 0, A2, n2, c2, 0, rfl, Lib.hid (by rw [if_neg hf]), hb⟩
set_option maxRecDepth 100000 in
set_option maxHeartbeats 800000 in
theorem walkLimits (W : World) (over : Int) (lo : 0 ≤ over) (hi : over ≤ 255) :
    Calls Try.prog 7 #[.int .u8 over] W fun e w => e = .returned (.bool true) ∧ Below W.heap.size W w := by
  have a1 := Int.tmod_nonneg 5 lo
  have a2 := Int.tmod_lt_of_pos over (show (0 : Int) < 5 by omega)
  have b1 := Int.tmod_nonneg 25 lo
  have b2 := Int.tmod_lt_of_pos over (show (0 : Int) < 25 by omega)
  obtain ⟨N, hN, N0, N1⟩ : ∃ N : Nat, IntKind.i64.wrap (4094 + over.tmod 5) = (N : Int) ∧ 4094 ≤ N ∧ N ≤ 4098 := by
    refine ⟨(4094 + over.tmod 5).toNat, ?_, by omega, by omega⟩
    simp [IntKind.wrap, IntKind.bits, IntKind.signed]; omega
  obtain ⟨M, hM, M0, M1⟩ : ∃ M : Nat, IntKind.i64.wrap (262124 + over.tmod 25) = (M : Int) ∧ 262124 ≤ M ∧ M ≤ 262148 := by
    refine ⟨(262124 + over.tmod 25).toNat, ?_, by omega, by omega⟩
    simp [IntKind.wrap, IntKind.bits, IntKind.signed]; omega
  have hw0 : IntKind.i64.wrap over = over := by simp [IntKind.wrap, IntKind.bits, IntKind.signed]; omega
  have hw5 : IntKind.i64.wrap (over.tmod 5) = over.tmod 5 := by simp [IntKind.wrap, IntKind.bits, IntKind.signed]; omega
  have hw25 : IntKind.i64.wrap (over.tmod 25) = over.tmod 25 := by simp [IntKind.wrap, IntKind.bits, IntKind.signed]; omega
  have hwM : IntKind.i64.wrap ((M : Int) + 9) = (M : Int) + 9 := by simp [IntKind.wrap, IntKind.bits, IntKind.signed]; omega
  have hM5 : (M : Int) ≤ 262148 := by omega
  have hM6 : (0 : Int) ≤ M := by omega
  have hN5 : (N : Int) ≤ 4098 := by omega
  have hN6 : (0 : Int) ≤ N := by omega
  have HM := Lib.hid (And.intro M0 M1)
  have HN := Lib.hid (And.intro N0 N1)
  obtain ⟨W1, hmk, hn1, hb1⟩ := make_run W N (by omega)
  have HN1 := Lib.hid hn1
  have HB1 := Lib.hid hb1
  clear a1 a2 b1 b2 lo hi M0 M1 N0 N1 hn1 hb1
  go_enter Try.func7, Try.ntmps7
  go_wp2_with fail
  refine (frame_code _ N N _ W1 HN1.out (by have := HN.out; omega)).mono ?_
  rintro e w2 ⟨A2, n2, c2, code, rfl, HC, hb2⟩
  have HB2 := Lib.hid (HB1.out.trans (hb2.mono HB1.out.size))
  clear hmk hb2
  obtain ⟨w3, hmk, hn3, hb3⟩ := make_run w2 M (by have := HM.out; omega)
  have HN3 := Lib.hid hn3
  have HB3 := Lib.hid (HB2.out.trans (hb3.mono HB2.out.size))
  clear hn3 hb3
  go_wp2_with fail
  refine (append_full _ _ M M 1 1 _ [1] _ (HN3.out.box (Below.refl _ _) _) (one_lit w3) (by have := HM.out; omega) (by omega)).mono ?_
  rintro e w4 ⟨A5, n5, c5, A6, n6, c6, code2, rfl, HC2, hb4⟩
  have HB4 := Lib.hid (below_box HB3.out _ hb4)
  clear hmk hb4
  by_cases hx : 4096 < N
  · by_cases hy : 262144 < M + (1 + 8)
    · have hc : code = 1 := by rw [HC.out, if_pos hx]
      have hc2 : code2 = 42 := by rw [HC2.out, if_pos hy]
      subst hc hc2
      have t1 : decide ((4096 : Int) < N) = true := by simp; omega
      have t2 : decide ((262144 : Int) < (M : Int) + 9) = true := by simp; omega
      clear HC HC2 hx hy hN5 hM5
      go_wp2_with fail
      refine (awake23 _).mono ?_; rintro e w5 ⟨rfl, hb5⟩
      go_wp2
      go_ret
      exact ⟨rfl, (HB4.out.alloc HB4.out.size _).trans (hb5.mono (by have := HB4.out.size; simp; omega))⟩
    · have hc : code = 1 := by rw [HC.out, if_pos hx]
      have hc2 : code2 = 0 := by rw [HC2.out, if_neg hy]
      subst hc hc2
      have t1 : decide ((4096 : Int) < N) = true := by simp; omega
      have t2 : decide ((262144 : Int) < (M : Int) + 9) = false := by simp; omega
      clear HC HC2 hx hy hN5 hM5
      go_wp2_with fail
      refine (awake23 _).mono ?_; rintro e w5 ⟨rfl, hb5⟩
      go_wp2
      go_ret
      exact ⟨rfl, (HB4.out.alloc HB4.out.size _).trans (hb5.mono (by have := HB4.out.size; simp; omega))⟩
  · by_cases hy : 262144 < M + (1 + 8)
    · have hc : code = 0 := by rw [HC.out, if_neg hx]
      have hc2 : code2 = 42 := by rw [HC2.out, if_pos hy]
      subst hc hc2
      have t1 : decide ((4096 : Int) < N) = false := by simp; omega
      have t2 : decide ((262144 : Int) < (M : Int) + 9) = true := by simp; omega
      clear HC HC2 hx hy hN5 hM5
      go_wp2_with fail
      refine (awake23 _).mono ?_; rintro e w5 ⟨rfl, hb5⟩
      go_wp2
      go_ret
      exact ⟨rfl, (HB4.out.alloc HB4.out.size _).trans (hb5.mono (by have := HB4.out.size; simp; omega))⟩
    · have hc : code = 0 := by rw [HC.out, if_neg hx]
      have hc2 : code2 = 0 := by rw [HC2.out, if_neg hy]
      subst hc hc2
      have t1 : decide ((4096 : Int) < N) = false := by simp; omega
      have t2 : decide ((262144 : Int) < (M : Int) + 9) = false := by simp; omega
      clear HC HC2 hx hy hN5 hM5
      go_wp2_with fail
      refine (awake23 _).mono ?_; rintro e w5 ⟨rfl, hb5⟩
      go_wp2
      go_ret
      exact ⟨rfl, (HB4.out.alloc HB4.out.size _).trans (hb5.mono (by have := HB4.out.size; simp; omega))⟩
end Go.Proofs.Ytjhdhnefoclccaa
