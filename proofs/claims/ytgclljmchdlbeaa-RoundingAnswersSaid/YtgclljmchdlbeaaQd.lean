/- Rounding, the reference: Check. -/
import Derived.Test.YtgclljmchdlbeaaQc
namespace Go.Proofs.Ytgclljmchdlbeaa
open Go.RowKit
set_option maxRecDepth 100000 in
set_option maxHeartbeats 1600000 in
theorem rcheckV (m n : Nat) (hm : 1 ≤ m) (hn : 1 ≤ n) (hmn : m * n ≤ 12) (t : List Int) (b : Int) (hb0 : 1 ≤ b) (hb1 : b ≤ 20) (hsm : ∀ x ∈ t, 0 ≤ x ∧ x ≤ 1000000) (A A' : Option Addr) (k c c' : Nat) (HK : Hid (k = m * n)) (r : List Int) (w : World) (h : Nums w .i64 w.heap.size A k c t) (h' : Nums w .i64 w.heap.size A' k c' r) :
    Calls Try.prog 17 #[.int .i64 m, .int .i64 n, .slice A k c, .slice A' k c', .int .i64 b] w fun e w' => e = .returned (.tuple #[.bool (Rd.ok b t r k && Rd.fits n k t r b), .int .i64 0]) ∧ Below w.heap.size w w' := by
  have hk9 : k ≤ 12 := by rw [HK.out]; exact hmn
  have hmk : (m : Int) * (n : Int) = (k : Int) := by rw [HK.out]; simp
  have hn12 : n ≤ 12 := Nat.le_trans (by simpa using Nat.mul_le_mul_right n hm) hmn
  have hm12 : m ≤ 12 := Nat.le_trans (by simpa using Nat.mul_le_mul_left m hn) hmn
  have H := Lib.hid h
  have H' := Lib.hid h'
  have HSM := Lib.hid hsm
  have HMN := Lib.hid hmn
  have HR := Lib.hid (show Rd.rng t b = 0 by
    unfold Rd.rng
    rw [if_neg]
    rintro (h | h | h)
    · omega
    · omega
    · obtain ⟨x, hx, ho⟩ := List.any_eq_true.1 h
      have := hsm x hx
      simp [Rd.out] at ho
      omega)
  have g1 : decide ((m : Int) < 1) = false := decide_eq_false (by omega)
  have g2 : decide ((n : Int) < 1) = false := decide_eq_false (by omega)
  have g3 : decide ((12 : Int) < (m : Int)) = false := decide_eq_false (by omega)
  have g4 : decide ((12 : Int) < (n : Int)) = false := decide_eq_false (by omega)
  have g5 : decide ((12 : Int) < (k : Int)) = false := decide_eq_false (by omega)
  have g6 : ((k : Int) != (k : Int)) = false := by simp
  clear h h' hsm hmn
  go_enter Try.func17, Try.ntmps17
  go_wp2_with fail
  refine (rnum34 A k c t b _ w H.out).mono ?_; rintro e w1 ⟨rfl, rfl⟩
  rw [HR.out]
  go_wp2_with fail
  go_loop [57] (fun i => ∃ j : Nat, j ≤ k ∧ i = .int .i64 j ∧ Hid (Rd.ok b t r j = true)) (fun i => k - (intOf i).toNat)
  case atStart => exact ⟨0, by omega, rfl, rfl⟩
  case round =>
    obtain ⟨j, hj, rfl, HI⟩ := hrel
    by_cases hlt : j < k
    · obtain ⟨ad, x, rfl, _, HX, hx, _⟩ := H.out.val hlt
      obtain ⟨ad', y, rfl, _, HY, hy, _⟩ := H'.out.val hlt
      have hxm := HSM.out x (getD_mem HX.out)
      have hx9 : -100000000 ≤ x ∧ x ≤ 100000000 := by omega
      have HS := Lib.hid (show Rd.ok b t r (j + 1) = (Rd.ok b t r j && decide (y ∈ Rd.mult x b)) by unfold Rd.ok; rw [all_range_succ, HX.out.1, HY.out.1])
      have i1 : (0 : Int) ≤ (j : Int) := by omega
      have i2 : (j : Int) < (k : Int) := by omega
      have hnm := Rd.nearM_mult (n := x) (r := y) hb0
      rcases hbl : decide (y ∈ Rd.mult x b) with _ | _
      · rw [hbl] at hnm
        have HNM := Lib.hid hnm
        have HF := Lib.hid (show (Rd.ok b t r k && Rd.fits n k t r b) = false by
          have : Rd.ok b t r k = false := all_range_bad hlt (by rw [HX.out.1, HY.out.1, hbl])
          rw [this]; rfl)
        clear hnm hbl
        go_wp2_with fail
        refine (rnearQ x y b false HNM.out hx9 hb0 hb1 _).mono ?_; rintro e w1 ⟨rfl, rfl⟩
        go_wp2_with fail
        refine bodyPost_ret (v := .tuple #[.bool false, .int .i64 0]) (by simp [results, Try.results17, go_sem]) rfl ?_
        exact ⟨by rw [HF.out], Below.refl _ _⟩
      · rw [hbl] at hnm
        have HNM := Lib.hid hnm
        have HBL := Lib.hid hbl
        clear hnm hbl
        go_wp2_with fail
        refine (rnearQ x y b true HNM.out hx9 hb0 hb1 _).mono ?_; rintro e w1 ⟨rfl, rfl⟩
        go_wp2_with fail
        go_round
        case rel => exact ⟨j + 1, by omega, by go_num, by show Rd.ok b t r (j + 1) = true; rw [HS.out, HI.out, HBL.out]; rfl⟩
        case measure => simp [intOf]; omega
    · obtain rfl : k = j := by omega
      have HIN := Lib.hid (show ∀ i, i < k → r.getD i 0 ∈ Rd.mult (t.getD i 0) b by
        have h9 := HI.out
        unfold Rd.ok at h9
        rw [List.all_eq_true] at h9
        exact fun i hi => of_decide_eq_true (h9 i (List.mem_range.2 hi)))
      go_wp2_with fail
      refine (rfits34 m n hm hn HMN.out A A' k c c' HK t r b HIN.out hb0 hb1 HSM.out w H.out H'.out).mono ?_; rintro e w2 ⟨rfl, hb2⟩
      have HBX := Lib.hid hb2
      have HF := Lib.hid (show (Rd.ok b t r k && Rd.fits n k t r b) = Rd.fits n k t r b by rw [HI.out]; rfl)
      clear hb2
      go_wp2_with fail
      refine bodyPost_ret (v := .tuple #[.bool (Rd.fits n k t r b), .int .i64 0]) (by simp [results, Try.results17, go_sem]) rfl ?_
      exact ⟨by rw [HF.out], HBX.out⟩
set_option maxRecDepth 100000 in
set_option maxHeartbeats 1600000 in
theorem rcheckG (R C : Int) (hR : -9223372036854775808 ≤ R ∧ R ≤ 9223372036854775807) (hC : -9223372036854775808 ≤ C ∧ C ≤ 9223372036854775807) (A A' : Option Addr) (k c k' c' : Nat) (t r : List Int) (b : Int) (w : World) (h : Nums w .i64 w.heap.size A k c t) (h' : Nums w .i64 w.heap.size A' k' c' r) :
    Calls Try.prog 17 #[.int .i64 R, .int .i64 C, .slice A k c, .slice A' k' c', .int .i64 b] w fun e w' => e = .returned (.tuple #[.bool (Rd.chk R C t r b), .int .i64 (Rd.errC R C t r b)]) ∧ Below w.heap.size w w' := by
  by_cases h0 : Rd.errC R C t r b = 0
  · have h1 : Rd.err R C t b = 0 ∧ (r.length : Int) = R * C := by
      unfold Rd.errC at h0
      split at h0
      · cases h0
      · split at h0
        · cases h0
        · rename_i h9; exact ⟨h0, by omega⟩
    obtain ⟨m, n, rfl, rfl, hm, hn, hmn, hlen, hb0, hb1, hsm⟩ := Rd.err_ok h1.1
    have hk : k = m * n := by rw [← h.len]; exact hlen
    have e : (m : Int) * (n : Int) = ((m * n : Nat) : Int) := by simp
    have hk' : k' = k := by have := h'.len; omega
    subst hk'
    refine (rcheckV m n hm hn hmn t b hb0 hb1 hsm A A' k' c c' (Lib.hid hk) r w h h').mono ?_
    rintro e w' ⟨rfl, hb⟩
    refine ⟨?_, hb⟩
    have e2 : Rd.chk (m : Int) (n : Int) t r b = (Rd.ok b t r k' && Rd.fits n k' t r b) := by
      unfold Rd.chk
      rw [if_pos h0, h.len]; rfl
    rw [h0, e2]
  · have HC0 := Lib.hid (show Rd.chk R C t r b = false by unfold Rd.chk; rw [if_neg h0])
    have HH := Lib.hid (And.intro h h')
    have HL := Lib.hid (And.intro h.len h'.len)
    have HH0 := Lib.hid h0
    clear h h' h0
    by_cases h1 : R < 1
    · have HE := Lib.hid (show Rd.errC R C t r b = 55 by unfold Rd.errC; rw [if_pos (by unfold Rd.err; rw [if_pos (.inl h1)])])
      have g1 : decide (R < 1) = true := decide_eq_true h1
      clear h1
      go_enter Try.func17, Try.ntmps17
      go_wp2_with fail
      refine bodyPost_ret (v := .tuple #[.bool false, .int .i64 55]) (by simp [results, Try.results17, go_sem]) rfl ?_
      exact ⟨by rw [HE.out, HC0.out], Below.refl _ _⟩
    · have g1 : decide (R < 1) = false := decide_eq_false h1
      by_cases h2 : C < 1
      · have HE := Lib.hid (show Rd.errC R C t r b = 55 by unfold Rd.errC; rw [if_pos (by unfold Rd.err; rw [if_pos (.inr (.inl h2))])])
        have g2 : decide (C < 1) = true := decide_eq_true h2
        clear h1 h2
        go_enter Try.func17, Try.ntmps17
        go_wp2_with fail
        refine bodyPost_ret (v := .tuple #[.bool false, .int .i64 55]) (by simp [results, Try.results17, go_sem]) rfl ?_
        exact ⟨by rw [HE.out, HC0.out], Below.refl _ _⟩
      · have g2 : decide (C < 1) = false := decide_eq_false h2
        by_cases h3 : 12 < R * C
        · have HE := Lib.hid (show Rd.errC R C t r b = 55 by unfold Rd.errC; rw [if_pos (by unfold Rd.err; rw [if_pos (.inr (.inr h3))])])
          by_cases h4 : 12 < R
          · have g3 : decide (12 < R) = true := decide_eq_true h4
            clear h1 h2 h3 h4
            go_enter Try.func17, Try.ntmps17
            go_wp2_with fail
            refine bodyPost_ret (v := .tuple #[.bool false, .int .i64 55]) (by simp [results, Try.results17, go_sem]) rfl ?_
            exact ⟨by rw [HE.out, HC0.out], Below.refl _ _⟩
          · have g3 : decide (12 < R) = false := decide_eq_false h4
            by_cases h5 : 12 < C
            · have g4 : decide (12 < C) = true := decide_eq_true h5
              clear h1 h2 h3 h4 h5
              go_enter Try.func17, Try.ntmps17
              go_wp2_with fail
              refine bodyPost_ret (v := .tuple #[.bool false, .int .i64 55]) (by simp [results, Try.results17, go_sem]) rfl ?_
              exact ⟨by rw [HE.out, HC0.out], Below.refl _ _⟩
            · have g4 : decide (12 < C) = false := decide_eq_false h5
              have hz0 : R * C ≤ 144 := by
                have q1 := Int.mul_le_mul_of_nonneg_right (show R ≤ 12 by omega) (show 0 ≤ C by omega)
                omega
              obtain ⟨z, hz⟩ : ∃ z, R * C = z := ⟨_, rfl⟩
              rw [hz] at hz0 h3
              have g5 : decide (12 < z) = true := decide_eq_true h3
              clear h1 h2 h4 h5
              go_enter Try.func17, Try.ntmps17
              go_wp2_with fail
              refine bodyPost_ret (v := .tuple #[.bool false, .int .i64 55]) (by simp [results, Try.results17, go_sem]) rfl ?_
              exact ⟨by rw [HE.out, HC0.out], Below.refl _ _⟩
        · have hp := Rd.prod_bd (show 1 ≤ R by omega) (show 1 ≤ C by omega) (by omega)
          have g3 : decide (12 < R) = false := decide_eq_false (by omega)
          have g4 : decide (12 < C) = false := decide_eq_false (by omega)
          have h55 : Rd.err R C t b = if (t.length : Int) ≠ R * C then 17 else Rd.rng t b := by unfold Rd.err; rw [if_neg (fun h => h.elim h1 (fun h => h.elim h2 h3))]
          have hrng : Rd.rng t b = 0 ∨ Rd.rng t b = 2 := by unfold Rd.rng; split <;> simp
          obtain ⟨z, hz⟩ : ∃ z, R * C = z := ⟨_, rfl⟩
          have hz9 : 1 ≤ z ∧ z ≤ 12 := by omega
          have g5 : decide (12 < z) = false := decide_eq_false (by omega)
          by_cases h4 : (k : Int) = z
          · rw [if_neg (by rw [HL.out.1, hz]; exact fun e => e h4)] at h55
            have g6 : ((k : Int) != z) = false := by simpa using h4
            have hn55 : ¬ Rd.err R C t b = 55 := by omega
            by_cases h5 : (k' : Int) = z
            · have hqe : Rd.errC R C t r b = Rd.rng t b := by unfold Rd.errC; rw [if_neg hn55, if_neg (by rw [HL.out.2, hz]; exact fun e => e h5)]; exact h55
              have hq0 := HH0.out
              rw [hqe] at hq0
              have HE := Lib.hid (show Rd.errC R C t r b = 2 by omega)
              have HQ := Lib.hid (show Rd.rng t b = 2 by omega)
              have g7 : ((k' : Int) != z) = false := by simpa using h5
              clear h1 h2 h3 h4 h5 hp h55 hrng hn55 hqe hq0
              go_enter Try.func17, Try.ntmps17
              go_wp2_with fail
              refine (rnum34 A k c t b _ w HH.out.1).mono ?_; rintro e w1 ⟨rfl, rfl⟩
              rw [HQ.out]
              go_wp2_with fail
              refine bodyPost_ret (v := .tuple #[.bool false, .int .i64 2]) (by simp [results, Try.results17, go_sem]) rfl ?_
              exact ⟨by rw [HE.out, HC0.out], Below.refl _ _⟩
            · have HE := Lib.hid (show Rd.errC R C t r b = 17 by unfold Rd.errC; rw [if_neg hn55, if_pos (by rw [HL.out.2, hz]; exact h5)])
              have g7 : ((k' : Int) != z) = true := by simpa using h5
              clear h1 h2 h3 h4 h5 hp h55 hrng hn55
              go_enter Try.func17, Try.ntmps17
              go_wp2_with fail
              refine bodyPost_ret (v := .tuple #[.bool false, .int .i64 17]) (by simp [results, Try.results17, go_sem]) rfl ?_
              exact ⟨by rw [HE.out, HC0.out], Below.refl _ _⟩
          · rw [if_pos (by rw [HL.out.1, hz]; exact h4)] at h55
            have HE := Lib.hid (show Rd.errC R C t r b = 17 by
              unfold Rd.errC
              rw [if_neg (by omega)]
              split
              · rfl
              · exact h55)
            have g6 : ((k : Int) != z) = true := by simpa using h4
            clear h1 h2 h3 h4 hp h55 hrng
            go_enter Try.func17, Try.ntmps17
            go_wp2_with fail
            refine bodyPost_ret (v := .tuple #[.bool false, .int .i64 17]) (by simp [results, Try.results17, go_sem]) rfl ?_
            exact ⟨by rw [HE.out, HC0.out], Below.refl _ _⟩
end Go.Proofs.Ytgclljmchdlbeaa
