/- Rounding: Check, Round and Values of all tables. -/
import Derived.Test.YtgclljmchdlbeaaNw
namespace Go.Proofs.Ytgclljmchdlbeaa
open Go.RowKit
def Rd.errC (R C : Int) (t r : List Int) (b : Int) : Int := if Rd.err R C t b = 55 then 55 else if (r.length : Int) ≠ R * C then 17 else Rd.err R C t b
def Rd.chk (R C : Int) (t r : List Int) (b : Int) : Bool := if Rd.errC R C t r b = 0 then Rd.ok b t r t.length && Rd.fits C.toNat t.length t r b else false
set_option maxRecDepth 100000 in
set_option maxHeartbeats 1600000 in
theorem check34b (m n : Nat) (hm : 1 ≤ m) (hn : 1 ≤ n) (hmn : m * n ≤ 12) (t : List Int) (b : Int) (hb0 : 1 ≤ b) (hb1 : b ≤ 20) (hsm : ∀ x ∈ t, 0 ≤ x ∧ x ≤ 1000000) (A A' : Option Addr) (k c c' : Nat) (HK : Hid (k = m * n)) (r : List Int) (w : World) (h : Nums w .i64 w.heap.size A k c t) (h' : Nums w .i64 w.heap.size A' k c' r) :
    Calls Try.prog 16 #[.int .i64 m, .int .i64 n, .slice A k c, .slice A' k c', .int .i64 b] w fun e w' => e = .returned (.tuple #[.bool (Rd.ok b t r k && Rd.fits n k t r b), .int .i64 0]) ∧ Below w.heap.size w w' := by
  have hk9 : k ≤ 12 := by rw [HK.out]; exact hmn
  have hmk : (m : Int) * (n : Int) = (k : Int) := by rw [HK.out]; simp
  have hn12 : n ≤ 12 := Nat.le_trans (by simpa using Nat.mul_le_mul_right n hm) hmn
  have H := Lib.hid h
  have H' := Lib.hid h'
  have HSM := Lib.hid hsm
  have HMN := Lib.hid hmn
  clear h h' hsm hmn
  go_enter Try.func16, Try.ntmps16
  go_wp2_with fail
  refine (wrong34 m n hm hn HMN.out A k c HK.out t HSM.out b hb0 hb1 _ w H.out).mono ?_; rintro e w1 ⟨rfl, rfl⟩
  have g1 : ((k : Int) != (k : Int)) = false := by simp
  go_wp2_with fail
  go_loopw [35] (fun iv wr => ∃ j : Nat, j ≤ k ∧ iv = .int .i64 j ∧ Hid (Rd.ok b t r j = true ∧ Below w.heap.size w wr)) (fun iv _ => k - (intOf iv).toNat)
  case atStart => exact ⟨0, by omega, rfl, rfl, Below.refl _ _⟩
  case round =>
    rename World => X
    obtain ⟨j, hj, rfl, HI⟩ := hrel
    by_cases hlt : j < k
    · have HX1 := Lib.hid (H.out.keep HI.out.2 HI.out.2.size)
      have HX2 := Lib.hid (H'.out.keep HI.out.2 HI.out.2.size)
      obtain ⟨ad, x, rfl, hq1, HX, hx, _⟩ := HX1.out.val hlt
      obtain ⟨ad', y, rfl, hq2, HY, hy, _⟩ := HX2.out.val hlt
      have hyv : ∀ w', Below X.heap.size X w' → w'.cell? (ad'.add j) = some (.int .i64 y) := fun w' h9 => (h9.cell (by rw [add_block]; exact hq2)).trans hy
      have hxm : 0 ≤ x ∧ x ≤ 1000000 := by rw [← HX.out.1]; exact HSM.out _ (getD_mem ⟨rfl, HX.out.2⟩)
      have HXM := Lib.hid hxm
      have HMS := Lib.hid (fun z hz => wf64s (Rd.mult_mem hxm ⟨hb0, hb1⟩ hz) : ∀ z ∈ Rd.mult x b, (Lit.int .i64 z).wf = true)
      have HS := Lib.hid (show Rd.ok b t r (j + 1) = (Rd.ok b t r j && decide (y ∈ Rd.mult x b)) by unfold Rd.ok; rw [all_range_succ, HX.out.1, HY.out.1])
      have i1 : (0 : Int) ≤ (j : Int) := by omega
      have i2 : (j : Int) < (k : Int) := by omega
      have dm : decide (y ∈ Rd.mult x b) = decide (y ∈ Rd.mult x b) := rfl
      obtain ⟨bl, hbl⟩ : ∃ bl, decide (y ∈ Rd.mult x b) = bl := ⟨_, rfl⟩
      have HBL := Lib.hid hbl
      clear hq1 hq2 hy hxm dm hbl
      go_wp2_with fail
      go_region_held3 (fun w' => Below X.heap.size X w')
        (first | assumption | (exact below_of_drawn 1) | (exact (Below.refl _ _).drew) | (exact below_drewN (by assumption) _) | (exact Below.trans (by assumption) (Below.mono (by assumption) (Below.size (by assumption)))))
        (first
          | (go_at_call 44; (with_reducible refine (mult34 x b _ HXM.out.1 HXM.out.2 hb0 hb1).mono ?_); rintro e wz ⟨vz, rfl, hown, hbz⟩; obtain ⟨Az, cz, rfl, hnz⟩ := hown.nums HMS.out; clear hown)
          | (go_at_call 48; (with_reducible refine (contains34 _ _ _ _ _ _ _ hnz).mono ?_); rintro e wy ⟨rfl, rfl⟩; rw [HBL.out])
          | fail)
      all_goals
        have HBX := Lib.hid (HI.out.2.trans ((show Below X.heap.size X wz by assumption).mono HI.out.2.size))
        rcases bl with _ | _
        · have HF := Lib.hid (show (Rd.ok b t r k && Rd.fits n k t r b) = false by
            have : Rd.ok b t r k = false := all_range_bad hlt (by rw [HX.out.1, HY.out.1, HBL.out])
            rw [this]; rfl)
          go_wp2_with fail
          refine bodyPost_ret (v := .tuple #[.bool false, .int .i64 0]) (by simp [results, Try.results16, go_sem]) rfl ?_
          exact ⟨by rw [HF.out], HBX.out⟩
        · go_wp2_with fail
          go_roundw
          case rel => exact ⟨j + 1, by omega, by go_num, by rw [HS.out, HI.out.1, HBL.out]; rfl, HBX.out⟩
          case measure => simp [intOf]; omega
    · obtain rfl : j = k := by omega
      go_wp2_with fail
      have hrs : ∀ x ∈ r, -2000000 ≤ x ∧ x ≤ 2000000 := fun x hx => by
        obtain ⟨i, hi, rfl⟩ := mem_getD hx
        have h9 := HI.out.1
        unfold Rd.ok at h9
        rw [List.all_eq_true] at h9
        have h8 := of_decide_eq_true (h9 i (List.mem_range.2 (by rw [← H'.out.len]; exact hi)))
        exact Rd.mult_mem (HSM.out _ (getD_mem ⟨rfl, by rw [H.out.len, ← H'.out.len]; exact hi⟩)) ⟨hb0, hb1⟩ h8
      refine (fit34 n hn hn12 A A' j (by omega) c c' t r (Rd.sm (fun x hx => by have := HSM.out x hx; omega)) (Rd.sm hrs) b X.heap.size X (H.out.keep HI.out.2 HI.out.2.size) (H'.out.keep HI.out.2 HI.out.2.size) (Nat.le_refl _)).mono ?_; rintro e w2 ⟨rfl, hb2⟩
      clear hrs
      have HBX := Lib.hid (HI.out.2.trans (hb2.mono HI.out.2.size))
      have HF := Lib.hid (show (Rd.ok b t r j && Rd.fits n j t r b) = Rd.fits n j t r b by rw [HI.out.1]; rfl)
      clear hb2
      go_wp2_with fail
      refine bodyPost_ret (v := .tuple #[.bool (Rd.fits n j t r b), .int .i64 0]) (by simp [results, Try.results16, go_sem]) rfl ?_
      exact ⟨by rw [HF.out], HBX.out⟩

set_option maxRecDepth 100000 in
set_option maxHeartbeats 1600000 in
theorem checkG (R C : Int) (hR : -9223372036854775808 ≤ R ∧ R ≤ 9223372036854775807) (hC : -9223372036854775808 ≤ C ∧ C ≤ 9223372036854775807) (A A' : Option Addr) (k c k' c' : Nat) (t r : List Int) (b : Int) (w : World) (h : Nums w .i64 w.heap.size A k c t) (h' : Nums w .i64 w.heap.size A' k' c' r) :
    Calls Try.prog 16 #[.int .i64 R, .int .i64 C, .slice A k c, .slice A' k' c', .int .i64 b] w fun e w' => e = .returned (.tuple #[.bool (Rd.chk R C t r b), .int .i64 (Rd.errC R C t r b)]) ∧ Below w.heap.size w w' := by
  by_cases h0 : Rd.errC R C t r b = 0
  · have h1 : Rd.err R C t b = 0 ∧ (r.length : Int) = R * C := by
      unfold Rd.errC at h0
      split at h0
      · cases h0
      · split at h0
        · cases h0
        · rename_i h9; exact ⟨h0, by omega⟩
    obtain ⟨m, n, rfl, rfl, hm, hn, hmn, hlen, hb0, hb1, hsm⟩ := Rd.err_ok h1.1
    have hk : k = m * n := by rw [← h.len]; exact hlen
    have e : (m : Int) * (n : Int) = ((m * n : Nat) : Int) := by simp
    have hk' : k' = k := by have := h'.len; omega
    subst hk'
    refine (check34b m n hm hn hmn t b hb0 hb1 hsm A A' k' c c' (Lib.hid hk) r w h h').mono ?_
    rintro e w' ⟨rfl, hb⟩
    refine ⟨?_, hb⟩
    have e2 : Rd.chk (m : Int) (n : Int) t r b = (Rd.ok b t r k' && Rd.fits n k' t r b) := by
      unfold Rd.chk
      rw [if_pos h0, h.len]; rfl
    rw [h0, e2]
  · have HC0 := Lib.hid (show Rd.chk R C t r b = false by unfold Rd.chk; rw [if_neg h0])
    have HH := Lib.hid (And.intro h h')
    have HL := Lib.hid (And.intro h.len h'.len)
    by_cases h1 : Rd.err R C t b = 55
    · have HE := Lib.hid (show Rd.errC R C t r b = 55 by unfold Rd.errC; rw [if_pos h1])
      have HE1 := Lib.hid h1
      clear h h' h0 h1
      go_enter Try.func16, Try.ntmps16
      go_wp2_with fail
      refine (wrongG R C hR hC A k c t b _ w HH.out.1).mono ?_; rintro e w1 ⟨rfl, rfl⟩
      rw [HE1.out]
      go_wp2_with fail
      refine bodyPost_ret (v := .tuple #[.bool false, .int .i64 55]) (by simp [results, Try.results16, go_sem]) rfl ?_
      exact ⟨by rw [HE.out, HC0.out], Below.refl _ _⟩
    · have h2 : 1 ≤ R ∧ 1 ≤ C ∧ R * C ≤ 12 := by
        unfold Rd.err at h1
        split at h1
        · exact absurd rfl h1
        · omega
      have hp := Rd.prod_bd h2.1 h2.2.1 h2.2.2
      obtain ⟨z, hz⟩ : ∃ z, R * C = z := ⟨_, rfl⟩
      have hz9 : 1 ≤ z ∧ z ≤ 12 := by omega
      obtain ⟨q, hq⟩ : ∃ q, Rd.err R C t b = q := ⟨_, rfl⟩
      have g1 : (q != 55) = true := by rw [← hq]; simpa using h1
      by_cases h3 : (k' : Int) = z
      · have hqe : Rd.errC R C t r b = q := by unfold Rd.errC; rw [if_neg h1, if_neg (by rw [h'.len, hz]; exact fun e => e h3)]; exact hq
        have HE := Lib.hid hqe
        rw [hqe] at h0
        have HQ := Lib.hid hq
        have g2 : ((k' : Int) != z) = false := by simpa using h3
        have g3 : (q != 0) = true := by simpa using h0
        clear h h' h0 h1 h2 hp hqe hq h3
        go_enter Try.func16, Try.ntmps16
        go_wp2_with fail
        refine (wrongG R C hR hC A k c t b _ w HH.out.1).mono ?_; rintro e w1 ⟨rfl, rfl⟩
        rw [HQ.out]
        go_wp2_with fail
        refine bodyPost_ret (v := .tuple #[.bool false, .int .i64 q]) (by simp [results, Try.results16, go_sem]) rfl ?_
        exact ⟨by rw [HE.out, HC0.out], Below.refl _ _⟩
      · have hqe : Rd.errC R C t r b = 17 := by unfold Rd.errC; rw [if_neg h1, if_pos (by rw [h'.len, hz]; exact h3)]
        have HE := Lib.hid hqe
        have HQ := Lib.hid hq
        have g2 : ((k' : Int) != z) = true := by simpa using h3
        clear h h' h0 h1 h2 hp hqe hq h3
        go_enter Try.func16, Try.ntmps16
        go_wp2_with fail
        refine (wrongG R C hR hC A k c t b _ w HH.out.1).mono ?_; rintro e w1 ⟨rfl, rfl⟩
        rw [HQ.out]
        go_wp2_with fail
        refine bodyPost_ret (v := .tuple #[.bool false, .int .i64 17]) (by simp [results, Try.results16, go_sem]) rfl ?_
        exact ⟨by rw [HE.out, HC0.out], Below.refl _ _⟩
/-- what Values and Round give -/
def Rd.vals (t : List Int) (b : Int) : List (List Int) := if 12 < t.length then [] else if Rd.rng t b = 0 then t.map (Rd.mult · b) else []
def Rd.errV (t : List Int) (b : Int) : Int := if 12 < t.length then 17 else Rd.rng t b
theorem valuesG (A : Option Addr) (k c : Nat) (t : List Int) (b : Int) (w : World) (h : Nums w .i64 w.heap.size A k c t) :
    Calls Try.prog 18 #[.slice A k c, .int .i64 b] w fun e w' => ∃ v, e = .returned (.tuple #[v, .int .i64 (Rd.errV t b)]) ∧ OwnRows w' w.heap.size 22 3 .i64 v (Rd.vals t b) ∧ Below w.heap.size w w' := by
  have hl := h.len
  by_cases h1 : 12 < k
  · have HE := Lib.hid (show Rd.errV t b = 17 ∧ Rd.vals t b = [] by unfold Rd.errV Rd.vals; rw [hl, if_pos h1, if_pos h1]; exact ⟨rfl, rfl⟩)
    have g1 : decide ((12 : Int) < (k : Int)) = true := decide_eq_true (by omega)
    clear hl
    go_enter Try.func18, Try.ntmps18
    go_wp2_with fail
    refine bodyPost_ret (v := .tuple #[.slice none 0 0, .int .i64 17]) (by simp [results, Try.results18, go_sem]) rfl ?_
    exact ⟨.slice none 0 0, by rw [HE.out.1], by rw [HE.out.2]; exact OwnRows.nil _ _ _ _ _, Below.refl _ _⟩
  · by_cases h2 : Rd.rng t b = 0
    · obtain ⟨hb0, hb1, hsm⟩ := Rd.rng_ok h2
      refine (values34 A k c t (by omega) hsm b hb0 hb1 w h).mono ?_
      rintro e w' ⟨v, rfl, hv, hb⟩
      have e1 : Rd.errV t b = 0 ∧ Rd.vals t b = t.map (Rd.mult · b) := by unfold Rd.errV Rd.vals; rw [hl, if_neg h1, if_neg h1, if_pos h2]; exact ⟨h2, rfl⟩
      exact ⟨v, by rw [e1.1], by rw [e1.2]; exact hv, hb⟩
    · have HE := Lib.hid (show Rd.errV t b = Rd.rng t b ∧ Rd.vals t b = [] by unfold Rd.errV Rd.vals; rw [hl, if_neg h1, if_neg h1, if_neg h2]; exact ⟨rfl, rfl⟩)
      have g1 : decide ((12 : Int) < (k : Int)) = false := decide_eq_false (by omega)
      obtain ⟨q, hq⟩ : ∃ q, Rd.rng t b = q := ⟨_, rfl⟩
      have g2 : (q != 0) = true := by rw [← hq]; simpa using h2
      have HQ := Lib.hid hq
      have H := Lib.hid h
      clear hl h2 hq h
      go_enter Try.func18, Try.ntmps18
      go_wp2_with fail
      refine (rangeG A k c t b _ w H.out).mono ?_; rintro e w1 ⟨rfl, rfl⟩
      rw [HQ.out]
      go_wp2_with fail
      refine bodyPost_ret (v := .tuple #[.slice none 0 0, .int .i64 q]) (by simp [results, Try.results18, go_sem]) rfl ?_
      exact ⟨.slice none 0 0, by rw [HE.out.1, HQ.out], by rw [HE.out.2]; exact OwnRows.nil _ _ _ _ _, Below.refl _ _⟩
end Go.Proofs.Ytgclljmchdlbeaa
