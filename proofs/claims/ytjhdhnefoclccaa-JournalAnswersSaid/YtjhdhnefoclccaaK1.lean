/- Journals: the reference's numbers, check value, frame. -/
import Derived.Test.YtjhdhnefoclccaaJa
import Derived.Test.YtjhdhnefoclccaaJw
import Derived.Test.YtjhdhnefoclccaaJg
namespace Go.Proofs.Ytjhdhnefoclccaa
open Go.RowKit
theorem rfour23 (n : Int) (h0 : 0 ≤ n) (h1 : n < 4294967296) (w : World) :
    Calls Try.prog 30 #[.int .i64 n] w (GivesBytes (Jn.four n) w) := by
  go_enter Try.func30, Try.ntmps30
  go_wp2
  go_ret
  refine ⟨_, rfl, ⟨rfl, .inr ⟨w.heap.size, 4, _, rfl, Nat.le_refl _, heap_alloc_new w _, Nat.le_refl _, by simp [maxLen], rfl, ?_⟩⟩, (Below.refl _ _).alloc (Nat.le_refl _) _⟩
  have : n / 16777216 = n / 16777216 % 256 := by omega
  simp [Jn.four]
  exact this
theorem rnumber23 (A : Option Addr) (n c : Nat) (l : List Int) (w : World) (h : Nums w .u8 w.heap.size A n c l) (hn : 4 ≤ n) :
    Calls Try.prog 37 #[.slice A n c] w fun e w' => e = .returned (.int .i64 (Jn.val l)) ∧ ∃ m, w' = w.drewN m := by
  have hm : n ≤ 9223372036854775807 := by have := h.cap; have := h.max; unfold maxLen at this; omega
  obtain ⟨ad, x0, rfl, _, HX0, c0, b0⟩ := h.val (j := 0) (by omega)
  obtain ⟨ad', x1, e1, _, HX1, c1, b1⟩ := h.val (j := 1) (by omega)
  obtain rfl : ad = ad' := by injection e1
  obtain ⟨ad', x2, e2, _, HX2, c2, b2⟩ := h.val (j := 2) (by omega)
  obtain rfl : ad = ad' := by injection e2
  obtain ⟨ad', x3, e3, _, HX3, c3, b3⟩ := h.val (j := 3) (by omega)
  obtain rfl : ad = ad' := by injection e3
  rw [show ad.add 0 = ad from by simp [Addr.add]] at c0
  rw [show ad.add 1 = ⟨ad.block, ad.off + 1, none⟩ from by simp [Addr.add]] at c1
  rw [show ad.add 2 = ⟨ad.block, ad.off + 2, none⟩ from by simp [Addr.add]] at c2
  rw [show ad.add 3 = ⟨ad.block, ad.off + 3, none⟩ from by simp [Addr.add]] at c3
  have b0 := bounds_u8 b0
  have b1 := bounds_u8 b1
  have b2 := bounds_u8 b2
  have b3 := bounds_u8 b3
  have hv : Hid (Jn.val l = ((x0 * 256 + x1) * 256 + x2) * 256 + x3) := by unfold Jn.val; rw [HX0.out.1, HX1.out.1, HX2.out.1, HX3.out.1]; exact Lib.hid rfl
  obtain ⟨x0, rfl⟩ := Int.eq_ofNat_of_zero_le b0.1
  obtain ⟨x1, rfl⟩ := Int.eq_ofNat_of_zero_le b1.1
  obtain ⟨x2, rfl⟩ := Int.eq_ofNat_of_zero_le b2.1
  obtain ⟨x3, rfl⟩ := Int.eq_ofNat_of_zero_le b3.1
  have hn0 : (0 : Int) < n := by omega
  have hn1 : (1 : Int) < n := by omega
  have hn2 : (2 : Int) < n := by omega
  have hn3 : (3 : Int) < n := by omega
  clear h e1 e2 e3 HX0 HX1 HX2 HX3
  go_enter Try.func37, Try.ntmps37
  go_wp2_with fail
  go_quiet (fail)
  go_wp2
  go_ret
  exact ⟨ret_int (by rw [hv.out]; omega), _, rfl⟩
theorem rvalue23 (A : Option Addr) (n c : Nat) (l : List Int) (w : World) (h : Nums w .u8 w.heap.size A n c l) (hn : n ≤ 1000000) :
    Calls Try.prog 31 #[.slice A n c] w fun e w' => e = .returned (.int .i64 (Jn.chk l)) ∧ w = w' := by
  have H := Lib.hid h
  clear h
  go_enter Try.func31, Try.ntmps31
  go_wp2_with fail
  go_loop [3, 4] (fun s i => ∃ j : Nat, j ≤ n ∧ i = .int .i64 j ∧ s = .int .i64 (Jn.chkN l j)) (fun _ i => n - (intOf i).toNat)
  case atStart => exact ⟨0, by omega, rfl, rfl⟩
  case round =>
    obtain ⟨j, hj, rfl, rfl⟩ := hrel
    by_cases hlt : j < n
    · obtain ⟨ad, x, rfl, _, HX, hx, hwx⟩ := H.out.val hlt
      have hx0 := bounds_u8 hwx
      have hsum := Jn.chkN_bd l j
      have hstep : Jn.chkN l (j + 1) = (Jn.chkN l j + ((j : Int) + 1) * x) % 65521 := by
        show (Jn.chkN l j + ((j : Int) + 1) * l.getD j 0) % 65521 = _
        rw [HX.out.1]
      have HS := Lib.hid hstep
      generalize Jn.chkN l j = s at *
      have hp0 : 0 ≤ ((j : Int) + 1) * x := Int.mul_nonneg (by omega) hx0.1
      have hp1 : ((j : Int) + 1) * x ≤ 1000001 * 255 := Int.mul_le_mul (by omega) hx0.2 hx0.1 (by omega)
      clear hstep hwx
      go_wp2_with fail
      go_round
      case rel => exact ⟨j + 1, by omega, by go_num, by rw [HS.out]⟩
      case measure => simp [intOf]; omega
    · obtain rfl : j = n := by omega
      go_wp2
      go_ret
      exact ⟨ret_int (by rw [← H.out.len]; rfl), rfl⟩

set_option maxRecDepth 100000 in
set_option maxHeartbeats 800000 in
theorem rframe23 (A : Option Addr) (n c : Nat) (l : List Int) (w : World) (h : Nums w .u8 w.heap.size A n c l) (hs : n ≤ 4096) :
    Calls Try.prog 12 #[.slice A n c] w (GivesFrame (Jn.frame l) w) := by
  have H := Lib.hid h
  have HS := Lib.hid hs
  have hs' : decide (4096 < (n : Int)) = false := by simp; omega
  clear h hs
  go_enter Try.func12, Try.ntmps12
  go_wp2_with fail
  refine (rfour23 _ (by omega) (by have := HS.out; omega) _).mono ?_; rintro e w1 ⟨v1, rfl, hown1, hb1⟩
  have HB1 := Lib.hid hb1
  have HO1 := Lib.hid hown1
  have HN1 := Lib.hid (H.out.keep hb1 hb1.size)
  have HWF := Lib.hid (show ∀ x ∈ Jn.four n ++ l, (Lit.int .u8 x).wf = true from fun x hx => (List.mem_append.1 hx).elim (Jn.four_wf _ x) (H.out.wf x))
  have HL3 := Lib.hid (show (Jn.four n ++ l).length = n + 4 by simp [Jn.four, H.out.len])
  have hfr : Jn.frame l = (Jn.four n ++ l) ++ Jn.four (Jn.chk (Jn.four n ++ l)) := by unfold Jn.frame; rw [H.out.len]
  have HFR := Lib.hid hfr
  have HF4 := Lib.hid (show (Jn.four n).length = 4 from rfl)
  clear hown1 hb1 hfr
  go_wp2_with (at_builtin; refine app_ints _ rfl (.tmp 10) (.tmp 11) _ rfl w.heap.size 5 1 .u8 byte_info Try.underlying22 _ _ rfl HO1.out _ _ _ _ l rfl HN1.out (by have := HF4.out; have := HS.out; simp only [maxLen]; omega) (by have := HF4.out; have := HS.out; omega) HB1.out.size ?_; intro v3 w3 hown3 hgrow3; (have hb3 : Below w.heap.size w w3 := HO1.out.grow HB1.out hgrow3 HB1.out.size (Nat.le_refl _)); (have HO3 := Lib.hid hown3); obtain ⟨A3, N3, c3, rfl, hN3, hn3⟩ := hown3.numsN HWF.out)
  have HB3 := Lib.hid hb3
  have HN3 := Lib.hid hn3
  have HLN := Lib.hid (show N3 = n + 4 by rw [hN3.out]; exact HL3.out)
  generalize Jn.four n ++ l = f at *
  clear hn3 hb3 hown3 hgrow3 HO1 HB1 HN1
  go_wp2_with fail
  refine (rvalue23 _ _ _ _ _ HN3.out (by have := HLN.out; have := HS.out; omega)).mono ?_; rintro e w' ⟨rfl, rfl⟩
  have hc := Jn.chk_bd f
  go_wp2_with fail
  refine (rfour23 _ hc.1 (by omega) _).mono ?_; rintro e w4 ⟨v4, rfl, hown4, hb4⟩
  obtain ⟨A4, c4, rfl, hn4⟩ := hown4.nums (Jn.four_wf _)
  have HN4 := Lib.hid hn4
  have HB4 := Lib.hid (HB3.out.trans (hb4.mono HB3.out.size))
  have HO4 := Lib.hid (HO3.out.below hb4)
  have HL4 := Lib.hid (show (Jn.four (Jn.chk f)).length = 4 from rfl)
  generalize Jn.four (Jn.chk f) = f4 at *
  clear hown4 hn4 hb4 hc
  go_wp2_with (at_builtin; refine app_ints _ rfl (.tmp 13) (.tmp 16) _ rfl w.heap.size 5 1 .u8 byte_info Try.underlying22 (.slice A3 N3 c3) f rfl HO4.out _ A4 f4.length c4 f4 rfl HN4.out (by have := HL3.out; have := HL4.out; have := HS.out; simp only [maxLen]; omega) (by have := HL3.out; have := HL4.out; have := HS.out; omega) HB4.out.size ?_; intro v' w' hown' hgrow)
  go_ret2
  exact ⟨_, rfl, by rw [HFR.out]; exact hown', HO4.out.grow HB4.out hgrow HB4.out.size (Nat.le_refl _)⟩
theorem rframe23_limit (A : Option Addr) (n c : Nat) (w : World) (hn : 4096 < n) :
    Calls Try.prog 12 #[.slice A n c] w fun e w' => e = .returned (.tuple #[.slice none 0 0, .int .i64 1]) ∧ w = w' := by
  go_enter Try.func12, Try.ntmps12
  go_wp2_with fail
  go_ret2
  exact ⟨rfl, rfl⟩
end Go.Proofs.Ytjhdhnefoclccaa
