/- Approvals: the reference's Active and End. -/
import Derived.Test.YtoomgbddfcmjnaaAl
namespace Go.Proofs.Ytoomgbddfcmjnaa
open Go.RowKit
set_option maxHeartbeats 1600000 in
set_option maxRecDepth 100000 in
theorem ractive39 (A : Option Addr) (n c : Nat) (L : List Ap) (p : ByteArray) (t : Int) (w : World) (h : RRow apRec w w.heap.size A n c L) :
    Calls Try.prog 50 #[.slice A n c, .string p, .int .i64 t] w fun e w' => e = .returned (actV (Ap.act L p t)) ∧ Below w.heap.size w w' := by
  have hm : n ≤ 9223372036854775807 := by have := h.cap; have := h.max; unfold maxLen at this; omega
  obtain ⟨Z, hZ, HZ⟩ := ap_boxB w ⟨#[]⟩ ⟨#[]⟩ 0 0
  have H := Lib.hid (h.keep HZ.out.1 HZ.out.1.size)
  have HL := Lib.hid h.len
  have HA1 := Lib.hid (fun (h : Ap.chk L ≠ 0) => show Ap.act L p t = none by unfold Ap.act; rw [if_pos h])
  have HA2 := Lib.hid (fun (h : Ap.chk L = 0) => show Ap.act L p t = L.find? fun x => x.has p t by unfold Ap.act; rw [if_neg (by simpa using h)])
  clear h
  go_enter Try.func50, Try.ntmps50
  go_wp2_with fail
  refine (rcheck39 A n c L Z H.out).mono ?_; rintro e w1 ⟨rfl, hb⟩
  have HB1 := Lib.hid (HZ.out.1.trans (hb.mono HZ.out.1.size))
  have HX1 := Lib.hid (HZ.out.2.keep hb)
  have H1 := Lib.hid (H.out.keep hb hb.size)
  clear hb H hZ HZ
  obtain ⟨_, e0, e1, e2, e3, _⟩ := HX1.out
  obtain ⟨o, ho⟩ : ∃ o, Ap.chk L = o := ⟨_, rfl⟩
  rw [ho] at HA1 HA2 ⊢
  clear ho
  have t0 := HX1.out.thaw 0
  have t1 := HX1.out.thaw 1
  have t2 := HX1.out.thaw 2
  have t3 := HX1.out.thaw 3
  obtain ⟨X2, hX2, HX2⟩ := HX1.out.set ⟨#[]⟩ ⟨#[]⟩ 0 0
  by_cases h0 : o = 0
  rotate_left
  · have g1 : (o != 0) = true := by simpa using h0
    have HR := Lib.hid (HA1.out h0)
    clear h0 HA1 HA2
    go_wp2_with fail
    obtain ⟨_, f0, f1, f2, f3, _⟩ := HX2.out.1
    exact bodyPost_ret (v := .tuple #[apV Ap0, .bool false]) (by simp [results, Try.results50, go_sem, apV, Ap0, *]) rfl ⟨by rw [HR.out]; rfl, HX2.out.2 _ _ HB1.out (Nat.le_refl _)⟩
  have g1 : (o != 0) = false := by simpa using h0
  have HR := Lib.hid (HA2.out h0)
  clear h0 HA1 HA2
  go_wp2_with fail
  clear hX2 HX2 t0 t1 t2 t3 e0 e1 e2 e3
  go_loopw [16] (fun iv wr => ∃ j : Nat, j ≤ n ∧ iv = .int .i64 j ∧ Hid (Below w1.heap.size w1 wr ∧ ∀ x ∈ L.take j, (fun x : Ap => x.has p t) x = false)) (fun iv _ => n - (intOf iv).toNat)
  case atStart => exact ⟨0, by omega, rfl, Below.refl _ _, by simp⟩
  case round =>
    rename World => Y
    obtain ⟨j, hj, rfl, HI⟩ := hrel
    have HBY := Lib.hid (HB1.out.trans (HI.out.1.mono HB1.out.size))
    by_cases hlt : j < n
    · obtain ⟨ad, yp, yr, yf, yu, rfl, HX, c0, c1, c2, c3⟩ := (H1.out.keep HI.out.1 HI.out.1.size).ap hlt
      have HT := Lib.hid (take_all (p := fun x : Ap => x.has p t) HX.out.2.1 HI.out.2 HX.out.1)
      have HF := Lib.hid (fnd_at (p := fun x : Ap => x.has p t) HX.out.2.1 HI.out.2 HX.out.1)
      obtain ⟨V, hV, HV⟩ := ap_boxB Y yp yr yf yu
      obtain ⟨_, e0, e1, e2, e3, _⟩ := HV.out.2
      have HVB := Lib.hid (HI.out.1.trans (HV.out.1.mono HI.out.1.size))
      have HXV := Lib.hid ((HX1.out.keep HI.out.1).keep HV.out.1)
      have HHS := Lib.hid (show Ap.has ⟨yp, yr, yf, yu⟩ p t = ((yp.toList == p.toList) && (decide (yf ≤ t) && decide (t < yu))) by unfold Ap.has; rw [Bool.and_assoc])
      rcases g1 : (yp.toList == p.toList) with _ | _
      · have HN := Lib.hid (HT.out (show Ap.has ⟨yp, yr, yf, yu⟩ p t = false by rw [HHS.out, g1]; rfl))
        go_wp2_with fail
        go_roundw
        case rel => exact ⟨j + 1, by omega, by go_num, HVB.out, HN.out⟩
        case measure => simp [intOf]; omega
      rcases g2 : decide (yf ≤ t) with _ | _
      · have HN := Lib.hid (HT.out (show Ap.has ⟨yp, yr, yf, yu⟩ p t = false by rw [HHS.out, g1, g2]; rfl))
        go_wp2_with fail
        go_roundw
        case rel => exact ⟨j + 1, by omega, by go_num, HVB.out, HN.out⟩
        case measure => simp [intOf]; omega
      rcases g3 : decide (t < yu) with _ | _
      · have HN := Lib.hid (HT.out (show Ap.has ⟨yp, yr, yf, yu⟩ p t = false by rw [HHS.out, g1, g2, g3]; rfl))
        go_wp2_with fail
        go_roundw
        case rel => exact ⟨j + 1, by omega, by go_num, HVB.out, HN.out⟩
        case measure => simp [intOf]; omega
      · have HRES := Lib.hid (show Ap.act L p t = some ⟨yp, yr, yf, yu⟩ by
          rw [HR.out]
          exact HF.out (show Ap.has ⟨yp, yr, yf, yu⟩ p t = true by rw [HHS.out, g1, g2, g3]; rfl))
        obtain ⟨_, f0, f1, f2, f3, _⟩ := HXV.out
        have t0 := HXV.out.thaw 0
        have t1 := HXV.out.thaw 1
        have t2 := HXV.out.thaw 2
        have t3 := HXV.out.thaw 3
        obtain ⟨X3, hX3, HX3⟩ := HXV.out.set yp yr yf yu
        have HB3 := Lib.hid (HX3.out.2 _ _ (HBY.out.trans (HV.out.1.mono HBY.out.size)) (Nat.le_refl _))
        go_wp2_with fail
        first | rw [hX3] | skip
        obtain ⟨_, d0, d1, d2, d3, _⟩ := HX3.out.1
        exact bodyPost_ret (v := .tuple #[apV ⟨yp, yr, yf, yu⟩, .bool true]) (by simp [results, Try.results50, go_sem, apV, *]) rfl ⟨by rw [HRES.out]; rfl, HB3.out⟩
    · obtain rfl : n = j := by omega
      have HRES := Lib.hid (show Ap.act L p t = none by
        rw [HR.out]
        exact fnd_none (p := fun x : Ap => x.has p t) fun y hy => HI.out.2 y (by rw [List.take_of_length_le (by rw [HL.out]; exact Nat.le_refl _)]; exact hy))
      have HXY := Lib.hid (HX1.out.keep HI.out.1)
      obtain ⟨_, e0, e1, e2, e3, _⟩ := HXY.out
      have t0 := HXY.out.thaw 0
      have t1 := HXY.out.thaw 1
      have t2 := HXY.out.thaw 2
      have t3 := HXY.out.thaw 3
      obtain ⟨X3, hX3, HX3⟩ := HXY.out.set ⟨#[]⟩ ⟨#[]⟩ 0 0
      go_wp2_with fail
      first | rw [hX3] | skip
      obtain ⟨_, d0, d1, d2, d3, _⟩ := HX3.out.1
      exact bodyPost_ret (v := .tuple #[apV Ap0, .bool false]) (by simp [results, Try.results50, go_sem, apV, Ap0, *]) rfl ⟨by rw [HRES.out]; rfl, HX3.out.2 _ _ HBY.out (Nat.le_refl _)⟩
end Go.Proofs.Ytoomgbddfcmjnaa
