/- Rota: the law of Next. -/
import Derived.Test.YtoomgbddfcmjnaaTm
import Derived.Test.YtoomgbddfcmjnaaTg
namespace Go.Proofs.Ytoomgbddfcmjnaa
open Go.RowKit
theorem tx_filt {L : List Tx} {q : Tx → Bool} {j : Nat} {x : Tx} (h : L.getD j [] = x ∧ j < L.length) : (L.take (j + 1)).filter q = (L.take j).filter q ++ (if q x = true then [x] else []) := by
  have h9 := h.1
  rw [getD_getElem h.2] at h9
  rw [List.take_succ_eq_append_getElem h.2, h9, List.filter_append]
  congr 1
  by_cases hp : q x = true
  · rw [if_pos hp, List.filter_cons, if_pos hp]; rfl
  · rw [if_neg hp, List.filter_cons, if_neg hp]; rfl
set_option maxHeartbeats 3200000 in
set_option maxRecDepth 100000 in
theorem walkNext (W : World) (A : Option Addr) (n c : Nat) (l : List Int) (h : Nums W .u8 W.heap.size A n c l) (a : Int) (ha0 : 0 ≤ a) (ha1 : a ≤ 255) :
    Calls Try.prog 5 #[.slice A n c, .int .u8 a] W fun e w => e = .returned (.bool true) ∧ Below W.heap.size W w := by
  go_enter Try.func5, Try.ntmps5
  go_wp2_with fail
  refine (new_any A n c l W h).mono ?_; rintro e w1 ⟨rfl, hc1, hb1⟩
  have HB1 := Lib.hid hb1
  have HC1 := Lib.hid hc1
  clear hb1 hc1
  go_wp2_with fail
  refine (rota9 _ _ w1 HC1.out).mono ?_; rintro e w2 ⟨v, L, rfl, ho, hok, h6, hc2, hg2⟩
  obtain ⟨Av, nv, cv, rfl, hnv, _⟩ := ho.row
  have HOK := Lib.hid hok
  have HNV := Lib.hid (show nv ≤ 6 by omega)
  have HC2 := Lib.hid hc2
  have HO2 := Lib.hid ho
  have HB2 := Lib.hid (below_growD HB1.out hg2 (Nat.le_refl _))
  clear ho hnv hok hc2 hg2 HB1 HC1 h6 h
  go_wp2_with fail
  refine (name9 _ _ w2 HC2.out).mono ?_; rintro e w3 ⟨who, rfl, hc3, hg3⟩
  have HO3 := Lib.hid (HO2.out.cod HC2.out hg3 (by decide))
  have HB3 := Lib.hid (below_growD HB2.out hg3 (Nat.le_refl _))
  obtain ⟨A9, n9, c9, e9, hn9, hr⟩ := HO3.out.row
  injection e9 with e91 e92 e93
  subst e91 e92 e93
  have HL := Lib.hid hn9
  clear hn9
  have HR := Lib.hid hr
  clear hc3 hg3 HC2 HO2 HO3 HB2 hr
  obtain ⟨t, ht⟩ : ∃ t, a % 40 = t := ⟨_, rfl⟩
  have ht0 : 0 ≤ t ∧ t < 40 := by omega
  have HT := Lib.hid ht
  clear ht
  go_wp2_with fail
  simp only [HT.out]
  refine (next36 Av nv cv L who t (by omega) (by omega) w3 HR.out).mono ?_; rintro e w4 ⟨rfl, hb⟩
  obtain ⟨⟨u, ok, o⟩, hnx⟩ : ∃ x, Sf.nxt L who t = x := ⟨_, rfl⟩
  rw [hnx]
  have HN := Lib.hid hnx
  have HR4 := Lib.hid (HR.out.keep hb hb.size)
  have HB4 := Lib.hid (HB3.out.trans (hb.mono HB3.out.size))
  have HCHK := Lib.hid (Sf.chk_ok.2 HOK.out)
  clear hnx hb HR HB3
  obtain ⟨rfl, HU⟩ : o = 0 ∧ Hid ((ok = true → t ≤ u) ∧ (∀ x, t ≤ x → x < 60 → 2 ≤ (Sf.others L who x).length → ok = true ∧ u ≤ x) ∧ (ok = true → 2 ≤ (Sf.others L who u).length)) := by
    cases ok with
    | true =>
      obtain ⟨h1, h2, h3, h4, h5⟩ := Sf.nxt_some HOK.out (by omega) HN.out
      refine ⟨h1, Lib.hid ⟨fun _ => h2, fun x hx _ h2x => ⟨rfl, ?_⟩, fun _ => h4⟩⟩
      rcases Int.lt_or_le x u with h | h
      · have := h5 x hx h; omega
      · exact h
    | false =>
      obtain ⟨h1, h2, h3⟩ := Sf.nxt_none HOK.out (by omega) HN.out
      exact ⟨h1, Lib.hid ⟨fun h => by simp at h, fun x hx hx6 h2x => by have := h3 x hx (by omega); omega, fun h => by simp at h⟩⟩
  clear HN
  rcases ok with _ | _
  · go_wp2_with fail
    simp only [HT.out]
    clear HT ha0 ha1
    go_loopw [11] (fun iv wr => ∃ x : Int, t ≤ x ∧ x ≤ 60 ∧ iv = .int .i64 x ∧ Hid (Below w4.heap.size w4 wr)) (fun iv _ => (60 - intOf iv).toNat)
    case atStart => exact ⟨t, Int.le_refl _, by omega, rfl, Below.refl _ _⟩
    case round =>
      rename World => Y
      obtain ⟨x, hx0, hx1, rfl, HI⟩ := hrel
      have HBY := Lib.hid (HB4.out.trans (HI.out.mono HB4.out.size))
      by_cases hx6 : x < 60
      · have gx : decide (x < 60) = true := decide_eq_true hx6
        have HMX := Lib.hid (HU.out.2.1 x hx0 hx6)
        go_wp2_with fail
        refine (On36 Av nv cv L x Y (HR4.out.keep HI.out HI.out.size) (by have := HNV.out; omega)).mono ?_; rintro e w5 ⟨v5, rfl, ho5, hb5⟩
        have HOE := Lib.hid (show Sf.On L x = Sf.onl L x by unfold Sf.On; rw [if_neg (by simpa using HCHK.out)])
        rw [HOE.out] at ho5
        obtain ⟨A5, n5, c5, rfl, hn5, hr5⟩ := ho5.row
        have HL5 := Lib.hid hn5
        have HR5 := Lib.hid hr5
        have hn56 : n5 ≤ 6 := by have := Sf.onl_len L x; have := HL.out; have := HNV.out; omega
        have HI5 := Lib.hid (HI.out.trans (hb5.mono HI.out.size))
        clear hn5 hr5 ho5 hb5
        go_wp2_with fail
        go_loopw [12, 54] (fun mv iv wr => ∃ (j m : Nat), j ≤ n5 ∧ iv = .int .i64 j ∧ mv = .int .i64 m ∧ Hid (wr = w5 ∧ m = (((Sf.onl L x).take j).filter fun y => !decide (y = txOf who)).length)) (fun _ iv _ => n5 - (intOf iv).toNat)
        case atStart => exact ⟨0, 0, by omega, rfl, rfl, rfl, by simp⟩
        case round =>
          rename World => V
          obtain ⟨j, m, hj, rfl, rfl, HJ⟩ := hrel
          have hm : m ≤ j := by
            have h1 := List.length_filter_le (fun y : Tx => !decide (y = txOf who)) ((Sf.onl L x).take j)
            have h2 := List.length_take_le j (Sf.onl L x)
            have := HJ.out.2
            omega
          by_cases hlt : j < n5
          · obtain ⟨ad, y, rfl, HX, c0⟩ := (show RRow txRec V w5.heap.size A5 n5 c5 (Sf.onl L x) by rw [HJ.out.1]; exact HR5.out).tx hlt
            have HT2 := Lib.hid (tx_filt (q := fun y => !decide (y = txOf who)) ⟨HX.out.1, HX.out.2.1⟩)
            have j1 : (0 : Int) ≤ (j : Int) := by omega
            have j2 : (j : Int) < (n5 : Int) := by omega
            by_cases he : txOf y = txOf who
            · have g9 : (y.toList == who.toList) = true := by rw [tx_beq]; simpa using he
              have HM := Lib.hid (show m = (((Sf.onl L x).take (j + 1)).filter fun y => !decide (y = txOf who)).length by rw [HT2.out, he]; simpa using HJ.out.2)
              clear he
              go_wp2_with fail
              go_roundw
              case rel => exact ⟨j + 1, m, by omega, by go_num, rfl, HJ.out.1, HM.out⟩
              case measure => simp [intOf]; omega
            · have g9 : (y.toList == who.toList) = false := by rw [tx_beq]; simpa using he
              have HM := Lib.hid (show m + 1 = (((Sf.onl L x).take (j + 1)).filter fun y => !decide (y = txOf who)).length by rw [HT2.out, decide_eq_false he]; simp; exact HJ.out.2)
              clear he
              go_wp2_with fail
              go_roundw
              case rel => exact ⟨j + 1, m + 1, by omega, by go_num, by go_num, HJ.out.1, HM.out⟩
              case measure => simp [intOf]; omega
          · obtain rfl : n5 = j := by omega
            have HM := Lib.hid (show m = (Sf.others L who x).length by
              have := HJ.out.2
              rw [List.take_of_length_le (by rw [HL5.out]; exact Nat.le_refl _)] at this
              exact this)
            have HBV := Lib.hid (show Below w4.heap.size w4 V by rw [HJ.out.1]; exact HI5.out)
            clear HJ
            by_cases h2 : 2 ≤ m
            · have g2 : decide ((2 : Int) ≤ (m : Int)) = true := decide_eq_true (by omega)
              have g2' : decide ((m : Int) < 2) = false := decide_eq_false (by omega)
              have hux := HMX.out (by rw [← HM.out]; exact h2)
              exact absurd hux.1 (by decide)
            · have g2 : decide ((2 : Int) ≤ (m : Int)) = false := decide_eq_false (by omega)
              have g2' : decide ((m : Int) < 2) = true := decide_eq_true (by omega)
              go_wp2_with fail
              go_roundw
              case rel => exact ⟨x + 1, by omega, by omega, by go_num, HBV.out⟩
              case measure => simp [intOf]; omega
      · obtain rfl : x = 60 := by omega
        go_wp2_with fail
        refine (awake36 Y).mono ?_; rintro e w9 ⟨rfl, hb9⟩
        have HB9 := Lib.hid (HBY.out.trans (hb9.mono HBY.out.size))
        clear hb9
        go_wp2_with fail
        go_ret
        exact ⟨rfl, HB9.out⟩
  · have g1 : decide (u < a % 40) = false := decide_eq_false (by have := HU.out.1 rfl; have := HT.out; omega)
    go_wp2_with fail
    simp only [HT.out]
    clear HT ha0 ha1
    go_loopw [11] (fun iv wr => ∃ x : Int, t ≤ x ∧ x ≤ 60 ∧ iv = .int .i64 x ∧ Hid (Below w4.heap.size w4 wr)) (fun iv _ => (60 - intOf iv).toNat)
    case atStart => exact ⟨t, Int.le_refl _, by omega, rfl, Below.refl _ _⟩
    case round =>
      rename World => Y
      obtain ⟨x, hx0, hx1, rfl, HI⟩ := hrel
      have HBY := Lib.hid (HB4.out.trans (HI.out.mono HB4.out.size))
      by_cases hx6 : x < 60
      · have gx : decide (x < 60) = true := decide_eq_true hx6
        have HMX := Lib.hid (HU.out.2.1 x hx0 hx6)
        go_wp2_with fail
        refine (On36 Av nv cv L x Y (HR4.out.keep HI.out HI.out.size) (by have := HNV.out; omega)).mono ?_; rintro e w5 ⟨v5, rfl, ho5, hb5⟩
        have HOE := Lib.hid (show Sf.On L x = Sf.onl L x by unfold Sf.On; rw [if_neg (by simpa using HCHK.out)])
        rw [HOE.out] at ho5
        obtain ⟨A5, n5, c5, rfl, hn5, hr5⟩ := ho5.row
        have HL5 := Lib.hid hn5
        have HR5 := Lib.hid hr5
        have hn56 : n5 ≤ 6 := by have := Sf.onl_len L x; have := HL.out; have := HNV.out; omega
        have HI5 := Lib.hid (HI.out.trans (hb5.mono HI.out.size))
        clear hn5 hr5 ho5 hb5
        go_wp2_with fail
        go_loopw [12, 54] (fun mv iv wr => ∃ (j m : Nat), j ≤ n5 ∧ iv = .int .i64 j ∧ mv = .int .i64 m ∧ Hid (wr = w5 ∧ m = (((Sf.onl L x).take j).filter fun y => !decide (y = txOf who)).length)) (fun _ iv _ => n5 - (intOf iv).toNat)
        case atStart => exact ⟨0, 0, by omega, rfl, rfl, rfl, by simp⟩
        case round =>
          rename World => V
          obtain ⟨j, m, hj, rfl, rfl, HJ⟩ := hrel
          have hm : m ≤ j := by
            have h1 := List.length_filter_le (fun y : Tx => !decide (y = txOf who)) ((Sf.onl L x).take j)
            have h2 := List.length_take_le j (Sf.onl L x)
            have := HJ.out.2
            omega
          by_cases hlt : j < n5
          · obtain ⟨ad, y, rfl, HX, c0⟩ := (show RRow txRec V w5.heap.size A5 n5 c5 (Sf.onl L x) by rw [HJ.out.1]; exact HR5.out).tx hlt
            have HT2 := Lib.hid (tx_filt (q := fun y => !decide (y = txOf who)) ⟨HX.out.1, HX.out.2.1⟩)
            have j1 : (0 : Int) ≤ (j : Int) := by omega
            have j2 : (j : Int) < (n5 : Int) := by omega
            by_cases he : txOf y = txOf who
            · have g9 : (y.toList == who.toList) = true := by rw [tx_beq]; simpa using he
              have HM := Lib.hid (show m = (((Sf.onl L x).take (j + 1)).filter fun y => !decide (y = txOf who)).length by rw [HT2.out, he]; simpa using HJ.out.2)
              clear he
              go_wp2_with fail
              go_roundw
              case rel => exact ⟨j + 1, m, by omega, by go_num, rfl, HJ.out.1, HM.out⟩
              case measure => simp [intOf]; omega
            · have g9 : (y.toList == who.toList) = false := by rw [tx_beq]; simpa using he
              have HM := Lib.hid (show m + 1 = (((Sf.onl L x).take (j + 1)).filter fun y => !decide (y = txOf who)).length by rw [HT2.out, decide_eq_false he]; simp; exact HJ.out.2)
              clear he
              go_wp2_with fail
              go_roundw
              case rel => exact ⟨j + 1, m + 1, by omega, by go_num, by go_num, HJ.out.1, HM.out⟩
              case measure => simp [intOf]; omega
          · obtain rfl : n5 = j := by omega
            have HM := Lib.hid (show m = (Sf.others L who x).length by
              have := HJ.out.2
              rw [List.take_of_length_le (by rw [HL5.out]; exact Nat.le_refl _)] at this
              exact this)
            have HBV := Lib.hid (show Below w4.heap.size w4 V by rw [HJ.out.1]; exact HI5.out)
            clear HJ
            by_cases h2 : 2 ≤ m
            · have g2 : decide ((2 : Int) ≤ (m : Int)) = true := decide_eq_true (by omega)
              have g2' : decide ((m : Int) < 2) = false := decide_eq_false (by omega)
              have hux := HMX.out (by rw [← HM.out]; exact h2)
              have g3 : decide (x < u) = false := decide_eq_false (by have := hux.2; omega)
              clear hux
              by_cases hxu : x = u
              · have g4 : (x == u) = true := by simpa using hxu
                clear hxu
                go_wp2_with fail
                go_roundw
                case rel => exact ⟨x + 1, by omega, by omega, by go_num, HBV.out⟩
                case measure => simp [intOf]; omega
              · have g4 : (x == u) = false := by simpa using hxu
                clear hxu
                go_wp2_with fail
                go_roundw
                case rel => exact ⟨x + 1, by omega, by omega, by go_num, HBV.out⟩
                case measure => simp [intOf]; omega
            · have g2 : decide ((2 : Int) ≤ (m : Int)) = false := decide_eq_false (by omega)
              have g2' : decide ((m : Int) < 2) = true := decide_eq_true (by omega)
              have g4 : (x == u) = false := by
                rw [beq_eq_false_iff_ne]
                intro hxu
                have := HU.out.2.2 (by trivial)
                rw [← hxu, ← HM.out] at this
                exact h2 this
              go_wp2_with fail
              go_roundw
              case rel => exact ⟨x + 1, by omega, by omega, by go_num, HBV.out⟩
              case measure => simp [intOf]; omega
      · obtain rfl : x = 60 := by omega
        go_wp2_with fail
        refine (awake36 Y).mono ?_; rintro e w9 ⟨rfl, hb9⟩
        have HB9 := Lib.hid (HBY.out.trans (hb9.mono HBY.out.size))
        clear hb9
        go_wp2_with fail
        go_ret
        exact ⟨rfl, HB9.out⟩
end Go.Proofs.Ytoomgbddfcmjnaa
