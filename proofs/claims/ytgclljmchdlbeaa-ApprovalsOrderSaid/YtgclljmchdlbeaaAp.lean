/- Approvals: the law of what an end takes away. -/
import Derived.Test.YtgclljmchdlbeaaAo
namespace Go.Proofs.Ytgclljmchdlbeaa
open Go.RowKit
theorem actV_eq (o : Option Ap) : actV o = .tuple #[apV (o.getD Ap0), .bool o.isSome] := by cases o <;> rfl
/-- what an end gives, whether an approval is active or not -/
theorem Ap.end_all {L : List Ap} (h : Ap.Ok L) (p : ByteArray) (t : Int) :
    ∃ M E, Ap.fin L p t = (M, E) ∧ (E == 0) = (Ap.act L p t).isSome ∧ Ap.Ok M ∧ ∀ q u, ((Ap.act M q u).isSome = ((Ap.act L q u).isSome && !((Ap.act L p t).isSome && (q.toList == p.toList) && decide (t ≤ u) && decide (u < ((Ap.act L p t).getD Ap0).u)))) ∧
      ((Ap.act L q u).isSome = true → (Ap.act M q u).isSome = true → ((Ap.act L q u).getD Ap0).r = ((Ap.act M q u).getD Ap0).r) := by
  cases ha : Ap.act L p t with
  | none =>
    have hf : Ap.fin L p t = (L, 54) := by
      unfold Ap.fin
      rw [if_neg (by simpa using Ap.chk_ok.2 h), if_pos (by rw [← Ap.act_ok h]; exact ha)]
    exact ⟨L, 54, hf, rfl, h, fun q u => ⟨by simp, fun _ _ => rfl⟩⟩
  | some a =>
    obtain ⟨M, hf, hok, hq⟩ := Ap.end_ok h ha
    refine ⟨M, 0, hf, rfl, hok, fun q u => ⟨?_, fun h1 h2 => ?_⟩⟩
    · rw [(hq q u).1]; simp [Ap.gone]
    · obtain ⟨x, hx⟩ := Option.isSome_iff_exists.1 h1
      obtain ⟨y, hy⟩ := Option.isSome_iff_exists.1 h2
      rw [hx, hy]
      exact (hq q u).2 x y hx hy
/-- three texts in a block -/
theorem three_at {X : World} {b : Nat} {s0 s1 s2 : ByteArray} {T : TypeId} (h : X.heap[b]? = some (.cells #[.string s0, .string s1, .string s2] T (0, 0))) : b < X.heap.size ∧ ∀ j, j < 3 → ∃ s, X.cell? ⟨b, j, none⟩ = some (.string s) := by
  refine ⟨(Array.getElem?_eq_some_iff.1 h).1, fun j hj => ?_⟩
  rcases (show j = 0 ∨ j = 1 ∨ j = 2 by omega) with rfl | rfl | rfl
  · exact ⟨s0, by simp [World.cell?, h]⟩
  · exact ⟨s1, by simp [World.cell?, h]⟩
  · exact ⟨s2, by simp [World.cell?, h]⟩
set_option maxHeartbeats 3200000 in
set_option maxRecDepth 100000 in
theorem walkEnd (W : World) (A : Option Addr) (n c : Nat) (l : List Int) (h : Nums W .u8 W.heap.size A n c l) (a : Int) (ha0 : 0 ≤ a) (ha1 : a ≤ 255) :
    Calls Try.prog 9 #[.slice A n c, .int .u8 a] W fun e w => e = .returned (.bool true) ∧ Below W.heap.size W w := by
  go_enter Try.func9, Try.ntmps9
  go_wp2_with fail
  refine (new_any A n c l W h).mono ?_; rintro e w1 ⟨rfl, hc1, hb1⟩
  have HB1 := Lib.hid hb1
  have HC1 := Lib.hid hc1
  clear hb1 hc1
  go_wp2_with fail
  refine (approvals9 _ _ w1 HC1.out).mono ?_; rintro e w2 ⟨v, L, rfl, ho, hok, h6, hc2, hg2⟩
  obtain ⟨Av, nv, cv, rfl, hnv, hr⟩ := ho.row
  have HOK := Lib.hid hok
  have hb2 : Below W.heap.size W w2 := HB1.out.trans ⟨hg2.os, hg2.tape, hg2.output, hg2.size, fun j hj => hg2.block j (Nat.lt_of_lt_of_le hj HB1.out.size) (fun e => by injection e with e; omega)⟩
  obtain ⟨X, hX⟩ : ∃ X : World, w2.alloc (.cells #[.string ⟨#[112, 48]⟩, .string ⟨#[112, 49]⟩, .string ⟨#[112, 50]⟩] 9) = X := ⟨_, rfl⟩
  have hbx : Below w2.heap.size w2 X := by rw [← hX]; exact below_one _
  have HS := Lib.hid (three_at (show X.heap[w2.heap.size]? = some (.cells #[.string ⟨#[112, 48]⟩, .string ⟨#[112, 49]⟩, .string ⟨#[112, 50]⟩] 9 (0, 0)) by rw [← hX]; exact heap_alloc_new _ _))
  have HR := Lib.hid (hr.keep hbx hbx.size)
  have HB := Lib.hid (hb2.trans (hbx.mono hb2.size))
  clear ho hr hnv hok hc2 hg2 HB1 HC1 h6 hb2 hbx h
  obtain ⟨t, ht⟩ : ∃ t, a % 50 = t := ⟨_, rfl⟩
  have ht0 : 0 ≤ t ∧ t < 50 := by omega
  have HT := Lib.hid ht
  clear ht
  go_wp2_with fail
  simp only [HT.out]
  clear hX HT ha0 ha1
  generalize w2.heap.size = b at *
  go_loopw [29] (fun iv wr => ∃ i : Nat, i ≤ 3 ∧ iv = .int .i64 i ∧ Hid (Below X.heap.size X wr)) (fun iv _ => 3 - (intOf iv).toNat)
  case atStart => exact ⟨0, by omega, rfl, Below.refl _ _⟩
  case round =>
    rename World => Y
    obtain ⟨i, hi, rfl, HY⟩ := hrel
    by_cases hi3 : i < 3
    · have gi : decide ((i : Int) < 3) = true := decide_eq_true (by omega)
      have i1 : (0 : Int) ≤ (i : Int) := by omega
      have i2 : (i : Int) < 3 := by omega
      obtain ⟨p, hp⟩ := HS.out.2 i hi3
      have hp := (HY.out.cell HS.out.1).trans hp
      have HRY := Lib.hid (HR.out.keep HY.out HY.out.size)
      go_wp2_with fail
      refine (active39 Av nv cv L p t Y HRY.out).mono ?_; rintro e w4 ⟨rfl, hb4⟩
      rw [actV_eq]
      obtain ⟨M, E, hf, hE, hM, hq⟩ := Ap.end_all HOK.out p t
      obtain ⟨ok, hok⟩ : ∃ ok, (Ap.act L p t).isSome = ok := ⟨_, rfl⟩
      obtain ⟨⟨ap, ar, af, au⟩, hv⟩ : ∃ x, (Ap.act L p t).getD Ap0 = x := ⟨_, rfl⟩
      simp only [hok, hv] at hE hq ⊢
      have HQ := Lib.hid hq
      have HF := Lib.hid hf
      have HM := Lib.hid hM
      have HCK := Lib.hid (Ap.chk_ok.2 hM)
      clear hq hf hM hok hv
      obtain ⟨X4, hX4, HX4⟩ := ap_boxB w4 ap ar af au
      have HY4 := Lib.hid (HY.out.trans ((hb4.trans (HX4.out.1.mono hb4.size)).mono HY.out.size))
      have HR4 := Lib.hid (HR.out.keep HY4.out HY4.out.size)
      have HE4 := Lib.hid hX4
      clear hX4 hb4 HRY HY hp
      simp only [apV]
      go_wp2_with fail
      rw [HE4.out]
      clear HE4
      refine (end39 Av nv cv L p t X4 HR4.out).mono ?_; rintro e w5 ⟨A5, n5, c5, rfl, hr5, hb5⟩
      rw [HF.out] at hr5 ⊢
      have HY5 := Lib.hid (HY4.out.trans (hb5.mono HY4.out.size))
      have HX5 := Lib.hid (HX4.out.2.keep hb5)
      have HR5 := Lib.hid hr5
      clear hr5 hb5 HR4 HX4 HY4
      generalize w4.heap.size = b4 at *
      go_wp2_with fail
      refine (check39 A5 n5 c5 M w5 HR5.out).mono ?_; rintro e w6 ⟨rfl, hb6⟩
      rw [HCK.out]
      have HY6 := Lib.hid (HY5.out.trans (hb6.mono HY5.out.size))
      have HX6 := Lib.hid (HX5.out.keep hb6)
      have HM6 := Lib.hid (HR5.out.keep hb6 hb6.size)
      have HR6 := Lib.hid (HR.out.keep HY6.out HY6.out.size)
      clear hb6 HR5 HX5 HY5
      go_wp2_with fail
      go_loopw [13] (fun iv wr => ∃ u : Nat, u ≤ 60 ∧ iv = .int .i64 u ∧ Hid (Below w6.heap.size w6 wr)) (fun iv _ => 60 - (intOf iv).toNat)
      case atStart => exact ⟨0, by omega, rfl, Below.refl _ _⟩
      case round =>
        rename World => Z
        obtain ⟨u, hu, rfl, HZ⟩ := hrel
        by_cases hu6 : u < 60
        · have gu : decide ((u : Int) < 60) = true := decide_eq_true (by omega)
          obtain ⟨X7, hX7⟩ : ∃ X : World, Z.alloc (.cells #[.string ⟨#[112, 48]⟩, .string ⟨#[112, 49]⟩, .string ⟨#[112, 50]⟩] 9) = X := ⟨_, rfl⟩
          have hbx : Below Z.heap.size Z X7 := by rw [← hX7]; exact below_one _
          have HS7 := Lib.hid (three_at (show X7.heap[Z.heap.size]? = some (.cells #[.string ⟨#[112, 48]⟩, .string ⟨#[112, 49]⟩, .string ⟨#[112, 50]⟩] 9 (0, 0)) by rw [← hX7]; exact heap_alloc_new _ _))
          have HZ7 := Lib.hid (HZ.out.trans (hbx.mono HZ.out.size))
          clear hbx
          go_wp2_with fail
          clear hX7 HZ
          generalize Z.heap.size = b7 at *
          go_loopw [62] (fun iv wr => ∃ k : Nat, k ≤ 3 ∧ iv = .int .i64 k ∧ Hid (Below X7.heap.size X7 wr)) (fun iv _ => 3 - (intOf iv).toNat)
          case atStart => exact ⟨0, by omega, rfl, Below.refl _ _⟩
          case round =>
            rename World => V
            obtain ⟨k, hk, rfl, HV⟩ := hrel
            by_cases hk3 : k < 3
            · have gk : decide ((k : Int) < 3) = true := decide_eq_true (by omega)
              have k1 : (0 : Int) ≤ (k : Int) := by omega
              have k2 : (k : Int) < 3 := by omega
              obtain ⟨q, hq⟩ := HS7.out.2 k hk3
              have hq := (HV.out.cell HS7.out.1).trans hq
              have HV6 := Lib.hid (HZ7.out.trans (HV.out.mono HZ7.out.size))
              have HRV := Lib.hid (HR6.out.keep HV6.out HV6.out.size)
              go_wp2_with fail
              refine (active39 Av nv cv L q u V HRV.out).mono ?_; rintro e w8 ⟨rfl, hb8⟩
              rw [actV_eq]
              have hqq := HQ.out q u
              obtain ⟨was, hwas⟩ : ∃ ok, (Ap.act L q u).isSome = ok := ⟨_, rfl⟩
              obtain ⟨⟨xp, xr, xf, xu⟩, hxv⟩ : ∃ x, (Ap.act L q u).getD Ap0 = x := ⟨_, rfl⟩
              obtain ⟨is, his⟩ : ∃ ok, (Ap.act M q u).isSome = ok := ⟨_, rfl⟩
              obtain ⟨⟨yp, yr, yf, yu⟩, hyv⟩ : ∃ x, (Ap.act M q u).getD Ap0 = x := ⟨_, rfl⟩
              simp only [hwas, hxv, his, hyv] at hqq ⊢
              have HQQ := Lib.hid hqq
              have HIY := Lib.hid (And.intro his hyv)
              clear hqq hwas hxv his hyv hq
              obtain ⟨X8, hX8, HX8⟩ := ap_boxB w8 xp xr xf xu
              have hV8 : Below V.heap.size V X8 := hb8.trans (HX8.out.1.mono hb8.size)
              have HV8 := Lib.hid (HV6.out.trans (hV8.mono HV6.out.size))
              have HW8 := Lib.hid (HV.out.trans (hV8.mono HV.out.size))
              have HM8 := Lib.hid (HM6.out.keep HV8.out HV8.out.size)
              have HE8 := Lib.hid hX8
              clear hX8 hb8 hV8 HRV HV6
              simp only [apV]
              go_wp2_with fail
              rw [HE8.out]
              clear HE8
              refine (active39 A5 n5 c5 M q u X8 HM8.out).mono ?_; rintro e w9 ⟨rfl, hb9⟩
              rw [actV_eq, HIY.out.1, HIY.out.2]
              obtain ⟨X10, hX10, HX10⟩ := ap_boxB w9 yp yr yf yu
              have h810 : Below X8.heap.size X8 X10 := hb9.trans (HX10.out.1.mono hb9.size)
              have HB8 := Lib.hid ((HX8.out.2.keep hb9).keep HX10.out.1)
              have HX6' := Lib.hid (HX6.out.keep (HV8.out.trans (h810.mono HV8.out.size)))
              have HW10 := Lib.hid (HW8.out.trans (h810.mono HW8.out.size))
              obtain ⟨_, _, x1, _, _, _⟩ := HB8.out
              obtain ⟨_, _, y1, _, _, _⟩ := HX10.out.2
              obtain ⟨_, _, _, _, a3, _⟩ := HX6'.out
              clear hb9 h810 HM8 HX8 HV8 HW8 HIY
              simp only [apV]
              generalize w8.heap.size = b8 at *
              have hlast : ∀ gone : Bool, (ok && (q.toList == p.toList) && decide (t ≤ (u : Int)) && decide ((u : Int) < au)) = gone → is = (was && !gone) ∧ (was = true → is = true → xr = yr) := fun gone hg => by
                have := HQQ.out
                rw [hg] at this
                exact this
              have HLAST := Lib.hid hlast
              clear hlast
              rcases ok with _ | _
              · have hl := HLAST.out false (by simp)
                rw [Bool.not_false, Bool.and_true] at hl
                obtain ⟨rfl, hxy⟩ := hl
                rcases is with _ | _
                · go_wp2_with fail
                  go_roundw
                  case rel => exact ⟨k + 1, by omega, by go_num, HW10.out⟩
                  case measure => simp [intOf]; omega
                · obtain rfl := hxy rfl rfl
                  go_wp2_with fail
                  go_roundw
                  case rel => exact ⟨k + 1, by omega, by go_num, HW10.out⟩
                  case measure => simp [intOf]; omega
              rcases g1 : (q.toList == p.toList) with _ | _
              · have hl := HLAST.out false (by simp [g1])
                rw [Bool.not_false, Bool.and_true] at hl
                obtain ⟨rfl, hxy⟩ := hl
                rcases is with _ | _
                · go_wp2_with fail
                  go_roundw
                  case rel => exact ⟨k + 1, by omega, by go_num, HW10.out⟩
                  case measure => simp [intOf]; omega
                · obtain rfl := hxy rfl rfl
                  go_wp2_with fail
                  go_roundw
                  case rel => exact ⟨k + 1, by omega, by go_num, HW10.out⟩
                  case measure => simp [intOf]; omega
              rcases g2 : decide (t ≤ (u : Int)) with _ | _
              · have hl := HLAST.out false (by simp [g1, g2])
                rw [Bool.not_false, Bool.and_true] at hl
                obtain ⟨rfl, hxy⟩ := hl
                rcases is with _ | _
                · go_wp2_with fail
                  go_roundw
                  case rel => exact ⟨k + 1, by omega, by go_num, HW10.out⟩
                  case measure => simp [intOf]; omega
                · obtain rfl := hxy rfl rfl
                  go_wp2_with fail
                  go_roundw
                  case rel => exact ⟨k + 1, by omega, by go_num, HW10.out⟩
                  case measure => simp [intOf]; omega
              rcases g3 : decide ((u : Int) < au) with _ | _
              · have hl := HLAST.out false (by simp [g1, g2, g3])
                rw [Bool.not_false, Bool.and_true] at hl
                obtain ⟨rfl, hxy⟩ := hl
                rcases is with _ | _
                · go_wp2_with fail
                  go_roundw
                  case rel => exact ⟨k + 1, by omega, by go_num, HW10.out⟩
                  case measure => simp [intOf]; omega
                · obtain rfl := hxy rfl rfl
                  go_wp2_with fail
                  go_roundw
                  case rel => exact ⟨k + 1, by omega, by go_num, HW10.out⟩
                  case measure => simp [intOf]; omega
              · have hl := HLAST.out true (by simp [g1, g2, g3])
                rw [Bool.not_true, Bool.and_false] at hl
                obtain ⟨rfl, _⟩ := hl
                rcases was with _ | _
                all_goals
                  go_wp2_with fail
                  go_roundw
                  case rel => exact ⟨k + 1, by omega, by go_num, HW10.out⟩
                  case measure => simp [intOf]; omega
            · obtain rfl : k = 3 := by omega
              go_wp2_with fail
              go_roundw
              case rel => exact ⟨u + 1, by omega, by go_num, HZ7.out.trans (HV.out.mono HZ7.out.size)⟩
              case measure => simp [intOf]; omega
        · obtain rfl : u = 60 := by omega
          go_wp2_with fail
          go_roundw
          case rel => exact ⟨i + 1, by omega, by go_num, HY6.out.trans (HZ.out.mono HY6.out.size)⟩
          case measure => simp [intOf]; omega
    · obtain rfl : i = 3 := by omega
      go_wp2_with fail
      refine (awake39 Y).mono ?_; rintro e w9 ⟨rfl, hb9⟩
      have HB9 := Lib.hid ((HB.out.trans (HY.out.mono HB.out.size)).trans (hb9.mono (HB.out.trans (HY.out.mono HB.out.size)).size))
      clear hb9
      go_wp2_with fail
      go_ret
      exact ⟨rfl, HB9.out⟩
end Go.Proofs.Ytgclljmchdlbeaa
