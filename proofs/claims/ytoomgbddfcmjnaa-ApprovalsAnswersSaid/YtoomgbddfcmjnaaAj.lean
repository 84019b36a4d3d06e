/- Approvals: the reference's Add. -/
import Derived.Test.YtoomgbddfcmjnaaAn
import Derived.Test.YtoomgbddfcmjnaaIn
namespace Go.Proofs.Ytoomgbddfcmjnaa
open Go.RowKit
/-- a slice of approvals of the call's own, and an error -/
def GivesApO (R : List Ap × Int) (w : World) (e : Ending) (w' : World) : Prop := ∃ v, e = .returned (.tuple #[v, .int .i64 R.2]) ∧ ROwn apRec w' w.heap.size v R.1 ∧ Below w.heap.size w w'
set_option maxHeartbeats 1600000 in
set_option pp.maxSteps 1000000 in
set_option pp.deepTerms true in
theorem radd39 (A : Option Addr) (n c : Nat) (L : List Ap) (p r : ByteArray) (f u : Int) (w : World) (h : RRow apRec w w.heap.size A n c L) (hn : n ≤ 900) :
    Calls Try.prog 55 #[.slice A n c, .agg #[.string p, .string r, .int .i64 f, .int .i64 u]] w (GivesApO (Ap.add L ⟨p, r, f, u⟩) w) := by
  have hm : n ≤ 9223372036854775807 := by have := h.cap; have := h.max; unfold maxLen at this; omega
  have hcc := h.cap
  have hcm : c ≤ 9223372036854775807 := h.max
  obtain ⟨X, hX, HX⟩ := ap_boxB w p r f u
  have H := Lib.hid (h.keep HX.out.1 HX.out.1.size)
  have HL := Lib.hid h.len
  clear h
  obtain ⟨_, e0, e1, e2, e3, _⟩ := HX.out.2
  have HE := Lib.hid (And.intro (emptyAp X) (H.out.keep (below_one (.cells #[] 74)) (below_one (.cells #[] 74)).size))
  go_enter Try.func55, Try.ntmps55
  go_wp2_with (at_builtin; refine app_recs _ apRec rfl (.tmp 9) (.tmp 10) _ rfl X.heap.size (.agg #[.string ⟨#[]⟩, .string ⟨#[]⟩, .int .i64 0, .int .i64 0]) 48 ap_info rfl (by omega) Try.underlying72 (.slice (some ⟨X.heap.size, 0, none⟩) 0 0) [] rfl HE.out.1 _ A n c L rfl HE.out.2 (by simp only [List.length_nil]; omega) (by simp) ?_; intro v1 w1 hown1 hgrow1)
  have hbe : Below X.heap.size X w1 := (emptyAp X).grow (below_one _) hgrow1 (by simp) (Nat.le_refl _)
  have HB1 := Lib.hid (HX.out.1.trans (hbe.mono HX.out.1.size))
  have HX1 := Lib.hid (HX.out.2.keep hbe)
  have H1 := Lib.hid (H.out.keep hbe hbe.size)
  have HO1 := Lib.hid (show ROwn apRec w1 w.heap.size v1 L by simpa using hown1.base_le HX.out.1.size)
  clear hbe hown1 hgrow1 e0 e1 e2 e3 HE
  have HCHK := Lib.hid (fun (h0 : Ap.chk L = 0) => show n ≤ 60 by
    have := (Ap.chk_ok.1 h0).few
    rw [HL.out] at this; exact this)
  have HA1 := Lib.hid (fun (h : Ap.chk L ≠ 0) => show Ap.add L ⟨p, r, f, u⟩ = (L, Ap.chk L) by unfold Ap.add; rw [if_pos h])
  have HA2 := Lib.hid (fun (h : Ap.chk L = 0) => show Ap.add L ⟨p, r, f, u⟩ = _ by unfold Ap.add; rw [if_neg (by simpa using h)])
  have HOK := Lib.hid (fun (h : Ap.chk L = 0) => Ap.chk_ok.1 h)
  refine (rcheck39 A n c L w1 H1.out).mono ?_; rintro e w2 ⟨rfl, hb⟩
  have HB2 := Lib.hid (HB1.out.trans (hb.mono HB1.out.size))
  have HX2 := Lib.hid (HX1.out.keep hb)
  have H2 := Lib.hid (H1.out.keep hb hb.size)
  have HO2 := Lib.hid (HO1.out.below hb)
  clear hb HB1 HX1 H1 HO1
  obtain ⟨_, e0, e1, e2, e3, _⟩ := HX2.out
  obtain ⟨o, ho⟩ : ∃ o, Ap.chk L = o := ⟨_, rfl⟩
  rw [ho]
  rw [ho] at HA1 HA2 HCHK HOK
  clear ho
  by_cases ho : o = 0
  rotate_left
  · have g1 : (o != 0) = true := by simpa using ho
    have HR := Lib.hid (HA1.out ho)
    clear HA1 HA2 ho
    go_wp2_with fail
    exact bodyPost_ret (v := .tuple #[v1, .int .i64 o]) (by simp [results, Try.results55, go_sem]) rfl (by rw [HR.out]; exact ⟨v1, rfl, HO2.out, HB2.out⟩)
  have HA := Lib.hid (HA2.out ho)
  have HN60 := Lib.hid (HCHK.out ho)
  have HOK2 := Lib.hid (HOK.out ho)
  clear HA1 HA2 HCHK HOK
  have g1 : (o != 0) = false := by simpa using ho
  clear ho
  go_wp2_with fail
  refine (rnamed39 p r f u w2).mono ?_; rintro e w3 ⟨rfl, hb⟩
  have HB3 := Lib.hid (HB2.out.trans (hb.mono HB2.out.size))
  have HX3 := Lib.hid (HX2.out.keep hb)
  have H3 := Lib.hid (H2.out.keep hb hb.size)
  have HO3 := Lib.hid (HO2.out.below hb)
  clear hb HB2 HX2 H2 HO2 e0 e1 e2 e3 g1
  obtain ⟨_, e0, e1, e2, e3, _⟩ := HX3.out
  rcases hna : Ap.named ⟨p, r, f, u⟩ with _ | _
  · have HR := Lib.hid (show Ap.add L ⟨p, r, f, u⟩ = (L, 3) by
      rw [HA.out, show Ap.one ⟨p, r, f, u⟩ = 3 by unfold Ap.one; rw [if_pos hna]]
      rfl)
    clear HA hna
    go_wp2_with fail
    exact bodyPost_ret (v := .tuple #[v1, .int .i64 3]) (by simp [results, Try.results55, go_sem]) rfl (by rw [HR.out]; exact ⟨v1, rfl, HO3.out, HB3.out⟩)
  go_wp2_with fail
  refine (rproper39 p r f u w3).mono ?_; rintro e w4 ⟨rfl, hb⟩
  have HB4 := Lib.hid (HB3.out.trans (hb.mono HB3.out.size))
  have HX4 := Lib.hid (HX3.out.keep hb)
  have H4 := Lib.hid (H3.out.keep hb hb.size)
  have HO4 := Lib.hid (HO3.out.below hb)
  clear hb HB3 HX3 HO3 e0 e1 e2 e3
  obtain ⟨_, e0, e1, e2, e3, _⟩ := HX4.out
  rcases hpr : Ap.proper ⟨p, r, f, u⟩ with _ | _
  · have HR := Lib.hid (show Ap.add L ⟨p, r, f, u⟩ = (L, 43) by
      rw [HA.out, show Ap.one ⟨p, r, f, u⟩ = 43 by unfold Ap.one; rw [if_neg (by rw [hna]; decide), if_pos hpr]]
      rfl)
    clear HA hna hpr
    go_wp2_with fail
    exact bodyPost_ret (v := .tuple #[v1, .int .i64 43]) (by simp [results, Try.results55, go_sem]) rfl (by rw [HR.out]; exact ⟨v1, rfl, HO4.out, HB4.out⟩)
  have HONE := Lib.hid (show Ap.one ⟨p, r, f, u⟩ = 0 by unfold Ap.one; rw [if_neg (by rw [hna]; decide), if_neg (by rw [hpr]; decide)])
  replace HA := Lib.hid (show Ap.add L ⟨p, r, f, u⟩ = _ by rw [HA.out, if_neg (by simpa using HONE.out)])
  clear hna hpr
  go_wp2_with fail
  refine (rmeets39 A n c L p r f u w4 H4.out).mono ?_; rintro e w5 ⟨rfl, hb⟩
  have HB5 := Lib.hid (HB4.out.trans (hb.mono HB4.out.size))
  have HX5 := Lib.hid (HX4.out.keep hb)
  have H5 := Lib.hid (H4.out.keep hb hb.size)
  have HO5 := Lib.hid (HO4.out.below hb)
  clear hb HB4 HX4 HO4 e0 e1 e2 e3
  obtain ⟨_, e0, e1, e2, e3, _⟩ := HX5.out
  rcases hq : Ap.meets L ⟨p, r, f, u⟩ with _ | _
  rotate_left
  · have HR := Lib.hid (show Ap.add L ⟨p, r, f, u⟩ = (L, 10) by rw [HA.out, if_pos hq])
    clear HA hq
    go_wp2_with fail
    exact bodyPost_ret (v := .tuple #[v1, .int .i64 10]) (by simp [results, Try.results55, go_sem]) rfl (by rw [HR.out]; exact ⟨v1, rfl, HO5.out, HB5.out⟩)
  have HM := Lib.hid hq
  replace HA := Lib.hid (show Ap.add L ⟨p, r, f, u⟩ = _ by rw [HA.out, if_neg (by rw [hq]; decide)])
  clear hq
  by_cases h60 : n = 60
  · subst h60
    have HR := Lib.hid (show Ap.add L ⟨p, r, f, u⟩ = (L, 1) by rw [HA.out, if_pos HL.out])
    clear HA
    go_wp2_with fail
    exact bodyPost_ret (v := .tuple #[v1, .int .i64 1]) (by simp [results, Try.results55, go_sem]) rfl (by rw [HR.out]; exact ⟨v1, rfl, HO5.out, HB5.out⟩)
  replace HA := Lib.hid (show Ap.add L ⟨p, r, f, u⟩ = (Ap.ins L ⟨p, r, f, u⟩, 0) by rw [HA.out, if_neg (by rw [HL.out]; exact h60)])
  have g2 : ((n : Int) == 60) = false := beq_false_of_ne (by omega)
  clear h60
  obtain ⟨K, hK⟩ : ∃ K, L.findIdx (fun y => !(Ap.lt y ⟨p, r, f, u⟩)) = K := ⟨_, rfl⟩
  have HI := Lib.hid (show Ap.ins L ⟨p, r, f, u⟩ = L.take K ++ [⟨p, r, f, u⟩] ++ L.drop K by rw [← Ap.ins_rins HOK2.out HONE.out HM.out]; unfold Ap.rins; rw [hK])
  have hkn : K ≤ n := by rw [← HL.out, ← hK]; exact List.findIdx_le_length
  have HLO := Lib.hid (fun (i : Nat) (hi : i < K) => show Ap.lt (L.getD i Ap0) ⟨p, r, f, u⟩ = true by
    have h1 := List.not_of_lt_findIdx (p := fun y => !(Ap.lt y ⟨p, r, f, u⟩)) (xs := L) (show i < L.findIdx _ by rw [hK]; exact hi)
    rw [getD_getElem (show i < L.length by rw [HL.out]; omega)]
    simpa using h1)
  have HHI := Lib.hid (fun (hi : K < n) => show Ap.lt (L.getD K Ap0) ⟨p, r, f, u⟩ = false by
    have hw : L.findIdx (fun y => !(Ap.lt y ⟨p, r, f, u⟩)) < L.length := by rw [hK, HL.out]; exact hi
    have h1 := List.findIdx_getElem (p := fun y => !(Ap.lt y ⟨p, r, f, u⟩)) (xs := L) (w := hw)
    rw [getD_getElem (show K < L.length by rw [HL.out]; exact hi)]
    simpa [hK] using h1)
  clear hK
  go_wp2_with fail
  have HLK := Lib.hid (And.intro H5 (And.intro HX5 (And.intro HB5 HO5)))
  clear e0 e1 e2 e3
  go_loopw [8] (fun i wr => ∃ j : Nat, j ≤ K ∧ i = .int .i64 j ∧ Hid (Below w5.heap.size w5 wr)) (fun i _ => K - (intOf i).toNat)
  case atStart => exact ⟨0, by omega, rfl, Below.refl _ _⟩
  case round =>
    rename World => Y
    obtain ⟨j, hj, rfl, HBY⟩ := hrel
    have HXY := Lib.hid (HX5.out.keep HBY.out)
    obtain ⟨_, e0, e1, e2, e3, _⟩ := HXY.out
    by_cases hlt : j < n
    · obtain ⟨ad, yp, yr, yf, yu, rfl, HX, c0, c1, c2, c3⟩ := (H5.out.keep HBY.out HBY.out.size).ap hlt
      have gj : decide ((j : Int) < (n : Int)) = true := decide_eq_true (by omega)
      have gj2 : decide (j < n) = true := decide_eq_true hlt
      obtain ⟨b, hb⟩ : ∃ b, Ap.lt ⟨yp, yr, yf, yu⟩ ⟨p, r, f, u⟩ = b := ⟨_, rfl⟩
      have KB := Lib.hid (fun (W : World) => show Calls Try.prog 95 #[.agg #[.string yp, .string yr, .int .i64 yf, .int .i64 yu], .agg #[.string p, .string r, .int .i64 f, .int .i64 u]] W fun e w' => e = .returned (.bool b) ∧ Below W.heap.size W w' from by
        rw [← hb]; exact rbefore39 yp yr yf yu p r f u W)
      have HBB := Lib.hid (show (j < K → b = true) ∧ (j = K → b = false) from ⟨fun h => by rw [← hb, ← HX.out.1]; exact HLO.out j h, fun h => by rw [← hb, ← HX.out.1, h]; exact HHI.out (by omega)⟩)
      clear hb
      have x0 := Aft.cell e0
      have x1 := Aft.cell e1
      have x2 := Aft.cell e2
      have x3 := Aft.cell e3
      have y0 := Aft.cell c0
      have y1 := Aft.cell c1
      have y2 := Aft.cell c2
      have y3 := Aft.cell c3
      clear c0 c1 c2 c3 e0 e1 e2 e3
      rcases Nat.lt_or_ge j K with hjk | hjk
      · obtain rfl : b = true := HBB.out.1 hjk
        go_wp2_with fail
        refine wp_region_aft (by kernel_rfl) (by kernel_rfl) ?_
        repeat (go_big_quiet_step (first | with_reducible exact Calls.aft (KB.out _)))
        refine wpQuiet_nil ?_
        rintro w7 ⟨⟨_, hb7⟩, rfl⟩
        have HB7 := Lib.hid (HBY.out.trans (hb7.mono HBY.out.size))
        clear hb7 x0 x1 x2 x3 y0 y1 y2 y3
        go_wp2_with fail
        go_roundw
        case rel => exact ⟨j + 1, by omega, by go_num, HB7.out⟩
        case measure => simp [intOf]; omega
      · obtain rfl : b = false := HBB.out.2 (by omega)
        obtain rfl : K = j := by omega
        go_wp2_with fail
        refine wp_region_aft (by kernel_rfl) (by kernel_rfl) ?_
        repeat (go_big_quiet_step (first | with_reducible exact Calls.aft (KB.out _)))
        refine wpQuiet_nil ?_
        rintro w7 ⟨⟨_, hb7⟩, rfl⟩
        have HB7 := Lib.hid (HBY.out.trans (hb7.mono HBY.out.size))
        clear hb7 x0 x1 x2 x3 y0 y1 y2 y3
        go_wp2_with fail
        have HX7 := Lib.hid (HX5.out.keep HB7.out)
        have H7 := Lib.hid (H5.out.keep HB7.out HB7.out.size)
        have HB9 := Lib.hid (HB5.out.trans (HB7.out.mono HB5.out.size))
        have nk1 : ¬ (c < K) := by omega
        have nk2 : ¬ (n < K) := by omega
        refine wp_region_inv (by kernel_rfl) (fun listed a wv => listed.size = 14 ∧ ∃ x52 x53 x54 x55 x56 x57 x58 x59 x60 x61 x62 x63 y4 y5 : Value, a = ⟨#[.slice (some ad) n c, .agg #[.string p, .string r, .int .i64 f, .int .i64 u], undef, .pointer (some ⟨w.heap.size, 0, none⟩), y4, y5, v1, .int .i64 o, .int .i64 ↑K, .slice (some ⟨X.heap.size, 0, none⟩) 0 0, .slice (some ad) n c, v1, .slice (some ad) n c, .int .i64 o, .int .i64 o, .bool false, undef, undef, .bool false, .agg #[.string p, .string r, .int .i64 f, .int .i64 u], .bool true, .bool false, undef, .bool false, .agg #[.string p, .string r, .int .i64 f, .int .i64 u], .bool true, .bool false, undef, .bool false, .slice (some ad) n c, .agg #[.string p, .string r, .int .i64 f, .int .i64 u], .bool false, undef, .bool false, .slice (some ad) n c, .int .i64 ↑n, .bool false, undef, .int .i64 ↑K, .slice (some ad) n c, .int .i64 ↑n, .bool true, .bool true, .slice (some ad) n c, .int .i64 ↑K, .pointer (some (ad.add (K * 4))), .agg #[.string yp, .string yr, .int .i64 yf, .int .i64 yu], .agg #[.string p, .string r, .int .i64 f, .int .i64 u], .bool false, .bool false, u50, u51, x52, x53, x54, x55, x56, x57, x58, x59, x60, x61, x62, x63], []⟩ ∧ CF listed [(1, x53, .slice (some ad) n c), (2, x54, .int .i64 ↑K), (3, x55, .slice (some ad) K c), (5, x57, (.agg #[.string p, .string r, .int .i64 f, .int .i64 u])), (8, x60, .slice (some ad) n c), (9, x61, .int .i64 ↑K), (10, x62, .slice (if c = K then (some ad) else Option.map (fun q => q.add (K * 4)) (some ad)) (n - K) (c - K)), (13, y5, .int .i64 0)] ∧ (up listed 12 → up listed 11 ∧ y4 = x63) ∧ InsI apRec 0 6 4 7 11 w7 (L.take K) (⟨p, r, f, u⟩ : Ap) (L.drop K) listed x52 x58 x56 x59 x63 wv) (fun _ _ _ h => h.1) ?_ ?_ ?_
        · exact ⟨by simp, undef, undef, undef, undef, undef, undef, undef, undef, undef, undef, undef, undef, .slice none 0 0, .int .i64 0, rfl, CF.start, fun h9 => absurd h9 (up_start _ _), InsI.start⟩
        · rintro listed a wv i o ⟨hz, x52, x53, x54, x55, x56, x57, x58, x59, x60, x61, x62, x63, y4, y5, rfl, hd, hq, hp⟩ ho hdep hnu
          have hi : i < 14 := by
            rcases Nat.lt_or_ge i 14 with h | h
            · exact h
            · rw [Array.getElem?_eq_none (by simpa using h)] at ho; cases ho
          have hil : i < listed.size := by omega
          rcases (show i = 0 ∨ i = 1 ∨ i = 2 ∨ i = 3 ∨ i = 4 ∨ i = 5 ∨ i = 6 ∨ i = 7 ∨ i = 8 ∨ i = 9 ∨ i = 10 ∨ i = 11 ∨ i = 12 ∨ i = 13 by omega) with rfl | rfl | rfl | rfl | rfl | rfl | rfl | rfl | rfl | rfl | rfl | rfl | rfl | rfl
          · have ho' := ho
            simp only [List.getElem?_toArray, List.getElem?_cons_zero, Option.some.injEq] at ho'
            subst ho'
            refine wpOp_value ho rfl (v := .slice (some ⟨wv.heap.size, 0, none⟩) 0 0) (w' := wv.alloc (.cells #[] 74 (0, 0))) (by simp [execOp, go_sem]) ?_
            exact ⟨by simpa using hz, _, _, _, _, _, _, _, _, _, _, _, _, _, _, rfl, hd.step hil (by intro p hp; simp only [List.mem_cons, List.not_mem_nil, or_false] at hp ⊢; rcases hp with rfl | rfl | rfl | rfl | rfl | rfl | rfl | rfl <;> first | exact .inl rfl | exact .inr ⟨by simp, by simp⟩), fun h9 => by rw [up_rest hil (by decide)] at h9 ⊢; exact hq h9, hp.empty hil (by decide) (by decide) (by decide) (by decide)⟩
          · have ho' := ho
            simp only [List.getElem?_toArray, List.getElem?_cons_zero, List.getElem?_cons_succ, Option.some.injEq] at ho'
            subst ho'
            refine wpOp_value ho rfl (v := .slice (some ad) n c) (w' := wv) (by simp [execOp, Act.eval, go_sem]) ?_
            exact ⟨by simpa using hz, _, _, _, _, _, _, _, _, _, _, _, _, _, _, rfl, hd.step hil (by intro p hp; simp only [List.mem_cons, List.not_mem_nil, or_false] at hp ⊢; rcases hp with rfl | rfl | rfl | rfl | rfl | rfl | rfl | rfl <;> first | exact .inl rfl | exact .inr ⟨by simp, by simp⟩), fun h9 => by rw [up_rest hil (by decide)] at h9 ⊢; exact hq h9, hp.same hil (by decide) (by decide) (by decide) (by decide) (by decide)⟩
          · have ho' := ho
            simp only [List.getElem?_toArray, List.getElem?_cons_zero, List.getElem?_cons_succ, Option.some.injEq] at ho'
            subst ho'
            refine wpOp_value ho rfl (v := .int .i64 ↑K) (w' := wv) (by simp [execOp, Act.eval, go_sem]) ?_
            exact ⟨by simpa using hz, _, _, _, _, _, _, _, _, _, _, _, _, _, _, rfl, hd.step hil (by intro p hp; simp only [List.mem_cons, List.not_mem_nil, or_false] at hp ⊢; rcases hp with rfl | rfl | rfl | rfl | rfl | rfl | rfl | rfl <;> first | exact .inl rfl | exact .inr ⟨by simp, by simp⟩), fun h9 => by rw [up_rest hil (by decide)] at h9 ⊢; exact hq h9, hp.same hil (by decide) (by decide) (by decide) (by decide) (by decide)⟩
          · have ho' := ho
            simp only [List.getElem?_toArray, List.getElem?_cons_zero, List.getElem?_cons_succ, Option.some.injEq] at ho'
            subst ho'
            have e1 := hd (1, x53, .slice (some ad) n c) (by simp) (hdep { on := 1, ground := .data } (by simp) rfl)
            simp only at e1
            have e2 := hd (2, x54, .int .i64 ↑K) (by simp) (hdep { on := 2, ground := .data } (by simp) rfl)
            simp only at e2
            refine wpOp_value ho rfl (v := .slice (some ad) K c) (w' := wv) (by simp [execOp, Act.eval, go_sem, e1, e2, nk1]) ?_
            exact ⟨by simpa using hz, _, _, _, _, _, _, _, _, _, _, _, _, _, _, rfl, hd.step hil (by intro p hp; simp only [List.mem_cons, List.not_mem_nil, or_false] at hp ⊢; rcases hp with rfl | rfl | rfl | rfl | rfl | rfl | rfl | rfl <;> first | exact .inl rfl | exact .inr ⟨by simp, by simp⟩), fun h9 => by rw [up_rest hil (by decide)] at h9 ⊢; exact hq h9, hp.same hil (by decide) (by decide) (by decide) (by decide) (by decide)⟩
          · have ho' := ho
            simp only [List.getElem?_toArray, List.getElem?_cons_zero, List.getElem?_cons_succ, Option.some.injEq] at ho'
            subst ho'
            have e3 := hd (3, x55, .slice (some ad) K c) (by simp) (hdep { on := 3, ground := .data } (by simp) rfl)
            simp only at e3
            have hu0 := hdep { on := 0, ground := .data } (by simp) rfl
            obtain ⟨g9, rfl, hg9, hh9, _⟩ := hp.pe hu0 hnu
            refine wpOp_app_recs apRec ho rfl (.tmp 52) (.tmp 55) 72 rfl w7.heap.size (.agg #[.string ⟨#[]⟩, .string ⟨#[]⟩, .int .i64 0, .int .i64 0]) 48 ap_info rfl (by omega) Try.underlying72 _ [] (by simp [Act.eval]) (ROwn.empty hh9 hg9) w7.heap.size _ _ _ (L.take K) (by simp [Act.eval]; exact e3) ((H7.out.first hkn).keep hp.bel (Nat.le_refl _)) (by simp only [List.length_nil]; omega) hp.bel.size ?_
            intro u9 w9 ho9 hg9
            exact ⟨by simpa using hz, _, _, _, _, _, _, _, _, _, _, _, _, _, _, rfl, hd.step hil (by intro p hp; simp only [List.mem_cons, List.not_mem_nil, or_false] at hp ⊢; rcases hp with rfl | rfl | rfl | rfl | rfl | rfl | rfl | rfl <;> first | exact .inl rfl | exact .inr ⟨by simp, by simp⟩), fun h9 => by rw [up_rest hil (by decide)] at h9 ⊢; exact hq h9, hp.app1 hil (by decide) (by decide) (by decide) hnu hu0 ho9 hg9⟩
          · have ho' := ho
            simp only [List.getElem?_toArray, List.getElem?_cons_zero, List.getElem?_cons_succ, Option.some.injEq] at ho'
            subst ho'
            obtain ⟨_, b0, b1, b2, b3, _⟩ := HX7.out.keep hp.bel
            refine wpOp_value ho rfl (v := (.agg #[.string p, .string r, .int .i64 f, .int .i64 u])) (w' := wv) (by simp [execOp, Act.eval, go_sem, b0, b1, b2, b3]) ?_
            exact ⟨by simpa using hz, _, _, _, _, _, _, _, _, _, _, _, _, _, _, rfl, hd.step hil (by intro p hp; simp only [List.mem_cons, List.not_mem_nil, or_false] at hp ⊢; rcases hp with rfl | rfl | rfl | rfl | rfl | rfl | rfl | rfl <;> first | exact .inl rfl | exact .inr ⟨by simp, by simp⟩), fun h9 => by rw [up_rest hil (by decide)] at h9 ⊢; exact hq h9, hp.same hil (by decide) (by decide) (by decide) (by decide) (by decide)⟩
          · have ho' := ho
            simp only [List.getElem?_toArray, List.getElem?_cons_zero, List.getElem?_cons_succ, Option.some.injEq] at ho'
            subst ho'
            have e5 := hd (5, x57, (.agg #[.string p, .string r, .int .i64 f, .int .i64 u])) (by simp) (hdep { on := 5, ground := .data } (by simp) rfl)
            simp only at e5
            refine wpOp_value ho rfl (v := .slice (some ⟨wv.heap.size, 0, none⟩) 1 1) (w' := wv.alloc (.cells (Rec.cells apRec (⟨p, r, f, u⟩ : Ap)).toArray 74 (0, 0))) (by simp [execOp, Act.eval, go_sem, e5, apRec]) ?_
            exact ⟨by simpa using hz, _, _, _, _, _, _, _, _, _, _, _, _, _, _, rfl, hd.step hil (by intro p hp; simp only [List.mem_cons, List.not_mem_nil, or_false] at hp ⊢; rcases hp with rfl | rfl | rfl | rfl | rfl | rfl | rfl | rfl <;> first | exact .inl rfl | exact .inr ⟨by simp, by simp⟩), fun h9 => by rw [up_rest hil (by decide)] at h9 ⊢; exact hq h9, hp.lit hil (by decide) (by decide) (by decide) (by decide)⟩
          · have ho' := ho
            simp only [List.getElem?_toArray, List.getElem?_cons_zero, List.getElem?_cons_succ, Option.some.injEq] at ho'
            subst ho'
            have hu1 := hdep { on := 4, ground := .data } (by simp) rfl
            have hu6 := hdep { on := 6, ground := .data } (by simp) rfl
            obtain ⟨q9, rfl, hq9⟩ := hp.pl hu6 hnu
            refine wpOp_app_recs apRec ho rfl (.tmp 56) (.tmp 58) 72 rfl w7.heap.size (.agg #[.string ⟨#[]⟩, .string ⟨#[]⟩, .int .i64 0, .int .i64 0]) 48 ap_info rfl (by omega) Try.underlying72 _ (L.take K) (by simp [Act.eval]) (hp.p1 hu1 hnu) wv.heap.size (some ⟨q9, 0, none⟩) 1 1 [(⟨p, r, f, u⟩ : Ap)] (by simp [Act.eval]) (RRow.lit (L := [(⟨p, r, f, u⟩ : Ap)]) (by simpa [Rec.flat] using hq9) (by simp)) (by have := H7.out.len; rw [List.length_take]; omega) hp.bel.size ?_
            intro u9 w9 ho9 hg9
            exact ⟨by simpa using hz, _, _, _, _, _, _, _, _, _, _, _, _, _, _, rfl, hd.step hil (by intro p hp; simp only [List.mem_cons, List.not_mem_nil, or_false] at hp ⊢; rcases hp with rfl | rfl | rfl | rfl | rfl | rfl | rfl | rfl <;> first | exact .inl rfl | exact .inr ⟨by simp, by simp⟩), fun h9 => by rw [up_rest hil (by decide)] at h9 ⊢; exact hq h9, hp.app2 hil (by decide) (by decide) hnu hu1 ho9 hg9⟩
          · have ho' := ho
            simp only [List.getElem?_toArray, List.getElem?_cons_zero, List.getElem?_cons_succ, Option.some.injEq] at ho'
            subst ho'
            refine wpOp_value ho rfl (v := .slice (some ad) n c) (w' := wv) (by simp [execOp, Act.eval, go_sem]) ?_
            exact ⟨by simpa using hz, _, _, _, _, _, _, _, _, _, _, _, _, _, _, rfl, hd.step hil (by intro p hp; simp only [List.mem_cons, List.not_mem_nil, or_false] at hp ⊢; rcases hp with rfl | rfl | rfl | rfl | rfl | rfl | rfl | rfl <;> first | exact .inl rfl | exact .inr ⟨by simp, by simp⟩), fun h9 => by rw [up_rest hil (by decide)] at h9 ⊢; exact hq h9, hp.same hil (by decide) (by decide) (by decide) (by decide) (by decide)⟩
          · have ho' := ho
            simp only [List.getElem?_toArray, List.getElem?_cons_zero, List.getElem?_cons_succ, Option.some.injEq] at ho'
            subst ho'
            refine wpOp_value ho rfl (v := .int .i64 ↑K) (w' := wv) (by simp [execOp, Act.eval, go_sem]) ?_
            exact ⟨by simpa using hz, _, _, _, _, _, _, _, _, _, _, _, _, _, _, rfl, hd.step hil (by intro p hp; simp only [List.mem_cons, List.not_mem_nil, or_false] at hp ⊢; rcases hp with rfl | rfl | rfl | rfl | rfl | rfl | rfl | rfl <;> first | exact .inl rfl | exact .inr ⟨by simp, by simp⟩), fun h9 => by rw [up_rest hil (by decide)] at h9 ⊢; exact hq h9, hp.same hil (by decide) (by decide) (by decide) (by decide) (by decide)⟩
          · have ho' := ho
            simp only [List.getElem?_toArray, List.getElem?_cons_zero, List.getElem?_cons_succ, Option.some.injEq] at ho'
            subst ho'
            have e8 := hd (8, x60, .slice (some ad) n c) (by simp) (hdep { on := 8, ground := .data } (by simp) rfl)
            simp only at e8
            have e9 := hd (9, x61, .int .i64 ↑K) (by simp) (hdep { on := 9, ground := .data } (by simp) rfl)
            simp only at e9
            refine wpOp_value ho rfl (v := .slice (if c = K then (some ad) else Option.map (fun q => q.add (K * 4)) (some ad)) (n - K) (c - K)) (w' := wv) (by simp [execOp, Act.eval, go_sem, e8, e9, nk2]) ?_
            exact ⟨by simpa using hz, _, _, _, _, _, _, _, _, _, _, _, _, _, _, rfl, hd.step hil (by intro p hp; simp only [List.mem_cons, List.not_mem_nil, or_false] at hp ⊢; rcases hp with rfl | rfl | rfl | rfl | rfl | rfl | rfl | rfl <;> first | exact .inl rfl | exact .inr ⟨by simp, by simp⟩), fun h9 => by rw [up_rest hil (by decide)] at h9 ⊢; exact hq h9, hp.same hil (by decide) (by decide) (by decide) (by decide) (by decide)⟩
          · have ho' := ho
            simp only [List.getElem?_toArray, List.getElem?_cons_zero, List.getElem?_cons_succ, Option.some.injEq] at ho'
            subst ho'
            have e10 := hd (10, x62, .slice (if c = K then (some ad) else Option.map (fun q => q.add (K * 4)) (some ad)) (n - K) (c - K)) (by simp) (hdep { on := 10, ground := .data } (by simp) rfl)
            simp only at e10
            have hu2 := hdep { on := 7, ground := .data } (by simp) rfl
            refine wpOp_app_recs apRec ho rfl (.tmp 59) (.tmp 62) 72 rfl w7.heap.size (.agg #[.string ⟨#[]⟩, .string ⟨#[]⟩, .int .i64 0, .int .i64 0]) 48 ap_info rfl (by omega) Try.underlying72 _ (L.take K ++ [(⟨p, r, f, u⟩ : Ap)]) (by simp [Act.eval]) (hp.p2 hu2 hnu) w7.heap.size _ _ _ (L.drop K) (by simp [Act.eval]; exact e10) ((H7.out.cut hkn).keep hp.bel (Nat.le_refl _)) (by have := H7.out.len; rw [List.length_append, List.length_take]; simp only [List.length_cons, List.length_nil]; omega) hp.bel.size ?_
            intro u9 w9 ho9 hg9
            exact ⟨by simpa using hz, _, _, _, _, _, _, _, _, _, _, _, _, _, _, rfl, hd.step hil (by intro p hp; simp only [List.mem_cons, List.not_mem_nil, or_false] at hp ⊢; rcases hp with rfl | rfl | rfl | rfl | rfl | rfl | rfl | rfl <;> first | exact .inl rfl | exact .inr ⟨by simp, by simp⟩), fun h9 => absurd (hq ((up_rest hil (by decide)).1 h9)).1 hnu, hp.app3 hil (by decide) (by decide) hnu hu2 ho9 hg9⟩
          · have ho' := ho
            simp only [List.getElem?_toArray, List.getElem?_cons_zero, List.getElem?_cons_succ, Option.some.injEq] at ho'
            subst ho'
            have hu3 := hdep { on := 11, ground := .data } (by simp) rfl
            refine wpOp_value ho rfl (v := x63) (w' := wv) (by simp [execOp, Act.eval, go_sem]) ?_
            exact ⟨by simpa using hz, _, _, _, _, _, _, _, _, _, _, _, _, _, _, rfl, hd.step hil (by intro p hp; simp only [List.mem_cons, List.not_mem_nil, or_false] at hp ⊢; rcases hp with rfl | rfl | rfl | rfl | rfl | rfl | rfl | rfl <;> first | exact .inl rfl | exact .inr ⟨by simp, by simp⟩), fun _ => ⟨(up_rest hil (by decide)).2 hu3, rfl⟩, hp.same hil (by decide) (by decide) (by decide) (by decide) (by decide)⟩
          · have ho' := ho
            simp only [List.getElem?_toArray, List.getElem?_cons_zero, List.getElem?_cons_succ, Option.some.injEq] at ho'
            subst ho'
            refine wpOp_value ho rfl (v := .int .i64 0) (w' := wv) (by simp [execOp, Act.eval, go_sem]) ?_
            exact ⟨by simpa using hz, _, _, _, _, _, _, _, _, _, _, _, _, _, _, rfl, hd.step hil (by intro p hp; simp only [List.mem_cons, List.not_mem_nil, or_false] at hp ⊢; rcases hp with rfl | rfl | rfl | rfl | rfl | rfl | rfl | rfl <;> first | exact .inl rfl | exact .inr ⟨by simp, by simp⟩), fun h9 => by rw [up_rest hil (by decide)] at h9 ⊢; exact hq h9, hp.same hil (by decide) (by decide) (by decide) (by decide) (by decide)⟩
        · rintro listed a wv ⟨hz, x52, x53, x54, x55, x56, x57, x58, x59, x60, x61, x62, x63, y4, y5, rfl, hd, hq, hp⟩ hr
          have hall := all_up2 hr hz (by decide)
          have hro := hp.p3 (hall 14 11 (by omega) (by simp))
          obtain ⟨_, rfl⟩ := hq (hall 14 12 (by omega) (by simp))
          have h5 := hd (13, y5, .int .i64 0) (by simp) (hall 14 13 (by omega) (by simp))
          simp only at h5
          subst h5
          have hbw := hp.bel
          clear hall hr hd hp hz hq
          have HRO := Lib.hid (hro.base_le HB9.out.size)
          have HBW := Lib.hid (HB9.out.trans (hbw.mono HB9.out.size))
          clear hro hbw
          go_wp2_with fail
          exact bodyPost_ret (v := .tuple #[y4, .int .i64 0]) (by simp [results, Try.results55, go_sem]) rfl (by rw [HA.out]; exact ⟨y4, rfl, by rw [HI.out]; exact HRO.out, HBW.out⟩)
    · obtain rfl : K = j := by omega
      have gj : decide ((K : Int) < (n : Int)) = false := decide_eq_false (by omega)
      go_wp2_with fail
      refine wp_region_aft (by kernel_rfl) (by kernel_rfl) ?_
      repeat (go_big_quiet_step (fail))
      refine wpQuiet_nil ?_
      rintro w7 ⟨⟨_, hb7⟩, rfl⟩
      have HB7 := Lib.hid (HBY.out.trans (hb7.mono HBY.out.size))
      clear hb7 e0 e1 e2 e3
      go_wp2_with fail
      have HX7 := Lib.hid (HX5.out.keep HB7.out)
      have H7 := Lib.hid (H5.out.keep HB7.out HB7.out.size)
      have HB9 := Lib.hid (HB5.out.trans (HB7.out.mono HB5.out.size))
      have nk1 : ¬ (c < K) := by omega
      have nk2 : ¬ (n < K) := by omega
      refine wp_region_inv (by kernel_rfl) (fun listed a wv => listed.size = 14 ∧ ∃ x52 x53 x54 x55 x56 x57 x58 x59 x60 x61 x62 x63 y4 y5 : Value, a = ⟨#[.slice A n c, .agg #[.string p, .string r, .int .i64 f, .int .i64 u], undef, .pointer (some ⟨w.heap.size, 0, none⟩), y4, y5, v1, .int .i64 o, .int .i64 ↑K, .slice (some ⟨X.heap.size, 0, none⟩) 0 0, .slice A n c, v1, .slice A n c, .int .i64 o, .int .i64 o, .bool false, undef, undef, .bool false, .agg #[.string p, .string r, .int .i64 f, .int .i64 u], .bool true, .bool false, undef, .bool false, .agg #[.string p, .string r, .int .i64 f, .int .i64 u], .bool true, .bool false, undef, .bool false, .slice A n c, .agg #[.string p, .string r, .int .i64 f, .int .i64 u], .bool false, undef, .bool false, .slice A n c, .int .i64 ↑n, .bool false, undef, .int .i64 ↑K, .slice A n c, .int .i64 ↑n, .bool false, .bool false, undef, undef, undef, undef, undef, undef, .bool false, u50, u51, x52, x53, x54, x55, x56, x57, x58, x59, x60, x61, x62, x63], []⟩ ∧ CF listed [(1, x53, .slice A n c), (2, x54, .int .i64 ↑K), (3, x55, .slice A K c), (5, x57, (.agg #[.string p, .string r, .int .i64 f, .int .i64 u])), (8, x60, .slice A n c), (9, x61, .int .i64 ↑K), (10, x62, .slice (if c = K then A else Option.map (fun q => q.add (K * 4)) A) (n - K) (c - K)), (13, y5, .int .i64 0)] ∧ (up listed 12 → up listed 11 ∧ y4 = x63) ∧ InsI apRec 0 6 4 7 11 w7 (L.take K) (⟨p, r, f, u⟩ : Ap) (L.drop K) listed x52 x58 x56 x59 x63 wv) (fun _ _ _ h => h.1) ?_ ?_ ?_
      · exact ⟨by simp, undef, undef, undef, undef, undef, undef, undef, undef, undef, undef, undef, undef, .slice none 0 0, .int .i64 0, rfl, CF.start, fun h9 => absurd h9 (up_start _ _), InsI.start⟩
      · rintro listed a wv i o ⟨hz, x52, x53, x54, x55, x56, x57, x58, x59, x60, x61, x62, x63, y4, y5, rfl, hd, hq, hp⟩ ho hdep hnu
        have hi : i < 14 := by
          rcases Nat.lt_or_ge i 14 with h | h
          · exact h
          · rw [Array.getElem?_eq_none (by simpa using h)] at ho; cases ho
        have hil : i < listed.size := by omega
        rcases (show i = 0 ∨ i = 1 ∨ i = 2 ∨ i = 3 ∨ i = 4 ∨ i = 5 ∨ i = 6 ∨ i = 7 ∨ i = 8 ∨ i = 9 ∨ i = 10 ∨ i = 11 ∨ i = 12 ∨ i = 13 by omega) with rfl | rfl | rfl | rfl | rfl | rfl | rfl | rfl | rfl | rfl | rfl | rfl | rfl | rfl
        · have ho' := ho
          simp only [List.getElem?_toArray, List.getElem?_cons_zero, Option.some.injEq] at ho'
          subst ho'
          refine wpOp_value ho rfl (v := .slice (some ⟨wv.heap.size, 0, none⟩) 0 0) (w' := wv.alloc (.cells #[] 74 (0, 0))) (by simp [execOp, go_sem]) ?_
          exact ⟨by simpa using hz, _, _, _, _, _, _, _, _, _, _, _, _, _, _, rfl, hd.step hil (by intro p hp; simp only [List.mem_cons, List.not_mem_nil, or_false] at hp ⊢; rcases hp with rfl | rfl | rfl | rfl | rfl | rfl | rfl | rfl <;> first | exact .inl rfl | exact .inr ⟨by simp, by simp⟩), fun h9 => by rw [up_rest hil (by decide)] at h9 ⊢; exact hq h9, hp.empty hil (by decide) (by decide) (by decide) (by decide)⟩
        · have ho' := ho
          simp only [List.getElem?_toArray, List.getElem?_cons_zero, List.getElem?_cons_succ, Option.some.injEq] at ho'
          subst ho'
          refine wpOp_value ho rfl (v := .slice A n c) (w' := wv) (by simp [execOp, Act.eval, go_sem]) ?_
          exact ⟨by simpa using hz, _, _, _, _, _, _, _, _, _, _, _, _, _, _, rfl, hd.step hil (by intro p hp; simp only [List.mem_cons, List.not_mem_nil, or_false] at hp ⊢; rcases hp with rfl | rfl | rfl | rfl | rfl | rfl | rfl | rfl <;> first | exact .inl rfl | exact .inr ⟨by simp, by simp⟩), fun h9 => by rw [up_rest hil (by decide)] at h9 ⊢; exact hq h9, hp.same hil (by decide) (by decide) (by decide) (by decide) (by decide)⟩
        · have ho' := ho
          simp only [List.getElem?_toArray, List.getElem?_cons_zero, List.getElem?_cons_succ, Option.some.injEq] at ho'
          subst ho'
          refine wpOp_value ho rfl (v := .int .i64 ↑K) (w' := wv) (by simp [execOp, Act.eval, go_sem]) ?_
          exact ⟨by simpa using hz, _, _, _, _, _, _, _, _, _, _, _, _, _, _, rfl, hd.step hil (by intro p hp; simp only [List.mem_cons, List.not_mem_nil, or_false] at hp ⊢; rcases hp with rfl | rfl | rfl | rfl | rfl | rfl | rfl | rfl <;> first | exact .inl rfl | exact .inr ⟨by simp, by simp⟩), fun h9 => by rw [up_rest hil (by decide)] at h9 ⊢; exact hq h9, hp.same hil (by decide) (by decide) (by decide) (by decide) (by decide)⟩
        · have ho' := ho
          simp only [List.getElem?_toArray, List.getElem?_cons_zero, List.getElem?_cons_succ, Option.some.injEq] at ho'
          subst ho'
          have e1 := hd (1, x53, .slice A n c) (by simp) (hdep { on := 1, ground := .data } (by simp) rfl)
          simp only at e1
          have e2 := hd (2, x54, .int .i64 ↑K) (by simp) (hdep { on := 2, ground := .data } (by simp) rfl)
          simp only at e2
          refine wpOp_value ho rfl (v := .slice A K c) (w' := wv) (by simp [execOp, Act.eval, go_sem, e1, e2, nk1]) ?_
          exact ⟨by simpa using hz, _, _, _, _, _, _, _, _, _, _, _, _, _, _, rfl, hd.step hil (by intro p hp; simp only [List.mem_cons, List.not_mem_nil, or_false] at hp ⊢; rcases hp with rfl | rfl | rfl | rfl | rfl | rfl | rfl | rfl <;> first | exact .inl rfl | exact .inr ⟨by simp, by simp⟩), fun h9 => by rw [up_rest hil (by decide)] at h9 ⊢; exact hq h9, hp.same hil (by decide) (by decide) (by decide) (by decide) (by decide)⟩
        · have ho' := ho
          simp only [List.getElem?_toArray, List.getElem?_cons_zero, List.getElem?_cons_succ, Option.some.injEq] at ho'
          subst ho'
          have e3 := hd (3, x55, .slice A K c) (by simp) (hdep { on := 3, ground := .data } (by simp) rfl)
          simp only at e3
          have hu0 := hdep { on := 0, ground := .data } (by simp) rfl
          obtain ⟨g9, rfl, hg9, hh9, _⟩ := hp.pe hu0 hnu
          refine wpOp_app_recs apRec ho rfl (.tmp 52) (.tmp 55) 72 rfl w7.heap.size (.agg #[.string ⟨#[]⟩, .string ⟨#[]⟩, .int .i64 0, .int .i64 0]) 48 ap_info rfl (by omega) Try.underlying72 _ [] (by simp [Act.eval]) (ROwn.empty hh9 hg9) w7.heap.size _ _ _ (L.take K) (by simp [Act.eval]; exact e3) ((H7.out.first hkn).keep hp.bel (Nat.le_refl _)) (by simp only [List.length_nil]; omega) hp.bel.size ?_
          intro u9 w9 ho9 hg9
          exact ⟨by simpa using hz, _, _, _, _, _, _, _, _, _, _, _, _, _, _, rfl, hd.step hil (by intro p hp; simp only [List.mem_cons, List.not_mem_nil, or_false] at hp ⊢; rcases hp with rfl | rfl | rfl | rfl | rfl | rfl | rfl | rfl <;> first | exact .inl rfl | exact .inr ⟨by simp, by simp⟩), fun h9 => by rw [up_rest hil (by decide)] at h9 ⊢; exact hq h9, hp.app1 hil (by decide) (by decide) (by decide) hnu hu0 ho9 hg9⟩
        · have ho' := ho
          simp only [List.getElem?_toArray, List.getElem?_cons_zero, List.getElem?_cons_succ, Option.some.injEq] at ho'
          subst ho'
          obtain ⟨_, b0, b1, b2, b3, _⟩ := HX7.out.keep hp.bel
          refine wpOp_value ho rfl (v := (.agg #[.string p, .string r, .int .i64 f, .int .i64 u])) (w' := wv) (by simp [execOp, Act.eval, go_sem, b0, b1, b2, b3]) ?_
          exact ⟨by simpa using hz, _, _, _, _, _, _, _, _, _, _, _, _, _, _, rfl, hd.step hil (by intro p hp; simp only [List.mem_cons, List.not_mem_nil, or_false] at hp ⊢; rcases hp with rfl | rfl | rfl | rfl | rfl | rfl | rfl | rfl <;> first | exact .inl rfl | exact .inr ⟨by simp, by simp⟩), fun h9 => by rw [up_rest hil (by decide)] at h9 ⊢; exact hq h9, hp.same hil (by decide) (by decide) (by decide) (by decide) (by decide)⟩
        · have ho' := ho
          simp only [List.getElem?_toArray, List.getElem?_cons_zero, List.getElem?_cons_succ, Option.some.injEq] at ho'
          subst ho'
          have e5 := hd (5, x57, (.agg #[.string p, .string r, .int .i64 f, .int .i64 u])) (by simp) (hdep { on := 5, ground := .data } (by simp) rfl)
          simp only at e5
          refine wpOp_value ho rfl (v := .slice (some ⟨wv.heap.size, 0, none⟩) 1 1) (w' := wv.alloc (.cells (Rec.cells apRec (⟨p, r, f, u⟩ : Ap)).toArray 74 (0, 0))) (by simp [execOp, Act.eval, go_sem, e5, apRec]) ?_
          exact ⟨by simpa using hz, _, _, _, _, _, _, _, _, _, _, _, _, _, _, rfl, hd.step hil (by intro p hp; simp only [List.mem_cons, List.not_mem_nil, or_false] at hp ⊢; rcases hp with rfl | rfl | rfl | rfl | rfl | rfl | rfl | rfl <;> first | exact .inl rfl | exact .inr ⟨by simp, by simp⟩), fun h9 => by rw [up_rest hil (by decide)] at h9 ⊢; exact hq h9, hp.lit hil (by decide) (by decide) (by decide) (by decide)⟩
        · have ho' := ho
          simp only [List.getElem?_toArray, List.getElem?_cons_zero, List.getElem?_cons_succ, Option.some.injEq] at ho'
          subst ho'
          have hu1 := hdep { on := 4, ground := .data } (by simp) rfl
          have hu6 := hdep { on := 6, ground := .data } (by simp) rfl
          obtain ⟨q9, rfl, hq9⟩ := hp.pl hu6 hnu
          refine wpOp_app_recs apRec ho rfl (.tmp 56) (.tmp 58) 72 rfl w7.heap.size (.agg #[.string ⟨#[]⟩, .string ⟨#[]⟩, .int .i64 0, .int .i64 0]) 48 ap_info rfl (by omega) Try.underlying72 _ (L.take K) (by simp [Act.eval]) (hp.p1 hu1 hnu) wv.heap.size (some ⟨q9, 0, none⟩) 1 1 [(⟨p, r, f, u⟩ : Ap)] (by simp [Act.eval]) (RRow.lit (L := [(⟨p, r, f, u⟩ : Ap)]) (by simpa [Rec.flat] using hq9) (by simp)) (by have := H7.out.len; rw [List.length_take]; omega) hp.bel.size ?_
          intro u9 w9 ho9 hg9
          exact ⟨by simpa using hz, _, _, _, _, _, _, _, _, _, _, _, _, _, _, rfl, hd.step hil (by intro p hp; simp only [List.mem_cons, List.not_mem_nil, or_false] at hp ⊢; rcases hp with rfl | rfl | rfl | rfl | rfl | rfl | rfl | rfl <;> first | exact .inl rfl | exact .inr ⟨by simp, by simp⟩), fun h9 => by rw [up_rest hil (by decide)] at h9 ⊢; exact hq h9, hp.app2 hil (by decide) (by decide) hnu hu1 ho9 hg9⟩
        · have ho' := ho
          simp only [List.getElem?_toArray, List.getElem?_cons_zero, List.getElem?_cons_succ, Option.some.injEq] at ho'
          subst ho'
          refine wpOp_value ho rfl (v := .slice A n c) (w' := wv) (by simp [execOp, Act.eval, go_sem]) ?_
          exact ⟨by simpa using hz, _, _, _, _, _, _, _, _, _, _, _, _, _, _, rfl, hd.step hil (by intro p hp; simp only [List.mem_cons, List.not_mem_nil, or_false] at hp ⊢; rcases hp with rfl | rfl | rfl | rfl | rfl | rfl | rfl | rfl <;> first | exact .inl rfl | exact .inr ⟨by simp, by simp⟩), fun h9 => by rw [up_rest hil (by decide)] at h9 ⊢; exact hq h9, hp.same hil (by decide) (by decide) (by decide) (by decide) (by decide)⟩
        · have ho' := ho
          simp only [List.getElem?_toArray, List.getElem?_cons_zero, List.getElem?_cons_succ, Option.some.injEq] at ho'
          subst ho'
          refine wpOp_value ho rfl (v := .int .i64 ↑K) (w' := wv) (by simp [execOp, Act.eval, go_sem]) ?_
          exact ⟨by simpa using hz, _, _, _, _, _, _, _, _, _, _, _, _, _, _, rfl, hd.step hil (by intro p hp; simp only [List.mem_cons, List.not_mem_nil, or_false] at hp ⊢; rcases hp with rfl | rfl | rfl | rfl | rfl | rfl | rfl | rfl <;> first | exact .inl rfl | exact .inr ⟨by simp, by simp⟩), fun h9 => by rw [up_rest hil (by decide)] at h9 ⊢; exact hq h9, hp.same hil (by decide) (by decide) (by decide) (by decide) (by decide)⟩
        · have ho' := ho
          simp only [List.getElem?_toArray, List.getElem?_cons_zero, List.getElem?_cons_succ, Option.some.injEq] at ho'
          subst ho'
          have e8 := hd (8, x60, .slice A n c) (by simp) (hdep { on := 8, ground := .data } (by simp) rfl)
          simp only at e8
          have e9 := hd (9, x61, .int .i64 ↑K) (by simp) (hdep { on := 9, ground := .data } (by simp) rfl)
          simp only at e9
          refine wpOp_value ho rfl (v := .slice (if c = K then A else Option.map (fun q => q.add (K * 4)) A) (n - K) (c - K)) (w' := wv) (by simp [execOp, Act.eval, go_sem, e8, e9, nk2]) ?_
          exact ⟨by simpa using hz, _, _, _, _, _, _, _, _, _, _, _, _, _, _, rfl, hd.step hil (by intro p hp; simp only [List.mem_cons, List.not_mem_nil, or_false] at hp ⊢; rcases hp with rfl | rfl | rfl | rfl | rfl | rfl | rfl | rfl <;> first | exact .inl rfl | exact .inr ⟨by simp, by simp⟩), fun h9 => by rw [up_rest hil (by decide)] at h9 ⊢; exact hq h9, hp.same hil (by decide) (by decide) (by decide) (by decide) (by decide)⟩
        · have ho' := ho
          simp only [List.getElem?_toArray, List.getElem?_cons_zero, List.getElem?_cons_succ, Option.some.injEq] at ho'
          subst ho'
          have e10 := hd (10, x62, .slice (if c = K then A else Option.map (fun q => q.add (K * 4)) A) (n - K) (c - K)) (by simp) (hdep { on := 10, ground := .data } (by simp) rfl)
          simp only at e10
          have hu2 := hdep { on := 7, ground := .data } (by simp) rfl
          refine wpOp_app_recs apRec ho rfl (.tmp 59) (.tmp 62) 72 rfl w7.heap.size (.agg #[.string ⟨#[]⟩, .string ⟨#[]⟩, .int .i64 0, .int .i64 0]) 48 ap_info rfl (by omega) Try.underlying72 _ (L.take K ++ [(⟨p, r, f, u⟩ : Ap)]) (by simp [Act.eval]) (hp.p2 hu2 hnu) w7.heap.size _ _ _ (L.drop K) (by simp [Act.eval]; exact e10) ((H7.out.cut hkn).keep hp.bel (Nat.le_refl _)) (by have := H7.out.len; rw [List.length_append, List.length_take]; simp only [List.length_cons, List.length_nil]; omega) hp.bel.size ?_
          intro u9 w9 ho9 hg9
          exact ⟨by simpa using hz, _, _, _, _, _, _, _, _, _, _, _, _, _, _, rfl, hd.step hil (by intro p hp; simp only [List.mem_cons, List.not_mem_nil, or_false] at hp ⊢; rcases hp with rfl | rfl | rfl | rfl | rfl | rfl | rfl | rfl <;> first | exact .inl rfl | exact .inr ⟨by simp, by simp⟩), fun h9 => absurd (hq ((up_rest hil (by decide)).1 h9)).1 hnu, hp.app3 hil (by decide) (by decide) hnu hu2 ho9 hg9⟩
        · have ho' := ho
          simp only [List.getElem?_toArray, List.getElem?_cons_zero, List.getElem?_cons_succ, Option.some.injEq] at ho'
          subst ho'
          have hu3 := hdep { on := 11, ground := .data } (by simp) rfl
          refine wpOp_value ho rfl (v := x63) (w' := wv) (by simp [execOp, Act.eval, go_sem]) ?_
          exact ⟨by simpa using hz, _, _, _, _, _, _, _, _, _, _, _, _, _, _, rfl, hd.step hil (by intro p hp; simp only [List.mem_cons, List.not_mem_nil, or_false] at hp ⊢; rcases hp with rfl | rfl | rfl | rfl | rfl | rfl | rfl | rfl <;> first | exact .inl rfl | exact .inr ⟨by simp, by simp⟩), fun _ => ⟨(up_rest hil (by decide)).2 hu3, rfl⟩, hp.same hil (by decide) (by decide) (by decide) (by decide) (by decide)⟩
        · have ho' := ho
          simp only [List.getElem?_toArray, List.getElem?_cons_zero, List.getElem?_cons_succ, Option.some.injEq] at ho'
          subst ho'
          refine wpOp_value ho rfl (v := .int .i64 0) (w' := wv) (by simp [execOp, Act.eval, go_sem]) ?_
          exact ⟨by simpa using hz, _, _, _, _, _, _, _, _, _, _, _, _, _, _, rfl, hd.step hil (by intro p hp; simp only [List.mem_cons, List.not_mem_nil, or_false] at hp ⊢; rcases hp with rfl | rfl | rfl | rfl | rfl | rfl | rfl | rfl <;> first | exact .inl rfl | exact .inr ⟨by simp, by simp⟩), fun h9 => by rw [up_rest hil (by decide)] at h9 ⊢; exact hq h9, hp.same hil (by decide) (by decide) (by decide) (by decide) (by decide)⟩
      · rintro listed a wv ⟨hz, x52, x53, x54, x55, x56, x57, x58, x59, x60, x61, x62, x63, y4, y5, rfl, hd, hq, hp⟩ hr
        have hall := all_up2 hr hz (by decide)
        have hro := hp.p3 (hall 14 11 (by omega) (by simp))
        obtain ⟨_, rfl⟩ := hq (hall 14 12 (by omega) (by simp))
        have h5 := hd (13, y5, .int .i64 0) (by simp) (hall 14 13 (by omega) (by simp))
        simp only at h5
        subst h5
        have hbw := hp.bel
        clear hall hr hd hp hz hq
        have HRO := Lib.hid (hro.base_le HB9.out.size)
        have HBW := Lib.hid (HB9.out.trans (hbw.mono HB9.out.size))
        clear hro hbw
        go_wp2_with fail
        exact bodyPost_ret (v := .tuple #[y4, .int .i64 0]) (by simp [results, Try.results55, go_sem]) rfl (by rw [HA.out]; exact ⟨y4, rfl, by rw [HI.out]; exact HRO.out, HBW.out⟩)
end Go.Proofs.Ytoomgbddfcmjnaa
