/- Rota: the program's small functions, and Check. -/
import Derived.Test.YtoomgbddfcmjnaaTa
namespace Go.Proofs.Ytoomgbddfcmjnaa
open Go.RowKit
def Sf.cmp (a b : Sf) : Int := if cmpI a.f b.f ≠ 0 then cmpI a.f b.f else cmpS a.p b.p
def Sf.ap (x : Sf) : Ap := ⟨x.p, x.p, x.f, x.u⟩
theorem Sf.cmp_lt (a b : Sf) : decide (Sf.cmp a b < 0) = Sf.lt a b := Ap.cmp_lt a.ap b.ap
theorem Sf.cmp_ge (a b : Sf) : decide (0 ≤ Sf.cmp a b) = !(Sf.lt a b) := Ap.cmp_ge a.ap b.ap
set_option maxHeartbeats 800000 in
theorem compare36 (p : ByteArray) (f u : Int) (p' : ByteArray) (f' u' : Int) (w : World) :
    Calls Try.prog 64 #[.agg #[.string p, .int .i64 f, .int .i64 u], .agg #[.string p', .int .i64 f', .int .i64 u']] w fun e w' => e = .returned (.int .i64 (Sf.cmp ⟨p, f, u⟩ ⟨p', f', u'⟩)) ∧ Below w.heap.size w w' := by
  obtain ⟨X, hX, HX⟩ := sf_boxB w p f u
  obtain ⟨W, hW, HW⟩ := sf_boxB X p' f' u'
  have hb : Below w.heap.size w W := HX.out.1.trans (HW.out.1.mono HX.out.1.size)
  have hxw := HX.out.2.keep HW.out.1
  have c0 : ∀ w', Below W.heap.size W w' → w'.cell? ⟨w.heap.size, 0, none⟩ = some (.string p) := fun w' hb => (hb.cell hxw.lt).trans hxw.c0
  have c2 : ∀ w', Below W.heap.size W w' → w'.cell? ⟨w.heap.size, 1, none⟩ = some (.int .i64 f) := fun w' hb => (hb.cell hxw.lt).trans hxw.c2
  have d0 : ∀ w', Below W.heap.size W w' → w'.cell? ⟨X.heap.size, 0, none⟩ = some (.string p') := fun w' hb => (hb.cell HW.out.2.lt).trans HW.out.2.c0
  have d2 : ∀ w', Below W.heap.size W w' → w'.cell? ⟨X.heap.size, 1, none⟩ = some (.int .i64 f') := fun w' hb => (hb.cell HW.out.2.lt).trans HW.out.2.c2
  have HB := Lib.hid hb
  clear hb hxw
  go_enter Try.func64, Try.ntmps64
  go_wp2_with fail
  first | rw [hW] | skip
  clear hX hW HX HW
  have kp : Below W.drew.heap.size W.drew (W.alloc (.cells #[.int .i64 (cmpI f f'), .int .i64 (cmpS p p')] 3)).drew := below_alloc_drew _ _
  go_region_held3 (fun w' => Below W.heap.size W w')
    (first | assumption | (exact Below.refl _ _) | (exact below_of_drawn 1) | (exact (Below.refl _ _).drew) | (exact below_alloc_drew _ _) | (exact below_drewN (by assumption) _) | (exact below_nextR (by assumption) (by assumption) (Below.size (by assumption))))
    (first
      | (go_at_call 114; (with_reducible refine (cmp_int _ _ _).mono ?_); rintro e wz ⟨rfl, rfl⟩)
      | (go_at_call 115; (with_reducible refine (cmp_str _ _ _).mono ?_); rintro e wz ⟨rfl, rfl⟩)
      | (go_at_call 113; (with_reducible refine (or_new _ _ _).mono ?_); rintro e wz ⟨rfl, hbz⟩))
  go_wp2_with fail
  go_ret
  exact ⟨rfl, HB.out.trans (hbz.mono HB.out.size)⟩
set_option maxHeartbeats 400000 in
theorem clo36o (g : Nat) (p : ByteArray) (f u : Int) (yp : ByteArray) (yf yu : Int) (w : World) (h : SfB w g p f u) :
    Calls Try.prog 109 #[.agg #[.string yp, .int .i64 yf, .int .i64 yu], .pointer (some ⟨g, 0, none⟩)] w fun e w' => e = .returned (.bool (Sf.meet ⟨yp, yf, yu⟩ ⟨p, f, u⟩)) ∧ Below w.heap.size w w' := by
  obtain ⟨X, hX, HX⟩ := sf_boxB w yp yf yu
  obtain ⟨_, e0, e2, e3, _⟩ := HX.out.2
  obtain ⟨_, d0, d2, d3, _⟩ := h.keep HX.out.1
  have HR := Lib.hid (show Sf.meet ⟨yp, yf, yu⟩ ⟨p, f, u⟩ = ((yp.toList == p.toList) && decide (yf < u) && decide (f < yu)) from rfl)
  clear h
  go_enter Try.func109, Try.ntmps109
  rcases hs : (yp.toList == p.toList) with _ | _
  all_goals
    go_wp2_with fail
    all_goals (go_ret; exact ⟨retb (by rw [HR.out, hs, Bool.eq_iff_iff]; simp; try omega), HX.out.1⟩)
set_option maxRecDepth 100000 in
set_option maxHeartbeats 1600000 in
theorem index36o (A : Option Addr) (n c : Nat) (L : List Sf) (g : Nat) (p : ByteArray) (f u : Int) (w : World) (h : RRow sfRec w w.heap.size A n c L) (hq : SfB w g p f u) :
    Calls Try.prog 133 #[.slice A n c, .func (.func 109) #[] #[.pointer (some ⟨g, 0, none⟩)]] w fun e w' => e = .returned (.int .i64 (fstI (fun y : Sf => y.meet ⟨p, f, u⟩) L)) ∧ Below w.heap.size w w' := by
  have hm : n ≤ 9223372036854775807 := by have := h.cap; have := h.max; unfold maxLen at this; omega
  have H := Lib.hid h
  have HL := Lib.hid h.len
  have HC := Lib.hid hq
  clear h hq
  go_enter Try.func133, Try.ntmps133
  go_wp2_with fail
  go_loopw [5, 8] (fun _ i wr => ∃ j : Nat, j ≤ n ∧ i = .int .i64 j ∧ Hid (Below w.heap.size w wr ∧ ∀ x ∈ L.take j, (fun y : Sf => y.meet ⟨p, f, u⟩) x = false)) (fun _ i _ => n - (intOf i).toNat)
  case atStart => exact ⟨0, by omega, rfl, Below.refl _ _, by simp⟩
  case round =>
    rename World => Y
    obtain ⟨j, hj, rfl, HI⟩ := hrel
    by_cases hlt : j < n
    · obtain ⟨ad, yp, yf, yu, rfl, HX, c0, c2, c3⟩ := (H.out.keep HI.out.1 HI.out.1.size).sf hlt
      have HT := Lib.hid (take_all (p := (fun y : Sf => y.meet ⟨p, f, u⟩)) HX.out.2.1 HI.out.2 HX.out.1)
      have HF := Lib.hid (fstI_at (p := (fun y : Sf => y.meet ⟨p, f, u⟩)) HX.out.2.1 HI.out.2 HX.out.1)
      have HCY := Lib.hid (HC.out.keep HI.out.1)
      rcases hoy : (fun y : Sf => y.meet ⟨p, f, u⟩) ⟨yp, yf, yu⟩ with _ | _
      · go_wp2_with fail
        refine (clo36o g p f u yp yf yu Y HCY.out).mono ?_; rintro e w2 ⟨rfl, hb2⟩
        have HB := Lib.hid (HI.out.1.trans (hb2.mono HI.out.1.size))
        rw [hoy]
        go_wp2_with fail
        go_roundw
        case rel => exact ⟨j + 1, by omega, by go_num, HB.out, HT.out hoy⟩
        case measure => simp [intOf]; omega
      · go_wp2_with fail
        refine (clo36o g p f u yp yf yu Y HCY.out).mono ?_; rintro e w2 ⟨rfl, hb2⟩
        have HB := Lib.hid (HI.out.1.trans (hb2.mono HI.out.1.size))
        rw [hoy]
        go_wp2_with fail
        go_ret
        exact ⟨ret_int (HF.out hoy).symm, HB.out⟩
    · obtain rfl : n = j := by omega
      have HM := Lib.hid (show fstI (fun y : Sf => y.meet ⟨p, f, u⟩) L = -1 from fstI_none fun x hx => HI.out.2 x (by rw [List.take_of_length_le (by rw [HL.out]; omega)]; exact hx))
      go_wp2_with fail
      go_ret
      exact ⟨ret_int HM.out.symm, HI.out.1⟩
def Sf.one (x : Sf) : Int := if Sf.named x = false then 3 else if Sf.proper x = false then 43 else 0
theorem Sf.one_proper {x : Sf} (h : Sf.named x = true) : Sf.one x = if Sf.proper x = false then 43 else 0 := by unfold Sf.one; rw [h]; rfl
set_option maxHeartbeats 400000 in
theorem one36 (p : ByteArray) (f u : Int) (w : World) :
    Calls Try.prog 60 #[.agg #[.string p, .int .i64 f, .int .i64 u]] w fun e w' => e = .returned (.int .i64 (Sf.one ⟨p, f, u⟩)) ∧ Below w.heap.size w w' := by
  obtain ⟨X, hX, HX⟩ := sf_boxB w p f u
  obtain ⟨_, e0, e2, e3, _⟩ := HX.out.2
  have HO := Lib.hid (fun (h : Cd.name p = false) => show Sf.one ⟨p, f, u⟩ = 3 by unfold Sf.one; rw [if_pos (show Sf.named ⟨p, f, u⟩ = false from h)])
  go_enter Try.func60, Try.ntmps60
  go_wp2_with fail
  refine (cname01 p X).mono ?_; rintro e w1 ⟨rfl, rfl⟩
  rcases hn : Cd.name p with _ | _
  · have HR := Lib.hid (HO.out hn)
    go_wp2_with fail
    go_ret
    exact ⟨ret_int HR.out.symm, HX.out.1⟩
  have HP := Lib.hid (show Sf.one ⟨p, f, u⟩ = if (decide (0 ≤ f) && decide (f < u) && decide (u ≤ 1073741824)) = false then 43 else 0 from Sf.one_proper hn)
  go_wp2_with fail
  all_goals
    go_ret
    refine ⟨ret_int ?_, HX.out.1⟩
    rw [HP.out]
    first
      | (rw [if_pos]; rw [Bool.eq_false_iff]; simp; try omega)
      | (rw [if_neg]; rw [Bool.eq_false_iff]; simp; try omega)
set_option maxHeartbeats 400000 in
theorem any36 (A : Option Addr) (n c : Nat) (L : List Sf) (g : Nat) (p : ByteArray) (f u : Int) (w : World) (h : RRow sfRec w w.heap.size A n c L) (hq : SfB w g p f u) :
    Calls Try.prog 108 #[.slice A n c, .func (.func 109) #[] #[.pointer (some ⟨g, 0, none⟩)]] w fun e w' => e = .returned (.bool (Sf.meets L ⟨p, f, u⟩)) ∧ Below w.heap.size w w' := by
  go_enter Try.func108, Try.ntmps108
  go_wp2_with fail
  refine (index36o A n c L g p f u w h hq).mono ?_; rintro e w1 ⟨rfl, hb⟩
  have HB := Lib.hid hb
  have HR := Lib.hid (show decide (0 ≤ fstI (fun y : Sf => y.meet ⟨p, f, u⟩) L) = Sf.meets L ⟨p, f, u⟩ from fstI_nonneg)
  clear hb h hq
  go_wp2_with fail
  all_goals
    go_ret
    exact ⟨retb (by rw [← HR.out]), HB.out⟩
set_option maxHeartbeats 400000 in
theorem overlaps36 (A : Option Addr) (n c : Nat) (L : List Sf) (p : ByteArray) (f u : Int) (w : World) (h : RRow sfRec w w.heap.size A n c L) :
    Calls Try.prog 61 #[.slice A n c, .agg #[.string p, .int .i64 f, .int .i64 u]] w fun e w' => e = .returned (.bool (Sf.meets L ⟨p, f, u⟩)) ∧ Below w.heap.size w w' := by
  obtain ⟨X, hX, HX⟩ := sf_boxB w p f u
  have H := Lib.hid (h.keep HX.out.1 HX.out.1.size)
  clear h
  go_enter Try.func61, Try.ntmps61
  go_wp2_with fail
  refine (any36 A n c L w.heap.size p f u X H.out HX.out.2).mono ?_; rintro e w1 ⟨rfl, hb⟩
  have HB := Lib.hid (HX.out.1.trans (hb.mono HX.out.1.size))
  clear hb
  go_wp2_with fail
  go_ret
  exact ⟨rfl, HB.out⟩
theorem Sf.at_one (L : List Sf) (j : Nat) : Sf.at L j = if Sf.one (L.getD j Sf0) ≠ 0 then Sf.one (L.getD j Sf0) else if 0 < j ∧ Sf.lt (L.getD (j - 1) Sf0) (L.getD j Sf0) = false then 11 else if Sf.meets (L.take j) (L.getD j Sf0) = true then 46 else 0 := by
  unfold Sf.at Sf.one
  by_cases h1 : Sf.named (L.getD j Sf0) = false
  · rw [if_pos h1, if_pos h1, if_pos (by decide)]
  · rw [if_neg h1, if_neg h1]
    by_cases h2 : Sf.proper (L.getD j Sf0) = false
    · rw [if_pos h2, if_pos h2, if_pos (by decide)]
    · rw [if_neg h2, if_neg h2]; simp only [ne_eq, not_true_eq_false, if_false]
set_option maxHeartbeats 1600000 in
set_option maxRecDepth 100000 in
theorem check36 (A : Option Addr) (n c : Nat) (L : List Sf) (w : World) (h : RRow sfRec w w.heap.size A n c L) :
    Calls Try.prog 15 #[.slice A n c] w fun e w' => e = .returned (.int .i64 (Sf.chk L)) ∧ Below w.heap.size w w' := by
  have hm : n ≤ 9223372036854775807 := by have := h.cap; have := h.max; unfold maxLen at this; omega
  have hcc := h.cap
  have hcm : c ≤ 9223372036854775807 := h.max
  by_cases h60 : 60 < n
  · have HR := Lib.hid (show Sf.chk L = 1 by unfold Sf.chk; rw [h.len, if_pos h60])
    have g0 : decide ((60 : Int) < (n : Int)) = true := decide_eq_true (by omega)
    clear h h60
    go_enter Try.func15, Try.ntmps15
    go_wp2_with fail
    go_ret
    exact ⟨congrArg (fun b => Ending.returned (.int .i64 b)) HR.out.symm, Below.refl _ _⟩
  have g0 : decide ((60 : Int) < (n : Int)) = false := decide_eq_false (by omega)
  have H := Lib.hid h
  have HL := Lib.hid h.len
  have HAT := Lib.hid (fun (j : Nat) (h0 : upTo (Sf.at L) j = 0) (hj : j < L.length) (e : Int) (he : Sf.at L j = e) (h9 : e ≠ 0) => Sf.chk_at (by rw [h.len]; omega) h0 hj he h9)
  have hn60 : n ≤ 60 := by omega
  clear h h60
  go_enter Try.func15, Try.ntmps15
  go_wp2_with fail
  go_loopw [11] (fun i wr => ∃ j : Nat, j ≤ n ∧ i = .int .i64 j ∧ Hid (Below w.heap.size w wr ∧ upTo (Sf.at L) j = 0)) (fun i _ => n - (intOf i).toNat)
  case atStart => exact ⟨0, by omega, rfl, Below.refl _ _, rfl⟩
  case round =>
    rename World => Y
    obtain ⟨j, hj, rfl, HI⟩ := hrel
    by_cases hlt : j < n
    · obtain ⟨ad, yp, yf, yu, rfl, HX, c0, c2, c3⟩ := (H.out.keep HI.out.1 HI.out.1.size).sf hlt
      have HAJ := Lib.hid (HAT.out j HI.out.2 HX.out.2.1)
      have HOKJ := Lib.hid (upTo_ok HI.out.2)
      have HDEF := Lib.hid (show Sf.at L j = _ from by rw [Sf.at_one, HX.out.1])
      obtain ⟨Z, hZ, HZ⟩ := sf_boxB Y yp yf yu
      have HBZ := Lib.hid (HI.out.1.trans (HZ.out.1.mono HI.out.1.size))
      obtain ⟨_, e0, e2, e3, _⟩ := HZ.out.2
      go_wp2_with fail
      refine (one36 yp yf yu Z).mono ?_; rintro e w2 ⟨rfl, hb2⟩
      have HB2 := Lib.hid (HBZ.out.trans (hb2.mono HBZ.out.size))
      have HX2 := Lib.hid (HZ.out.2.keep hb2)
      clear hb2 e0 e2 e3 c0 c2 c3
      obtain ⟨_, e0, e2, e3, _⟩ := HX2.out
      obtain ⟨o, ho⟩ : ∃ o, Sf.one ⟨yp, yf, yu⟩ = o := ⟨_, rfl⟩
      rw [ho]
      rw [ho] at HDEF
      clear ho
      by_cases ho0 : o ≠ 0
      · have g1 : (o != 0) = true := by simpa using ho0
        have HR := Lib.hid (HAJ.out o (by rw [HDEF.out, if_pos ho0]) ho0)
        go_wp2_with fail
        go_ret
        exact ⟨congrArg (fun b => Ending.returned (.int .i64 b)) HR.out.symm, HB2.out⟩
      have g1 : (o != 0) = false := by simpa using ho0
      replace HDEF := Lib.hid (show Sf.at L j = _ by rw [HDEF.out, if_neg ho0])
      clear ho0
      obtain ⟨mt, hmt⟩ : ∃ mt, Sf.meets (L.take j) ⟨yp, yf, yu⟩ = mt := ⟨_, rfl⟩
      have HMW := Lib.hid (fun (W : World) (hb : Below w.heap.size w W) => show Calls Try.prog 61 #[.slice (some ad) j c, .agg #[.string yp, .int .i64 yf, .int .i64 yu]] W fun e w' => e = .returned (.bool mt) ∧ Below W.heap.size W w' from by
        rw [← hmt]; exact overlaps36 (some ad) j c (L.take j) yp yf yu W ((H.out.keep hb hb.size).first hj))
      rw [hmt] at HDEF
      clear hmt
      have x0 := Aft.cell e0
      have x2 := Aft.cell e2
      have x3 := Aft.cell e3
      clear e0 e2 e3
      by_cases h0 : j = 0
      rotate_left
      have gj : decide ((0 : Int) < (j : Int)) = true := decide_eq_true (by omega)
      obtain ⟨k, rfl⟩ : ∃ k, j = k + 1 := ⟨j - 1, by omega⟩
      obtain ⟨ad', zp, zf, zu, hA, HY, c0, c2, c3⟩ := (H.out.keep HB2.out HB2.out.size).sf (show k < n by omega)
      obtain rfl : ad = ad' := by injection hA
      have y0 := Aft.cell c0
      have y2 := Aft.cell c2
      have y3 := Aft.cell c3
      clear c0 c2 c3 hA h0
      replace HDEF := Lib.hid (show Sf.at L (k + 1) = if Sf.lt ⟨zp, zf, zu⟩ ⟨yp, yf, yu⟩ = false then 11 else _ by
        rw [HDEF.out, show k + 1 - 1 = k from rfl, HY.out.1]
        simp only [Nat.zero_lt_succ, true_and]
        rfl)
      have hge := Sf.cmp_ge ⟨zp, zf, zu⟩ ⟨yp, yf, yu⟩
      obtain ⟨q, hq⟩ : ∃ q, Sf.cmp ⟨zp, zf, zu⟩ ⟨yp, yf, yu⟩ = q := ⟨_, rfl⟩
      have KC := Lib.hid (fun (W : World) => show Calls Try.prog 64 #[.agg #[.string zp, .int .i64 zf, .int .i64 zu], .agg #[.string yp, .int .i64 yf, .int .i64 yu]] W fun e w' => e = .returned (.int .i64 q) ∧ Below W.heap.size W w' from by
        rw [← hq]; exact compare36 zp zf zu yp yf yu W)
      rw [hq] at hge
      clear hq
      have HGE := Lib.hid hge
      clear hge
      go_wp2_with fail
      refine wp_region_aft (by kernel_rfl) (by kernel_rfl) ?_
      repeat (go_big_quiet_step (first | with_reducible exact Calls.aft (KC.out _)))
      refine wpQuiet_nil ?_
      rintro w3 ⟨⟨_, hb3⟩, rfl⟩
      rcases hna : Sf.lt ⟨zp, zf, zu⟩ ⟨yp, yf, yu⟩ with _ | _
      · have hge := HGE.out
        rw [hna] at hge
        simp only [Bool.not_false] at hge
        rw [hge]
        clear hge
        have HB3 := Lib.hid (HB2.out.trans (hb3.mono HB2.out.size))
        have HR := Lib.hid (HAJ.out 11 (by rw [HDEF.out, if_pos hna]) (by decide))
        clear hb3 x0 x2 x3 y0 y2 y3
        go_wp2_with fail
        go_ret
        exact ⟨congrArg (fun b => Ending.returned (.int .i64 b)) HR.out.symm, HB3.out⟩
      replace HDEF := Lib.hid (show Sf.at L (k + 1) = _ by rw [HDEF.out, if_neg (by rw [hna]; decide)])
      have hge := HGE.out
      rw [hna] at hge
      simp only [Bool.not_true] at hge
      rw [hge]
      clear hge
      clear hna y0 y2 y3 gj
      have hj0 : (0 : Int) ≤ (k : Int) + 1 := by omega
      have hjc : k + 1 ≤ c := by omega
      rotate_left
      subst h0
      replace HDEF := Lib.hid (show Sf.at L 0 = _ by rw [HDEF.out, if_neg (by omega)])
      go_wp2_with fail
      refine wp_region_aft (by kernel_rfl) (by kernel_rfl) ?_
      repeat (go_big_quiet_step (fail))
      refine wpQuiet_nil ?_
      rintro w3 ⟨⟨_, hb3⟩, rfl⟩
      have hj0 : True := trivial
      have hjc : True := trivial
      all_goals
        have HB3 := Lib.hid (HB2.out.trans (hb3.mono HB2.out.size))
        have HX3 := Lib.hid (HX2.out.keep hb3)
        clear hb3 x0 x2 x3
        obtain ⟨_, e0, e2, e3, _⟩ := HX3.out
        have x0 := Aft.cell e0
        have x2 := Aft.cell e2
        have x3 := Aft.cell e3
        have KM := Lib.hid fun x : Aft w3 => Calls.aft (HMW.out x.now (HB3.out.trans (x.below.mono HB3.out.size)))
        clear e0 e2 e3
        go_wp2_with fail
        refine wp_region_aft (by kernel_rfl) (by kernel_rfl) ?_
        repeat (go_big_quiet_step (first | with_reducible exact KM.out _))
        rintro w4 ⟨⟨_, hb4⟩, rfl⟩
        have HB4 := Lib.hid (HB3.out.trans (hb4.mono HB3.out.size))
        clear hb4 x0 x2 x3
        rcases mt with _ | _
        · have HS := Lib.hid (HOKJ.out (by rw [HDEF.out, if_neg (by decide)]))
          go_wp2_with fail
          go_roundw
          case rel => exact ⟨_, by omega, by go_num, HB4.out, HS.out⟩
          case measure => simp [intOf]; try omega
        · have HR := Lib.hid (HAJ.out 46 (by rw [HDEF.out, if_pos rfl]) (by decide))
          go_wp2_with fail
          go_ret
          exact ⟨congrArg (fun b => Ending.returned (.int .i64 b)) HR.out.symm, HB4.out⟩
    · obtain rfl : n = j := by omega
      have HR := Lib.hid (show Sf.chk L = 0 by
        unfold Sf.chk
        rw [if_neg (by rw [HL.out]; omega), HL.out, HI.out.2])
      go_wp2_with fail
      go_ret
      exact ⟨congrArg (fun b => Ending.returned (.int .i64 b)) HR.out.symm, HI.out.1⟩
end Go.Proofs.Ytoomgbddfcmjnaa
