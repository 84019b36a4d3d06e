/- Approvals: the program's Check. -/
import Derived.Test.YtoomgbddfcmjnaaAd
namespace Go.Proofs.Ytoomgbddfcmjnaa
open Go.RowKit
set_option maxHeartbeats 400000 in
theorem cname01 (s : ByteArray) (w : World) : Calls Try.prog 107 #[.string s] w fun e w' => e = .returned (.bool (Cd.name s)) ∧ w = w' := by
  go_enter Try.func107, Try.ntmps107
  go_wp2_with fail
  refine (name01 s w).mono ?_; rintro e w1 ⟨rfl, rfl⟩
  go_wp2_with fail
  go_ret
  exact ⟨rfl, rfl⟩
def Ap.one (x : Ap) : Int := if Ap.named x = false then 3 else if Ap.proper x = false then 43 else 0
theorem Ap.one_proper {x : Ap} (h : Ap.named x = true) : Ap.one x = if Ap.proper x = false then 43 else 0 := by unfold Ap.one; rw [h]; rfl
set_option maxHeartbeats 400000 in
theorem one39 (p r : ByteArray) (f u : Int) (w : World) :
    Calls Try.prog 90 #[.agg #[.string p, .string r, .int .i64 f, .int .i64 u]] w fun e w' => e = .returned (.int .i64 (Ap.one ⟨p, r, f, u⟩)) ∧ Below w.heap.size w w' := by
  obtain ⟨X, hX, HX⟩ := ap_boxB w p r f u
  obtain ⟨_, e0, e1, e2, e3, _⟩ := HX.out.2
  have HN := Lib.hid (show Ap.named ⟨p, r, f, u⟩ = (Cd.name p && Cd.name r) from rfl)
  have HO := Lib.hid (fun (h : Ap.named ⟨p, r, f, u⟩ = false) => show Ap.one ⟨p, r, f, u⟩ = 3 by unfold Ap.one; rw [if_pos h])
  go_enter Try.func90, Try.ntmps90
  go_wp2_with fail
  refine (cname01 p X).mono ?_; rintro e w1 ⟨rfl, rfl⟩
  rcases hn : Cd.name p with _ | _
  · have HR := Lib.hid (HO.out (by rw [HN.out, hn]; rfl))
    go_wp2_with fail
    go_ret
    exact ⟨ret_int HR.out.symm, HX.out.1⟩
  go_wp2_with fail
  refine (cname01 r X).mono ?_; rintro e w1 ⟨rfl, rfl⟩
  rcases hm : Cd.name r with _ | _
  · have HR := Lib.hid (HO.out (by rw [HN.out, hn, hm]; rfl))
    go_wp2_with fail
    go_ret
    exact ⟨ret_int HR.out.symm, HX.out.1⟩
  have HP := Lib.hid (show Ap.one ⟨p, r, f, u⟩ = if (decide (0 ≤ f) && decide (f < u) && decide (u ≤ 1073741824)) = false then 43 else 0 from Ap.one_proper (by rw [HN.out, hn, hm]; rfl))
  go_wp2_with fail
  all_goals
    go_ret
    refine ⟨ret_int ?_, HX.out.1⟩
    rw [HP.out]
    first
      | (rw [if_pos]; rw [Bool.eq_false_iff]; simp; try omega)
      | (rw [if_neg]; rw [Bool.eq_false_iff]; simp; try omega)
set_option maxHeartbeats 400000 in
theorem any39 (A : Option Addr) (n c : Nat) (L : List Ap) (g : Nat) (p r : ByteArray) (f u : Int) (w : World) (h : RRow apRec w w.heap.size A n c L) (hq : ApB w g p r f u) :
    Calls Try.prog 127 #[.slice A n c, .func (.func 128) #[] #[.pointer (some ⟨g, 0, none⟩)]] w fun e w' => e = .returned (.bool (Ap.meets L ⟨p, r, f, u⟩)) ∧ Below w.heap.size w w' := by
  go_enter Try.func127, Try.ntmps127
  go_wp2_with fail
  refine (index39o A n c L g p r f u w h hq).mono ?_; rintro e w1 ⟨rfl, hb⟩
  have HB := Lib.hid hb
  have HR := Lib.hid (show decide (0 ≤ fstI (fun y : Ap => y.meet ⟨p, r, f, u⟩) L) = Ap.meets L ⟨p, r, f, u⟩ from fstI_nonneg)
  clear hb h hq
  go_wp2_with fail
  all_goals
    go_ret
    exact ⟨retb (by rw [← HR.out]), HB.out⟩
set_option maxHeartbeats 400000 in
theorem overlaps39 (A : Option Addr) (n c : Nat) (L : List Ap) (p r : ByteArray) (f u : Int) (w : World) (h : RRow apRec w w.heap.size A n c L) :
    Calls Try.prog 92 #[.slice A n c, .agg #[.string p, .string r, .int .i64 f, .int .i64 u]] w fun e w' => e = .returned (.bool (Ap.meets L ⟨p, r, f, u⟩)) ∧ Below w.heap.size w w' := by
  obtain ⟨X, hX, HX⟩ := ap_boxB w p r f u
  have H := Lib.hid (h.keep HX.out.1 HX.out.1.size)
  clear h
  go_enter Try.func92, Try.ntmps92
  go_wp2_with fail
  refine (any39 A n c L w.heap.size p r f u X H.out HX.out.2).mono ?_; rintro e w1 ⟨rfl, hb⟩
  have HB := Lib.hid (HX.out.1.trans (hb.mono HX.out.1.size))
  clear hb
  go_wp2_with fail
  go_ret
  exact ⟨rfl, HB.out⟩
theorem Ap.at_one (L : List Ap) (j : Nat) : Ap.at L j = if Ap.one (L.getD j Ap0) ≠ 0 then Ap.one (L.getD j Ap0) else if 0 < j ∧ Ap.lt (L.getD (j - 1) Ap0) (L.getD j Ap0) = false then 11 else if Ap.meets (L.take j) (L.getD j Ap0) = true then 10 else 0 := by
  unfold Ap.at Ap.one
  by_cases h1 : Ap.named (L.getD j Ap0) = false
  · rw [if_pos h1, if_pos h1, if_pos (by decide)]
  · rw [if_neg h1, if_neg h1]
    by_cases h2 : Ap.proper (L.getD j Ap0) = false
    · rw [if_pos h2, if_pos h2, if_pos (by decide)]
    · rw [if_neg h2, if_neg h2]; simp only [ne_eq, not_true_eq_false, if_false]
set_option maxHeartbeats 1600000 in
set_option maxRecDepth 100000 in
theorem check39 (A : Option Addr) (n c : Nat) (L : List Ap) (w : World) (h : RRow apRec w w.heap.size A n c L) :
    Calls Try.prog 47 #[.slice A n c] w fun e w' => e = .returned (.int .i64 (Ap.chk L)) ∧ Below w.heap.size w w' := by
  have hm : n ≤ 9223372036854775807 := by have := h.cap; have := h.max; unfold maxLen at this; omega
  have hcc := h.cap
  have hcm : c ≤ 9223372036854775807 := h.max
  by_cases h60 : 60 < n
  · have HR := Lib.hid (show Ap.chk L = 1 by unfold Ap.chk; rw [h.len, if_pos h60])
    have g0 : decide ((60 : Int) < (n : Int)) = true := decide_eq_true (by omega)
    clear h h60
    go_enter Try.func47, Try.ntmps47
    go_wp2_with fail
    go_ret
    exact ⟨congrArg (fun b => Ending.returned (.int .i64 b)) HR.out.symm, Below.refl _ _⟩
  have g0 : decide ((60 : Int) < (n : Int)) = false := decide_eq_false (by omega)
  have H := Lib.hid h
  have HL := Lib.hid h.len
  have HAT := Lib.hid (fun (j : Nat) (h0 : upTo (Ap.at L) j = 0) (hj : j < L.length) (e : Int) (he : Ap.at L j = e) (h9 : e ≠ 0) => Ap.chk_at (by rw [h.len]; omega) h0 hj he h9)
  have hn60 : n ≤ 60 := by omega
  clear h h60
  go_enter Try.func47, Try.ntmps47
  go_wp2_with fail
  go_loopw [11] (fun i wr => ∃ j : Nat, j ≤ n ∧ i = .int .i64 j ∧ Hid (Below w.heap.size w wr ∧ upTo (Ap.at L) j = 0)) (fun i _ => n - (intOf i).toNat)
  case atStart => exact ⟨0, by omega, rfl, Below.refl _ _, rfl⟩
  case round =>
    rename World => Y
    obtain ⟨j, hj, rfl, HI⟩ := hrel
    by_cases hlt : j < n
    · obtain ⟨ad, yp, yr, yf, yu, rfl, HX, c0, c1, c2, c3⟩ := (H.out.keep HI.out.1 HI.out.1.size).ap hlt
      have HAJ := Lib.hid (HAT.out j HI.out.2 HX.out.2.1)
      have HOKJ := Lib.hid (upTo_ok HI.out.2)
      have HDEF := Lib.hid (show Ap.at L j = _ from by rw [Ap.at_one, HX.out.1])
      obtain ⟨Z, hZ, HZ⟩ := ap_boxB Y yp yr yf yu
      have HBZ := Lib.hid (HI.out.1.trans (HZ.out.1.mono HI.out.1.size))
      obtain ⟨_, e0, e1, e2, e3, _⟩ := HZ.out.2
      go_wp2_with fail
      refine (one39 yp yr yf yu Z).mono ?_; rintro e w2 ⟨rfl, hb2⟩
      have HB2 := Lib.hid (HBZ.out.trans (hb2.mono HBZ.out.size))
      have HX2 := Lib.hid (HZ.out.2.keep hb2)
      clear hb2 e0 e1 e2 e3 c0 c1 c2 c3
      obtain ⟨_, e0, e1, e2, e3, _⟩ := HX2.out
      obtain ⟨o, ho⟩ : ∃ o, Ap.one ⟨yp, yr, yf, yu⟩ = o := ⟨_, rfl⟩
      rw [ho]
      rw [ho] at HDEF
      clear ho
      by_cases ho0 : o ≠ 0
      · have g1 : (o != 0) = true := by simpa using ho0
        have HR := Lib.hid (HAJ.out o (by rw [HDEF.out, if_pos ho0]) ho0)
        go_wp2_with fail
        go_ret
        exact ⟨congrArg (fun b => Ending.returned (.int .i64 b)) HR.out.symm, HB2.out⟩
      have g1 : (o != 0) = false := by simpa using ho0
      replace HDEF := Lib.hid (show Ap.at L j = _ by rw [HDEF.out, if_neg ho0])
      clear ho0
      obtain ⟨mt, hmt⟩ : ∃ mt, Ap.meets (L.take j) ⟨yp, yr, yf, yu⟩ = mt := ⟨_, rfl⟩
      have HMW := Lib.hid (fun (W : World) (hb : Below w.heap.size w W) => show Calls Try.prog 92 #[.slice (some ad) j c, .agg #[.string yp, .string yr, .int .i64 yf, .int .i64 yu]] W fun e w' => e = .returned (.bool mt) ∧ Below W.heap.size W w' from by
        rw [← hmt]; exact overlaps39 (some ad) j c (L.take j) yp yr yf yu W ((H.out.keep hb hb.size).first hj))
      rw [hmt] at HDEF
      clear hmt
      have x0 := Aft.cell e0
      have x1 := Aft.cell e1
      have x2 := Aft.cell e2
      have x3 := Aft.cell e3
      clear e0 e1 e2 e3
      by_cases h0 : j = 0
      rotate_left
      have gj : decide ((0 : Int) < (j : Int)) = true := decide_eq_true (by omega)
      obtain ⟨k, rfl⟩ : ∃ k, j = k + 1 := ⟨j - 1, by omega⟩
      obtain ⟨ad', zp, zr, zf, zu, hA, HY, c0, c1, c2, c3⟩ := (H.out.keep HB2.out HB2.out.size).ap (show k < n by omega)
      obtain rfl : ad = ad' := by injection hA
      have y0 := Aft.cell c0
      have y1 := Aft.cell c1
      have y2 := Aft.cell c2
      have y3 := Aft.cell c3
      clear c0 c1 c2 c3 hA h0
      replace HDEF := Lib.hid (show Ap.at L (k + 1) = if Ap.lt ⟨zp, zr, zf, zu⟩ ⟨yp, yr, yf, yu⟩ = false then 11 else _ by
        rw [HDEF.out, show k + 1 - 1 = k from rfl, HY.out.1]
        simp only [Nat.zero_lt_succ, true_and]
        rfl)
      have hge := Ap.cmp_ge ⟨zp, zr, zf, zu⟩ ⟨yp, yr, yf, yu⟩
      obtain ⟨q, hq⟩ : ∃ q, Ap.cmp ⟨zp, zr, zf, zu⟩ ⟨yp, yr, yf, yu⟩ = q := ⟨_, rfl⟩
      have KC := Lib.hid (fun (W : World) => show Calls Try.prog 91 #[.agg #[.string zp, .string zr, .int .i64 zf, .int .i64 zu], .agg #[.string yp, .string yr, .int .i64 yf, .int .i64 yu]] W fun e w' => e = .returned (.int .i64 q) ∧ Below W.heap.size W w' from by
        rw [← hq]; exact compare39 zp zr zf zu yp yr yf yu W)
      rw [hq] at hge
      clear hq
      have HGE := Lib.hid hge
      clear hge
      go_wp2_with fail
      refine wp_region_aft (by kernel_rfl) (by kernel_rfl) ?_
      repeat (go_big_quiet_step (first | with_reducible exact Calls.aft (KC.out _)))
      refine wpQuiet_nil ?_
      rintro w3 ⟨⟨_, hb3⟩, rfl⟩
      rcases hna : Ap.lt ⟨zp, zr, zf, zu⟩ ⟨yp, yr, yf, yu⟩ with _ | _
      · have hge := HGE.out
        rw [hna] at hge
        simp only [Bool.not_false] at hge
        rw [hge]
        clear hge
        have HB3 := Lib.hid (HB2.out.trans (hb3.mono HB2.out.size))
        have HR := Lib.hid (HAJ.out 11 (by rw [HDEF.out, if_pos hna]) (by decide))
        clear hb3 x0 x1 x2 x3 y0 y1 y2 y3
        go_wp2_with fail
        go_ret
        exact ⟨congrArg (fun b => Ending.returned (.int .i64 b)) HR.out.symm, HB3.out⟩
      replace HDEF := Lib.hid (show Ap.at L (k + 1) = _ by rw [HDEF.out, if_neg (by rw [hna]; decide)])
      have hge := HGE.out
      rw [hna] at hge
      simp only [Bool.not_true] at hge
      rw [hge]
      clear hge
      clear hna y0 y1 y2 y3 gj
      have hj0 : (0 : Int) ≤ (k : Int) + 1 := by omega
      have hjc : k + 1 ≤ c := by omega
      rotate_left
      subst h0
      replace HDEF := Lib.hid (show Ap.at L 0 = _ by rw [HDEF.out, if_neg (by omega)])
      go_wp2_with fail
      refine wp_region_aft (by kernel_rfl) (by kernel_rfl) ?_
      repeat (go_big_quiet_step (fail))
      refine wpQuiet_nil ?_
      rintro w3 ⟨⟨_, hb3⟩, rfl⟩
      have hj0 : True := trivial
      have hjc : True := trivial
      all_goals
        have HB3 := Lib.hid (HB2.out.trans (hb3.mono HB2.out.size))
        have HX3 := Lib.hid (HX2.out.keep hb3)
        clear hb3 x0 x1 x2 x3
        obtain ⟨_, e0, e1, e2, e3, _⟩ := HX3.out
        have x0 := Aft.cell e0
        have x1 := Aft.cell e1
        have x2 := Aft.cell e2
        have x3 := Aft.cell e3
        have KM := Lib.hid fun x : Aft w3 => Calls.aft (HMW.out x.now (HB3.out.trans (x.below.mono HB3.out.size)))
        clear e0 e1 e2 e3
        go_wp2_with fail
        refine wp_region_aft (by kernel_rfl) (by kernel_rfl) ?_
        repeat (go_big_quiet_step (first | with_reducible exact KM.out _))
        rintro w4 ⟨⟨_, hb4⟩, rfl⟩
        have HB4 := Lib.hid (HB3.out.trans (hb4.mono HB3.out.size))
        clear hb4 x0 x1 x2 x3
        rcases mt with _ | _
        · have HS := Lib.hid (HOKJ.out (by rw [HDEF.out, if_neg (by decide)]))
          go_wp2_with fail
          go_roundw
          case rel => exact ⟨_, by omega, by go_num, HB4.out, HS.out⟩
          case measure => simp [intOf]; try omega
        · have HR := Lib.hid (HAJ.out 10 (by rw [HDEF.out, if_pos rfl]) (by decide))
          go_wp2_with fail
          go_ret
          exact ⟨congrArg (fun b => Ending.returned (.int .i64 b)) HR.out.symm, HB4.out⟩
    · obtain rfl : n = j := by omega
      have HR := Lib.hid (show Ap.chk L = 0 by
        unfold Ap.chk
        rw [if_neg (by rw [HL.out]; omega), HL.out, HI.out.2])
      go_wp2_with fail
      go_ret
      exact ⟨congrArg (fun b => Ending.returned (.int .i64 b)) HR.out.symm, HI.out.1⟩
end Go.Proofs.Ytoomgbddfcmjnaa
