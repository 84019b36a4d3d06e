/- Approvals: the reference's Check. -/
import Derived.Test.YtoomgbddfcmjnaaAa
namespace Go.Proofs.Ytoomgbddfcmjnaa
open Go.RowKit
def upTo (a : Nat → Int) : Nat → Int
  | 0 => 0
  | j + 1 => if upTo a j ≠ 0 then upTo a j else a j
theorem upTo_bad {a : Nat → Int} {j : Nat} (h : upTo a j ≠ 0) : ∀ {k : Nat}, j ≤ k → upTo a k = upTo a j
  | 0, hk => by obtain rfl : j = 0 := by omega
                rfl
  | k + 1, hk => by
    rcases Nat.lt_or_ge k j with h1 | h1
    · obtain rfl : j = k + 1 := by omega
      rfl
    · have e := upTo_bad h h1
      simp only [upTo]
      rw [if_pos (by rw [e]; exact h), e]
theorem upTo_at {a : Nat → Int} {j n : Nat} (h0 : upTo a j = 0) (hj : j < n) (h : a j ≠ 0) : upTo a n = a j := by
  have e : upTo a (j + 1) = a j := by simp only [upTo]; rw [if_neg (by simpa using h0)]
  rw [upTo_bad (j := j + 1) (by rw [e]; exact h) hj, e]
theorem upTo_ok {a : Nat → Int} {j : Nat} (h0 : upTo a j = 0) (h : a j = 0) : upTo a (j + 1) = 0 := by simp only [upTo]; rw [if_neg (by simpa using h0), h]
theorem upTo_zero {a : Nat → Int} : ∀ {n : Nat}, upTo a n = 0 ↔ ∀ j, j < n → a j = 0
  | 0 => ⟨fun _ j hj => by omega, fun _ => rfl⟩
  | n + 1 => by
    simp only [upTo]
    by_cases h : upTo a n = 0
    · rw [if_neg (by simpa using h)]
      constructor
      · intro e j hj
        rcases Nat.lt_or_ge j n with h1 | h1
        · exact upTo_zero.1 h j h1
        · obtain rfl : j = n := by omega
          exact e
      · intro e; exact e n (by omega)
    · rw [if_pos h]
      constructor
      · intro e; exact absurd e h
      · intro e; exact absurd (upTo_zero.2 fun j hj => e j (by omega)) h
def Ap.at (L : List Ap) (j : Nat) : Int :=
  if Ap.named (L.getD j Ap0) = false then 3 else if Ap.proper (L.getD j Ap0) = false then 43
  else if 0 < j ∧ Ap.lt (L.getD (j - 1) Ap0) (L.getD j Ap0) = false then 11 else if Ap.meets (L.take j) (L.getD j Ap0) = true then 10 else 0
def Ap.chk (L : List Ap) : Int := if 60 < L.length then 1 else upTo (Ap.at L) L.length
theorem Ap.chk_at {L : List Ap} {j : Nat} (hl : L.length ≤ 60) (h0 : upTo (Ap.at L) j = 0) (hj : j < L.length) {e : Int} (h : Ap.at L j = e) (he : e ≠ 0) : Ap.chk L = e := by
  unfold Ap.chk
  rw [if_neg (by omega), upTo_at h0 hj (by rw [h]; exact he), h]
/-- a variable that holds an approval -/
structure ApB (w : World) (g : Nat) (p r : ByteArray) (f u : Int) : Prop where
  lt : g < w.heap.size
  c0 : w.cell? ⟨g, 0, none⟩ = some (.string p)
  c1 : w.cell? ⟨g, 1, none⟩ = some (.string r)
  c2 : w.cell? ⟨g, 2, none⟩ = some (.int .i64 f)
  c3 : w.cell? ⟨g, 3, none⟩ = some (.int .i64 u)
  blk : ∃ cs, cs.size = 4 ∧ w.heap[g]? = some (.cells cs 74 (0, 0))
theorem ApB.keep {w w' : World} {g : Nat} {p r : ByteArray} {f u : Int} (h : ApB w g p r f u) (hb : Below w.heap.size w w') : ApB w' g p r f u :=
  ⟨by have := h.lt; have := hb.size; omega, (hb.cell h.lt).trans h.c0, (hb.cell h.lt).trans h.c1, (hb.cell h.lt).trans h.c2, (hb.cell h.lt).trans h.c3, by obtain ⟨cs, h1, h2⟩ := h.blk; exact ⟨cs, h1, (hb.block g h.lt).trans h2⟩⟩
theorem ap_boxB (w : World) (p r : ByteArray) (f u : Int) : ∃ X : World, w.alloc (.cells #[.string p, .string r, .int .i64 f, .int .i64 u] 74) = X ∧ Hid (Below w.heap.size w X ∧ ApB X w.heap.size p r f u) := by
  obtain ⟨X, h, hb, hl, e0, e1, e2, e3⟩ := ap_box w p r f u
  exact ⟨X, h, hb, hl, e0, e1, e2, e3, _, rfl, by rw [← h]; exact heap_alloc_new _ _⟩
set_option maxHeartbeats 1600000 in
set_option maxRecDepth 100000 in
theorem rcheck39 (A : Option Addr) (n c : Nat) (L : List Ap) (w : World) (h : RRow apRec w w.heap.size A n c L) :
    Calls Try.prog 48 #[.slice A n c] w fun e w' => e = .returned (.int .i64 (Ap.chk L)) ∧ Below w.heap.size w w' := by
  have hm : n ≤ 9223372036854775807 := by have := h.cap; have := h.max; unfold maxLen at this; omega
  have hcc := h.cap
  have hcm : c ≤ 9223372036854775807 := h.max
  by_cases h60 : 60 < n
  · have HR := Lib.hid (show Ap.chk L = 1 by unfold Ap.chk; rw [h.len, if_pos h60])
    have g0 : decide ((60 : Int) < (n : Int)) = true := decide_eq_true (by omega)
    clear h h60
    go_enter Try.func48, Try.ntmps48
    go_wp2_with fail
    go_ret
    exact ⟨congrArg (fun b => Ending.returned (.int .i64 b)) HR.out.symm, Below.refl _ _⟩
  have g0 : decide ((60 : Int) < (n : Int)) = false := decide_eq_false (by omega)
  have H := Lib.hid h
  have HL := Lib.hid h.len
  have HAT := Lib.hid (fun (j : Nat) (h0 : upTo (Ap.at L) j = 0) (hj : j < L.length) (e : Int) (he : Ap.at L j = e) (h9 : e ≠ 0) => Ap.chk_at (by rw [h.len]; omega) h0 hj he h9)
  have hn60 : n ≤ 60 := by omega
  clear h h60
  go_enter Try.func48, Try.ntmps48
  go_wp2_with fail
  go_loopw [10] (fun i wr => ∃ j : Nat, j ≤ n ∧ i = .int .i64 j ∧ Hid (Below w.heap.size w wr ∧ upTo (Ap.at L) j = 0)) (fun i _ => n - (intOf i).toNat)
  case atStart => exact ⟨0, by omega, rfl, Below.refl _ _, rfl⟩
  case round =>
    rename World => Y
    obtain ⟨j, hj, rfl, HI⟩ := hrel
    by_cases hlt : j < n
    · obtain ⟨ad, yp, yr, yf, yu, rfl, HX, c0, c1, c2, c3⟩ := (H.out.keep HI.out.1 HI.out.1.size).ap hlt
      have HAJ := Lib.hid (HAT.out j HI.out.2 HX.out.2.1)
      have HOKJ := Lib.hid (upTo_ok HI.out.2)
      have HDEF := Lib.hid (show Ap.at L j = _ from by unfold Ap.at; rw [HX.out.1])
      obtain ⟨Z, hZ, HZ⟩ := ap_boxB Y yp yr yf yu
      have HBZ := Lib.hid (HI.out.1.trans (HZ.out.1.mono HI.out.1.size))
      obtain ⟨_, e0, e1, e2, e3, _⟩ := HZ.out.2
      go_wp2_with fail
      refine (rnamed39 yp yr yf yu Z).mono ?_; rintro e w1 ⟨rfl, hb1⟩
      have HB1 := Lib.hid (HBZ.out.trans (hb1.mono HBZ.out.size))
      have HX1 := Lib.hid (HZ.out.2.keep hb1)
      clear hb1 e0 e1 e2 e3 c0 c1 c2 c3
      obtain ⟨_, e0, e1, e2, e3, _⟩ := HX1.out
      rcases hna : Ap.named ⟨yp, yr, yf, yu⟩ with _ | _
      · have HR := Lib.hid (HAJ.out 3 (by rw [HDEF.out, if_pos hna]) (by decide))
        go_wp2_with fail
        go_ret
        exact ⟨congrArg (fun b => Ending.returned (.int .i64 b)) HR.out.symm, HB1.out⟩
      replace HDEF := Lib.hid (show Ap.at L j = _ by rw [HDEF.out, if_neg (by rw [hna]; decide)])
      clear hna
      go_wp2_with fail
      refine (rproper39 yp yr yf yu w1).mono ?_; rintro e w2 ⟨rfl, hb2⟩
      have HB2 := Lib.hid (HB1.out.trans (hb2.mono HB1.out.size))
      have HX2 := Lib.hid (HX1.out.keep hb2)
      clear hb2 e0 e1 e2 e3
      obtain ⟨_, e0, e1, e2, e3, _⟩ := HX2.out
      rcases hna : Ap.proper ⟨yp, yr, yf, yu⟩ with _ | _
      · have HR := Lib.hid (HAJ.out 43 (by rw [HDEF.out, if_pos hna]) (by decide))
        go_wp2_with fail
        go_ret
        exact ⟨congrArg (fun b => Ending.returned (.int .i64 b)) HR.out.symm, HB2.out⟩
      replace HDEF := Lib.hid (show Ap.at L j = _ by rw [HDEF.out, if_neg (by rw [hna]; decide)])
      clear hna
      obtain ⟨mt, hmt⟩ : ∃ mt, Ap.meets (L.take j) ⟨yp, yr, yf, yu⟩ = mt := ⟨_, rfl⟩
      have HMW := Lib.hid (fun (W : World) (hb : Below w.heap.size w W) => show Calls Try.prog 96 #[.slice (some ad) j c, .agg #[.string yp, .string yr, .int .i64 yf, .int .i64 yu]] W fun e w' => e = .returned (.bool mt) ∧ Below W.heap.size W w' from by
        rw [← hmt]; exact rmeets39 (some ad) j c (L.take j) yp yr yf yu W ((H.out.keep hb hb.size).first hj))
      rw [hmt] at HDEF
      clear hmt
      have x0 := Aft.cell e0
      have x1 := Aft.cell e1
      have x2 := Aft.cell e2
      have x3 := Aft.cell e3
      clear e0 e1 e2 e3
      by_cases h0 : j = 0
      rotate_left
      have gj : decide ((0 : Int) < (j : Int)) = true := decide_eq_true (by omega)
      obtain ⟨k, rfl⟩ : ∃ k, j = k + 1 := ⟨j - 1, by omega⟩
      obtain ⟨ad', zp, zr, zf, zu, hA, HY, c0, c1, c2, c3⟩ := (H.out.keep HB2.out HB2.out.size).ap (show k < n by omega)
      obtain rfl : ad = ad' := by injection hA
      have y0 := Aft.cell c0
      have y1 := Aft.cell c1
      have y2 := Aft.cell c2
      have y3 := Aft.cell c3
      clear c0 c1 c2 c3 hA h0
      replace HDEF := Lib.hid (show Ap.at L (k + 1) = if Ap.lt ⟨zp, zr, zf, zu⟩ ⟨yp, yr, yf, yu⟩ = false then 11 else _ by
        rw [HDEF.out, show k + 1 - 1 = k from rfl, HY.out.1]
        simp only [Nat.zero_lt_succ, true_and]
        rfl)
      go_wp2_with fail
      refine wp_region_aft (by kernel_rfl) (by kernel_rfl) ?_
      repeat (go_big_quiet_step (first | with_reducible exact Calls.aft (rbefore39 zp zr zf zu yp yr yf yu _)))
      refine wpQuiet_nil ?_
      rintro w3 ⟨⟨_, hb3⟩, rfl⟩
      rcases hna : Ap.lt ⟨zp, zr, zf, zu⟩ ⟨yp, yr, yf, yu⟩ with _ | _
      · have HB3 := Lib.hid (HB2.out.trans (hb3.mono HB2.out.size))
        have HR := Lib.hid (HAJ.out 11 (by rw [HDEF.out, if_pos hna]) (by decide))
        clear hb3 x0 x1 x2 x3 y0 y1 y2 y3
        go_wp2_with fail
        go_ret
        exact ⟨congrArg (fun b => Ending.returned (.int .i64 b)) HR.out.symm, HB3.out⟩
      replace HDEF := Lib.hid (show Ap.at L (k + 1) = _ by rw [HDEF.out, if_neg (by rw [hna]; decide)])
      clear hna y0 y1 y2 y3 gj
      have hj0 : (0 : Int) ≤ (k : Int) + 1 := by omega
      have hjc : k + 1 ≤ c := by omega
      rotate_left
      subst h0
      replace HDEF := Lib.hid (show Ap.at L 0 = _ by rw [HDEF.out, if_neg (by omega)])
      go_wp2_with fail
      refine wp_region_aft (by kernel_rfl) (by kernel_rfl) ?_
      repeat (go_big_quiet_step (fail))
      refine wpQuiet_nil ?_
      rintro w3 ⟨⟨_, hb3⟩, rfl⟩
      have hj0 : True := trivial
      have hjc : True := trivial
      all_goals
        have HB3 := Lib.hid (HB2.out.trans (hb3.mono HB2.out.size))
        have HX3 := Lib.hid (HX2.out.keep hb3)
        clear hb3 x0 x1 x2 x3
        obtain ⟨_, e0, e1, e2, e3, _⟩ := HX3.out
        have x0 := Aft.cell e0
        have x1 := Aft.cell e1
        have x2 := Aft.cell e2
        have x3 := Aft.cell e3
        have KM := Lib.hid fun x : Aft w3 => Calls.aft (HMW.out x.now (HB3.out.trans (x.below.mono HB3.out.size)))
        clear e0 e1 e2 e3
        go_wp2_with fail
        refine wp_region_aft (by kernel_rfl) (by kernel_rfl) ?_
        repeat (go_big_quiet_step (first | with_reducible exact KM.out _))
        rintro w4 ⟨⟨_, hb4⟩, rfl⟩
        have HB4 := Lib.hid (HB3.out.trans (hb4.mono HB3.out.size))
        clear hb4 x0 x1 x2 x3
        rcases mt with _ | _
        · have HS := Lib.hid (HOKJ.out (by rw [HDEF.out, if_neg (by decide)]))
          go_wp2_with fail
          go_roundw
          case rel => exact ⟨_, by omega, by go_num, HB4.out, HS.out⟩
          case measure => simp [intOf]; try omega
        · have HR := Lib.hid (HAJ.out 10 (by rw [HDEF.out, if_pos rfl]) (by decide))
          go_wp2_with fail
          go_ret
          exact ⟨congrArg (fun b => Ending.returned (.int .i64 b)) HR.out.symm, HB4.out⟩
    · obtain rfl : n = j := by omega
      have HR := Lib.hid (show Ap.chk L = 0 by
        unfold Ap.chk
        rw [if_neg (by rw [HL.out]; omega), HL.out, HI.out.2])
      go_wp2_with fail
      go_ret
      exact ⟨congrArg (fun b => Ending.returned (.int .i64 b)) HR.out.symm, HI.out.1⟩
end Go.Proofs.Ytoomgbddfcmjnaa
