/- Rota: the records of shifts; the reference's small functions and Check. -/
import Derived.Test.YtoomgbddfcmjnaaAe
import Derived.Test.YtoomgbddfcmjnaaAn
namespace Go.Proofs.Ytoomgbddfcmjnaa
open Go.RowKit
structure Sf where
  p : ByteArray
  f : Int
  u : Int
def Sf0 : Sf := ⟨⟨#[]⟩, 0, 0⟩
def sfRec : Rec Sf := ⟨3, Sf0, 31, fun x => [.string x.p, .int .i64 x.f, .int .i64 x.u], fun _ => rfl, by decide, fun x u hu => by
  simp only [List.mem_cons, List.not_mem_nil, or_false] at hu
  rcases hu with rfl | rfl | rfl <;> rfl⟩
theorem sf_info : (Try.prog.info? sfRec.ty).map (fun i => (i.zero, i.size, i.bytes)) = some (some (.agg #[.string ⟨#[]⟩, .int .i64 0, .int .i64 0]), sfRec.k, 32) := by kernel_rfl
theorem RRow.sf {w : World} {B : Nat} {A : Option Addr} {n c : Nat} {L : List Sf} (h : RRow sfRec w B A n c L) {j : Nat} (hj : j < n) :
    ∃ (ad : Addr) (p : ByteArray) (f u : Int), A = some ad ∧ Hid (L.getD j Sf0 = ⟨p, f, u⟩ ∧ j < L.length ∧ ad.block < B) ∧ w.cell? (ad.add (j * 3)) = some (.string p) ∧ w.cell? ⟨(ad.add (j * 3)).block, (ad.add (j * 3)).off + 1, none⟩ = some (.int .i64 f) ∧ w.cell? ⟨(ad.add (j * 3)).block, (ad.add (j * 3)).off + 2, none⟩ = some (.int .i64 u) := by
  obtain ⟨g, e, hlt, hc⟩ := h.cells (by omega)
  have hc' : ∀ i v, (sfRec.cells (L.getD j sfRec.d))[i]? = some v → w.cell? ((g.add (j * 3)).add i) = some v := fun i v hv => by
    rw [add_add]; exact hc j hj i v hv
  exact ⟨g, _, _, _, e, ⟨rfl, by rw [h.len]; exact hj, hlt⟩, hc' 0 _ rfl, hc' 1 _ rfl, hc' 2 _ rfl⟩
def Sf.proper (x : Sf) : Bool := decide (0 ≤ x.f) && decide (x.f < x.u) && decide (x.u ≤ 1073741824)
def Sf.lt (a b : Sf) : Bool := decide (a.f < b.f) || (decide (a.f = b.f) && Op.bytesLess a.p.toList b.p.toList)
def Sf.meet (y x : Sf) : Bool := (y.p.toList == x.p.toList) && decide (y.f < x.u) && decide (x.f < y.u)
def Sf.has (x : Sf) (t : Int) : Bool := decide (x.f ≤ t) && decide (t < x.u)
def Sf.named (x : Sf) : Bool := Cd.name x.p
def Sf.meets (L : List Sf) (x : Sf) : Bool := L.any fun y => y.meet x
set_option maxHeartbeats 400000 in
theorem rproper36 (p : ByteArray) (f u : Int) (w : World) :
    Calls Try.prog 104 #[.agg #[.string p, .int .i64 f, .int .i64 u]] w fun e w' => e = .returned (.bool (Sf.proper ⟨p, f, u⟩)) ∧ Below w.heap.size w w' := by
  go_enter Try.func104, Try.ntmps104
  go_wp2_with fail
  all_goals (go_ret; exact ⟨retb (by unfold Sf.proper; rw [Bool.eq_iff_iff]; simp; try omega), below_one _⟩)
set_option maxHeartbeats 400000 in
theorem rbefore36 (p : ByteArray) (f u : Int) (p' : ByteArray) (f' u' : Int) (w : World) :
    Calls Try.prog 106 #[.agg #[.string p, .int .i64 f, .int .i64 u], .agg #[.string p', .int .i64 f', .int .i64 u']] w fun e w' => e = .returned (.bool (Sf.lt ⟨p, f, u⟩ ⟨p', f', u'⟩)) ∧ Below w.heap.size w w' := by
  go_enter Try.func106, Try.ntmps106
  go_wp2_with fail
  all_goals (go_ret; exact ⟨retb (by unfold Sf.lt; rw [Bool.eq_iff_iff]; simp <;> omega), below_two _ _⟩)
/-- a variable that holds a shift -/
structure SfB (w : World) (g : Nat) (p : ByteArray) (f u : Int) : Prop where
  lt : g < w.heap.size
  c0 : w.cell? ⟨g, 0, none⟩ = some (.string p)
  c2 : w.cell? ⟨g, 1, none⟩ = some (.int .i64 f)
  c3 : w.cell? ⟨g, 2, none⟩ = some (.int .i64 u)
  blk : ∃ cs, cs.size = 3 ∧ w.heap[g]? = some (.cells cs 31 (0, 0))
theorem SfB.keep {w w' : World} {g : Nat} {p : ByteArray} {f u : Int} (h : SfB w g p f u) (hb : Below w.heap.size w w') : SfB w' g p f u :=
  ⟨by have := h.lt; have := hb.size; omega, (hb.cell h.lt).trans h.c0, (hb.cell h.lt).trans h.c2, (hb.cell h.lt).trans h.c3, by obtain ⟨cs, h1, h2⟩ := h.blk; exact ⟨cs, h1, (hb.block g h.lt).trans h2⟩⟩
theorem sf_box (w : World) (p : ByteArray) (f u : Int) : ∃ X : World, w.alloc (.cells #[.string p, .int .i64 f, .int .i64 u] 31) = X ∧ Below w.heap.size w X ∧ w.heap.size < X.heap.size ∧
    X.cell? ⟨w.heap.size, 0, none⟩ = some (.string p) ∧ X.cell? ⟨w.heap.size, 1, none⟩ = some (.int .i64 f) ∧ X.cell? ⟨w.heap.size, 2, none⟩ = some (.int .i64 u) :=
  ⟨_, rfl, below_one _, by simp, by simp [go_sem], by simp [go_sem], by simp [go_sem]⟩
theorem sf_boxB (w : World) (p : ByteArray) (f u : Int) : ∃ X : World, w.alloc (.cells #[.string p, .int .i64 f, .int .i64 u] 31) = X ∧ Hid (Below w.heap.size w X ∧ SfB X w.heap.size p f u) := by
  obtain ⟨X, h, hb, hl, e0, e2, e3⟩ := sf_box w p f u
  exact ⟨X, h, hb, hl, e0, e2, e3, _, rfl, by rw [← h]; exact heap_alloc_new _ _⟩
theorem Sf.any_take {L : List Sf} {j : Nat} {x y : Sf} (h : L.getD j Sf0 = y ∧ j < L.length) : Sf.meets (L.take (j + 1)) x = (Sf.meets (L.take j) x || y.meet x) := by
  unfold Sf.meets
  rw [List.take_succ_eq_append_getElem h.2, List.any_append]
  have h9 := h.1
  simp only [List.getD, List.getElem?_eq_getElem h.2, Option.getD_some] at h9
  rw [h9]; simp
theorem Sf.any_bad {L : List Sf} {j : Nat} {x y : Sf} (h : L.getD j Sf0 = y ∧ j < L.length) (hm : y.meet x = true) : Sf.meets L x = true := by
  have h9 := h.1
  simp only [List.getD, List.getElem?_eq_getElem h.2, Option.getD_some] at h9
  unfold Sf.meets
  rw [List.any_eq_true]
  exact ⟨_, List.getElem_mem h.2, by rw [h9]; exact hm⟩
set_option maxHeartbeats 1600000 in
set_option maxRecDepth 100000 in
theorem rmeets36 (A : Option Addr) (n c : Nat) (L : List Sf) (p : ByteArray) (f u : Int) (w : World) (h : RRow sfRec w w.heap.size A n c L) :
    Calls Try.prog 105 #[.slice A n c, .agg #[.string p, .int .i64 f, .int .i64 u]] w fun e w' => e = .returned (.bool (Sf.meets L ⟨p, f, u⟩)) ∧ Below w.heap.size w w' := by
  have hm : n ≤ 9223372036854775807 := by have := h.cap; have := h.max; unfold maxLen at this; omega
  obtain ⟨X, hX⟩ : ∃ X : World, w.alloc (.cells #[.string p, .int .i64 f, .int .i64 u] 31) = X := ⟨_, rfl⟩
  have hbx : Below w.heap.size w X := by rw [← hX]; exact below_one _
  have d0 : X.cell? ⟨w.heap.size, 0, none⟩ = some (.string p) := by rw [← hX]; simp [go_sem]
  have d2 : X.cell? ⟨w.heap.size, 1, none⟩ = some (.int .i64 f) := by rw [← hX]; simp [go_sem]
  have d3 : X.cell? ⟨w.heap.size, 2, none⟩ = some (.int .i64 u) := by rw [← hX]; simp [go_sem]
  have hlx : w.heap.size < X.heap.size := by rw [← hX]; simp
  have H := Lib.hid (h.keep hbx hbx.size)
  have HB := Lib.hid hbx
  have HL := Lib.hid h.len
  have HD := Lib.hid (And.intro hlx (And.intro d0 (And.intro d2 d3)))
  clear h hbx hlx
  go_enter Try.func105, Try.ntmps105
  go_wp2_with fail
  go_loopw [9] (fun i wr => ∃ j : Nat, j ≤ n ∧ i = .int .i64 j ∧ Hid (Below X.heap.size X wr ∧ Sf.meets (L.take j) ⟨p, f, u⟩ = false)) (fun i _ => n - (intOf i).toNat)
  case atStart => exact ⟨0, by omega, rfl, Below.refl _ _, rfl⟩
  case round =>
    rename World => Y
    obtain ⟨j, hj, rfl, HI⟩ := hrel
    have d0 : Y.cell? ⟨w.heap.size, 0, none⟩ = some (.string p) := (HI.out.1.cell HD.out.1).trans HD.out.2.1
    have d2 : Y.cell? ⟨w.heap.size, 1, none⟩ = some (.int .i64 f) := (HI.out.1.cell HD.out.1).trans HD.out.2.2.1
    have d3 : Y.cell? ⟨w.heap.size, 2, none⟩ = some (.int .i64 u) := (HI.out.1.cell HD.out.1).trans HD.out.2.2.2
    by_cases hlt : j < n
    · obtain ⟨ad, yp, yf, yu, rfl, HX, c0, c2, c3⟩ := (H.out.keep HI.out.1 HI.out.1.size).sf hlt
      have HT := Lib.hid (Sf.any_take (x := ⟨p, f, u⟩) ⟨HX.out.1, HX.out.2.1⟩)
      have HBAD := Lib.hid (show Sf.meet ⟨yp, yf, yu⟩ ⟨p, f, u⟩ = true → Sf.meets L ⟨p, f, u⟩ = true from fun h => Sf.any_bad ⟨HX.out.1, HX.out.2.1⟩ h)
      obtain ⟨Z, hZ, hbz, hz, e0, e2, e3⟩ := sf_box Y yp yf yu
      have HBZ := Lib.hid (HI.out.1.trans (hbz.mono HI.out.1.size))
      have d0 : Z.cell? ⟨w.heap.size, 0, none⟩ = some (.string p) := (HBZ.out.cell HD.out.1).trans HD.out.2.1
      have d2 : Z.cell? ⟨w.heap.size, 1, none⟩ = some (.int .i64 f) := (HBZ.out.cell HD.out.1).trans HD.out.2.2.1
      have d3 : Z.cell? ⟨w.heap.size, 2, none⟩ = some (.int .i64 u) := (HBZ.out.cell HD.out.1).trans HD.out.2.2.2
      clear hbz hz
      rcases hme : Sf.meet ⟨yp, yf, yu⟩ ⟨p, f, u⟩ with _ | _
      · have HS := Lib.hid (show Sf.meets (L.take (j + 1)) ⟨p, f, u⟩ = false by rw [HT.out, HI.out.2, hme]; rfl)
        have hme' : (yp.toList == p.toList) = false ∨ decide (yf < u) = false ∨ decide (f < yu) = false := by
          simp only [Sf.meet, Bool.and_eq_false_iff] at hme
          rcases hme with (h | h) | h
          · exact .inl h
          · exact .inr (.inl h)
          · exact .inr (.inr h)
        clear hme
        rcases hme' with g | g | g
        all_goals
          go_wp2_with fail
          all_goals
            go_roundw
            case rel => exact ⟨j + 1, by omega, by go_num, HBZ.out, HS.out⟩
            case measure => simp [intOf]; omega
      · have HR := Lib.hid (HBAD.out hme)
        simp only [Sf.meet, Bool.and_eq_true] at hme
        obtain ⟨⟨g1, g2⟩, g3⟩ := hme
        go_wp2_with fail
        go_ret
        exact ⟨retb HR.out.symm, HB.out.trans (HBZ.out.mono HB.out.size)⟩
    · obtain rfl : n = j := by omega
      have HR := Lib.hid (show Sf.meets L ⟨p, f, u⟩ = false by
        have := HI.out.2
        rwa [List.take_of_length_le (by rw [HL.out]; omega)] at this)
      go_wp2_with fail
      go_ret
      exact ⟨retb HR.out.symm, HB.out.trans (HI.out.1.mono HB.out.size)⟩
def Sf.at (L : List Sf) (j : Nat) : Int :=
  if Sf.named (L.getD j Sf0) = false then 3 else if Sf.proper (L.getD j Sf0) = false then 43
  else if 0 < j ∧ Sf.lt (L.getD (j - 1) Sf0) (L.getD j Sf0) = false then 11 else if Sf.meets (L.take j) (L.getD j Sf0) = true then 46 else 0
def Sf.chk (L : List Sf) : Int := if 60 < L.length then 1 else upTo (Sf.at L) L.length
theorem Sf.chk_at {L : List Sf} {j : Nat} (hl : L.length ≤ 60) (h0 : upTo (Sf.at L) j = 0) (hj : j < L.length) {e : Int} (h : Sf.at L j = e) (he : e ≠ 0) : Sf.chk L = e := by
  unfold Sf.chk
  rw [if_neg (by omega), upTo_at h0 hj (by rw [h]; exact he), h]
set_option maxHeartbeats 1600000 in
set_option maxRecDepth 100000 in
theorem rcheck36 (A : Option Addr) (n c : Nat) (L : List Sf) (w : World) (h : RRow sfRec w w.heap.size A n c L) :
    Calls Try.prog 74 #[.slice A n c] w fun e w' => e = .returned (.int .i64 (Sf.chk L)) ∧ Below w.heap.size w w' := by
  have hm : n ≤ 9223372036854775807 := by have := h.cap; have := h.max; unfold maxLen at this; omega
  have hcc := h.cap
  have hcm : c ≤ 9223372036854775807 := h.max
  by_cases h60 : 60 < n
  · have HR := Lib.hid (show Sf.chk L = 1 by unfold Sf.chk; rw [h.len, if_pos h60])
    have g0 : decide ((60 : Int) < (n : Int)) = true := decide_eq_true (by omega)
    clear h h60
    go_enter Try.func74, Try.ntmps74
    go_wp2_with fail
    go_ret
    exact ⟨congrArg (fun b => Ending.returned (.int .i64 b)) HR.out.symm, Below.refl _ _⟩
  have g0 : decide ((60 : Int) < (n : Int)) = false := decide_eq_false (by omega)
  have H := Lib.hid h
  have HL := Lib.hid h.len
  have HAT := Lib.hid (fun (j : Nat) (h0 : upTo (Sf.at L) j = 0) (hj : j < L.length) (e : Int) (he : Sf.at L j = e) (h9 : e ≠ 0) => Sf.chk_at (by rw [h.len]; omega) h0 hj he h9)
  have hn60 : n ≤ 60 := by omega
  clear h h60
  go_enter Try.func74, Try.ntmps74
  go_wp2_with fail
  go_loopw [10] (fun i wr => ∃ j : Nat, j ≤ n ∧ i = .int .i64 j ∧ Hid (Below w.heap.size w wr ∧ upTo (Sf.at L) j = 0)) (fun i _ => n - (intOf i).toNat)
  case atStart => exact ⟨0, by omega, rfl, Below.refl _ _, rfl⟩
  case round =>
    rename World => Y
    obtain ⟨j, hj, rfl, HI⟩ := hrel
    by_cases hlt : j < n
    · obtain ⟨ad, yp, yf, yu, rfl, HX, c0, c2, c3⟩ := (H.out.keep HI.out.1 HI.out.1.size).sf hlt
      have HAJ := Lib.hid (HAT.out j HI.out.2 HX.out.2.1)
      have HOKJ := Lib.hid (upTo_ok HI.out.2)
      have HDEF := Lib.hid (show Sf.at L j = _ from by unfold Sf.at; rw [HX.out.1])
      obtain ⟨Z, hZ, HZ⟩ := sf_boxB Y yp yf yu
      have HBZ := Lib.hid (HI.out.1.trans (HZ.out.1.mono HI.out.1.size))
      obtain ⟨_, e0, e2, e3, _⟩ := HZ.out.2
      go_wp2_with fail
      refine (rname35 yp Z).mono ?_; rintro e w1 ⟨rfl, rfl⟩
      have HB1 := HBZ
      have HX1 := Lib.hid HZ.out.2
      clear e0 e2 e3 c0 c2 c3
      obtain ⟨_, e0, e2, e3, _⟩ := HX1.out
      rcases hna : Cd.name yp with _ | _
      · have HR := Lib.hid (HAJ.out 3 (by rw [HDEF.out, if_pos (show Sf.named ⟨yp, yf, yu⟩ = false from hna)]) (by decide))
        go_wp2_with fail
        go_ret
        exact ⟨congrArg (fun b => Ending.returned (.int .i64 b)) HR.out.symm, HB1.out⟩
      replace HDEF := Lib.hid (show Sf.at L j = _ by rw [HDEF.out, if_neg (by rw [show Sf.named ⟨yp, yf, yu⟩ = true from hna]; decide)])
      clear hna
      go_wp2_with fail
      refine (rproper36 yp yf yu Z).mono ?_; rintro e w2 ⟨rfl, hb2⟩
      have HB2 := Lib.hid (HB1.out.trans (hb2.mono HB1.out.size))
      have HX2 := Lib.hid (HX1.out.keep hb2)
      clear hb2 e0 e2 e3
      obtain ⟨_, e0, e2, e3, _⟩ := HX2.out
      rcases hna : Sf.proper ⟨yp, yf, yu⟩ with _ | _
      · have HR := Lib.hid (HAJ.out 43 (by rw [HDEF.out, if_pos hna]) (by decide))
        go_wp2_with fail
        go_ret
        exact ⟨congrArg (fun b => Ending.returned (.int .i64 b)) HR.out.symm, HB2.out⟩
      replace HDEF := Lib.hid (show Sf.at L j = _ by rw [HDEF.out, if_neg (by rw [hna]; decide)])
      clear hna
      obtain ⟨mt, hmt⟩ : ∃ mt, Sf.meets (L.take j) ⟨yp, yf, yu⟩ = mt := ⟨_, rfl⟩
      have HMW := Lib.hid (fun (W : World) (hb : Below w.heap.size w W) => show Calls Try.prog 105 #[.slice (some ad) j c, .agg #[.string yp, .int .i64 yf, .int .i64 yu]] W fun e w' => e = .returned (.bool mt) ∧ Below W.heap.size W w' from by
        rw [← hmt]; exact rmeets36 (some ad) j c (L.take j) yp yf yu W ((H.out.keep hb hb.size).first hj))
      rw [hmt] at HDEF
      clear hmt
      have x0 := Aft.cell e0
      have x2 := Aft.cell e2
      have x3 := Aft.cell e3
      clear e0 e2 e3
      by_cases h0 : j = 0
      rotate_left
      have gj : decide ((0 : Int) < (j : Int)) = true := decide_eq_true (by omega)
      obtain ⟨k, rfl⟩ : ∃ k, j = k + 1 := ⟨j - 1, by omega⟩
      obtain ⟨ad', zp, zf, zu, hA, HY, c0, c2, c3⟩ := (H.out.keep HB2.out HB2.out.size).sf (show k < n by omega)
      obtain rfl : ad = ad' := by injection hA
      have y0 := Aft.cell c0
      have y2 := Aft.cell c2
      have y3 := Aft.cell c3
      clear c0 c2 c3 hA h0
      replace HDEF := Lib.hid (show Sf.at L (k + 1) = if Sf.lt ⟨zp, zf, zu⟩ ⟨yp, yf, yu⟩ = false then 11 else _ by
        rw [HDEF.out, show k + 1 - 1 = k from rfl, HY.out.1]
        simp only [Nat.zero_lt_succ, true_and]
        rfl)
      go_wp2_with fail
      refine wp_region_aft (by kernel_rfl) (by kernel_rfl) ?_
      repeat (go_big_quiet_step (first | with_reducible exact Calls.aft (rbefore36 zp zf zu yp yf yu _)))
      refine wpQuiet_nil ?_
      rintro w3 ⟨⟨_, hb3⟩, rfl⟩
      rcases hna : Sf.lt ⟨zp, zf, zu⟩ ⟨yp, yf, yu⟩ with _ | _
      · have HB3 := Lib.hid (HB2.out.trans (hb3.mono HB2.out.size))
        have HR := Lib.hid (HAJ.out 11 (by rw [HDEF.out, if_pos hna]) (by decide))
        clear hb3 x0 x2 x3 y0 y2 y3
        go_wp2_with fail
        go_ret
        exact ⟨congrArg (fun b => Ending.returned (.int .i64 b)) HR.out.symm, HB3.out⟩
      replace HDEF := Lib.hid (show Sf.at L (k + 1) = _ by rw [HDEF.out, if_neg (by rw [hna]; decide)])
      clear hna y0 y2 y3 gj
      have hj0 : (0 : Int) ≤ (k : Int) + 1 := by omega
      have hjc : k + 1 ≤ c := by omega
      rotate_left
      subst h0
      replace HDEF := Lib.hid (show Sf.at L 0 = _ by rw [HDEF.out, if_neg (by omega)])
      go_wp2_with fail
      refine wp_region_aft (by kernel_rfl) (by kernel_rfl) ?_
      repeat (go_big_quiet_step (fail))
      refine wpQuiet_nil ?_
      rintro w3 ⟨⟨_, hb3⟩, rfl⟩
      have hj0 : True := trivial
      have hjc : True := trivial
      all_goals
        have HB3 := Lib.hid (HB2.out.trans (hb3.mono HB2.out.size))
        have HX3 := Lib.hid (HX2.out.keep hb3)
        clear hb3 x0 x2 x3
        obtain ⟨_, e0, e2, e3, _⟩ := HX3.out
        have x0 := Aft.cell e0
        have x2 := Aft.cell e2
        have x3 := Aft.cell e3
        have KM := Lib.hid fun x : Aft w3 => Calls.aft (HMW.out x.now (HB3.out.trans (x.below.mono HB3.out.size)))
        clear e0 e2 e3
        go_wp2_with fail
        refine wp_region_aft (by kernel_rfl) (by kernel_rfl) ?_
        repeat (go_big_quiet_step (first | with_reducible exact KM.out _))
        rintro w4 ⟨⟨_, hb4⟩, rfl⟩
        have HB4 := Lib.hid (HB3.out.trans (hb4.mono HB3.out.size))
        clear hb4 x0 x2 x3
        rcases mt with _ | _
        · have HS := Lib.hid (HOKJ.out (by rw [HDEF.out, if_neg (by decide)]))
          go_wp2_with fail
          go_roundw
          case rel => exact ⟨_, by omega, by go_num, HB4.out, HS.out⟩
          case measure => simp [intOf]; try omega
        · have HR := Lib.hid (HAJ.out 46 (by rw [HDEF.out, if_pos rfl]) (by decide))
          go_wp2_with fail
          go_ret
          exact ⟨congrArg (fun b => Ending.returned (.int .i64 b)) HR.out.symm, HB4.out⟩
    · obtain rfl : n = j := by omega
      have HR := Lib.hid (show Sf.chk L = 0 by
        unfold Sf.chk
        rw [if_neg (by rw [HL.out]; omega), HL.out, HI.out.2])
      go_wp2_with fail
      go_ret
      exact ⟨congrArg (fun b => Ending.returned (.int .i64 b)) HR.out.symm, HI.out.1⟩
end Go.Proofs.Ytoomgbddfcmjnaa
