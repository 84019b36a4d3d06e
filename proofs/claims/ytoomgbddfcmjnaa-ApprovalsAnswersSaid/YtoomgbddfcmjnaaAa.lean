/- Approvals: the records; names; the reference's small functions. -/
import Derived.Test.YtoomgbddfcmjnaaGr
import Derived.Test.YtoomgbddfcmjnaaNr1
import Derived.Deep.RegionHeld3
namespace Go.Proofs.Ytoomgbddfcmjnaa
open Go.RowKit
structure Ap where
  p : ByteArray
  r : ByteArray
  f : Int
  u : Int
def Ap0 : Ap := ⟨⟨#[]⟩, ⟨#[]⟩, 0, 0⟩
def apRec : Rec Ap := ⟨4, Ap0, 74, fun x => [.string x.p, .string x.r, .int .i64 x.f, .int .i64 x.u], fun _ => rfl, by decide, fun x u hu => by
  simp only [List.mem_cons, List.not_mem_nil, or_false] at hu
  rcases hu with rfl | rfl | rfl | rfl <;> rfl⟩
theorem ap_info : (Try.prog.info? apRec.ty).map (fun i => (i.zero, i.size, i.bytes)) = some (some (.agg #[.string ⟨#[]⟩, .string ⟨#[]⟩, .int .i64 0, .int .i64 0]), apRec.k, 48) := by kernel_rfl
theorem RRow.ap {w : World} {B : Nat} {A : Option Addr} {n c : Nat} {L : List Ap} (h : RRow apRec w B A n c L) {j : Nat} (hj : j < n) :
    ∃ (ad : Addr) (p r : ByteArray) (f u : Int), A = some ad ∧ Hid (L.getD j Ap0 = ⟨p, r, f, u⟩ ∧ j < L.length ∧ ad.block < B) ∧ w.cell? (ad.add (j * 4)) = some (.string p) ∧ w.cell? ⟨(ad.add (j * 4)).block, (ad.add (j * 4)).off + 1, none⟩ = some (.string r) ∧ w.cell? ⟨(ad.add (j * 4)).block, (ad.add (j * 4)).off + 2, none⟩ = some (.int .i64 f) ∧ w.cell? ⟨(ad.add (j * 4)).block, (ad.add (j * 4)).off + 3, none⟩ = some (.int .i64 u) := by
  obtain ⟨g, e, hlt, hc⟩ := h.cells (by omega)
  have hc' : ∀ i v, (apRec.cells (L.getD j apRec.d))[i]? = some v → w.cell? ((g.add (j * 4)).add i) = some v := fun i v hv => by
    rw [add_add]; exact hc j hj i v hv
  exact ⟨g, _, _, _, _, e, ⟨rfl, by rw [h.len]; exact hj, hlt⟩, hc' 0 _ rfl, hc' 1 _ rfl, hc' 2 _ rfl, hc' 3 _ rfl⟩
def Ap.proper (x : Ap) : Bool := decide (0 ≤ x.f) && decide (x.f < x.u) && decide (x.u ≤ 1073741824)
def Ap.lt (a b : Ap) : Bool := decide (a.f < b.f) || (decide (a.f = b.f) && Op.bytesLess a.p.toList b.p.toList)
def Ap.meet (y x : Ap) : Bool := (y.p.toList == x.p.toList) && decide (y.f < x.u) && decide (x.f < y.u)
def Ap.has (x : Ap) (p : ByteArray) (t : Int) : Bool := (x.p.toList == p.toList) && decide (x.f ≤ t) && decide (t < x.u)
def Ap.named (x : Ap) : Bool := Cd.name x.p && Cd.name x.r
def Ap.meets (L : List Ap) (x : Ap) : Bool := L.any fun y => y.meet x
/-- a row's block stays below what the call makes -/
theorem below_two {w : World} (o o' : Obj) : Below w.heap.size w ((w.alloc o).alloc o') := ((Below.refl _ _).alloc (Nat.le_refl _) _).alloc (by simp) _
theorem below_one {w : World} (o : Obj) : Below w.heap.size w (w.alloc o) := (Below.refl _ _).alloc (Nat.le_refl _) _
set_option maxHeartbeats 400000 in
theorem rproper39 (p r : ByteArray) (f u : Int) (w : World) :
    Calls Try.prog 94 #[.agg #[.string p, .string r, .int .i64 f, .int .i64 u]] w fun e w' => e = .returned (.bool (Ap.proper ⟨p, r, f, u⟩)) ∧ Below w.heap.size w w' := by
  go_enter Try.func94, Try.ntmps94
  go_wp2_with fail
  all_goals (go_ret; exact ⟨retb (by unfold Ap.proper; rw [Bool.eq_iff_iff]; simp; try omega), below_one _⟩)
set_option maxHeartbeats 400000 in
theorem rbefore39 (p r : ByteArray) (f u : Int) (p' r' : ByteArray) (f' u' : Int) (w : World) :
    Calls Try.prog 95 #[.agg #[.string p, .string r, .int .i64 f, .int .i64 u], .agg #[.string p', .string r', .int .i64 f', .int .i64 u']] w fun e w' => e = .returned (.bool (Ap.lt ⟨p, r, f, u⟩ ⟨p', r', f', u'⟩)) ∧ Below w.heap.size w w' := by
  go_enter Try.func95, Try.ntmps95
  go_wp2_with fail
  all_goals (go_ret; exact ⟨retb (by unfold Ap.lt; rw [Bool.eq_iff_iff]; simp <;> omega), below_two _ _⟩)
set_option maxHeartbeats 400000 in
theorem rname35 (s : ByteArray) (w : World) : Calls Try.prog 103 #[.string s] w fun e w' => e = .returned (.bool (Cd.name s)) ∧ w = w' := by
  go_enter Try.func103, Try.ntmps103
  go_wp2_with fail
  refine (rname01 s w).mono ?_; rintro e w1 ⟨rfl, rfl⟩
  go_wp2_with fail
  go_ret
  exact ⟨rfl, rfl⟩
set_option maxHeartbeats 400000 in
theorem rnamed39 (p r : ByteArray) (f u : Int) (w : World) :
    Calls Try.prog 93 #[.agg #[.string p, .string r, .int .i64 f, .int .i64 u]] w fun e w' => e = .returned (.bool (Ap.named ⟨p, r, f, u⟩)) ∧ Below w.heap.size w w' := by
  obtain ⟨X, hX⟩ : ∃ X : World, w.alloc (.cells #[.string p, .string r, .int .i64 f, .int .i64 u] 74) = X := ⟨_, rfl⟩
  have HB := Lib.hid (show Below w.heap.size w X by rw [← hX]; exact below_one _)
  have d0 : X.cell? ⟨w.heap.size, 0, none⟩ = some (.string p) := by rw [← hX]; simp [go_sem]
  have d1 : X.cell? ⟨w.heap.size, 1, none⟩ = some (.string r) := by rw [← hX]; simp [go_sem]
  go_enter Try.func93, Try.ntmps93
  go_wp2_with fail
  refine (rname35 p X).mono ?_; rintro e w1 ⟨rfl, rfl⟩
  have HR := Lib.hid (show Ap.named ⟨p, r, f, u⟩ = (Cd.name p && Cd.name r) from rfl)
  rcases hn : Cd.name p with _ | _
  · go_wp2_with fail
    go_ret
    exact ⟨retb (by rw [HR.out, hn]; rfl), HB.out⟩
  · go_wp2_with fail
    refine (rname35 r X).mono ?_; rintro e w1 ⟨rfl, rfl⟩
    go_wp2_with fail
    go_ret
    exact ⟨retb (by rw [HR.out, hn]; rfl), HB.out⟩
theorem Ap.any_take {L : List Ap} {j : Nat} {x y : Ap} (h : L.getD j Ap0 = y ∧ j < L.length) : Ap.meets (L.take (j + 1)) x = (Ap.meets (L.take j) x || y.meet x) := by
  unfold Ap.meets
  rw [List.take_succ_eq_append_getElem h.2, List.any_append]
  have h9 := h.1
  simp only [List.getD, List.getElem?_eq_getElem h.2, Option.getD_some] at h9
  rw [h9]; simp
theorem Ap.any_bad {L : List Ap} {j : Nat} {x y : Ap} (h : L.getD j Ap0 = y ∧ j < L.length) (hm : y.meet x = true) : Ap.meets L x = true := by
  have h9 := h.1
  simp only [List.getD, List.getElem?_eq_getElem h.2, Option.getD_some] at h9
  unfold Ap.meets
  rw [List.any_eq_true]
  exact ⟨_, List.getElem_mem h.2, by rw [h9]; exact hm⟩
/-- a variable that holds an approval -/
theorem ap_box (w : World) (p r : ByteArray) (f u : Int) : ∃ X : World, w.alloc (.cells #[.string p, .string r, .int .i64 f, .int .i64 u] 74) = X ∧ Below w.heap.size w X ∧ w.heap.size < X.heap.size ∧
    X.cell? ⟨w.heap.size, 0, none⟩ = some (.string p) ∧ X.cell? ⟨w.heap.size, 1, none⟩ = some (.string r) ∧ X.cell? ⟨w.heap.size, 2, none⟩ = some (.int .i64 f) ∧ X.cell? ⟨w.heap.size, 3, none⟩ = some (.int .i64 u) :=
  ⟨_, rfl, below_one _, by simp, by simp [go_sem], by simp [go_sem], by simp [go_sem], by simp [go_sem]⟩
set_option maxHeartbeats 1600000 in
set_option maxRecDepth 100000 in
theorem rmeets39 (A : Option Addr) (n c : Nat) (L : List Ap) (p r : ByteArray) (f u : Int) (w : World) (h : RRow apRec w w.heap.size A n c L) :
    Calls Try.prog 96 #[.slice A n c, .agg #[.string p, .string r, .int .i64 f, .int .i64 u]] w fun e w' => e = .returned (.bool (Ap.meets L ⟨p, r, f, u⟩)) ∧ Below w.heap.size w w' := by
  have hm : n ≤ 9223372036854775807 := by have := h.cap; have := h.max; unfold maxLen at this; omega
  obtain ⟨X, hX⟩ : ∃ X : World, w.alloc (.cells #[.string p, .string r, .int .i64 f, .int .i64 u] 74) = X := ⟨_, rfl⟩
  have hbx : Below w.heap.size w X := by rw [← hX]; exact below_one _
  have d0 : X.cell? ⟨w.heap.size, 0, none⟩ = some (.string p) := by rw [← hX]; simp [go_sem]
  have d2 : X.cell? ⟨w.heap.size, 2, none⟩ = some (.int .i64 f) := by rw [← hX]; simp [go_sem]
  have d3 : X.cell? ⟨w.heap.size, 3, none⟩ = some (.int .i64 u) := by rw [← hX]; simp [go_sem]
  have hlx : w.heap.size < X.heap.size := by rw [← hX]; simp
  have H := Lib.hid (h.keep hbx hbx.size)
  have HB := Lib.hid hbx
  have HL := Lib.hid h.len
  have HD := Lib.hid (And.intro hlx (And.intro d0 (And.intro d2 d3)))
  clear h hbx hlx
  go_enter Try.func96, Try.ntmps96
  go_wp2_with fail
  go_loopw [9] (fun i wr => ∃ j : Nat, j ≤ n ∧ i = .int .i64 j ∧ Hid (Below X.heap.size X wr ∧ Ap.meets (L.take j) ⟨p, r, f, u⟩ = false)) (fun i _ => n - (intOf i).toNat)
  case atStart => exact ⟨0, by omega, rfl, Below.refl _ _, rfl⟩
  case round =>
    rename World => Y
    obtain ⟨j, hj, rfl, HI⟩ := hrel
    have d0 : Y.cell? ⟨w.heap.size, 0, none⟩ = some (.string p) := (HI.out.1.cell HD.out.1).trans HD.out.2.1
    have d2 : Y.cell? ⟨w.heap.size, 2, none⟩ = some (.int .i64 f) := (HI.out.1.cell HD.out.1).trans HD.out.2.2.1
    have d3 : Y.cell? ⟨w.heap.size, 3, none⟩ = some (.int .i64 u) := (HI.out.1.cell HD.out.1).trans HD.out.2.2.2
    by_cases hlt : j < n
    · obtain ⟨ad, yp, yr, yf, yu, rfl, HX, c0, c1, c2, c3⟩ := (H.out.keep HI.out.1 HI.out.1.size).ap hlt
      have HT := Lib.hid (Ap.any_take (x := ⟨p, r, f, u⟩) ⟨HX.out.1, HX.out.2.1⟩)
      have HBAD := Lib.hid (show Ap.meet ⟨yp, yr, yf, yu⟩ ⟨p, r, f, u⟩ = true → Ap.meets L ⟨p, r, f, u⟩ = true from fun h => Ap.any_bad ⟨HX.out.1, HX.out.2.1⟩ h)
      obtain ⟨Z, hZ, hbz, hz, e0, e1, e2, e3⟩ := ap_box Y yp yr yf yu
      have HBZ := Lib.hid (HI.out.1.trans (hbz.mono HI.out.1.size))
      have d0 : Z.cell? ⟨w.heap.size, 0, none⟩ = some (.string p) := (HBZ.out.cell HD.out.1).trans HD.out.2.1
      have d2 : Z.cell? ⟨w.heap.size, 2, none⟩ = some (.int .i64 f) := (HBZ.out.cell HD.out.1).trans HD.out.2.2.1
      have d3 : Z.cell? ⟨w.heap.size, 3, none⟩ = some (.int .i64 u) := (HBZ.out.cell HD.out.1).trans HD.out.2.2.2
      clear hbz hz
      rcases hme : Ap.meet ⟨yp, yr, yf, yu⟩ ⟨p, r, f, u⟩ with _ | _
      · have HS := Lib.hid (show Ap.meets (L.take (j + 1)) ⟨p, r, f, u⟩ = false by rw [HT.out, HI.out.2, hme]; rfl)
        have hme' : (yp.toList == p.toList) = false ∨ decide (yf < u) = false ∨ decide (f < yu) = false := by
          simp only [Ap.meet, Bool.and_eq_false_iff] at hme
          rcases hme with (h | h) | h
          · exact .inl h
          · exact .inr (.inl h)
          · exact .inr (.inr h)
        clear hme
        rcases hme' with g | g | g
        all_goals
          go_wp2_with fail
          all_goals
            go_roundw
            case rel => exact ⟨j + 1, by omega, by go_num, HBZ.out, HS.out⟩
            case measure => simp [intOf]; omega
      · have HR := Lib.hid (HBAD.out hme)
        simp only [Ap.meet, Bool.and_eq_true] at hme
        obtain ⟨⟨g1, g2⟩, g3⟩ := hme
        go_wp2_with fail
        go_ret
        exact ⟨retb HR.out.symm, HB.out.trans (HBZ.out.mono HB.out.size)⟩
    · obtain rfl : n = j := by omega
      have HR := Lib.hid (show Ap.meets L ⟨p, r, f, u⟩ = false by
        have := HI.out.2
        rwa [List.take_of_length_le (by rw [HL.out]; omega)] at this)
      go_wp2_with fail
      go_ret
      exact ⟨retb HR.out.symm, HB.out.trans (HI.out.1.mono HB.out.size)⟩
end Go.Proofs.Ytoomgbddfcmjnaa
