/- plot.Quartiles of numbers within the limits. -/
import Derived.Test.YtaalgjeffidedaaBb
import Derived.StillTailTactics
import Derived.BigRegion
namespace Go.Proofs.Ytaalgjeffidedaa
open Go.RowKit
theorem cell_far {w : World} {B i j : Nat} {u v : Value} (h : w.cell? ⟨B, i, none⟩ = some u) (hij : i ≠ j) : (w.setCell ⟨B, j, none⟩ v).cell? ⟨B, i, none⟩ = some u := by
  rw [World.cell?_setCell_other _ _ _ _ (by intro e; injection e with _ e; exact hij e.symm)]; exact h
theorem cell_here {w : World} {B i : Nat} {u v : Value} (h : w.cell? ⟨B, i, none⟩ = some u) : (w.setCell ⟨B, i, none⟩ v).cell? ⟨B, i, none⟩ = some v := World.cell?_setCell_same _ _ _ h
theorem box6_set {w : World} {B : Nat} {u0 u1 u2 u3 u4 u5 : Value} (e0 : w.cell? ⟨B, 0, none⟩ = some u0) (e1 : w.cell? ⟨B, 1, none⟩ = some u1) (e2 : w.cell? ⟨B, 2, none⟩ = some u2) (e3 : w.cell? ⟨B, 3, none⟩ = some u3) (e4 : w.cell? ⟨B, 4, none⟩ = some u4) (e5 : w.cell? ⟨B, 5, none⟩ = some u5)
    (v0 v1 v2 v3 v4 v5 : Value) : ∃ w', ((((((w.setCell ⟨B, 0, none⟩ v0).setCell ⟨B, 1, none⟩ v1).setCell ⟨B, 2, none⟩ v2).setCell ⟨B, 3, none⟩ v3).setCell ⟨B, 4, none⟩ v4).setCell ⟨B, 5, none⟩ v5) = w' ∧
      w'.cell? ⟨B, 0, none⟩ = some v0 ∧ w'.cell? ⟨B, 1, none⟩ = some v1 ∧ w'.cell? ⟨B, 2, none⟩ = some v2 ∧ w'.cell? ⟨B, 3, none⟩ = some v3 ∧ w'.cell? ⟨B, 4, none⟩ = some v4 ∧ w'.cell? ⟨B, 5, none⟩ = some v5 ∧ ∀ n (W : World), n ≤ B → Below n W w → Below n W w' := by
  exact ⟨_, rfl, (cell_far (cell_far (cell_far (cell_far (cell_far (cell_here e0) (by decide)) (by decide)) (by decide)) (by decide)) (by decide)), (cell_far (cell_far (cell_far (cell_far (cell_here (cell_far e1 (by decide))) (by decide)) (by decide)) (by decide)) (by decide)), (cell_far (cell_far (cell_far (cell_here (cell_far (cell_far e2 (by decide)) (by decide))) (by decide)) (by decide)) (by decide)), (cell_far (cell_far (cell_here (cell_far (cell_far (cell_far e3 (by decide)) (by decide)) (by decide))) (by decide)) (by decide)), (cell_far (cell_here (cell_far (cell_far (cell_far (cell_far e4 (by decide)) (by decide)) (by decide)) (by decide))) (by decide)), (cell_here (cell_far (cell_far (cell_far (cell_far (cell_far e5 (by decide)) (by decide)) (by decide)) (by decide)) (by decide))), fun n W hn hb => (((((hb.setCell hn _).setCell hn _).setCell hn _).setCell hn _).setCell hn _).setCell hn _⟩
def Pb.at (l : List Int) (k : Nat) : Int := (Pb.srt l).getD k 0
def Pb.box (l : List Int) : Value := .agg #[.int .i64 l.length, .int .i64 (Pb.at l 0), .int .i64 (Pb.at l ((l.length - 1) / 4)), .int .i64 (Pb.at l ((l.length - 1) / 2)), .int .i64 (Pb.at l (3 * (l.length - 1) / 4)), .int .i64 (Pb.at l (l.length - 1))]
def Pb.quart (l : List Int) : Value := if l = [] then .tuple #[.agg #[.int .i64 0, .int .i64 0, .int .i64 0, .int .i64 0, .int .i64 0, .int .i64 0], .int .i64 18] else .tuple #[Pb.box l, .int .i64 0]
set_option maxHeartbeats 1600000 in
set_option maxRecDepth 100000 in
theorem quart21 (A : Option Addr) (n c : Nat) (l : List Int) (w : World) (h : Nums w .i64 w.heap.size A n c l) (hn : n ≤ 200) (hr : l.any Pb.out = false) :
    Calls Try.prog 13 #[.slice A n c] w fun e w' => e = .returned (Pb.quart l) ∧ Below w.heap.size w w' := by
  have H := Lib.hid h
  have HR := Lib.hid hr
  clear h hr
  rcases Nat.eq_zero_or_pos n with rfl | hpos
  · have hl : l = [] := List.eq_nil_of_length_eq_zero H.out.len
    have HL := Lib.hid hl
    have HW := Lib.hid (H.out.keep ((Below.refl _ _).alloc (Nat.le_refl _) (.cells #[.int .i64 0, .int .i64 0, .int .i64 0, .int .i64 0, .int .i64 0, .int .i64 0] 34)) (Nat.le_refl _))
    clear hl
    go_enter Try.func13, Try.ntmps13
    go_wp2_with fail
    refine (contains_out A 0 c l _ _ HW.out).mono ?_; rintro e w1 ⟨rfl, rfl⟩
    rw [HR.out]
    go_wp2_with fail
    refine bodyPost_ret (v := Pb.quart l) (by simp [Pb.quart, HL.out, results, Try.results13, go_sem]) rfl ⟨rfl, ?_⟩
    first | exact (Below.refl _ _).alloc (Nat.le_refl _) _ | exact ((Below.refl _ _).alloc (Nat.le_refl _) _).setCell (Nat.le_refl _) _
  · obtain ⟨m, rfl⟩ : ∃ m, n = m + 1 := ⟨n - 1, by omega⟩
    have HW := Lib.hid (H.out.keep ((Below.refl _ _).alloc (Nat.le_refl _) (.cells #[.int .i64 0, .int .i64 0, .int .i64 0, .int .i64 0, .int .i64 0, .int .i64 0] 34)) (show w.heap.size ≤ (w.alloc (.cells #[.int .i64 0, .int .i64 0, .int .i64 0, .int .i64 0, .int .i64 0, .int .i64 0] 34)).heap.size by simp))
    obtain ⟨W, hW⟩ : ∃ W : World, w.alloc (.cells #[.int .i64 0, .int .i64 0, .int .i64 0, .int .i64 0, .int .i64 0, .int .i64 0] 34) = W := ⟨_, rfl⟩
    rw [hW] at HW
    have HBW := Lib.hid (show Below w.heap.size w W by rw [← hW]; exact (Below.refl _ _).alloc (Nat.le_refl _) _)
    have HSZ := Lib.hid (show W.heap.size = w.heap.size + 1 by rw [← hW]; simp)
    have HWE := Lib.hid hW
    clear hW
    go_enter Try.func13, Try.ntmps13
    go_wp2_with fail
    rw [HWE.out]
    refine (contains_out A (m + 1) c l _ _ HW.out).mono ?_; rintro e w1 ⟨rfl, rfl⟩
    rw [HR.out]
    go_wp2_with fail
    refine (clone_any A (m + 1) c l _ HW.out (by omega)).mono ?_; rintro e w2 ⟨v2, rfl, hown2, hb2⟩
    have HO2 := Lib.hid hown2
    have HB2 := Lib.hid hb2
    clear hown2 hb2
    go_wp2_with fail
    refine (sort_own W.heap.size v2 l w2 HO2.out HB2.out.size (by have := H.out.len; omega)).mono ?_
    rintro e w3 ⟨rfl, hown3, hb3⟩
    have HB3 := Lib.hid (HB2.out.trans hb3)
    obtain ⟨g, cap, rfl, hcell⟩ : ∃ g cap, v2 = .slice (some ⟨g, 0, none⟩) (m + 1) cap ∧ ∀ j, j < m + 1 → w3.cell? ⟨g, j, none⟩ = some (.int .i64 (Pb.at l j)) := by
      have hl : (Pb.srt l).length = m + 1 := by rw [Pb.srt_len, H.out.len]
      rcases Own.row hown3 with ⟨_, h0⟩ | ⟨g, cap, hv, _, _, _, _, hH, _⟩
      · have : Pb.srt l = [] := h0
        rw [this] at hl; cases hl
      · refine ⟨g, cap, by rw [hv]; congr 1, fun j hj => ?_⟩
        have := (hH j (by show j < (Pb.srt l).toArray.size; simp; omega)).1
        rw [Nat.zero_add] at this
        rw [this]
        have e : (l.mergeSort fun x y => decide (x ≤ y)).toArray[j]! = Pb.at l j := by
          show (Pb.srt l).toArray[j]! = _
          rw [getElem!_pos _ j (by simp; omega)]
          simp [Pb.at, List.getD, List.getElem?_eq_getElem (show j < (Pb.srt l).length by omega)]
        rw [e]
    have HC := Lib.hid hcell
    clear hown3 hb3 hcell HO2
    have k0 := HC.out 0 (by omega)
    have k1 := HC.out (m / 4) (by omega)
    have k2 := HC.out (m / 2) (by omega)
    have k3 := HC.out (3 * m / 4) (by omega)
    have k4 := HC.out m (by omega)
    have hbx : ∀ i, i < 6 → w3.cell? ⟨w.heap.size, i, none⟩ = some (.int .i64 0) ∧ w3.frozen? ⟨w.heap.size, i, none⟩ = false := by
      intro i hi
      have hlt : w.heap.size < W.heap.size := by rw [HSZ.out]; omega
      rw [HB3.out.cell (p := ⟨w.heap.size, i, none⟩) hlt, HB3.out.frozen (p := ⟨w.heap.size, i, none⟩) hlt, ← HWE.out]
      match i, hi with
      | 0, _ => simp [go_sem]
      | 1, _ => simp [go_sem]
      | 2, _ => simp [go_sem]
      | 3, _ => simp [go_sem]
      | 4, _ => simp [go_sem]
      | 5, _ => simp [go_sem]
    obtain ⟨e0, f0⟩ := hbx 0 (by omega)
    obtain ⟨e1, f1⟩ := hbx 1 (by omega)
    obtain ⟨e2, f2⟩ := hbx 2 (by omega)
    obtain ⟨e3, f3⟩ := hbx 3 (by omega)
    obtain ⟨e4, f4⟩ := hbx 4 (by omega)
    obtain ⟨e5, f5⟩ := hbx 5 (by omega)
    clear hbx
    have hm : m ≤ 199 := by omega
    have i1 : (0 : Int) ≤ (m : Int) / 4 ∧ (m : Int) / 4 < (m : Int) + 1 ∧ ((m : Int) / 4).toNat = m / 4 := by omega
    have i2 : (0 : Int) ≤ (m : Int) / 2 ∧ (m : Int) / 2 < (m : Int) + 1 ∧ ((m : Int) / 2).toNat = m / 2 := by omega
    have i3 : (0 : Int) ≤ 3 * (m : Int) / 4 ∧ 3 * (m : Int) / 4 < (m : Int) + 1 ∧ (3 * (m : Int) / 4).toNat = 3 * m / 4 := by omega
    have i4 : IntKind.i64.wrap (3 * (m : Int)) = 3 * (m : Int) := by simp [IntKind.wrap, IntKind.bits, IntKind.signed]; omega
    have i5 : IntKind.i64.wrap ((m : Int) / 4) = (m : Int) / 4 := by simp [IntKind.wrap, IntKind.bits, IntKind.signed]; omega
    have i6 : IntKind.i64.wrap ((m : Int) / 2) = (m : Int) / 2 := by simp [IntKind.wrap, IntKind.bits, IntKind.signed]; omega
    have i7 : IntKind.i64.wrap (3 * (m : Int) / 4) = 3 * (m : Int) / 4 := by simp [IntKind.wrap, IntKind.bits, IntKind.signed]; omega
    have i8 : (3 * (m : Int)).tdiv 4 = 3 * (m : Int) / 4 := Int.tdiv_eq_ediv_of_nonneg (by omega)
    have d1 : (m : Int) < (m : Int) + 1 := by omega
    have d2 : (0 : Int) ≤ (m : Int) := by omega
    have d3 : m < m + 1 := by omega
    obtain ⟨a1, a2, a3⟩ := i1
    obtain ⟨b1, b2, b3⟩ := i2
    obtain ⟨c1, c2, c3⟩ := i3
    clear hm hpos hn
    go_wp2_with fail
    refine wp_region_still_tail 26 (by kernel_rfl) (by kernel_rfl) ?_
    simp only [List.take_succ_cons, List.take_zero, List.drop_succ_cons, List.drop_zero]
    repeat still_step
    refine wpStill_nil ?_
    show wpList _ _ _ _ _ (w3.drewN 1)
    go_wp2_with fail
    have hq : Pb.quart l = .tuple #[.agg #[.int .i64 ((m : Int) + 1), .int .i64 (Pb.at l 0), .int .i64 (Pb.at l (m / 4)), .int .i64 (Pb.at l (m / 2)), .int .i64 (Pb.at l (3 * m / 4)), .int .i64 (Pb.at l m)], .int .i64 0] := by
      have hl := H.out.len
      have hne : l ≠ [] := by rintro rfl; cases hl
      unfold Pb.quart
      rw [if_neg hne]
      unfold Pb.box
      rw [hl]
      simp
    rw [hq]
    have hb3 := below_drewN (HBW.out.trans (HB3.out.mono HBW.out.size)) 1
    clear hq k0 k1 k2 k3 k4 a1 a2 a3 b1 b2 b3 c1 c2 c3 i4 i5 i6 i7 i8 d1 d2 d3 HC HR
    generalize Pb.at l 0 = x0
    generalize Pb.at l (m / 4) = x1
    generalize Pb.at l (m / 2) = x2
    generalize Pb.at l (3 * m / 4) = x3
    generalize Pb.at l m = x4
    obtain ⟨w6, hw, g0, g1, g2, g3, g4, g5, hbb⟩ := box6_set (w := w3.drewN 1) (B := w.heap.size) e0 e1 e2 e3 e4 e5 (.int .i64 ((m : Int) + 1)) (.int .i64 x0) (.int .i64 x1) (.int .i64 x2) (.int .i64 x3) (.int .i64 x4)
    rw [hw]
    have hb6 := hbb w.heap.size w (Nat.le_refl _) hb3
    clear hw hbb e0 e1 e2 e3 e4 e5 f0 f1 f2 f3 f4 f5 hb3
    refine bodyPost_ret (v := .tuple #[.agg #[.int .i64 ((m : Int) + 1), .int .i64 x0, .int .i64 x1, .int .i64 x2, .int .i64 x3, .int .i64 x4], .int .i64 0]) (by simp [results, Try.results13, go_sem, g0, g1, g2, g3, g4, g5]) rfl ⟨rfl, hb6⟩
end Go.Proofs.Ytaalgjeffidedaa
