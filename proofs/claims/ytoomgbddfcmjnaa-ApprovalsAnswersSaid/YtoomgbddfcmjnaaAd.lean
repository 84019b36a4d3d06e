/- Approvals: the program's closures, and slices.IndexFunc of them. -/
import Derived.Test.YtoomgbddfcmjnaaAc
namespace Go.Proofs.Ytoomgbddfcmjnaa
open Go.RowKit
/-- the place of the first that is so, -1 if none is -/
def fstI {α : Type} (p : α → Bool) (L : List α) : Int := if L.findIdx p < L.length then (L.findIdx p : Int) else -1
theorem getD_get {α : Type} {L : List α} {j : Nat} {d x : α} (hj : j < L.length) (h : L.getD j d = x) : L[j] = x := by
  simp only [List.getD, List.getElem?_eq_getElem hj, Option.getD_some] at h
  exact h
theorem fstI_at {α : Type} {p : α → Bool} {L : List α} {j : Nat} {d x : α} (hj : j < L.length) (hn : ∀ y ∈ L.take j, p y = false) (h : L.getD j d = x) (hp : p x = true) : fstI p L = j := by
  have e : L.findIdx p = j := by
    rw [List.findIdx_eq hj]
    refine ⟨by rw [getD_get hj h]; exact hp, fun i hi => hn _ ?_⟩
    rw [List.mem_take_iff_getElem]
    exact ⟨i, by omega, rfl⟩
  unfold fstI
  rw [e, if_pos hj]
theorem fstI_none {α : Type} {p : α → Bool} {L : List α} (hn : ∀ y ∈ L, p y = false) : fstI p L = -1 := by
  unfold fstI
  rw [List.findIdx_eq_length.2 hn, if_neg (by omega)]
theorem take_all {α : Type} {p : α → Bool} {L : List α} {j : Nat} {d x : α} (hj : j < L.length) (hn : ∀ y ∈ L.take j, p y = false) (h : L.getD j d = x) (hp : p x = false) : ∀ y ∈ L.take (j + 1), p y = false := by
  intro y hy
  rw [List.take_succ_eq_append_getElem hj] at hy
  rcases List.mem_append.1 hy with h1 | h1
  · exact hn y h1
  · rw [List.mem_singleton.1 h1, getD_get hj h]; exact hp
theorem fstI_nonneg {α : Type} {p : α → Bool} {L : List α} : decide (0 ≤ fstI p L) = L.any p := by
  unfold fstI
  by_cases h : L.findIdx p < L.length
  · rw [if_pos h]
    have := List.findIdx_lt_length.1 h
    rw [List.any_eq_true.2 this]
    simp
  · rw [if_neg h]
    have : L.any p = false := by
      rw [Bool.eq_false_iff]
      intro ha
      exact h (List.findIdx_lt_length.2 (List.any_eq_true.1 ha))
    rw [this]; rfl
set_option maxHeartbeats 400000 in
theorem clo39o (g : Nat) (p r : ByteArray) (f u : Int) (yp yr : ByteArray) (yf yu : Int) (w : World) (h : ApB w g p r f u) :
    Calls Try.prog 128 #[.agg #[.string yp, .string yr, .int .i64 yf, .int .i64 yu], .pointer (some ⟨g, 0, none⟩)] w fun e w' => e = .returned (.bool (Ap.meet ⟨yp, yr, yf, yu⟩ ⟨p, r, f, u⟩)) ∧ Below w.heap.size w w' := by
  obtain ⟨X, hX, HX⟩ := ap_boxB w yp yr yf yu
  obtain ⟨_, e0, e1, e2, e3, _⟩ := HX.out.2
  obtain ⟨_, d0, d1, d2, d3, _⟩ := h.keep HX.out.1
  have HR := Lib.hid (show Ap.meet ⟨yp, yr, yf, yu⟩ ⟨p, r, f, u⟩ = ((yp.toList == p.toList) && decide (yf < u) && decide (f < yu)) from rfl)
  clear h
  go_enter Try.func128, Try.ntmps128
  rcases hs : (yp.toList == p.toList) with _ | _
  all_goals
    go_wp2_with fail
    all_goals (go_ret; exact ⟨retb (by rw [HR.out, hs, Bool.eq_iff_iff]; simp; try omega), HX.out.1⟩)
set_option maxHeartbeats 400000 in
theorem clo39f (g g' : Nat) (p : ByteArray) (t : Int) (yp yr : ByteArray) (yf yu : Int) (w : World) (h : w.cell? ⟨g, 0, none⟩ = some (.string p) ∧ w.cell? ⟨g', 0, none⟩ = some (.int .i64 t)) :
    Calls Try.prog 129 #[.agg #[.string yp, .string yr, .int .i64 yf, .int .i64 yu], .pointer (some ⟨g, 0, none⟩), .pointer (some ⟨g', 0, none⟩)] w fun e w' => e = .returned (.bool (Ap.has ⟨yp, yr, yf, yu⟩ p t)) ∧ Below w.heap.size w w' := by
  obtain ⟨X, hX, HX⟩ := ap_boxB w yp yr yf yu
  obtain ⟨_, e0, e1, e2, e3, _⟩ := HX.out.2
  have d0 := below_cell HX.out.1 h.1
  have d1 := below_cell HX.out.1 h.2
  have HR := Lib.hid (show Ap.has ⟨yp, yr, yf, yu⟩ p t = ((yp.toList == p.toList) && decide (yf ≤ t) && decide (t < yu)) from rfl)
  clear h
  go_enter Try.func129, Try.ntmps129
  rcases hs : (yp.toList == p.toList) with _ | _
  all_goals
    go_wp2_with fail
    all_goals (go_ret; exact ⟨retb (by rw [HR.out, hs, Bool.eq_iff_iff]; simp; try omega), HX.out.1⟩)
set_option maxHeartbeats 400000 in
theorem clo39a (g : Nat) (p r : ByteArray) (f u : Int) (yp yr : ByteArray) (yf yu : Int) (w : World) (h : ApB w g p r f u) :
    Calls Try.prog 101 #[.agg #[.string yp, .string yr, .int .i64 yf, .int .i64 yu], .pointer (some ⟨g, 0, none⟩)] w fun e w' => e = .returned (.bool (Ap.lt ⟨p, r, f, u⟩ ⟨yp, yr, yf, yu⟩)) ∧ Below w.heap.size w w' := by
  obtain ⟨X, hX, HX⟩ := ap_boxB w yp yr yf yu
  obtain ⟨_, e0, e1, e2, e3, _⟩ := HX.out.2
  obtain ⟨_, d0, d1, d2, d3, _⟩ := h.keep HX.out.1
  clear h
  go_enter Try.func101, Try.ntmps101
  go_wp2_with fail
  refine (compare39 p r f u yp yr yf yu X).mono ?_; rintro e w2 ⟨rfl, hb2⟩
  have HB := Lib.hid (HX.out.1.trans (hb2.mono HX.out.1.size))
  go_wp2_with fail
  go_ret
  exact ⟨retb (Ap.cmp_lt _ _), HB.out⟩

set_option maxRecDepth 100000 in
set_option maxHeartbeats 1600000 in
theorem index39o (A : Option Addr) (n c : Nat) (L : List Ap) (g : Nat) (p r : ByteArray) (f u : Int) (w : World) (h : RRow apRec w w.heap.size A n c L) (hq : ApB w g p r f u) :
    Calls Try.prog 100 #[.slice A n c, .func (.func 128) #[] #[.pointer (some ⟨g, 0, none⟩)]] w fun e w' => e = .returned (.int .i64 (fstI (fun y : Ap => y.meet ⟨p, r, f, u⟩) L)) ∧ Below w.heap.size w w' := by
  have hm : n ≤ 9223372036854775807 := by have := h.cap; have := h.max; unfold maxLen at this; omega
  have H := Lib.hid h
  have HL := Lib.hid h.len
  have HC := Lib.hid hq
  clear h hq
  go_enter Try.func100, Try.ntmps100
  go_wp2_with fail
  go_loopw [5, 8] (fun _ i wr => ∃ j : Nat, j ≤ n ∧ i = .int .i64 j ∧ Hid (Below w.heap.size w wr ∧ ∀ x ∈ L.take j, (fun y : Ap => y.meet ⟨p, r, f, u⟩) x = false)) (fun _ i _ => n - (intOf i).toNat)
  case atStart => exact ⟨0, by omega, rfl, Below.refl _ _, by simp⟩
  case round =>
    rename World => Y
    obtain ⟨j, hj, rfl, HI⟩ := hrel
    by_cases hlt : j < n
    · obtain ⟨ad, yp, yr, yf, yu, rfl, HX, c0, c1, c2, c3⟩ := (H.out.keep HI.out.1 HI.out.1.size).ap hlt
      have HT := Lib.hid (take_all (p := (fun y : Ap => y.meet ⟨p, r, f, u⟩)) HX.out.2.1 HI.out.2 HX.out.1)
      have HF := Lib.hid (fstI_at (p := (fun y : Ap => y.meet ⟨p, r, f, u⟩)) HX.out.2.1 HI.out.2 HX.out.1)
      have HCY := Lib.hid (HC.out.keep HI.out.1)
      rcases hoy : (fun y : Ap => y.meet ⟨p, r, f, u⟩) ⟨yp, yr, yf, yu⟩ with _ | _
      · go_wp2_with fail
        refine (clo39o g p r f u yp yr yf yu Y HCY.out).mono ?_; rintro e w2 ⟨rfl, hb2⟩
        have HB := Lib.hid (HI.out.1.trans (hb2.mono HI.out.1.size))
        rw [hoy]
        go_wp2_with fail
        go_roundw
        case rel => exact ⟨j + 1, by omega, by go_num, HB.out, HT.out hoy⟩
        case measure => simp [intOf]; omega
      · go_wp2_with fail
        refine (clo39o g p r f u yp yr yf yu Y HCY.out).mono ?_; rintro e w2 ⟨rfl, hb2⟩
        have HB := Lib.hid (HI.out.1.trans (hb2.mono HI.out.1.size))
        rw [hoy]
        go_wp2_with fail
        go_ret
        exact ⟨ret_int (HF.out hoy).symm, HB.out⟩
    · obtain rfl : n = j := by omega
      have HM := Lib.hid (show fstI (fun y : Ap => y.meet ⟨p, r, f, u⟩) L = -1 from fstI_none fun x hx => HI.out.2 x (by rw [List.take_of_length_le (by rw [HL.out]; omega)]; exact hx))
      go_wp2_with fail
      go_ret
      exact ⟨ret_int HM.out.symm, HI.out.1⟩

set_option maxRecDepth 100000 in
set_option maxHeartbeats 1600000 in
theorem index39a (A : Option Addr) (n c : Nat) (L : List Ap) (g : Nat) (p r : ByteArray) (f u : Int) (w : World) (h : RRow apRec w w.heap.size A n c L) (hq : ApB w g p r f u) :
    Calls Try.prog 100 #[.slice A n c, .func (.func 101) #[] #[.pointer (some ⟨g, 0, none⟩)]] w fun e w' => e = .returned (.int .i64 (fstI (fun y : Ap => Ap.lt ⟨p, r, f, u⟩ y) L)) ∧ Below w.heap.size w w' := by
  have hm : n ≤ 9223372036854775807 := by have := h.cap; have := h.max; unfold maxLen at this; omega
  have H := Lib.hid h
  have HL := Lib.hid h.len
  have HC := Lib.hid hq
  clear h hq
  go_enter Try.func100, Try.ntmps100
  go_wp2_with fail
  go_loopw [5, 8] (fun _ i wr => ∃ j : Nat, j ≤ n ∧ i = .int .i64 j ∧ Hid (Below w.heap.size w wr ∧ ∀ x ∈ L.take j, (fun y : Ap => Ap.lt ⟨p, r, f, u⟩ y) x = false)) (fun _ i _ => n - (intOf i).toNat)
  case atStart => exact ⟨0, by omega, rfl, Below.refl _ _, by simp⟩
  case round =>
    rename World => Y
    obtain ⟨j, hj, rfl, HI⟩ := hrel
    by_cases hlt : j < n
    · obtain ⟨ad, yp, yr, yf, yu, rfl, HX, c0, c1, c2, c3⟩ := (H.out.keep HI.out.1 HI.out.1.size).ap hlt
      have HT := Lib.hid (take_all (p := (fun y : Ap => Ap.lt ⟨p, r, f, u⟩ y)) HX.out.2.1 HI.out.2 HX.out.1)
      have HF := Lib.hid (fstI_at (p := (fun y : Ap => Ap.lt ⟨p, r, f, u⟩ y)) HX.out.2.1 HI.out.2 HX.out.1)
      have HCY := Lib.hid (HC.out.keep HI.out.1)
      rcases hoy : (fun y : Ap => Ap.lt ⟨p, r, f, u⟩ y) ⟨yp, yr, yf, yu⟩ with _ | _
      · go_wp2_with fail
        refine (clo39a g p r f u yp yr yf yu Y HCY.out).mono ?_; rintro e w2 ⟨rfl, hb2⟩
        have HB := Lib.hid (HI.out.1.trans (hb2.mono HI.out.1.size))
        rw [hoy]
        go_wp2_with fail
        go_roundw
        case rel => exact ⟨j + 1, by omega, by go_num, HB.out, HT.out hoy⟩
        case measure => simp [intOf]; omega
      · go_wp2_with fail
        refine (clo39a g p r f u yp yr yf yu Y HCY.out).mono ?_; rintro e w2 ⟨rfl, hb2⟩
        have HB := Lib.hid (HI.out.1.trans (hb2.mono HI.out.1.size))
        rw [hoy]
        go_wp2_with fail
        go_ret
        exact ⟨ret_int (HF.out hoy).symm, HB.out⟩
    · obtain rfl : n = j := by omega
      have HM := Lib.hid (show fstI (fun y : Ap => Ap.lt ⟨p, r, f, u⟩ y) L = -1 from fstI_none fun x hx => HI.out.2 x (by rw [List.take_of_length_le (by rw [HL.out]; omega)]; exact hx))
      go_wp2_with fail
      go_ret
      exact ⟨ret_int HM.out.symm, HI.out.1⟩

set_option maxRecDepth 100000 in
set_option maxHeartbeats 1600000 in
theorem index39f (A : Option Addr) (n c : Nat) (L : List Ap) (g g' : Nat) (p : ByteArray) (t : Int) (w : World) (h : RRow apRec w w.heap.size A n c L) (hq : w.cell? ⟨g, 0, none⟩ = some (.string p) ∧ w.cell? ⟨g', 0, none⟩ = some (.int .i64 t)) :
    Calls Try.prog 100 #[.slice A n c, .func (.func 129) #[] #[.pointer (some ⟨g, 0, none⟩), .pointer (some ⟨g', 0, none⟩)]] w fun e w' => e = .returned (.int .i64 (fstI (fun y : Ap => y.has p t) L)) ∧ Below w.heap.size w w' := by
  have hm : n ≤ 9223372036854775807 := by have := h.cap; have := h.max; unfold maxLen at this; omega
  have H := Lib.hid h
  have HL := Lib.hid h.len
  have HC := Lib.hid hq
  clear h hq
  go_enter Try.func100, Try.ntmps100
  go_wp2_with fail
  go_loopw [5, 8] (fun _ i wr => ∃ j : Nat, j ≤ n ∧ i = .int .i64 j ∧ Hid (Below w.heap.size w wr ∧ ∀ x ∈ L.take j, (fun y : Ap => y.has p t) x = false)) (fun _ i _ => n - (intOf i).toNat)
  case atStart => exact ⟨0, by omega, rfl, Below.refl _ _, by simp⟩
  case round =>
    rename World => Y
    obtain ⟨j, hj, rfl, HI⟩ := hrel
    by_cases hlt : j < n
    · obtain ⟨ad, yp, yr, yf, yu, rfl, HX, c0, c1, c2, c3⟩ := (H.out.keep HI.out.1 HI.out.1.size).ap hlt
      have HT := Lib.hid (take_all (p := (fun y : Ap => y.has p t)) HX.out.2.1 HI.out.2 HX.out.1)
      have HF := Lib.hid (fstI_at (p := (fun y : Ap => y.has p t)) HX.out.2.1 HI.out.2 HX.out.1)
      have HCY := Lib.hid (And.intro (below_cell HI.out.1 HC.out.1) (below_cell HI.out.1 HC.out.2))
      rcases hoy : (fun y : Ap => y.has p t) ⟨yp, yr, yf, yu⟩ with _ | _
      · go_wp2_with fail
        refine (clo39f g g' p t yp yr yf yu Y HCY.out).mono ?_; rintro e w2 ⟨rfl, hb2⟩
        have HB := Lib.hid (HI.out.1.trans (hb2.mono HI.out.1.size))
        rw [hoy]
        go_wp2_with fail
        go_roundw
        case rel => exact ⟨j + 1, by omega, by go_num, HB.out, HT.out hoy⟩
        case measure => simp [intOf]; omega
      · go_wp2_with fail
        refine (clo39f g g' p t yp yr yf yu Y HCY.out).mono ?_; rintro e w2 ⟨rfl, hb2⟩
        have HB := Lib.hid (HI.out.1.trans (hb2.mono HI.out.1.size))
        rw [hoy]
        go_wp2_with fail
        go_ret
        exact ⟨ret_int (HF.out hoy).symm, HB.out⟩
    · obtain rfl : n = j := by omega
      have HM := Lib.hid (show fstI (fun y : Ap => y.has p t) L = -1 from fstI_none fun x hx => HI.out.2 x (by rw [List.take_of_length_le (by rw [HL.out]; omega)]; exact hx))
      go_wp2_with fail
      go_ret
      exact ⟨ret_int HM.out.symm, HI.out.1⟩
end Go.Proofs.Ytoomgbddfcmjnaa
