/- Approvals: the program's small functions. -/
import Derived.Test.YtoomgbddfcmjnaaAb
import Derived.Laws.Cover1
namespace Go.Proofs.Ytoomgbddfcmjnaa
open Go.RowKit
def cmpI (a b : Int) : Int := if a < b then -1 else if b < a then 1 else 0
def cmpS (a b : ByteArray) : Int := if Op.bytesLess a.toList b.toList = true then -1 else if (a.toList == b.toList) = true then 0 else 1
set_option maxHeartbeats 400000 in
theorem cmp_int (a b : Int) (w : World) : Calls Try.prog 114 #[.int .i64 a, .int .i64 b] w fun e w' => e = .returned (.int .i64 (cmpI a b)) ∧ w = w' := by
  have ia (x : Int) (w : World) : Calls Try.prog 144 #[.int .i64 x] w fun e w' => e = .returned (.bool false) ∧ w = w' := by
    have g : (x != x) = false := by simp
    go_enter Try.func144, Try.ntmps144
    go_wp2_with fail
    go_ret
    exact ⟨rfl, rfl⟩
  go_enter Try.func114, Try.ntmps114
  go_wp2_with fail
  refine (ia _ _).mono ?_; rintro e w1 ⟨rfl, rfl⟩
  go_wp2_with fail
  refine (ia _ _).mono ?_; rintro e w1 ⟨rfl, rfl⟩
  go_wp2_with fail
  all_goals (go_ret; exact ⟨ret_int (by unfold cmpI; first | rw [if_pos (by omega)] | rw [if_neg (by omega), if_pos (by omega)] | rw [if_neg (by omega), if_neg (by omega)]), rfl⟩)
set_option maxHeartbeats 400000 in
theorem cmp_str (a b : ByteArray) (w : World) : Calls Try.prog 115 #[.string a, .string b] w fun e w' => e = .returned (.int .i64 (cmpS a b)) ∧ w = w' := by
  have ia (x : ByteArray) (w : World) : Calls Try.prog 145 #[.string x] w fun e w' => e = .returned (.bool false) ∧ w = w' := by
    have g : (x.toList == x.toList) = true := by simp
    go_enter Try.func145, Try.ntmps145
    go_wp2_with fail
    go_ret
    exact ⟨rfl, rfl⟩
  rcases h1 : Op.bytesLess a.toList b.toList with _ | _
  · rcases h2 : (a.toList == b.toList) with _ | _
    · have HR := Lib.hid (show cmpS a b = 1 by unfold cmpS; rw [h1, h2]; rfl)
      go_enter Try.func115, Try.ntmps115
      go_wp2_with fail
      refine (ia _ _).mono ?_; rintro e w1 ⟨rfl, rfl⟩
      go_wp2_with fail
      refine (ia _ _).mono ?_; rintro e w1 ⟨rfl, rfl⟩
      go_wp2_with fail
      go_ret
      exact ⟨ret_int HR.out.symm, rfl⟩
    · have HR := Lib.hid (show cmpS a b = 0 by unfold cmpS; rw [h1, h2]; rfl)
      go_enter Try.func115, Try.ntmps115
      go_wp2_with fail
      refine (ia _ _).mono ?_; rintro e w1 ⟨rfl, rfl⟩
      go_wp2_with fail
      refine (ia _ _).mono ?_; rintro e w1 ⟨rfl, rfl⟩
      go_wp2_with fail
      go_ret
      exact ⟨ret_int HR.out.symm, rfl⟩
  · · have HR := Lib.hid (show cmpS a b = -1 by unfold cmpS; rw [h1]; rfl)
      go_enter Try.func115, Try.ntmps115
      go_wp2_with fail
      refine (ia _ _).mono ?_; rintro e w1 ⟨rfl, rfl⟩
      go_wp2_with fail
      refine (ia _ _).mono ?_; rintro e w1 ⟨rfl, rfl⟩
      go_wp2_with fail
      go_ret
      exact ⟨ret_int HR.out.symm, rfl⟩
def Ap.cmp (a b : Ap) : Int := if cmpI a.f b.f ≠ 0 then cmpI a.f b.f else cmpS a.p b.p
theorem Ap.cmp_lt (a b : Ap) : decide (Ap.cmp a b < 0) = Ap.lt a b := by
  unfold Ap.cmp Ap.lt cmpI cmpS
  rcases Op.bytesLess a.p.toList b.p.toList <;> rcases (a.p.toList == b.p.toList) <;> rcases (show a.f < b.f ∨ a.f = b.f ∨ b.f < a.f by omega) with h | h | h
  all_goals first
    | (simp [h]; done)
    | (have h1 : ¬ a.f < b.f := by omega
       have h2 : ¬ a.f = b.f := by omega
       simp [h, h1, h2]; done)
theorem Ap.cmp_ge (a b : Ap) : decide (0 ≤ Ap.cmp a b) = !(Ap.lt a b) := by
  rw [← Ap.cmp_lt]
  by_cases h : Ap.cmp a b < 0
  · have : ¬ 0 ≤ Ap.cmp a b := by omega
    simp [h, this]
  · have : 0 ≤ Ap.cmp a b := by omega
    simp [h, this]
def orI (a b : Int) : Int := if a ≠ 0 then a else b
set_option maxHeartbeats 800000 in
theorem cmp_or (g : Nat) (a b : Int) (w : World) (h0 : w.cell? ⟨g, 0, none⟩ = some (.int .i64 a)) (h1 : w.cell? ⟨g, 1, none⟩ = some (.int .i64 b)) :
    Calls Try.prog 113 #[.slice (some ⟨g, 0, none⟩) 2 2] w fun e w' => e = .returned (.int .i64 (orI a b)) ∧ w = w' := by
  go_enter Try.func113, Try.ntmps113
  go_wp2_with fail
  go_loop [8] (fun i => (i = .int .i64 0) ∨ (i = .int .i64 1 ∧ a = 0) ∨ (i = .int .i64 2 ∧ a = 0 ∧ b = 0)) (fun i => 2 - (intOf i).toNat)
  case atStart => exact .inl rfl
  case round =>
    rcases hrel with rfl | ⟨rfl, ha⟩ | ⟨rfl, ha, hb⟩
    · by_cases ha : a = 0
      · have g : (a != 0) = false := by simp [ha]
        go_wp2_with fail
        go_round
        case rel => exact .inr (.inl ⟨rfl, ha⟩)
        case measure => simp [intOf]
      · have g : (a != 0) = true := by simp [ha]
        have HR := Lib.hid (show orI a b = a by unfold orI; rw [if_pos ha])
        go_wp2_with fail
        go_ret
        exact ⟨ret_int HR.out.symm, rfl⟩
    · by_cases hb : b = 0
      · have g : (b != 0) = false := by simp [hb]
        go_wp2_with fail
        go_round
        case rel => exact .inr (.inr ⟨rfl, ha, hb⟩)
        case measure => simp [intOf]
      · have g : (b != 0) = true := by simp [hb]
        have HR := Lib.hid (show orI a b = b by unfold orI; rw [if_neg (by simpa using ha)])
        clear ha
        go_wp2_with fail
        go_ret
        exact ⟨ret_int HR.out.symm, rfl⟩
    · have HR := Lib.hid (show orI a b = 0 by unfold orI; rw [if_neg (by simpa using ha)]; exact hb)
      clear ha hb
      go_wp2_with fail
      go_ret
      exact ⟨ret_int HR.out.symm, rfl⟩
theorem below_nextR {W w w' : World} (h : Below W.heap.size W w) (h' : Below w.heap.size w w') (hs : W.heap.size ≤ w.heap.size) : Below W.heap.size W w' := h.trans (h'.mono hs)
theorem below_alloc_drew (W : World) (o : Obj) : Below W.drew.heap.size W.drew (W.alloc o).drew := below_one (w := W.drew) o
theorem or_new (a b : Int) (w : World) : Calls Try.prog 113 #[.slice (some ⟨w.heap.size, 0, none⟩) 2 2] (w.alloc (.cells #[.int .i64 a, .int .i64 b] 3)).drew fun e w' => e = .returned (.int .i64 (orI a b)) ∧ Below w.heap.size w w' := by
  refine (cmp_or w.heap.size a b _ (by simp [go_sem]) (by simp [go_sem])).mono ?_
  rintro e w' ⟨rfl, rfl⟩
  exact ⟨rfl, (below_one _).drew⟩
set_option maxHeartbeats 800000 in
theorem compare39 (p r : ByteArray) (f u : Int) (p' r' : ByteArray) (f' u' : Int) (w : World) :
    Calls Try.prog 91 #[.agg #[.string p, .string r, .int .i64 f, .int .i64 u], .agg #[.string p', .string r', .int .i64 f', .int .i64 u']] w fun e w' => e = .returned (.int .i64 (Ap.cmp ⟨p, r, f, u⟩ ⟨p', r', f', u'⟩)) ∧ Below w.heap.size w w' := by
  obtain ⟨X, hX, HX⟩ := ap_boxB w p r f u
  obtain ⟨W, hW, HW⟩ := ap_boxB X p' r' f' u'
  have hb : Below w.heap.size w W := HX.out.1.trans (HW.out.1.mono HX.out.1.size)
  have hxw := HX.out.2.keep HW.out.1
  have c0 : ∀ w', Below W.heap.size W w' → w'.cell? ⟨w.heap.size, 0, none⟩ = some (.string p) := fun w' hb => (hb.cell hxw.lt).trans hxw.c0
  have c2 : ∀ w', Below W.heap.size W w' → w'.cell? ⟨w.heap.size, 2, none⟩ = some (.int .i64 f) := fun w' hb => (hb.cell hxw.lt).trans hxw.c2
  have d0 : ∀ w', Below W.heap.size W w' → w'.cell? ⟨X.heap.size, 0, none⟩ = some (.string p') := fun w' hb => (hb.cell HW.out.2.lt).trans HW.out.2.c0
  have d2 : ∀ w', Below W.heap.size W w' → w'.cell? ⟨X.heap.size, 2, none⟩ = some (.int .i64 f') := fun w' hb => (hb.cell HW.out.2.lt).trans HW.out.2.c2
  have HB := Lib.hid hb
  clear hb hxw
  go_enter Try.func91, Try.ntmps91
  go_wp2_with fail
  first | rw [hW] | skip
  clear hX hW HX HW
  have kp : Below W.drew.heap.size W.drew (W.alloc (.cells #[.int .i64 (cmpI f f'), .int .i64 (cmpS p p')] 3)).drew := below_alloc_drew _ _
  go_region_held3 (fun w' => Below W.heap.size W w')
    (first | assumption | (exact Below.refl _ _) | (exact below_of_drawn 1) | (exact (Below.refl _ _).drew) | (exact below_alloc_drew _ _) | (exact below_drewN (by assumption) _) | (exact below_nextR (by assumption) (by assumption) (Below.size (by assumption))))
    (first
      | (go_at_call 114; (with_reducible refine (cmp_int _ _ _).mono ?_); rintro e wz ⟨rfl, rfl⟩)
      | (go_at_call 115; (with_reducible refine (cmp_str _ _ _).mono ?_); rintro e wz ⟨rfl, rfl⟩)
      | (go_at_call 113; (with_reducible refine (or_new _ _ _).mono ?_); rintro e wz ⟨rfl, hbz⟩))
  go_wp2_with fail
  go_ret
  exact ⟨rfl, HB.out.trans (hbz.mono HB.out.size)⟩
end Go.Proofs.Ytoomgbddfcmjnaa
