/- Codes: going up, what is under what, and the codes of a level. -/
import Derived.Test.YtdlgfhegafnmcaaDoorLl
namespace Go.Proofs.YtdlgfhegafnmcaaDoor
open Go.RowKit
def Cd.upF (P : List Int) (a : Nat) : Nat → Nat → Nat
  | 0, k => k
  | f + 1, k => if a < Cd.lev P k then Cd.upF P a f (P.getD k (-1)).toNat else k
theorem Cd.lev_pos {P : List Int} {k a : Nat} (h : a < Cd.lev P k) : 1 ≤ k := by
  rcases Nat.eq_zero_or_pos k with rfl | h9
  · rw [Cd.lev_root] at h; omega
  · exact h9
theorem Cd.upF_fuel {P : List Int} (h : Cd.Tree P) (a : Nat) : ∀ f k, k ≤ f → k < P.length → Cd.upF P a f k = Cd.upF P a k k := by
  intro f
  induction f using Nat.strongRecOn with
  | ind f ih =>
    intro k hk hl
    rcases Nat.eq_zero_or_pos k with rfl | hpos
    · match f with
      | 0 => rfl
      | f + 1 => simp only [Cd.upF]; rw [if_neg (by rw [Cd.lev_root]; omega)]
    · have hb := h.before k hpos hl
      obtain ⟨f, rfl⟩ : ∃ q, f = q + 1 := ⟨f - 1, by omega⟩
      obtain ⟨k, rfl⟩ : ∃ q, k = q + 1 := ⟨k - 1, by omega⟩
      simp only [Cd.upF]
      split
      · rw [ih f (by omega) _ (by omega) (by omega), ← ih k (by omega) _ (by omega) (by omega)]
      · rfl
theorem Cd.upF_step {P : List Int} (h : Cd.Tree P) {a k : Nat} (hk : k < P.length) (hl : a < Cd.lev P k) : Cd.upF P a k k = Cd.upF P a (P.getD k (-1)).toNat (P.getD k (-1)).toNat := by
  have h1 := Cd.lev_pos hl
  have hb := h.before k h1 hk
  obtain ⟨k, rfl⟩ : ∃ q, k = q + 1 := ⟨k - 1, by omega⟩
  rw [show Cd.upF P a (k + 1) (k + 1) = if a < Cd.lev P (k + 1) then Cd.upF P a k (P.getD (k + 1) (-1)).toNat else k + 1 from rfl, if_pos hl, Cd.upF_fuel h a k _ (by omega) (by omega)]
theorem Cd.upF_stop {P : List Int} {a k : Nat} (hl : ¬ a < Cd.lev P k) : Cd.upF P a k k = k := by
  match k with
  | 0 => rfl
  | k + 1 => simp only [Cd.upF]; rw [if_neg hl]
def Cd.up (P : List Int) (n : Nat) (k a : Int) : Int := if Cd.has n k = true ∧ 0 ≤ a ∧ a ≤ Cd.lev P k.toNat then (Cd.upF P a.toNat k.toNat k.toNat : Int) else -1
set_option maxRecDepth 100000 in
set_option maxHeartbeats 1600000 in
theorem up01 (A : Option Addr) (n c g1 c1 g2 c2 : Nat) (L : List Cd.Co) (k a : Int) (w : World) (h : TrOk w A n c g1 c1 L) : Calls Tryd.prog 36 #[.agg #[.slice A n c, .slice (some ⟨g1, 0, none⟩) n c1, .slice (some ⟨g2, 0, none⟩) n c2, .int .i64 (Cd.last (Cd.par L))], .int .i64 k, .int .i64 a] w fun e w' => e = .returned (.int .i64 (Cd.up (Cd.par L) n k a)) ∧ Below w.heap.size w w' := by
  have HT := Lib.hid h
  have hn60 := h.few
  obtain ⟨W, hW⟩ : ∃ W : World, w.alloc (.cells #[.slice A n c, .slice (some ⟨g1, 0, none⟩) n c1, .slice (some ⟨g2, 0, none⟩) n c2, .int .i64 (Cd.last (Cd.par L))] 54) = W := ⟨_, rfl⟩
  have hb : Below w.heap.size w W := by rw [← hW]; exact (Below.refl _ _).alloc (Nat.le_refl _) _
  have d0 : W.cell? ⟨w.heap.size, 0, none⟩ = some (.slice A n c) := by rw [← hW]; simp [go_sem]
  have d1 : W.cell? ⟨w.heap.size, 1, none⟩ = some (.slice (some ⟨g1, 0, none⟩) n c1) := by rw [← hW]; simp [go_sem]
  have d2 : W.cell? ⟨w.heap.size, 2, none⟩ = some (.slice (some ⟨g2, 0, none⟩) n c2) := by rw [← hW]; simp [go_sem]
  have d3 : W.cell? ⟨w.heap.size, 3, none⟩ = some (.int .i64 (Cd.last (Cd.par L))) := by rw [← hW]; simp [go_sem]
  have hsz : w.heap.size < W.heap.size := by rw [← hW]; simp
  have HW := Lib.hid (h.keep hb)
  have HB := Lib.hid hb
  clear h hb
  go_enter Tryd.func36, Tryd.ntmps36
  go_wp2_with fail
  clear hW
  refine (has01 A n c g1 c1 g2 c2 L k W HW.out).mono ?_; rintro e w1 ⟨rfl, hb1⟩
  have HB1 := Lib.hid (HB.out.trans (hb1.mono HB.out.size))
  have d0 := (hb1.cell hsz).trans d0
  have d1 := (hb1.cell hsz).trans d1
  have H1 := Lib.hid (HW.out.keep hb1)
  have hsz1 := Nat.lt_of_lt_of_le hsz hb1.size
  clear hb1 d2 d3
  rcases hh : Cd.has n k with _ | _
  · have HR := Lib.hid (show Cd.up (Cd.par L) n k a = -1 by unfold Cd.up; rw [hh]; simp)
    clear hh
    go_wp2_with fail
    go_ret
    exact ⟨congrArg (fun b => Ending.returned (.int .i64 b)) HR.out.symm, HB1.out⟩
  · have hk : 0 ≤ k ∧ k < n := by simpa [Cd.has] using hh
    obtain ⟨j, rfl⟩ := Int.eq_ofNat_of_zero_le hk.1
    have HU := Lib.hid (show Cd.up (Cd.par L) n (j : Int) a = if 0 ≤ a ∧ a ≤ Cd.lev (Cd.par L) j then (Cd.upF (Cd.par L) a.toNat j j : Int) else -1 by unfold Cd.up; rw [hh]; simp)
    have cj := H1.out.at (j := j) (by omega)
    have hjn : j < n := by omega
    have i1 : (0 : Int) ≤ (j : Int) := by omega
    have i2 : (j : Int) < (n : Int) := by omega
    clear hh hk
    by_cases ha : a < 0
    · have ga : decide (a < 0) = true := decide_eq_true ha
      have HR := Lib.hid (HU.out.trans (if_neg (by omega)))
      clear ha
      go_wp2_with fail
      go_ret
      exact ⟨congrArg (fun b => Ending.returned (.int .i64 b)) HR.out.symm, HB1.out⟩
    · have ga : decide (a < 0) = false := decide_eq_false ha
      obtain ⟨a, rfl⟩ := Int.eq_ofNat_of_zero_le (show 0 ≤ a by omega)
      by_cases hal : Cd.lev (Cd.par L) j < a
      · have gl : decide (((Cd.lev (Cd.par L) j : Nat) : Int) < (a : Int)) = true := decide_eq_true (by omega)
        have gl' : decide (Cd.lev (Cd.par L) j < a) = true := decide_eq_true hal
        have HR := Lib.hid (HU.out.trans (if_neg (by omega)))
        clear ha hal
        go_wp2_with fail
        go_ret
        exact ⟨congrArg (fun b => Ending.returned (.int .i64 b)) HR.out.symm, HB1.out⟩
      · have gl : decide (((Cd.lev (Cd.par L) j : Nat) : Int) < (a : Int)) = false := decide_eq_false (by omega)
        have gl' : decide (Cd.lev (Cd.par L) j < a) = false := decide_eq_false hal
        obtain ⟨T, hT⟩ : ∃ T, Cd.upF (Cd.par L) a j j = T := ⟨_, rfl⟩
        have HR := Lib.hid (show Cd.up (Cd.par L) n (j : Int) (a : Int) = (T : Int) by rw [HU.out, if_pos (by omega), Int.toNat_natCast, hT])
        have HTT := Lib.hid hT
        generalize Cd.lev (Cd.par L) j = lj at cj gl gl'
        clear ha hal hT
        go_wp2_with fail
        go_loopw [1] (fun x wr => ∃ i : Nat, x = .int .i64 i ∧ i < n ∧ Hid (Cd.upF (Cd.par L) a i i = T ∧ Below w1.heap.size w1 wr)) (fun x _ => (intOf x).toNat)
        case atStart => exact ⟨j, rfl, hjn, HTT.out, Below.refl _ _⟩
        case round =>
          rename World => Z
          obtain ⟨i, rfl, hi, HI⟩ := hrel
          have d0 := (HI.out.2.cell hsz1).trans d0
          have d1 := (HI.out.2.cell hsz1).trans d1
          have HZ := Lib.hid (H1.out.keep HI.out.2)
          have ci := HZ.out.at hi
          have i3 : (0 : Int) ≤ (i : Int) := by omega
          have i4 : (i : Int) < (n : Int) := by omega
          by_cases hli : a < Cd.lev (Cd.par L) i
          · have g3 : decide ((a : Int) < ((Cd.lev (Cd.par L) i : Nat) : Int)) = true := decide_eq_true (by omega)
            have g3' : decide (a < Cd.lev (Cd.par L) i) = true := decide_eq_true hli
            obtain ⟨g, name, par, rfl, HX, c0, cc1⟩ := HZ.out.row.val hi
            have hst := Cd.upF_step HZ.out.tree (by rw [HZ.out.len]; exact hi) hli
            have hbf := HZ.out.tree.before i (Cd.lev_pos hli) (by rw [HZ.out.len]; exact hi)
            rw [Cd.par_get HX.out.2.1, HX.out.1] at hst hbf
            simp only at hst hbf
            obtain ⟨q, rfl⟩ := Int.eq_ofNat_of_zero_le hbf.1
            rw [Int.toNat_natCast] at hst
            have hqi : q < i := by omega
            have HST := Lib.hid (hst.symm.trans HI.out.1)
            generalize Cd.lev (Cd.par L) i = li at ci g3 g3'
            clear hst hbf hli
            go_wp2_with fail
            go_roundw
            case rel => exact ⟨q, rfl, by omega, HST.out, HI.out.2⟩
            case measure => simp [intOf]; omega
          · have g3 : decide ((a : Int) < ((Cd.lev (Cd.par L) i : Nat) : Int)) = false := decide_eq_false (by omega)
            have g3' : decide (a < Cd.lev (Cd.par L) i) = false := decide_eq_false hli
            have HE := Lib.hid (show i = T by rw [← HI.out.1, Cd.upF_stop hli])
            have HBZ := Lib.hid (HB1.out.trans (HI.out.2.mono HB1.out.size))
            generalize Cd.lev (Cd.par L) i = li at ci g3 g3'
            clear hli
            go_wp2_with fail
            go_ret
            exact ⟨congrArg (fun b => Ending.returned (.int .i64 b)) (by rw [HR.out, ← HE.out]), HBZ.out⟩
end Go.Proofs.YtdlgfhegafnmcaaDoor
