/- Codes: climbing. -/
import Derived.Test.YtdlgfhegafnmcaaDoorLr
import Derived.Test.YtdlgfhegafnmcaaDoorLt
import Derived.Test.YtdlgfhegafnmcaaDoorMo
namespace Go.Proofs.YtdlgfhegafnmcaaDoor
open Go.RowKit
def Cd.climbB (P : List Int) (k : Nat) : Bool :=
  ((List.range (Cd.lev P k + 1)).all fun a => decide (Cd.level P P.length (Cd.up P P.length k a) = a) && Cd.under P P.length k (Cd.up P P.length k a) && ((List.range (a + 1)).all fun b => decide (Cd.up P P.length (Cd.up P P.length k a) b = Cd.up P P.length k b))) &&
  decide (Cd.up P P.length k (Cd.lev P k) = k) && decide (Cd.up P P.length k ((Cd.lev P k : Int) + 1) = -1) && decide (Cd.up P P.length k 0 = 0)
set_option maxRecDepth 100000 in
theorem Cd.shapes_climb : ∀ L ∈ Cd.shapes, ∀ k < L.length, Cd.climbB (Cd.par L) k = true := by decide +kernel
theorem Cd.climb_at {P : List Int} {k : Nat} (h : Cd.climbB P k = true) {a : Nat} (ha : a < Cd.lev P k + 1) : Cd.level P P.length (Cd.up P P.length k a) = a ∧ Cd.under P P.length k (Cd.up P P.length k a) = true ∧ ∀ b : Nat, b < a + 1 → Cd.up P P.length (Cd.up P P.length k a) b = Cd.up P P.length k b := by
  unfold Cd.climbB at h
  simp only [Bool.and_eq_true, List.all_eq_true, List.mem_range, decide_eq_true_eq] at h
  exact ⟨(h.1.1.1 a ha).1.1, (h.1.1.1 a ha).1.2, (h.1.1.1 a ha).2⟩
theorem Cd.climb_end {P : List Int} {k : Nat} (h : Cd.climbB P k = true) : Cd.up P P.length k (Cd.lev P k) = k ∧ Cd.up P P.length k ((Cd.lev P k : Int) + 1) = -1 ∧ Cd.up P P.length k 0 = 0 := by
  unfold Cd.climbB at h
  simp only [Bool.and_eq_true, List.all_eq_true, List.mem_range, decide_eq_true_eq] at h
  exact ⟨h.1.1.2, h.1.2, h.2⟩
set_option maxRecDepth 100000 in
set_option maxHeartbeats 1600000 in
theorem walkClimb (W : World) (A : Option Addr) (n c : Nat) (l : List Int) (h : Nums W .u8 W.heap.size A n c l) (at0 : Int) (_ : -9223372036854775808 ≤ at0) (_ : at0 ≤ 9223372036854775807) :
    Calls Tryd.prog 5 #[.slice A n c, .int .i64 at0] W fun e w => e = .returned (.bool true) ∧ Below W.heap.size W w := by
  go_enter Tryd.func5, Tryd.ntmps5
  go_wp2_with fail
  refine (new_any A n c l W h).mono ?_; rintro e w1 ⟨rfl, hc1, hb1⟩
  have HB1 := Lib.hid hb1
  clear hb1
  go_wp2_with fail
  refine (list01 ⟨#[111, 110, 101]⟩ _ _ w1 hc1).mono ?_; rintro e w2 ⟨v, L, rfl, ho, hL, hc2, hg2⟩
  obtain ⟨Ar, nr, cr, rfl, hrow⟩ := ho.row
  have HRW := Lib.hid hrow
  have HSH := Lib.hid hL
  have HR := Lib.hid (Cd.shapes_right hL)
  have hnr := Cd.shapes_few L hL
  rw [hrow.len] at hnr
  have HP := Lib.hid (show (Cd.par L).length = nr by rw [← hrow.len]; simp [Cd.par])
  have HB2 := Lib.hid (show Below W.heap.size W w2 from HB1.out.grown hg2 HB1.out.size (fun r e => by injection e with e; omega))
  clear hc1 hg2 ho hrow hc2 hL h
  obtain ⟨X, hX⟩ : ∃ X : World, w2.alloc (.cells #[.string ⟨#[111, 110, 101]⟩, .slice Ar nr cr] 25) = X := ⟨_, rfl⟩
  have hbx : Below w2.heap.size w2 X := by rw [← hX]; exact (Below.refl _ _).alloc (Nat.le_refl _) _
  have d0 : X.cell? ⟨w2.heap.size, 0, none⟩ = some (.string ⟨#[111, 110, 101]⟩) := by rw [← hX]; simp [go_sem]
  have d1 : X.cell? ⟨w2.heap.size, 1, none⟩ = some (.slice Ar nr cr) := by rw [← hX]; simp [go_sem]
  have hsx : w2.heap.size < X.heap.size := by rw [← hX]; simp
  have HBX := Lib.hid (HB2.out.trans (hbx.mono HB2.out.size))
  have HC := Lib.hid (HRW.out.keep hbx hbx.size)
  clear hbx
  go_wp2_with fail
  clear hX
  obtain ⟨k, hk, hkn⟩ : ∃ k : Nat, at0 % (nr : Int) = k ∧ k < nr := ⟨(at0 % (nr : Int)).toNat, by have := Int.emod_nonneg at0 (show (nr : Int) ≠ 0 by omega); omega, by have := Int.emod_lt_of_pos at0 (show (0 : Int) < (nr : Int) by omega); omega⟩
  refine (mod_any at0 (nr : Int) X (by omega) (by omega)).mono ?_; rintro e w3 ⟨rfl, rfl⟩
  rw [hk]
  have HCL := Lib.hid (Cd.shapes_climb L HSH.out k (by rw [HRW.out.len]; exact hkn))
  have HLV := Lib.hid (show Cd.level (Cd.par L) nr k = Cd.lev (Cd.par L) k by unfold Cd.level; rw [if_pos (by simp [Cd.has, hkn])]; rfl)
  clear hk
  go_wp2_with fail
  refine (cLevel01 ⟨#[111, 110, 101]⟩ Cd.one_name Ar nr cr L (k : Int) X HC.out HR.out).mono ?_; rintro e w3 ⟨rfl, hb3⟩
  rw [HLV.out]
  have hv := Cd.lev_le (Cd.par L) k
  obtain ⟨lv, hlv⟩ : ∃ lv, Cd.lev (Cd.par L) k = lv := ⟨_, rfl⟩
  have HV := Lib.hid hlv
  rw [hlv] at hv ⊢
  have HB3 := Lib.hid (HBX.out.trans (hb3.mono HBX.out.size))
  have HC3 := Lib.hid (HC.out.keep hb3 hb3.size)
  have d0 := (hb3.cell hsx).trans d0
  have d1 := (hb3.cell hsx).trans d1
  have hsx3 := Nat.lt_of_lt_of_le hsx hb3.size
  clear hb3 hlv
  go_wp2_with fail
  go_loopw [8] (fun av wr => ∃ a : Nat, av = .int .i64 a ∧ a ≤ lv + 1 ∧ Hid (Below w3.heap.size w3 wr)) (fun av _ => lv + 1 - (intOf av).toNat)
  case atStart => exact ⟨0, rfl, by omega, Below.refl _ _⟩
  case round =>
    rename World => Y
    obtain ⟨a, rfl, hal, HI⟩ := hrel
    have d0 := (HI.out.cell hsx3).trans d0
    have d1 := (HI.out.cell hsx3).trans d1
    have hsxy := Nat.lt_of_lt_of_le hsx3 HI.out.size
    have HCY := Lib.hid (HC3.out.keep HI.out HI.out.size)
    by_cases hlt : a < lv + 1
    · have g1 : decide ((a : Int) ≤ (lv : Int)) = true := decide_eq_true (by omega)
      obtain ⟨u, hu⟩ : ∃ u, Cd.up (Cd.par L) nr k a = u := ⟨_, rfl⟩
      have HU := Lib.hid hu
      have hcl := Cd.climb_at HCL.out (a := a) (by rw [HV.out]; omega)
      rw [HP.out, hu] at hcl
      have HLU := Lib.hid hcl.1
      have HUN := Lib.hid hcl.2.1
      have HUP := Lib.hid hcl.2.2
      clear hcl hu
      go_wp2_with fail
      refine (cUp01 ⟨#[111, 110, 101]⟩ Cd.one_name Ar nr cr L (k : Int) (a : Int) Y HCY.out HR.out).mono ?_; rintro e w4 ⟨rfl, hb4⟩
      rw [HU.out]
      have HB4 := Lib.hid (HI.out.trans (hb4.mono HI.out.size))
      have HC4 := Lib.hid (HCY.out.keep hb4 hb4.size)
      have d0 := (hb4.cell hsxy).trans d0
      have d1 := (hb4.cell hsxy).trans d1
      have hsx4 := Nat.lt_of_lt_of_le hsxy hb4.size
      clear hb4
      go_wp2_with fail
      refine (cLevel01 ⟨#[111, 110, 101]⟩ Cd.one_name Ar nr cr L u w4 HC4.out HR.out).mono ?_; rintro e w5 ⟨rfl, hb5⟩
      rw [HLU.out]
      have HB5 := Lib.hid (HB4.out.trans (hb5.mono HB4.out.size))
      have HC5 := Lib.hid (HC4.out.keep hb5 hb5.size)
      have d0 := (hb5.cell hsx4).trans d0
      have d1 := (hb5.cell hsx4).trans d1
      have hsx5 := Nat.lt_of_lt_of_le hsx4 hb5.size
      clear hb5
      go_wp2_with fail
      refine (cUnder01 ⟨#[111, 110, 101]⟩ Cd.one_name Ar nr cr L (k : Int) u w5 HC5.out HR.out).mono ?_; rintro e w6 ⟨rfl, hb6⟩
      rw [HUN.out]
      have HB6 := Lib.hid (HB5.out.trans (hb6.mono HB5.out.size))
      have HC6 := Lib.hid (HC5.out.keep hb6 hb6.size)
      have d0 := (hb6.cell hsx5).trans d0
      have d1 := (hb6.cell hsx5).trans d1
      have hsx6 := Nat.lt_of_lt_of_le hsx5 hb6.size
      clear hb6
      go_wp2_with fail
      go_loopw [10] (fun bv wr => ∃ b : Nat, bv = .int .i64 b ∧ b ≤ a + 1 ∧ Hid (Below w6.heap.size w6 wr)) (fun bv _ => a + 1 - (intOf bv).toNat)
      case atStart => exact ⟨0, rfl, by omega, Below.refl _ _⟩
      case round =>
        rename World => Z
        obtain ⟨b, rfl, hbl, HJ⟩ := hrel
        have d0 := (HJ.out.cell hsx6).trans d0
        have d1 := (HJ.out.cell hsx6).trans d1
        have HCZ := Lib.hid (HC6.out.keep HJ.out HJ.out.size)
        by_cases hlb : b < a + 1
        · have g1 : decide ((b : Int) ≤ (a : Int)) = true := decide_eq_true (by omega)
          have HE := Lib.hid (HUP.out b hlb)
          have c1 : ∀ x : Aft Z, Calls Tryd.prog 17 #[.agg #[.string ⟨#[111, 110, 101]⟩, .slice Ar nr cr], .int .i64 u, .int .i64 (b : Int)] x.now fun e w' => e = .returned (.int .i64 (Cd.up (Cd.par L) nr k (b : Int))) ∧ Below x.now.heap.size x.now w' := fun x => by
            have h9 := cUp01 ⟨#[111, 110, 101]⟩ Cd.one_name Ar nr cr L u (b : Int) _ (HCZ.out.keep x.below x.below.size) HR.out
            rwa [HE.out] at h9
          have c2 : ∀ x : Aft Z, Calls Tryd.prog 17 #[.agg #[.string ⟨#[111, 110, 101]⟩, .slice Ar nr cr], .int .i64 (k : Int), .int .i64 (b : Int)] x.now fun e w' => e = .returned (.int .i64 (Cd.up (Cd.par L) nr k (b : Int))) ∧ Below x.now.heap.size x.now w' := fun x => cUp01 ⟨#[111, 110, 101]⟩ Cd.one_name Ar nr cr L k (b : Int) _ (HCZ.out.keep x.below x.below.size) HR.out
          generalize Cd.up (Cd.par L) nr k (b : Int) = z at *
          have x0 := Aft.cell d0
          have x1 := Aft.cell d1
          have g3 : (z != z) = false := by simp
          clear d0 d1 HE
          go_wp2_with fail
          refine wp_region_aft (by kernel_rfl) (by kernel_rfl) ?_
          repeat (go_big_quiet_step (first | with_reducible exact Calls.aft (c1 _) | with_reducible exact Calls.aft (c2 _)))
          refine wpQuiet_nil ?_
          rintro w9 ⟨⟨_, hb9⟩, rfl⟩
          have HB9 := Lib.hid (HJ.out.trans (hb9.mono HJ.out.size))
          clear hb9
          go_wp2_with fail
          go_roundw
          case rel => exact ⟨b + 1, by go_num, by omega, HB9.out⟩
          case measure => simp [intOf]; omega
        · obtain rfl : b = a + 1 := by omega
          have HBY := Lib.hid (HB6.out.trans (HJ.out.mono HB6.out.size))
          have g1 : decide (((a + 1 : Nat) : Int) ≤ (a : Int)) = false := decide_eq_false (by omega)
          go_wp2_with fail
          go_roundw
          case rel => exact ⟨a + 1, by go_num, by omega, HBY.out⟩
          case measure => simp [intOf]; omega
    · obtain rfl : a = lv + 1 := by omega
      have g1 : decide (((lv + 1 : Nat) : Int) ≤ (lv : Int)) = false := decide_eq_false (by omega)
      have hcl := Cd.climb_end HCL.out
      rw [HP.out, HV.out] at hcl
      have HE := Lib.hid hcl
      clear hcl
      have HBY := Lib.hid (HB3.out.trans (HI.out.mono HB3.out.size))
      go_wp2_with fail
      refine (cUp01 ⟨#[111, 110, 101]⟩ Cd.one_name Ar nr cr L (k : Int) (lv : Int) Y HCY.out HR.out).mono ?_; rintro e w4 ⟨rfl, hb4⟩
      rw [HE.out.1]
      have HB4 := Lib.hid (HBY.out.trans (hb4.mono HBY.out.size))
      have HC4 := Lib.hid (HCY.out.keep hb4 hb4.size)
      have d0 := (hb4.cell hsxy).trans d0
      have d1 := (hb4.cell hsxy).trans d1
      have hsx4 := Nat.lt_of_lt_of_le hsxy hb4.size
      clear hb4
      go_wp2_with fail
      refine (cUp01 ⟨#[111, 110, 101]⟩ Cd.one_name Ar nr cr L (k : Int) ((lv : Int) + 1) w4 HC4.out HR.out).mono ?_; rintro e w5 ⟨rfl, hb5⟩
      rw [HE.out.2.1]
      have HB5 := Lib.hid (HB4.out.trans (hb5.mono HB4.out.size))
      have HC5 := Lib.hid (HC4.out.keep hb5 hb5.size)
      have d0 := (hb5.cell hsx4).trans d0
      have d1 := (hb5.cell hsx4).trans d1
      have hsx5 := Nat.lt_of_lt_of_le hsx4 hb5.size
      clear hb5
      go_wp2_with fail
      refine (cUp01 ⟨#[111, 110, 101]⟩ Cd.one_name Ar nr cr L (k : Int) 0 w5 HC5.out HR.out).mono ?_; rintro e w6 ⟨rfl, hb6⟩
      rw [HE.out.2.2]
      have HB6 := Lib.hid (HB5.out.trans (hb6.mono HB5.out.size))
      clear hb6
      go_wp2_with fail
      refine (awake01 w6).mono ?_; rintro e wz ⟨rfl, hbz⟩
      have HBZ := Lib.hid (HB6.out.trans (hbz.mono HB6.out.size))
      go_wp2_with fail
      go_ret
      exact ⟨rfl, HBZ.out⟩
end Go.Proofs.YtdlgfhegafnmcaaDoor
