/- Samples: a greater part has everybody that a smaller one has. -/
import Derived.Test.YtjeeobaiibhbaaaSb
import Derived.Deep.RegionHeld3
namespace Go.Proofs.Ytjeeobaiibhbaaa
open Go.RowKit
/-- how many of the first k parts begin to have somebody whose number leaves the rest d -/
def Sm.cnt (d : Int) (k : Nat) : Int := if d < k then 1 else 0
set_option maxRecDepth 100000 in
set_option maxHeartbeats 800000 in
theorem walkGrows (w : World) (p : Int) (_ : -9223372036854775808 ≤ p) (_ : p ≤ 9223372036854775807) (o : Int) (_ : -9223372036854775808 ≤ o) (_ : o ≤ 9223372036854775807) (s : Int) (hs : -9223372036854775808 ≤ s) (hs' : s ≤ 9223372036854775807)
    (t : Int) (ht : 0 ≤ t) (ht' : t ≤ 65535) (id : Int) (hi : 0 ≤ id) (hi' : id ≤ 65535) :
    Calls Try.prog 4 #[.agg #[.int .i64 p, .int .i64 o, .int .i64 s], .int .u16 t, .int .u16 id] w fun e w' => e = .returned (.bool true) ∧ Below w.heap.size w w' := by
  go_enter Try.func4, Try.ntmps4
  go_wp2_with fail
  refine (limited11 p o s t hs hs' ht ht' _).mono ?_; rintro e w1 ⟨P, O, S, hfit, rfl, hb1⟩
  have HF := Lib.hid hfit
  have HB1 := Lib.hid ((Below.refl w.heap.size w).alloc (Nat.le_refl _) (.cells #[.int .i64 p, .int .i64 o, .int .i64 s] 23) |>.trans (hb1.mono (by simp)))
  clear hfit hb1
  go_wp2_with fail
  obtain ⟨W, hW⟩ : ∃ W : World, w1.alloc (.cells #[.int .i64 P, .int .i64 O, .int .i64 S] 23) = W := ⟨_, rfl⟩
  have c1 : W.cell? ⟨w1.heap.size, 1, none⟩ = some (.int .i64 O) := by rw [← hW]; simp [go_sem]
  have c2 : W.cell? ⟨w1.heap.size, 2, none⟩ = some (.int .i64 S) := by rw [← hW]; simp [go_sem]
  have HBW := Lib.hid (show Below w.heap.size w W by rw [← hW]; exact HB1.out.alloc HB1.out.size _)
  have HSZ := Lib.hid (show w1.heap.size < W.heap.size by rw [← hW]; simp)
  have HC := Lib.hid (And.intro c1 c2)
  clear c1 c2
  rw [hW]
  clear hW
  obtain ⟨O, rfl⟩ := Int.eq_ofNat_of_zero_le (a := O) (by have := HF.out; unfold Sm.Fits at this; omega)
  have o1 : 1 ≤ O := by have := HF.out; unfold Sm.Fits at this; omega
  have o2 : O ≤ 9 := by have := HF.out; unfold Sm.Fits at this; omega
  obtain ⟨dd, hdd, hd0, hd1⟩ : ∃ dd : Int, (Sm.draw S (1 + id) : Int) % O = dd ∧ 0 ≤ dd ∧ dd < O := ⟨_, rfl, Int.emod_nonneg _ (by omega), Int.emod_lt_of_pos _ (by omega)⟩
  have hin : ∀ q : Int, 1 ≤ q → q ≤ O → Sm.inS q O S (1 + id) = decide (dd < q) := fun q h1 h2 => by
    rw [← hdd]
    exact Sm.Fits.inS (by have := HF.out; unfold Sm.Fits at this ⊢; omega) (by omega) (by omega)
  have HIN := Lib.hid hin
  clear hin hdd
  go_loopw [9, 10, 11, 12, 13, 14] (fun n q _ _ _ _ wr => ∃ k : Nat, k ≤ O ∧ q = .int .i64 ((k : Int) + 1) ∧ n = .int .i64 (Sm.cnt dd k) ∧ Hid (Below W.heap.size W wr)) (fun _ q _ _ _ _ _ => (O + 1 - intOf q).toNat)
  case atStart => exact ⟨0, by omega, rfl, by unfold Sm.cnt; rw [if_neg (by omega)], Below.refl _ _⟩
  case round =>
    obtain ⟨k, hk, rfl, rfl, HW⟩ := hrel
    have e1 : wr.cell? ⟨w1.heap.size, 1, none⟩ = some (.int .i64 O) := by rw [HW.out.cell HSZ.out]; exact HC.out.1
    have e2 : wr.cell? ⟨w1.heap.size, 2, none⟩ = some (.int .i64 S) := by rw [HW.out.cell HSZ.out]; exact HC.out.2
    have hne : w1.heap.size < wr.heap.size := Nat.lt_of_lt_of_le HSZ.out HW.out.size
    have g1 : ∀ ob, (wr.alloc ob).cell? ⟨w1.heap.size, 1, none⟩ = some (.int .i64 O) := fun ob => by rw [World.cell?_alloc_lt wr ob _ hne]; exact e1
    have g2 : ∀ ob, (wr.alloc ob).cell? ⟨w1.heap.size, 2, none⟩ = some (.int .i64 S) := fun ob => by rw [World.cell?_alloc_lt wr ob _ hne]; exact e2
    have i1 : ∀ ob ob', ((wr.alloc ob).alloc ob').cell? ⟨w1.heap.size, 1, none⟩ = some (.int .i64 O) := fun ob ob' => by rw [World.cell?_alloc_lt _ ob' _ (by simp; omega)]; exact g1 ob
    have i2 : ∀ ob ob', ((wr.alloc ob).alloc ob').cell? ⟨w1.heap.size, 2, none⟩ = some (.int .i64 S) := fun ob ob' => by rw [World.cell?_alloc_lt _ ob' _ (by simp; omega)]; exact g2 ob
    by_cases hlt : k < O
    · have hb1 := HIN.out (k + 1) (by omega) (by omega)
      by_cases k0 : k = 0
      · subst k0
        rcases Int.lt_or_le 0 dd with hc | hc
        · rw [show decide (dd < ((0 : Nat) : Int) + 1) = false from by simp; omega] at hb1
          have hcnt : Sm.cnt dd 0 = 0 ∧ Sm.cnt dd (0 + 1) = 0 := by unfold Sm.cnt; simp; omega
          have HCN := Lib.hid hcnt
          have HB := Lib.hid hb1
          clear hb1 hcnt hc
          go_wp2_with fail
          go_region_held3 (fun w' => w'.cell? ⟨w1.heap.size, 1, none⟩ = some (.int .i64 O) ∧ w'.cell? ⟨w1.heap.size, 2, none⟩ = some (.int .i64 S))
            (first | go_keep | (simp [go_sem, *])) (fail)
          all_goals
            go_wp2_with fail
            refine (in_lit _ _ _ _ _ HB.out _).mono ?_; rintro e w2 ⟨rfl, hb2⟩
            have HB2 := Lib.hid hb2
            clear hb2
            rw [HCN.out.1]
            go_wp2_with fail
            go_roundw
            case rel =>
              refine ⟨0 + 1, by omega, by go_num, by rw [HCN.out.2], ?_⟩
              refine Below.trans ?_ (HB2.out.mono (by have := HW.out.size; simp; omega))
              repeat (first | exact HW.out | refine below_drewN ?_ _ | refine Below.drew ?_ | refine Below.alloc ?_ (by have := HW.out.size; simp; omega) _ | refine Below.setCell ?_ (by have := HW.out.size; simp; omega) _)
            case measure => simp [intOf]; omega
        · rw [show decide (dd < ((0 : Nat) : Int) + 1) = true from by simp; omega] at hb1
          have hcnt : Sm.cnt dd 0 = 0 ∧ Sm.cnt dd (0 + 1) = 1 := by unfold Sm.cnt; simp; omega
          have HCN := Lib.hid hcnt
          have HB := Lib.hid hb1
          clear hb1 hcnt hc
          go_wp2_with fail
          go_region_held3 (fun w' => w'.cell? ⟨w1.heap.size, 1, none⟩ = some (.int .i64 O) ∧ w'.cell? ⟨w1.heap.size, 2, none⟩ = some (.int .i64 S))
            (first | go_keep | (simp [go_sem, *])) (fail)
          all_goals
            go_wp2_with fail
            refine (in_lit _ _ _ _ _ HB.out _).mono ?_; rintro e w2 ⟨rfl, hb2⟩
            have HB2 := Lib.hid hb2
            clear hb2
            rw [HCN.out.1]
            go_wp2_with fail
            go_roundw
            case rel =>
              refine ⟨0 + 1, by omega, by go_num, by rw [HCN.out.2], ?_⟩
              refine Below.trans ?_ (HB2.out.mono (by have := HW.out.size; simp; omega))
              repeat (first | exact HW.out | refine below_drewN ?_ _ | refine Below.drew ?_ | refine Below.alloc ?_ (by have := HW.out.size; simp; omega) _ | refine Below.setCell ?_ (by have := HW.out.size; simp; omega) _)
            case measure => simp [intOf]; omega
      · have hb0 := HIN.out k (by omega) (by omega)
        have hk1 : 1 ≤ k := by omega
        have f1 : decide ((1 : Int) < (k : Int) + 1) = true := by simp; omega
        clear k0
        rcases (show dd < k ∨ dd = k ∨ (k : Int) < dd by omega) with hc | hc | hc
        · rw [show decide (dd < (k : Int) + 1) = true from by simp; omega] at hb1
          rw [show decide (dd < (k : Int)) = true from by simp; omega] at hb0
          have hcnt : Sm.cnt dd k = 1 ∧ Sm.cnt dd (k + 1) = 1 := by unfold Sm.cnt; constructor <;> first | (rw [if_pos (by omega)]) | (rw [if_neg (by omega)])
          have HCN := Lib.hid hcnt
          have HB := Lib.hid hb1
          have HB0 := Lib.hid hb0
          clear hb1 hb0 hcnt hc
          go_wp2_with fail
          go_region_held3 (fun w' => w'.cell? ⟨w1.heap.size, 1, none⟩ = some (.int .i64 O) ∧ w'.cell? ⟨w1.heap.size, 2, none⟩ = some (.int .i64 S))
            (first | go_keep | (simp [go_sem, *])) (fail)
          all_goals
            go_wp2_with fail
            refine (in_lit _ _ _ _ _ HB.out _).mono ?_; rintro e w2 ⟨rfl, hb2⟩
            have hc2 := fun b o h => hb2.cell (p := ⟨b, o, none⟩) h
            have HBa := Lib.hid hb2
            clear hb2
            rw [HCN.out.1]
            go_wp2_with fail
            refine (in_lit _ _ _ _ _ HB0.out _).mono ?_; rintro e w3 ⟨rfl, hb3⟩
            have HB2 := Lib.hid (HBa.out.trans (hb3.mono HBa.out.size))
            clear hb3 hc2
            go_wp2_with fail
            go_roundw
            case rel =>
              refine ⟨k + 1, by omega, by go_num, by rw [HCN.out.2], ?_⟩
              refine Below.trans ?_ (HB2.out.mono (by have := HW.out.size; simp; omega))
              repeat (first | exact HW.out | refine below_drewN ?_ _ | refine Below.drew ?_ | refine Below.alloc ?_ (by have := HW.out.size; simp; omega) _ | refine Below.setCell ?_ (by have := HW.out.size; simp; omega) _)
            case measure => simp [intOf]; omega
        · rw [show decide (dd < (k : Int) + 1) = true from by simp; omega] at hb1
          rw [show decide (dd < (k : Int)) = false from by simp; omega] at hb0
          have hcnt : Sm.cnt dd k = 0 ∧ Sm.cnt dd (k + 1) = 1 := by unfold Sm.cnt; constructor <;> first | (rw [if_pos (by omega)]) | (rw [if_neg (by omega)])
          have HCN := Lib.hid hcnt
          have HB := Lib.hid hb1
          have HB0 := Lib.hid hb0
          clear hb1 hb0 hcnt hc
          go_wp2_with fail
          go_region_held3 (fun w' => w'.cell? ⟨w1.heap.size, 1, none⟩ = some (.int .i64 O) ∧ w'.cell? ⟨w1.heap.size, 2, none⟩ = some (.int .i64 S))
            (first | go_keep | (simp [go_sem, *])) (fail)
          all_goals
            go_wp2_with fail
            refine (in_lit _ _ _ _ _ HB.out _).mono ?_; rintro e w2 ⟨rfl, hb2⟩
            have hc2 := fun b o h => hb2.cell (p := ⟨b, o, none⟩) h
            have HBa := Lib.hid hb2
            clear hb2
            rw [HCN.out.1]
            go_wp2_with fail
            refine (in_lit _ _ _ _ _ HB0.out _).mono ?_; rintro e w3 ⟨rfl, hb3⟩
            have HB2 := Lib.hid (HBa.out.trans (hb3.mono HBa.out.size))
            clear hb3 hc2
            go_wp2_with fail
            go_roundw
            case rel =>
              refine ⟨k + 1, by omega, by go_num, by rw [HCN.out.2], ?_⟩
              refine Below.trans ?_ (HB2.out.mono (by have := HW.out.size; simp; omega))
              repeat (first | exact HW.out | refine below_drewN ?_ _ | refine Below.drew ?_ | refine Below.alloc ?_ (by have := HW.out.size; simp; omega) _ | refine Below.setCell ?_ (by have := HW.out.size; simp; omega) _)
            case measure => simp [intOf]; omega
        · rw [show decide (dd < (k : Int) + 1) = false from by simp; omega] at hb1
          rw [show decide (dd < (k : Int)) = false from by simp; omega] at hb0
          have hcnt : Sm.cnt dd k = 0 ∧ Sm.cnt dd (k + 1) = 0 := by unfold Sm.cnt; constructor <;> first | (rw [if_pos (by omega)]) | (rw [if_neg (by omega)])
          have HCN := Lib.hid hcnt
          have HB := Lib.hid hb1
          have HB0 := Lib.hid hb0
          clear hb1 hb0 hcnt hc
          go_wp2_with fail
          go_region_held3 (fun w' => w'.cell? ⟨w1.heap.size, 1, none⟩ = some (.int .i64 O) ∧ w'.cell? ⟨w1.heap.size, 2, none⟩ = some (.int .i64 S))
            (first | go_keep | (simp [go_sem, *])) (fail)
          all_goals
            go_wp2_with fail
            refine (in_lit _ _ _ _ _ HB.out _).mono ?_; rintro e w2 ⟨rfl, hb2⟩
            have hc2 := fun b o h => hb2.cell (p := ⟨b, o, none⟩) h
            have HBa := Lib.hid hb2
            clear hb2
            rw [HCN.out.1]
            go_wp2_with fail
            refine (in_lit _ _ _ _ _ HB0.out _).mono ?_; rintro e w3 ⟨rfl, hb3⟩
            have HB2 := Lib.hid (HBa.out.trans (hb3.mono HBa.out.size))
            clear hb3 hc2
            go_wp2_with fail
            go_roundw
            case rel =>
              refine ⟨k + 1, by omega, by go_num, by rw [HCN.out.2], ?_⟩
              refine Below.trans ?_ (HB2.out.mono (by have := HW.out.size; simp; omega))
              repeat (first | exact HW.out | refine below_drewN ?_ _ | refine Below.drew ?_ | refine Below.alloc ?_ (by have := HW.out.size; simp; omega) _ | refine Below.setCell ?_ (by have := HW.out.size; simp; omega) _)
            case measure => simp [intOf]; omega
    · obtain rfl : k = O := by omega
      have hcnt : Sm.cnt dd k = 1 := by unfold Sm.cnt; rw [if_pos (by omega)]
      rw [hcnt]
      clear hcnt
      go_wp2_with fail
      refine (awake11 _).mono ?_; rintro e w2 ⟨rfl, hb2⟩
      have HB2 := Lib.hid hb2
      clear hb2
      go_wp2_with fail
      go_ret
      exact ⟨rfl, HBW.out.trans ((HW.out.trans (HB2.out.mono HW.out.size)).mono HBW.out.size)⟩
end Go.Proofs.Ytjeeobaiibhbaaa
