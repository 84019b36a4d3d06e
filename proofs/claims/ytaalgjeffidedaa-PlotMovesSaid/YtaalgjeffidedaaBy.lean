/- The statement of quartiles, walked. -/
import Derived.Test.YtaalgjeffidedaaBx
namespace Go.Proofs.Ytaalgjeffidedaa
open Go.RowKit
theorem Pb.at_le {l : List Int} {i j : Nat} (hij : i ≤ j) (hj : j < l.length) : Pb.at l i ≤ Pb.at l j := by
  have hs := Pb.srt_sorted l
  have hl := Pb.srt_len l
  unfold Pb.at
  simp only [List.getD, List.getElem?_eq_getElem (show i < (Pb.srt l).length by omega), List.getElem?_eq_getElem (show j < (Pb.srt l).length by omega), Option.getD_some]
  by_cases e : i = j
  · subst e; exact Int.le_refl _
  · exact List.pairwise_iff_getElem.1 hs i j (by omega) (by omega) (by omega)
theorem Pb.at_mem {l : List Int} {j : Nat} (hj : j < l.length) : Pb.at l j ∈ l := by
  have hl := Pb.srt_len l
  unfold Pb.at
  simp only [List.getD, List.getElem?_eq_getElem (show j < (Pb.srt l).length by omega), Option.getD_some]
  exact Pb.srt_mem.1 (List.getElem_mem _)
theorem Pb.at_place {l : List Int} {j : Nat} (hj : j < l.length) : Pb.lt l (Pb.at l j) ≤ j ∧ (j : Int) < Pb.le l (Pb.at l j) := by
  have hl := Pb.srt_len l
  have := Pb.place l (k := j) (by omega)
  unfold Pb.at
  simpa only [List.getD, List.getElem?_eq_getElem (show j < (Pb.srt l).length by omega), Option.getD_some] using this
theorem lt_take_succ {l : List Int} {j : Nat} {y : Int} (h : l.getD j 0 = y ∧ j < l.length) (q : Int) : Pb.lt (l.take (j + 1)) q = Pb.lt (l.take j) q + if y < q then 1 else 0 := by
  rw [take_succ_getD l j h.2, h.1, Pb.lt_snoc]
theorem le_take_succ {l : List Int} {j : Nat} {y : Int} (h : l.getD j 0 = y ∧ j < l.length) (q : Int) : Pb.le (l.take (j + 1)) q = Pb.le (l.take j) q + if y ≤ q then 1 else 0 := by
  rw [take_succ_getD l j h.2, h.1, Pb.le_snoc]
/-- the five numbers of a box, each with its place -/
def Pb.Five (v : List Int) (m : Nat) (j : Nat) (q : Int) : Prop := q ∈ v ∧ Pb.lt v q ≤ (j : Int) * m / 4 ∧ (j : Int) * m / 4 < Pb.le v q
theorem Pb.five {v : List Int} {m : Nat} (hm : v.length = m + 1) {j k : Nat} (hk : (k : Int) = (j : Int) * m / 4) (hkm : k ≤ m) : Pb.Five v m j (Pb.at v k) := by
  have h := Pb.at_place (l := v) (j := k) (by omega)
  exact ⟨Pb.at_mem (by omega), by omega, by omega⟩
set_option maxRecDepth 100000 in
set_option maxHeartbeats 3200000 in
theorem walkQuartiles (W : World) (A : Option Addr) (n c : Nat) (l : List Int) (h : Nums W .u8 W.heap.size A n c l) :
    Calls Try.prog 5 #[.slice A n c] W fun e w => e = .returned (.bool true) ∧ Below W.heap.size W w := by
  have H := Lib.hid h
  clear h
  go_enter Try.func5, Try.ntmps5
  go_wp2_with fail
  refine (vals21 A n c l W H.out).mono ?_; rintro e w1 ⟨v, rfl, hown, hb1⟩
  have hvb := Pb.vals_bd (l := l)
  have hvl := Pb.vals_len l
  obtain ⟨V, N, cv, rfl, hN, hn⟩ : ∃ V N cv, v = .slice V N cv ∧ Hid (N = (Pb.vals l).length) ∧ Nums w1 .i64 w1.heap.size V N cv (Pb.vals l) := by
    obtain ⟨V, cv, hv, hnn⟩ := hown.nums (fun x hx => wf_i64 (by have := hvb x hx; omega))
    exact ⟨V, _, cv, hv, Lib.hid rfl, hnn⟩
  have HV1 := Lib.hid hn
  have HB1 := Lib.hid hb1
  have HVB := Lib.hid hvb
  have hNL : N ≤ 60 := by have := hN.out; omega
  have HO := Lib.hid (show (Pb.vals l).any Pb.out = false by
    rw [Bool.eq_false_iff]; intro ha
    obtain ⟨x, hx, ho⟩ := List.any_eq_true.1 ha
    have := hvb x hx
    simp only [Pb.out, Bool.or_eq_true, decide_eq_true_eq] at ho; omega)
  clear hown hb1 hn hvb hvl
  generalize hvv : Pb.vals l = v at *
  clear hvv
  rcases Nat.eq_zero_or_pos N with rfl | hpos
  · have HQ := Lib.hid (show Pb.quart v = .tuple #[.agg #[.int .i64 0, .int .i64 0, .int .i64 0, .int .i64 0, .int .i64 0, .int .i64 0], .int .i64 18] by
      obtain rfl : v = [] := List.eq_nil_of_length_eq_zero hN.out.symm
      rfl)
    go_wp2_with fail
    refine (quart21 V 0 cv v w1 HV1.out (by omega) HO.out).mono ?_; rintro e w2 ⟨rfl, hb2⟩
    rw [HQ.out]
    have HB2 := Lib.hid (HB1.out.trans (hb2.mono HB1.out.size))
    clear hb2
    go_wp2_with fail
    refine (awake21 _).mono ?_; rintro e w9 ⟨rfl, hb9⟩
    go_wp2_with fail
    go_ret
    exact ⟨rfl, HB2.out.trans (((Below.refl _ _).alloc (Nat.le_refl _) _ |>.trans (hb9.mono (by simp))).mono HB2.out.size)⟩
  · obtain ⟨m, rfl⟩ : ∃ m, N = m + 1 := ⟨N - 1, by omega⟩
    have hlen : v.length = m + 1 := hN.out.symm
    have HQ := Lib.hid (show Pb.quart v = .tuple #[.agg #[.int .i64 ((m : Int) + 1), .int .i64 (Pb.at v 0), .int .i64 (Pb.at v (m / 4)), .int .i64 (Pb.at v (m / 2)), .int .i64 (Pb.at v (3 * m / 4)), .int .i64 (Pb.at v m)], .int .i64 0] by
      have hne : v ≠ [] := by rintro rfl; cases hlen
      unfold Pb.quart
      rw [if_neg hne]
      unfold Pb.box
      rw [hlen]
      simp)
    have g0 := Pb.five hlen (j := 0) (k := 0) (by omega) (by omega)
    have g1 := Pb.five hlen (j := 1) (k := m / 4) (by omega) (by omega)
    have g2 := Pb.five hlen (j := 2) (k := m / 2) (by omega) (by omega)
    have g3 := Pb.five hlen (j := 3) (k := 3 * m / 4) (by omega) (by omega)
    have g4 := Pb.five hlen (j := 4) (k := m) (by omega) (by omega)
    have o1 := Pb.at_le (l := v) (i := 0) (j := m / 4) (by omega) (by omega)
    have o2 := Pb.at_le (l := v) (i := m / 4) (j := m / 2) (by omega) (by omega)
    have o3 := Pb.at_le (l := v) (i := m / 2) (j := 3 * m / 4) (by omega) (by omega)
    have o4 := Pb.at_le (l := v) (i := 3 * m / 4) (j := m) (by omega) (by omega)
    generalize Pb.at v 0 = q0 at *
    generalize Pb.at v (m / 4) = q1 at *
    generalize Pb.at v (m / 2) = q2 at *
    generalize Pb.at v (3 * m / 4) = q3 at *
    generalize Pb.at v m = q4 at *
    have HF := Lib.hid (show ∀ j, j < 5 → Pb.Five v m j ([q0, q1, q2, q3, q4].getD j 0) from fun j hj => by
      match j, hj with
      | 0, _ => exact g0
      | 1, _ => exact g1
      | 2, _ => exact g2
      | 3, _ => exact g3
      | 4, _ => exact g4)
    have b1 : decide (q1 < q0) = false := by simp; omega
    have b2 : decide (q2 < q1) = false := by simp; omega
    have b3 : decide (q3 < q2) = false := by simp; omega
    have b4 : decide (q4 < q3) = false := by simp; omega
    have HLEN := Lib.hid hlen
    have hmz : ((m : Int) + 1 == 0) = false := by simp; omega
    clear g0 g1 g2 g3 g4 o1 o2 o3 o4 hlen hpos
    go_wp2_with fail
    refine (quart21 V (m + 1) cv v w1 HV1.out (by omega) HO.out).mono ?_; rintro e w2 ⟨rfl, hb2⟩
    rw [HQ.out]
    have HB2 := Lib.hid (HB1.out.trans (hb2.mono HB1.out.size))
    have HV2 := Lib.hid (HV1.out.keep hb2 hb2.size)
    clear hb2 HQ
    go_wp2_with fail
    obtain ⟨Z, hZ⟩ : ∃ Z : World, (w2.alloc (.cells #[.int .i64 ((m : Int) + 1), .int .i64 q0, .int .i64 q1, .int .i64 q2, .int .i64 q3, .int .i64 q4] 34)).alloc (.cells #[.int .i64 q0, .int .i64 q1, .int .i64 q2, .int .i64 q3, .int .i64 q4] 3) = Z := ⟨_, rfl⟩
    have hbz : Below w2.heap.size w2 Z := by rw [← hZ]; exact ((Below.refl _ _).alloc (Nat.le_refl _) _).alloc (by simp) _
    have hcz : ∀ j, j < 5 → Z.cell? ⟨w2.heap.size + 1, j, none⟩ = some (.int .i64 ([q0, q1, q2, q3, q4].getD j 0)) := by
      intro j hj
      rw [← hZ]
      match j, hj with
      | 0, _ => simp [go_sem]
      | 1, _ => simp [go_sem]
      | 2, _ => simp [go_sem]
      | 3, _ => simp [go_sem]
      | 4, _ => simp [go_sem]
    have HBZ := Lib.hid (HB2.out.trans (hbz.mono HB2.out.size))
    have HVZ := Lib.hid (HV2.out.keep hbz hbz.size)
    have HCZ := Lib.hid hcz
    rw [hZ]
    clear hZ hbz hcz
    go_loop [6, 7, 8, 9, 11, 12, 77, 84] (fun _ _ _ _ _ _ i _ => ∃ j : Nat, j ≤ 5 ∧ i = .int .i64 j) (fun _ _ _ _ _ _ i _ => 5 - (intOf i).toNat)
    case atStart => exact ⟨0, by omega, rfl⟩
    case round =>
      obtain ⟨j, hj, rfl⟩ := hrel
      by_cases hj5 : j < 5
      · have hc := HCZ.out j hj5
        have hf := HF.out j hj5
        generalize [q0, q1, q2, q3, q4].getD j 0 = q at *
        have j5 : (j : Int) < 5 := by omega
        have HFQ := Lib.hid hf
        clear hf
        go_wp2_with fail
        go_loop [8, 9, 11, 84] (fun a b _ i => ∃ k : Nat, k ≤ m + 1 ∧ i = .int .i64 k ∧ a = .int .i64 (Pb.le (v.take k) q) ∧ b = .int .i64 (Pb.lt (v.take k) q)) (fun _ _ _ i => m + 1 - (intOf i).toNat)
        case atStart => exact ⟨0, by omega, rfl, by simp [Pb.le], by simp [Pb.lt]⟩
        case round =>
          obtain ⟨k, hk, rfl, rfl, rfl⟩ := hrel
          have hle := Pb.le_bd (v.take k) q
          have hlt := Pb.lt_bd (v.take k) q
          have u0 := hle.1
          have u1 : Pb.le (v.take k) q ≤ 60 := by have := hle.2; rw [List.length_take] at this; omega
          have v0 := hlt.1
          have v1 : Pb.lt (v.take k) q ≤ 60 := by have := hlt.2; rw [List.length_take] at this; omega
          clear hle hlt
          by_cases hkt : k < m + 1
          · obtain ⟨ad, y, rfl, _, HY, hy, _⟩ := HVZ.out.val hkt
            have hls := le_take_succ HY.out q
            have hss := lt_take_succ HY.out q
            have kt : (k : Int) < (m : Int) + 1 := by omega
            rcases (show y < q ∨ y = q ∨ q < y by omega) with hc1 | hc1 | hc1
            · rw [if_pos (by omega)] at hls hss
              have HLS := Lib.hid (And.intro hls hss)
              have k1 : decide (y ≤ q) = true := by simp; omega
              have k2 : decide (y < q) = true := by simpa using hc1
              clear hls hss hc1
              go_wp2_with fail
              go_round
              case rel => exact ⟨k + 1, by omega, by go_num, by rw [HLS.out.1], by rw [HLS.out.2]⟩
              case measure => simp [intOf]; omega
            · rw [if_pos (by omega)] at hls
              rw [if_neg (by omega)] at hss
              have HLS := Lib.hid (And.intro hls hss)
              have k1 : decide (y ≤ q) = true := by simp; omega
              have k2 : decide (y < q) = false := by simp; omega
              clear hls hss hc1
              go_wp2_with fail
              go_round
              case rel => exact ⟨k + 1, by omega, by go_num, by rw [HLS.out.1], by rw [HLS.out.2]; simp⟩
              case measure => simp [intOf]; omega
            · rw [if_neg (by omega)] at hls hss
              have HLS := Lib.hid (And.intro hls hss)
              have k1 : decide (y ≤ q) = false := by simp; omega
              have k2 : decide (y < q) = false := by simp; omega
              clear hls hss hc1
              go_wp2_with fail
              go_round
              case rel => exact ⟨k + 1, by omega, by go_num, by rw [HLS.out.1]; simp, by rw [HLS.out.2]; simp⟩
              case measure => simp [intOf]; omega
          · obtain rfl : k = m + 1 := by omega
            have htk : v.take (m + 1) = v := List.take_of_length_le (by rw [HLEN.out]; exact Nat.le_refl _)
            rw [htk] at u0 u1 v0 v1 ⊢
            obtain ⟨f1, f2, f3⟩ := HFQ.out
            have HIN := Lib.hid f1
            have jm0 : (0 : Int) ≤ (j : Int) * m := by omega
            have jm1 : (j : Int) * m ≤ 240 := by
              have := Int.mul_le_mul (show (j : Int) ≤ 4 by omega) (show (m : Int) ≤ 60 by omega) (by omega) (by omega); omega
            have k1 : decide ((j : Int) * (m : Int) / 4 < Pb.lt v q) = false := by simp; omega
            have k2 : decide (Pb.le v q ≤ (j : Int) * (m : Int) / 4) = false := by simp; omega
            clear f1 f2 f3 htk hk hkt
            go_wp2_with fail
            refine (has_any V (m + 1) cv v q _ Z HVZ.out).mono ?_; rintro e w4 ⟨rfl, rfl⟩
            rw [show decide (q ∈ v) = true from decide_eq_true HIN.out]
            go_wp2_with fail
            go_round
            case rel => exact ⟨j + 1, by omega, by go_num⟩
            case measure => simp [intOf]; omega
      · obtain rfl : j = 5 := by omega
        go_wp2_with fail
        refine (awake21 _).mono ?_; rintro e w9 ⟨rfl, hb9⟩
        go_wp2_with fail
        go_ret
        exact ⟨rfl, HBZ.out.trans (hb9.mono HBZ.out.size)⟩
end Go.Proofs.Ytaalgjeffidedaa
