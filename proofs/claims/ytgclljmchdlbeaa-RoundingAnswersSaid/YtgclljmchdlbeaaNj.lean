/- Rounding: there is always a rounded table; turned tables. -/
import Derived.Test.YtgclljmchdlbeaaNb
import Derived.Test.YtgclljmchdlbeaaNe
namespace Go.Proofs.Ytgclljmchdlbeaa
open Go.RowKit
theorem Rd.mem_mult {x y b : Int} (hb : 1 ≤ b) (h : b ∣ y ∧ y - x < b ∧ x - y < b) : y ∈ Rd.mult x b := by
  have hm0 := Int.emod_nonneg x (show b ≠ 0 by omega)
  have hm1 := Int.emod_lt_of_pos x (show 0 < b by omega)
  have hd : b ∣ x - x % b := Int.dvd_self_sub_emod
  obtain ⟨c, hc⟩ := Int.dvd_sub h.1 hd
  obtain ⟨m, hmx⟩ : ∃ m, x % b = m := ⟨_, rfl⟩
  have hdef : Rd.mult x b = if m = 0 then [x] else [x - m, x - m + b] := by unfold Rd.mult; rw [hmx]
  rw [hmx] at hm0 hm1 hc
  have h1 : -1 < c := by
    rcases Int.lt_or_le (-1) c with h9 | h9
    · exact h9
    · have := Int.mul_le_mul_of_nonneg_left h9 (show 0 ≤ b by omega); omega
  have h2 : c < 2 := by
    rcases Int.lt_or_le c 2 with h9 | h9
    · exact h9
    · have := Int.mul_le_mul_of_nonneg_left h9 (show 0 ≤ b by omega); omega
  have h3 : c = 0 ∨ c = 1 := by omega
  rw [hdef]
  rcases h3 with rfl | rfl
  · split
    · simp; omega
    · simp; omega
  · split
    · simp; omega
    · simp; omega
theorem Rd.of_mult {x y b : Int} (hb : 1 ≤ b) (h : y ∈ Rd.mult x b) : b ∣ y ∧ y - x < b ∧ x - y < b := by
  have hm0 := Int.emod_nonneg x (show b ≠ 0 by omega)
  have hm1 := Int.emod_lt_of_pos x (show 0 < b by omega)
  have hd : b ∣ x - x % b := Int.dvd_self_sub_emod
  unfold Rd.mult at h
  split at h
  · rename_i h0
    have e : y = x := by simpa using h
    subst e
    exact ⟨Int.dvd_of_emod_eq_zero h0, by omega, by omega⟩
  · have e : y = x - x % b ∨ y = x - x % b + b := by simpa using h
    rcases e with rfl | rfl
    · exact ⟨hd, by omega, by omega⟩
    · exact ⟨Int.dvd_add hd (Int.dvd_refl b), by omega, by omega⟩
theorem Rd.zero_of {y b : Int} (h : b ∣ y ∧ y - 0 < b ∧ 0 - y < b) : y = 0 := by
  rcases Int.lt_trichotomy y 0 with h0 | h0 | h0
  · have := Int.le_of_dvd (show 0 < -y by omega) (Int.dvd_neg.2 h.1); omega
  · exact h0
  · have := Int.le_of_dvd h0 h.1; omega
def Rd.In (b : Int) : List Int → List Int → Prop
  | [], [] => True
  | y :: q, x :: l => y ∈ Rd.mult x b ∧ Rd.In b q l
  | _, _ => False
theorem Rd.len_cons {l : List Int} {k : Nat} (h : l.length = k + 1) : ∃ a l', l = a :: l' ∧ l'.length = k := by
  cases l with
  | nil => cases h
  | cons a l => exact ⟨a, l, rfl, by simpa using h⟩
set_option maxHeartbeats 1600000 in
theorem Rd.ex11 (a0 b : Int) (hb : 1 ≤ b) : ∃ q, Rd.In b q [a0] ∧ Rd.fits 1 1 [a0] q b = true := by
  have hZ : Nd.Bal (fun k => [a0, 0, 0, -(a0), 0, 0, 0, 0, 0, 0, 0, 0, -(a0), 0, 0, a0].getD k 0) := by
    intro i hi
    rcases (show i = 0 ∨ i = 1 ∨ i = 2 ∨ i = 3 by omega) with rfl | rfl | rfl | rfl <;> (constructor <;> (simp; try omega))
  obtain ⟨Y, hB, hY⟩ := Nd.round b hb _ _ (Nat.le_refl _) hZ
  have r0 := hB 0 (by decide)
  have r1 := hB 1 (by decide)
  have r2 := hB 2 (by decide)
  have r3 := hB 3 (by decide)
  have y0 := hY 0 (by decide)
  have y1 := hY 1 (by decide)
  have y2 := hY 2 (by decide)
  have y3 := hY 3 (by decide)
  have y4 := hY 4 (by decide)
  have y5 := hY 5 (by decide)
  have y6 := hY 6 (by decide)
  have y7 := hY 7 (by decide)
  have y8 := hY 8 (by decide)
  have y9 := hY 9 (by decide)
  have y10 := hY 10 (by decide)
  have y11 := hY 11 (by decide)
  have y12 := hY 12 (by decide)
  have y13 := hY 13 (by decide)
  have y14 := hY 14 (by decide)
  have y15 := hY 15 (by decide)
  simp at r0 r1 r2 r3
  simp only [List.getD_cons_zero, List.getD_cons_succ] at y0 y1 y2 y3 y4 y5 y6 y7 y8 y9 y10 y11 y12 y13 y14 y15
  have z1 : Y 1 = 0 := Rd.zero_of y1
  have z2 : Y 2 = 0 := Rd.zero_of y2
  have z4 : Y 4 = 0 := Rd.zero_of y4
  have z5 : Y 5 = 0 := Rd.zero_of y5
  have z6 : Y 6 = 0 := Rd.zero_of y6
  have z7 : Y 7 = 0 := Rd.zero_of y7
  have z8 : Y 8 = 0 := Rd.zero_of y8
  have z9 : Y 9 = 0 := Rd.zero_of y9
  have z10 : Y 10 = 0 := Rd.zero_of y10
  have z11 : Y 11 = 0 := Rd.zero_of y11
  have z13 : Y 13 = 0 := Rd.zero_of y13
  have z14 : Y 14 = 0 := Rd.zero_of y14
  refine ⟨[Y 0], ⟨Rd.mem_mult hb y0, trivial⟩, ?_⟩
  simp [Rd.fits, Rd.okRow, Rd.row, Rd.col, Rd.all, Rd.near, List.range_succ]
  omega
set_option maxHeartbeats 1600000 in
theorem Rd.ex12 (a0 a1 b : Int) (hb : 1 ≤ b) : ∃ q, Rd.In b q [a0, a1] ∧ Rd.fits 2 2 [a0, a1] q b = true := by
  have hZ : Nd.Bal (fun k => [a0, a1, 0, -(a0 + a1), 0, 0, 0, 0, 0, 0, 0, 0, -(a0), -(a1), 0, a0 + a1].getD k 0) := by
    intro i hi
    rcases (show i = 0 ∨ i = 1 ∨ i = 2 ∨ i = 3 by omega) with rfl | rfl | rfl | rfl <;> (constructor <;> (simp; try omega))
  obtain ⟨Y, hB, hY⟩ := Nd.round b hb _ _ (Nat.le_refl _) hZ
  have r0 := hB 0 (by decide)
  have r1 := hB 1 (by decide)
  have r2 := hB 2 (by decide)
  have r3 := hB 3 (by decide)
  have y0 := hY 0 (by decide)
  have y1 := hY 1 (by decide)
  have y2 := hY 2 (by decide)
  have y3 := hY 3 (by decide)
  have y4 := hY 4 (by decide)
  have y5 := hY 5 (by decide)
  have y6 := hY 6 (by decide)
  have y7 := hY 7 (by decide)
  have y8 := hY 8 (by decide)
  have y9 := hY 9 (by decide)
  have y10 := hY 10 (by decide)
  have y11 := hY 11 (by decide)
  have y12 := hY 12 (by decide)
  have y13 := hY 13 (by decide)
  have y14 := hY 14 (by decide)
  have y15 := hY 15 (by decide)
  simp at r0 r1 r2 r3
  simp only [List.getD_cons_zero, List.getD_cons_succ] at y0 y1 y2 y3 y4 y5 y6 y7 y8 y9 y10 y11 y12 y13 y14 y15
  have z2 : Y 2 = 0 := Rd.zero_of y2
  have z4 : Y 4 = 0 := Rd.zero_of y4
  have z5 : Y 5 = 0 := Rd.zero_of y5
  have z6 : Y 6 = 0 := Rd.zero_of y6
  have z7 : Y 7 = 0 := Rd.zero_of y7
  have z8 : Y 8 = 0 := Rd.zero_of y8
  have z9 : Y 9 = 0 := Rd.zero_of y9
  have z10 : Y 10 = 0 := Rd.zero_of y10
  have z11 : Y 11 = 0 := Rd.zero_of y11
  have z14 : Y 14 = 0 := Rd.zero_of y14
  refine ⟨[Y 0, Y 1], ⟨Rd.mem_mult hb y0, Rd.mem_mult hb y1, trivial⟩, ?_⟩
  simp [Rd.fits, Rd.okRow, Rd.row, Rd.col, Rd.all, Rd.near, List.range_succ]
  omega
set_option maxHeartbeats 1600000 in
theorem Rd.ex13 (a0 a1 a2 b : Int) (hb : 1 ≤ b) : ∃ q, Rd.In b q [a0, a1, a2] ∧ Rd.fits 3 3 [a0, a1, a2] q b = true := by
  have hZ : Nd.Bal (fun k => [a0, a1, a2, -(a0 + a1 + a2), 0, 0, 0, 0, 0, 0, 0, 0, -(a0), -(a1), -(a2), a0 + a1 + a2].getD k 0) := by
    intro i hi
    rcases (show i = 0 ∨ i = 1 ∨ i = 2 ∨ i = 3 by omega) with rfl | rfl | rfl | rfl <;> (constructor <;> (simp; try omega))
  obtain ⟨Y, hB, hY⟩ := Nd.round b hb _ _ (Nat.le_refl _) hZ
  have r0 := hB 0 (by decide)
  have r1 := hB 1 (by decide)
  have r2 := hB 2 (by decide)
  have r3 := hB 3 (by decide)
  have y0 := hY 0 (by decide)
  have y1 := hY 1 (by decide)
  have y2 := hY 2 (by decide)
  have y3 := hY 3 (by decide)
  have y4 := hY 4 (by decide)
  have y5 := hY 5 (by decide)
  have y6 := hY 6 (by decide)
  have y7 := hY 7 (by decide)
  have y8 := hY 8 (by decide)
  have y9 := hY 9 (by decide)
  have y10 := hY 10 (by decide)
  have y11 := hY 11 (by decide)
  have y12 := hY 12 (by decide)
  have y13 := hY 13 (by decide)
  have y14 := hY 14 (by decide)
  have y15 := hY 15 (by decide)
  simp at r0 r1 r2 r3
  simp only [List.getD_cons_zero, List.getD_cons_succ] at y0 y1 y2 y3 y4 y5 y6 y7 y8 y9 y10 y11 y12 y13 y14 y15
  have z4 : Y 4 = 0 := Rd.zero_of y4
  have z5 : Y 5 = 0 := Rd.zero_of y5
  have z6 : Y 6 = 0 := Rd.zero_of y6
  have z7 : Y 7 = 0 := Rd.zero_of y7
  have z8 : Y 8 = 0 := Rd.zero_of y8
  have z9 : Y 9 = 0 := Rd.zero_of y9
  have z10 : Y 10 = 0 := Rd.zero_of y10
  have z11 : Y 11 = 0 := Rd.zero_of y11
  refine ⟨[Y 0, Y 1, Y 2], ⟨Rd.mem_mult hb y0, Rd.mem_mult hb y1, Rd.mem_mult hb y2, trivial⟩, ?_⟩
  simp [Rd.fits, Rd.okRow, Rd.row, Rd.col, Rd.all, Rd.near, List.range_succ]
  omega
set_option maxHeartbeats 1600000 in
theorem Rd.ex21 (a0 a1 b : Int) (hb : 1 ≤ b) : ∃ q, Rd.In b q [a0, a1] ∧ Rd.fits 1 2 [a0, a1] q b = true := by
  have hZ : Nd.Bal (fun k => [a0, 0, 0, -(a0), a1, 0, 0, -(a1), 0, 0, 0, 0, -(a0 + a1), 0, 0, a0 + a1].getD k 0) := by
    intro i hi
    rcases (show i = 0 ∨ i = 1 ∨ i = 2 ∨ i = 3 by omega) with rfl | rfl | rfl | rfl <;> (constructor <;> (simp; try omega))
  obtain ⟨Y, hB, hY⟩ := Nd.round b hb _ _ (Nat.le_refl _) hZ
  have r0 := hB 0 (by decide)
  have r1 := hB 1 (by decide)
  have r2 := hB 2 (by decide)
  have r3 := hB 3 (by decide)
  have y0 := hY 0 (by decide)
  have y1 := hY 1 (by decide)
  have y2 := hY 2 (by decide)
  have y3 := hY 3 (by decide)
  have y4 := hY 4 (by decide)
  have y5 := hY 5 (by decide)
  have y6 := hY 6 (by decide)
  have y7 := hY 7 (by decide)
  have y8 := hY 8 (by decide)
  have y9 := hY 9 (by decide)
  have y10 := hY 10 (by decide)
  have y11 := hY 11 (by decide)
  have y12 := hY 12 (by decide)
  have y13 := hY 13 (by decide)
  have y14 := hY 14 (by decide)
  have y15 := hY 15 (by decide)
  simp at r0 r1 r2 r3
  simp only [List.getD_cons_zero, List.getD_cons_succ] at y0 y1 y2 y3 y4 y5 y6 y7 y8 y9 y10 y11 y12 y13 y14 y15
  have z1 : Y 1 = 0 := Rd.zero_of y1
  have z2 : Y 2 = 0 := Rd.zero_of y2
  have z5 : Y 5 = 0 := Rd.zero_of y5
  have z6 : Y 6 = 0 := Rd.zero_of y6
  have z8 : Y 8 = 0 := Rd.zero_of y8
  have z9 : Y 9 = 0 := Rd.zero_of y9
  have z10 : Y 10 = 0 := Rd.zero_of y10
  have z11 : Y 11 = 0 := Rd.zero_of y11
  have z13 : Y 13 = 0 := Rd.zero_of y13
  have z14 : Y 14 = 0 := Rd.zero_of y14
  refine ⟨[Y 0, Y 4], ⟨Rd.mem_mult hb y0, Rd.mem_mult hb y4, trivial⟩, ?_⟩
  simp [Rd.fits, Rd.okRow, Rd.row, Rd.col, Rd.all, Rd.near, List.range_succ]
  omega
set_option maxHeartbeats 1600000 in
theorem Rd.ex22 (a0 a1 a2 a3 b : Int) (hb : 1 ≤ b) : ∃ q, Rd.In b q [a0, a1, a2, a3] ∧ Rd.fits 2 4 [a0, a1, a2, a3] q b = true := by
  have hZ : Nd.Bal (fun k => [a0, a1, 0, -(a0 + a1), a2, a3, 0, -(a2 + a3), 0, 0, 0, 0, -(a0 + a2), -(a1 + a3), 0, a0 + a1 + a2 + a3].getD k 0) := by
    intro i hi
    rcases (show i = 0 ∨ i = 1 ∨ i = 2 ∨ i = 3 by omega) with rfl | rfl | rfl | rfl <;> (constructor <;> (simp; try omega))
  obtain ⟨Y, hB, hY⟩ := Nd.round b hb _ _ (Nat.le_refl _) hZ
  have r0 := hB 0 (by decide)
  have r1 := hB 1 (by decide)
  have r2 := hB 2 (by decide)
  have r3 := hB 3 (by decide)
  have y0 := hY 0 (by decide)
  have y1 := hY 1 (by decide)
  have y2 := hY 2 (by decide)
  have y3 := hY 3 (by decide)
  have y4 := hY 4 (by decide)
  have y5 := hY 5 (by decide)
  have y6 := hY 6 (by decide)
  have y7 := hY 7 (by decide)
  have y8 := hY 8 (by decide)
  have y9 := hY 9 (by decide)
  have y10 := hY 10 (by decide)
  have y11 := hY 11 (by decide)
  have y12 := hY 12 (by decide)
  have y13 := hY 13 (by decide)
  have y14 := hY 14 (by decide)
  have y15 := hY 15 (by decide)
  simp at r0 r1 r2 r3
  simp only [List.getD_cons_zero, List.getD_cons_succ] at y0 y1 y2 y3 y4 y5 y6 y7 y8 y9 y10 y11 y12 y13 y14 y15
  have z2 : Y 2 = 0 := Rd.zero_of y2
  have z6 : Y 6 = 0 := Rd.zero_of y6
  have z8 : Y 8 = 0 := Rd.zero_of y8
  have z9 : Y 9 = 0 := Rd.zero_of y9
  have z10 : Y 10 = 0 := Rd.zero_of y10
  have z11 : Y 11 = 0 := Rd.zero_of y11
  have z14 : Y 14 = 0 := Rd.zero_of y14
  refine ⟨[Y 0, Y 1, Y 4, Y 5], ⟨Rd.mem_mult hb y0, Rd.mem_mult hb y1, Rd.mem_mult hb y4, Rd.mem_mult hb y5, trivial⟩, ?_⟩
  simp [Rd.fits, Rd.okRow, Rd.row, Rd.col, Rd.all, Rd.near, List.range_succ]
  omega
set_option maxHeartbeats 1600000 in
theorem Rd.ex23 (a0 a1 a2 a3 a4 a5 b : Int) (hb : 1 ≤ b) : ∃ q, Rd.In b q [a0, a1, a2, a3, a4, a5] ∧ Rd.fits 3 6 [a0, a1, a2, a3, a4, a5] q b = true := by
  have hZ : Nd.Bal (fun k => [a0, a1, a2, -(a0 + a1 + a2), a3, a4, a5, -(a3 + a4 + a5), 0, 0, 0, 0, -(a0 + a3), -(a1 + a4), -(a2 + a5), a0 + a1 + a2 + a3 + a4 + a5].getD k 0) := by
    intro i hi
    rcases (show i = 0 ∨ i = 1 ∨ i = 2 ∨ i = 3 by omega) with rfl | rfl | rfl | rfl <;> (constructor <;> (simp; try omega))
  obtain ⟨Y, hB, hY⟩ := Nd.round b hb _ _ (Nat.le_refl _) hZ
  have r0 := hB 0 (by decide)
  have r1 := hB 1 (by decide)
  have r2 := hB 2 (by decide)
  have r3 := hB 3 (by decide)
  have y0 := hY 0 (by decide)
  have y1 := hY 1 (by decide)
  have y2 := hY 2 (by decide)
  have y3 := hY 3 (by decide)
  have y4 := hY 4 (by decide)
  have y5 := hY 5 (by decide)
  have y6 := hY 6 (by decide)
  have y7 := hY 7 (by decide)
  have y8 := hY 8 (by decide)
  have y9 := hY 9 (by decide)
  have y10 := hY 10 (by decide)
  have y11 := hY 11 (by decide)
  have y12 := hY 12 (by decide)
  have y13 := hY 13 (by decide)
  have y14 := hY 14 (by decide)
  have y15 := hY 15 (by decide)
  simp at r0 r1 r2 r3
  simp only [List.getD_cons_zero, List.getD_cons_succ] at y0 y1 y2 y3 y4 y5 y6 y7 y8 y9 y10 y11 y12 y13 y14 y15
  have z8 : Y 8 = 0 := Rd.zero_of y8
  have z9 : Y 9 = 0 := Rd.zero_of y9
  have z10 : Y 10 = 0 := Rd.zero_of y10
  have z11 : Y 11 = 0 := Rd.zero_of y11
  refine ⟨[Y 0, Y 1, Y 2, Y 4, Y 5, Y 6], ⟨Rd.mem_mult hb y0, Rd.mem_mult hb y1, Rd.mem_mult hb y2, Rd.mem_mult hb y4, Rd.mem_mult hb y5, Rd.mem_mult hb y6, trivial⟩, ?_⟩
  simp [Rd.fits, Rd.okRow, Rd.row, Rd.col, Rd.all, Rd.near, List.range_succ]
  omega
set_option maxHeartbeats 1600000 in
theorem Rd.ex31 (a0 a1 a2 b : Int) (hb : 1 ≤ b) : ∃ q, Rd.In b q [a0, a1, a2] ∧ Rd.fits 1 3 [a0, a1, a2] q b = true := by
  have hZ : Nd.Bal (fun k => [a0, 0, 0, -(a0), a1, 0, 0, -(a1), a2, 0, 0, -(a2), -(a0 + a1 + a2), 0, 0, a0 + a1 + a2].getD k 0) := by
    intro i hi
    rcases (show i = 0 ∨ i = 1 ∨ i = 2 ∨ i = 3 by omega) with rfl | rfl | rfl | rfl <;> (constructor <;> (simp; try omega))
  obtain ⟨Y, hB, hY⟩ := Nd.round b hb _ _ (Nat.le_refl _) hZ
  have r0 := hB 0 (by decide)
  have r1 := hB 1 (by decide)
  have r2 := hB 2 (by decide)
  have r3 := hB 3 (by decide)
  have y0 := hY 0 (by decide)
  have y1 := hY 1 (by decide)
  have y2 := hY 2 (by decide)
  have y3 := hY 3 (by decide)
  have y4 := hY 4 (by decide)
  have y5 := hY 5 (by decide)
  have y6 := hY 6 (by decide)
  have y7 := hY 7 (by decide)
  have y8 := hY 8 (by decide)
  have y9 := hY 9 (by decide)
  have y10 := hY 10 (by decide)
  have y11 := hY 11 (by decide)
  have y12 := hY 12 (by decide)
  have y13 := hY 13 (by decide)
  have y14 := hY 14 (by decide)
  have y15 := hY 15 (by decide)
  simp at r0 r1 r2 r3
  simp only [List.getD_cons_zero, List.getD_cons_succ] at y0 y1 y2 y3 y4 y5 y6 y7 y8 y9 y10 y11 y12 y13 y14 y15
  have z1 : Y 1 = 0 := Rd.zero_of y1
  have z2 : Y 2 = 0 := Rd.zero_of y2
  have z5 : Y 5 = 0 := Rd.zero_of y5
  have z6 : Y 6 = 0 := Rd.zero_of y6
  have z9 : Y 9 = 0 := Rd.zero_of y9
  have z10 : Y 10 = 0 := Rd.zero_of y10
  have z13 : Y 13 = 0 := Rd.zero_of y13
  have z14 : Y 14 = 0 := Rd.zero_of y14
  refine ⟨[Y 0, Y 4, Y 8], ⟨Rd.mem_mult hb y0, Rd.mem_mult hb y4, Rd.mem_mult hb y8, trivial⟩, ?_⟩
  simp [Rd.fits, Rd.okRow, Rd.row, Rd.col, Rd.all, Rd.near, List.range_succ]
  omega
set_option maxHeartbeats 1600000 in
theorem Rd.ex32 (a0 a1 a2 a3 a4 a5 b : Int) (hb : 1 ≤ b) : ∃ q, Rd.In b q [a0, a1, a2, a3, a4, a5] ∧ Rd.fits 2 6 [a0, a1, a2, a3, a4, a5] q b = true := by
  have hZ : Nd.Bal (fun k => [a0, a1, 0, -(a0 + a1), a2, a3, 0, -(a2 + a3), a4, a5, 0, -(a4 + a5), -(a0 + a2 + a4), -(a1 + a3 + a5), 0, a0 + a1 + a2 + a3 + a4 + a5].getD k 0) := by
    intro i hi
    rcases (show i = 0 ∨ i = 1 ∨ i = 2 ∨ i = 3 by omega) with rfl | rfl | rfl | rfl <;> (constructor <;> (simp; try omega))
  obtain ⟨Y, hB, hY⟩ := Nd.round b hb _ _ (Nat.le_refl _) hZ
  have r0 := hB 0 (by decide)
  have r1 := hB 1 (by decide)
  have r2 := hB 2 (by decide)
  have r3 := hB 3 (by decide)
  have y0 := hY 0 (by decide)
  have y1 := hY 1 (by decide)
  have y2 := hY 2 (by decide)
  have y3 := hY 3 (by decide)
  have y4 := hY 4 (by decide)
  have y5 := hY 5 (by decide)
  have y6 := hY 6 (by decide)
  have y7 := hY 7 (by decide)
  have y8 := hY 8 (by decide)
  have y9 := hY 9 (by decide)
  have y10 := hY 10 (by decide)
  have y11 := hY 11 (by decide)
  have y12 := hY 12 (by decide)
  have y13 := hY 13 (by decide)
  have y14 := hY 14 (by decide)
  have y15 := hY 15 (by decide)
  simp at r0 r1 r2 r3
  simp only [List.getD_cons_zero, List.getD_cons_succ] at y0 y1 y2 y3 y4 y5 y6 y7 y8 y9 y10 y11 y12 y13 y14 y15
  have z2 : Y 2 = 0 := Rd.zero_of y2
  have z6 : Y 6 = 0 := Rd.zero_of y6
  have z10 : Y 10 = 0 := Rd.zero_of y10
  have z14 : Y 14 = 0 := Rd.zero_of y14
  refine ⟨[Y 0, Y 1, Y 4, Y 5, Y 8, Y 9], ⟨Rd.mem_mult hb y0, Rd.mem_mult hb y1, Rd.mem_mult hb y4, Rd.mem_mult hb y5, Rd.mem_mult hb y8, Rd.mem_mult hb y9, trivial⟩, ?_⟩
  simp [Rd.fits, Rd.okRow, Rd.row, Rd.col, Rd.all, Rd.near, List.range_succ]
  omega
set_option maxHeartbeats 1600000 in
theorem Rd.ex33 (a0 a1 a2 a3 a4 a5 a6 a7 a8 b : Int) (hb : 1 ≤ b) : ∃ q, Rd.In b q [a0, a1, a2, a3, a4, a5, a6, a7, a8] ∧ Rd.fits 3 9 [a0, a1, a2, a3, a4, a5, a6, a7, a8] q b = true := by
  have hZ : Nd.Bal (fun k => [a0, a1, a2, -(a0 + a1 + a2), a3, a4, a5, -(a3 + a4 + a5), a6, a7, a8, -(a6 + a7 + a8), -(a0 + a3 + a6), -(a1 + a4 + a7), -(a2 + a5 + a8), a0 + a1 + a2 + a3 + a4 + a5 + a6 + a7 + a8].getD k 0) := by
    intro i hi
    rcases (show i = 0 ∨ i = 1 ∨ i = 2 ∨ i = 3 by omega) with rfl | rfl | rfl | rfl <;> (constructor <;> (simp; try omega))
  obtain ⟨Y, hB, hY⟩ := Nd.round b hb _ _ (Nat.le_refl _) hZ
  have r0 := hB 0 (by decide)
  have r1 := hB 1 (by decide)
  have r2 := hB 2 (by decide)
  have r3 := hB 3 (by decide)
  have y0 := hY 0 (by decide)
  have y1 := hY 1 (by decide)
  have y2 := hY 2 (by decide)
  have y3 := hY 3 (by decide)
  have y4 := hY 4 (by decide)
  have y5 := hY 5 (by decide)
  have y6 := hY 6 (by decide)
  have y7 := hY 7 (by decide)
  have y8 := hY 8 (by decide)
  have y9 := hY 9 (by decide)
  have y10 := hY 10 (by decide)
  have y11 := hY 11 (by decide)
  have y12 := hY 12 (by decide)
  have y13 := hY 13 (by decide)
  have y14 := hY 14 (by decide)
  have y15 := hY 15 (by decide)
  simp at r0 r1 r2 r3
  simp only [List.getD_cons_zero, List.getD_cons_succ] at y0 y1 y2 y3 y4 y5 y6 y7 y8 y9 y10 y11 y12 y13 y14 y15
  refine ⟨[Y 0, Y 1, Y 2, Y 4, Y 5, Y 6, Y 8, Y 9, Y 10], ⟨Rd.mem_mult hb y0, Rd.mem_mult hb y1, Rd.mem_mult hb y2, Rd.mem_mult hb y4, Rd.mem_mult hb y5, Rd.mem_mult hb y6, Rd.mem_mult hb y8, Rd.mem_mult hb y9, Rd.mem_mult hb y10, trivial⟩, ?_⟩
  simp [Rd.fits, Rd.okRow, Rd.row, Rd.col, Rd.all, Rd.near, List.range_succ]
  omega
theorem Rd.exists_ (m n : Nat) (hm : 1 ≤ m ∧ m ≤ 3) (hn : 1 ≤ n ∧ n ≤ 3) (t : List Int) (ht : t.length = m * n) (b : Int) (hb : 1 ≤ b) : ∃ q, Rd.In b q t ∧ Rd.fits n (m * n) t q b = true := by
  rcases (show m = 1 ∨ m = 2 ∨ m = 3 by omega) with rfl | rfl | rfl <;> rcases (show n = 1 ∨ n = 2 ∨ n = 3 by omega) with rfl | rfl | rfl
  · obtain ⟨a0, t0, rfl, h0⟩ := Rd.len_cons (k := 0) ht; obtain rfl := List.eq_nil_of_length_eq_zero h0
    exact Rd.ex11 a0 b hb
  · obtain ⟨a0, t0, rfl, h0⟩ := Rd.len_cons (k := 1) ht; obtain ⟨a1, t1, rfl, h1⟩ := Rd.len_cons (k := 0) h0; obtain rfl := List.eq_nil_of_length_eq_zero h1
    exact Rd.ex12 a0 a1 b hb
  · obtain ⟨a0, t0, rfl, h0⟩ := Rd.len_cons (k := 2) ht; obtain ⟨a1, t1, rfl, h1⟩ := Rd.len_cons (k := 1) h0; obtain ⟨a2, t2, rfl, h2⟩ := Rd.len_cons (k := 0) h1; obtain rfl := List.eq_nil_of_length_eq_zero h2
    exact Rd.ex13 a0 a1 a2 b hb
  · obtain ⟨a0, t0, rfl, h0⟩ := Rd.len_cons (k := 1) ht; obtain ⟨a1, t1, rfl, h1⟩ := Rd.len_cons (k := 0) h0; obtain rfl := List.eq_nil_of_length_eq_zero h1
    exact Rd.ex21 a0 a1 b hb
  · obtain ⟨a0, t0, rfl, h0⟩ := Rd.len_cons (k := 3) ht; obtain ⟨a1, t1, rfl, h1⟩ := Rd.len_cons (k := 2) h0; obtain ⟨a2, t2, rfl, h2⟩ := Rd.len_cons (k := 1) h1; obtain ⟨a3, t3, rfl, h3⟩ := Rd.len_cons (k := 0) h2; obtain rfl := List.eq_nil_of_length_eq_zero h3
    exact Rd.ex22 a0 a1 a2 a3 b hb
  · obtain ⟨a0, t0, rfl, h0⟩ := Rd.len_cons (k := 5) ht; obtain ⟨a1, t1, rfl, h1⟩ := Rd.len_cons (k := 4) h0; obtain ⟨a2, t2, rfl, h2⟩ := Rd.len_cons (k := 3) h1; obtain ⟨a3, t3, rfl, h3⟩ := Rd.len_cons (k := 2) h2; obtain ⟨a4, t4, rfl, h4⟩ := Rd.len_cons (k := 1) h3; obtain ⟨a5, t5, rfl, h5⟩ := Rd.len_cons (k := 0) h4; obtain rfl := List.eq_nil_of_length_eq_zero h5
    exact Rd.ex23 a0 a1 a2 a3 a4 a5 b hb
  · obtain ⟨a0, t0, rfl, h0⟩ := Rd.len_cons (k := 2) ht; obtain ⟨a1, t1, rfl, h1⟩ := Rd.len_cons (k := 1) h0; obtain ⟨a2, t2, rfl, h2⟩ := Rd.len_cons (k := 0) h1; obtain rfl := List.eq_nil_of_length_eq_zero h2
    exact Rd.ex31 a0 a1 a2 b hb
  · obtain ⟨a0, t0, rfl, h0⟩ := Rd.len_cons (k := 5) ht; obtain ⟨a1, t1, rfl, h1⟩ := Rd.len_cons (k := 4) h0; obtain ⟨a2, t2, rfl, h2⟩ := Rd.len_cons (k := 3) h1; obtain ⟨a3, t3, rfl, h3⟩ := Rd.len_cons (k := 2) h2; obtain ⟨a4, t4, rfl, h4⟩ := Rd.len_cons (k := 1) h3; obtain ⟨a5, t5, rfl, h5⟩ := Rd.len_cons (k := 0) h4; obtain rfl := List.eq_nil_of_length_eq_zero h5
    exact Rd.ex32 a0 a1 a2 a3 a4 a5 b hb
  · obtain ⟨a0, t0, rfl, h0⟩ := Rd.len_cons (k := 8) ht; obtain ⟨a1, t1, rfl, h1⟩ := Rd.len_cons (k := 7) h0; obtain ⟨a2, t2, rfl, h2⟩ := Rd.len_cons (k := 6) h1; obtain ⟨a3, t3, rfl, h3⟩ := Rd.len_cons (k := 5) h2; obtain ⟨a4, t4, rfl, h4⟩ := Rd.len_cons (k := 4) h3; obtain ⟨a5, t5, rfl, h5⟩ := Rd.len_cons (k := 3) h4; obtain ⟨a6, t6, rfl, h6⟩ := Rd.len_cons (k := 2) h5; obtain ⟨a7, t7, rfl, h7⟩ := Rd.len_cons (k := 1) h6; obtain ⟨a8, t8, rfl, h8⟩ := Rd.len_cons (k := 0) h7; obtain rfl := List.eq_nil_of_length_eq_zero h8
    exact Rd.ex33 a0 a1 a2 a3 a4 a5 a6 a7 a8 b hb
/-- rows for columns, the first j numbers -/
def Rd.turn (m n : Nat) (t : List Int) : Nat → List Int
  | 0 => List.replicate (m * n) 0
  | j + 1 => (Rd.turn m n t j).set (j % n * m + j / n) (t.getD j 0)
set_option maxHeartbeats 1600000 in
theorem Rd.tu11 (a0 c0 b : Int) (hf : Rd.fits 1 1 [a0] [c0] b = true) : Rd.fits 1 1 (Rd.turn 1 1 [a0] 1) (Rd.turn 1 1 [c0] 1) b = true := by
  simp [Rd.fits, Rd.okRow, Rd.row, Rd.col, Rd.all, Rd.near, List.range_succ] at hf
  simp [Rd.turn, List.replicate, Rd.fits, Rd.okRow, Rd.row, Rd.col, Rd.all, Rd.near, List.range_succ]
  omega
set_option maxHeartbeats 1600000 in
theorem Rd.tu12 (a0 a1 c0 c1 b : Int) (hf : Rd.fits 2 2 [a0, a1] [c0, c1] b = true) : Rd.fits 1 2 (Rd.turn 1 2 [a0, a1] 2) (Rd.turn 1 2 [c0, c1] 2) b = true := by
  simp [Rd.fits, Rd.okRow, Rd.row, Rd.col, Rd.all, Rd.near, List.range_succ] at hf
  simp [Rd.turn, List.replicate, Rd.fits, Rd.okRow, Rd.row, Rd.col, Rd.all, Rd.near, List.range_succ]
  omega
set_option maxHeartbeats 1600000 in
theorem Rd.tu13 (a0 a1 a2 c0 c1 c2 b : Int) (hf : Rd.fits 3 3 [a0, a1, a2] [c0, c1, c2] b = true) : Rd.fits 1 3 (Rd.turn 1 3 [a0, a1, a2] 3) (Rd.turn 1 3 [c0, c1, c2] 3) b = true := by
  simp [Rd.fits, Rd.okRow, Rd.row, Rd.col, Rd.all, Rd.near, List.range_succ] at hf
  simp [Rd.turn, List.replicate, Rd.fits, Rd.okRow, Rd.row, Rd.col, Rd.all, Rd.near, List.range_succ]
  omega
set_option maxHeartbeats 1600000 in
theorem Rd.tu21 (a0 a1 c0 c1 b : Int) (hf : Rd.fits 1 2 [a0, a1] [c0, c1] b = true) : Rd.fits 2 2 (Rd.turn 2 1 [a0, a1] 2) (Rd.turn 2 1 [c0, c1] 2) b = true := by
  simp [Rd.fits, Rd.okRow, Rd.row, Rd.col, Rd.all, Rd.near, List.range_succ] at hf
  simp [Rd.turn, List.replicate, Rd.fits, Rd.okRow, Rd.row, Rd.col, Rd.all, Rd.near, List.range_succ]
  omega
set_option maxHeartbeats 1600000 in
theorem Rd.tu22 (a0 a1 a2 a3 c0 c1 c2 c3 b : Int) (hf : Rd.fits 2 4 [a0, a1, a2, a3] [c0, c1, c2, c3] b = true) : Rd.fits 2 4 (Rd.turn 2 2 [a0, a1, a2, a3] 4) (Rd.turn 2 2 [c0, c1, c2, c3] 4) b = true := by
  simp [Rd.fits, Rd.okRow, Rd.row, Rd.col, Rd.all, Rd.near, List.range_succ] at hf
  simp [Rd.turn, List.replicate, Rd.fits, Rd.okRow, Rd.row, Rd.col, Rd.all, Rd.near, List.range_succ]
  omega
set_option maxHeartbeats 1600000 in
theorem Rd.tu23 (a0 a1 a2 a3 a4 a5 c0 c1 c2 c3 c4 c5 b : Int) (hf : Rd.fits 3 6 [a0, a1, a2, a3, a4, a5] [c0, c1, c2, c3, c4, c5] b = true) : Rd.fits 2 6 (Rd.turn 2 3 [a0, a1, a2, a3, a4, a5] 6) (Rd.turn 2 3 [c0, c1, c2, c3, c4, c5] 6) b = true := by
  simp [Rd.fits, Rd.okRow, Rd.row, Rd.col, Rd.all, Rd.near, List.range_succ] at hf
  simp [Rd.turn, List.replicate, Rd.fits, Rd.okRow, Rd.row, Rd.col, Rd.all, Rd.near, List.range_succ]
  omega
set_option maxHeartbeats 1600000 in
theorem Rd.tu31 (a0 a1 a2 c0 c1 c2 b : Int) (hf : Rd.fits 1 3 [a0, a1, a2] [c0, c1, c2] b = true) : Rd.fits 3 3 (Rd.turn 3 1 [a0, a1, a2] 3) (Rd.turn 3 1 [c0, c1, c2] 3) b = true := by
  simp [Rd.fits, Rd.okRow, Rd.row, Rd.col, Rd.all, Rd.near, List.range_succ] at hf
  simp [Rd.turn, List.replicate, Rd.fits, Rd.okRow, Rd.row, Rd.col, Rd.all, Rd.near, List.range_succ]
  omega
set_option maxHeartbeats 1600000 in
theorem Rd.tu32 (a0 a1 a2 a3 a4 a5 c0 c1 c2 c3 c4 c5 b : Int) (hf : Rd.fits 2 6 [a0, a1, a2, a3, a4, a5] [c0, c1, c2, c3, c4, c5] b = true) : Rd.fits 3 6 (Rd.turn 3 2 [a0, a1, a2, a3, a4, a5] 6) (Rd.turn 3 2 [c0, c1, c2, c3, c4, c5] 6) b = true := by
  simp [Rd.fits, Rd.okRow, Rd.row, Rd.col, Rd.all, Rd.near, List.range_succ] at hf
  simp [Rd.turn, List.replicate, Rd.fits, Rd.okRow, Rd.row, Rd.col, Rd.all, Rd.near, List.range_succ]
  omega
set_option maxHeartbeats 1600000 in
theorem Rd.tu33 (a0 a1 a2 a3 a4 a5 a6 a7 a8 c0 c1 c2 c3 c4 c5 c6 c7 c8 b : Int) (hf : Rd.fits 3 9 [a0, a1, a2, a3, a4, a5, a6, a7, a8] [c0, c1, c2, c3, c4, c5, c6, c7, c8] b = true) : Rd.fits 3 9 (Rd.turn 3 3 [a0, a1, a2, a3, a4, a5, a6, a7, a8] 9) (Rd.turn 3 3 [c0, c1, c2, c3, c4, c5, c6, c7, c8] 9) b = true := by
  simp [Rd.fits, Rd.okRow, Rd.row, Rd.col, Rd.all, Rd.near, List.range_succ] at hf
  simp [Rd.turn, List.replicate, Rd.fits, Rd.okRow, Rd.row, Rd.col, Rd.all, Rd.near, List.range_succ]
  omega
theorem Rd.turned (m n : Nat) (hm : 1 ≤ m ∧ m ≤ 3) (hn : 1 ≤ n ∧ n ≤ 3) (t r : List Int) (ht : t.length = m * n) (hr : r.length = m * n) (b : Int) (hf : Rd.fits n (m * n) t r b = true) : Rd.fits m (m * n) (Rd.turn m n t (m * n)) (Rd.turn m n r (m * n)) b = true := by
  rcases (show m = 1 ∨ m = 2 ∨ m = 3 by omega) with rfl | rfl | rfl <;> rcases (show n = 1 ∨ n = 2 ∨ n = 3 by omega) with rfl | rfl | rfl
  · obtain ⟨a0, t0, rfl, h0⟩ := Rd.len_cons (k := 0) ht; obtain rfl := List.eq_nil_of_length_eq_zero h0
    obtain ⟨c0, r0, rfl, g0⟩ := Rd.len_cons (k := 0) hr; obtain rfl := List.eq_nil_of_length_eq_zero g0
    exact Rd.tu11 a0 c0 b hf
  · obtain ⟨a0, t0, rfl, h0⟩ := Rd.len_cons (k := 1) ht; obtain ⟨a1, t1, rfl, h1⟩ := Rd.len_cons (k := 0) h0; obtain rfl := List.eq_nil_of_length_eq_zero h1
    obtain ⟨c0, r0, rfl, g0⟩ := Rd.len_cons (k := 1) hr; obtain ⟨c1, r1, rfl, g1⟩ := Rd.len_cons (k := 0) g0; obtain rfl := List.eq_nil_of_length_eq_zero g1
    exact Rd.tu12 a0 a1 c0 c1 b hf
  · obtain ⟨a0, t0, rfl, h0⟩ := Rd.len_cons (k := 2) ht; obtain ⟨a1, t1, rfl, h1⟩ := Rd.len_cons (k := 1) h0; obtain ⟨a2, t2, rfl, h2⟩ := Rd.len_cons (k := 0) h1; obtain rfl := List.eq_nil_of_length_eq_zero h2
    obtain ⟨c0, r0, rfl, g0⟩ := Rd.len_cons (k := 2) hr; obtain ⟨c1, r1, rfl, g1⟩ := Rd.len_cons (k := 1) g0; obtain ⟨c2, r2, rfl, g2⟩ := Rd.len_cons (k := 0) g1; obtain rfl := List.eq_nil_of_length_eq_zero g2
    exact Rd.tu13 a0 a1 a2 c0 c1 c2 b hf
  · obtain ⟨a0, t0, rfl, h0⟩ := Rd.len_cons (k := 1) ht; obtain ⟨a1, t1, rfl, h1⟩ := Rd.len_cons (k := 0) h0; obtain rfl := List.eq_nil_of_length_eq_zero h1
    obtain ⟨c0, r0, rfl, g0⟩ := Rd.len_cons (k := 1) hr; obtain ⟨c1, r1, rfl, g1⟩ := Rd.len_cons (k := 0) g0; obtain rfl := List.eq_nil_of_length_eq_zero g1
    exact Rd.tu21 a0 a1 c0 c1 b hf
  · obtain ⟨a0, t0, rfl, h0⟩ := Rd.len_cons (k := 3) ht; obtain ⟨a1, t1, rfl, h1⟩ := Rd.len_cons (k := 2) h0; obtain ⟨a2, t2, rfl, h2⟩ := Rd.len_cons (k := 1) h1; obtain ⟨a3, t3, rfl, h3⟩ := Rd.len_cons (k := 0) h2; obtain rfl := List.eq_nil_of_length_eq_zero h3
    obtain ⟨c0, r0, rfl, g0⟩ := Rd.len_cons (k := 3) hr; obtain ⟨c1, r1, rfl, g1⟩ := Rd.len_cons (k := 2) g0; obtain ⟨c2, r2, rfl, g2⟩ := Rd.len_cons (k := 1) g1; obtain ⟨c3, r3, rfl, g3⟩ := Rd.len_cons (k := 0) g2; obtain rfl := List.eq_nil_of_length_eq_zero g3
    exact Rd.tu22 a0 a1 a2 a3 c0 c1 c2 c3 b hf
  · obtain ⟨a0, t0, rfl, h0⟩ := Rd.len_cons (k := 5) ht; obtain ⟨a1, t1, rfl, h1⟩ := Rd.len_cons (k := 4) h0; obtain ⟨a2, t2, rfl, h2⟩ := Rd.len_cons (k := 3) h1; obtain ⟨a3, t3, rfl, h3⟩ := Rd.len_cons (k := 2) h2; obtain ⟨a4, t4, rfl, h4⟩ := Rd.len_cons (k := 1) h3; obtain ⟨a5, t5, rfl, h5⟩ := Rd.len_cons (k := 0) h4; obtain rfl := List.eq_nil_of_length_eq_zero h5
    obtain ⟨c0, r0, rfl, g0⟩ := Rd.len_cons (k := 5) hr; obtain ⟨c1, r1, rfl, g1⟩ := Rd.len_cons (k := 4) g0; obtain ⟨c2, r2, rfl, g2⟩ := Rd.len_cons (k := 3) g1; obtain ⟨c3, r3, rfl, g3⟩ := Rd.len_cons (k := 2) g2; obtain ⟨c4, r4, rfl, g4⟩ := Rd.len_cons (k := 1) g3; obtain ⟨c5, r5, rfl, g5⟩ := Rd.len_cons (k := 0) g4; obtain rfl := List.eq_nil_of_length_eq_zero g5
    exact Rd.tu23 a0 a1 a2 a3 a4 a5 c0 c1 c2 c3 c4 c5 b hf
  · obtain ⟨a0, t0, rfl, h0⟩ := Rd.len_cons (k := 2) ht; obtain ⟨a1, t1, rfl, h1⟩ := Rd.len_cons (k := 1) h0; obtain ⟨a2, t2, rfl, h2⟩ := Rd.len_cons (k := 0) h1; obtain rfl := List.eq_nil_of_length_eq_zero h2
    obtain ⟨c0, r0, rfl, g0⟩ := Rd.len_cons (k := 2) hr; obtain ⟨c1, r1, rfl, g1⟩ := Rd.len_cons (k := 1) g0; obtain ⟨c2, r2, rfl, g2⟩ := Rd.len_cons (k := 0) g1; obtain rfl := List.eq_nil_of_length_eq_zero g2
    exact Rd.tu31 a0 a1 a2 c0 c1 c2 b hf
  · obtain ⟨a0, t0, rfl, h0⟩ := Rd.len_cons (k := 5) ht; obtain ⟨a1, t1, rfl, h1⟩ := Rd.len_cons (k := 4) h0; obtain ⟨a2, t2, rfl, h2⟩ := Rd.len_cons (k := 3) h1; obtain ⟨a3, t3, rfl, h3⟩ := Rd.len_cons (k := 2) h2; obtain ⟨a4, t4, rfl, h4⟩ := Rd.len_cons (k := 1) h3; obtain ⟨a5, t5, rfl, h5⟩ := Rd.len_cons (k := 0) h4; obtain rfl := List.eq_nil_of_length_eq_zero h5
    obtain ⟨c0, r0, rfl, g0⟩ := Rd.len_cons (k := 5) hr; obtain ⟨c1, r1, rfl, g1⟩ := Rd.len_cons (k := 4) g0; obtain ⟨c2, r2, rfl, g2⟩ := Rd.len_cons (k := 3) g1; obtain ⟨c3, r3, rfl, g3⟩ := Rd.len_cons (k := 2) g2; obtain ⟨c4, r4, rfl, g4⟩ := Rd.len_cons (k := 1) g3; obtain ⟨c5, r5, rfl, g5⟩ := Rd.len_cons (k := 0) g4; obtain rfl := List.eq_nil_of_length_eq_zero g5
    exact Rd.tu32 a0 a1 a2 a3 a4 a5 c0 c1 c2 c3 c4 c5 b hf
  · obtain ⟨a0, t0, rfl, h0⟩ := Rd.len_cons (k := 8) ht; obtain ⟨a1, t1, rfl, h1⟩ := Rd.len_cons (k := 7) h0; obtain ⟨a2, t2, rfl, h2⟩ := Rd.len_cons (k := 6) h1; obtain ⟨a3, t3, rfl, h3⟩ := Rd.len_cons (k := 5) h2; obtain ⟨a4, t4, rfl, h4⟩ := Rd.len_cons (k := 4) h3; obtain ⟨a5, t5, rfl, h5⟩ := Rd.len_cons (k := 3) h4; obtain ⟨a6, t6, rfl, h6⟩ := Rd.len_cons (k := 2) h5; obtain ⟨a7, t7, rfl, h7⟩ := Rd.len_cons (k := 1) h6; obtain ⟨a8, t8, rfl, h8⟩ := Rd.len_cons (k := 0) h7; obtain rfl := List.eq_nil_of_length_eq_zero h8
    obtain ⟨c0, r0, rfl, g0⟩ := Rd.len_cons (k := 8) hr; obtain ⟨c1, r1, rfl, g1⟩ := Rd.len_cons (k := 7) g0; obtain ⟨c2, r2, rfl, g2⟩ := Rd.len_cons (k := 6) g1; obtain ⟨c3, r3, rfl, g3⟩ := Rd.len_cons (k := 5) g2; obtain ⟨c4, r4, rfl, g4⟩ := Rd.len_cons (k := 4) g3; obtain ⟨c5, r5, rfl, g5⟩ := Rd.len_cons (k := 3) g4; obtain ⟨c6, r6, rfl, g6⟩ := Rd.len_cons (k := 2) g5; obtain ⟨c7, r7, rfl, g7⟩ := Rd.len_cons (k := 1) g6; obtain ⟨c8, r8, rfl, g8⟩ := Rd.len_cons (k := 0) g7; obtain rfl := List.eq_nil_of_length_eq_zero g8
    exact Rd.tu33 a0 a1 a2 a3 a4 a5 a6 a7 a8 c0 c1 c2 c3 c4 c5 c6 c7 c8 b hf
end Go.Proofs.Ytgclljmchdlbeaa
