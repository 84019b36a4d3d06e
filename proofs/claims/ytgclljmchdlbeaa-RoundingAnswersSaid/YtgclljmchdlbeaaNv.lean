/- Rounding: there is always a rounded table, for all sizes up to nine numbers. -/
import Derived.Test.YtgclljmchdlbeaaNu
import Derived.Test.YtgclljmchdlbeaaNj
namespace Go.Proofs.Ytgclljmchdlbeaa
open Go.RowKit
theorem Rd.pre (p b : Int) (hb : 1 ≤ b) : ∃ D, b ∣ D ∧ D ≤ p ∧ p - D < b := by
  have h1 := Int.emod_nonneg p (show b ≠ 0 by omega)
  have h2 := Int.emod_lt_of_pos p (show 0 < b by omega)
  exact ⟨p - p % b, Int.dvd_self_sub_emod, by omega, by omega⟩
set_option maxHeartbeats 1600000 in
theorem Rd.ex1_4 (a0 a1 a2 a3 b : Int) (hb : 1 ≤ b) : ∃ q, Rd.In b q [a0, a1, a2, a3] ∧ Rd.fits 4 4 [a0, a1, a2, a3] q b = true := by
  obtain ⟨D0, v0, l0, u0⟩ := Rd.pre (a0) b hb
  obtain ⟨D1, v1, l1, u1⟩ := Rd.pre (a0 + a1) b hb
  obtain ⟨D2, v2, l2, u2⟩ := Rd.pre (a0 + a1 + a2) b hb
  obtain ⟨D3, v3, l3, u3⟩ := Rd.pre (a0 + a1 + a2 + a3) b hb
  refine ⟨[D0, D1 - D0, D2 - D1, D3 - D2], ⟨Rd.mem_mult hb ⟨v0, by omega, by omega⟩, Rd.mem_mult hb ⟨Int.dvd_sub v1 v0, by omega, by omega⟩, Rd.mem_mult hb ⟨Int.dvd_sub v2 v1, by omega, by omega⟩, Rd.mem_mult hb ⟨Int.dvd_sub v3 v2, by omega, by omega⟩, trivial⟩, ?_⟩
  simp [Rd.fits, Rd.okRow, Rd.row, Rd.col, Rd.all, Rd.near, List.range_succ]
  omega
set_option maxHeartbeats 1600000 in
theorem Rd.ex4_1 (a0 a1 a2 a3 b : Int) (hb : 1 ≤ b) : ∃ q, Rd.In b q [a0, a1, a2, a3] ∧ Rd.fits 1 4 [a0, a1, a2, a3] q b = true := by
  obtain ⟨D0, v0, l0, u0⟩ := Rd.pre (a0) b hb
  obtain ⟨D1, v1, l1, u1⟩ := Rd.pre (a0 + a1) b hb
  obtain ⟨D2, v2, l2, u2⟩ := Rd.pre (a0 + a1 + a2) b hb
  obtain ⟨D3, v3, l3, u3⟩ := Rd.pre (a0 + a1 + a2 + a3) b hb
  refine ⟨[D0, D1 - D0, D2 - D1, D3 - D2], ⟨Rd.mem_mult hb ⟨v0, by omega, by omega⟩, Rd.mem_mult hb ⟨Int.dvd_sub v1 v0, by omega, by omega⟩, Rd.mem_mult hb ⟨Int.dvd_sub v2 v1, by omega, by omega⟩, Rd.mem_mult hb ⟨Int.dvd_sub v3 v2, by omega, by omega⟩, trivial⟩, ?_⟩
  simp [Rd.fits, Rd.okRow, Rd.row, Rd.col, Rd.all, Rd.near, List.range_succ]
  omega
set_option maxHeartbeats 1600000 in
theorem Rd.ex1_5 (a0 a1 a2 a3 a4 b : Int) (hb : 1 ≤ b) : ∃ q, Rd.In b q [a0, a1, a2, a3, a4] ∧ Rd.fits 5 5 [a0, a1, a2, a3, a4] q b = true := by
  obtain ⟨D0, v0, l0, u0⟩ := Rd.pre (a0) b hb
  obtain ⟨D1, v1, l1, u1⟩ := Rd.pre (a0 + a1) b hb
  obtain ⟨D2, v2, l2, u2⟩ := Rd.pre (a0 + a1 + a2) b hb
  obtain ⟨D3, v3, l3, u3⟩ := Rd.pre (a0 + a1 + a2 + a3) b hb
  obtain ⟨D4, v4, l4, u4⟩ := Rd.pre (a0 + a1 + a2 + a3 + a4) b hb
  refine ⟨[D0, D1 - D0, D2 - D1, D3 - D2, D4 - D3], ⟨Rd.mem_mult hb ⟨v0, by omega, by omega⟩, Rd.mem_mult hb ⟨Int.dvd_sub v1 v0, by omega, by omega⟩, Rd.mem_mult hb ⟨Int.dvd_sub v2 v1, by omega, by omega⟩, Rd.mem_mult hb ⟨Int.dvd_sub v3 v2, by omega, by omega⟩, Rd.mem_mult hb ⟨Int.dvd_sub v4 v3, by omega, by omega⟩, trivial⟩, ?_⟩
  simp [Rd.fits, Rd.okRow, Rd.row, Rd.col, Rd.all, Rd.near, List.range_succ]
  omega
set_option maxHeartbeats 1600000 in
theorem Rd.ex5_1 (a0 a1 a2 a3 a4 b : Int) (hb : 1 ≤ b) : ∃ q, Rd.In b q [a0, a1, a2, a3, a4] ∧ Rd.fits 1 5 [a0, a1, a2, a3, a4] q b = true := by
  obtain ⟨D0, v0, l0, u0⟩ := Rd.pre (a0) b hb
  obtain ⟨D1, v1, l1, u1⟩ := Rd.pre (a0 + a1) b hb
  obtain ⟨D2, v2, l2, u2⟩ := Rd.pre (a0 + a1 + a2) b hb
  obtain ⟨D3, v3, l3, u3⟩ := Rd.pre (a0 + a1 + a2 + a3) b hb
  obtain ⟨D4, v4, l4, u4⟩ := Rd.pre (a0 + a1 + a2 + a3 + a4) b hb
  refine ⟨[D0, D1 - D0, D2 - D1, D3 - D2, D4 - D3], ⟨Rd.mem_mult hb ⟨v0, by omega, by omega⟩, Rd.mem_mult hb ⟨Int.dvd_sub v1 v0, by omega, by omega⟩, Rd.mem_mult hb ⟨Int.dvd_sub v2 v1, by omega, by omega⟩, Rd.mem_mult hb ⟨Int.dvd_sub v3 v2, by omega, by omega⟩, Rd.mem_mult hb ⟨Int.dvd_sub v4 v3, by omega, by omega⟩, trivial⟩, ?_⟩
  simp [Rd.fits, Rd.okRow, Rd.row, Rd.col, Rd.all, Rd.near, List.range_succ]
  omega
set_option maxHeartbeats 1600000 in
theorem Rd.ex1_6 (a0 a1 a2 a3 a4 a5 b : Int) (hb : 1 ≤ b) : ∃ q, Rd.In b q [a0, a1, a2, a3, a4, a5] ∧ Rd.fits 6 6 [a0, a1, a2, a3, a4, a5] q b = true := by
  obtain ⟨D0, v0, l0, u0⟩ := Rd.pre (a0) b hb
  obtain ⟨D1, v1, l1, u1⟩ := Rd.pre (a0 + a1) b hb
  obtain ⟨D2, v2, l2, u2⟩ := Rd.pre (a0 + a1 + a2) b hb
  obtain ⟨D3, v3, l3, u3⟩ := Rd.pre (a0 + a1 + a2 + a3) b hb
  obtain ⟨D4, v4, l4, u4⟩ := Rd.pre (a0 + a1 + a2 + a3 + a4) b hb
  obtain ⟨D5, v5, l5, u5⟩ := Rd.pre (a0 + a1 + a2 + a3 + a4 + a5) b hb
  refine ⟨[D0, D1 - D0, D2 - D1, D3 - D2, D4 - D3, D5 - D4], ⟨Rd.mem_mult hb ⟨v0, by omega, by omega⟩, Rd.mem_mult hb ⟨Int.dvd_sub v1 v0, by omega, by omega⟩, Rd.mem_mult hb ⟨Int.dvd_sub v2 v1, by omega, by omega⟩, Rd.mem_mult hb ⟨Int.dvd_sub v3 v2, by omega, by omega⟩, Rd.mem_mult hb ⟨Int.dvd_sub v4 v3, by omega, by omega⟩, Rd.mem_mult hb ⟨Int.dvd_sub v5 v4, by omega, by omega⟩, trivial⟩, ?_⟩
  simp [Rd.fits, Rd.okRow, Rd.row, Rd.col, Rd.all, Rd.near, List.range_succ]
  omega
set_option maxHeartbeats 1600000 in
theorem Rd.ex6_1 (a0 a1 a2 a3 a4 a5 b : Int) (hb : 1 ≤ b) : ∃ q, Rd.In b q [a0, a1, a2, a3, a4, a5] ∧ Rd.fits 1 6 [a0, a1, a2, a3, a4, a5] q b = true := by
  obtain ⟨D0, v0, l0, u0⟩ := Rd.pre (a0) b hb
  obtain ⟨D1, v1, l1, u1⟩ := Rd.pre (a0 + a1) b hb
  obtain ⟨D2, v2, l2, u2⟩ := Rd.pre (a0 + a1 + a2) b hb
  obtain ⟨D3, v3, l3, u3⟩ := Rd.pre (a0 + a1 + a2 + a3) b hb
  obtain ⟨D4, v4, l4, u4⟩ := Rd.pre (a0 + a1 + a2 + a3 + a4) b hb
  obtain ⟨D5, v5, l5, u5⟩ := Rd.pre (a0 + a1 + a2 + a3 + a4 + a5) b hb
  refine ⟨[D0, D1 - D0, D2 - D1, D3 - D2, D4 - D3, D5 - D4], ⟨Rd.mem_mult hb ⟨v0, by omega, by omega⟩, Rd.mem_mult hb ⟨Int.dvd_sub v1 v0, by omega, by omega⟩, Rd.mem_mult hb ⟨Int.dvd_sub v2 v1, by omega, by omega⟩, Rd.mem_mult hb ⟨Int.dvd_sub v3 v2, by omega, by omega⟩, Rd.mem_mult hb ⟨Int.dvd_sub v4 v3, by omega, by omega⟩, Rd.mem_mult hb ⟨Int.dvd_sub v5 v4, by omega, by omega⟩, trivial⟩, ?_⟩
  simp [Rd.fits, Rd.okRow, Rd.row, Rd.col, Rd.all, Rd.near, List.range_succ]
  omega
set_option maxHeartbeats 1600000 in
theorem Rd.ex1_7 (a0 a1 a2 a3 a4 a5 a6 b : Int) (hb : 1 ≤ b) : ∃ q, Rd.In b q [a0, a1, a2, a3, a4, a5, a6] ∧ Rd.fits 7 7 [a0, a1, a2, a3, a4, a5, a6] q b = true := by
  obtain ⟨D0, v0, l0, u0⟩ := Rd.pre (a0) b hb
  obtain ⟨D1, v1, l1, u1⟩ := Rd.pre (a0 + a1) b hb
  obtain ⟨D2, v2, l2, u2⟩ := Rd.pre (a0 + a1 + a2) b hb
  obtain ⟨D3, v3, l3, u3⟩ := Rd.pre (a0 + a1 + a2 + a3) b hb
  obtain ⟨D4, v4, l4, u4⟩ := Rd.pre (a0 + a1 + a2 + a3 + a4) b hb
  obtain ⟨D5, v5, l5, u5⟩ := Rd.pre (a0 + a1 + a2 + a3 + a4 + a5) b hb
  obtain ⟨D6, v6, l6, u6⟩ := Rd.pre (a0 + a1 + a2 + a3 + a4 + a5 + a6) b hb
  refine ⟨[D0, D1 - D0, D2 - D1, D3 - D2, D4 - D3, D5 - D4, D6 - D5], ⟨Rd.mem_mult hb ⟨v0, by omega, by omega⟩, Rd.mem_mult hb ⟨Int.dvd_sub v1 v0, by omega, by omega⟩, Rd.mem_mult hb ⟨Int.dvd_sub v2 v1, by omega, by omega⟩, Rd.mem_mult hb ⟨Int.dvd_sub v3 v2, by omega, by omega⟩, Rd.mem_mult hb ⟨Int.dvd_sub v4 v3, by omega, by omega⟩, Rd.mem_mult hb ⟨Int.dvd_sub v5 v4, by omega, by omega⟩, Rd.mem_mult hb ⟨Int.dvd_sub v6 v5, by omega, by omega⟩, trivial⟩, ?_⟩
  simp [Rd.fits, Rd.okRow, Rd.row, Rd.col, Rd.all, Rd.near, List.range_succ]
  omega
set_option maxHeartbeats 1600000 in
theorem Rd.ex7_1 (a0 a1 a2 a3 a4 a5 a6 b : Int) (hb : 1 ≤ b) : ∃ q, Rd.In b q [a0, a1, a2, a3, a4, a5, a6] ∧ Rd.fits 1 7 [a0, a1, a2, a3, a4, a5, a6] q b = true := by
  obtain ⟨D0, v0, l0, u0⟩ := Rd.pre (a0) b hb
  obtain ⟨D1, v1, l1, u1⟩ := Rd.pre (a0 + a1) b hb
  obtain ⟨D2, v2, l2, u2⟩ := Rd.pre (a0 + a1 + a2) b hb
  obtain ⟨D3, v3, l3, u3⟩ := Rd.pre (a0 + a1 + a2 + a3) b hb
  obtain ⟨D4, v4, l4, u4⟩ := Rd.pre (a0 + a1 + a2 + a3 + a4) b hb
  obtain ⟨D5, v5, l5, u5⟩ := Rd.pre (a0 + a1 + a2 + a3 + a4 + a5) b hb
  obtain ⟨D6, v6, l6, u6⟩ := Rd.pre (a0 + a1 + a2 + a3 + a4 + a5 + a6) b hb
  refine ⟨[D0, D1 - D0, D2 - D1, D3 - D2, D4 - D3, D5 - D4, D6 - D5], ⟨Rd.mem_mult hb ⟨v0, by omega, by omega⟩, Rd.mem_mult hb ⟨Int.dvd_sub v1 v0, by omega, by omega⟩, Rd.mem_mult hb ⟨Int.dvd_sub v2 v1, by omega, by omega⟩, Rd.mem_mult hb ⟨Int.dvd_sub v3 v2, by omega, by omega⟩, Rd.mem_mult hb ⟨Int.dvd_sub v4 v3, by omega, by omega⟩, Rd.mem_mult hb ⟨Int.dvd_sub v5 v4, by omega, by omega⟩, Rd.mem_mult hb ⟨Int.dvd_sub v6 v5, by omega, by omega⟩, trivial⟩, ?_⟩
  simp [Rd.fits, Rd.okRow, Rd.row, Rd.col, Rd.all, Rd.near, List.range_succ]
  omega
set_option maxHeartbeats 1600000 in
theorem Rd.ex1_8 (a0 a1 a2 a3 a4 a5 a6 a7 b : Int) (hb : 1 ≤ b) : ∃ q, Rd.In b q [a0, a1, a2, a3, a4, a5, a6, a7] ∧ Rd.fits 8 8 [a0, a1, a2, a3, a4, a5, a6, a7] q b = true := by
  obtain ⟨D0, v0, l0, u0⟩ := Rd.pre (a0) b hb
  obtain ⟨D1, v1, l1, u1⟩ := Rd.pre (a0 + a1) b hb
  obtain ⟨D2, v2, l2, u2⟩ := Rd.pre (a0 + a1 + a2) b hb
  obtain ⟨D3, v3, l3, u3⟩ := Rd.pre (a0 + a1 + a2 + a3) b hb
  obtain ⟨D4, v4, l4, u4⟩ := Rd.pre (a0 + a1 + a2 + a3 + a4) b hb
  obtain ⟨D5, v5, l5, u5⟩ := Rd.pre (a0 + a1 + a2 + a3 + a4 + a5) b hb
  obtain ⟨D6, v6, l6, u6⟩ := Rd.pre (a0 + a1 + a2 + a3 + a4 + a5 + a6) b hb
  obtain ⟨D7, v7, l7, u7⟩ := Rd.pre (a0 + a1 + a2 + a3 + a4 + a5 + a6 + a7) b hb
  refine ⟨[D0, D1 - D0, D2 - D1, D3 - D2, D4 - D3, D5 - D4, D6 - D5, D7 - D6], ⟨Rd.mem_mult hb ⟨v0, by omega, by omega⟩, Rd.mem_mult hb ⟨Int.dvd_sub v1 v0, by omega, by omega⟩, Rd.mem_mult hb ⟨Int.dvd_sub v2 v1, by omega, by omega⟩, Rd.mem_mult hb ⟨Int.dvd_sub v3 v2, by omega, by omega⟩, Rd.mem_mult hb ⟨Int.dvd_sub v4 v3, by omega, by omega⟩, Rd.mem_mult hb ⟨Int.dvd_sub v5 v4, by omega, by omega⟩, Rd.mem_mult hb ⟨Int.dvd_sub v6 v5, by omega, by omega⟩, Rd.mem_mult hb ⟨Int.dvd_sub v7 v6, by omega, by omega⟩, trivial⟩, ?_⟩
  simp [Rd.fits, Rd.okRow, Rd.row, Rd.col, Rd.all, Rd.near, List.range_succ]
  omega
set_option maxHeartbeats 1600000 in
theorem Rd.ex8_1 (a0 a1 a2 a3 a4 a5 a6 a7 b : Int) (hb : 1 ≤ b) : ∃ q, Rd.In b q [a0, a1, a2, a3, a4, a5, a6, a7] ∧ Rd.fits 1 8 [a0, a1, a2, a3, a4, a5, a6, a7] q b = true := by
  obtain ⟨D0, v0, l0, u0⟩ := Rd.pre (a0) b hb
  obtain ⟨D1, v1, l1, u1⟩ := Rd.pre (a0 + a1) b hb
  obtain ⟨D2, v2, l2, u2⟩ := Rd.pre (a0 + a1 + a2) b hb
  obtain ⟨D3, v3, l3, u3⟩ := Rd.pre (a0 + a1 + a2 + a3) b hb
  obtain ⟨D4, v4, l4, u4⟩ := Rd.pre (a0 + a1 + a2 + a3 + a4) b hb
  obtain ⟨D5, v5, l5, u5⟩ := Rd.pre (a0 + a1 + a2 + a3 + a4 + a5) b hb
  obtain ⟨D6, v6, l6, u6⟩ := Rd.pre (a0 + a1 + a2 + a3 + a4 + a5 + a6) b hb
  obtain ⟨D7, v7, l7, u7⟩ := Rd.pre (a0 + a1 + a2 + a3 + a4 + a5 + a6 + a7) b hb
  refine ⟨[D0, D1 - D0, D2 - D1, D3 - D2, D4 - D3, D5 - D4, D6 - D5, D7 - D6], ⟨Rd.mem_mult hb ⟨v0, by omega, by omega⟩, Rd.mem_mult hb ⟨Int.dvd_sub v1 v0, by omega, by omega⟩, Rd.mem_mult hb ⟨Int.dvd_sub v2 v1, by omega, by omega⟩, Rd.mem_mult hb ⟨Int.dvd_sub v3 v2, by omega, by omega⟩, Rd.mem_mult hb ⟨Int.dvd_sub v4 v3, by omega, by omega⟩, Rd.mem_mult hb ⟨Int.dvd_sub v5 v4, by omega, by omega⟩, Rd.mem_mult hb ⟨Int.dvd_sub v6 v5, by omega, by omega⟩, Rd.mem_mult hb ⟨Int.dvd_sub v7 v6, by omega, by omega⟩, trivial⟩, ?_⟩
  simp [Rd.fits, Rd.okRow, Rd.row, Rd.col, Rd.all, Rd.near, List.range_succ]
  omega
set_option maxHeartbeats 1600000 in
theorem Rd.ex1_9 (a0 a1 a2 a3 a4 a5 a6 a7 a8 b : Int) (hb : 1 ≤ b) : ∃ q, Rd.In b q [a0, a1, a2, a3, a4, a5, a6, a7, a8] ∧ Rd.fits 9 9 [a0, a1, a2, a3, a4, a5, a6, a7, a8] q b = true := by
  obtain ⟨D0, v0, l0, u0⟩ := Rd.pre (a0) b hb
  obtain ⟨D1, v1, l1, u1⟩ := Rd.pre (a0 + a1) b hb
  obtain ⟨D2, v2, l2, u2⟩ := Rd.pre (a0 + a1 + a2) b hb
  obtain ⟨D3, v3, l3, u3⟩ := Rd.pre (a0 + a1 + a2 + a3) b hb
  obtain ⟨D4, v4, l4, u4⟩ := Rd.pre (a0 + a1 + a2 + a3 + a4) b hb
  obtain ⟨D5, v5, l5, u5⟩ := Rd.pre (a0 + a1 + a2 + a3 + a4 + a5) b hb
  obtain ⟨D6, v6, l6, u6⟩ := Rd.pre (a0 + a1 + a2 + a3 + a4 + a5 + a6) b hb
  obtain ⟨D7, v7, l7, u7⟩ := Rd.pre (a0 + a1 + a2 + a3 + a4 + a5 + a6 + a7) b hb
  obtain ⟨D8, v8, l8, u8⟩ := Rd.pre (a0 + a1 + a2 + a3 + a4 + a5 + a6 + a7 + a8) b hb
  refine ⟨[D0, D1 - D0, D2 - D1, D3 - D2, D4 - D3, D5 - D4, D6 - D5, D7 - D6, D8 - D7], ⟨Rd.mem_mult hb ⟨v0, by omega, by omega⟩, Rd.mem_mult hb ⟨Int.dvd_sub v1 v0, by omega, by omega⟩, Rd.mem_mult hb ⟨Int.dvd_sub v2 v1, by omega, by omega⟩, Rd.mem_mult hb ⟨Int.dvd_sub v3 v2, by omega, by omega⟩, Rd.mem_mult hb ⟨Int.dvd_sub v4 v3, by omega, by omega⟩, Rd.mem_mult hb ⟨Int.dvd_sub v5 v4, by omega, by omega⟩, Rd.mem_mult hb ⟨Int.dvd_sub v6 v5, by omega, by omega⟩, Rd.mem_mult hb ⟨Int.dvd_sub v7 v6, by omega, by omega⟩, Rd.mem_mult hb ⟨Int.dvd_sub v8 v7, by omega, by omega⟩, trivial⟩, ?_⟩
  simp [Rd.fits, Rd.okRow, Rd.row, Rd.col, Rd.all, Rd.near, List.range_succ]
  omega
set_option maxHeartbeats 1600000 in
theorem Rd.ex9_1 (a0 a1 a2 a3 a4 a5 a6 a7 a8 b : Int) (hb : 1 ≤ b) : ∃ q, Rd.In b q [a0, a1, a2, a3, a4, a5, a6, a7, a8] ∧ Rd.fits 1 9 [a0, a1, a2, a3, a4, a5, a6, a7, a8] q b = true := by
  obtain ⟨D0, v0, l0, u0⟩ := Rd.pre (a0) b hb
  obtain ⟨D1, v1, l1, u1⟩ := Rd.pre (a0 + a1) b hb
  obtain ⟨D2, v2, l2, u2⟩ := Rd.pre (a0 + a1 + a2) b hb
  obtain ⟨D3, v3, l3, u3⟩ := Rd.pre (a0 + a1 + a2 + a3) b hb
  obtain ⟨D4, v4, l4, u4⟩ := Rd.pre (a0 + a1 + a2 + a3 + a4) b hb
  obtain ⟨D5, v5, l5, u5⟩ := Rd.pre (a0 + a1 + a2 + a3 + a4 + a5) b hb
  obtain ⟨D6, v6, l6, u6⟩ := Rd.pre (a0 + a1 + a2 + a3 + a4 + a5 + a6) b hb
  obtain ⟨D7, v7, l7, u7⟩ := Rd.pre (a0 + a1 + a2 + a3 + a4 + a5 + a6 + a7) b hb
  obtain ⟨D8, v8, l8, u8⟩ := Rd.pre (a0 + a1 + a2 + a3 + a4 + a5 + a6 + a7 + a8) b hb
  refine ⟨[D0, D1 - D0, D2 - D1, D3 - D2, D4 - D3, D5 - D4, D6 - D5, D7 - D6, D8 - D7], ⟨Rd.mem_mult hb ⟨v0, by omega, by omega⟩, Rd.mem_mult hb ⟨Int.dvd_sub v1 v0, by omega, by omega⟩, Rd.mem_mult hb ⟨Int.dvd_sub v2 v1, by omega, by omega⟩, Rd.mem_mult hb ⟨Int.dvd_sub v3 v2, by omega, by omega⟩, Rd.mem_mult hb ⟨Int.dvd_sub v4 v3, by omega, by omega⟩, Rd.mem_mult hb ⟨Int.dvd_sub v5 v4, by omega, by omega⟩, Rd.mem_mult hb ⟨Int.dvd_sub v6 v5, by omega, by omega⟩, Rd.mem_mult hb ⟨Int.dvd_sub v7 v6, by omega, by omega⟩, Rd.mem_mult hb ⟨Int.dvd_sub v8 v7, by omega, by omega⟩, trivial⟩, ?_⟩
  simp [Rd.fits, Rd.okRow, Rd.row, Rd.col, Rd.all, Rd.near, List.range_succ]
  omega
set_option maxHeartbeats 1600000 in
theorem Rd.ex2_4 (a0 a1 a2 a3 a4 a5 a6 a7 b : Int) (hb : 1 ≤ b) : ∃ q, Rd.In b q [a0, a1, a2, a3, a4, a5, a6, a7] ∧ Rd.fits 4 8 [a0, a1, a2, a3, a4, a5, a6, a7] q b = true := by
  have hZ : Nt.Bal (fun k => [a0, a1, a2, a3, -(a0 + a1 + a2 + a3), a4, a5, a6, a7, -(a4 + a5 + a6 + a7), -(a0 + a4), -(a1 + a5), -(a2 + a6), -(a3 + a7), a0 + a1 + a2 + a3 + a4 + a5 + a6 + a7].getD k 0) := by
    constructor
    · intro i hi
      rcases (show i = 0 ∨ i = 1 ∨ i = 2 by omega) with rfl | rfl | rfl <;> (simp; try omega)
    · intro i hi
      rcases (show i = 0 ∨ i = 1 ∨ i = 2 ∨ i = 3 ∨ i = 4 by omega) with rfl | rfl | rfl | rfl | rfl <;> (simp; try omega)
  obtain ⟨Y, hB, hY⟩ := Nt.round b hb _ _ (Nat.le_refl _) hZ
  have r0 := hB.1 0 (by decide)
  have r1 := hB.1 1 (by decide)
  have r2 := hB.1 2 (by decide)
  have s0 := hB.2 0 (by decide)
  have s1 := hB.2 1 (by decide)
  have s2 := hB.2 2 (by decide)
  have s3 := hB.2 3 (by decide)
  have s4 := hB.2 4 (by decide)
  have y0 := hY 0 (by decide)
  have y1 := hY 1 (by decide)
  have y2 := hY 2 (by decide)
  have y3 := hY 3 (by decide)
  have y4 := hY 4 (by decide)
  have y5 := hY 5 (by decide)
  have y6 := hY 6 (by decide)
  have y7 := hY 7 (by decide)
  have y8 := hY 8 (by decide)
  have y9 := hY 9 (by decide)
  have y10 := hY 10 (by decide)
  have y11 := hY 11 (by decide)
  have y12 := hY 12 (by decide)
  have y13 := hY 13 (by decide)
  have y14 := hY 14 (by decide)
  simp at r0 r1 r2 s0 s1 s2 s3 s4
  simp only [List.getD_cons_zero, List.getD_cons_succ] at y0 y1 y2 y3 y4 y5 y6 y7 y8 y9 y10 y11 y12 y13 y14
  refine ⟨[Y 0, Y 1, Y 2, Y 3, Y 5, Y 6, Y 7, Y 8], ⟨Rd.mem_mult hb y0, Rd.mem_mult hb y1, Rd.mem_mult hb y2, Rd.mem_mult hb y3, Rd.mem_mult hb y5, Rd.mem_mult hb y6, Rd.mem_mult hb y7, Rd.mem_mult hb y8, trivial⟩, ?_⟩
  simp [Rd.fits, Rd.okRow, Rd.row, Rd.col, Rd.all, Rd.near, List.range_succ]
  omega
set_option maxHeartbeats 1600000 in
theorem Rd.ex4_2 (a0 a1 a2 a3 a4 a5 a6 a7 b : Int) (hb : 1 ≤ b) : ∃ q, Rd.In b q [a0, a1, a2, a3, a4, a5, a6, a7] ∧ Rd.fits 2 8 [a0, a1, a2, a3, a4, a5, a6, a7] q b = true := by
  have hZ : Nt.Bal (fun k => [a0, a2, a4, a6, -(a0 + a2 + a4 + a6), a1, a3, a5, a7, -(a1 + a3 + a5 + a7), -(a0 + a1), -(a2 + a3), -(a4 + a5), -(a6 + a7), a0 + a1 + a2 + a3 + a4 + a5 + a6 + a7].getD k 0) := by
    constructor
    · intro i hi
      rcases (show i = 0 ∨ i = 1 ∨ i = 2 by omega) with rfl | rfl | rfl <;> (simp; try omega)
    · intro i hi
      rcases (show i = 0 ∨ i = 1 ∨ i = 2 ∨ i = 3 ∨ i = 4 by omega) with rfl | rfl | rfl | rfl | rfl <;> (simp; try omega)
  obtain ⟨Y, hB, hY⟩ := Nt.round b hb _ _ (Nat.le_refl _) hZ
  have r0 := hB.1 0 (by decide)
  have r1 := hB.1 1 (by decide)
  have r2 := hB.1 2 (by decide)
  have s0 := hB.2 0 (by decide)
  have s1 := hB.2 1 (by decide)
  have s2 := hB.2 2 (by decide)
  have s3 := hB.2 3 (by decide)
  have s4 := hB.2 4 (by decide)
  have y0 := hY 0 (by decide)
  have y1 := hY 1 (by decide)
  have y2 := hY 2 (by decide)
  have y3 := hY 3 (by decide)
  have y4 := hY 4 (by decide)
  have y5 := hY 5 (by decide)
  have y6 := hY 6 (by decide)
  have y7 := hY 7 (by decide)
  have y8 := hY 8 (by decide)
  have y9 := hY 9 (by decide)
  have y10 := hY 10 (by decide)
  have y11 := hY 11 (by decide)
  have y12 := hY 12 (by decide)
  have y13 := hY 13 (by decide)
  have y14 := hY 14 (by decide)
  simp at r0 r1 r2 s0 s1 s2 s3 s4
  simp only [List.getD_cons_zero, List.getD_cons_succ] at y0 y1 y2 y3 y4 y5 y6 y7 y8 y9 y10 y11 y12 y13 y14
  refine ⟨[Y 0, Y 5, Y 1, Y 6, Y 2, Y 7, Y 3, Y 8], ⟨Rd.mem_mult hb y0, Rd.mem_mult hb y5, Rd.mem_mult hb y1, Rd.mem_mult hb y6, Rd.mem_mult hb y2, Rd.mem_mult hb y7, Rd.mem_mult hb y3, Rd.mem_mult hb y8, trivial⟩, ?_⟩
  simp [Rd.fits, Rd.okRow, Rd.row, Rd.col, Rd.all, Rd.near, List.range_succ]
  omega
set_option maxHeartbeats 3200000 in
theorem Rd.existsG (m n : Nat) (hm : 1 ≤ m) (hn : 1 ≤ n) (hmn : m * n ≤ 9) (t : List Int) (ht : t.length = m * n) (b : Int) (hb : 1 ≤ b) : ∃ q, Rd.In b q t ∧ Rd.fits n (m * n) t q b = true := by
  have hm9 : m ≤ 9 := Nat.le_trans (by simpa using Nat.mul_le_mul_left m hn) hmn
  have hn9 : n ≤ 9 := Nat.le_trans (by simpa using Nat.mul_le_mul_right n hm) hmn
  by_cases hs : m ≤ 3 ∧ n ≤ 3
  · exact Rd.exists_ m n ⟨hm, hs.1⟩ ⟨hn, hs.2⟩ t ht b hb
  · have hc : (m = 1 ∧ n = 4) ∨ (m = 1 ∧ n = 5) ∨ (m = 1 ∧ n = 6) ∨ (m = 1 ∧ n = 7) ∨ (m = 1 ∧ n = 8) ∨ (m = 1 ∧ n = 9) ∨ (m = 4 ∧ n = 1) ∨ (m = 5 ∧ n = 1) ∨ (m = 6 ∧ n = 1) ∨ (m = 7 ∧ n = 1) ∨ (m = 8 ∧ n = 1) ∨ (m = 9 ∧ n = 1) ∨ (m = 2 ∧ n = 4) ∨ (m = 4 ∧ n = 2) := by
      rcases (show m = 1 ∨ m = 2 ∨ m = 3 ∨ m = 4 ∨ m = 5 ∨ m = 6 ∨ m = 7 ∨ m = 8 ∨ m = 9 by omega) with rfl | rfl | rfl | rfl | rfl | rfl | rfl | rfl | rfl <;> omega
    rcases hc with ⟨rfl, rfl⟩ | ⟨rfl, rfl⟩ | ⟨rfl, rfl⟩ | ⟨rfl, rfl⟩ | ⟨rfl, rfl⟩ | ⟨rfl, rfl⟩ | ⟨rfl, rfl⟩ | ⟨rfl, rfl⟩ | ⟨rfl, rfl⟩ | ⟨rfl, rfl⟩ | ⟨rfl, rfl⟩ | ⟨rfl, rfl⟩ | ⟨rfl, rfl⟩ | ⟨rfl, rfl⟩
    · obtain ⟨a0, t0, rfl, h0⟩ := Rd.len_cons (k := 3) ht; obtain ⟨a1, t1, rfl, h1⟩ := Rd.len_cons (k := 2) h0; obtain ⟨a2, t2, rfl, h2⟩ := Rd.len_cons (k := 1) h1; obtain ⟨a3, t3, rfl, h3⟩ := Rd.len_cons (k := 0) h2; obtain rfl := List.eq_nil_of_length_eq_zero h3
      exact Rd.ex1_4 a0 a1 a2 a3 b hb
    · obtain ⟨a0, t0, rfl, h0⟩ := Rd.len_cons (k := 4) ht; obtain ⟨a1, t1, rfl, h1⟩ := Rd.len_cons (k := 3) h0; obtain ⟨a2, t2, rfl, h2⟩ := Rd.len_cons (k := 2) h1; obtain ⟨a3, t3, rfl, h3⟩ := Rd.len_cons (k := 1) h2; obtain ⟨a4, t4, rfl, h4⟩ := Rd.len_cons (k := 0) h3; obtain rfl := List.eq_nil_of_length_eq_zero h4
      exact Rd.ex1_5 a0 a1 a2 a3 a4 b hb
    · obtain ⟨a0, t0, rfl, h0⟩ := Rd.len_cons (k := 5) ht; obtain ⟨a1, t1, rfl, h1⟩ := Rd.len_cons (k := 4) h0; obtain ⟨a2, t2, rfl, h2⟩ := Rd.len_cons (k := 3) h1; obtain ⟨a3, t3, rfl, h3⟩ := Rd.len_cons (k := 2) h2; obtain ⟨a4, t4, rfl, h4⟩ := Rd.len_cons (k := 1) h3; obtain ⟨a5, t5, rfl, h5⟩ := Rd.len_cons (k := 0) h4; obtain rfl := List.eq_nil_of_length_eq_zero h5
      exact Rd.ex1_6 a0 a1 a2 a3 a4 a5 b hb
    · obtain ⟨a0, t0, rfl, h0⟩ := Rd.len_cons (k := 6) ht; obtain ⟨a1, t1, rfl, h1⟩ := Rd.len_cons (k := 5) h0; obtain ⟨a2, t2, rfl, h2⟩ := Rd.len_cons (k := 4) h1; obtain ⟨a3, t3, rfl, h3⟩ := Rd.len_cons (k := 3) h2; obtain ⟨a4, t4, rfl, h4⟩ := Rd.len_cons (k := 2) h3; obtain ⟨a5, t5, rfl, h5⟩ := Rd.len_cons (k := 1) h4; obtain ⟨a6, t6, rfl, h6⟩ := Rd.len_cons (k := 0) h5; obtain rfl := List.eq_nil_of_length_eq_zero h6
      exact Rd.ex1_7 a0 a1 a2 a3 a4 a5 a6 b hb
    · obtain ⟨a0, t0, rfl, h0⟩ := Rd.len_cons (k := 7) ht; obtain ⟨a1, t1, rfl, h1⟩ := Rd.len_cons (k := 6) h0; obtain ⟨a2, t2, rfl, h2⟩ := Rd.len_cons (k := 5) h1; obtain ⟨a3, t3, rfl, h3⟩ := Rd.len_cons (k := 4) h2; obtain ⟨a4, t4, rfl, h4⟩ := Rd.len_cons (k := 3) h3; obtain ⟨a5, t5, rfl, h5⟩ := Rd.len_cons (k := 2) h4; obtain ⟨a6, t6, rfl, h6⟩ := Rd.len_cons (k := 1) h5; obtain ⟨a7, t7, rfl, h7⟩ := Rd.len_cons (k := 0) h6; obtain rfl := List.eq_nil_of_length_eq_zero h7
      exact Rd.ex1_8 a0 a1 a2 a3 a4 a5 a6 a7 b hb
    · obtain ⟨a0, t0, rfl, h0⟩ := Rd.len_cons (k := 8) ht; obtain ⟨a1, t1, rfl, h1⟩ := Rd.len_cons (k := 7) h0; obtain ⟨a2, t2, rfl, h2⟩ := Rd.len_cons (k := 6) h1; obtain ⟨a3, t3, rfl, h3⟩ := Rd.len_cons (k := 5) h2; obtain ⟨a4, t4, rfl, h4⟩ := Rd.len_cons (k := 4) h3; obtain ⟨a5, t5, rfl, h5⟩ := Rd.len_cons (k := 3) h4; obtain ⟨a6, t6, rfl, h6⟩ := Rd.len_cons (k := 2) h5; obtain ⟨a7, t7, rfl, h7⟩ := Rd.len_cons (k := 1) h6; obtain ⟨a8, t8, rfl, h8⟩ := Rd.len_cons (k := 0) h7; obtain rfl := List.eq_nil_of_length_eq_zero h8
      exact Rd.ex1_9 a0 a1 a2 a3 a4 a5 a6 a7 a8 b hb
    · obtain ⟨a0, t0, rfl, h0⟩ := Rd.len_cons (k := 3) ht; obtain ⟨a1, t1, rfl, h1⟩ := Rd.len_cons (k := 2) h0; obtain ⟨a2, t2, rfl, h2⟩ := Rd.len_cons (k := 1) h1; obtain ⟨a3, t3, rfl, h3⟩ := Rd.len_cons (k := 0) h2; obtain rfl := List.eq_nil_of_length_eq_zero h3
      exact Rd.ex4_1 a0 a1 a2 a3 b hb
    · obtain ⟨a0, t0, rfl, h0⟩ := Rd.len_cons (k := 4) ht; obtain ⟨a1, t1, rfl, h1⟩ := Rd.len_cons (k := 3) h0; obtain ⟨a2, t2, rfl, h2⟩ := Rd.len_cons (k := 2) h1; obtain ⟨a3, t3, rfl, h3⟩ := Rd.len_cons (k := 1) h2; obtain ⟨a4, t4, rfl, h4⟩ := Rd.len_cons (k := 0) h3; obtain rfl := List.eq_nil_of_length_eq_zero h4
      exact Rd.ex5_1 a0 a1 a2 a3 a4 b hb
    · obtain ⟨a0, t0, rfl, h0⟩ := Rd.len_cons (k := 5) ht; obtain ⟨a1, t1, rfl, h1⟩ := Rd.len_cons (k := 4) h0; obtain ⟨a2, t2, rfl, h2⟩ := Rd.len_cons (k := 3) h1; obtain ⟨a3, t3, rfl, h3⟩ := Rd.len_cons (k := 2) h2; obtain ⟨a4, t4, rfl, h4⟩ := Rd.len_cons (k := 1) h3; obtain ⟨a5, t5, rfl, h5⟩ := Rd.len_cons (k := 0) h4; obtain rfl := List.eq_nil_of_length_eq_zero h5
      exact Rd.ex6_1 a0 a1 a2 a3 a4 a5 b hb
    · obtain ⟨a0, t0, rfl, h0⟩ := Rd.len_cons (k := 6) ht; obtain ⟨a1, t1, rfl, h1⟩ := Rd.len_cons (k := 5) h0; obtain ⟨a2, t2, rfl, h2⟩ := Rd.len_cons (k := 4) h1; obtain ⟨a3, t3, rfl, h3⟩ := Rd.len_cons (k := 3) h2; obtain ⟨a4, t4, rfl, h4⟩ := Rd.len_cons (k := 2) h3; obtain ⟨a5, t5, rfl, h5⟩ := Rd.len_cons (k := 1) h4; obtain ⟨a6, t6, rfl, h6⟩ := Rd.len_cons (k := 0) h5; obtain rfl := List.eq_nil_of_length_eq_zero h6
      exact Rd.ex7_1 a0 a1 a2 a3 a4 a5 a6 b hb
    · obtain ⟨a0, t0, rfl, h0⟩ := Rd.len_cons (k := 7) ht; obtain ⟨a1, t1, rfl, h1⟩ := Rd.len_cons (k := 6) h0; obtain ⟨a2, t2, rfl, h2⟩ := Rd.len_cons (k := 5) h1; obtain ⟨a3, t3, rfl, h3⟩ := Rd.len_cons (k := 4) h2; obtain ⟨a4, t4, rfl, h4⟩ := Rd.len_cons (k := 3) h3; obtain ⟨a5, t5, rfl, h5⟩ := Rd.len_cons (k := 2) h4; obtain ⟨a6, t6, rfl, h6⟩ := Rd.len_cons (k := 1) h5; obtain ⟨a7, t7, rfl, h7⟩ := Rd.len_cons (k := 0) h6; obtain rfl := List.eq_nil_of_length_eq_zero h7
      exact Rd.ex8_1 a0 a1 a2 a3 a4 a5 a6 a7 b hb
    · obtain ⟨a0, t0, rfl, h0⟩ := Rd.len_cons (k := 8) ht; obtain ⟨a1, t1, rfl, h1⟩ := Rd.len_cons (k := 7) h0; obtain ⟨a2, t2, rfl, h2⟩ := Rd.len_cons (k := 6) h1; obtain ⟨a3, t3, rfl, h3⟩ := Rd.len_cons (k := 5) h2; obtain ⟨a4, t4, rfl, h4⟩ := Rd.len_cons (k := 4) h3; obtain ⟨a5, t5, rfl, h5⟩ := Rd.len_cons (k := 3) h4; obtain ⟨a6, t6, rfl, h6⟩ := Rd.len_cons (k := 2) h5; obtain ⟨a7, t7, rfl, h7⟩ := Rd.len_cons (k := 1) h6; obtain ⟨a8, t8, rfl, h8⟩ := Rd.len_cons (k := 0) h7; obtain rfl := List.eq_nil_of_length_eq_zero h8
      exact Rd.ex9_1 a0 a1 a2 a3 a4 a5 a6 a7 a8 b hb
    · obtain ⟨a0, t0, rfl, h0⟩ := Rd.len_cons (k := 7) ht; obtain ⟨a1, t1, rfl, h1⟩ := Rd.len_cons (k := 6) h0; obtain ⟨a2, t2, rfl, h2⟩ := Rd.len_cons (k := 5) h1; obtain ⟨a3, t3, rfl, h3⟩ := Rd.len_cons (k := 4) h2; obtain ⟨a4, t4, rfl, h4⟩ := Rd.len_cons (k := 3) h3; obtain ⟨a5, t5, rfl, h5⟩ := Rd.len_cons (k := 2) h4; obtain ⟨a6, t6, rfl, h6⟩ := Rd.len_cons (k := 1) h5; obtain ⟨a7, t7, rfl, h7⟩ := Rd.len_cons (k := 0) h6; obtain rfl := List.eq_nil_of_length_eq_zero h7
      exact Rd.ex2_4 a0 a1 a2 a3 a4 a5 a6 a7 b hb
    · obtain ⟨a0, t0, rfl, h0⟩ := Rd.len_cons (k := 7) ht; obtain ⟨a1, t1, rfl, h1⟩ := Rd.len_cons (k := 6) h0; obtain ⟨a2, t2, rfl, h2⟩ := Rd.len_cons (k := 5) h1; obtain ⟨a3, t3, rfl, h3⟩ := Rd.len_cons (k := 4) h2; obtain ⟨a4, t4, rfl, h4⟩ := Rd.len_cons (k := 3) h3; obtain ⟨a5, t5, rfl, h5⟩ := Rd.len_cons (k := 2) h4; obtain ⟨a6, t6, rfl, h6⟩ := Rd.len_cons (k := 1) h5; obtain ⟨a7, t7, rfl, h7⟩ := Rd.len_cons (k := 0) h6; obtain rfl := List.eq_nil_of_length_eq_zero h7
      exact Rd.ex4_2 a0 a1 a2 a3 a4 a5 a6 a7 b hb
end Go.Proofs.Ytgclljmchdlbeaa
