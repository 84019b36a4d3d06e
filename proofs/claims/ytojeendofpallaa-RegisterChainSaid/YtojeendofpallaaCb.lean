/- Cells: what is right of valid spaces: Check, Count, Index, At; and the reference's. -/
import Derived.Test.YtojeendofpallaaCa
namespace Go.Proofs.Ytojeendofpallaa
open Go.RowKit
/-- a space by value, of a valid list of sizes -/
structure Sp (w : World) (v : Value) (ss : List Int) : Prop where
  ex : ∃ A n c, v = .agg #[.slice A n c] ∧ Nums w .i64 w.heap.size A n c ss
  ok : Ce.Space ss
theorem Sp.keep {w w' : World} {v : Value} {ss : List Int} (h : Sp w v ss) (hb : Below w.heap.size w w') : Sp w' v ss := by
  obtain ⟨⟨A, n, c, rfl, hn⟩, hs⟩ := h
  exact ⟨⟨A, n, c, rfl, hn.keep hb hb.size⟩, hs⟩
/-- the box of a space -/
theorem sp_box (w : World) (A : Option Addr) (n c : Nat) (ss : List Int) (h : Nums w .i64 w.heap.size A n c ss) (hs : Ce.Space ss) :
    ∃ W : World, w.alloc (.cells #[.slice A n c] 24) = W ∧ W.cell? ⟨w.heap.size, 0, none⟩ = some (.slice A n c) ∧ Hid (Nums W .i64 w.heap.size A n c ss) ∧ Hid (Below w.heap.size w W) ∧ n ≤ 4 ∧ Hid (ss.length = n) ∧ Hid (1 ≤ n) ∧ Hid (W.heap.size = w.heap.size + 1) := by
  have hb : Below w.heap.size w (w.alloc (.cells #[.slice A n c] 24)) := (Below.refl _ _).alloc (Nat.le_refl _) _
  exact ⟨_, rfl, by simp [go_sem], h.keep hb (Nat.le_refl _), hb, by rw [← h.len]; exact hs.few, h.len, by show 1 ≤ n; rw [← h.len]; exact hs.pos, by show (w.alloc _).heap.size = _; simp⟩
set_option maxHeartbeats 400000 in
theorem check28 (v : Value) (ss : List Int) (w : World) (h : Sp w v ss) :
    Calls Try.prog 23 #[v] w fun e w' => e = .returned (.int .i64 0) ∧ Below w.heap.size w w' := by
  obtain ⟨⟨A, n, c, rfl, hn⟩, hs⟩ := h
  obtain ⟨W, hW, k0, H, HB, hm, HL, H1, _⟩ := sp_box w A n c ss hn hs
  have HS := Lib.hid hs
  have d1 : ((n : Int) == 0) = false := by have := H1.out; simp; omega
  have d2 : decide ((4 : Int) < n) = false := by simp; omega
  have hbd := hs.bd (Nat.le_refl _)
  clear hs
  go_enter Try.func23, Try.ntmps23
  go_wp2_with fail
  clear hW
  go_loop [18] (fun i => ∃ j : Nat, j ≤ n ∧ i = .int .i64 j) (fun i => n - (intOf i).toNat)
  case atStart => exact ⟨0, by omega, rfl⟩
  case round =>
    obtain ⟨j, hj, rfl⟩ := hrel
    by_cases hlt : j < n
    · obtain ⟨ad, x, rfl, _, HX, hx, hwx⟩ := H.out.val hlt
      have x0 := HS.out.lo j (by rw [HL.out]; exact hlt)
      have x1 := HS.out.hi j (by rw [HL.out]; exact hlt)
      rw [HX.out.1] at x0 x1
      have g1 : decide (x < 1) = false := by simp; omega
      have g2 : decide (8 < x) = false := by simp; omega
      go_wp2_with fail
      go_round
      case rel => exact ⟨j + 1, by omega, by go_num⟩
      case measure => simp [intOf]; omega
    · obtain rfl : j = n := by omega
      go_wp2_with fail
      refine (product28 A _ c ss _ _ H.out HS.out).mono ?_; rintro e w1 ⟨rfl, rfl⟩
      have g1 : decide (48 < Ce.prodN ss ss.length) = false := by simp; omega
      go_wp2_with fail
      go_ret
      exact ⟨rfl, HB.out⟩
set_option maxHeartbeats 400000 in
theorem rcheck28 (v : Value) (ss : List Int) (w : World) (h : Sp w v ss) :
    Calls Try.prog 24 #[v] w fun e w' => e = .returned (.int .i64 0) ∧ Below w.heap.size w w' := by
  obtain ⟨⟨A, n, c, rfl, hn⟩, hs⟩ := h
  obtain ⟨W, hW, k0, H, HB, hm, HL, H1, _⟩ := sp_box w A n c ss hn hs
  have HS := Lib.hid hs
  have d1 : decide ((n : Int) < 1) = false := by have := H1.out; simp; omega
  have d2 : decide ((4 : Int) < n) = false := by simp; omega
  have hbd := hs.bd (Nat.le_refl _)
  clear hs
  go_enter Try.func24, Try.ntmps24
  go_wp2_with fail
  clear hW
  go_loop [3, 19] (fun s i => ∃ j : Nat, j ≤ n ∧ i = .int .i64 j ∧ s = .int .i64 (Ce.prodN ss j)) (fun _ i => n - (intOf i).toNat)
  case atStart => exact ⟨0, by omega, rfl, rfl⟩
  case round =>
    obtain ⟨j, hj, rfl, rfl⟩ := hrel
    by_cases hlt : j < n
    · obtain ⟨ad, x, rfl, _, HX, hx, hwx⟩ := H.out.val hlt
      have x0 := HS.out.lo j (by rw [HL.out]; exact hlt)
      have x1 := HS.out.hi j (by rw [HL.out]; exact hlt)
      rw [HX.out.1] at x0 x1
      have g1 : decide (x < 1) = false := by simp; omega
      have g2 : decide (8 < x) = false := by simp; omega
      have b1 := HS.out.bd (j := j) (by have := HL.out; omega)
      have b2 := HS.out.bd (j := j + 1) (by have := HL.out; omega)
      have e2 : Ce.prodN ss (j + 1) = Ce.prodN ss j * x := by show Ce.prodN ss j * ss.getD j 0 = _; rw [HX.out.1]
      rw [e2] at b2
      have HE := Lib.hid e2
      clear e2
      generalize Ce.prodN ss j = p at *
      go_wp2_with fail
      go_round
      case rel => exact ⟨j + 1, by omega, by go_num, by rw [HE.out]⟩
      case measure => simp [intOf]; omega
    · obtain rfl : j = n := by omega
      have g1 : decide (48 < Ce.prodN ss j) = false := by rw [← HL.out]; simp; omega
      go_wp2_with fail
      go_ret
      exact ⟨rfl, HB.out⟩
set_option maxHeartbeats 400000 in
theorem count28 (v : Value) (ss : List Int) (w : World) (h : Sp w v ss) :
    Calls Try.prog 25 #[v] w fun e w' => e = .returned (.int .i64 (Ce.prodN ss ss.length)) ∧ Below w.heap.size w w' := by
  obtain ⟨⟨A, n, c, rfl, hn⟩, hs⟩ := h
  obtain ⟨W, hW, k0, H, HB, hm, HL, H1, _⟩ := sp_box w A n c ss hn hs
  have HS := Lib.hid hs
  clear hs hn
  go_enter Try.func25, Try.ntmps25
  go_wp2_with fail
  clear hW
  refine (check28 _ ss W ⟨⟨A, n, c, rfl, H.out.keep (Below.refl _ _) HB.out.size⟩, HS.out⟩).mono ?_; rintro e w1 ⟨rfl, hb1⟩
  have HB1 := Lib.hid hb1
  have k0 := below_cell hb1 k0
  go_wp2_with fail
  refine (product28 A n c ss _ _ ((H.out.keep (Below.refl _ _) HB.out.size).keep HB1.out HB1.out.size) HS.out).mono ?_; rintro e w2 ⟨rfl, rfl⟩
  go_wp2_with fail
  go_ret
  exact ⟨rfl, HB.out.trans (HB1.out.mono HB.out.size)⟩
set_option maxHeartbeats 400000 in
theorem rcount28 (v : Value) (ss : List Int) (w : World) (h : Sp w v ss) :
    Calls Try.prog 26 #[v] w fun e w' => e = .returned (.int .i64 (Ce.prodN ss ss.length)) ∧ Below w.heap.size w w' := by
  obtain ⟨⟨A, n, c, rfl, hn⟩, hs⟩ := h
  obtain ⟨W, hW, k0, H, HB, hm, HL, H1, _⟩ := sp_box w A n c ss hn hs
  have HS := Lib.hid hs
  clear hs hn
  go_enter Try.func26, Try.ntmps26
  go_wp2_with fail
  clear hW
  refine (rcheck28 _ ss W ⟨⟨A, n, c, rfl, H.out.keep (Below.refl _ _) HB.out.size⟩, HS.out⟩).mono ?_; rintro e w1 ⟨rfl, hb1⟩
  have HB1 := Lib.hid hb1
  have k0 := below_cell hb1 k0
  go_wp2_with fail
  go_loop [3, 12] (fun s i => ∃ j : Nat, j ≤ n ∧ i = .int .i64 j ∧ s = .int .i64 (Ce.prodN ss j)) (fun _ i => n - (intOf i).toNat)
  case atStart => exact ⟨0, by omega, rfl, rfl⟩
  case round =>
    obtain ⟨j, hj, rfl, rfl⟩ := hrel
    by_cases hlt : j < n
    · obtain ⟨ad, x, rfl, _, HX, hx, hwx⟩ := ((H.out.keep (Below.refl _ _) HB.out.size).keep HB1.out HB1.out.size).val hlt
      have x0 := HS.out.lo j (by rw [HL.out]; exact hlt)
      have x1 := HS.out.hi j (by rw [HL.out]; exact hlt)
      rw [HX.out.1] at x0 x1
      have g1 : decide (x < 1) = false := by simp; omega
      have g2 : decide (8 < x) = false := by simp; omega
      have b1 := HS.out.bd (j := j) (by have := HL.out; omega)
      have b2 := HS.out.bd (j := j + 1) (by have := HL.out; omega)
      have e2 : Ce.prodN ss (j + 1) = Ce.prodN ss j * x := by show Ce.prodN ss j * ss.getD j 0 = _; rw [HX.out.1]
      rw [e2] at b2
      have HE := Lib.hid e2
      clear e2
      generalize Ce.prodN ss j = p at *
      go_wp2_with fail
      go_round
      case rel => exact ⟨j + 1, by omega, by go_num, by rw [HE.out]⟩
      case measure => simp [intOf]; omega
    · obtain rfl : j = n := by omega
      go_wp2_with fail
      go_ret
      exact ⟨ret_int (by rw [HL.out]), HB.out.trans (HB1.out.mono HB.out.size)⟩
set_option maxHeartbeats 400000 in
theorem at28 (v : Value) (ss : List Int) (x : Int) (w : World) (h : Sp w v ss) (h0 : 0 ≤ x) (h1 : x < Ce.prodN ss ss.length) :
    Calls Try.prog 21 #[v, .int .i64 x] w fun e w' => ∃ u, e = .returned (.tuple #[u, .int .i64 0]) ∧ Own w' w.heap.size 3 .i64 u (Ce.places ss x) ∧ Below w.heap.size w w' := by
  obtain ⟨⟨A, n, c, rfl, hn⟩, hs⟩ := h
  obtain ⟨W, hW, k0, H, HB, hm, HL, H1, _⟩ := sp_box w A n c ss hn hs
  have HS := Lib.hid hs
  have hbd := hs.bd (Nat.le_refl _)
  have d1 : decide (x < 0) = false := by simp; omega
  have d2 : decide (Ce.prodN ss ss.length ≤ x) = false := by simp; omega
  clear hs hn
  go_enter Try.func21, Try.ntmps21
  go_wp2_with fail
  clear hW
  refine (check28 _ ss W ⟨⟨A, n, c, rfl, H.out.keep (Below.refl _ _) HB.out.size⟩, HS.out⟩).mono ?_; rintro e w1 ⟨rfl, hb1⟩
  have HB1 := Lib.hid hb1
  have k0 := below_cell hb1 k0
  have HN := Lib.hid ((H.out.keep (Below.refl _ _) HB.out.size).keep HB1.out HB1.out.size)
  go_wp2_with fail
  refine (product28 A n c ss _ _ HN.out HS.out).mono ?_; rintro e w2 ⟨rfl, rfl⟩
  go_wp2_with fail
  refine (places28 A n c ss x _ HN.out HS.out h0 (by omega)).mono ?_; rintro e w2 ⟨u, rfl, hown, hb2⟩
  go_wp2_with fail
  go_ret2
  exact ⟨_, rfl, hown.base_le (Nat.le_trans HB.out.size HB1.out.size), HB.out.trans ((HB1.out.trans (hb2.mono HB1.out.size)).mono HB.out.size)⟩
set_option maxHeartbeats 400000 in
theorem index28 (v : Value) (ss : List Int) (A' : Option Addr) (n' c' : Nat) (xs : List Int) (w : World) (h : Sp w v ss) (h' : Nums w .i64 w.heap.size A' n' c' xs) (hl : xs.length = ss.length) (hx : ∀ j, j < ss.length → 0 ≤ xs.getD j 0 ∧ xs.getD j 0 < ss.getD j 0) :
    Calls Try.prog 19 #[v, .slice A' n' c'] w fun e w' => e = .returned (.tuple #[.int .i64 (Ce.numN ss xs ss.length), .int .i64 0]) ∧ Below w.heap.size w w' := by
  obtain ⟨⟨A, n, c, rfl, hn⟩, hs⟩ := h
  obtain rfl : n' = n := by rw [← h'.len, hl, hn.len]
  obtain ⟨W, hW, k0, H, HB, hm, HL, H1, _⟩ := sp_box w A n' c ss hn hs
  have H' := Lib.hid (h'.keep HB.out HB.out.size)
  have HS := Lib.hid hs
  have HX0 := Lib.hid hx
  clear hs hn h' hx hl
  go_enter Try.func19, Try.ntmps19
  go_wp2_with fail
  clear hW
  refine (check28 _ ss W ⟨⟨A, n', c, rfl, H.out.keep (Below.refl _ _) HB.out.size⟩, HS.out⟩).mono ?_; rintro e w1 ⟨rfl, hb1⟩
  have HB1 := Lib.hid hb1
  have k0 := below_cell hb1 k0
  have HN := Lib.hid ((H.out.keep (Below.refl _ _) HB.out.size).keep HB1.out HB1.out.size)
  have HN' := Lib.hid (H'.out.keep HB1.out HB1.out.size)
  go_wp2_with fail
  go_loop [23] (fun i => ∃ j : Nat, j ≤ n' ∧ i = .int .i64 j) (fun i => n' - (intOf i).toNat)
  case atStart => exact ⟨0, by omega, rfl⟩
  case round =>
    obtain ⟨j, hj, rfl⟩ := hrel
    by_cases hlt : j < n'
    · obtain ⟨ad, x, rfl, _, HX, hx, hwx⟩ := HN.out.val hlt
      obtain ⟨ad', y, rfl, _, HY, hy, hwy⟩ := HN'.out.val hlt
      have y0 := HX0.out j (by rw [HL.out]; exact hlt)
      rw [HX.out.1, HY.out.1] at y0
      have g1 : decide (y < 0) = false := by simp; omega
      have g2 : decide (x ≤ y) = false := by simp; omega
      go_wp2_with fail
      go_round
      case rel => exact ⟨j + 1, by omega, by go_num⟩
      case measure => simp [intOf]; omega
    · obtain rfl : j = n' := by omega
      go_wp2_with fail
      refine (number28 A A' _ c c' ss xs _ _ _ HN.out HN'.out HS.out HX0.out).mono ?_; rintro e w2 ⟨rfl, rfl⟩
      go_wp2_with fail
      go_ret2
      exact ⟨rfl, HB.out.trans (HB1.out.mono HB.out.size)⟩
/-- lists of ints: whether two are the same -/
theorem ints28 (A A' : Option Addr) (n c n' c' : Nat) (l l' : List Int) (B B' : Nat) (w : World) (h : Nums w .i64 B A n c l) (h' : Nums w .i64 B' A' n' c' l') :
    Calls Try.prog 27 #[.slice A n c, .slice A' n' c'] w fun e w' => e = .returned (.bool (decide (l = l'))) ∧ Below w.heap.size w w' := by
  have hm : n ≤ 9223372036854775807 := by have := h.cap; have := h.max; unfold maxLen at this; omega
  have hm' : n' ≤ 9223372036854775807 := by have := h'.cap; have := h'.max; unfold maxLen at this; omega
  have H := Lib.hid h
  have HL := Lib.hid h.len
  have H' := Lib.hid h'
  have HL' := Lib.hid h'.len
  clear h h'
  by_cases hn : n = n'
  · subst hn
    go_enter Try.func27, Try.ntmps27
    go_wp2_with fail
    go_loopw [13] (fun i wr => ∃ j : Nat, j ≤ n ∧ i = .int .i64 j ∧ Hid (l.take j = l'.take j) ∧ ∃ m, wr = w.drewN m) (fun i _ => n - (intOf i).toNat)
    case atStart => exact ⟨0, by omega, rfl, Lib.hid rfl, 0, rfl⟩
    case round =>
      obtain ⟨j, hj, rfl, HN, m, rfl⟩ := hrel
      by_cases hlt : j < n
      · obtain ⟨ad, x, rfl, _, HX, hx, _⟩ := H.out.val hlt
        obtain ⟨ad', x', rfl, _, HX', hx', _⟩ := H'.out.val hlt
        by_cases he : x = x'
        · have hb : (x != x') = false := by simpa using he
          have HE := Lib.hid he
          clear he
          go_wp2_with fail
          go_quiet (fail)
          go_wp2_with fail
          go_roundw
          case rel => exact ⟨j + 1, by omega, by go_num, Lib.hid ((take_succ_eq HX.out HX'.out HN.out).2 HE.out), _, rfl⟩
          case measure => simp [intOf]; omega
        · have hb : (x != x') = true := by simpa using he
          have HE := Lib.hid he
          clear he
          go_wp2_with fail
          go_quiet (fail)
          go_wp2_with fail
          go_ret
          refine ⟨retb ?_, below_drewN (below_drewN (Below.refl _ _) _) _⟩
          have : l ≠ l' := fun e => HE.out ((take_succ_eq HX.out HX'.out HN.out).1 (by rw [e]))
          simp [this]
      · obtain rfl : j = n := by omega
        go_wp2
        go_ret
        refine ⟨retb ?_, below_drewN (Below.refl _ _) _⟩
        have := HN.out
        rw [take_len HL.out, take_len HL'.out] at this
        simp [this]
  · have hb : ((n : Int) != (n' : Int)) = true := by simp; omega
    have HE := Lib.hid hn
    clear hn
    go_enter Try.func27, Try.ntmps27
    go_wp2
    go_ret
    refine ⟨retb ?_, Below.refl _ _⟩
    have : l ≠ l' := fun e => HE.out (by rw [← HL.out, ← HL'.out, e])
    simp [this]
end Go.Proofs.Ytojeendofpallaa
