/- Cells: what is right of valid views: numbered, View, sizes, Published; whether a list has a number. -/
import Derived.Test.YtojeendofpallaaCb
import Derived.Test.YtojeendofpallaaOpm
namespace Go.Proofs.Ytojeendofpallaa
open Go.RowKit
/-- a view by value, that is valid for a list of sizes -/
structure Vw (w : World) (v : Value) (ss : List Int) (vs : List (List Int)) : Prop where
  ex : ∃ A n c, v = .agg #[.slice A n c] ∧ NumRows w .i64 w.heap.size A n c vs
  ok : Ce.View ss vs
theorem Vw.keep {w w' : World} {v : Value} {ss : List Int} {vs : List (List Int)} (h : Vw w v ss vs) (hb : Below w.heap.size w w') : Vw w' v ss vs := by
  obtain ⟨⟨A, n, c, rfl, hn⟩, hs⟩ := h
  exact ⟨⟨A, n, c, rfl, hn.keep hb hb.size⟩, hs⟩
theorem NumRows.row {w : World} {k : IntKind} {B : Nat} {A : Option Addr} {n c : Nat} {ls : List (List Int)} (h : NumRows w k B A n c ls) {j : Nat} (hj : j < n) :
    ∃ ad Aj nj cj, A = some ad ∧ ad.block < B ∧ w.cell? (ad.add j) = some (.slice Aj nj cj) ∧ Nums w k B Aj nj cj (ls.getD j []) := by
  obtain ⟨ad, rfl, hlt, hc⟩ := h.cells (by omega)
  obtain ⟨Aj, nj, cj, h1, h2⟩ := hc j hj
  exact ⟨ad, Aj, nj, cj, rfl, hlt, h1, h2⟩
set_option maxHeartbeats 400000 in
theorem numbered28 (A : Option Addr) (n c : Nat) (l : List Int) (B : Nat) (w : World) (h : Nums w .i64 B A n c l) (hs : Ce.Numbered l) :
    Calls Try.prog 79 #[.slice A n c] w fun e w' => e = .returned (.bool true) ∧ w = w' := by
  have hm : n ≤ 9223372036854775807 := by have := h.cap; have := h.max; unfold maxLen at this; omega
  have H := Lib.hid h
  have HS := Lib.hid hs
  have HL := Lib.hid h.len
  clear h hs
  go_enter Try.func79, Try.ntmps79
  go_wp2_with fail
  go_loop [3, 8] (fun q i => ∃ j : Nat, j ≤ n ∧ i = .int .i64 j ∧ q = .int .i64 (Ce.nextN l j)) (fun _ i => n - (intOf i).toNat)
  case atStart => exact ⟨0, by omega, rfl, rfl⟩
  case round =>
    obtain ⟨j, hj, rfl, rfl⟩ := hrel
    have y0 := Ce.nextN_nonneg l j
    have y1 := Ce.nextN_le l j
    by_cases hlt : j < n
    · obtain ⟨ad, x, rfl, _, HX, hx, hwx⟩ := H.out.val hlt
      have x0 := HS.out.lo j (by rw [HL.out]; exact hlt)
      have x1 := HS.out.hi j (by rw [HL.out]; exact hlt)
      rw [HX.out.1] at x0 x1
      have e2 : Ce.nextN l (j + 1) = if x = Ce.nextN l j then Ce.nextN l j + 1 else Ce.nextN l j := by show (if l.getD j 0 = Ce.nextN l j then _ else _) = _; rw [HX.out.1]
      have HE := Lib.hid e2
      clear e2
      generalize Ce.nextN l j = p at *
      have g1 : decide (x < -1) = false := by simp; omega
      have g2 : decide (p < x) = false := by simp; omega
      by_cases he : x = p
      · have g3 : (x == p) = true := by simpa using he
        have HQ := Lib.hid he
        clear he
        go_wp2_with fail
        go_round
        case rel => exact ⟨j + 1, by omega, by go_num, by rw [HE.out, if_pos HQ.out]⟩
        case measure => simp [intOf]; omega
      · have g3 : (x == p) = false := by simpa using he
        have HQ := Lib.hid he
        clear he
        go_wp2_with fail
        go_round
        case rel => exact ⟨j + 1, by omega, by go_num, by rw [HE.out, if_neg HQ.out]⟩
        case measure => simp [intOf]; omega
    · obtain rfl : j = n := by omega
      have g1 : decide (0 < Ce.nextN l j) = true := by have := HS.out.some; unfold Ce.groups at this; rw [HL.out] at this; simp; omega
      go_wp2_with fail
      go_ret
      exact ⟨rfl, rfl⟩
set_option maxHeartbeats 400000 in
theorem max28 (A : Option Addr) (n c : Nat) (l : List Int) (B : Nat) (w : World) (h : Nums w .i64 B A n c l) (hs : Ce.Numbered l) :
    Calls Try.prog 82 #[.slice A n c] w fun e w' => e = .returned (.int .i64 (Ce.groups l - 1)) ∧ w = w' := by
  have hm : n ≤ 9223372036854775807 := by have := h.cap; have := h.max; unfold maxLen at this; omega
  have H := Lib.hid h
  have HS := Lib.hid hs
  have HL := Lib.hid h.len
  have h1 : 1 ≤ n := by
    have a := hs.some
    have b := Ce.nextN_le l l.length
    unfold Ce.groups at a
    have := h.len
    omega
  obtain ⟨ad, x, rfl, _, HX, hx, hwx⟩ := h.val (show 0 < n by omega)
  rw [show ad.add 0 = ad from by simp [Addr.add]] at hx
  have d0 : decide ((n : Int) < 1) = false := by simp; omega
  have d1 : decide ((0 : Int) < n) = true := by simp; omega
  have d2 : (0 : Int) < n := by omega
  clear h hs
  go_enter Try.func82, Try.ntmps82
  go_wp2_with fail
  go_loop [3, 4] (fun q i => ∃ j : Nat, 1 ≤ j ∧ j ≤ n ∧ i = .int .i64 j ∧ q = .int .i64 (Ce.grpN l j - 1)) (fun _ i => n - (intOf i).toNat)
  case atStart =>
    have x0 := HS.out.lo 0 (by rw [HL.out]; exact h1)
    rw [HX.out.1] at x0
    refine ⟨1, by omega, h1, rfl, ?_⟩
    have : Ce.grpN l 1 = max 0 (x + 1) := by show max 0 (l.getD 0 0 + 1) = _; rw [HX.out.1]
    rw [this]; congr 1; omega
  case round =>
    obtain ⟨j, hj1, hj, rfl, rfl⟩ := hrel
    clear hx hwx
    have z0 := Ce.nextN_nonneg l j
    have z1 := Ce.nextN_le l j
    rw [← HS.out.grp j (by rw [HL.out]; exact hj)] at z0 z1
    by_cases hlt : j < n
    · obtain ⟨ad', y, e9, _, HY, hy, hwy⟩ := H.out.val hlt
      obtain rfl : ad = ad' := by injection e9
      have y0 := HS.out.lo j (by rw [HL.out]; exact hlt)
      have y1 := HS.out.hi j (by rw [HL.out]; exact hlt)
      rw [← HS.out.grp j (by rw [HL.out]; exact hj)] at y1
      rw [HY.out.1] at y0 y1
      have e2 : Ce.grpN l (j + 1) = max (Ce.grpN l j) (y + 1) := by show max (Ce.grpN l j) (l.getD j 0 + 1) = _; rw [HY.out.1]
      have HE := Lib.hid e2
      clear e2 e9
      generalize Ce.grpN l j = p at *
      go_wp2_with fail
      all_goals go_round
      all_goals first | (case rel => exact ⟨j + 1, by omega, by omega, by go_num, by rw [HE.out]; congr 1; omega⟩) | skip
      all_goals (case measure => simp [intOf]; omega)
    · obtain rfl : j = n := by omega
      go_wp2_with fail
      go_ret
      refine ⟨ret_int ?_, rfl⟩
      rw [HS.out.grp j (by rw [HL.out]; exact Nat.le_refl _)]
      unfold Ce.groups
      rw [HL.out]
set_option maxHeartbeats 400000 in
theorem index89 (A : Option Addr) (n c : Nat) (l : List Int) (k : Int) (B : Nat) (w : World) (h : Nums w .i64 B A n c l) :
    Calls Try.prog 89 #[.slice A n c, .int .i64 k] w fun e w' => ∃ i : Int, e = .returned (.int .i64 i) ∧ Hid (0 ≤ i ↔ k ∈ l) ∧ w = w' := by
  have hm : n ≤ 9223372036854775807 := by have := h.cap; have := h.max; unfold maxLen at this; omega
  have H := Lib.hid h
  have HL := Lib.hid h.len
  clear h
  go_enter Try.func89, Try.ntmps89
  go_wp2_with fail
  go_loop [8] (fun i => ∃ j : Nat, j ≤ n ∧ i = .int .i64 j ∧ Hid (k ∉ l.take j)) (fun i => n - (intOf i).toNat)
  case atStart => exact ⟨0, by omega, rfl, Lib.hid (by simp)⟩
  case round =>
    obtain ⟨j, hj, rfl, HN⟩ := hrel
    by_cases hlt : j < n
    · obtain ⟨ad, x, rfl, _, HX, hx, _⟩ := H.out.val hlt
      by_cases he : x = k
      · have hb : (k == x) = true := by simp [he]
        have hb' : (x == k) = true := by simp [he]
        have HE := Lib.hid he
        clear he
        go_wp2_with fail
        go_ret
        have := getD_mem HX.out
        rw [HE.out] at this
        exact ⟨j, rfl, ⟨fun _ => this, fun _ => by omega⟩, rfl⟩
      · have hb : (k == x) = false := by simp; exact fun e => he e.symm
        have hb' : (x == k) = false := by simpa using he
        have HE := Lib.hid he
        clear he
        go_wp2_with fail
        go_round
        case rel => exact ⟨j + 1, by omega, by go_num, Lib.hid fun e => ((mem_take_succ HX.out).1 e).elim HN.out fun e => HE.out e.symm⟩
        case measure => simp [intOf]; omega
    · obtain rfl : j = n := by omega
      go_wp2_with fail
      go_ret
      have := HN.out
      rw [take_len HL.out] at this
      exact ⟨-1, rfl, ⟨fun h => absurd h (by omega), fun h => absurd h this⟩, rfl⟩
theorem contains80 (A : Option Addr) (n c : Nat) (l : List Int) (k : Int) (B : Nat) (w : World) (h : Nums w .i64 B A n c l) :
    Calls Try.prog 80 #[.slice A n c, .int .i64 k] w fun e w' => e = .returned (.bool (decide (k ∈ l))) ∧ w = w' := by
  go_enter Try.func80, Try.ntmps80
  go_wp2_with fail
  refine (index89 A n c l k B w h).mono ?_; rintro e w1 ⟨i, rfl, HI, rfl⟩
  clear h
  go_wp2_with fail
  go_ret
  exact ⟨retb (by rw [Bool.eq_iff_iff, decide_eq_true_iff, decide_eq_true_iff]; exact HI.out), rfl⟩
end Go.Proofs.Ytojeendofpallaa
