/- Layer 21: what the reference checks; the ways out of Bins and Quartiles with an error. -/
import Derived.Test.YtaalgjeffidedaaBa
import Derived.Test.YtaalgjeffidedaaPu
namespace Go.Proofs.Ytaalgjeffidedaa
open Go.RowKit
theorem mod21 (k : Int) (w : World) : Calls Try.prog 9 #[.int .i64 k, .int .i64 14] w fun e w' => e = .returned (.int .i64 (k % 14)) ∧ w = w' := by
  have hc := Pb.tmod_cases k 14 (by decide)
  have hn := Int.emod_nonneg k (show (14 : Int) ≠ 0 by decide)
  have hl := Int.emod_lt_of_pos k (show (0 : Int) < 14 by decide)
  generalize k % 14 = m at *
  generalize hr : k.tmod 14 = r at *
  rcases hc with ⟨ha, hb⟩ | ⟨ha, hb⟩
  · have HB := Lib.hid hb
    have hlo : -14 ≤ r := by omega
    clear hb
    go_enter Try.func9, Try.ntmps9
    go_wp2
    go_ret
    exact ⟨ret_int (by rw [HB.out]), rfl⟩
  · have HB := Lib.hid hb
    have hhi : r ≤ 14 := by omega
    clear hb
    go_enter Try.func9, Try.ntmps9
    go_wp2
    go_ret
    exact ⟨ret_int (by rw [HB.out]), rfl⟩
/-- the reference's Floor, of which the law asks its product with the width -/
theorem rfloor21 (v wd : Int) (w : World) (h1 : 1 ≤ wd) (h2 : wd ≤ 1000000) (h3 : -1000000 ≤ v) (h4 : v ≤ 1000000) :
    Calls Try.prog 22 #[.int .i64 v, .int .i64 wd] w fun e w' => e = .returned (.int .i64 (v / wd)) ∧ w = w' := by
  have hc := Pb.tmod_cases v wd h1
  have hn := Int.emod_nonneg v (show wd ≠ 0 by omega)
  have hl := Int.emod_lt_of_pos v (show 0 < wd by omega)
  have e1 := Int.mul_tdiv_add_tmod v wd
  have e2 := Int.mul_ediv_add_emod v wd
  have hq : (v.tmod wd < 0 ∧ v.tdiv wd = v / wd + 1) ∨ (0 ≤ v.tmod wd ∧ v.tdiv wd = v / wd) := by
    rcases hc with ⟨ha, hb⟩ | ⟨ha, hb⟩
    · left
      refine ⟨ha, ?_⟩
      have : wd * (v.tdiv wd) = wd * (v / wd + 1) := by rw [Int.mul_add, Int.mul_one]; omega
      exact Int.eq_of_mul_eq_mul_left (by omega) this
    · right
      refine ⟨ha, ?_⟩
      have : wd * (v.tdiv wd) = wd * (v / wd) := by omega
      exact Int.eq_of_mul_eq_mul_left (by omega) this
  have hd1 : -1000000 ≤ v / wd := by
    have := Int.mul_le_mul_of_nonneg_left (show (1 : Int) ≤ wd from h1) (show (0 : Int) ≤ 1000000 by decide)
    exact Int.le_ediv_of_mul_le (by omega) (by omega)
  have hd2 : v / wd ≤ 1000000 := by
    have h5 : v / wd ≤ 1000000 / wd := Int.ediv_le_ediv (by omega) h4
    have h6 : (1000000 : Int) / wd ≤ 1000000 := Int.ediv_le_self _ (by decide)
    omega
  have hwz : ¬ wd = 0 := by omega
  generalize v / wd = q at *
  generalize hr : v.tmod wd = r at *
  generalize ht : v.tdiv wd = t at *
  clear e1 e2 hc
  rcases hq with ⟨ha, hb⟩ | ⟨ha, hb⟩
  · subst hb
    go_enter Try.func22, Try.ntmps22
    go_wp2
    go_ret
    exact ⟨ret_int (by omega), rfl⟩
  · subst hb
    go_enter Try.func22, Try.ntmps22
    go_wp2
    go_ret
    exact ⟨rfl, rfl⟩
/-- the first error -/
def Pb.err (l : List Int) (wd : Int) : Int := if 200 < l.length then 1 else if wd < 1 ∨ 1000000 < wd ∨ l.any Pb.out = true then 2 else 0
set_option maxHeartbeats 400000 in
theorem rcheck21 (A : Option Addr) (n c : Nat) (l : List Int) (wd : Int) (B : Nat) (w : World) (h : Nums w .i64 B A n c l) :
    Calls Try.prog 20 #[.slice A n c, .int .i64 wd] w fun e w' => e = .returned (.int .i64 (Pb.err l wd)) ∧ w = w' := by
  have hm : n ≤ 9223372036854775807 := by have := h.cap; have := h.max; unfold maxLen at this; omega
  have H := Lib.hid h
  have HL := Lib.hid h.len
  clear h
  by_cases h200 : 200 < n
  · have HE := Lib.hid (show Pb.err l wd = 1 by unfold Pb.err; rw [HL.out, if_pos h200])
    have g1 : decide (200 < (n : Int)) = true := by simp; omega
    clear h200
    go_enter Try.func20, Try.ntmps20
    go_wp2_with fail
    go_ret
    exact ⟨ret_int HE.out.symm, rfl⟩
  · have g1 : decide (200 < (n : Int)) = false := by simp; omega
    by_cases hw : wd < 1 ∨ 1000000 < wd
    · have HE := Lib.hid (show Pb.err l wd = 2 by unfold Pb.err; rw [HL.out, if_neg h200, if_pos (by omega)])
      by_cases hw1 : wd < 1
      · have g2 : decide (wd < 1) = true := by simpa using hw1
        clear h200 hw hw1
        go_enter Try.func20, Try.ntmps20
        go_wp2_with fail
        go_ret
        exact ⟨ret_int HE.out.symm, rfl⟩
      · have g2 : decide (wd < 1) = false := by simpa using hw1
        have g3 : decide (1000000 < wd) = true := by simp; omega
        clear h200 hw hw1
        go_enter Try.func20, Try.ntmps20
        go_wp2_with fail
        go_ret
        exact ⟨ret_int HE.out.symm, rfl⟩
    · have g2 : decide (wd < 1) = false := by simp; omega
      have g3 : decide (1000000 < wd) = false := by simp; omega
      have HE := Lib.hid (show Pb.err l wd = if l.any Pb.out = true then 2 else 0 by unfold Pb.err; rw [HL.out, if_neg h200]; congr 1; rw [eq_iff_iff]; exact ⟨fun h => h.elim (fun h => absurd h (by omega)) fun h => h.elim (fun h => absurd h (by omega)) id, fun h => .inr (.inr h)⟩)
      clear h200 hw
      go_enter Try.func20, Try.ntmps20
      go_wp2_with fail
      go_loop [5] (fun i => ∃ j : Nat, j ≤ n ∧ i = .int .i64 j ∧ Hid ((l.take j).any Pb.out = false)) (fun i => n - (intOf i).toNat)
      case atStart => exact ⟨0, by omega, rfl, Lib.hid (by simp)⟩
      case round =>
        obtain ⟨j, hj, rfl, HN⟩ := hrel
        by_cases hlt : j < n
        · obtain ⟨ad, x, rfl, _, HX, hx, _⟩ := H.out.val hlt
          have HS := Lib.hid (any_take_succ Pb.out HX.out)
          by_cases h1 : x < -1000000
          · have ho : l.any Pb.out = true := List.any_eq_true.2 ⟨x, getD_mem HX.out, by simp [Pb.out, h1]⟩
            have HO := Lib.hid ho
            clear ho
            go_wp2_with fail
            go_ret
            exact ⟨ret_int (by rw [HE.out, if_pos HO.out]), rfl⟩
          · by_cases h2 : 1000000 < x
            · have ho : l.any Pb.out = true := List.any_eq_true.2 ⟨x, getD_mem HX.out, by simp [Pb.out, h2]⟩
              have HO := Lib.hid ho
              clear ho
              go_wp2_with fail
              go_ret
              exact ⟨ret_int (by rw [HE.out, if_pos HO.out]), rfl⟩
            · have HO := Lib.hid (show Pb.out x = false by simp only [Pb.out, Bool.or_eq_false_iff, decide_eq_false_iff_not]; exact ⟨h1, h2⟩)
              go_wp2_with fail
              go_round
              case rel => exact ⟨j + 1, by omega, by go_num, Lib.hid (by rw [HS.out, HN.out, HO.out]; rfl)⟩
              case measure => simp [intOf]; omega
        · obtain rfl : j = n := by omega
          have hno := HN.out
          rw [take_len HL.out] at hno
          have HNO := Lib.hid hno
          clear hno
          go_wp2_with fail
          go_ret
          exact ⟨ret_int (by rw [HE.out, if_neg (by rw [HNO.out]; simp)]), rfl⟩
end Go.Proofs.Ytaalgjeffidedaa
