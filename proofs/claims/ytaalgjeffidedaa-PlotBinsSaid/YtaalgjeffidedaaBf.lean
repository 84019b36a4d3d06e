/- Layer 21: plot.Bins and plot.Quartiles for all numbers. -/
import Derived.Test.YtaalgjeffidedaaBe
namespace Go.Proofs.Ytaalgjeffidedaa
open Go.RowKit
def Pb.binsE (l : List Int) (wd : Int) : List (Int × Int) := if Pb.err l wd = 0 then Pb.bins (l.map (Pb.fl wd)) else []
def GivesBinsE (L : List (Int × Int)) (x : Int) (w : World) (e : Ending) (w' : World) : Prop := ∃ v, e = .returned (.tuple #[v, .int .i64 x]) ∧ Own2 w' w.heap.size 39 v L ∧ Below w.heap.size w w'
def Pb.quartE (l : List Int) : Value := if Pb.err l 1 = 0 then Pb.quart l else .tuple #[.agg #[.int .i64 0, .int .i64 0, .int .i64 0, .int .i64 0, .int .i64 0, .int .i64 0], .int .i64 (Pb.err l 1)]
theorem Pb.err_cases (l : List Int) (wd : Int) : (200 < l.length ∧ Pb.err l wd = 1) ∨ (l.length ≤ 200 ∧ wd < 1 ∧ Pb.err l wd = 2) ∨ (l.length ≤ 200 ∧ 1 ≤ wd ∧ 1000000 < wd ∧ Pb.err l wd = 2) ∨ (l.length ≤ 200 ∧ 1 ≤ wd ∧ wd ≤ 1000000 ∧ l.any Pb.out = true ∧ Pb.err l wd = 2) ∨ (l.length ≤ 200 ∧ 1 ≤ wd ∧ wd ≤ 1000000 ∧ l.any Pb.out = false ∧ Pb.err l wd = 0) := by
  unfold Pb.err
  by_cases h0 : 200 < l.length
  · exact .inl ⟨h0, if_pos h0⟩
  · rw [if_neg h0]
    by_cases h1 : wd < 1
    · exact .inr (.inl ⟨by omega, h1, if_pos (.inl h1)⟩)
    · by_cases h2 : 1000000 < wd
      · exact .inr (.inr (.inl ⟨by omega, by omega, h2, if_pos (.inr (.inl h2))⟩))
      · rcases ho : l.any Pb.out with _ | _
        · exact .inr (.inr (.inr (.inr ⟨by omega, by omega, by omega, rfl, by rw [if_neg]; simp; omega⟩)))
        · exact .inr (.inr (.inr (.inl ⟨by omega, by omega, by omega, rfl, by rw [if_pos (.inr (.inr rfl))]⟩)))
set_option maxHeartbeats 800000 in
theorem bins_all (A : Option Addr) (n c : Nat) (l : List Int) (wd : Int) (w : World) (h : Nums w .i64 w.heap.size A n c l) :
    Calls Try.prog 10 #[.slice A n c, .int .i64 wd] w (GivesBinsE (Pb.binsE l wd) (Pb.err l wd) w) := by
  have hl := h.len
  have hm : n ≤ 9223372036854775807 := by have := h.cap; have := h.max; unfold maxLen at this; omega
  rcases Pb.err_cases l wd with ⟨a, e⟩ | ⟨a, b, e⟩ | ⟨a, b, d, e⟩ | ⟨a, b, d, o, e⟩ | ⟨a, b, d, o, e⟩
  · have HB := Lib.hid (show Pb.binsE l wd = [] by unfold Pb.binsE; rw [e]; rfl)
    have HE := Lib.hid e
    have g1 : decide (200 < (n : Int)) = true := by simp; omega
    clear a e h hl
    go_enter Try.func10, Try.ntmps10
    go_wp2_with fail
    go_ret2
    exact ⟨.slice none 0 0, by rw [HE.out]; rfl, by rw [HB.out]; exact Own2.nil _ _ _, Below.refl _ _⟩
  · have HB := Lib.hid (show Pb.binsE l wd = [] by unfold Pb.binsE; rw [e]; rfl)
    have HE := Lib.hid e
    have g1 : decide (200 < (n : Int)) = false := by simp; omega
    have g2 : decide (wd < 1) = true := by simpa using b
    clear a b e h hl
    go_enter Try.func10, Try.ntmps10
    go_wp2_with fail
    go_ret2
    exact ⟨.slice none 0 0, by rw [HE.out]; rfl, by rw [HB.out]; exact Own2.nil _ _ _, Below.refl _ _⟩
  · have HB := Lib.hid (show Pb.binsE l wd = [] by unfold Pb.binsE; rw [e]; rfl)
    have HE := Lib.hid e
    have g1 : decide (200 < (n : Int)) = false := by simp; omega
    have g2 : decide (wd < 1) = false := by simp; omega
    have g3 : decide (1000000 < wd) = true := by simpa using d
    clear a b d e h hl
    go_enter Try.func10, Try.ntmps10
    go_wp2_with fail
    go_ret2
    exact ⟨.slice none 0 0, by rw [HE.out]; rfl, by rw [HB.out]; exact Own2.nil _ _ _, Below.refl _ _⟩
  · have HB := Lib.hid (show Pb.binsE l wd = [] by unfold Pb.binsE; rw [e]; rfl)
    have HE := Lib.hid e
    have HO := Lib.hid o
    have H := Lib.hid h
    have g1 : decide (200 < (n : Int)) = false := by simp; omega
    have g2 : decide (wd < 1) = false := by simp; omega
    have g3 : decide (1000000 < wd) = false := by simp; omega
    clear a b d e o h hl
    go_enter Try.func10, Try.ntmps10
    go_wp2_with fail
    refine (contains_out A n c l _ w H.out).mono ?_; rintro e w1 ⟨rfl, rfl⟩
    rw [HO.out]
    go_wp2_with fail
    go_ret2
    exact ⟨.slice none 0 0, by rw [HE.out]; rfl, by rw [HB.out]; exact Own2.nil _ _ _, Below.refl _ _⟩
  · refine (bins21 A n c l wd w h (by omega) b d o).mono ?_; rintro e' w1 ⟨v, rfl, hown, hb⟩
    exact ⟨v, by rw [e], by unfold Pb.binsE; rw [e]; exact hown, hb⟩
set_option maxHeartbeats 800000 in
theorem quart_all (A : Option Addr) (n c : Nat) (l : List Int) (w : World) (h : Nums w .i64 w.heap.size A n c l) :
    Calls Try.prog 13 #[.slice A n c] w fun e w' => e = .returned (Pb.quartE l) ∧ Below w.heap.size w w' := by
  have hl := h.len
  have hm : n ≤ 9223372036854775807 := by have := h.cap; have := h.max; unfold maxLen at this; omega
  have hbz : Below w.heap.size w (w.alloc (.cells #[.int .i64 0, .int .i64 0, .int .i64 0, .int .i64 0, .int .i64 0, .int .i64 0] 34)) := (Below.refl _ _).alloc (Nat.le_refl _) _
  rcases Pb.err_cases l 1 with ⟨a, e⟩ | ⟨a, b, e⟩ | ⟨a, b, d, e⟩ | ⟨a, b, d, o, e⟩ | ⟨a, b, d, o, e⟩
  · have HB := Lib.hid (show Pb.quartE l = .tuple #[.agg #[.int .i64 0, .int .i64 0, .int .i64 0, .int .i64 0, .int .i64 0, .int .i64 0], .int .i64 1] by unfold Pb.quartE; rw [e]; rfl)
    have g1 : decide (200 < (n : Int)) = true := by simp; omega
    clear a e h hl hbz
    go_enter Try.func13, Try.ntmps13
    go_wp2_with fail
    refine bodyPost_ret (v := Pb.quartE l) (by simp [HB.out, results, Try.results13, go_sem]) rfl ⟨rfl, ?_⟩
    first | exact (Below.refl _ _).alloc (Nat.le_refl _) _ | exact ((Below.refl _ _).alloc (Nat.le_refl _) _).setCell (Nat.le_refl _) _
  · exact absurd b (by decide)
  · exact absurd d (by decide)
  · have HB := Lib.hid (show Pb.quartE l = .tuple #[.agg #[.int .i64 0, .int .i64 0, .int .i64 0, .int .i64 0, .int .i64 0, .int .i64 0], .int .i64 2] by unfold Pb.quartE; rw [e]; rfl)
    have HO := Lib.hid o
    have HW := Lib.hid (h.keep hbz hbz.size)
    have g1 : decide (200 < (n : Int)) = false := by simp; omega
    clear a b d e o h hl hbz
    go_enter Try.func13, Try.ntmps13
    go_wp2_with fail
    refine (contains_out A n c l _ _ HW.out).mono ?_; rintro e w1 ⟨rfl, rfl⟩
    rw [HO.out]
    go_wp2_with fail
    refine bodyPost_ret (v := Pb.quartE l) (by simp [HB.out, results, Try.results13, go_sem]) rfl ⟨rfl, ?_⟩
    first | exact (Below.refl _ _).alloc (Nat.le_refl _) _ | exact ((Below.refl _ _).alloc (Nat.le_refl _) _).setCell (Nat.le_refl _) _
  · refine (quart21 A n c l w h (by omega) o).mono ?_; rintro e' w1 ⟨rfl, hb⟩
    exact ⟨by unfold Pb.quartE; rw [e]; rfl, hb⟩
end Go.Proofs.Ytaalgjeffidedaa
