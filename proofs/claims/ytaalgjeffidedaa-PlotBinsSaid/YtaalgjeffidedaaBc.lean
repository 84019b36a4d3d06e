/- plot.Bins, plot.Quartiles, and what they call. -/
import Derived.Test.YtaalgjeffidedaaSo
import Derived.Test.YtaalgjeffidedaaBl
import Derived.Test.YtaalgjeffidedaaB2
import Derived.Deep.QuietTactic
import Derived.BigQuiet
import Derived.BigGuardPart
namespace Go.Proofs.Ytaalgjeffidedaa
open Go.RowKit
def Pb.out (x : Int) : Bool := decide (x < -1000000) || decide (1000000 < x)
theorem out21 (x : Int) (w : World) : Calls Try.prog 17 #[.int .i64 x] w fun e w' => e = .returned (.bool (Pb.out x)) ∧ w = w' := by
  by_cases h : x < -1000000
  · have hr : Pb.out x = true := by simp [Pb.out, h]
    have HR := Lib.hid hr
    clear hr
    go_enter Try.func17, Try.ntmps17
    go_wp2
    go_ret
    exact ⟨retb HR.out.symm, rfl⟩
  · by_cases h2 : 1000000 < x
    · have hr : Pb.out x = true := by simp [Pb.out, h2]
      have HR := Lib.hid hr
      clear hr
      go_enter Try.func17, Try.ntmps17
      go_wp2
      go_ret
      exact ⟨retb HR.out.symm, rfl⟩
    · have hr : Pb.out x = false := by simp only [Pb.out, Bool.or_eq_false_iff, decide_eq_false_iff_not]; omega
      have HR := Lib.hid hr
      clear hr
      go_enter Try.func17, Try.ntmps17
      go_wp2
      go_ret
      exact ⟨retb HR.out.symm, rfl⟩
def GivesPlaceP (p : Int → Bool) (l : List Int) (w : World) (e : Ending) (w' : World) : Prop := ∃ i : Int, e = .returned (.int .i64 i) ∧ (0 ≤ i ↔ l.any p = true) ∧ w = w'
theorem any_take_succ (p : Int → Bool) {l : List Int} {j : Nat} {x : Int} (h : l.getD j 0 = x ∧ j < l.length) : (l.take (j + 1)).any p = ((l.take j).any p || p x) := by
  rw [take_succ_getD l j h.2, h.1, List.any_append]; simp
theorem index_out (A : Option Addr) (n c : Nat) (l : List Int) (B : Nat) (w : World) (h : Nums w .i64 B A n c l) :
    Calls Try.prog 25 #[.slice A n c, .func (.func 17) #[] #[]] w (GivesPlaceP Pb.out l w) := by
  have hm : n ≤ 9223372036854775807 := by have := h.cap; have := h.max; unfold maxLen at this; omega
  have H := Lib.hid h
  have HL := Lib.hid h.len
  clear h
  go_enter Try.func25, Try.ntmps25
  go_wp2_with fail
  go_loop [5, 8] (fun _ i => ∃ j : Nat, j ≤ n ∧ i = .int .i64 j ∧ Hid ((l.take j).any Pb.out = false)) (fun _ i => n - (intOf i).toNat)
  case atStart => exact ⟨0, by omega, rfl, Lib.hid (by simp)⟩
  case round =>
    obtain ⟨j, hj, rfl, HN⟩ := hrel
    by_cases hlt : j < n
    · obtain ⟨ad, x, rfl, _, HX, hx, _⟩ := H.out.val hlt
      have HS := Lib.hid (any_take_succ Pb.out HX.out)
      rcases ho : Pb.out x with _ | _
      · have HO := Lib.hid ho
        clear ho
        go_wp2_with fail
        refine (out21 x w).mono ?_; rintro e w1 ⟨rfl, rfl⟩
        rw [HO.out]
        go_wp2_with fail
        go_round
        case rel => exact ⟨j + 1, by omega, by go_num, Lib.hid (by rw [HS.out, HN.out, HO.out]; rfl)⟩
        case measure => simp [intOf]; omega
      · have HO := Lib.hid ho
        clear ho
        go_wp2_with fail
        refine (out21 x w).mono ?_; rintro e w1 ⟨rfl, rfl⟩
        rw [HO.out]
        go_wp2_with fail
        go_ret
        exact ⟨j, rfl, ⟨fun _ => List.any_eq_true.2 ⟨x, getD_mem HX.out, HO.out⟩, fun _ => by omega⟩, rfl⟩
    · obtain rfl : j = n := by omega
      go_wp2
      go_ret
      have := HN.out
      rw [take_len HL.out] at this
      exact ⟨-1, rfl, by rw [this]; simp, rfl⟩
theorem contains_out (A : Option Addr) (n c : Nat) (l : List Int) (B : Nat) (w : World) (h : Nums w .i64 B A n c l) :
    Calls Try.prog 16 #[.slice A n c, .func (.func 17) #[] #[]] w fun e w' => e = .returned (.bool (l.any Pb.out)) ∧ w = w' := by
  go_enter Try.func16, Try.ntmps16
  go_wp2_with fail
  refine (index_out A n c l B w h).mono ?_; rintro e w1 ⟨i, rfl, hi, rfl⟩
  have HI := Lib.hid hi
  clear hi h
  go_wp2_with fail
  go_ret
  refine ⟨retb ?_, rfl⟩
  rw [Bool.eq_iff_iff, ← HI.out]
  simp
theorem Pb.tmod_cases (v w : Int) (hw : 1 ≤ w) : (v.tmod w < 0 ∧ v % w = v.tmod w + w) ∨ (0 ≤ v.tmod w ∧ v % w = v.tmod w) := by
  have h1 := Int.emod_nonneg v (show w ≠ 0 by omega)
  have h2 := Int.emod_lt_of_pos v (show 0 < w by omega)
  rcases Int.lt_or_le v 0 with h | h
  · have e := Int.tmod_eq_emod (a := v) (b := w)
    rw [e]
    by_cases hd : 0 ≤ v ∨ w ∣ v
    · rw [if_pos hd]; right; exact ⟨by omega, by omega⟩
    · rw [if_neg hd]
      have : v % w ≠ 0 := fun h0 => hd (.inr (Int.dvd_of_emod_eq_zero h0))
      left; omega
  · right
    rw [Int.tmod_eq_emod_of_nonneg h]
    exact ⟨h1, rfl⟩
theorem floor21 (v wd : Int) (w : World) (h1 : 1 ≤ wd) (h2 : wd ≤ 1000000) (h3 : -1000000 ≤ v) (h4 : v ≤ 1000000) :
    Calls Try.prog 18 #[.int .i64 v, .int .i64 wd] w fun e w' => e = .returned (.int .i64 (Pb.fl wd v)) ∧ w = w' := by
  have hc := Pb.tmod_cases v wd h1
  have hn := Int.emod_nonneg v (show wd ≠ 0 by omega)
  have hl := Int.emod_lt_of_pos v (show 0 < wd by omega)
  have HF := Lib.hid (show Pb.fl wd v = v - v % wd from rfl)
  generalize v % wd = m at *
  generalize hr : v.tmod wd = r at *
  rcases hc with ⟨ha, hb⟩ | ⟨ha, hb⟩
  · have HB := Lib.hid hb
    have hlo : -1000000 ≤ r := by omega
    clear hb
    go_enter Try.func18, Try.ntmps18
    go_wp2
    go_ret
    exact ⟨ret_int (by rw [HF.out, HB.out]), rfl⟩
  · have HB := Lib.hid hb
    have hhi : r ≤ 1000000 := by omega
    clear hb
    go_enter Try.func18, Try.ntmps18
    go_wp2
    go_ret
    exact ⟨ret_int (by rw [HF.out, HB.out]), rfl⟩
end Go.Proofs.Ytaalgjeffidedaa
