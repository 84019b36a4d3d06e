/- Names: the reference's. -/
import Derived.Test.YtoomgbddfcmjnaaLb
import Derived.Test.YtoomgbddfcmjnaaGen
namespace Go.Proofs.Ytoomgbddfcmjnaa
open Go.RowKit
theorem Cd.name_all {s : ByteArray} (h1 : 1 ≤ s.size) (h2 : s.size ≤ 16) {x0 : Int} (hx : (Cd.str s).getD 0 0 = x0) (hl : Cd.letter x0 = true) (ha : (Cd.str s).all Cd.okb = true) : Cd.name s = !(Cd.words.contains s.toList) := by
  unfold Cd.name
  rw [hx, hl, ha]
  simp [h1, h2]
set_option maxHeartbeats 1600000 in
set_option maxRecDepth 100000 in
theorem rname01 (s : ByteArray) (w : World) : Calls Try.prog 132 #[.string s] w fun e w' => e = .returned (.bool (Cd.name s)) ∧ w = w' := by
  by_cases h0 : s.size = 0
  · have HR := Lib.hid (show Cd.name s = false by simp [Cd.name, h0])
    have g0 : decide ((s.size : Int) < 1) = true := by simp [h0]
    clear h0
    go_enter Try.func132, Try.ntmps132
    go_wp2_with fail
    go_ret
    exact ⟨congrArg (fun b => Ending.returned (.bool b)) HR.out.symm, rfl⟩
  by_cases h16 : 16 < s.size
  · have HR := Lib.hid (show Cd.name s = false by have : ¬ s.size ≤ 16 := by omega
                                                  simp [Cd.name, this])
    have g0 : decide ((s.size : Int) < 1) = false := decide_eq_false (by omega)
    have g1 : decide ((16 : Int) < (s.size : Int)) = true := decide_eq_true (by omega)
    go_enter Try.func132, Try.ntmps132
    go_wp2_with fail
    go_ret
    exact ⟨congrArg (fun b => Ending.returned (.bool b)) HR.out.symm, rfl⟩
  have g0 : decide ((s.size : Int) < 1) = false := decide_eq_false (by omega)
  have g1 : decide ((16 : Int) < (s.size : Int)) = false := decide_eq_false (by omega)
  obtain ⟨x0, HX0, hx0b, kx0⟩ := byte_at (P := Try.prog) 9 s Try.underlying9 (j := 0) (by omega)
  have kx : (Instr.index 9 (.string s) (.int .i64 0)).run Try.prog w = .ok (.int .u8 x0) w := kx0 w
  have HN := Lib.hid (show Cd.name s = (Cd.letter x0 && !(Cd.res s) && (Cd.str s).all Cd.okb) by rw [Cd.name_eq (by omega) (by omega), HX0.out.1])
  have hsz : s.size ≤ 16 := by omega
  have HS := Lib.hid (show 1 ≤ s.size ∧ s.size ≤ 16 by omega)
  clear h0 h16 kx0 hx0b
  by_cases ha : x0 < 97
  · have HR := Lib.hid (show Cd.name s = false by rw [HN.out, show Cd.letter x0 = false by simp [Cd.letter]; omega]; rfl)
    have g2 : decide (x0 < 97) = true := decide_eq_true ha
    clear ha
    go_enter Try.func132, Try.ntmps132
    go_wp2_with fail
    go_ret
    exact ⟨congrArg (fun b => Ending.returned (.bool b)) HR.out.symm, rfl⟩
  by_cases hz : 122 < x0
  · have HR := Lib.hid (show Cd.name s = false by rw [HN.out, show Cd.letter x0 = false by simp [Cd.letter]; omega]; rfl)
    have g2 : decide (x0 < 97) = false := decide_eq_false ha
    have g3 : decide (122 < x0) = true := decide_eq_true hz
    clear ha hz
    go_enter Try.func132, Try.ntmps132
    go_wp2_with fail
    go_ret
    exact ⟨congrArg (fun b => Ending.returned (.bool b)) HR.out.symm, rfl⟩
  have g2 : decide (x0 < 97) = false := decide_eq_false ha
  have g3 : decide (122 < x0) = false := decide_eq_false hz
  have HL := Lib.hid (show Cd.letter x0 = true by simp [Cd.letter]; omega)
  clear ha hz
  go_enter Try.func132, Try.ntmps132
  go_wp2_with fail
  go_loop [3] (fun i => ∃ j : Nat, j ≤ s.size ∧ i = .int .i64 j ∧ Hid (((Cd.str s).take j).all Cd.okb = true)) (fun i => s.size - (intOf i).toNat)
  case atStart => exact ⟨0, by omega, rfl, by show ((Cd.str s).take 0).all Cd.okb = true; simp⟩
  case round =>
    obtain ⟨j, hj, rfl, HI⟩ := hrel
    by_cases hlt : j < s.size
    · obtain ⟨x, HX, hxb, kx0⟩ := byte_at (P := Try.prog) 9 s Try.underlying9 hlt
      have kx := kx0 w
      have HT := Lib.hid (Cd.all_take HX.out Cd.okb)
      have HBAD := Lib.hid (show Cd.okb x = false → (Cd.str s).all Cd.okb = false from Cd.all_bad HX.out)
      clear kx0
      rcases hok : Cd.okb x with _ | _
      · have HR := Lib.hid (show Cd.name s = false by rw [HN.out, HBAD.out hok]; simp)
        have hokN : ¬ (97 ≤ x ∧ x ≤ 122) ∧ ¬ x = 95 ∧ ¬ (48 ≤ x ∧ x ≤ 57) := by
          simp [Cd.okb, Cd.letter] at hok; omega
        clear hok
        have g95 : (x == 95) = false := beq_false_of_ne hokN.2.1
        go_wp2_with fail
        all_goals first
          | (exfalso; omega)
          | (go_ret; exact ⟨congrArg (fun b => Ending.returned (.bool b)) HR.out.symm, rfl⟩)
      · have HOK := Lib.hid (show ((Cd.str s).take (j + 1)).all Cd.okb = true by rw [HT.out, HI.out, hok]; rfl)
        have hokN : (97 ≤ x ∧ x ≤ 122) ∨ x = 95 ∨ (48 ≤ x ∧ x ≤ 57) := by
          simp [Cd.okb, Cd.letter] at hok; omega
        clear hok
        by_cases h95 : x = 95
        · subst h95
          go_wp2_with fail
          go_round
          case rel => exact ⟨j + 1, by omega, by go_num, HOK.out⟩
          case measure => simp [intOf]; omega
        · have g95 : (x == 95) = false := beq_false_of_ne h95
          go_wp2_with fail
          all_goals first
            | (exfalso; omega)
            | (go_round
               case rel => exact ⟨j + 1, by omega, by go_num, HOK.out⟩
               case measure => simp [intOf]; omega)
            | exact ⟨⟨j + 1, by omega, by go_num, HOK.out⟩, by simp [intOf]; omega⟩
    · obtain rfl : s.size = j := by omega
      have HA := Lib.hid (show (Cd.str s).all Cd.okb = true by
        have := HI.out
        rwa [List.take_of_length_le (by rw [Cd.str_len]; omega)] at this)
      replace HN := Lib.hid (show Cd.name s = !(Cd.words.contains s.toList) from Cd.name_all HS.out.1 HS.out.2 HX0.out.1 HL.out HA.out)
      by_cases h0 : (s.toList == ([97, 108, 108] : List UInt8)) = true
      · have HR := Lib.hid (show Cd.name s = false by
          have e : s.toList = [97, 108, 108] := by simpa using h0
          rw [HN.out, e]; decide)
        go_wp2_with fail
        go_ret
        exact ⟨congrArg (fun b => Ending.returned (.bool b)) HR.out.symm, rfl⟩
      replace h0 : (s.toList == ([97, 108, 108] : List UInt8)) = false := by simpa using h0
      by_cases h1 : (s.toList == ([97, 110, 100] : List UInt8)) = true
      · have HR := Lib.hid (show Cd.name s = false by
          have e : s.toList = [97, 110, 100] := by simpa using h1
          rw [HN.out, e]; decide)
        go_wp2_with fail
        go_ret
        exact ⟨congrArg (fun b => Ending.returned (.bool b)) HR.out.symm, rfl⟩
      replace h1 : (s.toList == ([97, 110, 100] : List UInt8)) = false := by simpa using h1
      by_cases h2 : (s.toList == ([101, 118, 101, 110, 116] : List UInt8)) = true
      · have HR := Lib.hid (show Cd.name s = false by
          have e : s.toList = [101, 118, 101, 110, 116] := by simpa using h2
          rw [HN.out, e]; decide)
        go_wp2_with fail
        go_ret
        exact ⟨congrArg (fun b => Ending.returned (.bool b)) HR.out.symm, rfl⟩
      replace h2 : (s.toList == ([101, 118, 101, 110, 116] : List UInt8)) = false := by simpa using h2
      by_cases h3 : (s.toList == ([102, 114, 111, 109] : List UInt8)) = true
      · have HR := Lib.hid (show Cd.name s = false by
          have e : s.toList = [102, 114, 111, 109] := by simpa using h3
          rw [HN.out, e]; decide)
        go_wp2_with fail
        go_ret
        exact ⟨congrArg (fun b => Ending.returned (.bool b)) HR.out.symm, rfl⟩
      replace h3 : (s.toList == ([102, 114, 111, 109] : List UInt8)) = false := by simpa using h3
      by_cases h4 : (s.toList == ([109, 105, 115, 115, 105, 110, 103] : List UInt8)) = true
      · have HR := Lib.hid (show Cd.name s = false by
          have e : s.toList = [109, 105, 115, 115, 105, 110, 103] := by simpa using h4
          rw [HN.out, e]; decide)
        go_wp2_with fail
        go_ret
        exact ⟨congrArg (fun b => Ending.returned (.bool b)) HR.out.symm, rfl⟩
      replace h4 : (s.toList == ([109, 105, 115, 115, 105, 110, 103] : List UInt8)) = false := by simpa using h4
      by_cases h5 : (s.toList == ([110, 111, 116] : List UInt8)) = true
      · have HR := Lib.hid (show Cd.name s = false by
          have e : s.toList = [110, 111, 116] := by simpa using h5
          rw [HN.out, e]; decide)
        go_wp2_with fail
        go_ret
        exact ⟨congrArg (fun b => Ending.returned (.bool b)) HR.out.symm, rfl⟩
      replace h5 : (s.toList == ([110, 111, 116] : List UInt8)) = false := by simpa using h5
      by_cases h6 : (s.toList == ([111, 110] : List UInt8)) = true
      · have HR := Lib.hid (show Cd.name s = false by
          have e : s.toList = [111, 110] := by simpa using h6
          rw [HN.out, e]; decide)
        go_wp2_with fail
        go_ret
        exact ⟨congrArg (fun b => Ending.returned (.bool b)) HR.out.symm, rfl⟩
      replace h6 : (s.toList == ([111, 110] : List UInt8)) = false := by simpa using h6
      by_cases h7 : (s.toList == ([111, 114] : List UInt8)) = true
      · have HR := Lib.hid (show Cd.name s = false by
          have e : s.toList = [111, 114] := by simpa using h7
          rw [HN.out, e]; decide)
        go_wp2_with fail
        go_ret
        exact ⟨congrArg (fun b => Ending.returned (.bool b)) HR.out.symm, rfl⟩
      replace h7 : (s.toList == ([111, 114] : List UInt8)) = false := by simpa using h7
      by_cases h8 : (s.toList == ([116, 111] : List UInt8)) = true
      · have HR := Lib.hid (show Cd.name s = false by
          have e : s.toList = [116, 111] := by simpa using h8
          rw [HN.out, e]; decide)
        go_wp2_with fail
        go_ret
        exact ⟨congrArg (fun b => Ending.returned (.bool b)) HR.out.symm, rfl⟩
      replace h8 : (s.toList == ([116, 111] : List UInt8)) = false := by simpa using h8
      by_cases h9 : (s.toList == ([117, 110, 100, 101, 114] : List UInt8)) = true
      · have HR := Lib.hid (show Cd.name s = false by
          have e : s.toList = [117, 110, 100, 101, 114] := by simpa using h9
          rw [HN.out, e]; decide)
        go_wp2_with fail
        go_ret
        exact ⟨congrArg (fun b => Ending.returned (.bool b)) HR.out.symm, rfl⟩
      replace h9 : (s.toList == ([117, 110, 100, 101, 114] : List UInt8)) = false := by simpa using h9
      by_cases h10 : (s.toList == ([119, 104, 101, 114, 101] : List UInt8)) = true
      · have HR := Lib.hid (show Cd.name s = false by
          have e : s.toList = [119, 104, 101, 114, 101] := by simpa using h10
          rw [HN.out, e]; decide)
        go_wp2_with fail
        go_ret
        exact ⟨congrArg (fun b => Ending.returned (.bool b)) HR.out.symm, rfl⟩
      replace h10 : (s.toList == ([119, 104, 101, 114, 101] : List UInt8)) = false := by simpa using h10
      have HR := Lib.hid (show Cd.name s = true by
        rw [HN.out]
        unfold Cd.words
        simp only [List.contains_cons, List.contains_nil, h0, h1, h2, h3, h4, h5, h6, h7, h8, h9, h10, Bool.or_false]; rfl)
      go_wp2_with fail
      go_ret
      exact ⟨congrArg (fun b => Ending.returned (.bool b)) HR.out.symm, rfl⟩
end Go.Proofs.Ytoomgbddfcmjnaa
