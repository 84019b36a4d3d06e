/- Codes: which strings are names. -/
import Derived.Test.YtoomgbddfcmjnaaLa
namespace Go.Proofs.Ytoomgbddfcmjnaa
open Go.RowKit
theorem letter01 (b : Int) (w : World) : Calls Try.prog 147 #[.int .u8 b] w fun e w' => e = .returned (.bool (Cd.letter b)) ∧ w = w' := by
  by_cases h1 : 97 ≤ b
  · by_cases h2 : b ≤ 122
    · have HR := Lib.hid (show Cd.letter b = true by simp [Cd.letter, h1, h2])
      go_enter Try.func147, Try.ntmps147
      go_wp2
      go_ret
      exact ⟨congrArg (fun b => Ending.returned (.bool b)) HR.out.symm, rfl⟩
    · have HR := Lib.hid (show Cd.letter b = false by simp [Cd.letter, h2])
      go_enter Try.func147, Try.ntmps147
      go_wp2
      go_ret
      exact ⟨congrArg (fun b => Ending.returned (.bool b)) HR.out.symm, rfl⟩
  · have HR := Lib.hid (show Cd.letter b = false by simp [Cd.letter, h1])
    go_enter Try.func147, Try.ntmps147
    go_wp2
    go_ret
    exact ⟨congrArg (fun b => Ending.returned (.bool b)) HR.out.symm, rfl⟩
def Cd.res (s : ByteArray) : Bool := Cd.words.contains s.toList
set_option maxHeartbeats 1600000 in
theorem res01 (s : ByteArray) (w : World) : Calls Try.prog 148 #[.string s] w fun e w' => e = .returned (.bool (Cd.res s)) ∧ w = w' := by
  by_cases h0 : (s.toList == ([97, 108, 108] : List UInt8)) = true
  · have HR := Lib.hid (show Cd.res s = true by
      have e : s.toList = [97, 108, 108] := by simpa using h0
      unfold Cd.res; rw [e]; decide)
    go_enter Try.func148, Try.ntmps148
    go_wp2
    go_ret
    exact ⟨congrArg (fun b => Ending.returned (.bool b)) HR.out.symm, rfl⟩
  replace h0 : (s.toList == ([97, 108, 108] : List UInt8)) = false := by simpa using h0
  by_cases h1 : (s.toList == ([97, 110, 100] : List UInt8)) = true
  · have HR := Lib.hid (show Cd.res s = true by
      have e : s.toList = [97, 110, 100] := by simpa using h1
      unfold Cd.res; rw [e]; decide)
    go_enter Try.func148, Try.ntmps148
    go_wp2
    go_ret
    exact ⟨congrArg (fun b => Ending.returned (.bool b)) HR.out.symm, rfl⟩
  replace h1 : (s.toList == ([97, 110, 100] : List UInt8)) = false := by simpa using h1
  by_cases h2 : (s.toList == ([101, 118, 101, 110, 116] : List UInt8)) = true
  · have HR := Lib.hid (show Cd.res s = true by
      have e : s.toList = [101, 118, 101, 110, 116] := by simpa using h2
      unfold Cd.res; rw [e]; decide)
    go_enter Try.func148, Try.ntmps148
    go_wp2
    go_ret
    exact ⟨congrArg (fun b => Ending.returned (.bool b)) HR.out.symm, rfl⟩
  replace h2 : (s.toList == ([101, 118, 101, 110, 116] : List UInt8)) = false := by simpa using h2
  by_cases h3 : (s.toList == ([102, 114, 111, 109] : List UInt8)) = true
  · have HR := Lib.hid (show Cd.res s = true by
      have e : s.toList = [102, 114, 111, 109] := by simpa using h3
      unfold Cd.res; rw [e]; decide)
    go_enter Try.func148, Try.ntmps148
    go_wp2
    go_ret
    exact ⟨congrArg (fun b => Ending.returned (.bool b)) HR.out.symm, rfl⟩
  replace h3 : (s.toList == ([102, 114, 111, 109] : List UInt8)) = false := by simpa using h3
  by_cases h4 : (s.toList == ([109, 105, 115, 115, 105, 110, 103] : List UInt8)) = true
  · have HR := Lib.hid (show Cd.res s = true by
      have e : s.toList = [109, 105, 115, 115, 105, 110, 103] := by simpa using h4
      unfold Cd.res; rw [e]; decide)
    go_enter Try.func148, Try.ntmps148
    go_wp2
    go_ret
    exact ⟨congrArg (fun b => Ending.returned (.bool b)) HR.out.symm, rfl⟩
  replace h4 : (s.toList == ([109, 105, 115, 115, 105, 110, 103] : List UInt8)) = false := by simpa using h4
  by_cases h5 : (s.toList == ([110, 111, 116] : List UInt8)) = true
  · have HR := Lib.hid (show Cd.res s = true by
      have e : s.toList = [110, 111, 116] := by simpa using h5
      unfold Cd.res; rw [e]; decide)
    go_enter Try.func148, Try.ntmps148
    go_wp2
    go_ret
    exact ⟨congrArg (fun b => Ending.returned (.bool b)) HR.out.symm, rfl⟩
  replace h5 : (s.toList == ([110, 111, 116] : List UInt8)) = false := by simpa using h5
  by_cases h6 : (s.toList == ([111, 110] : List UInt8)) = true
  · have HR := Lib.hid (show Cd.res s = true by
      have e : s.toList = [111, 110] := by simpa using h6
      unfold Cd.res; rw [e]; decide)
    go_enter Try.func148, Try.ntmps148
    go_wp2
    go_ret
    exact ⟨congrArg (fun b => Ending.returned (.bool b)) HR.out.symm, rfl⟩
  replace h6 : (s.toList == ([111, 110] : List UInt8)) = false := by simpa using h6
  by_cases h7 : (s.toList == ([111, 114] : List UInt8)) = true
  · have HR := Lib.hid (show Cd.res s = true by
      have e : s.toList = [111, 114] := by simpa using h7
      unfold Cd.res; rw [e]; decide)
    go_enter Try.func148, Try.ntmps148
    go_wp2
    go_ret
    exact ⟨congrArg (fun b => Ending.returned (.bool b)) HR.out.symm, rfl⟩
  replace h7 : (s.toList == ([111, 114] : List UInt8)) = false := by simpa using h7
  by_cases h8 : (s.toList == ([116, 111] : List UInt8)) = true
  · have HR := Lib.hid (show Cd.res s = true by
      have e : s.toList = [116, 111] := by simpa using h8
      unfold Cd.res; rw [e]; decide)
    go_enter Try.func148, Try.ntmps148
    go_wp2
    go_ret
    exact ⟨congrArg (fun b => Ending.returned (.bool b)) HR.out.symm, rfl⟩
  replace h8 : (s.toList == ([116, 111] : List UInt8)) = false := by simpa using h8
  by_cases h9 : (s.toList == ([117, 110, 100, 101, 114] : List UInt8)) = true
  · have HR := Lib.hid (show Cd.res s = true by
      have e : s.toList = [117, 110, 100, 101, 114] := by simpa using h9
      unfold Cd.res; rw [e]; decide)
    go_enter Try.func148, Try.ntmps148
    go_wp2
    go_ret
    exact ⟨congrArg (fun b => Ending.returned (.bool b)) HR.out.symm, rfl⟩
  replace h9 : (s.toList == ([117, 110, 100, 101, 114] : List UInt8)) = false := by simpa using h9
  by_cases h10 : (s.toList == ([119, 104, 101, 114, 101] : List UInt8)) = true
  · have HR := Lib.hid (show Cd.res s = true by
      have e : s.toList = [119, 104, 101, 114, 101] := by simpa using h10
      unfold Cd.res; rw [e]; decide)
    go_enter Try.func148, Try.ntmps148
    go_wp2
    go_ret
    exact ⟨congrArg (fun b => Ending.returned (.bool b)) HR.out.symm, rfl⟩
  replace h10 : (s.toList == ([119, 104, 101, 114, 101] : List UInt8)) = false := by simpa using h10
  have HR := Lib.hid (show Cd.res s = false by
    unfold Cd.res Cd.words
    simp only [List.contains_cons, List.contains_nil, h0, h1, h2, h3, h4, h5, h6, h7, h8, h9, h10, Bool.or_false])
  go_enter Try.func148, Try.ntmps148
  go_wp2
  go_ret
  exact ⟨congrArg (fun b => Ending.returned (.bool b)) HR.out.symm, rfl⟩
theorem Cd.str_len (s : ByteArray) : (Cd.str s).length = s.size := by unfold Cd.str; rw [List.length_map]; rfl
/-- a byte of a string -/
theorem byte_at {P : Program} (t : TypeId) (s : ByteArray) (ht : P.underlying t = some .string) {j : Nat} (hj : j < s.size) : ∃ x : Int, Hid ((Cd.str s).getD j 0 = x ∧ j < (Cd.str s).length) ∧ (0 ≤ x ∧ x ≤ 255) ∧ ∀ w, (Instr.index t (.string s) (.int .i64 j)).run P w = .ok (.int .u8 x) w := by
  have hd : j < s.data.size := hj
  have hl : (Cd.str s).length = s.size := Cd.str_len s
  refine ⟨((s[j]'hj).toNat : Int), Lib.hid ⟨?_, by rw [hl]; exact hj⟩, ⟨by omega, by have := (s[j]'hj).toNat_lt; omega⟩, fun w => ?_⟩
  · simp only [Cd.str, List.getD_eq_getElem?_getD, List.getElem?_map, List.getElem?_eq_getElem (show j < s.data.toList.length by simpa using hd), Option.map_some, Option.getD_some]
    rfl
  · rw [run_index_string w t s .i64 j ht]
    have hc : (0 : Int) ≤ (j : Int) ∧ (j : Int) < (s.size : Int) := by omega
    rw [dif_pos hc]
    simp
theorem Cd.all_take {l : List Int} {j : Nat} {x : Int} (h : l.getD j 0 = x ∧ j < l.length) (p : Int → Bool) : (l.take (j + 1)).all p = ((l.take j).all p && p x) := by
  rw [List.take_succ_eq_append_getElem h.2, List.all_append]
  have h9 := h.1
  simp only [List.getD, List.getElem?_eq_getElem h.2, Option.getD_some] at h9
  rw [h9]; simp
theorem Cd.all_bad {l : List Int} {j : Nat} {x : Int} (h : l.getD j 0 = x ∧ j < l.length) {p : Int → Bool} (hp : p x = false) : l.all p = false := by
  have h9 := h.1
  simp only [List.getD, List.getElem?_eq_getElem h.2, Option.getD_some] at h9
  rw [← h9] at hp
  rw [Bool.eq_false_iff]
  intro ha
  rw [List.all_eq_true] at ha
  rw [ha _ (List.getElem_mem h.2)] at hp
  cases hp
theorem Cd.name_eq {s : ByteArray} (h1 : 1 ≤ s.size) (h2 : s.size ≤ 16) : Cd.name s = (Cd.letter ((Cd.str s).getD 0 0) && !(Cd.res s) && (Cd.str s).all Cd.okb) := by
  unfold Cd.name Cd.res
  simp [h1, h2]
set_option maxHeartbeats 1600000 in
set_option maxRecDepth 100000 in
theorem name01 (s : ByteArray) (w : World) : Calls Try.prog 120 #[.string s] w fun e w' => e = .returned (.bool (Cd.name s)) ∧ w = w' := by
  by_cases h0 : s.size = 0
  · have HR := Lib.hid (show Cd.name s = false by simp [Cd.name, h0])
    have g0 : ((s.size : Int) == 0) = true := by simp [h0]
    clear h0
    go_enter Try.func120, Try.ntmps120
    go_wp2_with fail
    go_ret
    exact ⟨congrArg (fun b => Ending.returned (.bool b)) HR.out.symm, rfl⟩
  by_cases h16 : 16 < s.size
  · have HR := Lib.hid (show Cd.name s = false by have : ¬ s.size ≤ 16 := by omega
                                                  simp [Cd.name, this])
    have g0 : ((s.size : Int) == 0) = false := beq_false_of_ne (by omega)
    have g1 : decide ((16 : Int) < (s.size : Int)) = true := decide_eq_true (by omega)
    go_enter Try.func120, Try.ntmps120
    go_wp2_with fail
    go_ret
    exact ⟨congrArg (fun b => Ending.returned (.bool b)) HR.out.symm, rfl⟩
  have g0 : ((s.size : Int) == 0) = false := beq_false_of_ne (by omega)
  have g1 : decide ((16 : Int) < (s.size : Int)) = false := decide_eq_false (by omega)
  obtain ⟨x0, HX0, hx0b, kx0⟩ := byte_at (P := Try.prog) 9 s Try.underlying9 (j := 0) (by omega)
  have kx : (Instr.index 9 (.string s) (.int .i64 0)).run Try.prog w = .ok (.int .u8 x0) w := kx0 w
  have HN := Lib.hid (show Cd.name s = (Cd.letter x0 && !(Cd.res s) && (Cd.str s).all Cd.okb) by rw [Cd.name_eq (by omega) (by omega), HX0.out.1])
  have hsz : s.size ≤ 16 := by omega
  clear h0 h16 kx0 hx0b
  go_enter Try.func120, Try.ntmps120
  go_wp2_with fail
  refine (letter01 x0 w).mono ?_; rintro e w1 ⟨rfl, rfl⟩
  rcases hl : Cd.letter x0 with _ | _
  · have HR := Lib.hid (show Cd.name s = false by rw [HN.out, hl]; rfl)
    clear hl
    go_wp2_with fail
    go_ret
    exact ⟨congrArg (fun b => Ending.returned (.bool b)) HR.out.symm, rfl⟩
  · replace HN := Lib.hid (show Cd.name s = (!(Cd.res s) && (Cd.str s).all Cd.okb) by rw [HN.out, hl]; rfl)
    clear hl
    go_wp2_with fail
    refine (res01 s w).mono ?_; rintro e w1 ⟨rfl, rfl⟩
    rcases hl : Cd.res s with _ | _
    · replace HN := Lib.hid (show Cd.name s = (Cd.str s).all Cd.okb by rw [HN.out, hl]; rfl)
      clear hl kx
      go_wp2_with fail
      go_loop [24] (fun i => ∃ j : Nat, j ≤ s.size ∧ i = .int .i64 j ∧ Hid (((Cd.str s).take j).all Cd.okb = true)) (fun i => s.size - (intOf i).toNat)
      case atStart => exact ⟨0, by omega, rfl, by show ((Cd.str s).take 0).all Cd.okb = true; simp⟩
      case round =>
        obtain ⟨j, hj, rfl, HI⟩ := hrel
        by_cases hlt : j < s.size
        · obtain ⟨x, HX, hxb, kx0⟩ := byte_at (P := Try.prog) 9 s Try.underlying9 hlt
          have kx := kx0 w
          have HT := Lib.hid (Cd.all_take HX.out Cd.okb)
          have HBAD := Lib.hid (show Cd.okb x = false → (Cd.str s).all Cd.okb = false from Cd.all_bad HX.out)
          clear kx0
          go_wp2_with fail
          refine (letter01 x w).mono ?_; rintro e w1 ⟨rfl, rfl⟩
          rcases hl : Cd.letter x with _ | _
          · by_cases h95 : x = 95
            · subst h95
              have g2 : ((95 : Int) != 95) = false := by simp
              have HOK := Lib.hid (show Cd.okb 95 = true by decide)
              clear hl
              go_wp2_with fail
              go_round
              case rel => exact ⟨j + 1, by omega, by go_num, by show ((Cd.str s).take (j + 1)).all Cd.okb = true; rw [HT.out, HI.out, HOK.out]; rfl⟩
              case measure => simp [intOf]; omega
            · have g2 : (x != 95) = true := by simp [h95]
              by_cases h48 : x < 48
              · have g3 : decide (x < 48) = true := decide_eq_true h48
                have HOK := Lib.hid (show Cd.okb x = false by unfold Cd.okb; rw [hl]; simp [h95]; intro; omega)
                have HR := Lib.hid (HN.out.trans (HBAD.out HOK.out))
                clear hl h48
                go_wp2_with fail
                go_ret
                exact ⟨congrArg (fun b => Ending.returned (.bool b)) HR.out.symm, rfl⟩
              · have g3 : decide (x < 48) = false := decide_eq_false h48
                by_cases h57 : 57 < x
                · have g4 : decide (57 < x) = true := decide_eq_true h57
                  have HOK := Lib.hid (show Cd.okb x = false by unfold Cd.okb; rw [hl]; simp [h95]; intro; omega)
                  have HR := Lib.hid (HN.out.trans (HBAD.out HOK.out))
                  clear hl h48 h57
                  go_wp2_with fail
                  go_ret
                  exact ⟨congrArg (fun b => Ending.returned (.bool b)) HR.out.symm, rfl⟩
                · have g4 : decide (57 < x) = false := decide_eq_false h57
                  have HOK := Lib.hid (show Cd.okb x = true by unfold Cd.okb; rw [hl]; simp [h95]; omega)
                  clear hl h48 h57
                  go_wp2_with fail
                  go_round
                  case rel => exact ⟨j + 1, by omega, by go_num, by show ((Cd.str s).take (j + 1)).all Cd.okb = true; rw [HT.out, HI.out, HOK.out]; rfl⟩
                  case measure => simp [intOf]; omega
          · have HOK := Lib.hid (show Cd.okb x = true by unfold Cd.okb; rw [hl]; rfl)
            clear hl
            go_wp2_with fail
            go_round
            case rel => exact ⟨j + 1, by omega, by go_num, by show ((Cd.str s).take (j + 1)).all Cd.okb = true; rw [HT.out, HI.out, HOK.out]; rfl⟩
            case measure => simp [intOf]; omega
        · obtain rfl : s.size = j := by omega
          have HR := Lib.hid (show Cd.name s = true by
            rw [HN.out]
            have := HI.out
            rwa [List.take_of_length_le (by rw [Cd.str_len]; omega)] at this)
          go_wp2_with fail
          go_ret
          exact ⟨congrArg (fun b => Ending.returned (.bool b)) HR.out.symm, rfl⟩
    · have HR := Lib.hid (show Cd.name s = false by rw [HN.out, hl]; rfl)
      clear hl
      go_wp2_with fail
      go_ret
      exact ⟨congrArg (fun b => Ending.returned (.bool b)) HR.out.symm, rfl⟩
end Go.Proofs.Ytoomgbddfcmjnaa
