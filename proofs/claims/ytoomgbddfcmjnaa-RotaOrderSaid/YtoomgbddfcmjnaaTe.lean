/- Rota: On, Duty. -/
import Derived.Test.YtoomgbddfcmjnaaTd
namespace Go.Proofs.Ytoomgbddfcmjnaa
open Go.RowKit
theorem tx_list (s : ByteArray) : s.toList = txOf s := ByteArray.toList_eq s
theorem tx_beq (s t : ByteArray) : (s.toList == t.toList) = decide (txOf s = txOf t) := by
  rw [tx_list, tx_list, Bool.eq_iff_iff]; simp
theorem tx_take {L : List Tx} {j : Nat} {x k : Tx} (h : L.getD j [] = x ∧ j < L.length) : k ∈ L.take (j + 1) ↔ k ∈ L.take j ∨ k = x := by
  have h9 := h.1
  rw [getD_getElem h.2] at h9
  rw [List.take_succ_eq_append_getElem h.2, h9]; simp
set_option maxHeartbeats 400000 in
theorem index_tx (A : Option Addr) (n c : Nat) (L : List Tx) (s : ByteArray) (B : Nat) (w : World) (h : RRow txRec w B A n c L) :
    Calls Try.prog 118 #[.slice A n c, .string s] w fun e w' => ∃ i : Int, e = .returned (.int .i64 i) ∧ Hid (0 ≤ i ↔ txOf s ∈ L) ∧ w = w' := by
  have hm : n ≤ 9223372036854775807 := by have := h.cap; have := h.max; unfold maxLen at this; omega
  have H := Lib.hid h
  have HL := Lib.hid h.len
  clear h
  go_enter Try.func118, Try.ntmps118
  go_wp2_with fail
  go_loop [8] (fun i => ∃ j : Nat, j ≤ n ∧ i = .int .i64 j ∧ Hid (txOf s ∉ L.take j)) (fun i => n - (intOf i).toNat)
  case atStart => exact ⟨0, by omega, rfl, Lib.hid (by simp)⟩
  case round =>
    obtain ⟨j, hj, rfl, HN⟩ := hrel
    by_cases hlt : j < n
    · obtain ⟨ad, y, rfl, HX, c0⟩ := H.out.tx hlt
      have HT := Lib.hid (tx_take (k := txOf s) ⟨HX.out.1, HX.out.2.1⟩)
      by_cases he : txOf s = txOf y
      · have hb : (s.toList == y.toList) = true := by rw [tx_beq]; simpa using he
        have hb' : (y.toList == s.toList) = true := by rw [tx_beq]; simpa using he.symm
        have HE := Lib.hid he
        clear he
        go_wp2_with fail
        go_ret
        exact ⟨j, rfl, ⟨fun _ => List.mem_of_mem_take (HT.out.2 (.inr HE.out)), fun _ => by omega⟩, rfl⟩
      · have hb : (s.toList == y.toList) = false := by rw [tx_beq]; simpa using he
        have hb' : (y.toList == s.toList) = false := by rw [tx_beq]; simpa using fun e => he e.symm
        have HE := Lib.hid he
        clear he
        go_wp2_with fail
        go_round
        case rel => exact ⟨j + 1, by omega, by go_num, Lib.hid fun e => (HT.out.1 e).elim HN.out HE.out⟩
        case measure => simp [intOf]; omega
    · obtain rfl : j = n := by omega
      go_wp2_with fail
      go_ret
      have := HN.out
      rw [List.take_of_length_le (by rw [HL.out]; exact Nat.le_refl _)] at this
      exact ⟨-1, rfl, ⟨fun h => absurd h (by omega), fun h => absurd h this⟩, rfl⟩
theorem contains_tx (A : Option Addr) (n c : Nat) (L : List Tx) (s : ByteArray) (B : Nat) (w : World) (h : RRow txRec w B A n c L) :
    Calls Try.prog 68 #[.slice A n c, .string s] w fun e w' => e = .returned (.bool (decide (txOf s ∈ L))) ∧ w = w' := by
  go_enter Try.func68, Try.ntmps68
  go_wp2_with fail
  refine (index_tx A n c L s B w h).mono ?_; rintro e w1 ⟨i, rfl, HI, rfl⟩
  clear h
  go_wp2_with fail
  go_ret
  exact ⟨retb (by rw [Bool.eq_iff_iff, decide_eq_true_iff, decide_eq_true_iff]; exact HI.out), rfl⟩
def Sf.On (L : List Sf) (t : Int) : List Tx := if Sf.chk L ≠ 0 then [] else Sf.onl L t
set_option maxHeartbeats 400000 in
theorem On36 (A : Option Addr) (n c : Nat) (L : List Sf) (t : Int) (w : World) (h : RRow sfRec w w.heap.size A n c L) (hn : n ≤ 900) :
    Calls Try.prog 18 #[.slice A n c, .int .i64 t] w (GivesTx (Sf.On L t) w) := by
  have H := Lib.hid h
  clear h
  go_enter Try.func18, Try.ntmps18
  go_wp2_with fail
  refine (check36 A n c L w H.out).mono ?_; rintro e w1 ⟨rfl, hb⟩
  have HB := Lib.hid hb
  clear hb
  by_cases h0 : Sf.chk L = 0
  · have HR := Lib.hid (show Sf.On L t = Sf.onl L t by unfold Sf.On; rw [if_neg (by simpa using h0)])
    have g1 : (Sf.chk L != 0) = false := by simpa using h0
    clear h0
    go_wp2_with fail
    refine (on36 A n c L t w1 (H.out.keep HB.out HB.out.size) hn).mono ?_; rintro e w2 ⟨v, rfl, ho, hb⟩
    have HO := Lib.hid (ho.base_le HB.out.size)
    have HB2 := Lib.hid (HB.out.trans (hb.mono HB.out.size))
    clear ho hb
    go_wp2_with fail
    go_ret
    exact ⟨_, rfl, by rw [HR.out]; exact HO.out, HB2.out⟩
  · have HR := Lib.hid (show Sf.On L t = [] by unfold Sf.On; rw [if_pos h0])
    have g1 : (Sf.chk L != 0) = true := by simpa using h0
    clear h0
    go_wp2_with fail
    go_ret
    exact ⟨_, rfl, by rw [HR.out]; exact ROwn.nil _ _, HB.out⟩
set_option maxHeartbeats 400000 in
set_option maxRecDepth 100000 in
theorem duty36 (A : Option Addr) (n c : Nat) (L : List Sf) (s : ByteArray) (t : Int) (w : World) (h : RRow sfRec w w.heap.size A n c L) (hn : n ≤ 900) :
    Calls Try.prog 19 #[.slice A n c, .string s, .int .i64 t] w fun e w' => e = .returned (.bool (decide (txOf s ∈ Sf.On L t))) ∧ Below w.heap.size w w' := by
  have H := Lib.hid h
  clear h
  go_enter Try.func19, Try.ntmps19
  go_wp2_with fail
  refine (On36 A n c L t w H.out hn).mono ?_; rintro e w1 ⟨v, rfl, ho, hb⟩
  have HB := Lib.hid hb
  obtain ⟨A1, n1, c1, rfl, hn1, hr⟩ := ho.row
  have HN1 := Lib.hid hn1
  clear hn1
  have HR := Lib.hid hr
  clear hb ho hr
  go_wp2_with fail
  refine (contains_tx A1 n1 c1 (Sf.On L t) s w1.heap.size w1 HR.out).mono ?_; rintro e w2 ⟨rfl, rfl⟩
  go_wp2_with fail
  go_ret
  exact ⟨rfl, HB.out⟩
end Go.Proofs.Ytoomgbddfcmjnaa
