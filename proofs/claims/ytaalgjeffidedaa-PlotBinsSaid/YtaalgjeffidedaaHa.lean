/- Lists of ints: whether one has a number. -/
import Derived.Test.YtaalgjeffidedaaProg
import Derived.Test.YtaalgjeffidedaaOpen
import Derived.Test.YtaalgjeffidedaaGen
import Derived.Lib.Hide
import Derived.BigGuardPart
import Derived.Deep.QuietTactic
import Derived.BigQuiet
namespace Go.Proofs.Ytaalgjeffidedaa
open Go.RowKit
theorem has_any (A : Option Addr) (n c : Nat) (l : List Int) (k : Int) (B : Nat) (w : World) (h : Nums w .i64 B A n c l) :
    Calls Try.prog 15 #[.slice A n c, .int .i64 k] w fun e w' => e = .returned (.bool (decide (k ∈ l))) ∧ w = w' := by
  have hm : n ≤ 9223372036854775807 := by have := h.cap; have := h.max; unfold maxLen at this; omega
  have H := Lib.hid h
  have HL := Lib.hid h.len
  clear h
  go_enter Try.func15, Try.ntmps15
  go_wp2_with fail
  go_loop [5] (fun i => ∃ j : Nat, j ≤ n ∧ i = .int .i64 j ∧ Hid (k ∉ l.take j)) (fun i => n - (intOf i).toNat)
  case atStart => exact ⟨0, by omega, rfl, Lib.hid (by simp)⟩
  case round =>
    obtain ⟨j, hj, rfl, HN⟩ := hrel
    by_cases hlt : j < n
    · obtain ⟨ad, x, rfl, _, HX, hx, _⟩ := H.out.val hlt
      by_cases he : x = k
      · have hb : (x == k) = true := by simpa using he
        have HE := Lib.hid he
        clear he
        go_wp2
        go_ret
        refine ⟨retb ?_, rfl⟩
        have := getD_mem HX.out
        rw [HE.out] at this
        simp [this]
      · have hb : (x == k) = false := by simpa using he
        have HE := Lib.hid he
        clear he
        go_wp2
        go_round
        case rel => exact ⟨j + 1, by omega, by go_num, Lib.hid fun e => ((mem_take_succ HX.out).1 e).elim HN.out fun e => HE.out e.symm⟩
        case measure => simp [intOf]; omega
    · obtain rfl : j = n := by omega
      go_wp2
      go_ret
      refine ⟨retb ?_, rfl⟩
      have := HN.out
      rw [take_len HL.out] at this
      simp [this]
end Go.Proofs.Ytaalgjeffidedaa
