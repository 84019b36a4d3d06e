/- Ints: slices.Clone. -/
import Derived.Test.YtihgopiocjflcaaGi
namespace Go.Proofs.Ytihgopiocjflcaa
open Go.RowKit
/-- slices.Clone: nil stays nil -/
theorem clone_any (A : Option Addr) (n c : Nat) (l : List Int) (w : World) (h : Nums w .i64 w.heap.size A n c l) (hs : n ≤ 1000000000) :
    Calls Try.prog 17 #[.slice A n c] w (GivesInts l w) := by
  have q22 : ∀ (w : World) (a : Option Addr) (n c n' c' : Nat), (binOp .eql 23 (.slice a n c) (.slice none n' c')).run Try.prog w = .ok (.bool a.isNone) w := fun w a n c n' c' => Lib.run_eql_slice_nil w _ _ a n c n' c' Try.underlying23
  have H := Lib.hid h
  have HS := Lib.hid hs
  clear h hs
  cases A with
  | none =>
    have hn : n = 0 := by
      rcases Nat.eq_zero_or_pos n with h0 | h0
      · exact h0
      · obtain ⟨ad, h, _⟩ := H.out.cells h0; cases h
    subst hn
    obtain rfl := H.out.zero rfl
    have hl : l = [] := List.eq_nil_of_length_eq_zero H.out.len
    subst hl
    go_enter Try.func17, Try.ntmps17
    go_wp2_with fail
    go_ret
    exact ⟨_, rfl, Own.nil _ _ _ _, Below.refl _ _⟩
  | some ad =>
    go_enter Try.func17, Try.ntmps17
    have HB := Lib.hid (show Below w.heap.size w (w.alloc (.cells #[] 3)) from (Below.refl _ _).alloc (Nat.le_refl _) _)
    have HN := Lib.hid (H.out.keep HB.out HB.out.size)
    go_wp2_with (at_builtin; refine app_ints _ rfl (.tmp 5) (.tmp 6) _ rfl w.heap.size 3 8 .i64 int_info Try.underlying23 (.slice (some ⟨w.heap.size, 0, none⟩) 0 0) [] rfl (Own.empty w _ _) _ (some ad) n c l rfl HN.out (by have := HS.out; simp only [List.length_nil, maxLen]; omega) (by have := HS.out; simp only [List.length_nil]; omega) HB.out.size ?_; intro v' w' hown' hgrow)
    go_ret
    exact ⟨_, rfl, by simpa using hown', (Own.empty w 3 .i64).grow HB.out hgrow HB.out.size (Nat.le_refl _)⟩
end Go.Proofs.Ytihgopiocjflcaa
