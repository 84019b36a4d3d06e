/- Bytes: the check value, slices.Grow of nothing, slices.Concat of two, slices.Clone. -/
import Derived.Test.YtjhdhnefoclccaaJn
import Derived.Lib.AppendZerosOnto
import Derived.WalkSpells
namespace Go.Proofs.Ytjhdhnefoclccaa
open Go.RowKit
theorem check23 (A : Option Addr) (n c : Nat) (l : List Int) (w : World) (h : Nums w .u8 w.heap.size A n c l) (hn : n ≤ 1000000) :
    Calls Try.prog 36 #[.slice A n c] w fun e w' => e = .returned (.int .i64 (Jn.chk l)) ∧ w = w' := by
  have H := Lib.hid h
  clear h
  go_enter Try.func36, Try.ntmps36
  go_wp2_with fail
  go_loop [3, 4, 5, 8] (fun s _ _ i => ∃ j : Nat, j ≤ n ∧ i = .int .i64 j ∧ s = .int .i64 (Jn.chkN l j)) (fun _ _ _ i => n - (intOf i).toNat)
  case atStart => exact ⟨0, by omega, rfl, rfl⟩
  case round =>
    obtain ⟨j, hj, rfl, rfl⟩ := hrel
    by_cases hlt : j < n
    · obtain ⟨ad, x, rfl, _, HX, hx, hwx⟩ := H.out.val hlt
      have hx0 := bounds_u8 hwx
      have hsum := Jn.chkN_bd l j
      have hstep : Jn.chkN l (j + 1) = (Jn.chkN l j + ((j : Int) + 1) * x) % 65521 := by
        show (Jn.chkN l j + ((j : Int) + 1) * l.getD j 0) % 65521 = _
        rw [HX.out.1]
      have HS := Lib.hid hstep
      generalize Jn.chkN l j = s at *
      have hp0 : 0 ≤ ((j : Int) + 1) * x := Int.mul_nonneg (by omega) hx0.1
      have hp1 : ((j : Int) + 1) * x ≤ 1000001 * 255 := Int.mul_le_mul (by omega) hx0.2 hx0.1 (by omega)
      clear hstep hwx
      go_wp2_with fail
      go_round
      case rel => exact ⟨j + 1, by omega, by go_num, by rw [HS.out]⟩
      case measure => simp [intOf]; omega
    · obtain rfl : j = n := by omega
      go_wp2
      go_ret
      exact ⟨ret_int (by rw [← H.out.len]; rfl), rfl⟩
theorem byte_info : (Try.prog.info? 5).map (fun i => (i.zero, i.size, i.bytes)) = some (some (.int .u8 0), 1, 1) := by kernel_rfl
theorem grow0 (w : World) : Calls Try.prog 47 #[.slice none 0 0, .int .i64 0] w (GivesBytes [] w) := by
  go_enter Try.func47, Try.ntmps47
  go_wp2
  go_ret
  exact ⟨_, rfl, Own.nil _ _ _ _, Below.refl _ _⟩
theorem grow1 (n : Nat) (hn : 0 < n) (hn' : n ≤ 1000000000) (w : World) : Calls Try.prog 47 #[.slice none 0 0, .int .i64 n] w (GivesBytes [] w) := by
  have tb : Try.t5.bytes = 1 := by kernel_rfl
  have q1 : ¬ (281474976710656 < (n : Int)) := by omega
  have q2 : ¬ (281474976710656 < Builtin.nextslicecap n 0) := by have := growslice_fits (need := n) (old := 0) (bytes := 1) (by omega) (by omega); omega
  have hge : n ≤ (Question.appendCap n 0 5).cut (w.tape w.drawn (Question.appendCap n 0 5)) := grownCap_ge w n 0 5
  have hmax : (Question.appendCap n 0 5).cut (w.tape w.drawn (Question.appendCap n 0 5)) ≤ 9223372036854775807 := by
    have := grownCap_le_maxLen w n 0 5 (by unfold maxLen; omega); unfold maxLen at this; exact Nat.le_trans this (by omega)
  have HG := Lib.hid hge
  have HM := Lib.hid hmax
  clear hge hmax
  go_enter Try.func47, Try.ntmps47
  go_wp2
  go_ret
  refine ⟨_, rfl, ⟨rfl, .inr ⟨w.heap.size, _, _, rfl, Nat.le_refl _, heap_alloc_new w _, Nat.zero_le _, by unfold maxLen; exact HM.out, ?_, by simp⟩⟩, ((Below.refl _ _).alloc (Nat.le_refl _) _).drew⟩
  have := HG.out
  simp [size_zeroCells]
  omega
theorem grow_any (n : Int) (h0 : 0 ≤ n) (h1 : n ≤ 1000000000) (w : World) : Calls Try.prog 47 #[.slice none 0 0, .int .i64 n] w (GivesBytes [] w) := by
  obtain ⟨n, rfl⟩ := Int.eq_ofNat_of_zero_le h0
  rcases Nat.eq_zero_or_pos n with rfl | hn
  · exact grow0 w
  · exact grow1 n hn (by omega) w
theorem Nums.bd {w : World} {k : IntKind} {B : Nat} {A : Option Addr} {n c : Nat} {l : List Int} (h : Nums w k B A n c l) : n ≤ 9223372036854775807 := by have := h.cap; have := h.max; unfold maxLen at this; omega
/-- what stands before the part of number j, of two -/
def two {α : Type} (z a b : α) : Nat → α
  | 0 => z
  | 1 => a
  | _ => b
set_option maxHeartbeats 800000 in
theorem concat2 (g : Nat) (A A' : Option Addr) (n c n' c' : Nat) (l l' : List Int) (w : World) (hg0 : w.cell? ⟨g, 0, none⟩ = some (.slice A n c)) (hg1 : w.cell? ⟨g, 1, none⟩ = some (.slice A' n' c'))
    (h : Nums w .u8 w.heap.size A n c l) (h' : Nums w .u8 w.heap.size A' n' c' l') (hs : n + n' ≤ 1000000000) :
    Calls Try.prog 32 #[.slice (some ⟨g, 0, none⟩) 2 2] w (GivesBytes (l ++ l') w) := by
  have hgl := World.block_lt_of_cell? w _ hg0
  have H := Lib.hid h
  have H' := Lib.hid h'
  have HG0 := Lib.hid hg0
  have HG1 := Lib.hid hg1
  clear h h' hg0 hg1
  go_enter Try.func32, Try.ntmps32
  go_wp2_with fail
  go_loop [3, 5, 11] (fun s _ i => ∃ j : Nat, j ≤ 2 ∧ i = .int .i64 j ∧ s = .int .i64 (two 0 n (n + n') j : Nat)) (fun _ _ i => 2 - (intOf i).toNat)
  case atStart => exact ⟨0, by omega, rfl, rfl⟩
  case round =>
    obtain ⟨j, hj, rfl, rfl⟩ := hrel
    rcases (show j = 0 ∨ j = 1 ∨ j = 2 by omega) with rfl | rfl | rfl
    · have e0 := HG0.out
      have e1 : two 0 n (n + n') 0 = 0 := rfl
      have hnn : n ≤ 1000000000 := by omega
      go_wp2_with fail
      go_round
      case rel => exact ⟨1, by omega, rfl, rfl⟩
      case measure => simp [intOf]
    · have e0 := HG1.out
      have e1 : two 0 n (n + n') 1 = n := rfl
      have hnn : n ≤ 1000000000 := by omega
      have hnn' : n' ≤ 1000000000 := by omega
      go_wp2_with fail
      go_round
      case rel => exact ⟨2, by omega, rfl, by go_num⟩
      case measure => simp [intOf]
    · have e1 : two 0 n (n + n') 2 = n + n' := rfl
      go_wp2_with fail
      refine (grow_any _ (by omega) (by omega) _).mono ?_; rintro e w1 ⟨v1, rfl, hown1, hb1⟩
      have HO1 := Lib.hid hown1
      have HB1 := Lib.hid hb1
      clear hown1 hb1 e1
      go_wp2_with fail
      go_loopw [6, 8, 27] (fun v _ i wr => ∃ j : Nat, j ≤ 2 ∧ i = .int .i64 j ∧ Hid (Own wr w.heap.size 5 .u8 v (two [] l (l ++ l') j) ∧ Below w.heap.size w wr)) (fun _ _ i _ => 2 - (intOf i).toNat)
      case atStart => exact ⟨0, by omega, rfl, HO1.out, HB1.out⟩
      case round =>
        obtain ⟨j, hj, rfl, HI⟩ := hrel
        rcases (show j = 0 ∨ j = 1 ∨ j = 2 by omega) with rfl | rfl | rfl
        · have e0 : wr.cell? ⟨g, 0, none⟩ = some (.slice A n c) := by rw [HI.out.2.cell hgl]; exact HG0.out
          have HN := Lib.hid (H.out.keep HI.out.2 HI.out.2.size)
          go_wp2_with (at_builtin; refine app_ints _ rfl (.tmp 31) (.tmp 32) _ rfl w.heap.size 5 1 .u8 byte_info Try.underlying22 u6 _ rfl HI.out.1 _ A n c l rfl HN.out (by simp only [two, List.length_nil, maxLen]; omega) (by simp only [two, List.length_nil]; omega) HI.out.2.size ?_; intro v' w' hown' hgrow)
          go_roundw
          case rel => exact ⟨1, by omega, rfl, by simpa [two] using hown', HI.out.1.grow HI.out.2 hgrow HI.out.2.size (Nat.le_refl _)⟩
          case measure => simp [intOf]
        · have e0 : wr.cell? ⟨g, 1, none⟩ = some (.slice A' n' c') := by rw [HI.out.2.cell hgl]; exact HG1.out
          have HN := Lib.hid (H'.out.keep HI.out.2 HI.out.2.size)
          have hll := H.out.len
          go_wp2_with (at_builtin; refine app_ints _ rfl (.tmp 31) (.tmp 32) _ rfl w.heap.size 5 1 .u8 byte_info Try.underlying22 u6 _ rfl HI.out.1 _ A' n' c' l' rfl HN.out (by simp only [two, maxLen]; omega) (by simp only [two]; omega) HI.out.2.size ?_; intro v' w' hown' hgrow)
          go_roundw
          case rel => exact ⟨2, by omega, rfl, by simpa [two] using hown', HI.out.1.grow HI.out.2 hgrow HI.out.2.size (Nat.le_refl _)⟩
          case measure => simp [intOf]
        · go_wp2_with fail
          go_ret
          exact ⟨_, rfl, HI.out.1, HI.out.2⟩
/-- a literal without elements -/
theorem Own.empty (w : World) (e : TypeId) (k : IntKind) : Own (w.alloc (.cells #[] e)) w.heap.size e k (.slice (some ⟨w.heap.size, 0, none⟩) 0 0) [] :=
  ⟨rfl, .inr ⟨w.heap.size, 0, #[], rfl, Nat.le_refl _, heap_alloc_new w _, Nat.le_refl _, by simp [maxLen], rfl, rfl⟩⟩
/-- slices.Clone: nil stays nil -/
theorem clone_any (A : Option Addr) (n c : Nat) (l : List Int) (w : World) (h : Nums w .u8 w.heap.size A n c l) (hs : n ≤ 1000000000) :
    Calls Try.prog 34 #[.slice A n c] w (GivesBytes l w) := by
  have q22 : ∀ (w : World) (a : Option Addr) (n c n' c' : Nat), (binOp .eql 22 (.slice a n c) (.slice none n' c')).run Try.prog w = .ok (.bool a.isNone) w := fun w a n c n' c' => Lib.run_eql_slice_nil w _ _ a n c n' c' Try.underlying22
  have H := Lib.hid h
  have HS := Lib.hid hs
  clear h hs
  cases A with
  | none =>
    have hn : n = 0 := by
      rcases Nat.eq_zero_or_pos n with h0 | h0
      · exact h0
      · obtain ⟨ad, h, _⟩ := H.out.cells h0; cases h
    subst hn
    obtain rfl := H.out.zero rfl
    have hl : l = [] := List.eq_nil_of_length_eq_zero H.out.len
    subst hl
    go_enter Try.func34, Try.ntmps34
    go_wp2_with fail
    go_ret
    exact ⟨_, rfl, Own.nil _ _ _ _, Below.refl _ _⟩
  | some ad =>
    go_enter Try.func34, Try.ntmps34
    have HB := Lib.hid (show Below w.heap.size w (w.alloc (.cells #[] 5)) from (Below.refl _ _).alloc (Nat.le_refl _) _)
    have HN := Lib.hid (H.out.keep HB.out HB.out.size)
    go_wp2_with (at_builtin; refine app_ints _ rfl (.tmp 5) (.tmp 6) _ rfl w.heap.size 5 1 .u8 byte_info Try.underlying22 (.slice (some ⟨w.heap.size, 0, none⟩) 0 0) [] rfl (Own.empty w _ _) _ (some ad) n c l rfl HN.out (by have := HS.out; simp only [List.length_nil, maxLen]; omega) (by have := HS.out; simp only [List.length_nil]; omega) HB.out.size ?_; intro v' w' hown' hgrow)
    go_ret
    exact ⟨_, rfl, by simpa using hown', (Own.empty w 5 .u8).grow HB.out hgrow HB.out.size (Nat.le_refl _)⟩
end Go.Proofs.Ytjhdhnefoclccaa
