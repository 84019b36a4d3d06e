/- api.Approval: slices.Grow of nothing, slices.Concat of two and of three, slices.Clone. -/
import Derived.Test.YtoomgbddfcmjnaaAf
import Derived.WalkSpells
import Derived.Lib.SliceRun
namespace Go.Proofs.Ytoomgbddfcmjnaa
open Go.RowKit
set_option linter.unusedSimpArgs false
def GivesAp (L : List Ap) (w : World) (e : Ending) (w' : World) : Prop := ∃ v, e = .returned v ∧ ROwn apRec w' w.heap.size v L ∧ Below w.heap.size w w'
theorem grow0Ap (w : World) : Calls Try.prog 130 #[.slice none 0 0, .int .i64 0] w (GivesAp [] w) := by
  go_enter Try.func130, Try.ntmps130
  go_wp2
  go_ret
  exact ⟨_, rfl, ROwn.nil _ _, Below.refl _ _⟩
theorem grow1Ap (n : Nat) (hn : 0 < n) (hn' : n ≤ 1000) (w : World) : Calls Try.prog 130 #[.slice none 0 0, .int .i64 n] w (GivesAp [] w) := by
  have tb : Try.t74.bytes = 48 := by kernel_rfl
  have q1 : ¬ (281474976710656 < (n : Int) * 48) := by omega
  have q2 : ¬ (281474976710656 < Builtin.nextslicecap n 0 * 48) := by have := growslice_fits (need := n) (old := 0) (bytes := 48) (by omega) (by omega); omega
  have hge : n ≤ (Question.appendCap n 0 74).cut (w.tape w.drawn (Question.appendCap n 0 74)) := grownCap_ge w n 0 74
  have hmax : (Question.appendCap n 0 74).cut (w.tape w.drawn (Question.appendCap n 0 74)) ≤ 9223372036854775807 := by
    have := grownCap_le_maxLen w n 0 74 (by unfold maxLen; omega); unfold maxLen at this; exact Nat.le_trans this (by omega)
  have HG := Lib.hid hge
  have HM := Lib.hid hmax
  clear hge hmax
  go_enter Try.func130, Try.ntmps130
  go_wp2
  go_ret
  refine ⟨_, rfl, ⟨rfl, .inr ⟨w.heap.size, _, _, rfl, Nat.le_refl _, heap_alloc_new w _, Nat.zero_le _, by unfold maxLen; exact HM.out, ?_, by simp [Rec.flat]⟩⟩, ((Below.refl _ _).alloc (Nat.le_refl _) _).drew⟩
  have := HG.out
  simp [size_zeroCells, apRec]
  try omega
theorem growAAp (n : Int) (h0 : 0 ≤ n) (h1 : n ≤ 1000) (w : World) : Calls Try.prog 130 #[.slice none 0 0, .int .i64 n] w (GivesAp [] w) := by
  obtain ⟨n, rfl⟩ := Int.eq_ofNat_of_zero_le h0
  rcases Nat.eq_zero_or_pos n with rfl | hn
  · exact grow0Ap w
  · exact grow1Ap n hn (by omega) w
def preAp2 {α : Type} (a0 a1 a2 : α) : Nat → α
  | 0 => a0
  | 1 => a1
  | _ => a2
set_option maxHeartbeats 800000 in
theorem concatAp2 (g : Nat) (A0 A1 : Option Addr) (n0 c0 n1 c1 : Nat) (l0 l1 : List Ap) (w : World) (hg0 : w.cell? ⟨g, 0, none⟩ = some (.slice A0 n0 c0)) (hg1 : w.cell? ⟨g, 1, none⟩ = some (.slice A1 n1 c1))
    (h0 : RRow apRec w w.heap.size A0 n0 c0 l0) (h1 : RRow apRec w w.heap.size A1 n1 c1 l1) (hs : n0 + n1 ≤ 1000) :
    Calls Try.prog 98 #[.slice (some ⟨g, 0, none⟩) 2 2] w (GivesAp (l0 ++ l1) w) := by
  have hgl := World.block_lt_of_cell? w _ hg0
  have H0 := Lib.hid h0
  have HG0 := Lib.hid hg0
  have H1 := Lib.hid h1
  have HG1 := Lib.hid hg1
  clear h0 h1 hg0 hg1
  go_enter Try.func98, Try.ntmps98
  go_wp2_with fail
  go_loop [3, 5, 11] (fun s _ i => ∃ j : Nat, j ≤ 2 ∧ i = .int .i64 j ∧ s = .int .i64 (preAp2 0 n0 (n0 + n1) j : Nat)) (fun _ _ i => 2 - (intOf i).toNat)
  case atStart => exact ⟨0, by omega, rfl, rfl⟩
  case round =>
    obtain ⟨j, hj, rfl, rfl⟩ := hrel
    rcases (show j = 0 ∨ j = 1 ∨ j = 2 by omega) with rfl | rfl | rfl
    · have e0 := HG0.out
      have e1 : preAp2 0 n0 (n0 + n1) 0 = 0 := rfl
      have hnn0 : n0 ≤ 1000 := by omega
      go_wp2_with fail
      go_round
      case rel => exact ⟨1, by omega, rfl, by first | rfl | go_num⟩
      case measure => simp [intOf]
    · have e0 := HG1.out
      have e1 : preAp2 0 n0 (n0 + n1) 1 = n0 := rfl
      have hnn0 : n0 ≤ 1000 := by omega
      have hnn1 : n1 ≤ 1000 := by omega
      go_wp2_with fail
      go_round
      case rel => exact ⟨2, by omega, rfl, by first | rfl | go_num⟩
      case measure => simp [intOf]
    · have e1 : preAp2 0 n0 (n0 + n1) 2 = (n0 + n1) := rfl
      go_wp2_with fail
      refine (growAAp _ (by omega) (by omega) _).mono ?_; rintro e w1 ⟨v1, rfl, hown1, hb1⟩
      have HO1 := Lib.hid hown1
      have HB1 := Lib.hid hb1
      clear hown1 hb1 e1
      go_wp2_with fail
      go_loopw [6, 8, 27] (fun v _ i wr => ∃ j : Nat, j ≤ 2 ∧ i = .int .i64 j ∧ Hid (ROwn apRec wr w.heap.size v (preAp2 [] l0 (l0 ++ l1) j) ∧ Below w.heap.size w wr)) (fun _ _ i _ => 2 - (intOf i).toNat)
      case atStart => exact ⟨0, by omega, rfl, HO1.out, HB1.out⟩
      case round =>
        obtain ⟨j, hj, rfl, HI⟩ := hrel
        rcases (show j = 0 ∨ j = 1 ∨ j = 2 by omega) with rfl | rfl | rfl
        · have e0 : wr.cell? ⟨g, 0, none⟩ = some (.slice A0 n0 c0) := by rw [HI.out.2.cell hgl]; exact HG0.out
          have HN := Lib.hid (H0.out.keep HI.out.2 HI.out.2.size)
          go_wp2_with (at_builtin; refine app_recs _ apRec rfl (.tmp 31) (.tmp 32) _ rfl w.heap.size (.agg #[.string ⟨#[]⟩, .string ⟨#[]⟩, .int .i64 0, .int .i64 0]) 48 ap_info rfl (by omega) Try.underlying72 u6 _ rfl HI.out.1 _ A0 n0 c0 l0 rfl HN.out (by simp only [preAp2, List.length_nil, List.length_append]; omega) HI.out.2.size ?_; intro v' w' hown' hgrow)
          go_roundw
          case rel => exact ⟨1, by omega, rfl, by simpa [preAp2] using hown', HI.out.1.grow HI.out.2 hgrow HI.out.2.size (Nat.le_refl _)⟩
          case measure => simp [intOf]
        · have e0 : wr.cell? ⟨g, 1, none⟩ = some (.slice A1 n1 c1) := by rw [HI.out.2.cell hgl]; exact HG1.out
          have HN := Lib.hid (H1.out.keep HI.out.2 HI.out.2.size)
          have hll0 := H0.out.len
          go_wp2_with (at_builtin; refine app_recs _ apRec rfl (.tmp 31) (.tmp 32) _ rfl w.heap.size (.agg #[.string ⟨#[]⟩, .string ⟨#[]⟩, .int .i64 0, .int .i64 0]) 48 ap_info rfl (by omega) Try.underlying72 u6 _ rfl HI.out.1 _ A1 n1 c1 l1 rfl HN.out (by simp only [preAp2, List.length_nil, List.length_append]; omega) HI.out.2.size ?_; intro v' w' hown' hgrow)
          go_roundw
          case rel => exact ⟨2, by omega, rfl, by simpa [preAp2] using hown', HI.out.1.grow HI.out.2 hgrow HI.out.2.size (Nat.le_refl _)⟩
          case measure => simp [intOf]
        · go_wp2_with fail
          go_ret
          exact ⟨_, rfl, HI.out.1, HI.out.2⟩
def preAp3 {α : Type} (a0 a1 a2 a3 : α) : Nat → α
  | 0 => a0
  | 1 => a1
  | 2 => a2
  | _ => a3
set_option maxHeartbeats 800000 in
theorem concatAp3 (g : Nat) (A0 A1 A2 : Option Addr) (n0 c0 n1 c1 n2 c2 : Nat) (l0 l1 l2 : List Ap) (w : World) (hg0 : w.cell? ⟨g, 0, none⟩ = some (.slice A0 n0 c0)) (hg1 : w.cell? ⟨g, 1, none⟩ = some (.slice A1 n1 c1)) (hg2 : w.cell? ⟨g, 2, none⟩ = some (.slice A2 n2 c2))
    (h0 : RRow apRec w w.heap.size A0 n0 c0 l0) (h1 : RRow apRec w w.heap.size A1 n1 c1 l1) (h2 : RRow apRec w w.heap.size A2 n2 c2 l2) (hs : n0 + n1 + n2 ≤ 1000) :
    Calls Try.prog 98 #[.slice (some ⟨g, 0, none⟩) 3 3] w (GivesAp (l0 ++ l1 ++ l2) w) := by
  have hgl := World.block_lt_of_cell? w _ hg0
  have H0 := Lib.hid h0
  have HG0 := Lib.hid hg0
  have H1 := Lib.hid h1
  have HG1 := Lib.hid hg1
  have H2 := Lib.hid h2
  have HG2 := Lib.hid hg2
  clear h0 h1 h2 hg0 hg1 hg2
  go_enter Try.func98, Try.ntmps98
  go_wp2_with fail
  go_loop [3, 5, 11] (fun s _ i => ∃ j : Nat, j ≤ 3 ∧ i = .int .i64 j ∧ s = .int .i64 (preAp3 0 n0 (n0 + n1) (n0 + n1 + n2) j : Nat)) (fun _ _ i => 3 - (intOf i).toNat)
  case atStart => exact ⟨0, by omega, rfl, rfl⟩
  case round =>
    obtain ⟨j, hj, rfl, rfl⟩ := hrel
    rcases (show j = 0 ∨ j = 1 ∨ j = 2 ∨ j = 3 by omega) with rfl | rfl | rfl | rfl
    · have e0 := HG0.out
      have e1 : preAp3 0 n0 (n0 + n1) (n0 + n1 + n2) 0 = 0 := rfl
      have hnn0 : n0 ≤ 1000 := by omega
      go_wp2_with fail
      go_round
      case rel => exact ⟨1, by omega, rfl, by first | rfl | go_num⟩
      case measure => simp [intOf]
    · have e0 := HG1.out
      have e1 : preAp3 0 n0 (n0 + n1) (n0 + n1 + n2) 1 = n0 := rfl
      have hnn0 : n0 ≤ 1000 := by omega
      have hnn1 : n1 ≤ 1000 := by omega
      go_wp2_with fail
      go_round
      case rel => exact ⟨2, by omega, rfl, by first | rfl | go_num⟩
      case measure => simp [intOf]
    · have e0 := HG2.out
      have e1 : preAp3 0 n0 (n0 + n1) (n0 + n1 + n2) 2 = (n0 + n1) := rfl
      have hnn0 : n0 ≤ 1000 := by omega
      have hnn1 : n1 ≤ 1000 := by omega
      have hnn2 : n2 ≤ 1000 := by omega
      go_wp2_with fail
      go_round
      case rel => exact ⟨3, by omega, rfl, by first | rfl | go_num⟩
      case measure => simp [intOf]
    · have e1 : preAp3 0 n0 (n0 + n1) (n0 + n1 + n2) 3 = (n0 + n1 + n2) := rfl
      go_wp2_with fail
      refine (growAAp _ (by omega) (by omega) _).mono ?_; rintro e w1 ⟨v1, rfl, hown1, hb1⟩
      have HO1 := Lib.hid hown1
      have HB1 := Lib.hid hb1
      clear hown1 hb1 e1
      go_wp2_with fail
      go_loopw [6, 8, 27] (fun v _ i wr => ∃ j : Nat, j ≤ 3 ∧ i = .int .i64 j ∧ Hid (ROwn apRec wr w.heap.size v (preAp3 [] l0 (l0 ++ l1) (l0 ++ l1 ++ l2) j) ∧ Below w.heap.size w wr)) (fun _ _ i _ => 3 - (intOf i).toNat)
      case atStart => exact ⟨0, by omega, rfl, HO1.out, HB1.out⟩
      case round =>
        obtain ⟨j, hj, rfl, HI⟩ := hrel
        rcases (show j = 0 ∨ j = 1 ∨ j = 2 ∨ j = 3 by omega) with rfl | rfl | rfl | rfl
        · have e0 : wr.cell? ⟨g, 0, none⟩ = some (.slice A0 n0 c0) := by rw [HI.out.2.cell hgl]; exact HG0.out
          have HN := Lib.hid (H0.out.keep HI.out.2 HI.out.2.size)
          go_wp2_with (at_builtin; refine app_recs _ apRec rfl (.tmp 31) (.tmp 32) _ rfl w.heap.size (.agg #[.string ⟨#[]⟩, .string ⟨#[]⟩, .int .i64 0, .int .i64 0]) 48 ap_info rfl (by omega) Try.underlying72 u6 _ rfl HI.out.1 _ A0 n0 c0 l0 rfl HN.out (by simp only [preAp3, List.length_nil, List.length_append]; omega) HI.out.2.size ?_; intro v' w' hown' hgrow)
          go_roundw
          case rel => exact ⟨1, by omega, rfl, by simpa [preAp3] using hown', HI.out.1.grow HI.out.2 hgrow HI.out.2.size (Nat.le_refl _)⟩
          case measure => simp [intOf]
        · have e0 : wr.cell? ⟨g, 1, none⟩ = some (.slice A1 n1 c1) := by rw [HI.out.2.cell hgl]; exact HG1.out
          have HN := Lib.hid (H1.out.keep HI.out.2 HI.out.2.size)
          have hll0 := H0.out.len
          go_wp2_with (at_builtin; refine app_recs _ apRec rfl (.tmp 31) (.tmp 32) _ rfl w.heap.size (.agg #[.string ⟨#[]⟩, .string ⟨#[]⟩, .int .i64 0, .int .i64 0]) 48 ap_info rfl (by omega) Try.underlying72 u6 _ rfl HI.out.1 _ A1 n1 c1 l1 rfl HN.out (by simp only [preAp3, List.length_nil, List.length_append]; omega) HI.out.2.size ?_; intro v' w' hown' hgrow)
          go_roundw
          case rel => exact ⟨2, by omega, rfl, by simpa [preAp3] using hown', HI.out.1.grow HI.out.2 hgrow HI.out.2.size (Nat.le_refl _)⟩
          case measure => simp [intOf]
        · have e0 : wr.cell? ⟨g, 2, none⟩ = some (.slice A2 n2 c2) := by rw [HI.out.2.cell hgl]; exact HG2.out
          have HN := Lib.hid (H2.out.keep HI.out.2 HI.out.2.size)
          have hll0 := H0.out.len
          have hll1 := H1.out.len
          go_wp2_with (at_builtin; refine app_recs _ apRec rfl (.tmp 31) (.tmp 32) _ rfl w.heap.size (.agg #[.string ⟨#[]⟩, .string ⟨#[]⟩, .int .i64 0, .int .i64 0]) 48 ap_info rfl (by omega) Try.underlying72 u6 _ rfl HI.out.1 _ A2 n2 c2 l2 rfl HN.out (by simp only [preAp3, List.length_nil, List.length_append]; omega) HI.out.2.size ?_; intro v' w' hown' hgrow)
          go_roundw
          case rel => exact ⟨3, by omega, rfl, by simpa [preAp3] using hown', HI.out.1.grow HI.out.2 hgrow HI.out.2.size (Nat.le_refl _)⟩
          case measure => simp [intOf]
        · go_wp2_with fail
          go_ret
          exact ⟨_, rfl, HI.out.1, HI.out.2⟩
/-- a literal without elements -/
theorem emptyAp (w : World) : ROwn apRec (w.alloc (.cells #[] 74)) w.heap.size (.slice (some ⟨w.heap.size, 0, none⟩) 0 0) [] :=
  ⟨rfl, .inr ⟨w.heap.size, 0, #[], rfl, Nat.le_refl _, heap_alloc_new w _, Nat.le_refl _, by simp [maxLen], by simp, by simp [Rec.flat]⟩⟩
/-- slices.Clone: nil stays nil -/
theorem cloneAp (A : Option Addr) (n c : Nat) (l : List Ap) (w : World) (h : RRow apRec w w.heap.size A n c l) (hs : n ≤ 1000) :
    Calls Try.prog 99 #[.slice A n c] w (GivesAp l w) := by
  have q22 : ∀ (w : World) (a : Option Addr) (n c n' c' : Nat), (binOp .eql 72 (.slice a n c) (.slice none n' c')).run Try.prog w = .ok (.bool a.isNone) w := fun w a n c n' c' => Lib.run_eql_slice_nil w _ _ a n c n' c' Try.underlying72
  have H := Lib.hid h
  have HS := Lib.hid hs
  clear h hs
  cases A with
  | none =>
    have hn : n = 0 := by
      rcases Nat.eq_zero_or_pos n with h0 | h0
      · exact h0
      · obtain ⟨ad, h, _⟩ := H.out.cells h0; cases h
    subst hn
    obtain rfl := H.out.zero rfl
    have hl : l = [] := List.eq_nil_of_length_eq_zero H.out.len
    subst hl
    go_enter Try.func99, Try.ntmps99
    go_wp2_with fail
    go_ret
    exact ⟨_, rfl, ROwn.nil _ _, Below.refl _ _⟩
  | some ad =>
    go_enter Try.func99, Try.ntmps99
    have HB := Lib.hid (show Below w.heap.size w (w.alloc (.cells #[] 74)) from (Below.refl _ _).alloc (Nat.le_refl _) _)
    have HN := Lib.hid (H.out.keep HB.out HB.out.size)
    go_wp2_with (at_builtin; refine app_recs _ apRec rfl (.tmp 5) (.tmp 6) _ rfl w.heap.size (.agg #[.string ⟨#[]⟩, .string ⟨#[]⟩, .int .i64 0, .int .i64 0]) 48 ap_info rfl (by omega) Try.underlying72 (.slice (some ⟨w.heap.size, 0, none⟩) 0 0) [] rfl (emptyAp w) _ (some ad) n c l rfl HN.out (by have := HS.out; simp only [List.length_nil]; omega) HB.out.size ?_; intro v' w' hown' hgrow)
    go_ret
    exact ⟨_, rfl, by simpa using hown', (emptyAp w).grow HB.out hgrow HB.out.size (Nat.le_refl _)⟩
end Go.Proofs.Ytoomgbddfcmjnaa
