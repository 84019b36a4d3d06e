/- api.Shift: slices.Grow of nothing, slices.Concat of two and of three, slices.Clone. -/
import Derived.Test.YtoomgbddfcmjnaaTc
import Derived.WalkSpells
import Derived.Lib.SliceRun
namespace Go.Proofs.Ytoomgbddfcmjnaa
open Go.RowKit
set_option linter.unusedSimpArgs false
def GivesSf (L : List Sf) (w : World) (e : Ending) (w' : World) : Prop := ∃ v, e = .returned v ∧ ROwn sfRec w' w.heap.size v L ∧ Below w.heap.size w w'
theorem grow0Sf (w : World) : Calls Try.prog 110 #[.slice none 0 0, .int .i64 0] w (GivesSf [] w) := by
  go_enter Try.func110, Try.ntmps110
  go_wp2
  go_ret
  exact ⟨_, rfl, ROwn.nil _ _, Below.refl _ _⟩
theorem grow1Sf (n : Nat) (hn : 0 < n) (hn' : n ≤ 1000) (w : World) : Calls Try.prog 110 #[.slice none 0 0, .int .i64 n] w (GivesSf [] w) := by
  have tb : Try.t31.bytes = 32 := by kernel_rfl
  have q1 : ¬ (281474976710656 < (n : Int) * 32) := by omega
  have q2 : ¬ (281474976710656 < Builtin.nextslicecap n 0 * 32) := by have := growslice_fits (need := n) (old := 0) (bytes := 32) (by omega) (by omega); omega
  have hge : n ≤ (Question.appendCap n 0 31).cut (w.tape w.drawn (Question.appendCap n 0 31)) := grownCap_ge w n 0 31
  have hmax : (Question.appendCap n 0 31).cut (w.tape w.drawn (Question.appendCap n 0 31)) ≤ 9223372036854775807 := by
    have := grownCap_le_maxLen w n 0 31 (by unfold maxLen; omega); unfold maxLen at this; exact Nat.le_trans this (by omega)
  have HG := Lib.hid hge
  have HM := Lib.hid hmax
  clear hge hmax
  go_enter Try.func110, Try.ntmps110
  go_wp2
  go_ret
  refine ⟨_, rfl, ⟨rfl, .inr ⟨w.heap.size, _, _, rfl, Nat.le_refl _, heap_alloc_new w _, Nat.zero_le _, by unfold maxLen; exact HM.out, ?_, by simp [Rec.flat]⟩⟩, ((Below.refl _ _).alloc (Nat.le_refl _) _).drew⟩
  have := HG.out
  simp [size_zeroCells, sfRec]
  try omega
theorem growASf (n : Int) (h0 : 0 ≤ n) (h1 : n ≤ 1000) (w : World) : Calls Try.prog 110 #[.slice none 0 0, .int .i64 n] w (GivesSf [] w) := by
  obtain ⟨n, rfl⟩ := Int.eq_ofNat_of_zero_le h0
  rcases Nat.eq_zero_or_pos n with rfl | hn
  · exact grow0Sf w
  · exact grow1Sf n hn (by omega) w
def preSf2 {α : Type} (a0 a1 a2 : α) : Nat → α
  | 0 => a0
  | 1 => a1
  | _ => a2
set_option maxHeartbeats 800000 in
theorem concatSf2 (g : Nat) (A0 A1 : Option Addr) (n0 c0 n1 c1 : Nat) (l0 l1 : List Sf) (w : World) (hg0 : w.cell? ⟨g, 0, none⟩ = some (.slice A0 n0 c0)) (hg1 : w.cell? ⟨g, 1, none⟩ = some (.slice A1 n1 c1))
    (h0 : RRow sfRec w w.heap.size A0 n0 c0 l0) (h1 : RRow sfRec w w.heap.size A1 n1 c1 l1) (hs : n0 + n1 ≤ 1000) :
    Calls Try.prog 62 #[.slice (some ⟨g, 0, none⟩) 2 2] w (GivesSf (l0 ++ l1) w) := by
  have hgl := World.block_lt_of_cell? w _ hg0
  have H0 := Lib.hid h0
  have HG0 := Lib.hid hg0
  have H1 := Lib.hid h1
  have HG1 := Lib.hid hg1
  clear h0 h1 hg0 hg1
  go_enter Try.func62, Try.ntmps62
  go_wp2_with fail
  go_loop [3, 5, 11] (fun s _ i => ∃ j : Nat, j ≤ 2 ∧ i = .int .i64 j ∧ s = .int .i64 (preSf2 0 n0 (n0 + n1) j : Nat)) (fun _ _ i => 2 - (intOf i).toNat)
  case atStart => exact ⟨0, by omega, rfl, rfl⟩
  case round =>
    obtain ⟨j, hj, rfl, rfl⟩ := hrel
    rcases (show j = 0 ∨ j = 1 ∨ j = 2 by omega) with rfl | rfl | rfl
    · have e0 := HG0.out
      have e1 : preSf2 0 n0 (n0 + n1) 0 = 0 := rfl
      have hnn0 : n0 ≤ 1000 := by omega
      go_wp2_with fail
      go_round
      case rel => exact ⟨1, by omega, rfl, by first | rfl | go_num⟩
      case measure => simp [intOf]
    · have e0 := HG1.out
      have e1 : preSf2 0 n0 (n0 + n1) 1 = n0 := rfl
      have hnn0 : n0 ≤ 1000 := by omega
      have hnn1 : n1 ≤ 1000 := by omega
      go_wp2_with fail
      go_round
      case rel => exact ⟨2, by omega, rfl, by first | rfl | go_num⟩
      case measure => simp [intOf]
    · have e1 : preSf2 0 n0 (n0 + n1) 2 = (n0 + n1) := rfl
      go_wp2_with fail
      refine (growASf _ (by omega) (by omega) _).mono ?_; rintro e w1 ⟨v1, rfl, hown1, hb1⟩
      have HO1 := Lib.hid hown1
      have HB1 := Lib.hid hb1
      clear hown1 hb1 e1
      go_wp2_with fail
      go_loopw [6, 8, 27] (fun v _ i wr => ∃ j : Nat, j ≤ 2 ∧ i = .int .i64 j ∧ Hid (ROwn sfRec wr w.heap.size v (preSf2 [] l0 (l0 ++ l1) j) ∧ Below w.heap.size w wr)) (fun _ _ i _ => 2 - (intOf i).toNat)
      case atStart => exact ⟨0, by omega, rfl, HO1.out, HB1.out⟩
      case round =>
        obtain ⟨j, hj, rfl, HI⟩ := hrel
        rcases (show j = 0 ∨ j = 1 ∨ j = 2 by omega) with rfl | rfl | rfl
        · have e0 : wr.cell? ⟨g, 0, none⟩ = some (.slice A0 n0 c0) := by rw [HI.out.2.cell hgl]; exact HG0.out
          have HN := Lib.hid (H0.out.keep HI.out.2 HI.out.2.size)
          go_wp2_with (at_builtin; refine app_recs _ sfRec rfl (.tmp 31) (.tmp 32) _ rfl w.heap.size (.agg #[.string ⟨#[]⟩, .int .i64 0, .int .i64 0]) 32 sf_info rfl (by omega) Try.underlying25 u6 _ rfl HI.out.1 _ A0 n0 c0 l0 rfl HN.out (by simp only [preSf2, List.length_nil, List.length_append]; omega) HI.out.2.size ?_; intro v' w' hown' hgrow)
          go_roundw
          case rel => exact ⟨1, by omega, rfl, by simpa [preSf2] using hown', HI.out.1.grow HI.out.2 hgrow HI.out.2.size (Nat.le_refl _)⟩
          case measure => simp [intOf]
        · have e0 : wr.cell? ⟨g, 1, none⟩ = some (.slice A1 n1 c1) := by rw [HI.out.2.cell hgl]; exact HG1.out
          have HN := Lib.hid (H1.out.keep HI.out.2 HI.out.2.size)
          have hll0 := H0.out.len
          go_wp2_with (at_builtin; refine app_recs _ sfRec rfl (.tmp 31) (.tmp 32) _ rfl w.heap.size (.agg #[.string ⟨#[]⟩, .int .i64 0, .int .i64 0]) 32 sf_info rfl (by omega) Try.underlying25 u6 _ rfl HI.out.1 _ A1 n1 c1 l1 rfl HN.out (by simp only [preSf2, List.length_nil, List.length_append]; omega) HI.out.2.size ?_; intro v' w' hown' hgrow)
          go_roundw
          case rel => exact ⟨2, by omega, rfl, by simpa [preSf2] using hown', HI.out.1.grow HI.out.2 hgrow HI.out.2.size (Nat.le_refl _)⟩
          case measure => simp [intOf]
        · go_wp2_with fail
          go_ret
          exact ⟨_, rfl, HI.out.1, HI.out.2⟩
end Go.Proofs.Ytoomgbddfcmjnaa
