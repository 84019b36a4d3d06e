/- Journals: the frame of a payload. -/
import Derived.Test.YtjhdhnefoclccaaJc
namespace Go.Proofs.Ytjhdhnefoclccaa
open Go.RowKit
def Jn.frame (p : List Int) : List Int := (Jn.four p.length ++ p) ++ Jn.four (Jn.chk (Jn.four p.length ++ p))
def GivesFrame (l : List Int) (w : World) (e : Ending) (w' : World) : Prop := ∃ v, e = .returned (.tuple #[v, .int .i64 0]) ∧ Own w' w.heap.size 5 .u8 v l ∧ Below w.heap.size w w'
set_option maxRecDepth 100000 in
set_option maxHeartbeats 800000 in
theorem frame23 (A : Option Addr) (n c : Nat) (l : List Int) (w : World) (h : Nums w .u8 w.heap.size A n c l) (hs : n ≤ 4096) :
    Calls Try.prog 25 #[.slice A n c] w (GivesFrame (Jn.frame l) w) := by
  have H := Lib.hid h
  have HS := Lib.hid hs
  have hs' : decide (4096 < (n : Int)) = false := by simp; omega
  clear h hs
  go_enter Try.func25, Try.ntmps25
  go_wp2_with fail
  refine (number23 _ (by omega) (by have := HS.out; omega) _).mono ?_; rintro e w1 ⟨v1, rfl, hown1, hb1⟩
  obtain ⟨A1, c1, rfl, hn1⟩ := hown1.nums (Jn.four_wf _)
  have HN1 := Lib.hid hn1
  have HB1 := Lib.hid hb1
  clear hown1 hn1 hb1
  go_wp2_with fail
  obtain ⟨w2, hw2⟩ : ∃ w2 : World, w1.alloc (.cells #[.slice A1 (Jn.four n).length c1, .slice A n c] 22) = w2 := ⟨_, rfl⟩
  have hb2 : Below w1.heap.size w1 w2 := by rw [← hw2]; exact (Below.refl _ _).alloc (Nat.le_refl _) _
  have g0 : w2.cell? ⟨w1.heap.size, 0, none⟩ = some (.slice A1 (Jn.four n).length c1) := by rw [← hw2]; simp [go_sem]
  have g1 : w2.cell? ⟨w1.heap.size, 1, none⟩ = some (.slice A n c) := by rw [← hw2]; simp [go_sem]
  rw [hw2]
  refine (concat2 _ _ _ _ _ _ _ _ l w2 g0 g1 (HN1.out.keep hb2 hb2.size) (H.out.keep (HB1.out.trans (hb2.mono HB1.out.size)) (Nat.le_trans HB1.out.size hb2.size)) (by have := HS.out; simp [Jn.four]; omega)).mono ?_; rintro e w3 ⟨v3, rfl, hown3, hb3⟩
  have hwf3 : ∀ x ∈ Jn.four n ++ l, (Lit.int .u8 x).wf = true := fun x hx => (List.mem_append.1 hx).elim (Jn.four_wf _ x) (H.out.wf x)
  obtain ⟨A3, c3, rfl, hn3⟩ := hown3.nums hwf3
  have hlen3 : (Jn.four n ++ l).length = n + 4 := by simp [Jn.four, H.out.len]
  have HB3 := Lib.hid (HB1.out.trans ((hb2.trans (hb3.mono hb2.size)).mono HB1.out.size))
  have HO3 := Lib.hid (hown3.base_le (Nat.le_trans HB1.out.size hb2.size))
  have HN3 := Lib.hid hn3
  have HL3 := Lib.hid hlen3
  have hfr : Jn.frame l = (Jn.four n ++ l) ++ Jn.four (Jn.chk (Jn.four n ++ l)) := by unfold Jn.frame; rw [H.out.len]
  have HFR := Lib.hid hfr
  generalize Jn.four n ++ l = f at *
  clear hown3 hn3 hb3 hwf3 hlen3 hfr hb2 g0 g1 hw2
  go_wp2_with fail
  refine (check23 _ _ _ _ _ HN3.out (by have := HL3.out; have := HS.out; omega)).mono ?_; rintro e w' ⟨rfl, rfl⟩
  have hc := Jn.chk_bd f
  go_wp2_with fail
  refine (number23 _ hc.1 (by omega) _).mono ?_; rintro e w4 ⟨v4, rfl, hown4, hb4⟩
  obtain ⟨A4, c4, rfl, hn4⟩ := hown4.nums (Jn.four_wf _)
  have HN4 := Lib.hid hn4
  have HB4 := Lib.hid (HB3.out.trans (hb4.mono HB3.out.size))
  have HO4 := Lib.hid (HO3.out.below hb4)
  have HL4 := Lib.hid (show (Jn.four (Jn.chk f)).length = 4 from rfl)
  generalize Jn.four (Jn.chk f) = f4 at *
  clear hown4 hn4 hb4 hc
  go_wp2_with (at_builtin; refine app_ints _ rfl (.tmp 14) (.tmp 17) _ rfl w.heap.size 5 1 .u8 byte_info Try.underlying22 (.slice A3 f.length c3) f rfl HO4.out _ A4 f4.length c4 f4 rfl HN4.out (by have := HL3.out; have := HL4.out; have := HS.out; simp only [maxLen]; omega) (by have := HL3.out; have := HL4.out; have := HS.out; omega) HB4.out.size ?_; intro v' w' hown' hgrow)
  go_ret2
  exact ⟨_, rfl, by rw [HFR.out]; exact hown', HO4.out.grow HB4.out hgrow HB4.out.size (Nat.le_refl _)⟩
theorem frame23_limit (A : Option Addr) (n c : Nat) (w : World) (hn : 4096 < n) :
    Calls Try.prog 25 #[.slice A n c] w fun e w' => e = .returned (.tuple #[.slice none 0 0, .int .i64 1]) ∧ w = w' := by
  go_enter Try.func25, Try.ntmps25
  go_wp2_with fail
  go_ret2
  exact ⟨rfl, rfl⟩
end Go.Proofs.Ytjhdhnefoclccaa
