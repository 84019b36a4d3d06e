/- Journals: the example that every law asks. -/
import Derived.Test.YtjhdhnefoclccaaJa
import Derived.Test.YtjhdhnefoclccaaStr
namespace Go.Proofs.Ytjhdhnefoclccaa
open Go.RowKit
theorem Below.drewN {B : Nat} {a w : World} (h : Below B a w) (n : Nat) : Below B a (w.drewN n) := ⟨h.os, h.tape, h.output, h.size, h.block⟩
theorem Own.empty2 (w : World) (o : Obj) (e : TypeId) (k : IntKind) : Own ((w.alloc o).alloc (.cells #[] e)) w.heap.size e k (.slice (some ⟨w.heap.size + 1, 0, none⟩) 0 0) [] := by
  have h := (Own.empty (w.alloc o) e k).base_le (base' := w.heap.size) (by simp)
  rwa [show (w.alloc o).heap.size = w.heap.size + 1 from by simp] at h
theorem Jn.ex_frame : Jn.frame [5] = [0, 0, 0, 1, 5, 0, 0, 0, 29] := by decide +kernel
theorem Jn.ex_read : Jn.read [0, 0, 0, 1, 5, 0, 0, 0, 29, 0, 0, 0, 1, 5, 0, 0, 0] = ([[5]], 9) := by decide +kernel
theorem Jn.ex_str : strOfNums [0, 0, 0, 1, 5, 0, 0, 0, 29] = { data := #[0, 0, 0, 1, 5, 0, 0, 0, 29] } := rfl
theorem Jn.ex_str5 : strOfNums [5] = { data := #[5] } := rfl
theorem Jn.ex_recover (A : Option Addr) (c : Nat) (w : World) (h : Nums w .u8 w.heap.size A 17 c ([] ++ [0, 0, 0, 1, 5, 0, 0, 0, 29] ++ [0, 0, 0, 1, 5, 0, 0, 0])) :
    Calls Try.prog 15 #[.agg #[.slice A 17 c, .slice none 0 0]] w (GivesRecover [0, 0, 0, 1, 5, 0, 0, 0, 29] [[5]] w) := by
  have h1 := recover23 A none 17 c 0 0 _ w h (by omega)
  rw [show Jn.read ([] ++ [0, 0, 0, 1, 5, 0, 0, 0, 29] ++ [0, 0, 0, 1, 5, 0, 0, 0]) = ([[5]], 9) from Jn.ex_read] at h1
  exact h1
theorem Jn.ex_fin {K : Act → World → Prop} {Q : Exit → Act → World → Prop} {a : Act} {W w1 : World} {base : Nat} {v5 : Value} {a1 : Addr} {c1 : Nat}
    (hR : OwnRows W base 22 5 .u8 v5 [[5]]) (hB : Below w1.heap.size w1 W) (hn1 : Nums w1 .u8 w1.heap.size (some a1) 9 c1 [0, 0, 0, 1, 5, 0, 0, 0, 29])
    (k : ∀ (g c5 : Nat) (Ai : Option Addr) (ci : Nat), v5 = .slice (some ⟨g, 0, none⟩) 1 c5 → W.cell? ⟨g, 0, none⟩ = some (.slice Ai 1 ci) →
      (convert 22 9 (.slice Ai 1 ci)).run Try.prog W = .ok (.string { data := #[5] }) W →
      (convert 22 9 (.slice (some a1) 9 c1)).run Try.prog W = .ok (.string { data := #[0, 0, 0, 1, 5, 0, 0, 0, 29] }) W →
      Below w1.heap.size w1 W → Exit.then K Q .normal a W) : Exit.then K Q .normal a W := by
  obtain ⟨A, c, rfl, _, hc⟩ := hR.read
  obtain ⟨g, vi, rfl, _, hcell, hown⟩ := hc 0 (by simp)
  obtain ⟨Ai, ci, rfl, hni⟩ := hown.nums (by decide)
  exact k g c Ai ci rfl hcell (hni.str _ _ _ Try.underlying22 Try.underlying5 Try.underlying9)
    ((hn1.keep hB (Nat.le_refl _)).str _ _ _ Try.underlying22 Try.underlying5 Try.underlying9) hB
set_option maxRecDepth 100000 in
set_option maxHeartbeats 3200000 in
theorem awake23 (w : World) : Calls Try.prog 11 #[] w fun e w' => e = .returned (.bool true) ∧ Below w.heap.size w w' := by
  have hn0 : Nums (w.alloc (.cells #[.int .u8 5] 5)) .u8 (w.alloc (.cells #[.int .u8 5] 5)).heap.size (some ⟨w.heap.size, 0, none⟩) 1 1 [5] := by
    refine Nums.lit [5] (by simp) (by simp) (fun j hj => ?_) (by decide)
    obtain rfl : j = 0 := by simp at hj; omega
    simp [go_sem]
  have HN0 := Lib.hid hn0
  clear hn0
  go_enter Try.func11, Try.ntmps11
  go_wp2_with fail
  refine (frame23 _ 1 1 [5] _ HN0.out (by omega)).mono ?_; rintro e w1 ⟨v1, rfl, hown1, hb1⟩
  have HB1 := Lib.hid (((Below.refl w.heap.size w).alloc (Nat.le_refl _) (.cells #[.int .u8 5] 5)).trans (hb1.mono (by simp)))
  rw [Jn.ex_frame] at hown1
  obtain ⟨A1, c1, rfl, hn1⟩ := hown1.nums (by decide)
  obtain ⟨a1, rfl⟩ : ∃ a1, A1 = some a1 := by
    obtain ⟨a, h, _⟩ := hn1.cells (by decide); exact ⟨a, h⟩
  have hc1 : (8 : Int) ≤ c1 := by have := hn1.cap; simp at this; omega
  have HN1 := Lib.hid hn1
  clear hown1 hn1 hb1
  rw [show ([0, 0, 0, 1, 5, 0, 0, 0, 29] : List Int).length = 9 from rfl] at *
  have HP1 := Lib.hid (show Nums w1 .u8 w1.heap.size (some a1) 8 c1 [0, 0, 0, 1, 5, 0, 0, 0] from HN1.out.pre (k := 8) (by omega))
  go_wp2_with fail
  go_region_held3 (fun w' => Below w1.heap.size w1 w')
    (first | assumption | (exact below_of_drawn 1) | (exact Below.drewN ((Below.refl _ _).alloc (Nat.le_refl _) _) 1) | (exact Below.alloc (by assumption) (by first | exact Below.size (by assumption) | simp) _) | (exact below_next (by assumption) (by assumption) (Below.size (by assumption))) | (exact hbel) | (exact hbel19) | (exact hbel4) | (exact Below.drewN (by assumption) 1) | (refine Below.setCell (Below.setCell (by assumption) (by first | omega | exact Below.size (by assumption) | (simp; done)) _) (by first | omega | exact Below.size (by assumption) | (simp; done)) _))
    (first
      | (refine step_app_ints _ rfl (.tmp 11) (.tmp 12) _ rfl w1.heap.size 5 1 .u8 byte_info Try.underlying22 _ [] rfl
          (by first | exact Own.empty w1.drew _ _ | exact (Own.empty w1.drew _ _).alloc _ | exact Own.empty2 w1.drew _ _ _) _ a1 9 c1 _ rfl (HN1.out.keep (by assumption) (Below.size (by assumption)))
          (by simp [maxLen]) (by simp) (Below.size (by assumption)) ?_
         intro v13 w13 hown13 hgrow13
         have hbel : Below w1.heap.size w1 w13 := Own.grow (w0 := w1) (B := w1.heap.size) (base := w1.heap.size) (e := 5) (k := .u8) (l := []) (by first | exact Own.empty w1.drew _ _ | exact (Own.empty w1.drew _ _).alloc _ | exact Own.empty2 w1.drew _ _ _) (by assumption) hgrow13 (by first | exact Below.size (by assumption) | simp) (by simp)
         have hf13 := fun f cs fr h => Own.blk (f := f) (cs := cs) (fr := fr) (base := w1.heap.size) (e := 5) (k := .u8) (l := []) (by first | exact Own.empty w1.drew _ _ | exact (Own.empty w1.drew _ _).alloc _ | exact Own.empty2 w1.drew _ _ _) hgrow13 h (by decide : 5 ≠ 29))
      | (refine step_app_ints _ rfl (.tmp 13) (.tmp 18) _ rfl w1.heap.size 5 1 .u8 byte_info Try.underlying22 _ _ rfl
          (by first | exact hown13 | exact hown13.alloc _) _ a1 8 c1 _ rfl (HP1.out.keep (by assumption) (Below.size (by assumption)))
          (by simp [maxLen]) (by simp) (Below.size (by assumption)) ?_
         intro v19 w19 hown19 hgrow19
         have hbel19 : Below w1.heap.size w1 w19 := Own.grow (w0 := w1) (B := w1.heap.size) (base := w1.heap.size) (e := 5) (k := .u8) (l := [] ++ [0, 0, 0, 1, 5, 0, 0, 0, 29]) (by first | exact hown13 | exact hown13.alloc _) (by assumption) hgrow19 (by first | exact Below.size (by assumption) | simp) (by simp)
         obtain ⟨A19, c19, rfl, hn19⟩ := hown19.nums (by decide)
         have hf19 := fun f cs fr h => Own.blk (f := f) (cs := cs) (fr := fr) (base := w1.heap.size) (e := 5) (k := .u8) (l := [] ++ [0, 0, 0, 1, 5, 0, 0, 0, 29]) (by first | exact hown13 | exact hown13.alloc _) hgrow19 h (by decide : 5 ≠ 29))
      | ((go_at_call 15)
         refine (Jn.ex_recover A19 c19 _ (by first | exact hn19 | exact Nums.keep hn19 ((Below.refl _ _).alloc (Nat.le_refl _) _) (by simp))).mono ?_
         rintro e w4 ⟨v4, v5, rfl, hown4, hrows4, hb4⟩
         have hbel4 : Below w1.heap.size w1 w4 := Below.trans (by assumption) (hb4.mono (Below.size (by assumption)))
         obtain ⟨A4, c4, rfl, _⟩ := hown4.nums (by decide)
         first
           | have hbox := box4 (f := w1.heap.size) (t := 29) (v0 := .slice none 0 0) (v1 := .slice none 0 0) (hf19 w1.heap.size #[.slice none 0 0, .slice none 0 0] (0, 0) (hf13 w1.heap.size #[.slice none 0 0, .slice none 0 0] (0, 0) (heap_old w1 (.cells #[.slice none 0 0, .slice none 0 0] 29) (.cells #[] 5)))) hb4
           | have hbox := box4 (f := w1.heap.size + 1) (t := 29) (v0 := .slice none 0 0) (v1 := .slice none 0 0) (hf19 (w1.heap.size + 1) #[.slice none 0 0, .slice none 0 0] (0, 0) (hf13 (w1.heap.size + 1) #[.slice none 0 0, .slice none 0 0] (0, 0) (heap_new2 w1 (.cells #[] 5) (.cells #[.slice none 0 0, .slice none 0 0] 29)))) hb4
           | have hbox := box4 (f := w13.heap.size) (t := 29) (v0 := .slice none 0 0) (v1 := .slice none 0 0) (hf19 w13.heap.size #[.slice none 0 0, .slice none 0 0] (0, 0) (heap_alloc_new w13 (.cells #[.slice none 0 0, .slice none 0 0] 29))) hb4
           | have hbox := box4 (f := w19.heap.size) (t := 29) (v0 := .slice none 0 0) (v1 := .slice none 0 0) (heap_alloc_new w19 (.cells #[.slice none 0 0, .slice none 0 0] 29)) hb4
           | skip
         try obtain ⟨q0, q1, q2, q3, q4⟩ := hbox))
  all_goals
    refine Jn.ex_fin (w1 := w1) (a1 := a1) (c1 := c1) (v5 := v5) (by first | exact (hrows4.setCell q4 _).setCell q4 _ | exact hrows4.setCell q4 _ | exact hrows4.below ((Below.refl _ _).alloc (Nat.le_refl _) _)) (by assumption) HN1.out ?_
    rintro g c5 Ai ci rfl hg hs1 hs2 hB
    clear hrows4 hown4 hown13 hown19 hgrow13 hgrow19 hf13 hf19 hn19
    go_wp2
    exact bodyPost_ret (v := .bool true) (by simp [results, Try.results11, go_sem, *]) rfl ⟨rfl, HB1.out.trans (hB.mono HB1.out.size)⟩
end Go.Proofs.Ytjhdhnefoclccaa
