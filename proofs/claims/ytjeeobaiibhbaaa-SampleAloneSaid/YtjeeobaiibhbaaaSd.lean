/- Samples: a list is chosen person by person. -/
import Derived.Test.YtjeeobaiibhbaaaSb
namespace Go.Proofs.Ytjeeobaiibhbaaa
open Go.RowKit
set_option maxRecDepth 100000 in
set_option maxHeartbeats 800000 in
theorem walkAlone (w : World) (p : Int) (_ : -9223372036854775808 ≤ p) (_ : p ≤ 9223372036854775807) (o : Int) (_ : -9223372036854775808 ≤ o) (_ : o ≤ 9223372036854775807) (s : Int) (hs : -9223372036854775808 ≤ s) (hs' : s ≤ 9223372036854775807)
    (t : Int) (ht : 0 ≤ t) (ht' : t ≤ 65535) (A : Option Addr) (n c : Nat) (l : List Int) (h : Nums w .i64 w.heap.size A n c l) :
    Calls Try.prog 5 #[.agg #[.int .i64 p, .int .i64 o, .int .i64 s], .int .u16 t, .slice A n c] w fun e w' => e = .returned (.bool true) ∧ Below w.heap.size w w' := by
  have hm : n ≤ 9223372036854775807 := by have := h.cap; have := h.max; unfold maxLen at this; omega
  have H := Lib.hid h
  clear h
  by_cases hn : 100 < n
  · go_enter Try.func5, Try.ntmps5
    go_wp2_with fail
    refine (awake11 _).mono ?_; rintro e w1 ⟨rfl, hb1⟩
    have HB1 := Lib.hid ((Below.refl w.heap.size w).alloc (Nat.le_refl _) (.cells #[.int .i64 p, .int .i64 o, .int .i64 s] 23) |>.trans (hb1.mono (by simp)))
    clear hb1
    go_wp2_with fail
    go_ret
    exact ⟨rfl, HB1.out⟩
  · go_enter Try.func5, Try.ntmps5
    go_wp2_with fail
    refine (limited11 p o s t hs hs' ht ht' _).mono ?_; rintro e w1 ⟨P, O, S, hfit, rfl, hb1⟩
    have HB1 := Lib.hid ((Below.refl w.heap.size w).alloc (Nat.le_refl _) (.cells #[.int .i64 p, .int .i64 o, .int .i64 s] 23) |>.trans (hb1.mono (by simp)))
    clear hfit hb1
    go_wp2_with fail
    obtain ⟨W, hW⟩ : ∃ W : World, w1.alloc (.cells #[.int .i64 P, .int .i64 O, .int .i64 S] 23) = W := ⟨_, rfl⟩
    have c0 : W.cell? ⟨w1.heap.size, 0, none⟩ = some (.int .i64 P) := by rw [← hW]; simp [go_sem]
    have c1 : W.cell? ⟨w1.heap.size, 1, none⟩ = some (.int .i64 O) := by rw [← hW]; simp [go_sem]
    have c2 : W.cell? ⟨w1.heap.size, 2, none⟩ = some (.int .i64 S) := by rw [← hW]; simp [go_sem]
    have HBW := Lib.hid (show Below w.heap.size w W by rw [← hW]; exact HB1.out.alloc HB1.out.size _)
    have HSZ := Lib.hid (show w1.heap.size < W.heap.size by rw [← hW]; simp)
    have HC := Lib.hid (And.intro c0 (And.intro c1 c2))
    clear c0 c1 c2
    rw [hW]
    clear hW
    have HN := Lib.hid (H.out.keep HBW.out HBW.out.size)
    go_loopw [8, 10, 20] (fun v _ i wr => ∃ j : Nat, j ≤ n ∧ i = .int .i64 j ∧ Hid (Own wr W.heap.size 3 .i64 v ((l.take j).filter (Sm.inS P O S)) ∧ Below W.heap.size W wr)) (fun _ _ i _ => n - (intOf i).toNat)
    case atStart => exact ⟨0, by omega, rfl, ⟨by simpa using Own.nil _ _ _ _, Below.refl _ _⟩⟩
    case round =>
      obtain ⟨j, hj, rfl, HI⟩ := hrel
      have e0 : wr.cell? ⟨w1.heap.size, 0, none⟩ = some (.int .i64 P) := by rw [HI.out.2.cell HSZ.out]; exact HC.out.1
      have e1 : wr.cell? ⟨w1.heap.size, 1, none⟩ = some (.int .i64 O) := by rw [HI.out.2.cell HSZ.out]; exact HC.out.2.1
      have e2 : wr.cell? ⟨w1.heap.size, 2, none⟩ = some (.int .i64 S) := by rw [HI.out.2.cell HSZ.out]; exact HC.out.2.2
      by_cases hlt : j < n
      · obtain ⟨ad, x, rfl, _, HX, hx, hwx⟩ := (HN.out.keep HI.out.2 HI.out.2.size).val hlt
        have hlen := Lib.hid (show ((l.take j).filter (Sm.inS P O S)).length ≤ 100 from Nat.le_trans (List.length_filter_le _ _) (by rw [List.length_take]; omega))
        have HWX := Lib.hid hwx
        clear hwx
        go_wp2_with fail
        have hn1 : Nums (wr.alloc (.cells #[.int .i64 x] 3)) .i64 (wr.alloc (.cells #[.int .i64 x] 3)).heap.size (some ⟨wr.heap.size, 0, none⟩) 1 1 [x] := by
          refine Nums.lit [x] (by simp) (by simp) (fun i hi => ?_) (by intro y hy; simp at hy; subst hy; exact HWX.out)
          obtain rfl : i = 0 := by simp at hi; omega
          simp [go_sem]
        refine (chosen11 P O S _ 1 1 [x] _ hn1 (by omega)).mono ?_; rintro e w2 ⟨v2, rfl, hown2, hb2⟩
        have hwf2 : ∀ y ∈ [x].filter (Sm.inS P O S), (Lit.int .i64 y).wf = true := fun y hy => by
          have := (List.mem_filter.1 hy).1; simp at this; subst this; exact HWX.out
        obtain ⟨A2, c3, rfl, hn2⟩ := hown2.nums hwf2
        have hb0 : Below wr.heap.size wr w2 := ((Below.refl _ _).alloc (Nat.le_refl _) _).trans (hb2.mono (by simp))
        have HO := Lib.hid (HI.out.1.below hb0)
        have HBL := Lib.hid (HI.out.2.trans (hb0.mono HI.out.2.size))
        have HN2 := Lib.hid hn2
        have hm2 := Lib.hid (show ([x].filter (Sm.inS P O S)).length ≤ 1 from List.length_filter_le _ _)
        have HS := Lib.hid (filter_take_succ (Sm.inS P O S) HX.out)
        have HE := Lib.hid (show [x].filter (Sm.inS P O S) = if Sm.inS P O S x then [x] else [] by cases h : Sm.inS P O S x <;> simp [List.filter, h])
        generalize [x].filter (Sm.inS P O S) = l2 at *
        clear hn1 hown2 hb2 hwf2 hn2 hb0 e0 e1 e2 hx
        go_wp2_with (at_builtin; refine app_ints _ rfl (.tmp 24) (.tmp 28) _ rfl W.heap.size 3 8 .i64 int_info11 Try.underlying25 u8 _ rfl HO.out _ A2 l2.length c3 l2 rfl HN2.out (by have := hlen.out; have := hm2.out; simp only [maxLen]; omega) (by have := hlen.out; have := hm2.out; omega) HBL.out.size ?_; intro v' w' hown' hgrow)
        go_roundw
        case rel =>
          exact ⟨j + 1, by omega, by go_num, ⟨by rw [HS.out, ← HE.out]; exact hown', HO.out.grow HBL.out hgrow HBL.out.size (Nat.le_refl _)⟩⟩
        case measure => simp [intOf]; omega
      · obtain rfl : j = n := by omega
        have hfin := HI.out.1
        rw [take_len H.out.len] at hfin
        have hwf : ∀ y ∈ l.filter (Sm.inS P O S), (Lit.int .i64 y).wf = true := fun y hy => H.out.wf y (List.mem_filter.1 hy).1
        obtain ⟨A5, c5, rfl, hn5⟩ := hfin.nums hwf
        have HN5 := Lib.hid hn5
        clear hfin hn5
        go_wp2_with fail
        refine (chosen11 P O S _ _ _ l _ (HN.out.keep HI.out.2 HI.out.2.size) (by omega)).mono ?_; rintro e w2 ⟨v2, rfl, hown2, hb2⟩
        obtain ⟨A2, c3, rfl, hn2⟩ := hown2.nums hwf
        have HN2 := Lib.hid hn2
        have HN5' := Lib.hid (HN5.out.keep hb2 hb2.size)
        have HBL := Lib.hid (HI.out.2.trans (hb2.mono HI.out.2.size))
        generalize l.filter (Sm.inS P O S) = lf at *
        clear hown2 hn2 hwf hb2 e0 e1 e2
        go_wp2_with fail
        refine (ints_any _ _ _ _ _ _ _ _ _ _ _ HN2.out HN5'.out).mono ?_; rintro e w3 ⟨rfl, m, rfl⟩
        have hd : decide (lf = lf) = true := by simp
        rw [hd]
        go_wp2_with fail
        refine (awake11 _).mono ?_; rintro e w4 ⟨rfl, hb4⟩
        have HB4 := Lib.hid hb4
        clear hb4
        go_wp2_with fail
        go_ret
        exact ⟨rfl, HBW.out.trans (((below_drewN HBL.out m).trans (HB4.out.mono (by exact HBL.out.size))).mono HBW.out.size)⟩
end Go.Proofs.Ytjeeobaiibhbaaa
