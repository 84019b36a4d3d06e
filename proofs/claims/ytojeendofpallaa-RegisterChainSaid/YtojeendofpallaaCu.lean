/- Cells: the law that being finer is an order, walked. -/
import Derived.Test.YtojeendofpallaaCr
import Derived.Test.YtojeendofpallaaCx
import Derived.Test.YtojeendofpallaaIw
namespace Go.Proofs.Ytojeendofpallaa
open Go.RowKit
namespace Ce
theorem nextN_pre {x y : List Int} : ∀ {j}, (∀ c, c < j → x.getD c 0 = y.getD c 0) → nextN x j = nextN y j
  | 0, _ => rfl
  | j + 1, h => by
    have h1 := nextN_pre (j := j) (fun c hc => h c (by omega))
    simp only [nextN]
    rw [h1, h j (by omega)]
theorem occurs {x : List Int} {v : Int} (h0 : 0 ≤ v) : ∀ {j}, v < nextN x j → ∃ c, c < j ∧ x.getD c 0 = v
  | 0, h => by simp [nextN] at h; omega
  | j + 1, h => by
    simp only [nextN] at h
    by_cases hv : v < nextN x j
    · obtain ⟨c, hc, he⟩ := occurs h0 hv
      exact ⟨c, by omega, he⟩
    · split at h
      · exact ⟨j, by omega, by omega⟩
      · omega
theorem fine_anti {x y : List Int} (hl : x.length = y.length) (hx : Numbered x) (hy : Numbered y) (h1 : Fine x y) (h2 : Fine y x) : x = y := by
  have key : ∀ j, j ≤ x.length → ∀ c, c < j → x.getD c 0 = y.getD c 0 := by
    intro j
    induction j with
    | zero => intro _ c hc; omega
    | succ j ih =>
      intro hj c hc
      have ih := ih (by omega)
      rcases Nat.lt_or_ge c j with h | h
      · exact ih c h
      · obtain rfl : c = j := by omega
        have hn := nextN_pre ih
        have a0 := hx.lo c (by omega)
        have a1 := hx.hi c (by omega)
        have b0 := hy.lo c (by omega)
        have b1 := hy.hi c (by omega)
        by_cases hxm : x.getD c 0 = -1
        · rw [hxm, h1.out c (by omega) hxm]
        · by_cases hym : y.getD c 0 = -1
          · rw [hym, h2.out c (by omega) hym]
          · by_cases hxn : x.getD c 0 < nextN x c
            · obtain ⟨d, hd, he⟩ := occurs (by omega) hxn
              have := h1.same d c (by omega) (by omega) he
              rw [← this, ← ih d hd, he]
            · by_cases hyn : y.getD c 0 < nextN y c
              · obtain ⟨d, hd, he⟩ := occurs (by omega) hyn
                have := h2.same d c (by omega) (by omega) he
                rw [← this, ih d hd, he]
              · omega
  refine List.ext_getElem hl fun i hi hi2 => ?_
  have := key x.length (Nat.le_refl _) i hi
  simpa [List.getD, hi, hi2] using this
theorem fine_refl (x : List Int) : Fine x x := ⟨fun _ _ _ _ h => h, fun _ _ h => h⟩
theorem fine_trans {x y z : List Int} (hl : x.length = y.length) (h1 : Fine x y) (h2 : Fine y z) : Fine x z :=
  ⟨fun c d hc hd h => h2.same c d (by omega) (by omega) (h1.same c d hc hd h), fun c hc h => h2.out c (by omega) (h1.out c hc h)⟩
noncomputable def finB (n : Nat) (xs ys : List (List Int)) : Bool := @decide (∀ i, i < n → Fine (xs.getD i []) (ys.getD i [])) (Classical.propDecidable _)
theorem finB_iff {n : Nat} {xs ys : List (List Int)} : finB n xs ys = true ↔ ∀ i, i < n → Fine (xs.getD i []) (ys.getD i []) := by
  unfold finB; exact @decide_eq_true_iff _ (Classical.propDecidable _)
theorem finB_refl (n : Nat) (xs : List (List Int)) : finB n xs xs = true := finB_iff.2 fun _ _ => fine_refl _
theorem view_len {ss : List Int} {xs ys : List (List Int)} (h1 : View ss xs) (h2 : View ss ys) {i : Nat} (hi : i < ss.length) : (xs.getD i []).length = (ys.getD i []).length := by
  have a := h1.lens i hi
  have b := h2.lens i hi
  omega
theorem finB_trans {ss : List Int} {xs ys zs : List (List Int)} (hx : View ss xs) (hy : View ss ys) (h1 : finB ss.length xs ys = true) (h2 : finB ss.length ys zs = true) : finB ss.length xs zs = true :=
  finB_iff.2 fun i hi => fine_trans (view_len hx hy hi) (finB_iff.1 h1 i hi) (finB_iff.1 h2 i hi)
theorem finB_anti {ss : List Int} {xs ys : List (List Int)} (hx : View ss xs) (hy : View ss ys) (h1 : finB ss.length xs ys = true) (h2 : finB ss.length ys xs = true) : xs = ys := by
  refine List.ext_getElem (by rw [hx.len, hy.len]) fun i hi hi2 => ?_
  have his : i < ss.length := by rw [← hx.len]; exact hi
  have := fine_anti (view_len hx hy his) (hx.num i his) (hy.num i his) (finB_iff.1 h1 i his) (finB_iff.1 h2 i his)
  simpa [List.getD, hi, hi2] using this
end Ce
theorem finer28b (v v1 v2 : Value) (ss : List Int) (xs ys : List (List Int)) (r : Bool) (hr : Ce.finB ss.length xs ys = r) (w : World) (h : Sp w v ss) (h1 : Vw w v1 ss xs) (h2 : Vw w v2 ss ys) :
    Calls Try.prog 30 #[v, v1, v2] w fun e w' => e = .returned (.bool r) ∧ Below w.heap.size w w' :=
  (finer28 v v1 v2 ss xs ys w h h1 h2).mono fun e w' ⟨q, he, hq, hb⟩ => ⟨by rw [he]; exact retb (by rw [← hr, Bool.eq_iff_iff, hq, Ce.finB_iff]), hb⟩
theorem Nums.aft {w : World} {kd : IntKind} {A : Option Addr} {n c : Nat} {l : List Int} (h : Nums w kd w.heap.size A n c l) (x : Aft w) : Nums x.now kd x.now.heap.size A n c l := h.keep x.below x.below.size
theorem ints28t (A A' : Option Addr) (n c n' c' : Nat) (l : List Int) (B B' : Nat) (w : World) (h : Nums w .i64 B A n c l) (h' : Nums w .i64 B' A' n' c' l) :
    Calls Try.prog 27 #[.slice A n c, .slice A' n' c'] w fun e w' => e = .returned (.bool true) ∧ Below w.heap.size w w' :=
  (ints28 A A' n c n' c' l l B B' w h h').mono fun _ _ ⟨he, hw⟩ => ⟨by rw [he]; simp, hw⟩
set_option maxHeartbeats 800000 in
theorem same28 (v1 v2 : Value) (ss : List Int) (xs : List (List Int)) (w : World) (hs : Ce.Space ss) (h1 : Vw w v1 ss xs) (h2 : Vw w v2 ss xs) :
    Calls Try.prog 37 #[v1, v2] w fun e w' => e = .returned (.bool true) ∧ Below w.heap.size w w' := by
  obtain ⟨⟨A1, n1, c1, rfl, hn1⟩, hv1⟩ := h1
  obtain ⟨⟨A2, n2, c2, rfl, hn2⟩, hv2⟩ := h2
  obtain ⟨W, hW, hb, k1, k2⟩ : ∃ W : World, (w.alloc (.cells #[.slice A1 n1 c1] 27)).alloc (.cells #[.slice A2 n2 c2] 27) = W ∧ Below w.heap.size w W ∧ W.cell? ⟨w.heap.size, 0, none⟩ = some (.slice A1 n1 c1) ∧ W.cell? ⟨w.heap.size + 1, 0, none⟩ = some (.slice A2 n2 c2) :=
    ⟨_, rfl, ((Below.refl _ _).alloc (Nat.le_refl _) _).alloc (by simp) _, by simp [go_sem], by simp [go_sem]⟩
  have e1 : n2 = n1 := by rw [← hn1.len, ← hn2.len]
  subst e1
  have H1 := Lib.hid (hn1.keep hb hb.size)
  have H2 := Lib.hid (hn2.keep hb hb.size)
  have HB := Lib.hid hb
  have hm4 : n2 ≤ 4 := by rw [← hn1.len, hv1.len]; exact hs.few
  clear hn1 hn2 hb
  go_enter Try.func37, Try.ntmps37
  go_wp2_with fail
  have HK := Lib.hid (And.intro k1 k2)
  clear k1 k2 hW
  go_loopw [16] (fun i wr => ∃ j : Nat, j ≤ n2 ∧ i = .int .i64 j ∧ Hid (Below W.heap.size W wr)) (fun i _ => n2 - (intOf i).toNat)
  case atStart => exact ⟨0, by omega, rfl, Below.refl _ _⟩
  case round =>
    obtain ⟨j, hj, rfl, HI⟩ := hrel
    by_cases hlt : j < n2
    · have HR1 := H1
      have HR2 := H2
      obtain ⟨ad, Aj, nj, cj, rfl, _, hc, hr⟩ := (HR1.out.keep HI.out HI.out.size).row hlt
      obtain ⟨ad2, Bj, mj, dj, rfl, _, hc2, hr2⟩ := (HR2.out.keep HI.out HI.out.size).row hlt
      have a1 := Aft.cell (below_cell HI.out HK.out.1)
      have a2 := Aft.cell (below_cell HI.out HK.out.2)
      have a3 := Aft.cell hc
      have a4 := Aft.cell hc2
      have HQ1 := Lib.hid hr
      have HQ2 := Lib.hid hr2
      clear hc hc2 hr hr2
      have i0 : (0 : Int) ≤ (j : Int) := by omega
      have i1 : (j : Int) < (n2 : Int) := by omega
      go_wp2_with fail
      refine wp_region_aft (by kernel_rfl) (by kernel_rfl) ?_
      repeat (go_big_quiet_step (first | with_reducible exact Calls.aft (ints28t _ _ _ _ _ _ _ _ _ _ (HQ1.out.aft _) (HQ2.out.aft _))))
      refine wpQuiet_nil ?_
      rintro w9 ⟨⟨_, hb9⟩, rfl⟩
      have HB9 := Lib.hid (HI.out.trans (hb9.mono HI.out.size))
      clear hb9
      go_wp2_with fail
      go_roundw
      case rel => exact ⟨j + 1, by omega, by go_num, HB9.out⟩
      case measure => simp [intOf]; omega
    · obtain rfl : j = n2 := by omega
      go_wp2_with fail
      go_ret
      exact ⟨rfl, HB.out.trans (HI.out.mono HB.out.size)⟩
theorem finer28c (v v1 v2 : Value) (ss : List Int) (xs ys : List (List Int)) (r : Bool) (w : World) (h : Sp w v ss) (h1 : Vw w v1 ss xs) (h2 : Vw w v2 ss ys) (hr : Ce.finB ss.length xs ys = r) :
    Calls Try.prog 30 #[v, v1, v2] w fun e w' => e = .returned (.bool r) ∧ Below w.heap.size w w' := finer28b v v1 v2 ss xs ys r hr w h h1 h2
theorem same28e (v1 v2 : Value) (ss : List Int) (xs ys : List (List Int)) (w : World) (hs : Ce.Space ss) (h1 : Vw w v1 ss xs) (h2 : Vw w v2 ss ys) (he : xs = ys) :
    Calls Try.prog 37 #[v1, v2] w fun e w' => e = .returned (.bool true) ∧ Below w.heap.size w w' := by
  subst he
  exact same28 v1 v2 ss xs w hs h1 h2
set_option maxHeartbeats 1600000 in
set_option maxRecDepth 100000 in
theorem walkOrder (W : World) (A : Option Addr) (n c : Nat) (l : List Int) (h : Nums W .u8 W.heap.size A n c l) :
    Calls Try.prog 7 #[.slice A n c] W fun e w => e = .returned (.bool true) ∧ Below W.heap.size W w := by
  go_enter Try.func7, Try.ntmps7
  go_wp2_with fail
  refine (new_any A n c l W h).mono ?_; rintro e w1 ⟨rfl, hc1, hb1⟩
  have HB1 := Lib.hid hb1
  clear hb1
  go_wp2_with fail
  refine (space9 _ _ w1 hc1).mono ?_; rintro e w2 ⟨v, ss, rfl, ho, hs, hc2, hg2⟩
  have hsp2 : SpO w2 w1.heap.size (.agg #[v]) ss := ⟨⟨v, rfl, ho⟩, hs⟩
  obtain ⟨gs, ns, cs, rfl, _⟩ := hsp2.form
  have hbx : Below w2.heap.size w2 (w2.alloc (.cells #[.slice (some ⟨gs, 0, none⟩) ns cs] 24)) := (Below.refl _ _).alloc (Nat.le_refl _) _
  obtain ⟨X, hX⟩ : ∃ X : World, w2.alloc (.cells #[.slice (some ⟨gs, 0, none⟩) ns cs] 24) = X := ⟨_, rfl⟩
  have hbs : Box X w2.heap.size _ _ := hX ▸ Box.new w2 (.slice (some ⟨gs, 0, none⟩) ns cs) 24
  rw [hX] at hbx
  have HS := Lib.hid hs
  have HSV := Lib.hid (show SV W.heap.size w1.heap.size w2.heap.size W.heap.size W.heap.size (.slice (some ⟨gs, 0, none⟩) ns cs) ss W X from ⟨hc2.below hbx, hsp2.below hbx, hbs, (below_cod HB1.out hg2).trans (hbx.mono (below_cod HB1.out hg2).size)⟩)
  have k0 := hbs.cell
  clear ho hs hc1 hg2 hsp2 hbx hbs hc2
  go_wp2_with fail
  have hBX : W.heap.size ≤ X.heap.size := HSV.out.2.2.2.size
  refine wp_region_inv (by kernel_rfl) (fun listed a w => listed.size = 15 ∧ X.heap.size ≤ w.heap.size ∧ SV W.heap.size w1.heap.size w2.heap.size W.heap.size W.heap.size (.slice (some ⟨gs, 0, none⟩) ns cs) ss W w ∧ ∃ x5 x6 x7 x13 x14 x15 x16 x17 x18 x19 x20 x21 : Value, a = ⟨#[.slice A n c, undef, .bool false, .pointer (some ⟨W.heap.size, 0, none⟩), .pointer (some ⟨w2.heap.size, 0, none⟩), x5, x6, x7, undef, .slice A n c, .pointer (some ⟨W.heap.size, 0, none⟩), .pointer (some ⟨W.heap.size, 0, none⟩), .agg #[.slice (some ⟨gs, 0, none⟩) ns cs], x13, x14, x15, x16, x17, x18, x19, x20, x21, undef, undef, undef, undef, undef, undef, undef, undef, undef, undef, undef, undef, undef, undef, undef, undef, undef, undef, undef, undef, undef, undef, undef, undef, undef, undef, undef, undef, undef, undef, undef, undef, undef, undef, undef, undef, undef, undef, undef, undef, undef, undef, undef, undef, undef, undef], []⟩ ∧
    One X.heap.size X.heap.size ss (.pointer (some ⟨W.heap.size, 0, none⟩)) (.agg #[.slice (some ⟨gs, 0, none⟩) ns cs]) 0 1 2 9 12 listed x13 x14 x15 x5 w ∧
    One X.heap.size X.heap.size ss (.pointer (some ⟨W.heap.size, 0, none⟩)) (.agg #[.slice (some ⟨gs, 0, none⟩) ns cs]) 3 4 5 10 13 listed x16 x17 x18 x6 w ∧
    One X.heap.size X.heap.size ss (.pointer (some ⟨W.heap.size, 0, none⟩)) (.agg #[.slice (some ⟨gs, 0, none⟩) ns cs]) 6 7 8 11 14 listed x19 x20 x21 x7 w ∧
    (up listed 9 → up listed 10 → x5 ≠ x6) ∧ (up listed 9 → up listed 11 → x5 ≠ x7) ∧ (up listed 10 → up listed 11 → x6 ≠ x7)) (fun _ _ _ h => h.1) ?_ ?_ ?_
  · exact ⟨by simp, Nat.le_refl _, HSV.out.drew, undef, undef, undef, undef, undef, undef, undef, undef, undef, undef, undef, undef, rfl, One.start, One.start, One.start, fun h9 => absurd h9 (up_none _ _), fun h9 => absurd h9 (up_none _ _), fun h9 => absurd h9 (up_none _ _)⟩
  · rintro listed a w i o ⟨hz, hwX, hsv, x5, x6, x7, x13, x14, x15, x16, x17, x18, x19, x20, x21, rfl, h0, h1, h2, d01, d02, d12⟩ ho hdep hnu
    have hi : i < 15 := by
      rcases Nat.lt_or_ge i 15 with h | h
      · exact h
      · rw [Array.getElem?_eq_none (by simpa using h)] at ho; cases ho
    have hil : i < listed.size := by omega
    rcases (show i = 0 ∨ i = 1 ∨ i = 2 ∨ i = 3 ∨ i = 4 ∨ i = 5 ∨ i = 6 ∨ i = 7 ∨ i = 8 ∨ i = 9 ∨ i = 10 ∨ i = 11 ∨ i = 12 ∨ i = 13 ∨ i = 14 by omega) with rfl | rfl | rfl | rfl | rfl | rfl | rfl | rfl | rfl | rfl | rfl | rfl | rfl | rfl | rfl
    · have ho' := ho
      simp only [List.getElem?_toArray, List.getElem?_cons_zero, Option.some.injEq] at ho'
      subst ho'
      refine wpOp_value ho rfl (v := .pointer (some ⟨W.heap.size, 0, none⟩)) (w' := w) (by simp [execOp, Act.eval, go_sem]) ?_
      exact ⟨by simpa using hz, hwX, hsv, x5, x6, x7, _, x14, x15, x16, x17, x18, x19, x20, x21, rfl, h0.own hil (fun _ _ h => h) (.inl ⟨rfl, rfl⟩) (.inr ⟨by omega, rfl⟩) (.inr ⟨by omega, rfl⟩) (.inr ⟨by omega, rfl⟩) (.inr ⟨by omega, fun _ _ _ h => h⟩), h1.other hil ⟨by omega, by omega, by omega, by omega, by omega⟩ (fun _ _ h => h) (fun _ _ _ h => h), h2.other hil ⟨by omega, by omega, by omega, by omega, by omega⟩ (fun _ _ h => h) (fun _ _ _ h => h), dist_other d01 hil (by omega) (by omega), dist_other d02 hil (by omega) (by omega), dist_other d12 hil (by omega) (by omega)⟩
    · have ho' := ho
      simp only [List.getElem?_toArray, List.getElem?_cons_zero, List.getElem?_cons_succ, Option.some.injEq] at ho'
      subst ho'
      have c9 := hsv.2.2.1.cell
      refine wpOp_value ho rfl (v := .agg #[.slice (some ⟨gs, 0, none⟩) ns cs]) (w' := w) (by simp [execOp, Act.eval, go_sem, c9]) ?_
      exact ⟨by simpa using hz, hwX, hsv, x5, x6, x7, x13, _, x15, x16, x17, x18, x19, x20, x21, rfl, h0.own hil (fun _ _ h => h) (.inr ⟨by omega, rfl⟩) (.inl ⟨rfl, rfl⟩) (.inr ⟨by omega, rfl⟩) (.inr ⟨by omega, rfl⟩) (.inr ⟨by omega, fun _ _ _ h => h⟩), h1.other hil ⟨by omega, by omega, by omega, by omega, by omega⟩ (fun _ _ h => h) (fun _ _ _ h => h), h2.other hil ⟨by omega, by omega, by omega, by omega, by omega⟩ (fun _ _ h => h) (fun _ _ _ h => h), dist_other d01 hil (by omega) (by omega), dist_other d02 hil (by omega) (by omega), dist_other d12 hil (by omega) (by omega)⟩
    · have ho' := ho
      simp only [List.getElem?_toArray, List.getElem?_cons_zero, List.getElem?_cons_succ, Option.some.injEq] at ho'
      subst ho'
      have hu0 : up listed 0 := hdep { on := 0, ground := .data } (by simp) rfl
      have hu1 : up listed 1 := hdep { on := 1, ground := .data } (by simp) rfl
      obtain rfl := h0.mv hu0
      obtain rfl := h0.ld hu1
      have hn4 : ¬ up listed 12 := fun h9 => hnu (h0.st h9).1
      refine wpOp_call ho rfl (f := 17) (args := #[.pointer (some ⟨W.heap.size, 0, none⟩), .agg #[.slice (some ⟨gs, 0, none⟩) ns cs]]) (w' := w) (by simp [Act.eval, go_sem]) ?_
      refine (view9 _ _ _ _ ss w hsv.1 hsv.2.1).mono ?_; rintro e9 w9 ⟨v9, vs9, rfl, hv9, hc9, hg9⟩
      obtain ⟨A9, n9, c9, rfl, _⟩ := hv9.form HS.out
      refine ⟨_, rfl, ?_⟩
      exact ⟨by simpa using hz, Nat.le_trans hwX hg9.size, hsv.turn hc9 hg9 (Nat.le_refl _) (Nat.le_trans hBX hwX), x5, x6, x7, _, _, _, x16, x17, x18, x19, x20, x21, rfl, h0.own hil (fun _ _ h => h.cod hsv.1 hg9) (.inr ⟨by omega, rfl⟩) (.inr ⟨by omega, rfl⟩) (.inl ⟨rfl, hn4, A9, n9, c9, vs9, rfl, hv9.base_le hwX⟩) (.inr ⟨by omega, rfl⟩) (.inr ⟨by omega, fun _ _ _ h => h.cod hsv.1 hg9 (by decide)⟩), h1.other hil ⟨by omega, by omega, by omega, by omega, by omega⟩ (fun _ _ h => h.cod hsv.1 hg9) (fun _ _ _ h => h.cod hsv.1 hg9 (by decide)), h2.other hil ⟨by omega, by omega, by omega, by omega, by omega⟩ (fun _ _ h => h.cod hsv.1 hg9) (fun _ _ _ h => h.cod hsv.1 hg9 (by decide)), dist_other d01 hil (by omega) (by omega), dist_other d02 hil (by omega) (by omega), dist_other d12 hil (by omega) (by omega)⟩
    · have ho' := ho
      simp only [List.getElem?_toArray, List.getElem?_cons_zero, List.getElem?_cons_succ, Option.some.injEq] at ho'
      subst ho'
      refine wpOp_value ho rfl (v := .pointer (some ⟨W.heap.size, 0, none⟩)) (w' := w) (by simp [execOp, Act.eval, go_sem]) ?_
      exact ⟨by simpa using hz, hwX, hsv, x5, x6, x7, x13, x14, x15, _, x17, x18, x19, x20, x21, rfl, h0.other hil ⟨by omega, by omega, by omega, by omega, by omega⟩ (fun _ _ h => h) (fun _ _ _ h => h), h1.own hil (fun _ _ h => h) (.inl ⟨rfl, rfl⟩) (.inr ⟨by omega, rfl⟩) (.inr ⟨by omega, rfl⟩) (.inr ⟨by omega, rfl⟩) (.inr ⟨by omega, fun _ _ _ h => h⟩), h2.other hil ⟨by omega, by omega, by omega, by omega, by omega⟩ (fun _ _ h => h) (fun _ _ _ h => h), dist_other d01 hil (by omega) (by omega), dist_other d02 hil (by omega) (by omega), dist_other d12 hil (by omega) (by omega)⟩
    · have ho' := ho
      simp only [List.getElem?_toArray, List.getElem?_cons_zero, List.getElem?_cons_succ, Option.some.injEq] at ho'
      subst ho'
      have c9 := hsv.2.2.1.cell
      refine wpOp_value ho rfl (v := .agg #[.slice (some ⟨gs, 0, none⟩) ns cs]) (w' := w) (by simp [execOp, Act.eval, go_sem, c9]) ?_
      exact ⟨by simpa using hz, hwX, hsv, x5, x6, x7, x13, x14, x15, x16, _, x18, x19, x20, x21, rfl, h0.other hil ⟨by omega, by omega, by omega, by omega, by omega⟩ (fun _ _ h => h) (fun _ _ _ h => h), h1.own hil (fun _ _ h => h) (.inr ⟨by omega, rfl⟩) (.inl ⟨rfl, rfl⟩) (.inr ⟨by omega, rfl⟩) (.inr ⟨by omega, rfl⟩) (.inr ⟨by omega, fun _ _ _ h => h⟩), h2.other hil ⟨by omega, by omega, by omega, by omega, by omega⟩ (fun _ _ h => h) (fun _ _ _ h => h), dist_other d01 hil (by omega) (by omega), dist_other d02 hil (by omega) (by omega), dist_other d12 hil (by omega) (by omega)⟩
    · have ho' := ho
      simp only [List.getElem?_toArray, List.getElem?_cons_zero, List.getElem?_cons_succ, Option.some.injEq] at ho'
      subst ho'
      have hu0 : up listed 3 := hdep { on := 3, ground := .data } (by simp) rfl
      have hu1 : up listed 4 := hdep { on := 4, ground := .data } (by simp) rfl
      obtain rfl := h1.mv hu0
      obtain rfl := h1.ld hu1
      have hn4 : ¬ up listed 13 := fun h9 => hnu (h1.st h9).1
      refine wpOp_call ho rfl (f := 17) (args := #[.pointer (some ⟨W.heap.size, 0, none⟩), .agg #[.slice (some ⟨gs, 0, none⟩) ns cs]]) (w' := w) (by simp [Act.eval, go_sem]) ?_
      refine (view9 _ _ _ _ ss w hsv.1 hsv.2.1).mono ?_; rintro e9 w9 ⟨v9, vs9, rfl, hv9, hc9, hg9⟩
      obtain ⟨A9, n9, c9, rfl, _⟩ := hv9.form HS.out
      refine ⟨_, rfl, ?_⟩
      exact ⟨by simpa using hz, Nat.le_trans hwX hg9.size, hsv.turn hc9 hg9 (Nat.le_refl _) (Nat.le_trans hBX hwX), x5, x6, x7, x13, x14, x15, _, _, _, x19, x20, x21, rfl, h0.other hil ⟨by omega, by omega, by omega, by omega, by omega⟩ (fun _ _ h => h.cod hsv.1 hg9) (fun _ _ _ h => h.cod hsv.1 hg9 (by decide)), h1.own hil (fun _ _ h => h.cod hsv.1 hg9) (.inr ⟨by omega, rfl⟩) (.inr ⟨by omega, rfl⟩) (.inl ⟨rfl, hn4, A9, n9, c9, vs9, rfl, hv9.base_le hwX⟩) (.inr ⟨by omega, rfl⟩) (.inr ⟨by omega, fun _ _ _ h => h.cod hsv.1 hg9 (by decide)⟩), h2.other hil ⟨by omega, by omega, by omega, by omega, by omega⟩ (fun _ _ h => h.cod hsv.1 hg9) (fun _ _ _ h => h.cod hsv.1 hg9 (by decide)), dist_other d01 hil (by omega) (by omega), dist_other d02 hil (by omega) (by omega), dist_other d12 hil (by omega) (by omega)⟩
    · have ho' := ho
      simp only [List.getElem?_toArray, List.getElem?_cons_zero, List.getElem?_cons_succ, Option.some.injEq] at ho'
      subst ho'
      refine wpOp_value ho rfl (v := .pointer (some ⟨W.heap.size, 0, none⟩)) (w' := w) (by simp [execOp, Act.eval, go_sem]) ?_
      exact ⟨by simpa using hz, hwX, hsv, x5, x6, x7, x13, x14, x15, x16, x17, x18, _, x20, x21, rfl, h0.other hil ⟨by omega, by omega, by omega, by omega, by omega⟩ (fun _ _ h => h) (fun _ _ _ h => h), h1.other hil ⟨by omega, by omega, by omega, by omega, by omega⟩ (fun _ _ h => h) (fun _ _ _ h => h), h2.own hil (fun _ _ h => h) (.inl ⟨rfl, rfl⟩) (.inr ⟨by omega, rfl⟩) (.inr ⟨by omega, rfl⟩) (.inr ⟨by omega, rfl⟩) (.inr ⟨by omega, fun _ _ _ h => h⟩), dist_other d01 hil (by omega) (by omega), dist_other d02 hil (by omega) (by omega), dist_other d12 hil (by omega) (by omega)⟩
    · have ho' := ho
      simp only [List.getElem?_toArray, List.getElem?_cons_zero, List.getElem?_cons_succ, Option.some.injEq] at ho'
      subst ho'
      have c9 := hsv.2.2.1.cell
      refine wpOp_value ho rfl (v := .agg #[.slice (some ⟨gs, 0, none⟩) ns cs]) (w' := w) (by simp [execOp, Act.eval, go_sem, c9]) ?_
      exact ⟨by simpa using hz, hwX, hsv, x5, x6, x7, x13, x14, x15, x16, x17, x18, x19, _, x21, rfl, h0.other hil ⟨by omega, by omega, by omega, by omega, by omega⟩ (fun _ _ h => h) (fun _ _ _ h => h), h1.other hil ⟨by omega, by omega, by omega, by omega, by omega⟩ (fun _ _ h => h) (fun _ _ _ h => h), h2.own hil (fun _ _ h => h) (.inr ⟨by omega, rfl⟩) (.inl ⟨rfl, rfl⟩) (.inr ⟨by omega, rfl⟩) (.inr ⟨by omega, rfl⟩) (.inr ⟨by omega, fun _ _ _ h => h⟩), dist_other d01 hil (by omega) (by omega), dist_other d02 hil (by omega) (by omega), dist_other d12 hil (by omega) (by omega)⟩
    · have ho' := ho
      simp only [List.getElem?_toArray, List.getElem?_cons_zero, List.getElem?_cons_succ, Option.some.injEq] at ho'
      subst ho'
      have hu0 : up listed 6 := hdep { on := 6, ground := .data } (by simp) rfl
      have hu1 : up listed 7 := hdep { on := 7, ground := .data } (by simp) rfl
      obtain rfl := h2.mv hu0
      obtain rfl := h2.ld hu1
      have hn4 : ¬ up listed 14 := fun h9 => hnu (h2.st h9).1
      refine wpOp_call ho rfl (f := 17) (args := #[.pointer (some ⟨W.heap.size, 0, none⟩), .agg #[.slice (some ⟨gs, 0, none⟩) ns cs]]) (w' := w) (by simp [Act.eval, go_sem]) ?_
      refine (view9 _ _ _ _ ss w hsv.1 hsv.2.1).mono ?_; rintro e9 w9 ⟨v9, vs9, rfl, hv9, hc9, hg9⟩
      obtain ⟨A9, n9, c9, rfl, _⟩ := hv9.form HS.out
      refine ⟨_, rfl, ?_⟩
      exact ⟨by simpa using hz, Nat.le_trans hwX hg9.size, hsv.turn hc9 hg9 (Nat.le_refl _) (Nat.le_trans hBX hwX), x5, x6, x7, x13, x14, x15, x16, x17, x18, _, _, _, rfl, h0.other hil ⟨by omega, by omega, by omega, by omega, by omega⟩ (fun _ _ h => h.cod hsv.1 hg9) (fun _ _ _ h => h.cod hsv.1 hg9 (by decide)), h1.other hil ⟨by omega, by omega, by omega, by omega, by omega⟩ (fun _ _ h => h.cod hsv.1 hg9) (fun _ _ _ h => h.cod hsv.1 hg9 (by decide)), h2.own hil (fun _ _ h => h.cod hsv.1 hg9) (.inr ⟨by omega, rfl⟩) (.inr ⟨by omega, rfl⟩) (.inl ⟨rfl, hn4, A9, n9, c9, vs9, rfl, hv9.base_le hwX⟩) (.inr ⟨by omega, rfl⟩) (.inr ⟨by omega, fun _ _ _ h => h.cod hsv.1 hg9 (by decide)⟩), dist_other d01 hil (by omega) (by omega), dist_other d02 hil (by omega) (by omega), dist_other d12 hil (by omega) (by omega)⟩
    · have ho' := ho
      simp only [List.getElem?_toArray, List.getElem?_cons_zero, List.getElem?_cons_succ, Option.some.injEq] at ho'
      subst ho'
      have hn4 : ¬ up listed 12 := fun h9 => hnu (h0.st h9).2
      have hb9 : Below w.heap.size w (w.alloc (.cells #[.slice none 0 0] 27)) := (Below.refl _ _).alloc (Nat.le_refl _) _
      refine wpOp_value ho rfl (v := .pointer (some ⟨w.heap.size, 0, none⟩)) (w' := w.alloc (.cells #[.slice none 0 0] 27)) (by simp [execOp, go_sem]) ?_
      exact ⟨by simpa using hz, Nat.le_trans hwX hb9.size, hsv.alloc (Nat.le_trans hBX hwX) _, _, x6, x7, x13, x14, x15, x16, x17, x18, x19, x20, x21, rfl, h0.own hil (fun _ _ h => h.below hb9) (.inr ⟨by omega, rfl⟩) (.inr ⟨by omega, rfl⟩) (.inr ⟨by omega, rfl⟩) (.inl ⟨rfl, by omega, hn4, _, rfl, hwX, Box.new w _ _⟩) (.inr ⟨by omega, fun _ _ _ h => h.below hb9⟩), h1.other hil ⟨by omega, by omega, by omega, by omega, by omega⟩ (fun _ _ h => h.below hb9) (fun _ _ _ h => h.below hb9), h2.other hil ⟨by omega, by omega, by omega, by omega, by omega⟩ (fun _ _ h => h.below hb9) (fun _ _ _ h => h.below hb9), fun _ hq => (h1.lt (up_other hil (by omega) hq)).symm, fun _ hq => (h2.lt (up_other hil (by omega) hq)).symm, dist_other d12 hil (by omega) (by omega)⟩
    · have ho' := ho
      simp only [List.getElem?_toArray, List.getElem?_cons_zero, List.getElem?_cons_succ, Option.some.injEq] at ho'
      subst ho'
      have hn4 : ¬ up listed 13 := fun h9 => hnu (h1.st h9).2
      have hb9 : Below w.heap.size w (w.alloc (.cells #[.slice none 0 0] 27)) := (Below.refl _ _).alloc (Nat.le_refl _) _
      refine wpOp_value ho rfl (v := .pointer (some ⟨w.heap.size, 0, none⟩)) (w' := w.alloc (.cells #[.slice none 0 0] 27)) (by simp [execOp, go_sem]) ?_
      exact ⟨by simpa using hz, Nat.le_trans hwX hb9.size, hsv.alloc (Nat.le_trans hBX hwX) _, x5, _, x7, x13, x14, x15, x16, x17, x18, x19, x20, x21, rfl, h0.other hil ⟨by omega, by omega, by omega, by omega, by omega⟩ (fun _ _ h => h.below hb9) (fun _ _ _ h => h.below hb9), h1.own hil (fun _ _ h => h.below hb9) (.inr ⟨by omega, rfl⟩) (.inr ⟨by omega, rfl⟩) (.inr ⟨by omega, rfl⟩) (.inl ⟨rfl, by omega, hn4, _, rfl, hwX, Box.new w _ _⟩) (.inr ⟨by omega, fun _ _ _ h => h.below hb9⟩), h2.other hil ⟨by omega, by omega, by omega, by omega, by omega⟩ (fun _ _ h => h.below hb9) (fun _ _ _ h => h.below hb9), fun hp _ => h0.lt (up_other hil (by omega) hp), dist_other d02 hil (by omega) (by omega), fun _ hq => (h2.lt (up_other hil (by omega) hq)).symm⟩
    · have ho' := ho
      simp only [List.getElem?_toArray, List.getElem?_cons_zero, List.getElem?_cons_succ, Option.some.injEq] at ho'
      subst ho'
      have hn4 : ¬ up listed 14 := fun h9 => hnu (h2.st h9).2
      have hb9 : Below w.heap.size w (w.alloc (.cells #[.slice none 0 0] 27)) := (Below.refl _ _).alloc (Nat.le_refl _) _
      refine wpOp_value ho rfl (v := .pointer (some ⟨w.heap.size, 0, none⟩)) (w' := w.alloc (.cells #[.slice none 0 0] 27)) (by simp [execOp, go_sem]) ?_
      exact ⟨by simpa using hz, Nat.le_trans hwX hb9.size, hsv.alloc (Nat.le_trans hBX hwX) _, x5, x6, _, x13, x14, x15, x16, x17, x18, x19, x20, x21, rfl, h0.other hil ⟨by omega, by omega, by omega, by omega, by omega⟩ (fun _ _ h => h.below hb9) (fun _ _ _ h => h.below hb9), h1.other hil ⟨by omega, by omega, by omega, by omega, by omega⟩ (fun _ _ h => h.below hb9) (fun _ _ _ h => h.below hb9), h2.own hil (fun _ _ h => h.below hb9) (.inr ⟨by omega, rfl⟩) (.inr ⟨by omega, rfl⟩) (.inr ⟨by omega, rfl⟩) (.inl ⟨rfl, by omega, hn4, _, rfl, hwX, Box.new w _ _⟩) (.inr ⟨by omega, fun _ _ _ h => h.below hb9⟩), dist_other d01 hil (by omega) (by omega), fun hp _ => h0.lt (up_other hil (by omega) hp), fun hp _ => h1.lt (up_other hil (by omega) hp)⟩
    · have ho' := ho
      simp only [List.getElem?_toArray, List.getElem?_cons_zero, List.getElem?_cons_succ, Option.some.injEq] at ho'
      subst ho'
      have hu2 : up listed 2 := hdep { on := 2, ground := .data } (by simp) rfl
      have hu3 : up listed 9 := hdep { on := 9, ground := .data } (by simp) rfl
      obtain ⟨f, rfl, hBf, hbx, _⟩ := h0.al hu3
      have hbx := hbx hnu
      obtain ⟨A9, n9, c9, vs9, rfl, _⟩ := h0.cl hu2
      have q0 := hbx.cell
      have q1 := hbx.thaw
      refine wpOp_skip ho rfl (w' := w.setCell ⟨f, 0, none⟩ (.slice A9 n9 c9)) (by simp [execOp, Act.eval, go_sem, q0, q1]) ?_
      have hn1 : ∀ f2, x6 = .pointer (some ⟨f2, 0, none⟩) → f2 ≠ f := fun f2 e2 e3 => by
        have hd := d01 (hdep { on := 9, ground := .data } (by simp) rfl) (hdep { on := 10, ground := .phase } (by simp) rfl)
        rw [e2, e3] at hd
        exact hd rfl
      have hn2 : ∀ f2, x7 = .pointer (some ⟨f2, 0, none⟩) → f2 ≠ f := fun f2 e2 e3 => by
        have hd := d02 (hdep { on := 9, ground := .data } (by simp) rfl) (hdep { on := 11, ground := .phase } (by simp) rfl)
        rw [e2, e3] at hd
        exact hd rfl
      exact ⟨by simpa using hz, by simpa using hwX, hsv.box hbx (Nat.le_trans hBX hBf) (Nat.le_trans hBX hBf), _, x6, x7, x13, x14, _, x16, x17, x18, x19, x20, x21, rfl, h0.own hil (fun _ _ h => h.box hbx (by decide) (by decide)) (.inr ⟨by omega, rfl⟩) (.inr ⟨by omega, rfl⟩) (.inr ⟨by omega, rfl⟩) (.inr ⟨by omega, rfl⟩) (.inl ⟨rfl, by omega, hu2, hu3, fun f2 e2 => ⟨_, rfl, by injection e2 with e2; injection e2 with e2; injection e2 with e2; subst e2; exact hbx.set _⟩⟩), h1.other hil ⟨by omega, by omega, by omega, by omega, by omega⟩ (fun _ _ h => h.box hbx (by decide) (by decide)) (fun _ _ e2 h => h.far (grownBy_set w f 0 _) (hn1 _ e2)), h2.other hil ⟨by omega, by omega, by omega, by omega, by omega⟩ (fun _ _ h => h.box hbx (by decide) (by decide)) (fun _ _ e2 h => h.far (grownBy_set w f 0 _) (hn2 _ e2)), dist_other d01 hil (by omega) (by omega), dist_other d02 hil (by omega) (by omega), dist_other d12 hil (by omega) (by omega)⟩
    · have ho' := ho
      simp only [List.getElem?_toArray, List.getElem?_cons_zero, List.getElem?_cons_succ, Option.some.injEq] at ho'
      subst ho'
      have hu2 : up listed 5 := hdep { on := 5, ground := .data } (by simp) rfl
      have hu3 : up listed 10 := hdep { on := 10, ground := .data } (by simp) rfl
      obtain ⟨f, rfl, hBf, hbx, _⟩ := h1.al hu3
      have hbx := hbx hnu
      obtain ⟨A9, n9, c9, vs9, rfl, _⟩ := h1.cl hu2
      have q0 := hbx.cell
      have q1 := hbx.thaw
      refine wpOp_skip ho rfl (w' := w.setCell ⟨f, 0, none⟩ (.slice A9 n9 c9)) (by simp [execOp, Act.eval, go_sem, q0, q1]) ?_
      have hn0 : ∀ f2, x5 = .pointer (some ⟨f2, 0, none⟩) → f2 ≠ f := fun f2 e2 e3 => by
        have hd := d01 (hdep { on := 9, ground := .phase } (by simp) rfl) (hdep { on := 10, ground := .data } (by simp) rfl)
        rw [e2, e3] at hd
        exact hd rfl
      have hn2 : ∀ f2, x7 = .pointer (some ⟨f2, 0, none⟩) → f2 ≠ f := fun f2 e2 e3 => by
        have hd := d12 (hdep { on := 10, ground := .data } (by simp) rfl) (hdep { on := 11, ground := .phase } (by simp) rfl)
        rw [e2, e3] at hd
        exact hd rfl
      exact ⟨by simpa using hz, by simpa using hwX, hsv.box hbx (Nat.le_trans hBX hBf) (Nat.le_trans hBX hBf), x5, _, x7, x13, x14, x15, x16, x17, _, x19, x20, x21, rfl, h0.other hil ⟨by omega, by omega, by omega, by omega, by omega⟩ (fun _ _ h => h.box hbx (by decide) (by decide)) (fun _ _ e2 h => h.far (grownBy_set w f 0 _) (hn0 _ e2)), h1.own hil (fun _ _ h => h.box hbx (by decide) (by decide)) (.inr ⟨by omega, rfl⟩) (.inr ⟨by omega, rfl⟩) (.inr ⟨by omega, rfl⟩) (.inr ⟨by omega, rfl⟩) (.inl ⟨rfl, by omega, hu2, hu3, fun f2 e2 => ⟨_, rfl, by injection e2 with e2; injection e2 with e2; injection e2 with e2; subst e2; exact hbx.set _⟩⟩), h2.other hil ⟨by omega, by omega, by omega, by omega, by omega⟩ (fun _ _ h => h.box hbx (by decide) (by decide)) (fun _ _ e2 h => h.far (grownBy_set w f 0 _) (hn2 _ e2)), dist_other d01 hil (by omega) (by omega), dist_other d02 hil (by omega) (by omega), dist_other d12 hil (by omega) (by omega)⟩
    · have ho' := ho
      simp only [List.getElem?_toArray, List.getElem?_cons_zero, List.getElem?_cons_succ, Option.some.injEq] at ho'
      subst ho'
      have hu2 : up listed 8 := hdep { on := 8, ground := .data } (by simp) rfl
      have hu3 : up listed 11 := hdep { on := 11, ground := .data } (by simp) rfl
      obtain ⟨f, rfl, hBf, hbx, _⟩ := h2.al hu3
      have hbx := hbx hnu
      obtain ⟨A9, n9, c9, vs9, rfl, _⟩ := h2.cl hu2
      have q0 := hbx.cell
      have q1 := hbx.thaw
      refine wpOp_skip ho rfl (w' := w.setCell ⟨f, 0, none⟩ (.slice A9 n9 c9)) (by simp [execOp, Act.eval, go_sem, q0, q1]) ?_
      have hn0 : ∀ f2, x5 = .pointer (some ⟨f2, 0, none⟩) → f2 ≠ f := fun f2 e2 e3 => by
        have hd := d02 (hdep { on := 9, ground := .phase } (by simp) rfl) (hdep { on := 11, ground := .data } (by simp) rfl)
        rw [e2, e3] at hd
        exact hd rfl
      have hn1 : ∀ f2, x6 = .pointer (some ⟨f2, 0, none⟩) → f2 ≠ f := fun f2 e2 e3 => by
        have hd := d12 (hdep { on := 10, ground := .phase } (by simp) rfl) (hdep { on := 11, ground := .data } (by simp) rfl)
        rw [e2, e3] at hd
        exact hd rfl
      exact ⟨by simpa using hz, by simpa using hwX, hsv.box hbx (Nat.le_trans hBX hBf) (Nat.le_trans hBX hBf), x5, x6, _, x13, x14, x15, x16, x17, x18, x19, x20, _, rfl, h0.other hil ⟨by omega, by omega, by omega, by omega, by omega⟩ (fun _ _ h => h.box hbx (by decide) (by decide)) (fun _ _ e2 h => h.far (grownBy_set w f 0 _) (hn0 _ e2)), h1.other hil ⟨by omega, by omega, by omega, by omega, by omega⟩ (fun _ _ h => h.box hbx (by decide) (by decide)) (fun _ _ e2 h => h.far (grownBy_set w f 0 _) (hn1 _ e2)), h2.own hil (fun _ _ h => h.box hbx (by decide) (by decide)) (.inr ⟨by omega, rfl⟩) (.inr ⟨by omega, rfl⟩) (.inr ⟨by omega, rfl⟩) (.inr ⟨by omega, rfl⟩) (.inl ⟨rfl, by omega, hu2, hu3, fun f2 e2 => ⟨_, rfl, by injection e2 with e2; injection e2 with e2; injection e2 with e2; subst e2; exact hbx.set _⟩⟩), dist_other d01 hil (by omega) (by omega), dist_other d02 hil (by omega) (by omega), dist_other d12 hil (by omega) (by omega)⟩
  · rintro listed a w ⟨hz, hwX, hsv, x5, x6, x7, x13, x14, x15, x16, x17, x18, x19, x20, x21, rfl, h0, h1, h2, d01, d02, d12⟩ hr
    have hall := all_up hr hz (by decide)
    have U : ∀ k, k < 15 → up listed k := fun k hk => hall (k + 1) k (by omega) hk
    obtain ⟨Au, nu, cu, us, rfl, hvu⟩ := h0.cl (U 2 (by omega))
    obtain ⟨Av, nv, cv, vs, rfl, hvv⟩ := h1.cl (U 5 (by omega))
    obtain ⟨Aw, nw, cw, ws, rfl, hvw⟩ := h2.cl (U 8 (by omega))
    obtain ⟨fu, rfl, _, _, hbu⟩ := h0.al (U 9 (by omega))
    obtain ⟨fv, rfl, _, _, hbv⟩ := h1.al (U 10 (by omega))
    obtain ⟨fw, rfl, _, _, hbw⟩ := h2.al (U 11 (by omega))
    obtain ⟨q, e, hbu⟩ := hbu (U 12 (by omega))
    injection e with e; injection e with e; injection e with e _; subst e
    obtain ⟨q, e, hbv⟩ := hbv (U 13 (by omega))
    injection e with e; injection e with e; injection e with e _; subst e
    obtain ⟨q, e, hbw⟩ := hbw (U 14 (by omega))
    injection e with e; injection e with e; injection e with e _; subst e
    clear hall U hr h0 h1 h2 d01 d02 d12
    have hB := hsv.2.2.2
    have hsp := hsv.2.1.sp
    have hu := hvu.vw HS.out
    have hv := hvv.vw HS.out
    have hw := hvw.vw HS.out
    have k0 := hsv.2.2.1.cell
    have ku := hbu.cell
    have kv := hbv.cell
    have kw := hbw.cell
    have h0 := Ce.finB_refl ss.length us
    have htr := Lib.hid (fun h1 h2 => Ce.finB_trans (zs := ws) hu.ok hv.ok h1 h2)
    have hans := Lib.hid (fun h1 h2 => Ce.finB_anti hu.ok hv.ok h1 h2)
    clear hsv hvu hvv hvw hbu hbv hbw hX HSV h hz hwX hBX
    cases h1 : Ce.finB ss.length us vs
    · go_wp2_with (first
        | (go_at_call 30; refine (finer28c _ _ _ ss _ _ _ _ (by assumption) (by assumption) (by assumption) (by assumption)).mono ?_; rintro e w9 ⟨rfl, hb9⟩; replace hsp := hsp.keep hb9; replace hu := hu.keep hb9; replace hv := hv.keep hb9; replace hw := hw.keep hb9; replace k0 := below_cell hb9 k0; replace ku := below_cell hb9 ku; replace kv := below_cell hb9 kv; replace kw := below_cell hb9 kw; replace hB := hB.trans (hb9.mono hB.size); clear hb9)
        | (go_at_call 14; refine (awake28 _).mono ?_; rintro e w9 ⟨rfl, hb9⟩; replace hB := hB.trans (hb9.mono hB.size); clear hb9)
        | fail)
      go_ret
      exact ⟨rfl, hB⟩
    · cases h2 : Ce.finB ss.length vs us
      · cases h3 : Ce.finB ss.length vs ws
        · go_wp2_with (first
            | (go_at_call 30; refine (finer28c _ _ _ ss _ _ _ _ (by assumption) (by assumption) (by assumption) (by assumption)).mono ?_; rintro e w9 ⟨rfl, hb9⟩; replace hsp := hsp.keep hb9; replace hu := hu.keep hb9; replace hv := hv.keep hb9; replace hw := hw.keep hb9; replace k0 := below_cell hb9 k0; replace ku := below_cell hb9 ku; replace kv := below_cell hb9 kv; replace kw := below_cell hb9 kw; replace hB := hB.trans (hb9.mono hB.size); clear hb9)
            | (go_at_call 14; refine (awake28 _).mono ?_; rintro e w9 ⟨rfl, hb9⟩; replace hB := hB.trans (hb9.mono hB.size); clear hb9)
            | fail)
          go_ret
          exact ⟨rfl, hB⟩
        · have h4 := htr.out h1 h3
          go_wp2_with (first
            | (go_at_call 30; refine (finer28c _ _ _ ss _ _ _ _ (by assumption) (by assumption) (by assumption) (by assumption)).mono ?_; rintro e w9 ⟨rfl, hb9⟩; replace hsp := hsp.keep hb9; replace hu := hu.keep hb9; replace hv := hv.keep hb9; replace hw := hw.keep hb9; replace k0 := below_cell hb9 k0; replace ku := below_cell hb9 ku; replace kv := below_cell hb9 kv; replace kw := below_cell hb9 kw; replace hB := hB.trans (hb9.mono hB.size); clear hb9)
            | (go_at_call 14; refine (awake28 _).mono ?_; rintro e w9 ⟨rfl, hb9⟩; replace hB := hB.trans (hb9.mono hB.size); clear hb9)
            | fail)
          go_ret
          exact ⟨rfl, hB⟩
      · have HEQ := Lib.hid (hans.out h1 h2)
        cases h3 : Ce.finB ss.length vs ws
        · go_wp2_with (first
            | (go_at_call 30; refine (finer28c _ _ _ ss _ _ _ _ (by assumption) (by assumption) (by assumption) (by assumption)).mono ?_; rintro e w9 ⟨rfl, hb9⟩; replace hsp := hsp.keep hb9; replace hu := hu.keep hb9; replace hv := hv.keep hb9; replace hw := hw.keep hb9; replace k0 := below_cell hb9 k0; replace ku := below_cell hb9 ku; replace kv := below_cell hb9 kv; replace kw := below_cell hb9 kw; replace hB := hB.trans (hb9.mono hB.size); clear hb9)
            | (go_at_call 37; refine (same28e _ _ ss _ _ _ HS.out (by assumption) (by assumption) HEQ.out).mono ?_; rintro e w9 ⟨rfl, hb9⟩; replace hB := hB.trans (hb9.mono hB.size); clear hb9)
            | (go_at_call 14; refine (awake28 _).mono ?_; rintro e w9 ⟨rfl, hb9⟩; replace hB := hB.trans (hb9.mono hB.size); clear hb9)
            | fail)
          go_ret
          exact ⟨rfl, hB⟩
        · have h4 := htr.out h1 h3
          go_wp2_with (first
            | (go_at_call 30; refine (finer28c _ _ _ ss _ _ _ _ (by assumption) (by assumption) (by assumption) (by assumption)).mono ?_; rintro e w9 ⟨rfl, hb9⟩; replace hsp := hsp.keep hb9; replace hu := hu.keep hb9; replace hv := hv.keep hb9; replace hw := hw.keep hb9; replace k0 := below_cell hb9 k0; replace ku := below_cell hb9 ku; replace kv := below_cell hb9 kv; replace kw := below_cell hb9 kw; replace hB := hB.trans (hb9.mono hB.size); clear hb9)
            | (go_at_call 37; refine (same28e _ _ ss _ _ _ HS.out (by assumption) (by assumption) HEQ.out).mono ?_; rintro e w9 ⟨rfl, hb9⟩; replace hB := hB.trans (hb9.mono hB.size); clear hb9)
            | (go_at_call 14; refine (awake28 _).mono ?_; rintro e w9 ⟨rfl, hb9⟩; replace hB := hB.trans (hb9.mono hB.size); clear hb9)
            | fail)
          go_ret
          exact ⟨rfl, hB⟩
end Go.Proofs.Ytojeendofpallaa
