/- Cells: the law of finer views, walked. -/
import Derived.Test.YtojeendofpallaaDd
namespace Go.Proofs.Ytojeendofpallaa
open Go.RowKit
set_option maxHeartbeats 1600000 in
set_option maxRecDepth 100000 in
theorem walkFiner (W : World) (A : Option Addr) (n c : Nat) (l : List Int) (h : Nums W .u8 W.heap.size A n c l) :
    Calls Try.prog 6 #[.slice A n c] W fun e w => e = .returned (.bool true) ∧ Below W.heap.size W w := by
  go_enter Try.func6, Try.ntmps6
  go_wp2_with fail
  refine (new_any A n c l W h).mono ?_; rintro e w1 ⟨rfl, hc1, hb1⟩
  have HB1 := Lib.hid hb1
  clear hb1
  go_wp2_with fail
  refine (space9 _ _ w1 hc1).mono ?_; rintro e w2 ⟨v, ss, rfl, ho, hs, hc2, hg2⟩
  have hsp2 : SpO w2 w1.heap.size (.agg #[v]) ss := ⟨⟨v, rfl, ho⟩, hs⟩
  obtain ⟨gs, ns, cs, rfl, _⟩ := hsp2.form
  have hbx : Below w2.heap.size w2 (w2.alloc (.cells #[.slice (some ⟨gs, 0, none⟩) ns cs] 24)) := (Below.refl _ _).alloc (Nat.le_refl _) _
  obtain ⟨X, hX⟩ : ∃ X : World, w2.alloc (.cells #[.slice (some ⟨gs, 0, none⟩) ns cs] 24) = X := ⟨_, rfl⟩
  have hbs : Box X w2.heap.size _ _ := hX ▸ Box.new w2 (.slice (some ⟨gs, 0, none⟩) ns cs) 24
  rw [hX] at hbx
  have HS := Lib.hid hs
  have HSV := Lib.hid (show SV W.heap.size w1.heap.size w2.heap.size W.heap.size W.heap.size (.slice (some ⟨gs, 0, none⟩) ns cs) ss W X from ⟨hc2.below hbx, hsp2.below hbx, hbs, (below_cod HB1.out hg2).trans (hbx.mono (below_cod HB1.out hg2).size)⟩)
  have k0 := hbs.cell
  clear ho hs hc1 hg2 hsp2 hbx hbs hc2
  go_wp2_with fail
  have hBX : W.heap.size ≤ X.heap.size := HSV.out.2.2.2.size
  refine wp_region_inv (by kernel_rfl) (fun listed a w => listed.size = 10 ∧ X.heap.size ≤ w.heap.size ∧ SV W.heap.size w1.heap.size w2.heap.size W.heap.size W.heap.size (.slice (some ⟨gs, 0, none⟩) ns cs) ss W w ∧ ∃ x5 x6 x25 x26 x27 x28 x29 x30 : Value, a = ⟨#[.slice A n c, undef, .bool false, .pointer (some ⟨W.heap.size, 0, none⟩), .pointer (some ⟨w2.heap.size, 0, none⟩), x5, x6, undef, undef, undef, undef, undef, undef, undef, undef, undef, undef, undef, undef, undef, undef, .slice A n c, .pointer (some ⟨W.heap.size, 0, none⟩), .pointer (some ⟨W.heap.size, 0, none⟩), .agg #[.slice (some ⟨gs, 0, none⟩) ns cs], x25, x26, x27, x28, x29, x30, undef, undef, undef, undef, undef, undef, undef, undef, undef, undef, undef, undef, undef, undef, undef, undef, undef, undef, undef, undef, undef, undef, undef, undef, undef, undef, undef, undef, undef, undef, undef, undef, undef, undef, undef, undef, undef, undef, undef, undef, undef, undef, undef, undef, undef, undef, undef, undef, undef, undef, undef, undef, undef, undef, undef, undef, undef, undef, undef, undef, undef, undef, undef, undef, undef, undef, undef, undef, undef, undef, undef, undef, undef, undef, undef, undef, undef, undef, undef, undef, undef, undef, undef, undef, undef, undef, undef, undef, undef, undef, undef, undef, undef, undef], []⟩ ∧
    One X.heap.size X.heap.size ss (.pointer (some ⟨W.heap.size, 0, none⟩)) (.agg #[.slice (some ⟨gs, 0, none⟩) ns cs]) 0 1 2 6 8 listed x25 x26 x27 x5 w ∧
    One X.heap.size X.heap.size ss (.pointer (some ⟨W.heap.size, 0, none⟩)) (.agg #[.slice (some ⟨gs, 0, none⟩) ns cs]) 3 4 5 7 9 listed x28 x29 x30 x6 w ∧
    (up listed 6 → up listed 7 → x5 ≠ x6)) (fun _ _ _ h => h.1) ?_ ?_ ?_
  · exact ⟨by simp, Nat.le_refl _, HSV.out.drew, undef, undef, undef, undef, undef, undef, undef, undef, rfl, One.start, One.start, fun h9 => absurd h9 (up_none _ _)⟩
  · rintro listed a w i o ⟨hz, hwX, hsv, x5, x6, x25, x26, x27, x28, x29, x30, rfl, h0, h1, d01⟩ ho hdep hnu
    have hi : i < 10 := by
      rcases Nat.lt_or_ge i 10 with h | h
      · exact h
      · rw [Array.getElem?_eq_none (by simpa using h)] at ho; cases ho
    have hil : i < listed.size := by omega
    rcases (show i = 0 ∨ i = 1 ∨ i = 2 ∨ i = 3 ∨ i = 4 ∨ i = 5 ∨ i = 6 ∨ i = 7 ∨ i = 8 ∨ i = 9 by omega) with rfl | rfl | rfl | rfl | rfl | rfl | rfl | rfl | rfl | rfl
    · have ho' := ho
      simp only [List.getElem?_toArray, List.getElem?_cons_zero, Option.some.injEq] at ho'
      subst ho'
      refine wpOp_value ho rfl (v := .pointer (some ⟨W.heap.size, 0, none⟩)) (w' := w) (by simp [execOp, Act.eval, go_sem]) ?_
      exact ⟨by simpa using hz, hwX, hsv, x5, x6, _, x26, x27, x28, x29, x30, rfl, h0.own hil (fun _ _ h => h) (.inl ⟨rfl, rfl⟩) (.inr ⟨by omega, rfl⟩) (.inr ⟨by omega, rfl⟩) (.inr ⟨by omega, rfl⟩) (.inr ⟨by omega, fun _ _ _ h => h⟩), h1.other hil ⟨by omega, by omega, by omega, by omega, by omega⟩ (fun _ _ h => h) (fun _ _ _ h => h), dist_other d01 hil (by omega) (by omega)⟩
    · have ho' := ho
      simp only [List.getElem?_toArray, List.getElem?_cons_zero, List.getElem?_cons_succ, Option.some.injEq] at ho'
      subst ho'
      have c9 := hsv.2.2.1.cell
      refine wpOp_value ho rfl (v := .agg #[.slice (some ⟨gs, 0, none⟩) ns cs]) (w' := w) (by simp [execOp, Act.eval, go_sem, c9]) ?_
      exact ⟨by simpa using hz, hwX, hsv, x5, x6, x25, _, x27, x28, x29, x30, rfl, h0.own hil (fun _ _ h => h) (.inr ⟨by omega, rfl⟩) (.inl ⟨rfl, rfl⟩) (.inr ⟨by omega, rfl⟩) (.inr ⟨by omega, rfl⟩) (.inr ⟨by omega, fun _ _ _ h => h⟩), h1.other hil ⟨by omega, by omega, by omega, by omega, by omega⟩ (fun _ _ h => h) (fun _ _ _ h => h), dist_other d01 hil (by omega) (by omega)⟩
    · have ho' := ho
      simp only [List.getElem?_toArray, List.getElem?_cons_zero, List.getElem?_cons_succ, Option.some.injEq] at ho'
      subst ho'
      have hu0 : up listed 0 := hdep { on := 0, ground := .data } (by simp) rfl
      have hu1 : up listed 1 := hdep { on := 1, ground := .data } (by simp) rfl
      obtain rfl := h0.mv hu0
      obtain rfl := h0.ld hu1
      have hn4 : ¬ up listed 8 := fun h9 => hnu (h0.st h9).1
      refine wpOp_call ho rfl (f := 17) (args := #[.pointer (some ⟨W.heap.size, 0, none⟩), .agg #[.slice (some ⟨gs, 0, none⟩) ns cs]]) (w' := w) (by simp [Act.eval, go_sem]) ?_
      refine (view9 _ _ _ _ ss w hsv.1 hsv.2.1).mono ?_; rintro e9 w9 ⟨v9, vs9, rfl, hv9, hc9, hg9⟩
      obtain ⟨A9, n9, c9, rfl, _⟩ := hv9.form HS.out
      refine ⟨_, rfl, ?_⟩
      exact ⟨by simpa using hz, Nat.le_trans hwX hg9.size, hsv.turn hc9 hg9 (Nat.le_refl _) (Nat.le_trans hBX hwX), x5, x6, _, _, _, x28, x29, x30, rfl, h0.own hil (fun _ _ h => h.cod hsv.1 hg9) (.inr ⟨by omega, rfl⟩) (.inr ⟨by omega, rfl⟩) (.inl ⟨rfl, hn4, A9, n9, c9, vs9, rfl, hv9.base_le hwX⟩) (.inr ⟨by omega, rfl⟩) (.inr ⟨by omega, fun _ _ _ h => h.cod hsv.1 hg9 (by decide)⟩), h1.other hil ⟨by omega, by omega, by omega, by omega, by omega⟩ (fun _ _ h => h.cod hsv.1 hg9) (fun _ _ _ h => h.cod hsv.1 hg9 (by decide)), dist_other d01 hil (by omega) (by omega)⟩
    · have ho' := ho
      simp only [List.getElem?_toArray, List.getElem?_cons_zero, List.getElem?_cons_succ, Option.some.injEq] at ho'
      subst ho'
      refine wpOp_value ho rfl (v := .pointer (some ⟨W.heap.size, 0, none⟩)) (w' := w) (by simp [execOp, Act.eval, go_sem]) ?_
      exact ⟨by simpa using hz, hwX, hsv, x5, x6, x25, x26, x27, _, x29, x30, rfl, h0.other hil ⟨by omega, by omega, by omega, by omega, by omega⟩ (fun _ _ h => h) (fun _ _ _ h => h), h1.own hil (fun _ _ h => h) (.inl ⟨rfl, rfl⟩) (.inr ⟨by omega, rfl⟩) (.inr ⟨by omega, rfl⟩) (.inr ⟨by omega, rfl⟩) (.inr ⟨by omega, fun _ _ _ h => h⟩), dist_other d01 hil (by omega) (by omega)⟩
    · have ho' := ho
      simp only [List.getElem?_toArray, List.getElem?_cons_zero, List.getElem?_cons_succ, Option.some.injEq] at ho'
      subst ho'
      have c9 := hsv.2.2.1.cell
      refine wpOp_value ho rfl (v := .agg #[.slice (some ⟨gs, 0, none⟩) ns cs]) (w' := w) (by simp [execOp, Act.eval, go_sem, c9]) ?_
      exact ⟨by simpa using hz, hwX, hsv, x5, x6, x25, x26, x27, x28, _, x30, rfl, h0.other hil ⟨by omega, by omega, by omega, by omega, by omega⟩ (fun _ _ h => h) (fun _ _ _ h => h), h1.own hil (fun _ _ h => h) (.inr ⟨by omega, rfl⟩) (.inl ⟨rfl, rfl⟩) (.inr ⟨by omega, rfl⟩) (.inr ⟨by omega, rfl⟩) (.inr ⟨by omega, fun _ _ _ h => h⟩), dist_other d01 hil (by omega) (by omega)⟩
    · have ho' := ho
      simp only [List.getElem?_toArray, List.getElem?_cons_zero, List.getElem?_cons_succ, Option.some.injEq] at ho'
      subst ho'
      have hu0 : up listed 3 := hdep { on := 3, ground := .data } (by simp) rfl
      have hu1 : up listed 4 := hdep { on := 4, ground := .data } (by simp) rfl
      obtain rfl := h1.mv hu0
      obtain rfl := h1.ld hu1
      have hn4 : ¬ up listed 9 := fun h9 => hnu (h1.st h9).1
      refine wpOp_call ho rfl (f := 17) (args := #[.pointer (some ⟨W.heap.size, 0, none⟩), .agg #[.slice (some ⟨gs, 0, none⟩) ns cs]]) (w' := w) (by simp [Act.eval, go_sem]) ?_
      refine (view9 _ _ _ _ ss w hsv.1 hsv.2.1).mono ?_; rintro e9 w9 ⟨v9, vs9, rfl, hv9, hc9, hg9⟩
      obtain ⟨A9, n9, c9, rfl, _⟩ := hv9.form HS.out
      refine ⟨_, rfl, ?_⟩
      exact ⟨by simpa using hz, Nat.le_trans hwX hg9.size, hsv.turn hc9 hg9 (Nat.le_refl _) (Nat.le_trans hBX hwX), x5, x6, x25, x26, x27, _, _, _, rfl, h0.other hil ⟨by omega, by omega, by omega, by omega, by omega⟩ (fun _ _ h => h.cod hsv.1 hg9) (fun _ _ _ h => h.cod hsv.1 hg9 (by decide)), h1.own hil (fun _ _ h => h.cod hsv.1 hg9) (.inr ⟨by omega, rfl⟩) (.inr ⟨by omega, rfl⟩) (.inl ⟨rfl, hn4, A9, n9, c9, vs9, rfl, hv9.base_le hwX⟩) (.inr ⟨by omega, rfl⟩) (.inr ⟨by omega, fun _ _ _ h => h.cod hsv.1 hg9 (by decide)⟩), dist_other d01 hil (by omega) (by omega)⟩
    · have ho' := ho
      simp only [List.getElem?_toArray, List.getElem?_cons_zero, List.getElem?_cons_succ, Option.some.injEq] at ho'
      subst ho'
      have hn4 : ¬ up listed 8 := fun h9 => hnu (h0.st h9).2
      have hb9 : Below w.heap.size w (w.alloc (.cells #[.slice none 0 0] 27)) := (Below.refl _ _).alloc (Nat.le_refl _) _
      refine wpOp_value ho rfl (v := .pointer (some ⟨w.heap.size, 0, none⟩)) (w' := w.alloc (.cells #[.slice none 0 0] 27)) (by simp [execOp, go_sem]) ?_
      exact ⟨by simpa using hz, Nat.le_trans hwX hb9.size, hsv.alloc (Nat.le_trans hBX hwX) _, _, x6, x25, x26, x27, x28, x29, x30, rfl, h0.own hil (fun _ _ h => h.below hb9) (.inr ⟨by omega, rfl⟩) (.inr ⟨by omega, rfl⟩) (.inr ⟨by omega, rfl⟩) (.inl ⟨rfl, by omega, hn4, _, rfl, hwX, Box.new w _ _⟩) (.inr ⟨by omega, fun _ _ _ h => h.below hb9⟩), h1.other hil ⟨by omega, by omega, by omega, by omega, by omega⟩ (fun _ _ h => h.below hb9) (fun _ _ _ h => h.below hb9), fun _ hq => (h1.lt (up_other hil (by omega) hq)).symm⟩
    · have ho' := ho
      simp only [List.getElem?_toArray, List.getElem?_cons_zero, List.getElem?_cons_succ, Option.some.injEq] at ho'
      subst ho'
      have hn4 : ¬ up listed 9 := fun h9 => hnu (h1.st h9).2
      have hb9 : Below w.heap.size w (w.alloc (.cells #[.slice none 0 0] 27)) := (Below.refl _ _).alloc (Nat.le_refl _) _
      refine wpOp_value ho rfl (v := .pointer (some ⟨w.heap.size, 0, none⟩)) (w' := w.alloc (.cells #[.slice none 0 0] 27)) (by simp [execOp, go_sem]) ?_
      exact ⟨by simpa using hz, Nat.le_trans hwX hb9.size, hsv.alloc (Nat.le_trans hBX hwX) _, x5, _, x25, x26, x27, x28, x29, x30, rfl, h0.other hil ⟨by omega, by omega, by omega, by omega, by omega⟩ (fun _ _ h => h.below hb9) (fun _ _ _ h => h.below hb9), h1.own hil (fun _ _ h => h.below hb9) (.inr ⟨by omega, rfl⟩) (.inr ⟨by omega, rfl⟩) (.inr ⟨by omega, rfl⟩) (.inl ⟨rfl, by omega, hn4, _, rfl, hwX, Box.new w _ _⟩) (.inr ⟨by omega, fun _ _ _ h => h.below hb9⟩), fun hp _ => h0.lt (up_other hil (by omega) hp)⟩
    · have ho' := ho
      simp only [List.getElem?_toArray, List.getElem?_cons_zero, List.getElem?_cons_succ, Option.some.injEq] at ho'
      subst ho'
      have hu2 : up listed 2 := hdep { on := 2, ground := .data } (by simp) rfl
      have hu3 : up listed 6 := hdep { on := 6, ground := .data } (by simp) rfl
      obtain ⟨f, rfl, hBf, hbx, _⟩ := h0.al hu3
      have hbx := hbx hnu
      obtain ⟨A9, n9, c9, vs9, rfl, _⟩ := h0.cl hu2
      have q0 := hbx.cell
      have q1 := hbx.thaw
      have hn1 : ∀ f2, x6 = .pointer (some ⟨f2, 0, none⟩) → f2 ≠ f := fun f2 e2 e3 => by
        have hd := d01 (hdep { on := 6, ground := .data } (by simp) rfl) (hdep { on := 7, ground := .phase } (by simp) rfl)
        rw [e2, e3] at hd
        exact hd rfl
      refine wpOp_skip ho rfl (w' := w.setCell ⟨f, 0, none⟩ (.slice A9 n9 c9)) (by simp [execOp, Act.eval, go_sem, q0, q1]) ?_
      exact ⟨by simpa using hz, by simpa using hwX, hsv.box hbx (Nat.le_trans hBX hBf) (Nat.le_trans hBX hBf), _, x6, x25, x26, _, x28, x29, x30, rfl, h0.own hil (fun _ _ h => h.box hbx (by decide) (by decide)) (.inr ⟨by omega, rfl⟩) (.inr ⟨by omega, rfl⟩) (.inr ⟨by omega, rfl⟩) (.inr ⟨by omega, rfl⟩) (.inl ⟨rfl, by omega, hu2, hu3, fun f2 e2 => ⟨_, rfl, by injection e2 with e2; injection e2 with e2; injection e2 with e2; subst e2; exact hbx.set _⟩⟩), h1.other hil ⟨by omega, by omega, by omega, by omega, by omega⟩ (fun _ _ h => h.box hbx (by decide) (by decide)) (fun _ _ e2 h => h.far (grownBy_set w f 0 _) (hn1 _ e2)), dist_other d01 hil (by omega) (by omega)⟩
    · have ho' := ho
      simp only [List.getElem?_toArray, List.getElem?_cons_zero, List.getElem?_cons_succ, Option.some.injEq] at ho'
      subst ho'
      have hu2 : up listed 5 := hdep { on := 5, ground := .data } (by simp) rfl
      have hu3 : up listed 7 := hdep { on := 7, ground := .data } (by simp) rfl
      obtain ⟨f, rfl, hBf, hbx, _⟩ := h1.al hu3
      have hbx := hbx hnu
      obtain ⟨A9, n9, c9, vs9, rfl, _⟩ := h1.cl hu2
      have q0 := hbx.cell
      have q1 := hbx.thaw
      have hn0 : ∀ f2, x5 = .pointer (some ⟨f2, 0, none⟩) → f2 ≠ f := fun f2 e2 e3 => by
        have hd := d01 (hdep { on := 6, ground := .phase } (by simp) rfl) (hdep { on := 7, ground := .data } (by simp) rfl)
        rw [e2, e3] at hd
        exact hd rfl
      refine wpOp_skip ho rfl (w' := w.setCell ⟨f, 0, none⟩ (.slice A9 n9 c9)) (by simp [execOp, Act.eval, go_sem, q0, q1]) ?_
      exact ⟨by simpa using hz, by simpa using hwX, hsv.box hbx (Nat.le_trans hBX hBf) (Nat.le_trans hBX hBf), x5, _, x25, x26, x27, x28, x29, _, rfl, h0.other hil ⟨by omega, by omega, by omega, by omega, by omega⟩ (fun _ _ h => h.box hbx (by decide) (by decide)) (fun _ _ e2 h => h.far (grownBy_set w f 0 _) (hn0 _ e2)), h1.own hil (fun _ _ h => h.box hbx (by decide) (by decide)) (.inr ⟨by omega, rfl⟩) (.inr ⟨by omega, rfl⟩) (.inr ⟨by omega, rfl⟩) (.inr ⟨by omega, rfl⟩) (.inl ⟨rfl, by omega, hu2, hu3, fun f2 e2 => ⟨_, rfl, by injection e2 with e2; injection e2 with e2; injection e2 with e2; subst e2; exact hbx.set _⟩⟩), dist_other d01 hil (by omega) (by omega)⟩
  · rintro listed a w ⟨hz, hwX, hsv, x5, x6, x25, x26, x27, x28, x29, x30, rfl, h0, h1, d01⟩ hr
    have hall := all_up hr hz (by decide)
    have U : ∀ k, k < 10 → up listed k := fun k hk => hall (k + 1) k (by omega) hk
    obtain ⟨Av, nv, cv, vs, rfl, hvv⟩ := h0.cl (U 2 (by omega))
    obtain ⟨Aw, nw, cw, ws, rfl, hvw⟩ := h1.cl (U 5 (by omega))
    obtain ⟨fv, rfl, _, _, hbv⟩ := h0.al (U 6 (by omega))
    obtain ⟨fw, rfl, _, _, hbw⟩ := h1.al (U 7 (by omega))
    obtain ⟨q, e, hbv⟩ := hbv (U 8 (by omega))
    injection e with e; injection e with e; injection e with e _; subst e
    obtain ⟨q, e, hbw⟩ := hbw (U 9 (by omega))
    injection e with e; injection e with e; injection e with e _; subst e
    clear hall U hr h0 h1 d01
    have hc3 := hsv.1
    have HSP := Lib.hid hsv.2.1
    have HBS := Lib.hid hsv.2.2.1
    have HB := Lib.hid hsv.2.2.2
    have HVV := Lib.hid hvv
    have HVW := Lib.hid hvw
    have HBV := Lib.hid hbv
    have HBW := Lib.hid hbw
    have k0 := hsv.2.2.1.cell
    clear hsv hvv hvw hbv hbw hX k0
    have k0 := HBS.out.cell
    go_wp2_with fail
    obtain ⟨N, hN⟩ : ∃ N : Nat, Ce.prodN ss ss.length = (N : Int) := Int.eq_ofNat_of_zero_le (by have := HS.out.bd (Nat.le_refl _); omega)
    have hNb := HS.out.bd (Nat.le_refl _)
    rw [hN] at hNb
    have HN := Lib.hid hN
    refine (cells9 _ _ _ ss N 4 w hc3 HSP.out.sp hN (by omega) (by omega)).mono ?_; rintro e w4 ⟨u4, t, rfl, ho4, ht, hc4, hg4⟩
    obtain ⟨gt, ct, rfl, _, _, _, _⟩ := ho4.rowg ht.len (by omega)
    have HSP4 := Lib.hid (HSP.out.cod hc3 hg4)
    have HBS4 := Lib.hid (HBS.out.cod hc3 hg4 (by decide))
    have HVV4 := Lib.hid (HVV.out.cod hc3 hg4)
    have HVW4 := Lib.hid (HVW.out.cod hc3 hg4)
    have HBV4 := Lib.hid (HBV.out.cod hc3 hg4 (by decide))
    have HBW4 := Lib.hid (HBW.out.cod hc3 hg4 (by decide))
    have HB4 := Lib.hid (below_cod HB.out hg4)
    have HT := Lib.hid ht
    have HO4 := Lib.hid ho4
    have k0 := HBS4.out.cell
    clear hc3 hg4 ho4 ht hN
    go_wp2_with fail
    refine (cells9 _ _ _ ss N 4 w4 hc4 HSP4.out.sp HN.out (by omega) (by omega)).mono ?_; rintro e w5 ⟨u5, u, rfl, ho5, hu, hc5, hg5⟩
    obtain ⟨gu, cu, rfl, _, _, _, _⟩ := ho5.rowg hu.len (by omega)
    have HU := Lib.hid hu
    have hsp := (HSP4.out.cod hc4 hg5).sp
    have hv := (HVV4.out.cod hc4 hg5).vw HS.out
    have hw := (HVW4.out.cod hc4 hg5).vw HS.out
    have htn := (HO4.out.cod hc4 hg5 (by decide)).numsG (Ce.table_wf HT.out (by omega))
    have hun := ho5.numsG (Ce.table_wf hu (by omega))
    have hB := below_cod HB4.out hg5
    have k0 := (HBS4.out.cod hc4 hg5 (by decide)).cell
    have kv := (HBV4.out.cod hc4 hg5 (by decide)).cell
    have kw := (HBW4.out.cod hc4 hg5 (by decide)).cell
    have HVV5 := Lib.hid hv.ok
    have HVW5 := Lib.hid hw.ok
    clear hc4 hc5 hg5 ho5 hu
    go_wp2_with fail
    refine (margins28 _ _ ss vs w5 hsp hv).mono ?_; rintro e w6 ⟨um, ms, rfl, hms, hmg, hml, hb6⟩
    replace hsp := hsp.keep hb6
    replace hv := hv.keep hb6
    replace hw := hw.keep hb6
    replace htn := htn.keep hb6 hb6.size
    replace hun := hun.keep hb6 hb6.size
    replace hB := hB.trans (hb6.mono hB.size)
    replace k0 := below_cell hb6 k0
    replace kv := below_cell hb6 kv
    replace kw := below_cell hb6 kw
    obtain ⟨Am, cm, rfl, hmr⟩ := hms.read
    obtain ⟨L, hL⟩ : ∃ L, ms.length = L := ⟨_, rfl⟩
    rw [hL] at hmr hml ⊢
    have HMR := Lib.hid hmr
    have HMG := Lib.hid hmg
    have HLL := Lib.hid hL
    clear hms hmr hmg hb6 hL
    go_wp2_with fail
    have HSPL := Lib.hid hsp
    have HVL := Lib.hid hv
    have HWL := Lib.hid hw
    have HK := Lib.hid (And.intro k0 (And.intro kv kw))
    have HBL := Lib.hid hB
    clear hsp hv hw k0 kv kw hB
    go_loopw [47] (fun i wr => ∃ j : Nat, j ≤ L ∧ i = .int .i64 j ∧ Hid (Below w6.heap.size w6 wr)) (fun i _ => L - (intOf i).toNat)
    case atStart => exact ⟨0, by omega, rfl, Below.refl _ _⟩
    case round =>
      rename World => Y
      obtain ⟨j, hj, rfl, HI⟩ := hrel
      have k0 := below_cell HI.out HK.out.1
      have kv := below_cell HI.out HK.out.2.1
      have kw := below_cell HI.out HK.out.2.2
      by_cases hlj : j < L
      · obtain ⟨g9, vi, rfl, _, hcell, hro⟩ := HMR.out j hlj
        obtain ⟨st, _, hest, hnst⟩ := HMG.out (ms.getD j []) (by
          have := HLL.out
          simp [List.getD, show j < ms.length by omega])
        have hvo : VwO w6 w5.heap.size (.agg #[vi]) ss (ms.getD j []) := ⟨⟨vi, rfl, hro⟩, by rw [hest]; exact Ce.tog_view HVV5.out st⟩
        have hf1 : Ce.finB ss.length vs (ms.getD j []) = true := by rw [hest]; exact Ce.tog_fine HVV5.out st
        have hf2 : Ce.finB ss.length (ms.getD j []) vs = false := by
          rw [hest] at hnst ⊢
          exact Ce.tog_coarse HVV5.out hnst
        obtain ⟨Ax, nx, cx, ex, _⟩ := hvo.form HS.out
        injection ex with ex; injection ex with ex; injection ex with ex _; subst ex
        have hcy := below_cell HI.out hcell
        have hbz : Below Y.heap.size Y (Y.alloc (.cells #[.slice Ax nx cx] 27)) := (Below.refl _ _).alloc (Nat.le_refl _) _
        obtain ⟨Z, hZ⟩ : ∃ Z : World, Y.alloc (.cells #[.slice Ax nx cx] 27) = Z := ⟨_, rfl⟩
        have kx := (hZ ▸ Box.new Y (.slice Ax nx cx) 27 : Box Z Y.heap.size _ _).cell
        rw [hZ] at hbz
        have hIZ := HI.out.trans (hbz.mono HI.out.size)
        have hsp := HSPL.out.keep hIZ
        have hv := HVL.out.keep hIZ
        have hx := (hvo.vw HS.out).keep hIZ
        replace k0 := below_cell hbz k0
        replace kv := below_cell hbz kv
        clear hcell hro hvo hest hnst hbz
        go_wp2_with (first
          | (go_at_call 30; refine (finer28c _ _ _ ss _ _ _ _ (by assumption) (by assumption) (by assumption) (by assumption)).mono ?_; rintro e w9 ⟨rfl, hb9⟩; replace hsp := hsp.keep hb9; replace hv := hv.keep hb9; replace hx := hx.keep hb9; replace k0 := below_cell hb9 k0; replace kv := below_cell hb9 kv; replace kx := below_cell hb9 kx; replace hIZ := hIZ.trans (hb9.mono hIZ.size); clear hb9)
          | fail)
        go_roundw
        case rel => exact ⟨j + 1, by omega, by go_num, hIZ⟩
        case measure => simp [intOf]; omega
      · obtain rfl : j = L := by omega
        have hsp := HSPL.out.keep HI.out
        have hv := HVL.out.keep HI.out
        have hw := HWL.out.keep HI.out
        have hB := HBL.out.trans (HI.out.mono HBL.out.size)
        replace htn := htn.keep HI.out HI.out.size
        replace hun := hun.keep HI.out HI.out.size
        have hM := (Int.eq_ofNat_of_zero_le (show 0 ≤ Ce.published vs by have := Ce.published_bd HS.out HVV5.out; omega))
        obtain ⟨M, hM⟩ := hM
        obtain ⟨M2, hM2⟩ := (Int.eq_ofNat_of_zero_le (show 0 ≤ Ce.published ws by have := Ce.published_bd HS.out HVW5.out; omega))
        have htb : ∀ j, j < t.length → 0 ≤ t.getD j 0 ∧ t.getD j 0 ≤ 1000000 := fun j hj => by have := HT.out.bd j hj; omega
        have hub : ∀ j, j < u.length → 0 ≤ u.getD j 0 ∧ u.getD j 0 ≤ 1000000 := fun j hj => by have := HU.out.bd j hj; omega
        cases hfin : Ce.finB ss.length vs ws
        · go_wp2_with (first
            | (go_at_call 30; refine (finer28c _ _ _ ss _ _ _ _ (by assumption) (by assumption) (by assumption) (by assumption)).mono ?_; rintro e w9 ⟨rfl, hb9⟩; replace hB := hB.trans (hb9.mono hB.size); clear hb9)
            | (go_at_call 14; refine (awake28 _).mono ?_; rintro e w9 ⟨rfl, hb9⟩; replace hB := hB.trans (hb9.mono hB.size); clear hb9)
            | fail)
          go_ret
          exact ⟨rfl, hB⟩
        · go_wp2_with fail
          refine (finer28c _ _ _ ss _ _ _ _ hsp hv hw hfin).mono ?_; rintro e w9 ⟨rfl, hb9⟩
          replace hsp := hsp.keep hb9
          replace hv := hv.keep hb9
          replace hw := hw.keep hb9
          replace htn := htn.keep hb9 hb9.size
          replace hun := hun.keep hb9 hb9.size
          replace k0 := below_cell hb9 k0
          replace kv := below_cell hb9 kv
          replace kw := below_cell hb9 kw
          replace hB := hB.trans (hb9.mono hB.size)
          clear hb9
          have hM1 : 1 ≤ M := by have := Ce.published_bd HS.out HVV5.out; omega
          have hM21 : 1 ≤ M2 := by have := Ce.published_bd HS.out HVW5.out; omega
          go_wp2_with fail
          refine (publish28 _ _ ss vs N M _ _ ct t _ hsp hv HN.out hM htn rfl htb).mono ?_; rintro e wa ⟨xa, rfl, hoa, hba⟩
          obtain ⟨ga, ca, rfl, _, _, _, _⟩ := hoa.rowg (Ce.pubs_len _ _ _ _) (by omega)
          have hna := hoa.numsG (Ce.pubs_wf htb (by have := HT.out.len; omega) (by omega))
          replace hB := hB.trans (hba.mono hB.size)
          replace hsp := hsp.keep hba
          replace hv := hv.keep hba
          replace hw := hw.keep hba
          replace htn := htn.keep hba hba.size
          replace hun := hun.keep hba hba.size
          replace k0 := below_cell hba k0
          replace kv := below_cell hba kv
          replace kw := below_cell hba kw
          clear hba hoa
          go_wp2_with fail
          refine (publish28 _ _ ss vs N M _ _ cu u _ hsp hv HN.out hM hun rfl hub).mono ?_; rintro e wb ⟨xb, rfl, hob, hbb⟩
          obtain ⟨gb, cb, rfl, _, _, _, _⟩ := hob.rowg (Ce.pubs_len _ _ _ _) (by omega)
          have hnb := hob.numsG (Ce.pubs_wf hub (by have := HU.out.len; omega) (by omega))
          replace hB := hB.trans (hbb.mono hB.size)
          replace hsp := hsp.keep hbb
          replace hv := hv.keep hbb
          replace hw := hw.keep hbb
          replace htn := htn.keep hbb hbb.size
          replace hun := hun.keep hbb hbb.size
          replace k0 := below_cell hbb k0
          replace kv := below_cell hbb kv
          replace kw := below_cell hbb kw
          replace hna := hna.keep hbb hbb.size
          clear hbb hob
          go_wp2_with fail
          refine (publish28 _ _ ss ws N M2 _ _ ct t _ hsp hw HN.out hM2 htn rfl htb).mono ?_; rintro e wx ⟨xx, rfl, hox, hbx⟩
          obtain ⟨gx, cx, rfl, _, _, _, _⟩ := hox.rowg (Ce.pubs_len _ _ _ _) (by omega)
          have hnx := hox.numsG (Ce.pubs_wf htb (by have := HT.out.len; omega) (by omega))
          replace hB := hB.trans (hbx.mono hB.size)
          replace hsp := hsp.keep hbx
          replace hv := hv.keep hbx
          replace hw := hw.keep hbx
          replace htn := htn.keep hbx hbx.size
          replace hun := hun.keep hbx hbx.size
          replace k0 := below_cell hbx k0
          replace kv := below_cell hbx kv
          replace kw := below_cell hbx kw
          replace hna := hna.keep hbx hbx.size
          replace hnb := hnb.keep hbx hbx.size
          clear hbx hox
          go_wp2_with fail
          refine (publish28 _ _ ss ws N M2 _ _ cu u _ hsp hw HN.out hM2 hun rfl hub).mono ?_; rintro e wy ⟨xy, rfl, hoy, hby⟩
          obtain ⟨gy, cy, rfl, _, _, _, _⟩ := hoy.rowg (Ce.pubs_len _ _ _ _) (by omega)
          have hny := hoy.numsG (Ce.pubs_wf hub (by have := HU.out.len; omega) (by omega))
          replace hB := hB.trans (hby.mono hB.size)
          replace hsp := hsp.keep hby
          replace hv := hv.keep hby
          replace hw := hw.keep hby
          replace htn := htn.keep hby hby.size
          replace hun := hun.keep hby hby.size
          replace k0 := below_cell hby k0
          replace kv := below_cell hby kv
          replace kw := below_cell hby kw
          replace hna := hna.keep hby hby.size
          replace hnb := hnb.keep hby hby.size
          replace hnx := hnx.keep hby hby.size
          clear hby hoy
          go_wp2_with fail
          have hof := Ce.owner_fine HS.out HVV5.out HVW5.out hfin
          have hcoarse : Ce.pubs (Ce.ownf ss vs) t M N = Ce.pubs (Ce.ownf ss vs) u M N → Ce.pubs (Ce.ownf ss ws) t M2 N = Ce.pubs (Ce.ownf ss ws) u M2 N := fun h => Ce.pubs_ext.2 fun k hk =>
            Ce.psum_coarse (m := M) (fun c => by have := Ce.ownf_bd HS.out HVV5.out c; rw [hM] at this; exact this) (fun c => hof.1 c) (fun c d => hof.2 c d) (Ce.pubs_ext.1 h) (by omega)
          refine (ints28 _ _ _ _ _ _ _ _ _ _ _ hna hnb).mono ?_; rintro e wi ⟨rfl, hbi⟩
          replace hB := hB.trans (hbi.mono hB.size)
          replace hnx := hnx.keep hbi hbi.size
          replace hny := hny.keep hbi hbi.size
          clear hbi
          by_cases hab : Ce.pubs (Ce.ownf ss vs) t M N = Ce.pubs (Ce.ownf ss vs) u M N
          · have hxy := hcoarse hab
            simp only [hab, decide_true]
            go_wp2_with fail
            refine (ints28 _ _ _ _ _ _ _ _ _ _ _ hnx hny).mono ?_; rintro e wi ⟨rfl, hbi⟩
            replace hB := hB.trans (hbi.mono hB.size)
            simp only [hxy, decide_true]
            clear hbi
            go_wp2_with fail
            refine (awake28 _).mono ?_; rintro e w9 ⟨rfl, hb9⟩
            replace hB := hB.trans (hb9.mono hB.size)
            clear hb9
            go_wp2_with fail
            go_ret
            exact ⟨rfl, hB⟩
          · have d0 : decide (Ce.pubs (Ce.ownf ss vs) t M N = Ce.pubs (Ce.ownf ss vs) u M N) = false := decide_eq_false hab
            simp only [d0]
            go_wp2_with fail
            refine (awake28 _).mono ?_; rintro e w9 ⟨rfl, hb9⟩
            replace hB := hB.trans (hb9.mono hB.size)
            clear hb9
            go_wp2_with fail
            go_ret
            exact ⟨rfl, hB⟩
end Go.Proofs.Ytojeendofpallaa
