/- Cells: the law of sums, walked. -/
import Derived.Test.YtojeendofpallaaDe
namespace Go.Proofs.Ytojeendofpallaa
open Go.RowKit
def SQ (base b1 b2 f1 f2 g B : Nat) (sv vv : Value) (ss : List Int) (vs : List (List Int)) (W0 : World) (w : World) : Prop :=
  Cod w base g ∧ SpO w b1 (.agg #[sv]) ss ∧ VwO w b2 (.agg #[vv]) ss vs ∧ Box w f1 sv 24 ∧ Box w f2 vv 27 ∧ Below B W0 w
theorem SQ.drew {base b1 b2 f1 f2 g B : Nat} {sv vv : Value} {ss : List Int} {vs : List (List Int)} {W0 w : World} (h : SQ base b1 b2 f1 f2 g B sv vv ss vs W0 w) : SQ base b1 b2 f1 f2 g B sv vv ss vs W0 (w.drewN 1) := by
  have hb : Below w.heap.size w (w.drewN 1) := below_drewN (Below.refl _ _) 1
  exact ⟨h.1.below hb, h.2.1.below hb, h.2.2.1.below hb, h.2.2.2.1.below hb, h.2.2.2.2.1.below hb, below_drewN h.2.2.2.2.2 1⟩
theorem SQ.turn {base b1 b2 f1 f2 g B : Nat} {sv vv : Value} {ss : List Int} {vs : List (List Int)} {W0 w w' : World} (h : SQ base b1 b2 f1 f2 g B sv vv ss vs W0 w) (hc : Cod w' base g) (hg : w.grownBy w' (some g)) (hB : B ≤ g) (hB2 : B ≤ w.heap.size) : SQ base b1 b2 f1 f2 g B sv vv ss vs W0 w' :=
  ⟨hc, h.2.1.cod h.1 hg, h.2.2.1.cod h.1 hg, h.2.2.2.1.cod h.1 hg (by decide), h.2.2.2.2.1.cod h.1 hg (by decide), h.2.2.2.2.2.grown hg hB2 (fun r e => by injection e with e; omega)⟩
/-- one of the calls, and its store -/
structure Tab (b N : Nat) (most : Int) (p s : Value) (i0 i1 i2 i6 : Nat) (listed : Array Bool) (xm xl xc xa : Value) (w : World) : Prop where
  mv : up listed i0 → xm = p
  ld : up listed i1 → xl = s
  cl : up listed i2 → ∃ t, Own w b 3 .i64 xc t ∧ Ce.Table t N most
  st : up listed i6 → xa = xc ∧ up listed i2
theorem Tab.start {b N : Nat} {most : Int} {p s : Value} {i0 i1 i2 i6 n : Nat} {xm xl xc xa : Value} {w : World} : Tab b N most p s i0 i1 i2 i6 (Array.replicate n false) xm xl xc xa w :=
  ⟨fun h9 => absurd h9 (up_none _ _), fun h9 => absurd h9 (up_none _ _), fun h9 => absurd h9 (up_none _ _), fun h9 => absurd h9 (up_none _ _)⟩
theorem Tab.other {b N : Nat} {most : Int} {p s : Value} {i0 i1 i2 i6 i : Nat} {listed : Array Bool} {xm xl xc xa : Value} {w w' : World} (h : Tab b N most p s i0 i1 i2 i6 listed xm xl xc xa w) (hi : i < listed.size) (hne : i ≠ i0 ∧ i ≠ i1 ∧ i ≠ i2 ∧ i ≠ i6)
    (hV : ∀ v t, Own w b 3 .i64 v t → Own w' b 3 .i64 v t) : Tab b N most p s i0 i1 i2 i6 (listed.setIfInBounds i true) xm xl xc xa w' := by
  obtain ⟨h0, h1, h2, h3⟩ := hne
  refine ⟨fun hu => h.mv (up_other hi h0 hu), fun hu => h.ld (up_other hi h1 hu), fun hu => ?_, fun hu => ?_⟩
  · obtain ⟨t, q1, q2⟩ := h.cl (up_other hi h2 hu)
    exact ⟨t, hV _ _ q1, q2⟩
  · have := h.st (up_other hi h3 hu)
    exact ⟨this.1, (up_set hi).2 (.inr this.2)⟩
theorem Tab.own {b N : Nat} {most : Int} {p s : Value} {i0 i1 i2 i6 i : Nat} {listed : Array Bool} {xm xl xc xa xm' xl' xc' xa' : Value} {w w' : World} (h : Tab b N most p s i0 i1 i2 i6 listed xm xl xc xa w) (hi : i < listed.size)
    (hV : ∀ v t, Own w b 3 .i64 v t → Own w' b 3 .i64 v t)
    (q0 : (i = i0 ∧ xm' = p) ∨ (i ≠ i0 ∧ xm' = xm)) (q1 : (i = i1 ∧ xl' = s) ∨ (i ≠ i1 ∧ xl' = xl))
    (q2 : (i = i2 ∧ i ≠ i6 ∧ ¬ up listed i6 ∧ ∃ t, Own w' b 3 .i64 xc' t ∧ Ce.Table t N most) ∨ (i ≠ i2 ∧ xc' = xc))
    (q3 : (i = i6 ∧ i ≠ i2 ∧ up listed i2 ∧ xa' = xc) ∨ (i ≠ i6 ∧ xa' = xa)) : Tab b N most p s i0 i1 i2 i6 (listed.setIfInBounds i true) xm' xl' xc' xa' w' := by
  refine ⟨fun hu => ?_, fun hu => ?_, fun hu => ?_, fun hu => ?_⟩
  · rcases q0 with ⟨_, e0⟩ | ⟨e0, rfl⟩
    · exact e0
    · exact h.mv (up_other hi e0 hu)
  · rcases q1 with ⟨_, e0⟩ | ⟨e0, rfl⟩
    · exact e0
    · exact h.ld (up_other hi e0 hu)
  · rcases q2 with ⟨_, _, _, e0⟩ | ⟨e0, rfl⟩
    · exact e0
    · obtain ⟨t, r1, r2⟩ := h.cl (up_other hi e0 hu)
      exact ⟨t, hV _ _ r1, r2⟩
  · rcases q3 with ⟨rfl, e0, e1, e2⟩ | ⟨e0, rfl⟩
    · rcases q2 with ⟨e3, _⟩ | ⟨_, rfl⟩
      · exact absurd e3 e0
      · exact ⟨e2, (up_set hi).2 (.inr e1)⟩
    · have h3 := h.st (up_other hi e0 hu)
      rcases q2 with ⟨e4, e5, e6, _⟩ | ⟨_, rfl⟩
      · exact absurd (up_other hi e5 hu) e6
      · exact ⟨h3.1, (up_set hi).2 (.inr h3.2)⟩
def Ce.both (t u : List Int) (N j : Nat) : List Int := (List.range N).map fun k => if k < j then t.getD k 0 + u.getD k 0 else 0
theorem Ce.both_zero (t u : List Int) (N : Nat) : Ce.both t u N 0 = List.replicate N 0 := by
  refine List.ext_getElem (by simp [Ce.both]) fun i h1 h2 => ?_
  simp [Ce.both]
theorem Ce.both_set {t u : List Int} {N j : Nat} (hj : j < N) : (Ce.both t u N j).set j (t.getD j 0 + u.getD j 0) = Ce.both t u N (j + 1) := by
  refine List.ext_getElem (by simp [Ce.both]) fun i h1 h2 => ?_
  rw [List.getElem_set]
  simp only [Ce.both, List.getElem_map, List.getElem_range]
  split
  · subst_vars; simp
  · rename_i h
    have : (i < j) ↔ (i < j + 1) := by omega
    simp [this]
theorem Ce.both_get {t u : List Int} {N j : Nat} (hj : j < N) : (Ce.both t u N N).getD j 0 = t.getD j 0 + u.getD j 0 := by
  simp [Ce.both, List.getD, hj]
theorem Ce.both_len (t u : List Int) (N j : Nat) : (Ce.both t u N j).length = N := by simp [Ce.both]
theorem Ce.sumk_bd {F : Nat → Int} {B : Int} (hB : 0 ≤ B) : ∀ m : Nat, (∀ k, k < m → 0 ≤ F k ∧ F k ≤ B) → 0 ≤ Ce.sumk F m ∧ Ce.sumk F m ≤ B * m
  | 0, _ => by simp [Ce.sumk]
  | m + 1, h => by
    have h1 := Ce.sumk_bd hB m (fun k hk => h k (by omega))
    have h2 := h m (by omega)
    simp only [Ce.sumk]
    rw [show B * ((m + 1 : Nat) : Int) = B * m + B by push_cast; rw [Int.mul_add, Int.mul_one]]
    omega
set_option maxHeartbeats 1600000 in
set_option maxRecDepth 100000 in
theorem walkSum (W : World) (A : Option Addr) (n c : Nat) (l : List Int) (h : Nums W .u8 W.heap.size A n c l) :
    Calls Try.prog 8 #[.slice A n c] W fun e w => e = .returned (.bool true) ∧ Below W.heap.size W w := by
  go_enter Try.func8, Try.ntmps8
  go_wp2_with fail
  refine (new_any A n c l W h).mono ?_; rintro e w1 ⟨rfl, hc1, hb1⟩
  have HB1 := Lib.hid hb1
  clear hb1
  go_wp2_with fail
  refine (space9 _ _ w1 hc1).mono ?_; rintro e w2 ⟨v, ss, rfl, ho, hs, hc2, hg2⟩
  have hsp2 : SpO w2 w1.heap.size (.agg #[v]) ss := ⟨⟨v, rfl, ho⟩, hs⟩
  obtain ⟨gs, ns, cs, rfl, _⟩ := hsp2.form
  have hbx : Below w2.heap.size w2 (w2.alloc (.cells #[.slice (some ⟨gs, 0, none⟩) ns cs] 24)) := (Below.refl _ _).alloc (Nat.le_refl _) _
  obtain ⟨X, hX⟩ : ∃ X : World, w2.alloc (.cells #[.slice (some ⟨gs, 0, none⟩) ns cs] 24) = X := ⟨_, rfl⟩
  have hbs : Box X w2.heap.size _ _ := hX ▸ Box.new w2 (.slice (some ⟨gs, 0, none⟩) ns cs) 24
  rw [hX] at hbx
  have HSP2 := Lib.hid (hsp2.below hbx)
  have HB2 := Lib.hid ((below_cod HB1.out hg2).trans (hbx.mono (below_cod HB1.out hg2).size))
  have hc2 := hc2.below hbx
  have HS := Lib.hid hs
  have k0 := hbs.cell
  have HBS := Lib.hid hbs
  obtain ⟨N, hN⟩ : ∃ N : Nat, Ce.prodN ss ss.length = (N : Int) := Int.eq_ofNat_of_zero_le (by have := hs.bd (Nat.le_refl _); omega)
  have hNb := hs.bd (Nat.le_refl _)
  rw [hN] at hNb
  have HN := Lib.hid hN
  clear ho hs hc1 hg2 hsp2 hbx hbs hN
  go_wp2_with fail
  clear hX
  refine (view9 _ _ _ _ ss X hc2 HSP2.out).mono ?_; rintro e w3 ⟨v', vs, rfl, hv3, hc3, hg3⟩
  obtain ⟨Av, nv, cv, rfl, _⟩ := hv3.form HS.out
  have hbx : Below w3.heap.size w3 (w3.alloc (.cells #[.slice Av nv cv] 27)) := (Below.refl _ _).alloc (Nat.le_refl _) _
  obtain ⟨Y, hY⟩ : ∃ Y : World, w3.alloc (.cells #[.slice Av nv cv] 27) = Y := ⟨_, rfl⟩
  have hbv : Box Y w3.heap.size _ _ := hY ▸ Box.new w3 (.slice Av nv cv) 27
  rw [hY] at hbx
  have HSP3 := Lib.hid ((HSP2.out.cod hc2 hg3).below hbx)
  have HV3 := Lib.hid (hv3.below hbx)
  have HB3 := Lib.hid ((below_cod HB2.out hg3).trans (hbx.mono (below_cod HB2.out hg3).size))
  have HBS3 := Lib.hid ((HBS.out.cod hc2 hg3 (by decide)).below hbx)
  have hc3 := hc3.below hbx
  have k0 := HBS3.out.cell
  have k1 := hbv.cell
  have HBV := Lib.hid hbv
  clear hc2 hg3 hv3 hbx hbv
  go_wp2_with fail
  clear hY
  have HSQ := Lib.hid (show SQ W.heap.size w1.heap.size X.heap.size w2.heap.size w3.heap.size W.heap.size W.heap.size (.slice (some ⟨gs, 0, none⟩) ns cs) (.slice Av nv cv) ss vs W Y from ⟨hc3, HSP3.out, HV3.out, HBS3.out, HBV.out, HB3.out⟩)
  have hBX : W.heap.size ≤ Y.heap.size := HB3.out.size
  refine wp_region_inv (by kernel_rfl) (fun listed a w => listed.size = 8 ∧ Y.heap.size ≤ w.heap.size ∧ SQ W.heap.size w1.heap.size X.heap.size w2.heap.size w3.heap.size W.heap.size W.heap.size (.slice (some ⟨gs, 0, none⟩) ns cs) (.slice Av nv cv) ss vs W w ∧ ∃ x6 x7 x31 x32 x33 x34 x35 x36 : Value, a = ⟨#[.slice A n c, undef, .bool false, .pointer (some ⟨W.heap.size, 0, none⟩), .pointer (some ⟨w2.heap.size, 0, none⟩), .pointer (some ⟨w3.heap.size, 0, none⟩), x6, x7, undef, undef, undef, undef, undef, undef, undef, undef, undef, undef, undef, undef, undef, undef, undef, undef, .slice A n c, .pointer (some ⟨W.heap.size, 0, none⟩), .pointer (some ⟨W.heap.size, 0, none⟩), .agg #[.slice (some ⟨gs, 0, none⟩) ns cs], .pointer (some ⟨W.heap.size, 0, none⟩), .agg #[.slice (some ⟨gs, 0, none⟩) ns cs], .agg #[.slice Av nv cv], x31, x32, x33, x34, x35, x36, undef, undef, undef, undef, undef, undef, undef, undef, undef, undef, undef, undef, undef, undef, undef, undef, undef, undef, undef, undef, undef, undef, undef, undef, undef, undef, undef, undef, undef, undef, undef, undef, undef, undef, undef, undef, undef, undef, undef, undef, undef, undef, undef, undef, undef, undef, undef, undef, undef, undef, undef, undef, undef, undef, undef, undef, undef, undef, undef, undef, undef, undef, undef, undef, undef, undef, undef, undef, undef, undef, undef, undef, undef, undef, undef, undef, undef, undef, undef, undef, undef, undef, undef, undef, undef, undef, undef, undef, undef, undef, undef, undef, undef, undef, undef, undef, undef, undef, undef, undef, undef, undef, undef, undef, undef, undef, undef, undef, undef, undef, undef, undef, undef, undef, undef, undef, undef, undef, undef, undef, undef, undef, undef, undef, undef, undef, undef, undef, undef, undef, undef, undef, undef], []⟩ ∧
    Tab Y.heap.size N 9 (.pointer (some ⟨W.heap.size, 0, none⟩)) (.agg #[.slice (some ⟨gs, 0, none⟩) ns cs]) 0 1 2 6 listed x31 x32 x33 x6 w ∧
    Tab Y.heap.size N 9 (.pointer (some ⟨W.heap.size, 0, none⟩)) (.agg #[.slice (some ⟨gs, 0, none⟩) ns cs]) 3 4 5 7 listed x34 x35 x36 x7 w) (fun _ _ _ h => h.1) ?_ ?_ ?_
  · exact ⟨by simp, Nat.le_refl _, HSQ.out.drew, undef, undef, undef, undef, undef, undef, undef, undef, rfl, Tab.start, Tab.start⟩
  · rintro listed a w i o ⟨hz, hwX, hsv, x6, x7, x31, x32, x33, x34, x35, x36, rfl, h0, h1⟩ ho hdep hnu
    have hi : i < 8 := by
      rcases Nat.lt_or_ge i 8 with h | h
      · exact h
      · rw [Array.getElem?_eq_none (by simpa using h)] at ho; cases ho
    have hil : i < listed.size := by omega
    rcases (show i = 0 ∨ i = 1 ∨ i = 2 ∨ i = 3 ∨ i = 4 ∨ i = 5 ∨ i = 6 ∨ i = 7 by omega) with rfl | rfl | rfl | rfl | rfl | rfl | rfl | rfl
    · have ho' := ho
      simp only [List.getElem?_toArray, List.getElem?_cons_zero, Option.some.injEq] at ho'
      subst ho'
      refine wpOp_value ho rfl (v := .pointer (some ⟨W.heap.size, 0, none⟩)) (w' := w) (by simp [execOp, Act.eval, go_sem]) ?_
      exact ⟨by simpa using hz, hwX, hsv, x6, x7, _, x32, x33, x34, x35, x36, rfl, h0.own hil (fun _ _ h => h) (.inl ⟨rfl, rfl⟩) (.inr ⟨by omega, rfl⟩) (.inr ⟨by omega, rfl⟩) (.inr ⟨by omega, rfl⟩), h1.other hil ⟨by omega, by omega, by omega, by omega⟩ (fun _ _ h => h)⟩
    · have ho' := ho
      simp only [List.getElem?_toArray, List.getElem?_cons_zero, List.getElem?_cons_succ, Option.some.injEq] at ho'
      subst ho'
      have c9 := hsv.2.2.2.1.cell
      refine wpOp_value ho rfl (v := .agg #[.slice (some ⟨gs, 0, none⟩) ns cs]) (w' := w) (by simp [execOp, Act.eval, go_sem, c9]) ?_
      exact ⟨by simpa using hz, hwX, hsv, x6, x7, x31, _, x33, x34, x35, x36, rfl, h0.own hil (fun _ _ h => h) (.inr ⟨by omega, rfl⟩) (.inl ⟨rfl, rfl⟩) (.inr ⟨by omega, rfl⟩) (.inr ⟨by omega, rfl⟩), h1.other hil ⟨by omega, by omega, by omega, by omega⟩ (fun _ _ h => h)⟩
    · have ho' := ho
      simp only [List.getElem?_toArray, List.getElem?_cons_zero, List.getElem?_cons_succ, Option.some.injEq] at ho'
      subst ho'
      have hu0 : up listed 0 := hdep { on := 0, ground := .data } (by simp) rfl
      have hu1 : up listed 1 := hdep { on := 1, ground := .data } (by simp) rfl
      obtain rfl := h0.mv hu0
      obtain rfl := h0.ld hu1
      have hn4 : ¬ up listed 6 := fun h9 => hnu (h0.st h9).2
      refine wpOp_call ho rfl (f := 18) (args := #[.pointer (some ⟨W.heap.size, 0, none⟩), .agg #[.slice (some ⟨gs, 0, none⟩) ns cs], .int .i64 9]) (w' := w) (by simp [Act.eval, go_sem]) ?_
      refine (cells9 _ _ _ ss N 9 w hsv.1 hsv.2.1.sp HN.out (by omega) (by omega)).mono ?_; rintro e9 w9 ⟨v9, t9, rfl, hv9, ht9, hc9, hg9⟩
      refine ⟨_, rfl, ?_⟩
      exact ⟨by simpa using hz, Nat.le_trans hwX hg9.size, hsv.turn hc9 hg9 (Nat.le_refl _) (Nat.le_trans hBX hwX), x6, x7, _, _, _, x34, x35, x36, rfl, h0.own hil (fun _ _ h => h.cod hsv.1 hg9 (by decide)) (.inr ⟨by omega, rfl⟩) (.inr ⟨by omega, rfl⟩) (.inl ⟨rfl, by omega, hn4, t9, hv9.base_le hwX, ht9⟩) (.inr ⟨by omega, rfl⟩), h1.other hil ⟨by omega, by omega, by omega, by omega⟩ (fun _ _ h => h.cod hsv.1 hg9 (by decide))⟩
    · have ho' := ho
      simp only [List.getElem?_toArray, List.getElem?_cons_zero, List.getElem?_cons_succ, Option.some.injEq] at ho'
      subst ho'
      refine wpOp_value ho rfl (v := .pointer (some ⟨W.heap.size, 0, none⟩)) (w' := w) (by simp [execOp, Act.eval, go_sem]) ?_
      exact ⟨by simpa using hz, hwX, hsv, x6, x7, x31, x32, x33, _, x35, x36, rfl, h0.other hil ⟨by omega, by omega, by omega, by omega⟩ (fun _ _ h => h), h1.own hil (fun _ _ h => h) (.inl ⟨rfl, rfl⟩) (.inr ⟨by omega, rfl⟩) (.inr ⟨by omega, rfl⟩) (.inr ⟨by omega, rfl⟩)⟩
    · have ho' := ho
      simp only [List.getElem?_toArray, List.getElem?_cons_zero, List.getElem?_cons_succ, Option.some.injEq] at ho'
      subst ho'
      have c9 := hsv.2.2.2.1.cell
      refine wpOp_value ho rfl (v := .agg #[.slice (some ⟨gs, 0, none⟩) ns cs]) (w' := w) (by simp [execOp, Act.eval, go_sem, c9]) ?_
      exact ⟨by simpa using hz, hwX, hsv, x6, x7, x31, x32, x33, x34, _, x36, rfl, h0.other hil ⟨by omega, by omega, by omega, by omega⟩ (fun _ _ h => h), h1.own hil (fun _ _ h => h) (.inr ⟨by omega, rfl⟩) (.inl ⟨rfl, rfl⟩) (.inr ⟨by omega, rfl⟩) (.inr ⟨by omega, rfl⟩)⟩
    · have ho' := ho
      simp only [List.getElem?_toArray, List.getElem?_cons_zero, List.getElem?_cons_succ, Option.some.injEq] at ho'
      subst ho'
      have hu0 : up listed 3 := hdep { on := 3, ground := .data } (by simp) rfl
      have hu1 : up listed 4 := hdep { on := 4, ground := .data } (by simp) rfl
      obtain rfl := h1.mv hu0
      obtain rfl := h1.ld hu1
      have hn4 : ¬ up listed 7 := fun h9 => hnu (h1.st h9).2
      refine wpOp_call ho rfl (f := 18) (args := #[.pointer (some ⟨W.heap.size, 0, none⟩), .agg #[.slice (some ⟨gs, 0, none⟩) ns cs], .int .i64 9]) (w' := w) (by simp [Act.eval, go_sem]) ?_
      refine (cells9 _ _ _ ss N 9 w hsv.1 hsv.2.1.sp HN.out (by omega) (by omega)).mono ?_; rintro e9 w9 ⟨v9, t9, rfl, hv9, ht9, hc9, hg9⟩
      refine ⟨_, rfl, ?_⟩
      exact ⟨by simpa using hz, Nat.le_trans hwX hg9.size, hsv.turn hc9 hg9 (Nat.le_refl _) (Nat.le_trans hBX hwX), x6, x7, x31, x32, x33, _, _, _, rfl, h0.other hil ⟨by omega, by omega, by omega, by omega⟩ (fun _ _ h => h.cod hsv.1 hg9 (by decide)), h1.own hil (fun _ _ h => h.cod hsv.1 hg9 (by decide)) (.inr ⟨by omega, rfl⟩) (.inr ⟨by omega, rfl⟩) (.inl ⟨rfl, by omega, hn4, t9, hv9.base_le hwX, ht9⟩) (.inr ⟨by omega, rfl⟩)⟩
    · have ho' := ho
      simp only [List.getElem?_toArray, List.getElem?_cons_zero, List.getElem?_cons_succ, Option.some.injEq] at ho'
      subst ho'
      have hu2 : up listed 2 := hdep { on := 2, ground := .data } (by simp) rfl
      refine wpOp_value ho rfl (v := x33) (w' := w) (by simp [execOp, Act.eval, go_sem]) ?_
      exact ⟨by simpa using hz, hwX, hsv, _, x7, x31, x32, x33, x34, x35, x36, rfl, h0.own hil (fun _ _ h => h) (.inr ⟨by omega, rfl⟩) (.inr ⟨by omega, rfl⟩) (.inr ⟨by omega, rfl⟩) (.inl ⟨rfl, by omega, hu2, rfl⟩), h1.other hil ⟨by omega, by omega, by omega, by omega⟩ (fun _ _ h => h)⟩
    · have ho' := ho
      simp only [List.getElem?_toArray, List.getElem?_cons_zero, List.getElem?_cons_succ, Option.some.injEq] at ho'
      subst ho'
      have hu2 : up listed 5 := hdep { on := 5, ground := .data } (by simp) rfl
      refine wpOp_value ho rfl (v := x36) (w' := w) (by simp [execOp, Act.eval, go_sem]) ?_
      exact ⟨by simpa using hz, hwX, hsv, x6, _, x31, x32, x33, x34, x35, x36, rfl, h0.other hil ⟨by omega, by omega, by omega, by omega⟩ (fun _ _ h => h), h1.own hil (fun _ _ h => h) (.inr ⟨by omega, rfl⟩) (.inr ⟨by omega, rfl⟩) (.inr ⟨by omega, rfl⟩) (.inl ⟨rfl, by omega, hu2, rfl⟩)⟩
  · rintro listed a w ⟨hz, hwX, hsv, x6, x7, x31, x32, x33, x34, x35, x36, rfl, h0, h1⟩ hr
    have hall := all_up hr hz (by decide)
    have U : ∀ k, k < 8 → up listed k := fun k hk => hall (k + 1) k (by omega) hk
    obtain ⟨t, ho5, ht⟩ := h0.cl (U 2 (by omega))
    obtain ⟨u, ho6, hu⟩ := h1.cl (U 5 (by omega))
    obtain ⟨rfl, _⟩ := h0.st (U 6 (by omega))
    obtain ⟨rfl, _⟩ := h1.st (U 7 (by omega))
    clear hall U hr h0 h1
    obtain ⟨gt, ct, rfl, hgt, hgt2, _, _⟩ := ho5.rowg ht.len (by omega)
    obtain ⟨gu, cu, rfl, hgu, hgu2, _, _⟩ := ho6.rowg hu.len (by omega)
    have HT := Lib.hid ht
    have HU := Lib.hid hu
    have hsp := hsv.2.1.sp
    have hv := hsv.2.2.1.vw HS.out
    have htn := ho5.numsG (Ce.table_wf ht (by omega))
    have hun := ho6.numsG (Ce.table_wf hu (by omega))
    have hB := hsv.2.2.2.2.2
    have k0 := hsv.2.2.2.1.cell
    have k1 := hsv.2.2.2.2.1.cell
    have HVV := Lib.hid hv.ok
    clear hsv ho5 ho6 ht hu hc2 hc3 HSP2 HB2 HBS HSP3 HV3 HB3 HBS3 HBV HSQ
    go_wp2_with (at_make; refine make_ints _ rfl _ _ _ rfl w.heap.size 3 8 .i64 int_info28 Try.underlying22 N rfl rfl (by simp only [maxLen]; omega) (by omega) (Nat.le_refl _) ?_; intro w7 hown7 hgrow7)
    have hb7 := Own.below_grown hgrow7 (Nat.le_refl w.heap.size)
    rw [← Ce.both_zero t u N] at hown7
    have HO7 := Lib.hid hown7
    have HB7 := Lib.hid hb7
    have HTN := Lib.hid htn
    have HUN := Lib.hid hun
    have HSPW := Lib.hid hsp
    have HVW := Lib.hid hv
    have HBW := Lib.hid hB
    have HK := Lib.hid (And.intro k0 k1)
    clear htn hun hsp hv hB k0 k1 hown7 hgrow7 hb7
    go_loopw [42] (fun i wr => ∃ j : Nat, j ≤ N ∧ i = .int .i64 j ∧ Hid (Own wr w.heap.size 3 .i64 (.slice (some ⟨w.heap.size, 0, none⟩) N N) (Ce.both t u N j) ∧ Below w.heap.size w wr)) (fun i _ => N - (intOf i).toNat)
    case atStart => exact ⟨0, by omega, rfl, HO7.out, HB7.out⟩
    case round =>
      rename World => Z
      obtain ⟨j, hj, rfl, HI⟩ := hrel
      by_cases hlt : j < N
      · obtain ⟨x, HX, hx, _⟩ := (HTN.out.keep HI.out.2 HI.out.2.size).valG hlt
        obtain ⟨y, HY, hy, _⟩ := (HUN.out.keep HI.out.2 HI.out.2.size).valG hlt
        have hxb := HT.out.bd j HX.out.2
        have hyb := HU.out.bd j HY.out.2
        rw [HX.out.1] at hxb
        rw [HY.out.1] at hyb
        have xe := HX.out.1
        have ye := HY.out.1
        have c0 : Z.cell? ⟨w.heap.size, j, none⟩ = some (.int .i64 ((Ce.both t u N j).getD j 0)) := HI.out.1.cell (by rw [Ce.both_len]; exact hlt)
        have f0 := HI.out.1.thaw j
        have HE := Lib.hid (show Ce.both t u N (j + 1) = (Ce.both t u N j).set j (x + y) by rw [← Ce.both_set hlt, xe, ye])
        have HST := Lib.hid (HI.out.1.store j (x + y))
        generalize (Ce.both t u N j).getD j 0 = p at c0
        clear xe ye
        go_wp2_with fail
        go_region
        go_wp2_with fail
        go_roundw
        case rel =>
          have hb := HI.out.1.grow HI.out.2 HST.out.2 HI.out.2.size (Nat.le_refl _)
          exact ⟨j + 1, by omega, by go_num, by rw [HE.out]; exact HST.out.1, ⟨hb.os, hb.tape, hb.output, hb.size, hb.block⟩⟩
        case measure => simp [intOf]; omega
      · obtain rfl : N = j := by omega
        obtain ⟨M, hM⟩ := (Int.eq_ofNat_of_zero_le (show 0 ≤ Ce.published vs by have := Ce.published_bd HS.out HVV.out; omega))
        have hMb := Ce.published_bd HS.out HVV.out
        rw [hM] at hMb
        have htl := HT.out.len
        have hul := HU.out.len
        have hbl := Ce.both_len t u N N
        have htb : ∀ j, j < t.length → 0 ≤ t.getD j 0 ∧ t.getD j 0 ≤ 1000000 := fun j hj => by have := HT.out.bd j hj; omega
        have hub : ∀ j, j < u.length → 0 ≤ u.getD j 0 ∧ u.getD j 0 ≤ 1000000 := fun j hj => by have := HU.out.bd j hj; omega
        have hbb : ∀ j, j < (Ce.both t u N N).length → 0 ≤ (Ce.both t u N N).getD j 0 ∧ (Ce.both t u N N).getD j 0 ≤ 1000000 := fun j hj => by
          rw [hbl] at hj
          have := HT.out.bd j (by omega)
          have := HU.out.bd j (by omega)
          rw [Ce.both_get hj]
          omega
        have hsp := HSPW.out.keep HI.out.2
        have hv := HVW.out.keep HI.out.2
        have htn := HTN.out.keep HI.out.2 HI.out.2.size
        have hun := HUN.out.keep HI.out.2 HI.out.2.size
        have hbn := HI.out.1.numsG (Ce.map_range_wf fun k hk => by
          have h1 := HT.out.bd k (by omega)
          have h2 := HU.out.bd k (by omega)
          simp only [show k < N from hk, if_true]
          omega)
        have hB := HBW.out.trans (HI.out.2.mono HBW.out.size)
        have k0 := below_cell HI.out.2 HK.out.1
        have k1 := below_cell HI.out.2 HK.out.2
        have hM1 : 1 ≤ M := by omega
        go_wp2_with fail
        refine (publish28 _ _ ss vs N M _ _ ct t _ hsp hv HN.out hM htn rfl htb).mono ?_; rintro e wa ⟨xa, rfl, hoa, hba⟩
        obtain ⟨ga, ca, rfl, _, _, _, _⟩ := hoa.rowg (Ce.pubs_len _ _ _ _) (by omega)
        have hna := hoa.numsG (Ce.pubs_wf htb (by rw [htl]; omega) (by omega))
        replace hB := hB.trans (hba.mono hB.size)
        replace hsp := hsp.keep hba
        replace hv := hv.keep hba
        replace htn := htn.keep hba hba.size
        replace hun := hun.keep hba hba.size
        replace hbn := hbn.keep hba hba.size
        replace k0 := below_cell hba k0
        replace k1 := below_cell hba k1
        clear hba hoa
        go_wp2_with fail
        refine (publish28 _ _ ss vs N M _ _ cu u _ hsp hv HN.out hM hun rfl hub).mono ?_; rintro e wb ⟨xb, rfl, hob, hbb⟩
        obtain ⟨gb, cb, rfl, _, _, _, _⟩ := hob.rowg (Ce.pubs_len _ _ _ _) (by omega)
        have hnb := hob.numsG (Ce.pubs_wf hub (by rw [hul]; omega) (by omega))
        replace hB := hB.trans (hbb.mono hB.size)
        replace hsp := hsp.keep hbb
        replace hv := hv.keep hbb
        replace htn := htn.keep hbb hbb.size
        replace hun := hun.keep hbb hbb.size
        replace hbn := hbn.keep hbb hbb.size
        replace k0 := below_cell hbb k0
        replace k1 := below_cell hbb k1
        replace hna := hna.keep hbb hbb.size
        clear hbb hob
        go_wp2_with fail
        refine (publish28 _ _ ss vs N M _ _ N (Ce.both t u N N) _ hsp hv HN.out hM hbn rfl hbb).mono ?_; rintro e wx ⟨xx, rfl, hox, hbx⟩
        obtain ⟨gx, cx, rfl, _, _, _, _⟩ := hox.rowg (Ce.pubs_len _ _ _ _) (by omega)
        have hnx := hox.numsG (Ce.pubs_wf hbb (by rw [hbl]; omega) (by omega))
        replace hB := hB.trans (hbx.mono hB.size)
        replace hsp := hsp.keep hbx
        replace hv := hv.keep hbx
        replace htn := htn.keep hbx hbx.size
        replace hun := hun.keep hbx hbx.size
        replace hbn := hbn.keep hbx hbx.size
        replace k0 := below_cell hbx k0
        replace k1 := below_cell hbx k1
        replace hna := hna.keep hbx hbx.size
        replace hnb := hnb.keep hbx hbx.size
        clear hbx hox
        go_wp2_with fail
        have HNA := Lib.hid hna
        have HNB := Lib.hid hnb
        have HNX := Lib.hid hnx
        have HSPX := Lib.hid hsp
        have HVX := Lib.hid hv
        have HBNX := Lib.hid hbn
        have HBX := Lib.hid hB
        have HKX := Lib.hid (And.intro k0 k1)
        clear hna hnb hnx hsp hv hbn hB k0 k1 htn hun
        have hpt : ∀ k : Nat, 0 ≤ Ce.psum (Ce.ownf ss vs) t (k : Int) N ∧ Ce.psum (Ce.ownf ss vs) t (k : Int) N ≤ 48000000 := fun k => by
          have := Ce.psum_bd (f := Ce.ownf ss vs) htb (k : Int) N (by omega)
          omega
        have hpu : ∀ k : Nat, 0 ≤ Ce.psum (Ce.ownf ss vs) u (k : Int) N ∧ Ce.psum (Ce.ownf ss vs) u (k : Int) N ≤ 48000000 := fun k => by
          have := Ce.psum_bd (f := Ce.ownf ss vs) hub (k : Int) N (by omega)
          omega
        have hpa : ∀ k : Nat, Ce.psum (Ce.ownf ss vs) (Ce.both t u N N) (k : Int) N = Ce.psum (Ce.ownf ss vs) t (k : Int) N + Ce.psum (Ce.ownf ss vs) u (k : Int) N := fun k => Ce.psum_add (k : Int) N (fun q hq => Ce.both_get hq)
        have HPT := Lib.hid hpt
        have HPU := Lib.hid hpu
        have HPA := Lib.hid hpa
        clear hpt hpu hpa
        obtain ⟨F, hF⟩ : ∃ F : Nat → Int, (fun k : Nat => Ce.psum (Ce.ownf ss vs) (Ce.both t u N N) (k : Int) N) = F := ⟨_, rfl⟩
        have hFk : ∀ k : Nat, F k = Ce.psum (Ce.ownf ss vs) (Ce.both t u N N) (k : Int) N := fun k => by rw [← hF]
        have hFb : ∀ m, m ≤ 48 → 0 ≤ Ce.sumk F m ∧ Ce.sumk F m ≤ 96000000 * 48 := fun m hm => by
          have := Ce.sumk_bd (F := F) (B := 96000000) (by omega) m (fun k _ => by
            have h1 := HPT.out k
            have h2 := HPU.out k
            have h3 := HPA.out k
            rw [hFk k]
            omega)
          omega
        have HFE := Lib.hid hF
        have HF := Lib.hid hFk
        have HFB := Lib.hid hFb
        clear hF hFk hFb
        go_loopw [16, 105] (fun q i wr => ∃ j : Nat, j ≤ M ∧ q = .int .i64 (Ce.sumk F j) ∧ i = .int .i64 j ∧ Hid (Below wx.heap.size wx wr)) (fun _ i _ => M - (intOf i).toNat)
        case atStart => exact ⟨0, by omega, rfl, rfl, Below.refl _ _⟩
        case round =>
          rename World => V
          obtain ⟨j, hj, rfl, rfl, HIV⟩ := hrel
          by_cases hlt : j < M
          · obtain ⟨x, HX, hx, _⟩ := (HNA.out.keep HIV.out HIV.out.size).valG hlt
            obtain ⟨y, HY, hy, _⟩ := (HNB.out.keep HIV.out HIV.out.size).valG hlt
            obtain ⟨z, HZ, hz, _⟩ := (HNX.out.keep HIV.out HIV.out.size).valG hlt
            have hxe := HX.out.1
            have hye := HY.out.1
            have hze := HZ.out.1
            rw [Ce.pubs_get hlt] at hxe hye hze
            have hzz := HPA.out j
            rw [hxe, hye, hze] at hzz
            have hxb := HPT.out j
            have hyb := HPU.out j
            rw [hxe] at hxb
            rw [hye] at hyb
            have hsb := HFB.out j (by omega)
            have HE := Lib.hid (show Ce.sumk F (j + 1) = Ce.sumk F j + (x + y) by
              simp only [Ce.sumk]
              rw [HF.out, hze, hzz])
            subst hzz
            generalize Ce.sumk F j = q at hsb HE ⊢
            clear hxe hye hze
            go_wp2_with fail
            go_quiet (fail)
            go_wp2_with fail
            go_roundw
            case rel => exact ⟨j + 1, by omega, by rw [HE.out], by go_num, below_drewN HIV.out _⟩
            case measure => simp [intOf]; omega
          · obtain rfl : M = j := by omega
            have hsp := HSPX.out.keep HIV.out
            have hv := HVX.out.keep HIV.out
            have hbn := HBNX.out.keep HIV.out HIV.out.size
            have hB := HBX.out.trans (HIV.out.mono HBX.out.size)
            have k0 := below_cell HIV.out HKX.out.1
            have k1 := below_cell HIV.out HKX.out.2
            go_wp2_with fail
            refine (margins28 _ _ ss vs _ hsp hv).mono ?_; rintro e w6 ⟨um, ms, rfl, hms, hmg, hml, hb6⟩
            replace hsp := hsp.keep hb6
            replace hbn := hbn.keep hb6 hb6.size
            replace hB := hB.trans (hb6.mono hB.size)
            replace k0 := below_cell hb6 k0
            obtain ⟨Am, cm, rfl, hmr⟩ := hms.read
            obtain ⟨L, hL⟩ : ∃ L, ms.length = L := ⟨_, rfl⟩
            rw [hL] at hmr hml ⊢
            have HMR := Lib.hid hmr
            have HMG := Lib.hid hmg
            have HLL := Lib.hid hL
            have HSPL := Lib.hid hsp
            have HBNL := Lib.hid hbn
            have HK0 := Lib.hid k0
            have HBL := Lib.hid hB
            clear hms hmr hmg hb6 hL hsp hbn k0 k1 hB hv
            have hsb := HFB.out M (by omega)
            go_wp2_with fail
            go_loopw [139] (fun i wr => ∃ j : Nat, j ≤ L ∧ i = .int .i64 j ∧ Hid (Below w6.heap.size w6 wr)) (fun i _ => L - (intOf i).toNat)
            case atStart => exact ⟨0, by omega, rfl, Below.refl _ _⟩
            case round =>
              rename World => Y9
              obtain ⟨j, hj, rfl, HI9⟩ := hrel
              have k0 := below_cell HI9.out HK0.out
              by_cases hlj : j < L
              · obtain ⟨g9, vi, rfl, _, hcell, hro⟩ := HMR.out j hlj
                obtain ⟨st, _, hest, hnst⟩ := HMG.out (ms.getD j []) (by
                  have := HLL.out
                  simp [List.getD, show j < ms.length by omega])
                obtain ⟨ws, hws⟩ : ∃ ws, ms.getD j [] = ws := ⟨_, rfl⟩
                rw [hws] at hro hest
                have hok : Ce.View ss ws := by rw [hest]; exact Ce.tog_view HVV.out st
                have hvo := show VwO w6 _ (.agg #[vi]) ss ws from ⟨⟨vi, rfl, hro⟩, hok⟩
                have hpb := Ce.published_bd HS.out hok
                have hall : Ce.published ws = 1 → Ce.pubs (Ce.ownf ss ws) (Ce.both t u N N) 1 N = [Ce.sumk F M] := fun h1 => by
                  have e := Ce.psum_all (t := Ce.both t u N N) (n := N) (m := M) (f := Ce.ownf ss vs) (g := Ce.ownf ss ws)
                    (fun c => by have := Ce.ownf_bd HS.out HVV.out c; rw [hM] at this; exact this)
                    (fun c => by have := Ce.ownf_bd HS.out hok c; rw [h1] at this; exact this)
                    (fun c => by rw [hest]; exact Ce.owner_tog HS.out HVV.out st c)
                  rw [HFE.out] at e
                  show [Ce.psum (Ce.ownf ss ws) (Ce.both t u N N) (0 : Int) N] = _
                  rw [e]
                obtain ⟨Ax, nx, cx9, ex, _⟩ := hvo.form HS.out
                injection ex with ex; injection ex with ex; injection ex with ex _; subst ex
                have hcy := below_cell HI9.out hcell
                have hbz : Below Y9.heap.size Y9 (Y9.alloc (.cells #[.slice Ax nx cx9] 27)) := (Below.refl _ _).alloc (Nat.le_refl _) _
                obtain ⟨Z9, hZ⟩ : ∃ Z9 : World, Y9.alloc (.cells #[.slice Ax nx cx9] 27) = Z9 := ⟨_, rfl⟩
                have kx := (hZ ▸ Box.new Y9 (.slice Ax nx cx9) 27 : Box Z9 Y9.heap.size _ _).cell
                rw [hZ] at hbz
                have hIZ := HI9.out.trans (hbz.mono HI9.out.size)
                have hsp := HSPL.out.keep hIZ
                have hx := (hvo.vw HS.out).keep hIZ
                have hbn := HBNL.out.keep hIZ hIZ.size
                replace k0 := below_cell hbz k0
                clear hcell hro hvo hest hnst hbz
                go_wp2_with fail
                refine (published28 _ _ ss ws _ hsp hx).mono ?_; rintro e w9 ⟨rfl, hb9⟩
                replace hsp := hsp.keep hb9
                replace hx := hx.keep hb9
                replace hbn := hbn.keep hb9 hb9.size
                replace k0 := below_cell hb9 k0
                replace kx := below_cell hb9 kx
                replace hIZ := hIZ.trans (hb9.mono hIZ.size)
                clear hb9
                by_cases hone : Ce.published ws = 1
                · have hall := hall hone
                  rw [hone]
                  go_wp2_with fail
                  refine (publish28 _ _ ss ws N 1 _ _ N (Ce.both t u N N) _ hsp hx HN.out hone hbn rfl hbb).mono ?_; rintro e w10 ⟨x10, rfl, ho10, hb10⟩
                  rw [hall] at ho10
                  obtain ⟨g10, c10, rfl, _, _, _, _⟩ := ho10.rowg rfl (Nat.le_refl _)
                  have hy0 := ho10.cell (j := 0) (by simp)
                  simp only [List.getD_cons_zero] at hy0
                  replace hIZ := hIZ.trans (hb10.mono hIZ.size)
                  clear ho10 hb10
                  go_wp2_with fail
                  go_roundw
                  case rel => exact ⟨j + 1, by omega, by go_num, hIZ⟩
                  case measure => simp [intOf]; omega
                · have d1 : (Ce.published ws == 1) = false := by simp [hone]
                  have d2 : (Ce.published ws != 1) = true := by simp [hone]
                  go_wp2_with fail
                  go_roundw
                  case rel => exact ⟨j + 1, by omega, by go_num, hIZ⟩
                  case measure => simp [intOf]; omega
              · obtain rfl : j = L := by omega
                have hB := HBL.out.trans (HI9.out.mono HBL.out.size)
                go_wp2_with fail
                refine (awake28 _).mono ?_; rintro e w9 ⟨rfl, hb9⟩
                replace hB := hB.trans (hb9.mono hB.size)
                go_wp2_with fail
                go_ret
                exact ⟨rfl, hB⟩
end Go.Proofs.Ytojeendofpallaa
