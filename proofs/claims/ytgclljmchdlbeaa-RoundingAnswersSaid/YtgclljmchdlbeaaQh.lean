/- Rounding: the law that all functions answer as the reference. -/
import Derived.Test.YtgclljmchdlbeaaQg
namespace Go.Proofs.Ytgclljmchdlbeaa
open Go.RowKit
structure Rd.El where
  R : Int
  C : Int
  A : Option Addr
  k : Nat
  c : Nat
  t : List Int
  A' : Option Addr
  k' : Nat
  c' : Nat
  r : List Int
  b : Int
structure Rd.El.Ok (x : Rd.El) (w : World) : Prop where
  hR : -9223372036854775808 ≤ x.R ∧ x.R ≤ 9223372036854775807
  hC : -9223372036854775808 ≤ x.C ∧ x.C ≤ 9223372036854775807
  ht : Nums w .i64 w.heap.size x.A x.k x.c x.t
  hr : Nums w .i64 w.heap.size x.A' x.k' x.c' x.r
def Rd.El.At (x : Rd.El) (w : World) (g o : Nat) : Prop := w.cell? ⟨g, o, none⟩ = some (.int .i64 x.R) ∧ w.cell? ⟨g, o + 1, none⟩ = some (.int .i64 x.C) ∧ w.cell? ⟨g, o + 2, none⟩ = some (.slice x.A x.k x.c) ∧ w.cell? ⟨g, o + 3, none⟩ = some (.slice x.A' x.k' x.c') ∧ w.cell? ⟨g, o + 4, none⟩ = some (.int .i64 x.b)
theorem Rd.El.At.below {x : Rd.El} {w w' : World} {g o B : Nat} (h : x.At w g o) (hb : Below B w w') (hg : g < B) : x.At w' g o :=
  ⟨(hb.cell (by exact hg)).trans h.1, (hb.cell (by exact hg)).trans h.2.1, (hb.cell (by exact hg)).trans h.2.2.1, (hb.cell (by exact hg)).trans h.2.2.2.1, (hb.cell (by exact hg)).trans h.2.2.2.2⟩
def Rd.El.cells (x : Rd.El) : List Value := [.int .i64 x.R, .int .i64 x.C, .slice x.A x.k x.c, .slice x.A' x.k' x.c', .int .i64 x.b]
theorem Rd.six (w : World) (g : Nat) (T : TypeId) (fr : Nat × Nat) (x0 x1 x2 x3 x4 x5 : Rd.El) (h : w.heap[g]? = some (.cells (x0.cells ++ x1.cells ++ x2.cells ++ x3.cells ++ x4.cells ++ x5.cells).toArray T fr)) : ∀ i, i < 6 → ([x0, x1, x2, x3, x4, x5].getD i x0).At w g (i * 5) := by
  intro i hi
  rcases (show i = 0 ∨ i = 1 ∨ i = 2 ∨ i = 3 ∨ i = 4 ∨ i = 5 by omega) with rfl | rfl | rfl | rfl | rfl | rfl <;>
    (refine ⟨?_, ?_, ?_, ?_, ?_⟩ <;> (simp only [World.cell?, h, Rd.El.cells]; rfl))
theorem OwnRows.rowAt {w : World} {base : Nat} {e eb : TypeId} {k : IntKind} {A : Option Addr} {n c : Nat} {ls : List (List Int)} (h : OwnRows w base e eb k (.slice A n c) ls) : n = ls.length ∧ ∀ j, j < n → ∃ g vi, A = some ⟨g, 0, none⟩ ∧ g < w.heap.size ∧ w.cell? ⟨g, j, none⟩ = some vi ∧ Own w base eb k vi (ls.getD j []) := by
  obtain ⟨A', c', hv, _, hc⟩ := h.read
  injection hv with h1 h2 h3
  subst h1 h2 h3
  exact ⟨rfl, hc⟩
theorem Rd.res_wf {R C : Int} {t : List Int} {b : Int} (ht : t.length ≤ 9 ∨ 12 < t.length) : ∀ z ∈ Rd.res R C t b, (Lit.int .i64 z).wf = true := fun z hz => by
  unfold Rd.res at hz
  split at hz
  · rename_i h0
    obtain ⟨m, n, rfl, rfl, hm, hn, hmn, hlen, hb0, hb1, hsm⟩ := Rd.err_ok h0
    have hf := Rd.find_best (t := t) (b := b) hm hn (by omega) hlen hb0
    obtain ⟨q, hq, _, hin⟩ := Rd.find_some hf
    simp only [List.nil_append] at hq
    have e : Rd.best (n : Int).toNat t b = q := hq
    rw [e] at hz
    obtain ⟨i, hi, rfl⟩ := mem_getD hz
    have hi2 : i < t.length := by rw [← hin.len]; exact hi
    exact wf64s (Rd.mult_mem (hsm _ (getD_mem ⟨rfl, hi2⟩)) ⟨hb0, hb1⟩ (hin.at i hi2))
  · cases hz
theorem Rd.vals_wf {t : List Int} {b : Int} : ∀ l ∈ Rd.vals t b, ∀ z ∈ l, (Lit.int .i64 z).wf = true := fun l hl z hz => by
  unfold Rd.vals at hl
  split at hl
  · cases hl
  · split at hl
    · rename_i h0
      obtain ⟨hb0, hb1, hsm⟩ := Rd.rng_ok h0
      obtain ⟨x, hx, rfl⟩ := List.mem_map.1 hl
      exact wf64s (Rd.mult_mem (hsm x hx) ⟨hb0, hb1⟩ hz)
    · cases hl
theorem getD_memL {ls : List (List Int)} {j : Nat} (h : j < ls.length) : ls.getD j [] ∈ ls := by
  rw [List.getD_eq_getElem?_getD, List.getElem?_eq_getElem h]; exact List.getElem_mem h

set_option maxRecDepth 100000 in
set_option maxHeartbeats 3200000 in
/-- one round: the functions and the reference agree -/
theorem walkAnswers (W : World) (R : Int) (hR0 : -9223372036854775808 ≤ R) (hR1 : R ≤ 9223372036854775807) (C : Int) (hC0 : -9223372036854775808 ≤ C) (hC1 : C ≤ 9223372036854775807) (A1 : Option Addr) (n1 c1 : Nat) (l1 : List Int) (h1 : Nums W .i64 W.heap.size A1 n1 c1 l1) (A2 : Option Addr) (n2 c2 : Nat) (l2 : List Int) (h2 : Nums W .i64 W.heap.size A2 n2 c2 l2) (B : Int) (_hB0 : -9223372036854775808 ≤ B) (_hB1 : B ≤ 9223372036854775807) (A : Option Addr) (n c : Nat) (l : List Int) (h : Nums W .u8 W.heap.size A n c l) :
    Calls Try.prog 3 #[.int .i64 R, .int .i64 C, .slice A1 n1 c1, .slice A2 n2 c2, .int .i64 B, .slice A n c] W fun e w => e = .returned (.bool true) ∧ Below W.heap.size W w := by
  have H1 := Lib.hid h1
  have H2 := Lib.hid h2
  by_cases hb : 40 < n1
  · have g1 : decide ((40 : Int) < (n1 : Int)) = true := decide_eq_true (by omega)
    go_enter Try.func3, Try.ntmps3
    go_wp2_with fail
    refine (awake34 W).mono ?_; rintro e w8 ⟨rfl, hb8⟩
    have HB8 := Lib.hid hb8
    clear hb8
    go_wp2_with fail
    go_ret
    exact ⟨rfl, HB8.out⟩
  have g1 : decide ((40 : Int) < (n1 : Int)) = false := decide_eq_false (by omega)
  by_cases hb2 : 40 < n2
  · have g2 : decide ((40 : Int) < (n2 : Int)) = true := decide_eq_true (by omega)
    go_enter Try.func3, Try.ntmps3
    go_wp2_with fail
    refine (awake34 W).mono ?_; rintro e w8 ⟨rfl, hb8⟩
    have HB8 := Lib.hid hb8
    clear hb8
    go_wp2_with fail
    go_ret
    exact ⟨rfl, HB8.out⟩
  have g2 : decide ((40 : Int) < (n2 : Int)) = false := decide_eq_false (by omega)
  have HRC := Lib.hid (And.intro (And.intro hR0 hR1) (And.intro hC0 hC1))
  clear hb hb2 h1 h2
  go_enter Try.func3, Try.ntmps3
  go_wp2_with fail
  refine (new_any A n c l W h).mono ?_; rintro e w1 ⟨rfl, hc1, hb1⟩
  have HB1 := Lib.hid hb1
  clear hb1
  go_wp2_with fail
  refine (table34 _ _ w1 hc1).mono ?_; rintro e w2 ⟨p, q, t, b, v, rfl, ho, HT, hc2, hg2⟩
  obtain ⟨A3, c3, rfl, hn⟩ := ho.nums (fun x hx => wf64s (by have := HT.out.1.sm x hx; omega))
  obtain ⟨N, hN⟩ : ∃ N, t.length = N := ⟨_, rfl⟩
  rw [hN] at hn
  have HN3 := Lib.hid hn
  have HB2 := Lib.hid (below_cod34 HB1.out hg2 hc1.lt.2)
  clear hc1 hc2 hg2 ho hn
  rw [hN]
  clear hN
  obtain ⟨X, hX⟩ : ∃ X, w2.alloc (.cells #[.int .i64 R, .int .i64 C, .slice A1 n1 c1, .slice A2 n2 c2, .int .i64 B, .int .i64 p, .int .i64 q, .slice A3 N c3, .slice A2 n2 c2, .int .i64 b, .int .i64 p, .int .i64 q, .slice A1 n1 c1, .slice A3 N c3, .int .i64 b, .int .i64 p, .int .i64 q, .slice A3 N c3, .slice A3 N c3, .int .i64 B, .int .i64 R, .int .i64 q, .slice A3 N c3, .slice A3 N c3, .int .i64 b, .int .i64 p, .int .i64 q, .slice A3 N c3, .slice A3 N c3, .int .i64 b] 29 (0, 0)) = X := ⟨_, rfl⟩
  have hbX : Below w2.heap.size w2 X := by rw [← hX]; exact (Below.refl _ _).alloc (Nat.le_refl _) _
  have HBX := Lib.hid (HB2.out.trans (hbX.mono HB2.out.size))
  have HZ := Lib.hid (show w2.heap.size < X.heap.size by rw [← hX]; simp)
  have HES := Lib.hid (show ∀ i, i < 6 → ∃ x : Rd.El, x.Ok X ∧ x.At X w2.heap.size (i * 5) by
    have hp : -9223372036854775808 ≤ (p : Int) ∧ (p : Int) ≤ 9223372036854775807 := by have := HT.out.1.m2; omega
    have hq : -9223372036854775808 ≤ (q : Int) ∧ (q : Int) ≤ 9223372036854775807 := by have := HT.out.1.n2; omega
    have k1 := H1.out.keep HBX.out HBX.out.size
    have k2 := H2.out.keep HBX.out HBX.out.size
    have k3 := HN3.out.keep hbX hbX.size
    have hh := Rd.six X w2.heap.size 29 (0, 0) ⟨R, C, A1, n1, c1, l1, A2, n2, c2, l2, B⟩ ⟨p, q, A3, N, c3, t, A2, n2, c2, l2, b⟩ ⟨p, q, A1, n1, c1, l1, A3, N, c3, t, b⟩ ⟨p, q, A3, N, c3, t, A3, N, c3, t, B⟩ ⟨R, q, A3, N, c3, t, A3, N, c3, t, b⟩ ⟨p, q, A3, N, c3, t, A3, N, c3, t, b⟩ (by rw [← hX]; exact heap_alloc_new _ _)
    intro i hi
    refine ⟨_, ?_, hh i hi⟩
    rcases (show i = 0 ∨ i = 1 ∨ i = 2 ∨ i = 3 ∨ i = 4 ∨ i = 5 by omega) with rfl | rfl | rfl | rfl | rfl | rfl
    · exact ⟨HRC.out.1, HRC.out.2, k1, k2⟩
    · exact ⟨hp, hq, k3, k2⟩
    · exact ⟨hp, hq, k1, k3⟩
    · exact ⟨hp, hq, k3, k3⟩
    · exact ⟨HRC.out.1, hq, k3, k3⟩
    · exact ⟨hp, hq, k3, k3⟩)
  clear hbX hR0 hR1 hC0 hC1
  go_wp2_with fail
  clear hX
  go_loopw [87] (fun iv wr => ∃ i : Nat, i ≤ 6 ∧ iv = .int .i64 i ∧ Hid (Below X.heap.size X wr)) (fun iv _ => 6 - (intOf iv).toNat)
  case atStart => exact ⟨0, by omega, rfl, Lib.hid (Below.refl _ _)⟩
  case round =>
    rename World => Y
    obtain ⟨i, hi, rfl, HI⟩ := hrel
    by_cases hlt : i < 6
    · obtain ⟨⟨R', C', A4, k4, c4, t4, A5, k5, c5, r5, b'⟩, hok, hat⟩ := HES.out i hlt
      have hatY := hat.below HI.out HZ.out
      obtain ⟨f0, f1, f2, f3, f4⟩ := hatY
      dsimp only at f0 f1 f2 f3 f4
      have hk4 : k4 ≤ 9223372036854775807 := by have := hok.ht.cap; have := hok.ht.max; unfold maxLen at this; dsimp only at *; omega
      have HOK := Lib.hid hok
      obtain ⟨Z, hZ⟩ : ∃ Z : World, Y.alloc (.cells #[.int .i64 R', .int .i64 C', .slice A4 k4 c4, .slice A5 k5 c5, .int .i64 b'] 29) = Z := ⟨_, rfl⟩
      have hbz : Below Y.heap.size Y Z := by rw [← hZ]; exact (Below.refl _ _).alloc (Nat.le_refl _) _
      have HD0 := Lib.hid (show Rd.El.At ⟨R', C', A4, k4, c4, t4, A5, k5, c5, r5, b'⟩ Z Y.heap.size 0 by
        rw [← hZ]; exact ⟨by simp [go_sem], by simp [go_sem], by simp [go_sem], by simp [go_sem], by simp [go_sem]⟩)
      have HYZ := Lib.hid (show Y.heap.size < Z.heap.size by rw [← hZ]; simp)
      have HBZ := Lib.hid (HI.out.trans (hbz.mono HI.out.size))
      clear hok hat hbz
      have d0 := HD0.out.1
      have d1 := HD0.out.2.1
      have d2 := HD0.out.2.2.1
      have d3 := HD0.out.2.2.2.1
      have d4 := HD0.out.2.2.2.2
      dsimp only at d0 d1 d2 d3 d4
      rcases (show k4 ≤ 9 ∨ (9 < k4 ∧ k4 ≤ 12) ∨ 12 < k4 by omega) with hk | ⟨hk, hk'⟩ | hk
      · have g3 : decide ((9 : Int) < (k4 : Int)) = false := decide_eq_false (by omega)
        have HLE := Lib.hid (show t4.length ≤ 9 ∨ 12 < t4.length from .inl (by have := HOK.out.ht.len; dsimp only at this; omega))
        have HT0 := Lib.hid (HOK.out.ht.keep HBZ.out HBZ.out.size)
        have HR0 := Lib.hid (HOK.out.hr.keep HBZ.out HBZ.out.size)
        have HB0' := Lib.hid HBZ.out
        have HS0 := Lib.hid (Nat.le_refl Z.heap.size)
        have hRb := HOK.out.hR
        have hCb := HOK.out.hC
        dsimp only at hRb hCb
        go_wp2_with fail
        refine (roundG R' C' hRb hCb A4 k4 c4 t4 HLE.out b' Z HT0.out).mono ?_; rintro e z1 ⟨v1, rfl, hv1, hb1⟩
        have HD1 := Lib.hid (HD0.out.below hb1 (Nat.lt_of_lt_of_le HYZ.out HS0.out))
        have HT1 := Lib.hid (HT0.out.keep hb1 hb1.size)
        have HR1 := Lib.hid (HR0.out.keep hb1 hb1.size)
        have HB1' := Lib.hid (HB0'.out.trans (hb1.mono HB0'.out.size))
        have HS1 := Lib.hid (Nat.le_trans HS0.out hb1.size)
        obtain ⟨P1, p1, rfl, hn1⟩ := hv1.nums (Rd.res_wf HLE.out)
        have HP := Lib.hid hn1
        clear hv1 hn1
        clear hb1 d0 d1 d2 d3 d4
        have hd := HD1.out
        dsimp only [Rd.El.At] at hd
        obtain ⟨d0, d1, d2, d3, d4⟩ := hd
        go_wp2_with fail
        refine (rroundG R' C' hRb hCb A4 k4 c4 t4 HLE.out b' z1 HT1.out).mono ?_; rintro e z2 ⟨v2, rfl, hv2, hb2⟩
        have HD2 := Lib.hid (HD1.out.below hb2 (Nat.lt_of_lt_of_le HYZ.out HS1.out))
        have HT2 := Lib.hid (HT1.out.keep hb2 hb2.size)
        have HR2 := Lib.hid (HR1.out.keep hb2 hb2.size)
        have HB2' := Lib.hid (HB1'.out.trans (hb2.mono HB1'.out.size))
        have HS2 := Lib.hid (Nat.le_trans HS1.out hb2.size)
        obtain ⟨P2, p2, rfl, hn2⟩ := hv2.nums (Rd.res_wf HLE.out)
        have HQ2 := Lib.hid hn2
        have HP2 := Lib.hid (HP.out.keep hb2 hb2.size)
        clear hv2 hn2
        clear hb2 d0 d1 d2 d3 d4
        have hd := HD2.out
        dsimp only [Rd.El.At] at hd
        obtain ⟨d0, d1, d2, d3, d4⟩ := hd
        go_wp2_with fail
        refine (checkG R' C' hRb hCb A4 A5 k4 c4 k5 c5 t4 r5 b' z2 HT2.out HR2.out).mono ?_; rintro e z3 ⟨rfl, hb3⟩
        have HD3 := Lib.hid (HD2.out.below hb3 (Nat.lt_of_lt_of_le HYZ.out HS2.out))
        have HT3 := Lib.hid (HT2.out.keep hb3 hb3.size)
        have HR3 := Lib.hid (HR2.out.keep hb3 hb3.size)
        have HB3' := Lib.hid (HB2'.out.trans (hb3.mono HB2'.out.size))
        have HS3 := Lib.hid (Nat.le_trans HS2.out hb3.size)
        have HP3 := Lib.hid (HP2.out.keep hb3 hb3.size)
        have HQ3 := Lib.hid (HQ2.out.keep hb3 hb3.size)
        clear hb3 d0 d1 d2 d3 d4
        have hd := HD3.out
        dsimp only [Rd.El.At] at hd
        obtain ⟨d0, d1, d2, d3, d4⟩ := hd
        go_wp2_with fail
        refine (rcheckG R' C' hRb hCb A4 A5 k4 c4 k5 c5 t4 r5 b' z3 HT3.out HR3.out).mono ?_; rintro e z4 ⟨rfl, hb4⟩
        have HD4 := Lib.hid (HD3.out.below hb4 (Nat.lt_of_lt_of_le HYZ.out HS3.out))
        have HT4 := Lib.hid (HT3.out.keep hb4 hb4.size)
        have HR4 := Lib.hid (HR3.out.keep hb4 hb4.size)
        have HB4' := Lib.hid (HB3'.out.trans (hb4.mono HB3'.out.size))
        have HS4 := Lib.hid (Nat.le_trans HS3.out hb4.size)
        have HP4 := Lib.hid (HP3.out.keep hb4 hb4.size)
        have HQ4 := Lib.hid (HQ3.out.keep hb4 hb4.size)
        clear hb4 d0 d1 d2 d3 d4
        have hd := HD4.out
        dsimp only [Rd.El.At] at hd
        obtain ⟨d0, d1, d2, d3, d4⟩ := hd
        go_wp2_with fail
        refine (valuesG A4 k4 c4 t4 b' z4 HT4.out).mono ?_; rintro e z5 ⟨v5, rfl, hv5, hb5⟩
        have HD5 := Lib.hid (HD4.out.below hb5 (Nat.lt_of_lt_of_le HYZ.out HS4.out))
        have HT5 := Lib.hid (HT4.out.keep hb5 hb5.size)
        have HR5 := Lib.hid (HR4.out.keep hb5 hb5.size)
        have HB5' := Lib.hid (HB4'.out.trans (hb5.mono HB4'.out.size))
        have HS5 := Lib.hid (Nat.le_trans HS4.out hb5.size)
        have HP5 := Lib.hid (HP4.out.keep hb5 hb5.size)
        have HQ5 := Lib.hid (HQ4.out.keep hb5 hb5.size)
        obtain ⟨U1, u1, rfl, _, _⟩ := hv5.read
        have HU5 := Lib.hid hv5
        clear hv5
        clear hb5 d0 d1 d2 d3 d4
        have hd := HD5.out
        dsimp only [Rd.El.At] at hd
        obtain ⟨d0, d1, d2, d3, d4⟩ := hd
        go_wp2_with fail
        refine (rvaluesG A4 k4 c4 t4 b' z5 HT5.out).mono ?_; rintro e z6 ⟨v6, rfl, hv6, hb6⟩
        have HD6 := Lib.hid (HD5.out.below hb6 (Nat.lt_of_lt_of_le HYZ.out HS5.out))
        have HT6 := Lib.hid (HT5.out.keep hb6 hb6.size)
        have HR6 := Lib.hid (HR5.out.keep hb6 hb6.size)
        have HB6' := Lib.hid (HB5'.out.trans (hb6.mono HB5'.out.size))
        have HS6 := Lib.hid (Nat.le_trans HS5.out hb6.size)
        have HP6 := Lib.hid (HP5.out.keep hb6 hb6.size)
        have HQ6 := Lib.hid (HQ5.out.keep hb6 hb6.size)
        have HU6 := Lib.hid (HU5.out.below hb6)
        obtain ⟨U2, u2, rfl, _, _⟩ := hv6.read
        have HV6 := Lib.hid hv6
        clear hv6
        clear hb6 d0 d1 d2 d3 d4
        obtain ⟨M, hM⟩ : ∃ M, (Rd.vals t4 b').length = M := ⟨_, rfl⟩
        rw [hM] at HU6 HV6 ⊢
        have HML := Lib.hid hM
        have hM9 : M ≤ 9223372036854775807 := by
          have : M ≤ 12 := by
            rw [← hM]; unfold Rd.vals
            split
            · simp
            · split
              · rw [List.length_map]; omega
              · simp
          omega
        obtain ⟨res, hres⟩ : ∃ l, Rd.res R' C' t4 b' = l := ⟨_, rfl⟩
        rw [hres] at HP6 HQ6 ⊢
        obtain ⟨er, her⟩ : ∃ z, Rd.err R' C' t4 b' = z := ⟨_, rfl⟩
        obtain ⟨ec, hec⟩ : ∃ z, Rd.errC R' C' t4 r5 b' = z := ⟨_, rfl⟩
        obtain ⟨ev, hev⟩ : ∃ z, Rd.errV t4 b' = z := ⟨_, rfl⟩
        obtain ⟨ck, hck⟩ : ∃ z, Rd.chk R' C' t4 r5 b' = z := ⟨_, rfl⟩
        rw [her, hec, hev, hck]
        have e1 : (er != er) = false := by simp
        have e2 : (ec != ec) = false := by simp
        have e3 : (ev != ev) = false := by simp
        have e4 : (ck != ck) = false := by simp
        have e5 : ((M : Int) != (M : Int)) = false := by simp
        clear hM hres her hec hev hck
        go_wp2_with fail
        refine (ints34 _ _ _ _ _ _ _ _ _ _ z6 HP6.out HQ6.out).mono ?_; rintro e z7 ⟨rfl, hb7⟩
        rw [show decide (res = res) = true by simp]
        have HB7 := Lib.hid (HB6'.out.trans (hb7.mono HB6'.out.size))
        have HU7 := Lib.hid (HU6.out.below hb7)
        have HV7 := Lib.hid (HV6.out.below hb7)
        clear hb7
        go_wp2_with fail
        go_loopw [202] (fun iv wr => ∃ j : Nat, j ≤ M ∧ iv = .int .i64 j ∧ ∃ m, wr = z7.drewN m) (fun iv _ => M - (intOf iv).toNat)
        case atStart => exact ⟨0, by omega, rfl, 0, rfl⟩
        case round =>
          obtain ⟨j, hj, rfl, m, rfl⟩ := hrel
          by_cases hlt2 : j < M
          · obtain ⟨ga, va, hUa, _, hca, hoa⟩ := HU7.out.rowAt.2 j hlt2
            obtain ⟨gb, vb, hUb, _, hcb, hob⟩ := HV7.out.rowAt.2 j hlt2
            subst hUa hUb
            have hmem := getD_memL (ls := Rd.vals t4 b') (j := j) (by rw [HML.out]; exact hlt2)
            obtain ⟨Aa, ca, rfl, hna⟩ := hoa.nums (Rd.vals_wf _ hmem)
            obtain ⟨Ab, cb, rfl, hnb⟩ := hob.nums (Rd.vals_wf _ hmem)
            obtain ⟨la, hla⟩ : ∃ l, (Rd.vals t4 b').getD j [] = l := ⟨_, rfl⟩
            rw [hla] at hca hna hcb hnb
            obtain ⟨na, hnae⟩ : ∃ n, la.length = n := ⟨_, rfl⟩
            rw [hnae] at hca hna hcb hnb
            have HNA := Lib.hid hna
            have HNB := Lib.hid hnb
            have j1 : (0 : Int) ≤ (j : Int) := by omega
            have j2 : (j : Int) < (M : Int) := by omega
            clear hoa hob hmem hla hnae hna hnb
            go_wp2_with fail
            go_quiet (exact (ints34q _ _ _ _ _ _ _ _ _ _ _ (HNA.out.keep (below_drewN (Below.refl _ _) _) (Nat.le_refl _)) (HNB.out.keep (below_drewN (Below.refl _ _) _) (Nat.le_refl _))).mono (fun e w' h9 => by obtain ⟨h8, m9, h7⟩ := h9; exact ⟨by rw [h8, show decide (la = la) = true by simp], _, by rw [h7, World.drewN_drewN, Nat.add_assoc]⟩))
            go_wp2_with fail
            go_roundw
            case rel => exact ⟨j + 1, by omega, by go_num, m + nq, by first | rfl | exact World.drewN_drewN _ _ _⟩
            case measure => simp [intOf]; omega
          · obtain rfl : M = j := by omega
            have HB9 := Lib.hid (below_drewN HB7.out m)
            go_wp2_with fail
            go_roundw
            case rel => exact ⟨i + 1, by omega, by go_num, HB9⟩
            case measure => simp [intOf]; omega
      · have g3 : decide ((9 : Int) < (k4 : Int)) = true := decide_eq_true (by omega)
        have g4 : decide ((k4 : Int) ≤ 12) = true := decide_eq_true (by omega)
        go_wp2_with fail
        go_roundw
        case rel => exact ⟨i + 1, by omega, by go_num, HBZ⟩
        case measure => simp [intOf]; omega
      · have g3 : decide ((9 : Int) < (k4 : Int)) = true := decide_eq_true (by omega)
        have g4 : decide ((k4 : Int) ≤ 12) = false := decide_eq_false (by omega)
        have HLE := Lib.hid (show t4.length ≤ 9 ∨ 12 < t4.length from .inr (by have := HOK.out.ht.len; dsimp only at this; omega))
        have HT0 := Lib.hid (HOK.out.ht.keep HBZ.out HBZ.out.size)
        have HR0 := Lib.hid (HOK.out.hr.keep HBZ.out HBZ.out.size)
        have HB0' := Lib.hid HBZ.out
        have HS0 := Lib.hid (Nat.le_refl Z.heap.size)
        have hRb := HOK.out.hR
        have hCb := HOK.out.hC
        dsimp only at hRb hCb
        go_wp2_with fail
        refine (roundG R' C' hRb hCb A4 k4 c4 t4 HLE.out b' Z HT0.out).mono ?_; rintro e z1 ⟨v1, rfl, hv1, hb1⟩
        have HD1 := Lib.hid (HD0.out.below hb1 (Nat.lt_of_lt_of_le HYZ.out HS0.out))
        have HT1 := Lib.hid (HT0.out.keep hb1 hb1.size)
        have HR1 := Lib.hid (HR0.out.keep hb1 hb1.size)
        have HB1' := Lib.hid (HB0'.out.trans (hb1.mono HB0'.out.size))
        have HS1 := Lib.hid (Nat.le_trans HS0.out hb1.size)
        obtain ⟨P1, p1, rfl, hn1⟩ := hv1.nums (Rd.res_wf HLE.out)
        have HP := Lib.hid hn1
        clear hv1 hn1
        clear hb1 d0 d1 d2 d3 d4
        have hd := HD1.out
        dsimp only [Rd.El.At] at hd
        obtain ⟨d0, d1, d2, d3, d4⟩ := hd
        go_wp2_with fail
        refine (rroundG R' C' hRb hCb A4 k4 c4 t4 HLE.out b' z1 HT1.out).mono ?_; rintro e z2 ⟨v2, rfl, hv2, hb2⟩
        have HD2 := Lib.hid (HD1.out.below hb2 (Nat.lt_of_lt_of_le HYZ.out HS1.out))
        have HT2 := Lib.hid (HT1.out.keep hb2 hb2.size)
        have HR2 := Lib.hid (HR1.out.keep hb2 hb2.size)
        have HB2' := Lib.hid (HB1'.out.trans (hb2.mono HB1'.out.size))
        have HS2 := Lib.hid (Nat.le_trans HS1.out hb2.size)
        obtain ⟨P2, p2, rfl, hn2⟩ := hv2.nums (Rd.res_wf HLE.out)
        have HQ2 := Lib.hid hn2
        have HP2 := Lib.hid (HP.out.keep hb2 hb2.size)
        clear hv2 hn2
        clear hb2 d0 d1 d2 d3 d4
        have hd := HD2.out
        dsimp only [Rd.El.At] at hd
        obtain ⟨d0, d1, d2, d3, d4⟩ := hd
        go_wp2_with fail
        refine (checkG R' C' hRb hCb A4 A5 k4 c4 k5 c5 t4 r5 b' z2 HT2.out HR2.out).mono ?_; rintro e z3 ⟨rfl, hb3⟩
        have HD3 := Lib.hid (HD2.out.below hb3 (Nat.lt_of_lt_of_le HYZ.out HS2.out))
        have HT3 := Lib.hid (HT2.out.keep hb3 hb3.size)
        have HR3 := Lib.hid (HR2.out.keep hb3 hb3.size)
        have HB3' := Lib.hid (HB2'.out.trans (hb3.mono HB2'.out.size))
        have HS3 := Lib.hid (Nat.le_trans HS2.out hb3.size)
        have HP3 := Lib.hid (HP2.out.keep hb3 hb3.size)
        have HQ3 := Lib.hid (HQ2.out.keep hb3 hb3.size)
        clear hb3 d0 d1 d2 d3 d4
        have hd := HD3.out
        dsimp only [Rd.El.At] at hd
        obtain ⟨d0, d1, d2, d3, d4⟩ := hd
        go_wp2_with fail
        refine (rcheckG R' C' hRb hCb A4 A5 k4 c4 k5 c5 t4 r5 b' z3 HT3.out HR3.out).mono ?_; rintro e z4 ⟨rfl, hb4⟩
        have HD4 := Lib.hid (HD3.out.below hb4 (Nat.lt_of_lt_of_le HYZ.out HS3.out))
        have HT4 := Lib.hid (HT3.out.keep hb4 hb4.size)
        have HR4 := Lib.hid (HR3.out.keep hb4 hb4.size)
        have HB4' := Lib.hid (HB3'.out.trans (hb4.mono HB3'.out.size))
        have HS4 := Lib.hid (Nat.le_trans HS3.out hb4.size)
        have HP4 := Lib.hid (HP3.out.keep hb4 hb4.size)
        have HQ4 := Lib.hid (HQ3.out.keep hb4 hb4.size)
        clear hb4 d0 d1 d2 d3 d4
        have hd := HD4.out
        dsimp only [Rd.El.At] at hd
        obtain ⟨d0, d1, d2, d3, d4⟩ := hd
        go_wp2_with fail
        refine (valuesG A4 k4 c4 t4 b' z4 HT4.out).mono ?_; rintro e z5 ⟨v5, rfl, hv5, hb5⟩
        have HD5 := Lib.hid (HD4.out.below hb5 (Nat.lt_of_lt_of_le HYZ.out HS4.out))
        have HT5 := Lib.hid (HT4.out.keep hb5 hb5.size)
        have HR5 := Lib.hid (HR4.out.keep hb5 hb5.size)
        have HB5' := Lib.hid (HB4'.out.trans (hb5.mono HB4'.out.size))
        have HS5 := Lib.hid (Nat.le_trans HS4.out hb5.size)
        have HP5 := Lib.hid (HP4.out.keep hb5 hb5.size)
        have HQ5 := Lib.hid (HQ4.out.keep hb5 hb5.size)
        obtain ⟨U1, u1, rfl, _, _⟩ := hv5.read
        have HU5 := Lib.hid hv5
        clear hv5
        clear hb5 d0 d1 d2 d3 d4
        have hd := HD5.out
        dsimp only [Rd.El.At] at hd
        obtain ⟨d0, d1, d2, d3, d4⟩ := hd
        go_wp2_with fail
        refine (rvaluesG A4 k4 c4 t4 b' z5 HT5.out).mono ?_; rintro e z6 ⟨v6, rfl, hv6, hb6⟩
        have HD6 := Lib.hid (HD5.out.below hb6 (Nat.lt_of_lt_of_le HYZ.out HS5.out))
        have HT6 := Lib.hid (HT5.out.keep hb6 hb6.size)
        have HR6 := Lib.hid (HR5.out.keep hb6 hb6.size)
        have HB6' := Lib.hid (HB5'.out.trans (hb6.mono HB5'.out.size))
        have HS6 := Lib.hid (Nat.le_trans HS5.out hb6.size)
        have HP6 := Lib.hid (HP5.out.keep hb6 hb6.size)
        have HQ6 := Lib.hid (HQ5.out.keep hb6 hb6.size)
        have HU6 := Lib.hid (HU5.out.below hb6)
        obtain ⟨U2, u2, rfl, _, _⟩ := hv6.read
        have HV6 := Lib.hid hv6
        clear hv6
        clear hb6 d0 d1 d2 d3 d4
        obtain ⟨M, hM⟩ : ∃ M, (Rd.vals t4 b').length = M := ⟨_, rfl⟩
        rw [hM] at HU6 HV6 ⊢
        have HML := Lib.hid hM
        have hM9 : M ≤ 9223372036854775807 := by
          have : M ≤ 12 := by
            rw [← hM]; unfold Rd.vals
            split
            · simp
            · split
              · rw [List.length_map]; omega
              · simp
          omega
        obtain ⟨res, hres⟩ : ∃ l, Rd.res R' C' t4 b' = l := ⟨_, rfl⟩
        rw [hres] at HP6 HQ6 ⊢
        obtain ⟨er, her⟩ : ∃ z, Rd.err R' C' t4 b' = z := ⟨_, rfl⟩
        obtain ⟨ec, hec⟩ : ∃ z, Rd.errC R' C' t4 r5 b' = z := ⟨_, rfl⟩
        obtain ⟨ev, hev⟩ : ∃ z, Rd.errV t4 b' = z := ⟨_, rfl⟩
        obtain ⟨ck, hck⟩ : ∃ z, Rd.chk R' C' t4 r5 b' = z := ⟨_, rfl⟩
        rw [her, hec, hev, hck]
        have e1 : (er != er) = false := by simp
        have e2 : (ec != ec) = false := by simp
        have e3 : (ev != ev) = false := by simp
        have e4 : (ck != ck) = false := by simp
        have e5 : ((M : Int) != (M : Int)) = false := by simp
        clear hM hres her hec hev hck
        go_wp2_with fail
        refine (ints34 _ _ _ _ _ _ _ _ _ _ z6 HP6.out HQ6.out).mono ?_; rintro e z7 ⟨rfl, hb7⟩
        rw [show decide (res = res) = true by simp]
        have HB7 := Lib.hid (HB6'.out.trans (hb7.mono HB6'.out.size))
        have HU7 := Lib.hid (HU6.out.below hb7)
        have HV7 := Lib.hid (HV6.out.below hb7)
        clear hb7
        go_wp2_with fail
        go_loopw [202] (fun iv wr => ∃ j : Nat, j ≤ M ∧ iv = .int .i64 j ∧ ∃ m, wr = z7.drewN m) (fun iv _ => M - (intOf iv).toNat)
        case atStart => exact ⟨0, by omega, rfl, 0, rfl⟩
        case round =>
          obtain ⟨j, hj, rfl, m, rfl⟩ := hrel
          by_cases hlt2 : j < M
          · obtain ⟨ga, va, hUa, _, hca, hoa⟩ := HU7.out.rowAt.2 j hlt2
            obtain ⟨gb, vb, hUb, _, hcb, hob⟩ := HV7.out.rowAt.2 j hlt2
            subst hUa hUb
            have hmem := getD_memL (ls := Rd.vals t4 b') (j := j) (by rw [HML.out]; exact hlt2)
            obtain ⟨Aa, ca, rfl, hna⟩ := hoa.nums (Rd.vals_wf _ hmem)
            obtain ⟨Ab, cb, rfl, hnb⟩ := hob.nums (Rd.vals_wf _ hmem)
            obtain ⟨la, hla⟩ : ∃ l, (Rd.vals t4 b').getD j [] = l := ⟨_, rfl⟩
            rw [hla] at hca hna hcb hnb
            obtain ⟨na, hnae⟩ : ∃ n, la.length = n := ⟨_, rfl⟩
            rw [hnae] at hca hna hcb hnb
            have HNA := Lib.hid hna
            have HNB := Lib.hid hnb
            have j1 : (0 : Int) ≤ (j : Int) := by omega
            have j2 : (j : Int) < (M : Int) := by omega
            clear hoa hob hmem hla hnae hna hnb
            go_wp2_with fail
            go_quiet (exact (ints34q _ _ _ _ _ _ _ _ _ _ _ (HNA.out.keep (below_drewN (Below.refl _ _) _) (Nat.le_refl _)) (HNB.out.keep (below_drewN (Below.refl _ _) _) (Nat.le_refl _))).mono (fun e w' h9 => by obtain ⟨h8, m9, h7⟩ := h9; exact ⟨by rw [h8, show decide (la = la) = true by simp], _, by rw [h7, World.drewN_drewN, Nat.add_assoc]⟩))
            go_wp2_with fail
            go_roundw
            case rel => exact ⟨j + 1, by omega, by go_num, m + nq, by first | rfl | exact World.drewN_drewN _ _ _⟩
            case measure => simp [intOf]; omega
          · obtain rfl : M = j := by omega
            have HB9 := Lib.hid (below_drewN HB7.out m)
            go_wp2_with fail
            go_roundw
            case rel => exact ⟨i + 1, by omega, by go_num, HB9⟩
            case measure => simp [intOf]; omega
    · obtain rfl : i = 6 := by omega
      go_wp2_with fail
      refine (awake34 Y).mono ?_; rintro e w8 ⟨rfl, hb8⟩
      have HB8 := Lib.hid (HBX.out.trans ((HI.out.trans (hb8.mono HI.out.size)).mono HBX.out.size))
      clear hb8
      go_wp2_with fail
      go_ret
      exact ⟨rfl, HB8.out⟩
end Go.Proofs.Ytgclljmchdlbeaa
