/- Rounding: the law of turned tables. -/
import Derived.Test.YtgclljmchdlbeaaNr
import Derived.Deep.OwnRows
namespace Go.Proofs.Ytgclljmchdlbeaa
open Go.RowKit
theorem made_row (n : Nat) : madeCells #[Value.int .i64 0] n = ((List.replicate n (0 : Int)).map (Value.int .i64)).toArray := by
  have := zero_row .i64 n
  rw [Nat.mul_one] at this
  rw [← this]
  simp [Value.cells]
/-- two rows that have just been made -/
theorem two_made (w X : World) (n B : Nat) (hn : n ≤ 1000) (hB : B ≤ w.heap.size) (hX : ((w.alloc (.cells (madeCells #[Value.int .i64 0] n) 3)).alloc (.cells (madeCells #[Value.int .i64 0] n) 3)).drew = X) :
    Own X B 3 .i64 (.slice (some ⟨w.heap.size, 0, none⟩) n n) (List.replicate n 0) ∧ Own X B 3 .i64 (.slice (some ⟨w.heap.size + 1, 0, none⟩) n n) (List.replicate n 0) ∧ Below w.heap.size w X := by
  obtain ⟨W1, hW1⟩ : ∃ W1, w.alloc (.cells (madeCells #[Value.int .i64 0] n) 3) = W1 := ⟨_, rfl⟩
  obtain ⟨W2, hW2⟩ : ∃ W2, W1.alloc (.cells (madeCells #[Value.int .i64 0] n) 3) = W2 := ⟨_, rfl⟩
  rw [hW1, hW2] at hX
  have e1 : w.heap.size + 1 = W1.heap.size := by rw [← hW1]; simp
  have b1 : Below w.heap.size w W1 := by rw [← hW1]; exact (Below.refl _ _).alloc (Nat.le_refl _) _
  have b2 : Below W1.heap.size W1 W2 := by rw [← hW2]; exact (Below.refl _ _).alloc (Nat.le_refl _) _
  have b3 : Below W2.heap.size W2 X := by rw [← hX]; exact below_of_drawn 1
  have q1 : W1.heap[w.heap.size]? = some (.cells (madeCells #[Value.int .i64 0] n) 3 (0, 0)) := by rw [← hW1]; exact heap_alloc_new _ _
  have q2 : W2.heap[W1.heap.size]? = some (.cells (madeCells #[Value.int .i64 0] n) 3 (0, 0)) := by rw [← hW2]; exact heap_alloc_new _ _
  rw [made_row] at q1 q2
  have o1 := Own.lit (base := B) q1 hB (by simpa using hn)
  have o2 := Own.lit (base := B) q2 (by omega) (by simpa using hn)
  simp only [List.length_replicate] at o1 o2
  rw [e1]
  exact ⟨(o1.below b2).below b3, o2.below b3, (b1.trans (b2.mono (by omega))).trans (b3.mono (Nat.le_trans b1.size b2.size))⟩
theorem getD_set34 (r : List Int) (i j : Nat) (x : Int) : (r.set i x).getD j 0 = if i = j ∧ j < r.length then x else r.getD j 0 := by
  simp only [List.getD_eq_getElem?_getD, List.getElem?_set]
  by_cases h : i = j
  · subst h
    by_cases h2 : i < r.length
    · simp [h2]
    · simp [h2]
  · simp [h]
theorem Own.drew {w : World} {base : Nat} {e : TypeId} {k : IntKind} {v : Value} {l : List Int} (h : Own w base e k v l) : Own w.drew base e k v l := h.below (below_of_drawn 1)
theorem Rd.turn_lt {p q i : Nat} (hq : 1 ≤ q) (hi : i < p * q) : i % q * p + i / q < p * q := by
  have h1 : i / q < p := Nat.div_lt_of_lt_mul (by rwa [Nat.mul_comm] at hi)
  have h2 := Nat.mod_lt i (show 0 < q by omega)
  have h3 := Nat.mul_le_mul_right p (show i % q + 1 ≤ q by omega)
  rw [Nat.add_mul, Nat.mul_comm q p] at h3
  omega
theorem Rd.turn_len (p q : Nat) (t : List Int) : ∀ j, (Rd.turn p q t j).length = p * q
  | 0 => by simp [Rd.turn]
  | j + 1 => by simp [Rd.turn, Rd.turn_len p q t j]
theorem Rd.turn_mem (p q : Nat) (t : List Int) (P : Int → Prop) (h0 : P 0) (h : ∀ x ∈ t, P x) : ∀ j, ∀ x ∈ Rd.turn p q t j, P x
  | 0, x, hx => by rw [List.eq_of_mem_replicate hx]; exact h0
  | j + 1, x, hx => by
    rcases List.mem_or_eq_of_mem_set hx with hx | rfl
    · exact Rd.turn_mem p q t P h0 h j x hx
    · rw [List.getD_eq_getElem?_getD]
      rcases Nat.lt_or_ge j t.length with hj | hj
      · rw [List.getElem?_eq_getElem hj]; exact h _ (List.getElem_mem hj)
      · rw [List.getElem?_eq_none hj]; exact h0
theorem Rd.Tb.turn {p q : Nat} {t : List Int} {b : Int} (h : Rd.Tb p q t b) (N : Nat) : Rd.Tb q p (Rd.turn p q t N) b :=
  ⟨h.n1, h.n2, h.m1, h.m2, by rw [Rd.turn_len, Nat.mul_comm], h.b1, h.b2, Rd.turn_mem p q t (fun x => 0 ≤ x ∧ x ≤ 1000000) (by decide) h.sm N⟩
theorem Rd.zero_mult (b : Int) : (0 : Int) ∈ Rd.mult 0 b := by unfold Rd.mult; simp
theorem Rd.turn_in (p q : Nat) (t r : List Int) (b : Int) (h : ∀ i, r.getD i 0 ∈ Rd.mult (t.getD i 0) b) : ∀ i j, (Rd.turn p q r i).getD j 0 ∈ Rd.mult ((Rd.turn p q t i).getD j 0) b
  | 0, j => by
    have e : (List.replicate (p * q) (0 : Int)).getD j 0 = 0 := by
      rw [List.getD_eq_getElem?_getD, List.getElem?_replicate]
      split <;> rfl
    unfold Rd.turn
    rw [e]
    exact Rd.zero_mult b
  | i + 1, j => by
    unfold Rd.turn
    rw [getD_set34, getD_set34, Rd.turn_len, Rd.turn_len]
    split
    · exact h i
    · exact Rd.turn_in p q t r b h i j
theorem Rd.turn_check {p q : Nat} {t r : List Int} {b : Int} (h : Rd.Tb p q t b) {N : Nat} (hl : t.length = N) (hr : r.length = N) (hN : N = p * q) (hin : Rd.In b r t) (hf : Rd.fits q N t r b = true) :
    (Rd.ok b (Rd.turn p q t N) (Rd.turn p q r N) N && Rd.fits p N (Rd.turn p q t N) (Rd.turn p q r N) b) = true := by
  subst hN
  have h1 := Rd.turned p q ⟨h.m1, h.m2⟩ ⟨h.n1, h.n2⟩ t r hl hr b hf
  have h2 : Rd.ok b (Rd.turn p q t (p * q)) (Rd.turn p q r (p * q)) (p * q) = true := by
    unfold Rd.ok
    rw [List.all_eq_true]
    intro j _
    rw [decide_eq_true_eq]
    refine Rd.turn_in p q t r b (fun i => ?_) _ j
    rcases Nat.lt_or_ge i t.length with hi | hi
    · exact hin.at i hi
    · have e1 : t.getD i 0 = 0 := by rw [List.getD_eq_getElem?_getD, List.getElem?_eq_none hi]; rfl
      have e2 : r.getD i 0 = 0 := by rw [List.getD_eq_getElem?_getD, List.getElem?_eq_none (by omega)]; rfl
      rw [e1, e2]
      exact Rd.zero_mult b
  rw [h1, h2]; rfl
set_option maxRecDepth 100000 in
set_option maxHeartbeats 1600000 in
theorem walkTurns (W : World) (A : Option Addr) (n c : Nat) (l : List Int) (h : Nums W .u8 W.heap.size A n c l) :
    Calls Try.prog 7 #[.slice A n c] W fun e w => e = .returned (.bool true) ∧ Below W.heap.size W w := by
  go_enter Try.func7, Try.ntmps7
  go_wp2_with fail
  refine (new_any A n c l W h).mono ?_; rintro e w1 ⟨rfl, hc1, hb1⟩
  have HB1 := Lib.hid hb1
  clear hb1
  go_wp2_with fail
  refine (table34 _ _ w1 hc1).mono ?_; rintro e w2 ⟨p, q, t, b, v, rfl, ho, HT, hc2, hg2⟩
  obtain ⟨A2, c2, rfl, hn⟩ := ho.nums (fun x hx => wf64s (by have := HT.out.1.sm x hx; omega))
  obtain ⟨N, hN⟩ : ∃ N, t.length = N := ⟨_, rfl⟩
  have HL := Lib.hid hN
  have hN9 : N ≤ 9 := by rw [← hN, HT.out.1.len]; exact HT.out.1.small
  rw [hN] at hn
  have HN := Lib.hid hn
  have HB2 := Lib.hid (below_cod34 HB1.out hg2 hc1.lt.2)
  clear hc1 hc2 hg2 ho hn
  rw [hN]
  clear hN
  go_wp2_with fail
  refine (HT.out.1.round A2 _ c2 w2 HN.out).mono ?_; rintro e w3 ⟨v, rfl, hv, hb3⟩
  have HR := Lib.hid (Rd.best_mem p q t b HT.out.1 HT.out.2.1 HT.out.2.2)
  have HRA := Lib.hid (Rd.best_sm p q t b HT.out.1 HT.out.2.1 HT.out.2.2)
  have HIN := Lib.hid HT.out.1.find.2.1
  have HFF := Lib.hid HT.out.1.find.2.2
  obtain ⟨r, hr⟩ : ∃ r, Rd.best q t b = r := ⟨_, rfl⟩
  rw [hr] at hv HR HRA HIN HFF
  rw [HL.out] at HFF HRA
  obtain ⟨A3, c3, rfl, hn⟩ := hv.nums (fun x hx => wf64s (by have := HR.out x hx; omega))
  rw [HRA.out.1] at hn ⊢
  have HN3 := Lib.hid (HN.out.keep hb3 hb3.size)
  have HV := Lib.hid hn
  have HB3 := Lib.hid (HB2.out.trans (hb3.mono HB2.out.size))
  clear hv hn hb3 hr
  go_wp2_with fail
  have hmk : ∀ w' : World, (Instr.makeSlice 22 (.int .i64 (N : Int)) (.int .i64 (N : Int))).run Try.prog w' = .ok (.slice (some ⟨w'.heap.size, 0, none⟩) N N) (w'.alloc (.cells (madeCells #[.int .i64 0] N) 3)) := fun w' => by
    exact run_make_row' 22 3 (.int .i64 0) 8 Try.underlying22 int_info rfl .i64 .i64 N (by omega) (by omega) w'
  go_region_held3 (fun w' => Below w3.heap.size w3 w')
    (first | assumption | (exact below_of_drawn 1) | (exact (Below.refl _ _).drew) | (exact Below.alloc (by assumption) (Below.size (by assumption)) _) | (exact below_drewN (by assumption) _))
    (fail)
  all_goals (obtain ⟨X, hX⟩ : ∃ X, ((w3.alloc (.cells (madeCells #[Value.int .i64 0] N) 3)).alloc (.cells (madeCells #[Value.int .i64 0] N) 3)).drew = X := ⟨_, rfl⟩; have HX := Lib.hid (two_made w3 X N w3.heap.size (by omega) (Nat.le_refl _) hX); rw [hX]; clear hX hmk)
  rotate_left
  obtain ⟨g9, hg9⟩ : ∃ g, w3.heap.size + 1 = g := ⟨_, rfl⟩
  obtain ⟨g10, hg10⟩ : ∃ g, w3.heap.size = g := ⟨_, rfl⟩
  have HS := Lib.hid (show g9 ≠ g10 ∧ w3.heap.size ≤ g9 ∧ w3.heap.size ≤ g10 by omega)
  have HO9 := Lib.hid (show Own X w3.heap.size 3 .i64 (.slice (some ⟨g9, 0, none⟩) N N) (List.replicate N 0) by rw [← hg9]; exact HX.out.2.1)
  have HO10 := Lib.hid (show Own X w3.heap.size 3 .i64 (.slice (some ⟨g10, 0, none⟩) N N) (List.replicate N 0) by rw [← hg10]; exact HX.out.1)
  have HB := Lib.hid HX.out.2.2
  rw [hg9, hg10]
  clear hg9 hg10 HX
  rotate_left
  obtain ⟨g9, hg9⟩ : ∃ g, w3.heap.size = g := ⟨_, rfl⟩
  obtain ⟨g10, hg10⟩ : ∃ g, w3.heap.size + 1 = g := ⟨_, rfl⟩
  have HS := Lib.hid (show g9 ≠ g10 ∧ w3.heap.size ≤ g9 ∧ w3.heap.size ≤ g10 by omega)
  have HO9 := Lib.hid (show Own X w3.heap.size 3 .i64 (.slice (some ⟨g9, 0, none⟩) N N) (List.replicate N 0) by rw [← hg9]; exact HX.out.1)
  have HO10 := Lib.hid (show Own X w3.heap.size 3 .i64 (.slice (some ⟨g10, 0, none⟩) N N) (List.replicate N 0) by rw [← hg10]; exact HX.out.2.1)
  have HB := Lib.hid HX.out.2.2
  rw [hg10, hg9]
  clear hg9 hg10 HX
  all_goals
    have HPQ := Lib.hid (show p * q = N by rw [← HL.out]; exact HT.out.1.len.symm)
    have HQ := Lib.hid (show 1 ≤ q ∧ q ≤ 3 ∧ 1 ≤ p ∧ p ≤ 3 from ⟨HT.out.1.n1, HT.out.1.n2, HT.out.1.m1, HT.out.1.m2⟩)
    go_wp2_with fail
    go_loopw [54] (fun iv wr => ∃ i : Nat, i ≤ N ∧ iv = .int .i64 i ∧ Hid (Own wr w3.heap.size 3 .i64 (.slice (some ⟨g9, 0, none⟩) N N) (Rd.turn p q t i) ∧ Own wr w3.heap.size 3 .i64 (.slice (some ⟨g10, 0, none⟩) N N) (Rd.turn p q r i) ∧ Below w3.heap.size w3 wr)) (fun iv _ => N - (intOf iv).toNat)
    case atStart => exact ⟨0, by omega, rfl, by unfold Rd.turn; rw [HPQ.out]; exact HO9.out, by unfold Rd.turn; rw [HPQ.out]; exact HO10.out, HB.out⟩
    case round =>
      rename World => Z
      obtain ⟨i, hi, rfl, HI⟩ := hrel
      by_cases hlt : i < N
      · have hq9 := HQ.out
        obtain ⟨e, he⟩ : ∃ e, i % q * p + i / q = e := ⟨_, rfl⟩
        have heN : e < N := by rw [← he, ← HPQ.out]; exact Rd.turn_lt hq9.1 (by rw [HPQ.out]; exact hlt)
        obtain ⟨s, hs⟩ : ∃ s, i % q = s := ⟨_, rfl⟩
        obtain ⟨u, hu⟩ : ∃ u, s * p = u := ⟨_, rfl⟩
        obtain ⟨d, hd⟩ : ∃ d, i / q = d := ⟨_, rfl⟩
        rw [hs, hu, hd] at he
        have t1 : (i : Int).tmod (q : Int) = (s : Int) := by rw [Int.tmod_eq_emod_of_nonneg (by omega), ← hs]; rfl
        have t2 : (s : Int) * (p : Int) = (u : Int) := by rw [← hu]; simp
        have t3 : (i : Int).tdiv (q : Int) = (d : Int) := by rw [Int.tdiv_eq_ediv_of_nonneg (by omega), ← hd]; rfl
        have t4 : (u : Int) + (d : Int) = (e : Int) := by omega
        have hq0 : (q : Int) ≠ 0 := by omega
        have s9 : s ≤ 9 := by have := Nat.mod_lt i (show 0 < q by omega); omega
        have HE := Lib.hid (show i % q * p + i / q = e by rw [hs, hu, hd]; exact he)
        obtain ⟨ad, x, rfl, hb1, HX, hx, _⟩ := (HN3.out.keep HI.out.2.2 (Nat.le_refl _)).val hlt
        obtain ⟨ad', y, rfl, hb2, HY, hy, _⟩ := (HV.out.keep HI.out.2.2 (Nat.le_refl _)).val hlt
        have i1 : (0 : Int) ≤ (i : Int) := by omega
        have i2 : (i : Int) < (N : Int) := by omega
        have e1 : (0 : Int) ≤ (e : Int) := by omega
        have e2 : (e : Int) < (N : Int) := by omega
        have HB12 := Lib.hid (And.intro hb1 hb2)
        clear hs hu hd he hb1 hb2
        go_wp2_with fail
        go_quiet (fail)
        go_wp2_with fail
        have HI2 := Lib.hid (And.intro (HI.out.1.drewN nq) (And.intro (HI.out.2.1.drewN nq) (below_drewN HI.out.2.2 nq)))
        have HXd := Lib.hid (below_drewN (Below.refl w3.heap.size Z) nq)
        generalize Z.drewN nq = Zd at *
        have cx : ∀ w', Below w3.heap.size Zd w' → w'.cell? (ad.add i) = some (.int .i64 x) := fun w' h9 => ((HXd.out.trans h9).cell (by rw [add_block]; exact HB12.out.1)).trans hx
        have cy : ∀ w', Below w3.heap.size Zd w' → w'.cell? (ad'.add i) = some (.int .i64 y) := fun w' h9 => ((HXd.out.trans h9).cell (by rw [add_block]; exact HB12.out.2)).trans hy
        have o9 := HI2.out.1
        have o10 := HI2.out.2.1
        have k9 := o9.cell (j := e) (by rw [Rd.turn_len, HPQ.out]; exact heN)
        have f9 := o9.thaw e
        have st9 := o9.store e x
        have o10b := o10.k3 (K2.grownG (g := g9) (f := g9) st9.2) (fun e => HS.out.1 e.symm)
        have k10 := o10b.cell (j := e) (by rw [Rd.turn_len, HPQ.out]; exact heN)
        have f10 := o10b.thaw e
        have st10 := o10b.store e y
        have ST := Lib.hid (And.intro st9 st10)
        clear o9 st9 o10b st10 hx hy o10
        go_region_held3 (fun w' => Below w3.heap.size Zd w')
          (first | assumption | (exact below_of_drawn 1) | (exact (Below.refl _ _).drew) | (exact (below_of_drawn 1).setCell HS.out.2.1 _) | (exact (((Below.refl _ _).setCell HS.out.2.1 _).setCell HS.out.2.2 _).drew) | (exact ((Below.refl _ _).setCell HS.out.2.1 _).drew))
          (fail)
        have HR2 := Lib.hid (show Own (((Zd.setCell ⟨g9, e, none⟩ (.int .i64 x)).setCell ⟨g10, e, none⟩ (.int .i64 y)).drew) w3.heap.size 3 .i64 (.slice (some ⟨g9, 0, none⟩) N N) (Rd.turn p q t (i + 1)) ∧ Own (((Zd.setCell ⟨g9, e, none⟩ (.int .i64 x)).setCell ⟨g10, e, none⟩ (.int .i64 y)).drew) w3.heap.size 3 .i64 (.slice (some ⟨g10, 0, none⟩) N N) (Rd.turn p q r (i + 1)) ∧ Below w3.heap.size w3 (((Zd.setCell ⟨g9, e, none⟩ (.int .i64 x)).setCell ⟨g10, e, none⟩ (.int .i64 y)).drew) from by
          refine ⟨?_, ?_, ((HI2.out.2.2.setCell HS.out.2.1 _).setCell HS.out.2.2 _).drew⟩
          · have h8 := (ST.out.1.1.k3 (K2.grownG (g := g10) (f := g10) ST.out.2.2) HS.out.1).drew
            unfold Rd.turn
            rw [HE.out, HX.out.1]
            exact h8
          · have h8 := ST.out.2.1.drew
            unfold Rd.turn
            rw [HE.out, HY.out.1]
            exact h8)
        generalize ((Zd.setCell ⟨g9, e, none⟩ (.int .i64 x)).setCell ⟨g10, e, none⟩ (.int .i64 y)).drew = Zn at *
        go_wp2_with fail
        go_roundw
        case rel => exact ⟨i + 1, by omega, by go_num, HR2⟩
        case measure => simp [intOf]; omega
      · obtain rfl : i = N := by omega
        have HTT := Lib.hid (Rd.Tb.turn HT.out.1 i)
        have HTC := Lib.hid (Rd.turn_check HT.out.1 HL.out HRA.out.1 HPQ.out.symm HIN.out HFF.out)
        have HTR := Lib.hid (Rd.turn_mem p q r (fun x => -2000000 ≤ x ∧ x ≤ 2000000) (by decide) (fun x hx => by have := HR.out x hx; omega) i)
        have HZ1 := Lib.hid (HI.out.1.numsG (fun x hx => wf64s (by have := HTT.out.sm x hx; omega)))
        have HZ2 := Lib.hid (HI.out.2.1.numsG (fun x hx => wf64s (HTR.out x hx)))
        have HBZ := Lib.hid (HB3.out.trans (HI.out.2.2.mono HB3.out.size))
        have HN5 := Lib.hid (HN3.out.keep HI.out.2.2 HI.out.2.2.size)
        have HV5 := Lib.hid (HV.out.keep HI.out.2.2 HI.out.2.2.size)
        go_wp2_with fail
        refine (check34 q p _ b HTT.out _ _ i i i _ HTR.out Z HZ1.out HZ2.out).mono ?_; rintro e w4 ⟨rfl, hb4⟩
        rw [HTC.out]
        have HB4 := Lib.hid (HBZ.out.trans (hb4.mono HBZ.out.size))
        have HN6 := Lib.hid (HN5.out.keep hb4 hb4.size)
        have HV6 := Lib.hid (HV5.out.keep hb4 hb4.size)
        clear hb4
        go_wp2_with fail
        refine (values34 A2 i c2 t (by omega) HT.out.1.sm b HT.out.1.b1 HT.out.1.b2 w4 HN6.out).mono ?_; rintro e w5 ⟨v, rfl, hv, hb5⟩
        have HB5 := Lib.hid (HB4.out.trans (hb5.mono HB4.out.size))
        have HN7 := Lib.hid (HN6.out.keep hb5 hb5.size)
        have HV7 := Lib.hid (HV6.out.keep hb5 hb5.size)
        obtain ⟨A7, c7, rfl, h0, hcells⟩ := hv.read
        rw [List.length_map, HL.out] at hcells ⊢
        have HC7 := Lib.hid hcells
        clear hb5 hv hcells h0
        go_wp2_with fail
        go_loopw [107] (fun iv wr => ∃ j : Nat, j ≤ i ∧ iv = .int .i64 j ∧ ∃ m, wr = w5.drewN m) (fun iv _ => i - (intOf iv).toNat)
        case atStart => exact ⟨0, by omega, rfl, 0, rfl⟩
        case round =>
          obtain ⟨j, hj, rfl, m, rfl⟩ := hrel
          by_cases hlt2 : j < i
          · obtain ⟨g7, vj, rfl, hg7, hcj, hoj⟩ := HC7.out j hlt2
            obtain ⟨ad, x, rfl, _, HX, hx, _⟩ := HN7.out.val hlt2
            obtain ⟨ad', y, rfl, _, HY, hy, _⟩ := HV7.out.val hlt2
            have hmap : (t.map (Rd.mult · b)).getD j [] = Rd.mult x b := by
              have h9 := HX.out.1
              rw [List.getD_eq_getElem?_getD, List.getElem?_eq_getElem HX.out.2] at h9
              rw [List.getD_eq_getElem?_getD, List.getElem?_map, List.getElem?_eq_getElem HX.out.2]
              have h8 : t[j]'HX.out.2 = x := h9
              simp [h8]
            rw [hmap] at hoj
            have HM := Lib.hid (show y ∈ Rd.mult x b by have := HIN.out.at j (by rw [HL.out]; exact hlt2); rwa [HX.out.1, HY.out.1] at this)
            obtain ⟨q7, n7, k7, rfl, _, _⟩ := hoj.cellsNe (Rd.mult_ne _ _)
            have HO7 := Lib.hid hoj
            have hn7 : n7 = (Rd.mult x b).length := hoj.head.1
            have hx9 : 0 ≤ x ∧ x ≤ 29 := ⟨(HT.out.1.sm x (getD_mem HX.out)).1, HT.out.2.2 x (getD_mem HX.out)⟩
            have hbb : 1 ≤ b ∧ b ≤ 10 := ⟨HT.out.1.b1, HT.out.2.1⟩
            have hbn : b ≠ 0 := by omega
            have hm0 := Int.emod_nonneg x hbn
            have hm1 := Int.emod_lt_of_pos x (show 0 < b by omega)
            obtain ⟨rr, hrr⟩ : ∃ z, x % b = z := ⟨_, rfl⟩
            have htm : x.tmod b = rr := by rw [Int.tmod_eq_emod_of_nonneg hx9.1]; exact hrr
            have HCS := Lib.hid (show (rr = 0 ∧ n7 = 1) ∨ (1 ≤ rr ∧ rr ≤ 10 ∧ n7 = 2) by
              rw [hrr] at hm0 hm1
              rw [hn7]; unfold Rd.mult; rw [hrr]
              by_cases h0 : rr = 0
              · left; rw [if_pos h0]; exact ⟨h0, rfl⟩
              · right; rw [if_neg h0]; exact ⟨by omega, by omega, rfl⟩)
            have hn79 : n7 ≤ 2 := by have := HCS.out; omega
            have HN9 := Lib.hid hn7
            have i1 : (0 : Int) ≤ (j : Int) := by omega
            have i2 : (j : Int) < (i : Int) := by omega
            have HMS := Lib.hid (fun z hz => Rd.mult_mem ⟨hx9.1, by omega⟩ ⟨hbb.1, by omega⟩ hz : ∀ z ∈ Rd.mult x b, -2000000 ≤ z ∧ z ≤ 2000000)
            clear hmap hoj hn7 hm0 hm1 hrr
            go_wp2_with fail
            go_loopw [18, 115] (fun sv kv wr => ∃ (k : Nat) (bl : Bool), k ≤ n7 ∧ kv = .int .i64 k ∧ sv = .bool bl ∧ Hid (bl = decide (y ∈ (Rd.mult x b).take k)) ∧ wr = w5.drewN m) (fun _ kv _ => n7 - (intOf kv).toNat)
            case atStart => exact ⟨0, false, by omega, rfl, rfl, Lib.hid (by simp), rfl⟩
            case round =>
              obtain ⟨k, bl, hk, rfl, rfl, HBL, rfl⟩ := hrel
              by_cases hlt3 : k < n7
              · have HKL := Lib.hid (show k < (Rd.mult x b).length by rw [← HN9.out]; exact hlt3)
                have ck := HO7.out.cell (j := k) HKL.out
                have HMT := Lib.hid (take_succ_getD (Rd.mult x b) k HKL.out)
                have hzm := HMS.out ((Rd.mult x b).getD k 0) (getD_mem ⟨rfl, HKL.out⟩)
                obtain ⟨z, hz⟩ : ∃ z, (Rd.mult x b).getD k 0 = z := ⟨_, rfl⟩
                rw [hz] at ck HMT hzm
                have k1 : (0 : Int) ≤ (k : Int) := by omega
                have k2 : (k : Int) < (n7 : Int) := by omega
                clear hz
                rcases bl with _ | _
                · by_cases hzy : z = y
                  · subst hzy
                    have g1 : (z == z) = true := by simp
                    go_wp2_with fail
                    go_roundw
                    case rel => exact ⟨k + 1, true, by omega, by go_num, rfl, Lib.hid (by rw [HMT.out]; simp), by first | rfl | trivial⟩
                    case measure => simp [intOf]; omega
                  · have g1 : (z == y) = false := by simpa using hzy
                    have HZY := Lib.hid hzy
                    clear hzy
                    go_wp2_with fail
                    go_roundw
                    case rel => exact ⟨k + 1, false, by omega, by go_num, rfl, Lib.hid (by
                      have h9 := HBL.out.symm
                      rw [decide_eq_false_iff_not] at h9
                      rw [HMT.out]
                      symm
                      rw [decide_eq_false_iff_not, List.mem_append]
                      rintro (h | h)
                      · exact h9 h
                      · exact HZY.out (List.mem_singleton.1 h).symm), by first | rfl | trivial⟩
                    case measure => simp [intOf]; omega
                · go_wp2_with fail
                  go_roundw
                  case rel => exact ⟨k + 1, true, by omega, by go_num, rfl, Lib.hid (by
                    have h9 := HBL.out.symm
                    rw [decide_eq_true_eq] at h9
                    rw [HMT.out]
                    symm
                    rw [decide_eq_true_eq, List.mem_append]
                    exact .inl h9), by first | rfl | trivial⟩
                  case measure => simp [intOf]; omega
              · obtain rfl : k = n7 := by omega
                have hbl : bl = true := by rw [HBL.out, List.take_of_length_le (by rw [HN9.out]; exact Nat.le_refl _)]; exact decide_eq_true HM.out
                subst hbl
                go_wp2_with fail
                rcases HCS.out with ⟨h1, h2⟩ | ⟨h1, h3, h2⟩
                · subst h1 h2
                  go_quiet (fail)
                  go_wp2_with fail
                  go_roundw
                  case rel => exact ⟨j + 1, by omega, by go_num, _, rfl⟩
                  case measure => simp [intOf]; omega
                · subst h2
                  go_quiet (fail)
                  go_wp2_with fail
                  go_roundw
                  case rel => exact ⟨j + 1, by omega, by go_num, _, rfl⟩
                  case measure => simp [intOf]; omega
          · obtain rfl : j = i := by omega
            go_wp2_with fail
            refine (awake34 _).mono ?_; rintro e w8 ⟨rfl, hb8⟩
            have HB8 := Lib.hid ((below_drewN HB5.out m).trans (hb8.mono HB5.out.size))
            clear hb8
            go_wp2_with fail
            go_ret
            exact ⟨rfl, HB8.out⟩
end Go.Proofs.Ytgclljmchdlbeaa
