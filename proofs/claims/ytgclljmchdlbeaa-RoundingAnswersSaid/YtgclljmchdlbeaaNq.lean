/- Rounding: the law that the table fits, and that nothing less does. -/
import Derived.Test.YtgclljmchdlbeaaNo
namespace Go.Proofs.Ytgclljmchdlbeaa
open Go.RowKit
/-- the first j numbers of row q -/
def Rd.seg (t : List Int) (n q : Nat) : Nat → Int
  | 0 => 0
  | j + 1 => Rd.seg t n q j + t.getD (q * n + j) 0
theorem Rd.row_seg (t : List Int) (n q : Nat) : ∀ j, j < n → Rd.row t n (q * n + j + 1) = Rd.seg t n q (j + 1)
  | 0, h => by
    simp only [Rd.row, Rd.seg, Nat.add_zero]
    rw [if_pos (Nat.mul_mod_left q n)]
  | j + 1, h => by
    have ih := Rd.row_seg t n q j (by omega)
    have e1 : (q * n + (j + 1)) % n = j + 1 := by rw [Nat.mul_comm, Nat.mul_add_mod]; exact Nat.mod_eq_of_lt h
    have e2 : Rd.row t n (q * n + (j + 1) + 1) = (if (q * n + (j + 1)) % n = 0 then 0 else Rd.row t n (q * n + (j + 1))) + t.getD (q * n + (j + 1)) 0 := rfl
    rw [e2, e1, if_neg (by omega), show q * n + (j + 1) = q * n + j + 1 by omega, ih]
    rfl
theorem Rd.seg_near {m n : Nat} {t r : List Int} {b : Int} (hn : 1 ≤ n) (hf : Rd.fits n (m * n) t r b = true) {q : Nat} (hq : q < m) : Rd.seg r n q n - Rd.seg t n q n < b ∧ Rd.seg t n q n - Rd.seg r n q n < b := by
  obtain ⟨j, rfl⟩ : ∃ j, n = j + 1 := ⟨n - 1, by omega⟩
  unfold Rd.fits at hf
  simp only [Bool.and_eq_true, List.all_eq_true, List.mem_range] at hf
  have hlt : q * (j + 1) + j < m * (j + 1) := by
    have := Nat.mul_le_mul_right (j + 1) (show q + 1 ≤ m by omega)
    rw [Nat.add_mul] at this; omega
  have h1 := hf.1.1 _ hlt
  unfold Rd.okRow at h1
  have e1 : (q * (j + 1) + j + 1) % (j + 1) = 0 := by
    rw [show q * (j + 1) + j + 1 = (q + 1) * (j + 1) by rw [Nat.add_mul]; omega]
    exact Nat.mul_mod_left _ _
  rw [e1, Rd.row_seg t _ q j (by omega), Rd.row_seg r _ q j (by omega)] at h1
  simp only [Rd.near, ne_eq, not_true_eq_false, decide_false, Bool.false_or, Bool.and_eq_true, decide_eq_true_eq] at h1
  exact h1
theorem Rd.seg_bd (t : List Int) (M : Int) (hM : 0 ≤ M) (h : ∀ x ∈ t, 0 ≤ x ∧ x ≤ M) (n q : Nat) : ∀ j : Nat, 0 ≤ Rd.seg t n q j ∧ Rd.seg t n q j ≤ M * j
  | 0 => by simp [Rd.seg]
  | j + 1 => by
    have ih := Rd.seg_bd t M hM h n q j
    have hx : 0 ≤ t.getD (q * n + j) 0 ∧ t.getD (q * n + j) 0 ≤ M := by
      rw [List.getD_eq_getElem?_getD]
      rcases Nat.lt_or_ge (q * n + j) t.length with hj | hj
      · rw [List.getElem?_eq_getElem hj]; exact h _ (List.getElem_mem hj)
      · rw [List.getElem?_eq_none hj]; exact ⟨by decide, hM⟩
    have e : M * ((j + 1 : Nat) : Int) = M * j + M := by rw [Int.natCast_add, Int.mul_add]; simp
    rw [e]
    simp only [Rd.seg]
    omega
/-- one number less by the base -/
def Rd.less (r : List Int) (i : Nat) (b : Int) : List Int := r.set i (r.getD i 0 - b)
theorem Rd.getD_set (r : List Int) (i j : Nat) (x : Int) : (r.set i x).getD j 0 = if i = j ∧ j < r.length then x else r.getD j 0 := by
  simp only [List.getD_eq_getElem?_getD, List.getElem?_set]
  by_cases h : i = j
  · subst h
    by_cases h2 : i < r.length
    · simp [h2]
    · simp [h2]
  · simp [h]
theorem Rd.ok_in {b : Int} {t r : List Int} (hl : r.length = t.length) : Rd.ok b t r t.length = true ↔ Rd.In b r t := by
  unfold Rd.ok
  simp only [List.all_eq_true, List.mem_range, decide_eq_true_eq]
  exact ⟨fun h => Rd.In.of hl h, fun h i hi => h.at i hi⟩
theorem Rd.Tb.fitting {m n : Nat} {t : List Int} {b : Int} (h : Rd.Tb m n t b) : (Rd.ok b t (Rd.best n t b) t.length && Rd.fits n t.length t (Rd.best n t b) b) = true := by
  have hf := h.find
  rw [(Rd.ok_in hf.2.1.len).2 hf.2.1, hf.2.2]; rfl
theorem Rd.Tb.least {m n : Nat} {t : List Int} {b : Int} (h : Rd.Tb m n t b) {i : Nat} (hi : i < t.length) : (Rd.ok b t (Rd.less (Rd.best n t b) i b) t.length && Rd.fits n t.length t (Rd.less (Rd.best n t b) i b) b) = false := by
  have hf := h.find
  generalize Rd.best n t b = r at *
  have hl : r.length = t.length := hf.2.1.len
  have hl2 : (Rd.less r i b).length = t.length := by unfold Rd.less; rw [List.length_set]; exact hl
  rcases ho : Rd.ok b t (Rd.less r i b) t.length with _ | _
  · rfl
  · have hin := (Rd.ok_in hl2).1 ho
    have h1 := h.b1
    have := Rd.find_least (F := fun p => Rd.fits n t.length t p b) h.b1 (p := []) (q := r) hf.1 hf.2.1 i hi (Rd.less r i b) hin
      (fun j hj => by unfold Rd.less; rw [Rd.getD_set, if_neg (by omega)])
      (by unfold Rd.less; rw [Rd.getD_set, if_pos ⟨rfl, by omega⟩]; omega)
    simp only [List.nil_append] at this
    rw [this]; rfl
set_option maxRecDepth 100000 in
set_option maxHeartbeats 1600000 in
theorem walkFits (W : World) (A : Option Addr) (n c : Nat) (l : List Int) (h : Nums W .u8 W.heap.size A n c l) :
    Calls Try.prog 4 #[.slice A n c] W fun e w => e = .returned (.bool true) ∧ Below W.heap.size W w := by
  go_enter Try.func4, Try.ntmps4
  go_wp2_with fail
  refine (new_any A n c l W h).mono ?_; rintro e w1 ⟨rfl, hc1, hb1⟩
  have HB1 := Lib.hid hb1
  clear hb1
  go_wp2_with fail
  refine (table34 _ _ w1 hc1).mono ?_; rintro e w2 ⟨p, q, t, b, v, rfl, ho, HT, hc2, hg2⟩
  obtain ⟨A2, c2, rfl, hn⟩ := ho.nums (fun x hx => wf64s (by have := HT.out.1.sm x hx; omega))
  obtain ⟨N, hN⟩ : ∃ N, t.length = N := ⟨_, rfl⟩
  have HL := Lib.hid hN
  have hN9 : N ≤ 9 := by rw [← hN, HT.out.1.len]; exact HT.out.1.small
  rw [hN] at hn
  have HN := Lib.hid hn
  have HB2 := Lib.hid (below_cod34 HB1.out hg2 hc1.lt.2)
  clear hc1 hc2 hg2 ho hn
  rw [hN]
  clear hN
  go_wp2_with fail
  refine (HT.out.1.round A2 _ c2 w2 HN.out).mono ?_; rintro e w3 ⟨v, rfl, hv, hb3⟩
  have HR := Lib.hid (Rd.best_mem p q t b HT.out.1 HT.out.2.1 HT.out.2.2)
  have HRA := Lib.hid (Rd.best_sm p q t b HT.out.1 HT.out.2.1 HT.out.2.2)
  have HFI := Lib.hid HT.out.1.fitting
  have HLE := Lib.hid (fun i (hi : i < t.length) => HT.out.1.least hi)
  have HFF := Lib.hid HT.out.1.find.2.2
  obtain ⟨r, hr⟩ : ∃ r, Rd.best q t b = r := ⟨_, rfl⟩
  rw [hr] at hv HR HRA HFI HFF
  simp only [hr] at HLE
  rw [HL.out] at HFI HFF HRA HLE
  obtain ⟨A3, c3, rfl, hn⟩ := hv.nums (fun x hx => wf64s (by have := HR.out x hx; omega))
  rw [HRA.out.1] at hn ⊢
  have HN3 := Lib.hid (HN.out.keep hb3 hb3.size)
  have HV := Lib.hid hn
  have HB3 := Lib.hid (HB2.out.trans (hb3.mono HB2.out.size))
  clear hv hn hb3 hr
  go_wp2_with fail
  refine (check34 p q t b HT.out.1 A2 A3 N c2 c3 r (fun x hx => by have := HR.out x hx; omega) w3 HN3.out HV.out).mono ?_; rintro e w4 ⟨rfl, hb4⟩
  rw [HFI.out]
  have HN4 := Lib.hid (HN3.out.keep hb4 hb4.size)
  have HV4 := Lib.hid (HV.out.keep hb4 hb4.size)
  have HB4 := Lib.hid (HB3.out.trans (hb4.mono HB3.out.size))
  clear hb4
  go_wp2_with fail
  have HPQ := Lib.hid (show p * q = N by rw [← HL.out]; exact HT.out.1.len.symm)
  have HQ := Lib.hid (show 1 ≤ q ∧ q ≤ 3 from ⟨HT.out.1.n1, HT.out.1.n2⟩)
  have HB := Lib.hid (show 1 ≤ b ∧ b ≤ 10 from ⟨HT.out.1.b1, HT.out.2.1⟩)
  go_loopw [55] (fun iv wr => ∃ i : Nat, i ≤ N ∧ iv = .int .i64 i ∧ ∃ m, wr = w4.drewN m) (fun iv _ => N - (intOf iv).toNat)
  case atStart => exact ⟨0, by omega, rfl, 0, rfl⟩
  case round =>
    obtain ⟨i, hi, rfl, m, rfl⟩ := hrel
    by_cases hlt : i < N
    · obtain ⟨ad, x, rfl, _, HX, hx, _⟩ := HN4.out.val hlt
      obtain ⟨ad', y, rfl, _, HY, hy, _⟩ := HV4.out.val hlt
      have hra := HRA.out.2 i hlt
      rw [HX.out.1, HY.out.1] at hra
      have hx9 := HT.out.1.sm x (getD_mem HX.out)
      have hbb := HB.out
      have htm : y.tmod b = 0 := Int.tmod_eq_zero_of_dvd hra.1
      have hy9 : 0 ≤ y ∧ y ≤ 1000 := ⟨hra.2.1, hra.2.2.1⟩
      have g1 : decide (y ≤ x - b) = false := decide_eq_false (by omega)
      have g2 : decide (x + b ≤ y) = false := decide_eq_false (by omega)
      have hx8 : x ≤ 29 := HT.out.2.2 x (getD_mem HX.out)
      have hbn : b ≠ 0 := by omega
      have i1 : (0 : Int) ≤ (i : Int) := by omega
      have i2 : (i : Int) < (N : Int) := by omega
      clear hra
      go_wp2_with fail
      go_quiet (fail)
      go_wp2_with fail
      have hq9 := HQ.out
      obtain ⟨d, hd⟩ : ∃ d, i / q = d := ⟨_, rfl⟩
      have hdp : d < p := by
        rw [← hd]
        refine Nat.div_lt_of_lt_mul ?_
        rw [Nat.mul_comm, HPQ.out]; exact hlt
      obtain ⟨f, hf⟩ : ∃ f, d * q = f := ⟨_, rfl⟩
      have hfq : f + q ≤ N := by
        have := Nat.mul_le_mul_right q (show d + 1 ≤ p by omega)
        rw [Nat.add_mul, HPQ.out, hf] at this; omega
      have hfi : f ≤ i := by rw [← hf, ← hd]; exact Nat.div_mul_le_self i q
      have t1 : (i : Int).tdiv (q : Int) = (d : Int) := by rw [Int.tdiv_eq_ediv_of_nonneg (by omega), ← hd]; rfl
      have t2 : (d : Int) * (q : Int) = (f : Int) := by rw [← hf]; simp
      have hq0 : (q : Int) ≠ 0 := by omega
      have HSN := Lib.hid (Rd.seg_near (q := d) HT.out.1.n1 (by rw [HPQ.out]; exact HFF.out) hdp)
      have HFE := Lib.hid hf
      have hd9 : d ≤ 9 := by have := HT.out.1.m2; omega
      clear hd hf htm g1 g2 hdp hx hy
      go_loopw [12, 13, 14] (fun rv sv kv wr => ∃ k : Nat, k ≤ q ∧ kv = .int .i64 k ∧ rv = .int .i64 (Rd.seg r q d k) ∧ sv = .int .i64 (Rd.seg t q d k) ∧ ∃ m, wr = w4.drewN m) (fun _ _ kv _ => q - (intOf kv).toNat)
      case atStart => exact ⟨0, by omega, rfl, rfl, rfl, m + nq, by simp⟩
      case round =>
        obtain ⟨k, hk, rfl, rfl, rfl, m, rfl⟩ := hrel
        have s1 := Rd.seg_bd r 1000 (by decide) (fun x hx => ⟨(HR.out x hx).1, (HR.out x hx).2.1⟩) q d k
        have s2 := Rd.seg_bd t 1000 (by decide) (fun x hx => ⟨(HT.out.1.sm x hx).1, by have := HT.out.2.2 x hx; omega⟩) q d k
        by_cases hlt2 : k < q
        · obtain ⟨e, he⟩ : ∃ e, f + k = e := ⟨_, rfl⟩
          have heN : e < N := by omega
          obtain ⟨ad2, x2, had2, _, HX2, hx2, _⟩ := HN4.out.val heN
          obtain rfl : ad = ad2 := by injection had2
          obtain ⟨ad3, y2, had3, _, HY2, hy2, _⟩ := HV4.out.val heN
          obtain rfl : ad' = ad3 := by injection had3
          have b1 := HR.out y2 (getD_mem HY2.out)
          have b2 := HT.out.1.sm x2 (getD_mem HX2.out)
          have b3 := HT.out.2.2 x2 (getD_mem HX2.out)
          have t3 : (f : Int) + (k : Int) = (e : Int) := by omega
          have HE1 := Lib.hid (show Rd.seg r q d (k + 1) = Rd.seg r q d k + y2 by simp only [Rd.seg]; rw [HFE.out, he, HY2.out.1])
          have HE2 := Lib.hid (show Rd.seg t q d (k + 1) = Rd.seg t q d k + x2 by simp only [Rd.seg]; rw [HFE.out, he, HX2.out.1])
          obtain ⟨sr, hsr⟩ : ∃ z, Rd.seg r q d k = z := ⟨_, rfl⟩
          obtain ⟨st, hst⟩ : ∃ z, Rd.seg t q d k = z := ⟨_, rfl⟩
          rw [hsr] at s1 HE1 ⊢
          rw [hst] at s2 HE2 ⊢
          have s1' : 0 ≤ sr ∧ sr ≤ 3000 := by omega
          have s2' : 0 ≤ st ∧ st ≤ 3000 := by omega
          have b1' : 0 ≤ y2 ∧ y2 ≤ 1000 := ⟨b1.1, b1.2.1⟩
          have b2' : 0 ≤ x2 ∧ x2 ≤ 29 := ⟨b2.1, b3⟩
          have e1 : (0 : Int) ≤ (e : Int) := by omega
          have e2 : (e : Int) < (N : Int) := by omega
          clear s1 s2 b1 b2 b3 hsr hst he had2 had3
          go_wp2_with fail
          go_quiet (fail)
          go_wp2_with fail
          go_roundw
          case rel => exact ⟨k + 1, by omega, by go_num, by rw [HE1.out], by rw [HE2.out], _, rfl⟩
          case measure => simp [intOf]; omega
        · obtain rfl : k = q := by omega
          have hsn := HSN.out
          obtain ⟨sr, hsr⟩ : ∃ z, Rd.seg r k d k = z := ⟨_, rfl⟩
          obtain ⟨st, hst⟩ : ∃ z, Rd.seg t k d k = z := ⟨_, rfl⟩
          rw [hsr] at s1 hsn ⊢
          rw [hst] at s2 hsn ⊢
          have s1' : 0 ≤ sr ∧ sr ≤ 3000 := by omega
          have s2' : 0 ≤ st ∧ st ≤ 3000 := by omega
          have g3 : decide (sr ≤ st - b) = false := decide_eq_false (by omega)
          have g4 : decide (st + b ≤ sr) = false := decide_eq_false (by omega)
          clear s1 s2 hsr hst hsn
          go_wp2_with fail
          go_roundw
          case rel => exact ⟨i + 1, by omega, by go_num, m, rfl⟩
          case measure => simp [intOf]; omega
    · obtain rfl : i = N := by omega
      have hi1 : 1 ≤ i := by rw [← HPQ.out]; exact Nat.mul_pos HT.out.1.m1 HT.out.1.n1
      have HI1 := Lib.hid hi1
      clear hi1
      go_wp2_with fail
      go_loopw [135] (fun iv wr => ∃ j : Nat, j ≤ i ∧ iv = .int .i64 j ∧ Hid (Below w4.heap.size w4 wr)) (fun iv _ => i - (intOf iv).toNat)
      case atStart => exact ⟨0, by omega, rfl, Lib.hid (below_drewN (Below.refl _ _) m)⟩
      case round =>
        rename World => X
        obtain ⟨j, hj, rfl, HI⟩ := hrel
        by_cases hlt2 : j < i
        · have hbe : Below X.heap.size X (X.alloc (.cells #[] 3)) := (Below.refl _ _).alloc (Nat.le_refl _) _
          have HPX := Lib.hid (HV4.out.keep HI.out HI.out.size)
          have HPE := Lib.hid (HPX.out.keep hbe hbe.size)
          have HQ3 := Lib.hid hbe.size
          have HGR := Lib.hid (fun (w2 : World) (h : (X.alloc (.cells #[] 3)).grownBy w2 (Value.slice (some ⟨X.heap.size, 0, none⟩) 0 0).ownBlock) => (Own.grow (w0 := X) (B := X.heap.size) (Own.empty X 3 .i64) hbe h hbe.size (Nat.le_refl _) : Below X.heap.size X w2))
          clear hbe
          obtain ⟨x, hxe⟩ : ∃ x, r.getD j 0 = x := ⟨_, rfl⟩
          have HXE := Lib.hid hxe
          have hx9 : 0 ≤ x ∧ x ≤ 1000 := by have := HR.out x (by rw [← hxe]; exact getD_mem ⟨rfl, by rw [HRA.out.1]; exact hlt2⟩); exact ⟨this.1, this.2.1⟩
          have hb9 := HB.out
          have hlr : j < r.length := by rw [HRA.out.1]; exact hlt2
          have HLR := Lib.hid hlr
          have j1 : (0 : Int) ≤ (j : Int) := by omega
          have j2 : (j : Int) < (i : Int) := by omega
          clear hxe hlr
          go_wp2_with (at_builtin; refine app_ints _ rfl _ _ _ rfl X.heap.size 3 8 .i64 int_info Try.underlying22 (.slice (some ⟨X.heap.size, 0, none⟩) 0 0) [] rfl (Own.empty X _ _) _ _ _ _ r rfl HPE.out (by simp only [maxLen, List.length_nil]; omega) (by simp only [List.length_nil]; omega) HQ3.out ?_; intro v2 w5 hown2 hgrow2; (have hb5 : Below X.heap.size X w5 := HGR.out w5 hgrow2); rw [List.nil_append] at hown2; obtain ⟨g2, cap2, rfl, hg2, _, _, _⟩ := hown2.rowg HRA.out.1 HI1.out; (have c0 := hown2.cell (j := j) HLR.out); rw [HXE.out] at c0; (have f0 := hown2.thaw j); (have HO5 := Lib.hid hown2); (have HB5 := Lib.hid hb5); (have HG2 := Lib.hid hg2); clear hown2 hgrow2 hb5 hg2)
          have hst := HO5.out.store j (x - b)
          obtain ⟨W6, hW6⟩ : ∃ W6, w5.setCell ⟨g2, j, none⟩ (.int .i64 (x - b)) = W6 := ⟨_, rfl⟩
          rw [hW6] at hst ⊢
          have HB6 := Lib.hid (HB5.out.grown hst.2 HB5.out.size (fun z hz => by injection hz with hz; have := HG2.out; omega))
          have hle : r.set j (x - b) = Rd.less r j b := by unfold Rd.less; rw [HXE.out]
          have hst1 := hst.1
          rw [hle] at hst1
          have hsm : ∀ z ∈ Rd.less r j b, -2000000 ≤ z ∧ z ≤ 2000000 := fun z hz => by
            rw [← hle] at hz
            rcases List.mem_or_eq_of_mem_set hz with hz | rfl
            · have := HR.out z hz; omega
            · omega
          have HS6 := Lib.hid (hst1.numsG (fun z hz => wf64s (hsm z hz)))
          have HN6 := Lib.hid (HN4.out.keep (HI.out.trans (HB6.out.mono HI.out.size)) (Nat.le_trans HI.out.size HB6.out.size))
          have HSM := Lib.hid hsm
          have HLF := Lib.hid (HLE.out j hlt2)
          clear hst hst1 hsm hle hW6 c0 f0
          refine (check34 p q t b HT.out.1 A2 _ i c2 _ (Rd.less r j b) HSM.out W6 HN6.out HS6.out).mono ?_; rintro e w7 ⟨rfl, hb7⟩
          rw [HLF.out]
          have HB7 := Lib.hid (HI.out.trans ((HB6.out.trans (hb7.mono HB6.out.size)).mono HI.out.size))
          clear hb7
          go_wp2_with fail
          go_roundw
          case rel => exact ⟨j + 1, by omega, by go_num, HB7⟩
          case measure => simp [intOf]; omega
        · obtain rfl : j = i := by omega
          go_wp2_with fail
          refine (awake34 _).mono ?_; rintro e w8 ⟨rfl, hb8⟩
          have HB8 := Lib.hid (HB4.out.trans ((HI.out.trans (hb8.mono HI.out.size)).mono HB4.out.size))
          clear hb8
          go_wp2_with fail
          go_ret
          exact ⟨rfl, HB8.out⟩
end Go.Proofs.Ytgclljmchdlbeaa
