/- Rounding, the reference: fits. -/
import Derived.Test.YtgclljmchdlbeaaQb
namespace Go.Proofs.Ytgclljmchdlbeaa
open Go.RowKit
theorem Rd.mult_bd {x y b : Int} (hx : 0 ≤ x ∧ x ≤ 1000000) (hb : 1 ≤ b ∧ b ≤ 20) (h : y ∈ Rd.mult x b) : 0 ≤ y ∧ y ≤ 2000000 := by
  have h1 := Rd.mult_mem hx hb h
  have hle : 0 ≤ x - x % b := by
    have e1 := Int.mul_ediv_add_emod x b
    have e2 := Int.mul_nonneg (show 0 ≤ b by omega) (Int.ediv_nonneg hx.1 (show 0 ≤ b by omega))
    omega
  unfold Rd.mult at h
  split at h
  · have : y = x := by simpa using h
    omega
  · have : y = x - x % b ∨ y = x - x % b + b := by simpa using h
    omega
theorem Rd.seg_dvd {r : List Int} {b : Int} (h : ∀ i, b ∣ r.getD i 0) (n q : Nat) : ∀ j, b ∣ Rd.seg r n q j
  | 0 => Int.dvd_zero b
  | j + 1 => Int.dvd_add (Rd.seg_dvd h n q j) (h _)
theorem Rd.cseg_dvd {r : List Int} {b : Int} (h : ∀ i, b ∣ r.getD i 0) (n q : Nat) : ∀ j, b ∣ Rd.cseg r n q j
  | 0 => Int.dvd_zero b
  | j + 1 => Int.dvd_add (Rd.cseg_dvd h n q j) (h _)
theorem Rd.tot_dvd {r : List Int} {b : Int} (h : ∀ i, b ∣ r.getD i 0) (n : Nat) : ∀ j, b ∣ Rd.tot r n j
  | 0 => Int.dvd_zero b
  | j + 1 => Int.dvd_add (Rd.tot_dvd h n j) (Rd.seg_dvd h n j n)
theorem Rd.getD_bd {t : List Int} (h : ∀ x ∈ t, 0 ≤ x ∧ x ≤ 2000000) (i : Nat) : 0 ≤ t.getD i 0 ∧ t.getD i 0 ≤ 2000000 := by
  rw [List.getD_eq_getElem?_getD]
  rcases Nat.lt_or_ge i t.length with hj | hj
  · rw [List.getElem?_eq_getElem hj]; exact h _ (List.getElem_mem hj)
  · rw [List.getElem?_eq_none hj]; exact ⟨by decide, by decide⟩
theorem Rd.seg_bd2 {t : List Int} (h : ∀ x ∈ t, 0 ≤ x ∧ x ≤ 2000000) (n q : Nat) : ∀ j : Nat, 0 ≤ Rd.seg t n q j ∧ Rd.seg t n q j ≤ 2000000 * (j : Int)
  | 0 => by simp [Rd.seg]
  | j + 1 => by
    have ih := Rd.seg_bd2 h n q j
    have hx := Rd.getD_bd h (q * n + j)
    simp only [Rd.seg]
    omega
theorem Rd.cseg_bd2 {t : List Int} (h : ∀ x ∈ t, 0 ≤ x ∧ x ≤ 2000000) (n q : Nat) : ∀ j : Nat, 0 ≤ Rd.cseg t n q j ∧ Rd.cseg t n q j ≤ 2000000 * (j : Int)
  | 0 => by simp [Rd.cseg]
  | j + 1 => by
    have ih := Rd.cseg_bd2 h n q j
    have hx := Rd.getD_bd h (j * n + q)
    simp only [Rd.cseg]
    omega
theorem Rd.tot_bd2 {t : List Int} (h : ∀ x ∈ t, 0 ≤ x ∧ x ≤ 2000000) (n : Nat) : ∀ j : Nat, 0 ≤ Rd.tot t n j ∧ Rd.tot t n j ≤ 2000000 * ((j * n : Nat) : Int)
  | 0 => by simp [Rd.tot]
  | j + 1 => by
    have ih := Rd.tot_bd2 h n j
    have hx := Rd.seg_bd2 h n j n
    have e : (j + 1) * n = j * n + n := by rw [Nat.add_mul, Nat.one_mul]
    rw [e]
    simp only [Rd.tot]
    omega
theorem Rd.nearM_dvd {s s' b : Int} (h : b ∣ s') : Rd.nearM s s' b = Rd.near s s' b := by
  unfold Rd.nearM Rd.near
  rw [decide_eq_true h, Bool.true_and, Bool.eq_iff_iff]
  simp only [Bool.and_eq_true, decide_eq_true_eq]
  omega
theorem wrap_nat (f : Nat) (h : f ≤ 1000) : IntKind.i64.wrap (f : Int) = (f : Int) := by simp [IntKind.wrap, IntKind.bits, IntKind.signed]; omega
theorem rnearQ (n r b : Int) (bl : Bool) (h : Rd.nearM n r b = bl) (hn : -100000000 ≤ n ∧ n ≤ 100000000) (hb0 : 1 ≤ b) (hb1 : b ≤ 20) (w : World) :
    Calls Try.prog 50 #[.int .i64 n, .int .i64 r, .int .i64 b] w fun e w' => e = .returned (.bool bl) ∧ w' = w :=
  (rnear34 n r b hn hb0 hb1 w).mono fun _ _ ⟨h1, h2⟩ => ⟨by rw [h1, h], h2.symm⟩
set_option maxRecDepth 100000 in
set_option maxHeartbeats 3200000 in
theorem rfits34 (m n : Nat) (hm : 1 ≤ m) (hn : 1 ≤ n) (hmn : m * n ≤ 12) (A A' : Option Addr) (k c c' : Nat) (HK : Hid (k = m * n)) (t r : List Int) (b : Int) (hin : ∀ i, i < k → r.getD i 0 ∈ Rd.mult (t.getD i 0) b) (hb0 : 1 ≤ b) (hb1 : b ≤ 20) (hsm : ∀ x ∈ t, 0 ≤ x ∧ x ≤ 1000000) (w : World) (h : Nums w .i64 w.heap.size A k c t) (h' : Nums w .i64 w.heap.size A' k c' r) :
    Calls Try.prog 47 #[.int .i64 m, .int .i64 n, .slice A k c, .slice A' k c', .int .i64 b] w fun e w' => e = .returned (.bool (Rd.fits n k t r b)) ∧ Below w.heap.size w w' := by
  have hkk : k = m * n := HK.out
  have hn12 : n ≤ 12 := Nat.le_trans (by simpa using Nat.mul_le_mul_right n hm) hmn
  have hm12 : m ≤ 12 := Nat.le_trans (by simpa using Nat.mul_le_mul_left m hn) hmn
  have hk12 : k ≤ 12 := by rw [hkk]; exact hmn
  have htb : ∀ x ∈ t, 0 ≤ x ∧ x ≤ 2000000 := fun x hx => by have := hsm x hx; omega
  have hrm : ∀ x ∈ r, 0 ≤ x ∧ x ≤ 2000000 := fun x hx => by
    obtain ⟨j, hj, rfl⟩ := mem_getD hx
    have hj2 : j < k := by rw [← h'.len]; exact hj
    exact Rd.mult_bd (hsm _ (getD_mem ⟨rfl, by rw [h.len]; exact hj2⟩)) ⟨hb0, hb1⟩ (hin j hj2)
  have hdv : ∀ j, b ∣ r.getD j 0 := fun j => by
    rcases Nat.lt_or_ge j r.length with hj | hj
    · exact (Rd.of_mult hb0 (hin j (by rw [← h'.len]; exact hj))).1
    · rw [List.getD_eq_getElem?_getD, List.getElem?_eq_none hj]; exact Int.dvd_zero b
  have HTB := Lib.hid htb
  have HRB := Lib.hid hrm
  have HDV := Lib.hid hdv
  have HIN := Lib.hid hin
  have H := Lib.hid h
  have H' := Lib.hid h'
  have HF := Lib.hid ((congrArg (fun z => Rd.fits n z t r b) hkk).trans (Rd.fits_iff hn t r b))
  have HMN := Lib.hid hmn
  have HN1 := Lib.hid hn
  clear hkk htb hrm hdv hin h h' hmn hsm hm hn
  go_enter Try.func47, Try.ntmps47
  go_wp2_with fail
  go_loopw [11, 12, 13] (fun av sv iv wr => ∃ i : Nat, i ≤ m ∧ iv = .int .i64 i ∧ av = .int .i64 (Rd.tot r n i) ∧ sv = .int .i64 (Rd.tot t n i) ∧ Hid ((List.range i).all (fun q => Rd.near (Rd.seg t n q n) (Rd.seg r n q n) b) = true) ∧ ∃ mm, wr = w.drewN mm) (fun _ _ iv _ => m - (intOf iv).toNat)
  case atStart => exact ⟨0, by omega, rfl, rfl, rfl, Lib.hid rfl, 0, rfl⟩
  case round =>
    obtain ⟨i, hi, rfl, rfl, rfl, HI, mm, rfl⟩ := hrel
    have a1 := Rd.tot_bd2 HRB.out n i
    have a2 := Rd.tot_bd2 HTB.out n i
    have a3 : i * n ≤ 12 := Nat.le_trans (Nat.mul_le_mul_right n hi) HMN.out
    obtain ⟨f, hf⟩ : ∃ f, i * n = f := ⟨_, rfl⟩
    rw [hf] at a1 a2 a3
    by_cases hlt : i < m
    · have hfk : f + n ≤ k := by
        have := Nat.mul_le_mul_right n (show i + 1 ≤ m by omega)
        rw [Nat.add_mul, Nat.one_mul, hf] at this
        rw [HK.out]; omega
      have t1 : (i : Int) * (n : Int) = (f : Int) := by rw [← hf]; simp
      have HFE := Lib.hid hf
      obtain ⟨sa, hsa⟩ : ∃ z, Rd.tot r n i = z := ⟨_, rfl⟩
      obtain ⟨sb, hsb⟩ : ∃ z, Rd.tot t n i = z := ⟨_, rfl⟩
      rw [hsa] at a1 ⊢
      rw [hsb] at a2 ⊢
      have a1' : 0 ≤ sa ∧ sa ≤ 24000000 := by omega
      have a2' : 0 ≤ sb ∧ sb ≤ 24000000 := by omega
      have HTA := Lib.hid (show Rd.tot r n (i + 1) = sa + Rd.seg r n i n by rw [← hsa]; rfl)
      have HTS := Lib.hid (show Rd.tot t n (i + 1) = sb + Rd.seg t n i n by rw [← hsb]; rfl)
      clear hf hsa hsb a1 a2
      go_wp2_with fail
      go_loopw [14, 15, 16] (fun av bv kv wr => ∃ kk : Nat, kk ≤ n ∧ kv = .int .i64 kk ∧ av = .int .i64 (Rd.seg t n i kk) ∧ bv = .int .i64 (Rd.seg r n i kk) ∧ ∃ mm, wr = w.drewN mm) (fun _ _ kv _ => n - (intOf kv).toNat)
      case atStart => exact ⟨0, by omega, rfl, rfl, rfl, mm, rfl⟩
      case round =>
        obtain ⟨kk, hkk, rfl, rfl, rfl, mm, rfl⟩ := hrel
        have s1 := Rd.seg_bd2 HRB.out n i kk
        have s2 := Rd.seg_bd2 HTB.out n i kk
        by_cases hlt2 : kk < n
        · obtain ⟨e, he⟩ : ∃ e, f + kk = e := ⟨_, rfl⟩
          have heN : e < k := by omega
          obtain ⟨ad, x, had, _, HX, hx, _⟩ := H.out.val heN
          obtain ⟨ad', y, had', _, HY, hy, _⟩ := H'.out.val heN
          have hyr := HRB.out y (getD_mem HY.out)
          have hxr := HTB.out x (getD_mem HX.out)
          have HNM := Lib.hid (show Rd.nearM x y b = true by
            rw [Rd.nearM_mult hb0, ← HX.out.1, ← HY.out.1]
            exact decide_eq_true (HIN.out e heN))
          have t3 : (f : Int) + (kk : Int) = (e : Int) := by omega
          have HE1 := Lib.hid (show Rd.seg r n i (kk + 1) = Rd.seg r n i kk + y by simp only [Rd.seg]; rw [HFE.out, he, HY.out.1])
          have HE2 := Lib.hid (show Rd.seg t n i (kk + 1) = Rd.seg t n i kk + x by simp only [Rd.seg]; rw [HFE.out, he, HX.out.1])
          obtain ⟨sr, hsr⟩ : ∃ z, Rd.seg r n i kk = z := ⟨_, rfl⟩
          obtain ⟨st, hst⟩ : ∃ z, Rd.seg t n i kk = z := ⟨_, rfl⟩
          rw [hsr] at s1 HE1 ⊢
          rw [hst] at s2 HE2 ⊢
          have s1' : 0 ≤ sr ∧ sr ≤ 24000000 := by omega
          have s2' : 0 ≤ st ∧ st ≤ 24000000 := by omega
          have hx9 : -100000000 ≤ x ∧ x ≤ 100000000 := by omega
          have w1 := wrap_nat f (by omega)
          have w2 := wrap_nat e (by omega)
          have e1 : (0 : Int) ≤ (e : Int) := by omega
          have e2 : (e : Int) < (k : Int) := by omega
          subst had had'
          clear s1 s2 hsr hst he
          go_wp2_with fail
          go_quiet (exact (rnearQ x y b true HNM.out hx9 hb0 hb1 _).mono fun _ _ h => ⟨h.1, _, h.2⟩)
          go_wp2_with fail
          rw [World.drewN_drewN]
          generalize mm + nq = m2
          clear nq
          go_quiet (fail)
          go_wp2_with fail
          go_roundw
          case rel => exact ⟨kk + 1, by omega, by go_num, by rw [HE2.out], by rw [HE1.out], m2 + nq, rfl⟩
          case measure => simp [intOf]; omega
        · obtain rfl : n = kk := by omega
          obtain ⟨sr, hsr⟩ : ∃ z, Rd.seg r n i n = z := ⟨_, rfl⟩
          obtain ⟨st, hst⟩ : ∃ z, Rd.seg t n i n = z := ⟨_, rfl⟩
          have hds : b ∣ sr := by rw [← hsr]; exact Rd.seg_dvd HDV.out n i n
          have hse := Rd.nearM_dvd (s := st) hds
          rw [hsr] at s1 HTA ⊢
          rw [hst] at s2 HTS ⊢
          have s1' : 0 ≤ sr ∧ sr ≤ 24000000 := by omega
          have s2' : 0 ≤ st ∧ st ≤ 24000000 := by omega
          have hx9 : -100000000 ≤ st ∧ st ≤ 100000000 := by omega
          have HSE := Lib.hid (And.intro hsr hst)
          rcases hnr : Rd.near st sr b with _ | _
          · rw [hnr] at hse
            have HSF := Lib.hid hse
            have HFF := Lib.hid (show Rd.fits n k t r b = false by
              rw [HF.out, all_range_bad hlt (by rw [HSE.out.1, HSE.out.2]; exact hnr)]; rfl)
            clear hse hnr hds s1 s2 hsr hst
            go_wp2_with fail
            refine (rnearQ st sr b false HSF.out hx9 hb0 hb1 _).mono ?_; rintro e w1 ⟨rfl, rfl⟩
            go_wp2_with fail
            go_ret
            exact ⟨congrArg (fun b => Ending.returned (.bool b)) HFF.out.symm, below_drewN (Below.refl _ _) _⟩
          · rw [hnr] at hse
            have HSF := Lib.hid hse
            have HFT := Lib.hid (show (List.range (i + 1)).all (fun q => Rd.near (Rd.seg t n q n) (Rd.seg r n q n) b) = true by
              rw [all_range_succ, HI.out, HSE.out.1, HSE.out.2, hnr]; rfl)
            clear hse hnr hds s1 s2 hsr hst
            go_wp2_with fail
            refine (rnearQ st sr b true HSF.out hx9 hb0 hb1 _).mono ?_; rintro e w1 ⟨rfl, rfl⟩
            go_wp2_with fail
            go_roundw
            case rel => exact ⟨i + 1, by omega, by go_num, by rw [HTA.out], by rw [HTS.out], HFT, mm, rfl⟩
            case measure => simp [intOf]; omega
    · obtain rfl : m = i := by omega
      have HT1 := Lib.hid (And.intro a1 a2)
      have HF2 := Lib.hid hf
      clear hf a1 a2 hlt
      go_wp2_with fail
      go_loopw [17] (fun kv wr => ∃ kk : Nat, kk ≤ n ∧ kv = .int .i64 kk ∧ Hid ((List.range kk).all (fun j => Rd.near (Rd.cseg t n j m) (Rd.cseg r n j m) b) = true) ∧ ∃ mm, wr = w.drewN mm) (fun kv _ => n - (intOf kv).toNat)
      case atStart => exact ⟨0, by omega, rfl, Lib.hid rfl, mm, rfl⟩
      case round =>
        obtain ⟨kk, hkk, rfl, HJ, mm, rfl⟩ := hrel
        by_cases hlt : kk < n
        · go_wp2_with fail
          go_loopw [18, 19, 20] (fun av bv iv wr => ∃ i : Nat, i ≤ m ∧ iv = .int .i64 i ∧ av = .int .i64 (Rd.cseg t n kk i) ∧ bv = .int .i64 (Rd.cseg r n kk i) ∧ ∃ mm, wr = w.drewN mm) (fun _ _ iv _ => m - (intOf iv).toNat)
          case atStart => exact ⟨0, by omega, rfl, rfl, rfl, mm, rfl⟩
          case round =>
            obtain ⟨i, hi, rfl, rfl, rfl, mm, rfl⟩ := hrel
            have s1 := Rd.cseg_bd2 HRB.out n kk i
            have s2 := Rd.cseg_bd2 HTB.out n kk i
            by_cases hlt2 : i < m
            · obtain ⟨g, hg⟩ : ∃ g, i * n = g := ⟨_, rfl⟩
              have hgk : g + n ≤ k := by
                have := Nat.mul_le_mul_right n (show i + 1 ≤ m by omega)
                rw [Nat.add_mul, Nat.one_mul, hg] at this
                rw [HK.out]; omega
              have t1 : (i : Int) * (n : Int) = (g : Int) := by rw [← hg]; simp
              obtain ⟨e, he⟩ : ∃ e, g + kk = e := ⟨_, rfl⟩
              have heN : e < k := by omega
              obtain ⟨ad, x, had, _, HX, hx, _⟩ := H.out.val heN
              obtain ⟨ad', y, had', _, HY, hy, _⟩ := H'.out.val heN
              have hyr := HRB.out y (getD_mem HY.out)
              have hxr := HTB.out x (getD_mem HX.out)
              have t3 : (g : Int) + (kk : Int) = (e : Int) := by omega
              have HE1 := Lib.hid (show Rd.cseg r n kk (i + 1) = Rd.cseg r n kk i + y by simp only [Rd.cseg]; rw [hg, he, HY.out.1])
              have HE2 := Lib.hid (show Rd.cseg t n kk (i + 1) = Rd.cseg t n kk i + x by simp only [Rd.cseg]; rw [hg, he, HX.out.1])
              obtain ⟨sr, hsr⟩ : ∃ z, Rd.cseg r n kk i = z := ⟨_, rfl⟩
              obtain ⟨st, hst⟩ : ∃ z, Rd.cseg t n kk i = z := ⟨_, rfl⟩
              rw [hsr] at s1 HE1 ⊢
              rw [hst] at s2 HE2 ⊢
              have s1' : 0 ≤ sr ∧ sr ≤ 24000000 := by omega
              have s2' : 0 ≤ st ∧ st ≤ 24000000 := by omega
              have w1 := wrap_nat g (by omega)
              have w2 := wrap_nat e (by omega)
              have e1 : (0 : Int) ≤ (e : Int) := by omega
              have e2 : (e : Int) < (k : Int) := by omega
              subst had had'
              clear s1 s2 hsr hst he hg
              go_wp2_with fail
              go_quiet (fail)
              go_wp2_with fail
              go_roundw
              case rel => exact ⟨i + 1, by omega, by go_num, by rw [HE2.out], by rw [HE1.out], mm + nq, rfl⟩
              case measure => simp [intOf]; omega
            · obtain rfl : m = i := by omega
              obtain ⟨sr, hsr⟩ : ∃ z, Rd.cseg r n kk m = z := ⟨_, rfl⟩
              obtain ⟨st, hst⟩ : ∃ z, Rd.cseg t n kk m = z := ⟨_, rfl⟩
              have hds : b ∣ sr := by rw [← hsr]; exact Rd.cseg_dvd HDV.out n kk m
              have hse := Rd.nearM_dvd (s := st) hds
              rw [hsr] at s1 ⊢
              rw [hst] at s2 ⊢
              have s1' : 0 ≤ sr ∧ sr ≤ 24000000 := by omega
              have s2' : 0 ≤ st ∧ st ≤ 24000000 := by omega
              have hx9 : -100000000 ≤ st ∧ st ≤ 100000000 := by omega
              have HSE := Lib.hid (And.intro hsr hst)
              rcases hnr : Rd.near st sr b with _ | _
              · rw [hnr] at hse
                have HSF := Lib.hid hse
                have HFF := Lib.hid (show Rd.fits n k t r b = false by
                  rw [HF.out, HI.out, all_range_bad hlt (by rw [HSE.out.1, HSE.out.2]; exact hnr)]; rfl)
                clear hse hnr hds s1 s2 hsr hst
                go_wp2_with fail
                refine (rnearQ st sr b false HSF.out hx9 hb0 hb1 _).mono ?_; rintro e w1 ⟨rfl, rfl⟩
                go_wp2_with fail
                go_ret
                exact ⟨congrArg (fun b => Ending.returned (.bool b)) HFF.out.symm, below_drewN (Below.refl _ _) _⟩
              · rw [hnr] at hse
                have HSF := Lib.hid hse
                have HFT := Lib.hid (show (List.range (kk + 1)).all (fun j => Rd.near (Rd.cseg t n j m) (Rd.cseg r n j m) b) = true by
                  rw [all_range_succ, HJ.out, HSE.out.1, HSE.out.2, hnr]; rfl)
                clear hse hnr hds s1 s2 hsr hst
                go_wp2_with fail
                refine (rnearQ st sr b true HSF.out hx9 hb0 hb1 _).mono ?_; rintro e w1 ⟨rfl, rfl⟩
                go_wp2_with fail
                go_roundw
                case rel => exact ⟨kk + 1, by omega, by go_num, HFT, mm, rfl⟩
                case measure => simp [intOf]; omega
        · obtain rfl : n = kk := by omega
          have hds : b ∣ Rd.tot r n m := Rd.tot_dvd HDV.out n m
          have HSE := Lib.hid (show Rd.fits n k t r b = Rd.nearM (Rd.tot t n m) (Rd.tot r n m) b by rw [HF.out, HI.out, HJ.out, Rd.nearM_dvd hds]; rfl)
          have a1 := HT1.out.1
          have a2 := HT1.out.2
          obtain ⟨sr, hsr⟩ : ∃ z, Rd.tot r n m = z := ⟨_, rfl⟩
          obtain ⟨st, hst⟩ : ∃ z, Rd.tot t n m = z := ⟨_, rfl⟩
          rw [hsr] at a1 HSE ⊢
          rw [hst] at a2 HSE ⊢
          have hx9 : -100000000 ≤ st ∧ st ≤ 100000000 := by omega
          clear hds hsr hst a1 a2
          go_wp2_with fail
          refine (rnearQ st sr b _ rfl hx9 hb0 hb1 _).mono ?_; rintro e w1 ⟨rfl, rfl⟩
          go_wp2_with fail
          go_ret
          exact ⟨congrArg (fun b => Ending.returned (.bool b)) HSE.out.symm, below_drewN (Below.refl _ _) _⟩
end Go.Proofs.Ytgclljmchdlbeaa
