/- Rounding, the reference: Values; sums. -/
import Derived.Test.YtgclljmchdlbeaaQa
import Derived.Test.YtgclljmchdlbeaaNq
namespace Go.Proofs.Ytgclljmchdlbeaa
open Go.RowKit
set_option maxRecDepth 100000 in
set_option maxHeartbeats 1600000 in
theorem rvalues34 (A : Option Addr) (k c : Nat) (t : List Int) (hk : k ≤ 12) (hsm : ∀ x ∈ t, 0 ≤ x ∧ x ≤ 1000000) (b : Int) (hb0 : 1 ≤ b) (hb1 : b ≤ 20) (w : World) (h : Nums w .i64 w.heap.size A k c t) :
    Calls Try.prog 19 #[.slice A k c, .int .i64 b] w fun e w' => ∃ v, e = .returned (.tuple #[v, .int .i64 0]) ∧ OwnRows w' w.heap.size 22 3 .i64 v (t.map (Rd.mult · b)) ∧ Below w.heap.size w w' := by
  have H := Lib.hid h
  have HT := Lib.hid hsm
  have HL := Lib.hid h.len
  have HR := Lib.hid (show Rd.rng t b = 0 by
    unfold Rd.rng
    rw [if_neg]
    rintro (h | h | h)
    · omega
    · omega
    · obtain ⟨x, hx, ho⟩ := List.any_eq_true.1 h
      have := hsm x hx
      simp [Rd.out] at ho
      omega)
  have g0 : decide ((12 : Int) < (k : Int)) = false := decide_eq_false (by omega)
  clear h hsm
  go_enter Try.func19, Try.ntmps19
  go_wp2_with fail
  refine (rnum34 A k c t b _ w H.out).mono ?_; rintro e w1 ⟨rfl, rfl⟩
  rw [HR.out]
  go_wp2_with fail
  go_loopw [7, 22] (fun v iv wr => ∃ j : Nat, j ≤ k ∧ iv = .int .i64 j ∧ Hid (OwnRows wr w.heap.size 22 3 .i64 v ((t.take j).map (Rd.mult · b)) ∧ Below w.heap.size w wr)) (fun _ iv _ => k - (intOf iv).toNat)
  case atStart => exact ⟨0, by omega, rfl, OwnRows.nil _ _ _ _ _, Below.refl _ _⟩
  case round =>
    rename World => X
    obtain ⟨j, hj, rfl, HI⟩ := hrel
    by_cases hlt : j < k
    · obtain ⟨ad, x, rfl, _, HX, hx, _⟩ := (H.out.keep HI.out.2 HI.out.2.size).val hlt
      have hxm := HT.out x (getD_mem HX.out)
      have hbn : b ≠ 0 := by omega
      have hm0 := Int.emod_nonneg x hbn
      have hm1 := Int.emod_lt_of_pos x (show 0 < b by omega)
      have hdm := Int.mul_ediv_add_emod x b
      have hd0 := Int.ediv_nonneg hxm.1 (show 0 ≤ b by omega)
      have hd1 := Int.ediv_le_self b hxm.1
      have ht : x.tdiv b = x / b := Int.tdiv_eq_ediv_of_nonneg hxm.1
      obtain ⟨d, hd⟩ : ∃ d, x / b = d := ⟨_, rfl⟩
      obtain ⟨rr, hrr⟩ : ∃ z, x % b = z := ⟨_, rfl⟩
      rw [hd, hrr, Int.mul_comm] at hdm
      rw [hd] at hd0 hd1 ht
      rw [hrr] at hm0 hm1
      obtain ⟨z, hz⟩ : ∃ z, d * b = z := ⟨_, rfl⟩
      rw [hz] at hdm
      have hzb : 0 ≤ z ∧ z ≤ 1000000 := by
        have := Int.mul_nonneg hd0 (show 0 ≤ b by omega)
        rw [hz] at this
        omega
      have HLN := Lib.hid (show ((t.take j).map (Rd.mult · b)).length ≤ 12 by rw [List.length_map, List.length_take]; omega)
      by_cases h0 : rr = 0
      · have hzx : z = x := by omega
        subst hzx
        have HMU := Lib.hid (show Rd.mult z b = [z] by unfold Rd.mult; rw [if_pos (by rw [hrr]; exact h0)])
        have g1 : (z == z) = true := by simp
        clear hd hrr hdm h0 hm0 hm1
        have HTK := Lib.hid (show (t.take (j + 1)).map (Rd.mult · b) = (t.take j).map (Rd.mult · b) ++ [[z]] by rw [take_succ_getD t j HX.out.2, HX.out.1, List.map_append]; show _ ++ [Rd.mult _ b] = _; rw [HMU.out])
        obtain ⟨X1, hX1⟩ : ∃ X1, X.alloc (.cells #[.int .i64 z] 3 (0, 0)) = X1 := ⟨_, rfl⟩
        have hbx : Below X.heap.size X X1 := by rw [← hX1]; exact (Below.refl _ _).alloc (Nat.le_refl _) _
        have HL1 := Lib.hid (show Own X1 w.heap.size 3 .i64 (.slice (some ⟨X.heap.size, 0, none⟩) 1 1) [z] by rw [← hX1]; exact Own.lit (l := [z]) (heap_alloc_new _ _) HI.out.2.size (by simp))
        have HR1 := Lib.hid (HI.out.1.below hbx)
        have HB1 := Lib.hid (HI.out.2.trans (hbx.mono HI.out.2.size))
        clear hbx
        go_wp2_with (at_builtin; refine app_row _ rfl _ _ _ rfl w.heap.size 22 3 (by decide) 24 .i64 ints_info34 Try.underlying36 _ _ rfl (HR1.out.below (by exact (Below.refl _ _).alloc (Nat.le_refl _) _)) _ _ (HL1.out.alloc _) _ rfl (by simp [go_sem]) rfl (by have := HLN.out; simp only [maxLen]; omega) (by have := HLN.out; omega) (by have := HB1.out.size; simp; omega) ?_; intro v' w4 hown4 hgrow4; (have HO4 := Lib.hid hown4); (have HG4 := Lib.hid hgrow4); clear hown4 hgrow4)
        go_roundw
        case rel =>
          refine ⟨j + 1, by omega, by go_num, by rw [HTK.out]; exact HO4.out, ?_⟩
          exact (HR1.out.below (by exact (Below.refl _ _).alloc (Nat.le_refl _) _)).grow (HB1.out.alloc HB1.out.size _) HG4.out (by have := HB1.out.size; simp; omega) (Nat.le_refl _)
        case measure => simp [intOf]; omega
      · have HMU := Lib.hid (show Rd.mult x b = [z, z + b] by unfold Rd.mult; rw [if_neg (by rw [hrr]; exact h0), hrr, show x - rr = z by omega])
        have g1 : (z == x) = false := beq_false_of_ne (by omega)
        clear hd hrr hdm h0 hm0 hm1
        have HTK := Lib.hid (show (t.take (j + 1)).map (Rd.mult · b) = (t.take j).map (Rd.mult · b) ++ [[z, z + b]] by rw [take_succ_getD t j HX.out.2, HX.out.1, List.map_append]; show _ ++ [Rd.mult _ b] = _; rw [HMU.out])
        obtain ⟨X1, hX1⟩ : ∃ X1, X.alloc (.cells #[.int .i64 z, .int .i64 (z + b)] 3 (0, 0)) = X1 := ⟨_, rfl⟩
        have hbx : Below X.heap.size X X1 := by rw [← hX1]; exact (Below.refl _ _).alloc (Nat.le_refl _) _
        have HL1 := Lib.hid (show Own X1 w.heap.size 3 .i64 (.slice (some ⟨X.heap.size, 0, none⟩) 2 2) [z, z + b] by rw [← hX1]; exact Own.lit (l := [z, z + b]) (heap_alloc_new _ _) HI.out.2.size (by simp))
        have HR1 := Lib.hid (HI.out.1.below hbx)
        have HB1 := Lib.hid (HI.out.2.trans (hbx.mono HI.out.2.size))
        clear hbx
        go_wp2_with (at_builtin; refine app_row _ rfl _ _ _ rfl w.heap.size 22 3 (by decide) 24 .i64 ints_info34 Try.underlying36 _ _ rfl (HR1.out.below (by exact (Below.refl _ _).alloc (Nat.le_refl _) _)) _ _ (HL1.out.alloc _) _ rfl (by simp [go_sem]) rfl (by have := HLN.out; simp only [maxLen]; omega) (by have := HLN.out; omega) (by have := HB1.out.size; simp; omega) ?_; intro v' w4 hown4 hgrow4; (have HO4 := Lib.hid hown4); (have HG4 := Lib.hid hgrow4); clear hown4 hgrow4)
        go_roundw
        case rel =>
          refine ⟨j + 1, by omega, by go_num, by rw [HTK.out]; exact HO4.out, ?_⟩
          exact (HR1.out.below (by exact (Below.refl _ _).alloc (Nat.le_refl _) _)).grow (HB1.out.alloc HB1.out.size _) HG4.out (by have := HB1.out.size; simp; omega) (Nat.le_refl _)
        case measure => simp [intOf]; omega
    · obtain rfl : j = k := by omega
      go_wp2_with fail
      refine bodyPost_ret (v := .tuple #[u7, .int .i64 0]) (by simp [results, Try.results19, go_sem]) rfl ?_
      refine ⟨u7, rfl, ?_, HI.out.2⟩
      have := HI.out.1
      rwa [take_len HL.out] at this
theorem rvaluesG (A : Option Addr) (k c : Nat) (t : List Int) (b : Int) (w : World) (h : Nums w .i64 w.heap.size A k c t) :
    Calls Try.prog 19 #[.slice A k c, .int .i64 b] w fun e w' => ∃ v, e = .returned (.tuple #[v, .int .i64 (Rd.errV t b)]) ∧ OwnRows w' w.heap.size 22 3 .i64 v (Rd.vals t b) ∧ Below w.heap.size w w' := by
  have hl := h.len
  by_cases h1 : 12 < k
  · have HE := Lib.hid (show Rd.errV t b = 17 ∧ Rd.vals t b = [] by unfold Rd.errV Rd.vals; rw [hl, if_pos h1, if_pos h1]; exact ⟨rfl, rfl⟩)
    have g1 : decide ((12 : Int) < (k : Int)) = true := decide_eq_true (by omega)
    clear hl
    go_enter Try.func19, Try.ntmps19
    go_wp2_with fail
    refine bodyPost_ret (v := .tuple #[.slice none 0 0, .int .i64 17]) (by simp [results, Try.results19, go_sem]) rfl ?_
    exact ⟨.slice none 0 0, by rw [HE.out.1], by rw [HE.out.2]; exact OwnRows.nil _ _ _ _ _, Below.refl _ _⟩
  · by_cases h2 : Rd.rng t b = 0
    · obtain ⟨hb0, hb1, hsm⟩ := Rd.rng_ok h2
      refine (rvalues34 A k c t (by omega) hsm b hb0 hb1 w h).mono ?_
      rintro e w' ⟨v, rfl, hv, hb⟩
      have e1 : Rd.errV t b = 0 ∧ Rd.vals t b = t.map (Rd.mult · b) := by unfold Rd.errV Rd.vals; rw [hl, if_neg h1, if_neg h1, if_pos h2]; exact ⟨h2, rfl⟩
      exact ⟨v, by rw [e1.1], by rw [e1.2]; exact hv, hb⟩
    · have HE := Lib.hid (show Rd.errV t b = Rd.rng t b ∧ Rd.vals t b = [] by unfold Rd.errV Rd.vals; rw [hl, if_neg h1, if_neg h1, if_neg h2]; exact ⟨rfl, rfl⟩)
      have g1 : decide ((12 : Int) < (k : Int)) = false := decide_eq_false (by omega)
      obtain ⟨q, hq⟩ : ∃ q, Rd.rng t b = q := ⟨_, rfl⟩
      have g2 : (q != 0) = true := by rw [← hq]; simpa using h2
      have HQ := Lib.hid hq
      have H := Lib.hid h
      clear hl h2 hq h
      go_enter Try.func19, Try.ntmps19
      go_wp2_with fail
      refine (rnum34 A k c t b _ w H.out).mono ?_; rintro e w1 ⟨rfl, rfl⟩
      rw [HQ.out]
      go_wp2_with fail
      refine bodyPost_ret (v := .tuple #[.slice none 0 0, .int .i64 q]) (by simp [results, Try.results19, go_sem]) rfl ?_
      exact ⟨.slice none 0 0, by rw [HE.out.1, HQ.out], by rw [HE.out.2]; exact OwnRows.nil _ _ _ _ _, Below.refl _ _⟩
/-- the first i numbers of column j -/
def Rd.cseg (t : List Int) (n j : Nat) : Nat → Int
  | 0 => 0
  | i + 1 => Rd.cseg t n j i + t.getD (i * n + j) 0
/-- the sum of the first i rows -/
def Rd.tot (t : List Int) (n : Nat) : Nat → Int
  | 0 => 0
  | i + 1 => Rd.tot t n i + Rd.seg t n i n
theorem Rd.all_tot (t : List Int) (n : Nat) : ∀ i, Rd.all t (i * n) = Rd.tot t n i
  | 0 => by simp [Rd.all, Rd.tot]
  | i + 1 => by
    have h : ∀ j, Rd.all t (i * n + j) = Rd.all t (i * n) + Rd.seg t n i j := by
      intro j
      induction j with
      | zero => simp [Rd.seg]
      | succ j ih =>
        rw [show i * n + (j + 1) = i * n + j + 1 by omega]
        simp only [Rd.all, Rd.seg, ih]
        omega
    rw [Nat.add_mul, Nat.one_mul, h, Rd.all_tot t n i]
    rfl
theorem Rd.col_cseg (t : List Int) (n j : Nat) (hj : j < n) : ∀ i, Rd.col t n j (i * n) = Rd.cseg t n j i
  | 0 => by simp [Rd.col, Rd.cseg]
  | i + 1 => by
    have h : ∀ q, q ≤ n → Rd.col t n j (i * n + q) = Rd.col t n j (i * n) + if j < q then t.getD (i * n + j) 0 else 0 := by
      intro q
      induction q with
      | zero => simp
      | succ q ih =>
        intro hq
        have e1 : (i * n + q) % n = q := by rw [Nat.mul_comm, Nat.mul_add_mod]; exact Nat.mod_eq_of_lt (by omega)
        rw [show i * n + (q + 1) = i * n + q + 1 by omega]
        simp only [Rd.col]
        rw [ih (by omega), e1]
        by_cases h1 : q = j
        · subst h1
          rw [if_pos rfl, if_neg (Nat.lt_irrefl q), if_pos (Nat.lt_succ_self q)]; omega
        · by_cases h2 : j < q
          · rw [if_neg h1, if_pos h2, if_pos (by omega)]; omega
          · rw [if_neg h1, if_neg h2, if_neg (by omega)]; omega
    rw [Nat.add_mul, Nat.one_mul, h n (Nat.le_refl _), if_pos hj, Rd.col_cseg t n j hj i]
    rfl
theorem Rd.fits_iff {m n : Nat} (hn : 1 ≤ n) (t r : List Int) (b : Int) : Rd.fits n (m * n) t r b = ((List.range m).all (fun q => Rd.near (Rd.seg t n q n) (Rd.seg r n q n) b) && (List.range n).all (fun j => Rd.near (Rd.cseg t n j m) (Rd.cseg r n j m) b) && Rd.near (Rd.tot t n m) (Rd.tot r n m) b) := by
  unfold Rd.fits
  rw [Rd.all_tot, Rd.all_tot]
  have e1 : ((List.range n).all fun j => Rd.near (Rd.col t n j (m * n)) (Rd.col r n j (m * n)) b) = (List.range n).all (fun j => Rd.near (Rd.cseg t n j m) (Rd.cseg r n j m) b) := by
    rw [Bool.eq_iff_iff]
    simp only [List.all_eq_true, List.mem_range]
    exact ⟨fun h j hj => by have := h j hj; rwa [Rd.col_cseg t n j hj, Rd.col_cseg r n j hj] at this, fun h j hj => by rw [Rd.col_cseg t n j hj, Rd.col_cseg r n j hj]; exact h j hj⟩
  have e2 : ((List.range (m * n)).all fun i => Rd.okRow t r n b i) = (List.range m).all (fun q => Rd.near (Rd.seg t n q n) (Rd.seg r n q n) b) := by
    rw [Bool.eq_iff_iff]
    simp only [List.all_eq_true, List.mem_range]
    obtain ⟨d, rfl⟩ : ∃ d, n = d + 1 := ⟨n - 1, by omega⟩
    constructor
    · intro h q hq
      have hlt : q * (d + 1) + d < m * (d + 1) := by
        have := Nat.mul_le_mul_right (d + 1) (show q + 1 ≤ m by omega)
        rw [Nat.add_mul] at this; omega
      have h1 := h _ hlt
      unfold Rd.okRow at h1
      have e1 : (q * (d + 1) + d + 1) % (d + 1) = 0 := by
        rw [show q * (d + 1) + d + 1 = (q + 1) * (d + 1) by rw [Nat.add_mul]; omega]
        exact Nat.mul_mod_left _ _
      rw [e1, Rd.row_seg t _ q d (by omega), Rd.row_seg r _ q d (by omega)] at h1
      simpa using h1
    · intro h i hi
      unfold Rd.okRow
      by_cases h1 : (i + 1) % (d + 1) = 0
      · have hq : i / (d + 1) < m := Nat.div_lt_of_lt_mul (by rw [Nat.mul_comm]; exact hi)
        have h2 := Nat.div_add_mod i (d + 1)
        have h3 := Nat.mod_lt i (show 0 < d + 1 by omega)
        have h4 := Rd.last_iff (i := i) (n := d + 1) (q := i % (d + 1)) (by omega) rfl
        have h5 : i % (d + 1) = d := by have := h4.1 h1; omega
        have e3 : i = i / (d + 1) * (d + 1) + d := by rw [Nat.mul_comm]; omega
        have h6 := h _ hq
        have h7 := Rd.row_seg t (d + 1) (i / (d + 1)) d (by omega)
        have h8 := Rd.row_seg r (d + 1) (i / (d + 1)) d (by omega)
        rw [← e3] at h7 h8
        rw [h7, h8, h6]; simp
      · simp [h1]
  rw [e1, e2]
end Go.Proofs.Ytgclljmchdlbeaa
