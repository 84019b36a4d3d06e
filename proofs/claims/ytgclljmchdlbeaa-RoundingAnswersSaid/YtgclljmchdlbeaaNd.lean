/- Rounding: sums. -/
import Derived.Test.YtgclljmchdlbeaaNc
import Derived.StillTailTactics
namespace Go.Proofs.Ytgclljmchdlbeaa
open Go.RowKit
def Rd.row (t : List Int) (n : Nat) : Nat → Int
  | 0 => 0
  | i + 1 => (if i % n = 0 then 0 else Rd.row t n i) + t.getD i 0
def Rd.all (t : List Int) : Nat → Int
  | 0 => 0
  | i + 1 => Rd.all t i + t.getD i 0
def Rd.col (t : List Int) (n j : Nat) : Nat → Int
  | 0 => 0
  | i + 1 => Rd.col t n j i + (if i % n = j then t.getD i 0 else 0)
def Rd.cols (t : List Int) (n i : Nat) : List Int := (List.range 12).map fun j => Rd.col t n j i
def Rd.Sm (t : List Int) : Prop := ∀ j, -2000000 ≤ t.getD j 0 ∧ t.getD j 0 ≤ 2000000
theorem Rd.row_bd {t : List Int} (h : Rd.Sm t) (n : Nat) : ∀ i : Nat, -((i : Int) * 2000000) ≤ Rd.row t n i ∧ Rd.row t n i ≤ (i : Int) * 2000000
  | 0 => by simp [Rd.row]
  | i + 1 => by
    have h1 := Rd.row_bd h n i
    have h2 := h i
    simp only [Rd.row]
    split <;> omega
theorem Rd.all_bd {t : List Int} (h : Rd.Sm t) : ∀ i : Nat, -((i : Int) * 2000000) ≤ Rd.all t i ∧ Rd.all t i ≤ (i : Int) * 2000000
  | 0 => by simp [Rd.all]
  | i + 1 => by
    have h1 := Rd.all_bd h i
    have h2 := h i
    simp only [Rd.all]
    omega
theorem Rd.col_bd {t : List Int} (h : Rd.Sm t) (n j : Nat) : ∀ i : Nat, -((i : Int) * 2000000) ≤ Rd.col t n j i ∧ Rd.col t n j i ≤ (i : Int) * 2000000
  | 0 => by simp [Rd.col]
  | i + 1 => by
    have h1 := Rd.col_bd h n j i
    have h2 := h i
    simp only [Rd.col]
    split <;> omega
theorem Rd.cols_len (t : List Int) (n i : Nat) : (Rd.cols t n i).length = 12 := by simp [Rd.cols]
theorem Rd.cols_get (t : List Int) (n i : Nat) {j : Nat} (hj : j < 12) : (Rd.cols t n i).getD j 0 = Rd.col t n j i := by simp [Rd.cols, List.getD, hj]
theorem Rd.cols_zero (t : List Int) (n : Nat) : Rd.cols t n 0 = List.replicate 12 0 := by simp [Rd.cols, Rd.col, List.range_succ]
theorem Rd.cols_set (t : List Int) (n i : Nat) {q : Nat} (hq : i % n = q) : (Rd.cols t n i).set q (Rd.col t n q i + t.getD i 0) = Rd.cols t n (i + 1) := by
  apply List.ext_getElem?
  intro j
  rw [List.getElem?_set]
  unfold Rd.cols
  by_cases hj : j < 12
  · by_cases e : q = j
    · subst e
      simp [hj, Rd.col, hq]
    · simp [hj, e, Rd.col, hq]
  · simp [hj]
    omega
/-- do the sums of rows that have ended round the others'? -/
def Rd.okRow (t r : List Int) (n : Nat) (b : Int) (i : Nat) : Bool := decide ((i + 1) % n ≠ 0) || Rd.near (Rd.row t n (i + 1)) (Rd.row r n (i + 1)) b
def Rd.fits (n k : Nat) (t r : List Int) (b : Int) : Bool := ((List.range k).all fun i => Rd.okRow t r n b i) && ((List.range n).all fun j => Rd.near (Rd.col t n j k) (Rd.col r n j k) b) && Rd.near (Rd.all t k) (Rd.all r k) b
theorem Rd.last_iff {i n q : Nat} (hn : 1 ≤ n) (hq : i % n = q) : (i + 1) % n = 0 ↔ q + 1 = n := by
  have h1 := Nat.mod_lt i (show 0 < n by omega)
  have h2 := Nat.div_add_mod i n
  rw [hq] at h1 h2
  rw [show i + 1 = q + 1 + n * (i / n) by omega, Nat.add_mul_mod_self_left]
  constructor
  · intro h
    rcases Nat.lt_or_ge (q + 1) n with h3 | h3
    · rw [Nat.mod_eq_of_lt h3] at h; omega
    · omega
  · intro h; rw [h]; simp
theorem all_range_succ {p : Nat → Bool} {j : Nat} : (List.range (j + 1)).all p = ((List.range j).all p && p j) := by
  rw [List.range_succ, List.all_append]; simp
theorem all_range_bad {p : Nat → Bool} {j k : Nat} (h : j < k) (hp : p j = false) : (List.range k).all p = false := by
  cases e : (List.range k).all p with
  | false => rfl
  | true =>
    have := List.all_eq_true.1 e j (List.mem_range.2 h)
    rw [hp] at this; cases this
set_option maxRecDepth 100000 in
set_option maxHeartbeats 3200000 in
theorem fit34 (n : Nat) (hn1 : 1 ≤ n) (hn2 : n ≤ 12) (A A' : Option Addr) (k : Nat) (hk : k ≤ 12) (c c' : Nat) (t r : List Int) (ht : Rd.Sm t) (hr : Rd.Sm r) (b : Int) (B : Nat) (w : World) (h : Nums w .i64 B A k c t) (h' : Nums w .i64 B A' k c' r) (hB : B ≤ w.heap.size) : Calls Try.prog 41 #[.int .i64 n, .slice A k c, .slice A' k c', .int .i64 b] w fun e w' => e = .returned (.bool (Rd.fits n k t r b)) ∧ Below w.heap.size w w' := by
  obtain ⟨W1, hW1⟩ : ∃ W1 : World, w.alloc (.cells #[.int .i64 0, .int .i64 0, .int .i64 0, .int .i64 0, .int .i64 0, .int .i64 0, .int .i64 0, .int .i64 0, .int .i64 0, .int .i64 0, .int .i64 0, .int .i64 0] 88) = W1 := ⟨_, rfl⟩
  have hw1 : w.heap.size + 1 = W1.heap.size := by rw [← hW1]; simp
  obtain ⟨W2, hW2⟩ : ∃ W2 : World, W1.alloc (.cells #[.int .i64 0, .int .i64 0, .int .i64 0, .int .i64 0, .int .i64 0, .int .i64 0, .int .i64 0, .int .i64 0, .int .i64 0, .int .i64 0, .int .i64 0, .int .i64 0] 88) = W2 := ⟨_, rfl⟩
  have hb1 : Below w.heap.size w W1 := by rw [← hW1]; exact (Below.refl _ _).alloc (Nat.le_refl _) _
  have hb2 : Below W1.heap.size W1 W2 := by rw [← hW2]; exact (Below.refl _ _).alloc (Nat.le_refl _) _
  have o1 : Own W1 w.heap.size 88 .i64 (.slice (some ⟨w.heap.size, 0, none⟩) 12 12) (Rd.cols t n 0) := by
    rw [Rd.cols_zero, ← hW1]; exact Own.lit (l := List.replicate 12 0) (heap_alloc_new _ _) (Nat.le_refl _) (by simp)
  have o2 : Own W2 w.heap.size 88 .i64 (.slice (some ⟨W1.heap.size, 0, none⟩) 12 12) (Rd.cols r n 0) := by
    rw [Rd.cols_zero, ← hW2]; exact Own.lit (l := List.replicate 12 0) (heap_alloc_new _ _) hb1.size (by simp)
  have H1 := Lib.hid (o1.below hb2)
  have H2 := Lib.hid o2
  have HB := Lib.hid (hb1.trans (hb2.mono hb1.size))
  have HT := Lib.hid h
  have HR := Lib.hid h'
  have HBB := Lib.hid hB
  have HTS := Lib.hid ht
  have HRS := Lib.hid hr
  have HNE := Lib.hid (show w.heap.size ≠ W1.heap.size by omega)
  clear h h' hb1 hb2 o1 o2 hB ht hr
  go_enter Try.func41, Try.ntmps41
  go_wp2_with fail
  clear hW1 hW2 hw1
  go_loopw [11, 12, 13, 14, 21] (fun rv ov av tv iv wr => ∃ i : Nat, iv = .int .i64 i ∧ i ≤ k ∧ rv = .int .i64 (Rd.row t n i) ∧ ov = .int .i64 (Rd.row r n i) ∧ av = .int .i64 (Rd.all t i) ∧ tv = .int .i64 (Rd.all r i) ∧ Hid ((List.range i).all (Rd.okRow t r n b) = true) ∧ Hid (Own wr w.heap.size 88 .i64 (.slice (some ⟨w.heap.size, 0, none⟩) 12 12) (Rd.cols t n i) ∧ Own wr w.heap.size 88 .i64 (.slice (some ⟨W1.heap.size, 0, none⟩) 12 12) (Rd.cols r n i) ∧ Below w.heap.size w wr)) (fun _ _ _ _ iv _ => k - (intOf iv).toNat)
  case atStart => exact ⟨0, rfl, by omega, rfl, rfl, rfl, rfl, (by simp : (List.range 0).all (Rd.okRow t r n b) = true), H1.out, H2.out, HB.out⟩
  case round =>
    rename World => Z
    obtain ⟨i, rfl, hi, rfl, rfl, rfl, rfl, HOK, HI⟩ := hrel
    have b1 := Rd.row_bd HTS.out n i
    have b2 := Rd.row_bd HRS.out n i
    have b3 := Rd.all_bd HTS.out i
    have b4 := Rd.all_bd HRS.out i
    by_cases hlt : i < k
    · obtain ⟨ad, x, rfl, _, HX, cx, _⟩ := (HT.out.keep (HI.out.2.2.mono HBB.out) HBB.out).val hlt
      obtain ⟨ad', y, rfl, _, HY, cy, _⟩ := (HR.out.keep (HI.out.2.2.mono HBB.out) HBB.out).val hlt
      obtain ⟨q, hq⟩ : ∃ q : Nat, i % n = q := ⟨_, rfl⟩
      have hqn : q < n := by rw [← hq]; exact Nat.mod_lt _ (by omega)
      have htm : (i : Int).tmod (n : Int) = (q : Int) := by rw [Int.tmod_eq_emod_of_nonneg (by omega), ← hq]; rfl
      have hn0 : (n : Int) ≠ 0 := by omega
      have sx := HTS.out i
      have sy := HRS.out i
      rw [HX.out.1] at sx
      rw [HY.out.1] at sy
      have b5 := Rd.col_bd HTS.out n q i
      have b6 := Rd.col_bd HRS.out n q i
      have ea1 := Lib.hid (show Rd.all t (i + 1) = Rd.all t i + x by simp only [Rd.all]; rw [HX.out.1])
      have ea2 := Lib.hid (show Rd.all r (i + 1) = Rd.all r i + y by simp only [Rd.all]; rw [HY.out.1])
      have er1 := Lib.hid (show Rd.row t n (i + 1) = (if q = 0 then 0 else Rd.row t n i) + x by simp only [Rd.row]; rw [HX.out.1, hq])
      have er2 := Lib.hid (show Rd.row r n (i + 1) = (if q = 0 then 0 else Rd.row r n i) + y by simp only [Rd.row]; rw [HY.out.1, hq])
      have HLI := Lib.hid (Rd.last_iff hn1 hq)
      have HLT := Lib.hid hlt
      have HBAD := Lib.hid (show Rd.okRow t r n b i = false → Rd.fits n k t r b = false from fun h9 => by unfold Rd.fits; rw [all_range_bad hlt h9]; rfl)
      have HNX := Lib.hid (show Rd.okRow t r n b i = true → (List.range (i + 1)).all (Rd.okRow t r n b) = true from fun h9 => by rw [all_range_succ, HOK.out, h9]; rfl)
      have i1 : (0 : Int) ≤ (i : Int) := by omega
      have i2 : (i : Int) < (k : Int) := by omega
      have i3 : (0 : Int) ≤ (q : Int) := by omega
      have i4 : (q : Int) < 12 := by omega
      generalize Rd.all t i = a1 at *
      generalize Rd.all r i = a2 at *
      generalize Rd.row t n i = r1 at *
      generalize Rd.row r n i = r2 at *
      have HQ := Lib.hid hq
      have HQN := Lib.hid hqn
      clear hq hqn
      by_cases h0 : q = 0
      · by_cases h1 : q + 1 = n
        · have g1 : ((q : Int) == 0) = true := by simp [h0]
          have HR1 := Lib.hid (show Rd.row t n (i + 1) = x by rw [er1.out]; rw [if_pos h0, Int.zero_add])
          have HR2 := Lib.hid (show Rd.row r n (i + 1) = y by rw [er2.out]; rw [if_pos h0, Int.zero_add])
          have g2 : ((q : Int) == (n : Int) - 1) = true := by simp; omega
          have HON := Lib.hid (show Rd.okRow t r n b i = Rd.near x y b by unfold Rd.okRow; rw [HLI.out.2 h1, HR1.out, HR2.out]; simp)
          clear h0 h1
          go_wp2_with fail
          go_quiet (fail)
          go_wp2_with fail
          go_quiet (fail)
          generalize hZd : (Z.drewN _).drewN _ = Zd
          have HJ := Lib.hid (show Own Zd w.heap.size 88 .i64 (.slice (some ⟨w.heap.size, 0, none⟩) 12 12) (Rd.cols t n i) ∧ Own Zd w.heap.size 88 .i64 (.slice (some ⟨W1.heap.size, 0, none⟩) 12 12) (Rd.cols r n i) ∧ Below w.heap.size w Zd from by rw [← hZd]; exact ⟨(HI.out.1.drewN _).drewN _, (HI.out.2.1.drewN _).drewN _, below_drewN (below_drewN HI.out.2.2 _) _⟩)
          have hqn := HQN.out
          have c1 : Zd.cell? ⟨w.heap.size, q, none⟩ = some (.int .i64 (Rd.col t n q i)) := by rw [HJ.out.1.cell (by rw [Rd.cols_len]; omega), Rd.cols_get _ _ _ (by omega)]
          have c2 : Zd.cell? ⟨W1.heap.size, q, none⟩ = some (.int .i64 (Rd.col r n q i)) := by rw [HJ.out.2.1.cell (by rw [Rd.cols_len]; omega), Rd.cols_get _ _ _ (by omega)]
          have f1 := HJ.out.1.thaw q
          have s1 := HJ.out.1.store q (Rd.col t n q i + x)
          rw [show (Rd.cols t n i).set q (Rd.col t n q i + x) = Rd.cols t n (i + 1) by rw [← HX.out.1]; exact Rd.cols_set t n i HQ.out] at s1
          obtain ⟨Z2, hZ2⟩ : ∃ Z2 : World, Zd.setCell ⟨w.heap.size, q, none⟩ (.int .i64 (Rd.col t n q i + x)) = Z2 := ⟨_, rfl⟩
          rw [hZ2] at s1
          have o2 : Own Z2 w.heap.size 88 .i64 (.slice (some ⟨W1.heap.size, 0, none⟩) 12 12) (Rd.cols r n i) := HJ.out.2.1.kept s1.2 (.inr (by simp only [Value.ownBlock]; intro e; injection e with e; exact HNE.out e.symm))
          have z2b : Below w.heap.size w Z2 := HJ.out.2.2.grown s1.2 HJ.out.2.2.size (fun k hk => by injection hk with hk; omega)
          have c3 : Z2.cell? ⟨W1.heap.size, q, none⟩ = some (.int .i64 (Rd.col r n q i)) := by rw [o2.cell (by rw [Rd.cols_len]; omega), Rd.cols_get _ _ _ (by omega)]
          have f2 := o2.thaw q
          have cy2 : Z2.cell? (ad'.add i) = some (.int .i64 y) := by
            obtain ⟨ad9, x9, e9, _, HX9, cx9, _⟩ := (HR.out.keep (z2b.mono HBB.out) HBB.out).val HLT.out
            injection e9 with e9
            subst e9
            rw [cx9, ← HX9.out.1, HY.out.1]
          have s2 := (o2.drewN 1).store q (Rd.col r n q i + y)
          rw [show (Rd.cols r n i).set q (Rd.col r n q i + y) = Rd.cols r n (i + 1) by rw [← HY.out.1]; exact Rd.cols_set r n i HQ.out] at s2
          have o1 : Own ((Z2.drewN 1).setCell ⟨W1.heap.size, q, none⟩ (.int .i64 (Rd.col r n q i + y))) w.heap.size 88 .i64 (.slice (some ⟨w.heap.size, 0, none⟩) 12 12) (Rd.cols t n (i + 1)) := (s1.1.drewN 1).kept s2.2 (.inr (by simp only [Value.ownBlock]; intro e; injection e with e; exact HNE.out e))
          have HS := Lib.hid (And.intro o1 (And.intro s2.1 (show Below w.heap.size w _ from (below_drewN z2b 1).grown s2.2 z2b.size (fun k hk => by injection hk with hk; have := o2.head.2.1; omega))))
          generalize Rd.col t n q i = k1 at *
          generalize Rd.col r n q i = k2 at *
          clear s1 s2 o1 o2 z2b c2 hqn hZd cx cy
          go_wp2_with fail
          try rw [hZ2]
          clear hZ2
          refine wp_region_still_tail 9 (by kernel_rfl) (by kernel_rfl) ?_
          simp only [List.take_succ_cons, List.take_zero, List.drop_succ_cons, List.drop_zero]
          repeat still_step
          refine wpStill_nil ?_
          show wpList _ _ _ _ _ (Z2.drewN 1)
          go_wp2_with fail
          refine (near34 x y b _ (by omega) (by omega)).mono ?_; rintro e w9 ⟨rfl, rfl⟩
          rcases hne : Rd.near x y b with _ | _
          · have HF := Lib.hid (HBAD.out (HON.out.trans hne))
            go_wp2_with fail
            go_ret
            exact ⟨congrArg (fun b => Ending.returned (.bool b)) HF.out.symm, HS.out.2.2⟩
          · have HF := Lib.hid (HNX.out (HON.out.trans hne))
            clear hne
            go_wp2_with fail
            go_roundw
            case rel => exact ⟨i + 1, by go_num, by omega, by rw [HR1.out], by rw [HR2.out], by rw [ea1.out], by rw [ea2.out], HF.out, HS.out⟩
            case measure => simp [intOf]; omega
        · have g1 : ((q : Int) == 0) = true := by simp [h0]
          have HR1 := Lib.hid (show Rd.row t n (i + 1) = x by rw [er1.out]; rw [if_pos h0, Int.zero_add])
          have HR2 := Lib.hid (show Rd.row r n (i + 1) = y by rw [er2.out]; rw [if_pos h0, Int.zero_add])
          have g2 : ((q : Int) == (n : Int) - 1) = false := beq_false_of_ne (by omega)
          have HON := Lib.hid (show Rd.okRow t r n b i = true by unfold Rd.okRow; have : (i + 1) % n ≠ 0 := fun e => h1 (HLI.out.1 e); simp [this])
          clear h0 h1
          go_wp2_with fail
          go_quiet (fail)
          go_wp2_with fail
          go_quiet (fail)
          generalize hZd : (Z.drewN _).drewN _ = Zd
          have HJ := Lib.hid (show Own Zd w.heap.size 88 .i64 (.slice (some ⟨w.heap.size, 0, none⟩) 12 12) (Rd.cols t n i) ∧ Own Zd w.heap.size 88 .i64 (.slice (some ⟨W1.heap.size, 0, none⟩) 12 12) (Rd.cols r n i) ∧ Below w.heap.size w Zd from by rw [← hZd]; exact ⟨(HI.out.1.drewN _).drewN _, (HI.out.2.1.drewN _).drewN _, below_drewN (below_drewN HI.out.2.2 _) _⟩)
          have hqn := HQN.out
          have c1 : Zd.cell? ⟨w.heap.size, q, none⟩ = some (.int .i64 (Rd.col t n q i)) := by rw [HJ.out.1.cell (by rw [Rd.cols_len]; omega), Rd.cols_get _ _ _ (by omega)]
          have c2 : Zd.cell? ⟨W1.heap.size, q, none⟩ = some (.int .i64 (Rd.col r n q i)) := by rw [HJ.out.2.1.cell (by rw [Rd.cols_len]; omega), Rd.cols_get _ _ _ (by omega)]
          have f1 := HJ.out.1.thaw q
          have s1 := HJ.out.1.store q (Rd.col t n q i + x)
          rw [show (Rd.cols t n i).set q (Rd.col t n q i + x) = Rd.cols t n (i + 1) by rw [← HX.out.1]; exact Rd.cols_set t n i HQ.out] at s1
          obtain ⟨Z2, hZ2⟩ : ∃ Z2 : World, Zd.setCell ⟨w.heap.size, q, none⟩ (.int .i64 (Rd.col t n q i + x)) = Z2 := ⟨_, rfl⟩
          rw [hZ2] at s1
          have o2 : Own Z2 w.heap.size 88 .i64 (.slice (some ⟨W1.heap.size, 0, none⟩) 12 12) (Rd.cols r n i) := HJ.out.2.1.kept s1.2 (.inr (by simp only [Value.ownBlock]; intro e; injection e with e; exact HNE.out e.symm))
          have z2b : Below w.heap.size w Z2 := HJ.out.2.2.grown s1.2 HJ.out.2.2.size (fun k hk => by injection hk with hk; omega)
          have c3 : Z2.cell? ⟨W1.heap.size, q, none⟩ = some (.int .i64 (Rd.col r n q i)) := by rw [o2.cell (by rw [Rd.cols_len]; omega), Rd.cols_get _ _ _ (by omega)]
          have f2 := o2.thaw q
          have cy2 : Z2.cell? (ad'.add i) = some (.int .i64 y) := by
            obtain ⟨ad9, x9, e9, _, HX9, cx9, _⟩ := (HR.out.keep (z2b.mono HBB.out) HBB.out).val HLT.out
            injection e9 with e9
            subst e9
            rw [cx9, ← HX9.out.1, HY.out.1]
          have s2 := (o2.drewN 1).store q (Rd.col r n q i + y)
          rw [show (Rd.cols r n i).set q (Rd.col r n q i + y) = Rd.cols r n (i + 1) by rw [← HY.out.1]; exact Rd.cols_set r n i HQ.out] at s2
          have o1 : Own ((Z2.drewN 1).setCell ⟨W1.heap.size, q, none⟩ (.int .i64 (Rd.col r n q i + y))) w.heap.size 88 .i64 (.slice (some ⟨w.heap.size, 0, none⟩) 12 12) (Rd.cols t n (i + 1)) := (s1.1.drewN 1).kept s2.2 (.inr (by simp only [Value.ownBlock]; intro e; injection e with e; exact HNE.out e))
          have HS := Lib.hid (And.intro o1 (And.intro s2.1 (show Below w.heap.size w _ from (below_drewN z2b 1).grown s2.2 z2b.size (fun k hk => by injection hk with hk; have := o2.head.2.1; omega))))
          generalize Rd.col t n q i = k1 at *
          generalize Rd.col r n q i = k2 at *
          clear s1 s2 o1 o2 z2b c2 hqn hZd cx cy
          go_wp2_with fail
          try rw [hZ2]
          clear hZ2
          refine wp_region_still_tail 9 (by kernel_rfl) (by kernel_rfl) ?_
          simp only [List.take_succ_cons, List.take_zero, List.drop_succ_cons, List.drop_zero]
          repeat still_step
          refine wpStill_nil ?_
          show wpList _ _ _ _ _ (Z2.drewN 1)
          go_wp2_with fail
          have HF := Lib.hid (HNX.out HON.out)
          go_wp2_with fail
          go_roundw
          case rel => exact ⟨i + 1, by go_num, by omega, by rw [HR1.out], by rw [HR2.out], by rw [ea1.out], by rw [ea2.out], HF.out, HS.out⟩
          case measure => simp [intOf]; omega
      · by_cases h1 : q + 1 = n
        · have g1 : ((q : Int) == 0) = false := beq_false_of_ne (by omega)
          have HR1 := Lib.hid (show Rd.row t n (i + 1) = (r1 + x) by rw [er1.out]; rw [if_neg h0])
          have HR2 := Lib.hid (show Rd.row r n (i + 1) = (r2 + y) by rw [er2.out]; rw [if_neg h0])
          have g2 : ((q : Int) == (n : Int) - 1) = true := by simp; omega
          have HON := Lib.hid (show Rd.okRow t r n b i = Rd.near (r1 + x) (r2 + y) b by unfold Rd.okRow; rw [HLI.out.2 h1, HR1.out, HR2.out]; simp)
          clear h0 h1
          go_wp2_with fail
          go_quiet (fail)
          go_wp2_with fail
          go_quiet (fail)
          generalize hZd : (Z.drewN _).drewN _ = Zd
          have HJ := Lib.hid (show Own Zd w.heap.size 88 .i64 (.slice (some ⟨w.heap.size, 0, none⟩) 12 12) (Rd.cols t n i) ∧ Own Zd w.heap.size 88 .i64 (.slice (some ⟨W1.heap.size, 0, none⟩) 12 12) (Rd.cols r n i) ∧ Below w.heap.size w Zd from by rw [← hZd]; exact ⟨(HI.out.1.drewN _).drewN _, (HI.out.2.1.drewN _).drewN _, below_drewN (below_drewN HI.out.2.2 _) _⟩)
          have hqn := HQN.out
          have c1 : Zd.cell? ⟨w.heap.size, q, none⟩ = some (.int .i64 (Rd.col t n q i)) := by rw [HJ.out.1.cell (by rw [Rd.cols_len]; omega), Rd.cols_get _ _ _ (by omega)]
          have c2 : Zd.cell? ⟨W1.heap.size, q, none⟩ = some (.int .i64 (Rd.col r n q i)) := by rw [HJ.out.2.1.cell (by rw [Rd.cols_len]; omega), Rd.cols_get _ _ _ (by omega)]
          have f1 := HJ.out.1.thaw q
          have s1 := HJ.out.1.store q (Rd.col t n q i + x)
          rw [show (Rd.cols t n i).set q (Rd.col t n q i + x) = Rd.cols t n (i + 1) by rw [← HX.out.1]; exact Rd.cols_set t n i HQ.out] at s1
          obtain ⟨Z2, hZ2⟩ : ∃ Z2 : World, Zd.setCell ⟨w.heap.size, q, none⟩ (.int .i64 (Rd.col t n q i + x)) = Z2 := ⟨_, rfl⟩
          rw [hZ2] at s1
          have o2 : Own Z2 w.heap.size 88 .i64 (.slice (some ⟨W1.heap.size, 0, none⟩) 12 12) (Rd.cols r n i) := HJ.out.2.1.kept s1.2 (.inr (by simp only [Value.ownBlock]; intro e; injection e with e; exact HNE.out e.symm))
          have z2b : Below w.heap.size w Z2 := HJ.out.2.2.grown s1.2 HJ.out.2.2.size (fun k hk => by injection hk with hk; omega)
          have c3 : Z2.cell? ⟨W1.heap.size, q, none⟩ = some (.int .i64 (Rd.col r n q i)) := by rw [o2.cell (by rw [Rd.cols_len]; omega), Rd.cols_get _ _ _ (by omega)]
          have f2 := o2.thaw q
          have cy2 : Z2.cell? (ad'.add i) = some (.int .i64 y) := by
            obtain ⟨ad9, x9, e9, _, HX9, cx9, _⟩ := (HR.out.keep (z2b.mono HBB.out) HBB.out).val HLT.out
            injection e9 with e9
            subst e9
            rw [cx9, ← HX9.out.1, HY.out.1]
          have s2 := (o2.drewN 1).store q (Rd.col r n q i + y)
          rw [show (Rd.cols r n i).set q (Rd.col r n q i + y) = Rd.cols r n (i + 1) by rw [← HY.out.1]; exact Rd.cols_set r n i HQ.out] at s2
          have o1 : Own ((Z2.drewN 1).setCell ⟨W1.heap.size, q, none⟩ (.int .i64 (Rd.col r n q i + y))) w.heap.size 88 .i64 (.slice (some ⟨w.heap.size, 0, none⟩) 12 12) (Rd.cols t n (i + 1)) := (s1.1.drewN 1).kept s2.2 (.inr (by simp only [Value.ownBlock]; intro e; injection e with e; exact HNE.out e))
          have HS := Lib.hid (And.intro o1 (And.intro s2.1 (show Below w.heap.size w _ from (below_drewN z2b 1).grown s2.2 z2b.size (fun k hk => by injection hk with hk; have := o2.head.2.1; omega))))
          generalize Rd.col t n q i = k1 at *
          generalize Rd.col r n q i = k2 at *
          clear s1 s2 o1 o2 z2b c2 hqn hZd cx cy
          go_wp2_with fail
          try rw [hZ2]
          clear hZ2
          refine wp_region_still_tail 9 (by kernel_rfl) (by kernel_rfl) ?_
          simp only [List.take_succ_cons, List.take_zero, List.drop_succ_cons, List.drop_zero]
          repeat still_step
          refine wpStill_nil ?_
          show wpList _ _ _ _ _ (Z2.drewN 1)
          go_wp2_with fail
          refine (near34 (r1 + x) (r2 + y) b _ (by omega) (by omega)).mono ?_; rintro e w9 ⟨rfl, rfl⟩
          rcases hne : Rd.near (r1 + x) (r2 + y) b with _ | _
          · have HF := Lib.hid (HBAD.out (HON.out.trans hne))
            go_wp2_with fail
            go_ret
            exact ⟨congrArg (fun b => Ending.returned (.bool b)) HF.out.symm, HS.out.2.2⟩
          · have HF := Lib.hid (HNX.out (HON.out.trans hne))
            clear hne
            go_wp2_with fail
            go_roundw
            case rel => exact ⟨i + 1, by go_num, by omega, by rw [HR1.out], by rw [HR2.out], by rw [ea1.out], by rw [ea2.out], HF.out, HS.out⟩
            case measure => simp [intOf]; omega
        · have g1 : ((q : Int) == 0) = false := beq_false_of_ne (by omega)
          have HR1 := Lib.hid (show Rd.row t n (i + 1) = (r1 + x) by rw [er1.out]; rw [if_neg h0])
          have HR2 := Lib.hid (show Rd.row r n (i + 1) = (r2 + y) by rw [er2.out]; rw [if_neg h0])
          have g2 : ((q : Int) == (n : Int) - 1) = false := beq_false_of_ne (by omega)
          have HON := Lib.hid (show Rd.okRow t r n b i = true by unfold Rd.okRow; have : (i + 1) % n ≠ 0 := fun e => h1 (HLI.out.1 e); simp [this])
          clear h0 h1
          go_wp2_with fail
          go_quiet (fail)
          go_wp2_with fail
          go_quiet (fail)
          generalize hZd : (Z.drewN _).drewN _ = Zd
          have HJ := Lib.hid (show Own Zd w.heap.size 88 .i64 (.slice (some ⟨w.heap.size, 0, none⟩) 12 12) (Rd.cols t n i) ∧ Own Zd w.heap.size 88 .i64 (.slice (some ⟨W1.heap.size, 0, none⟩) 12 12) (Rd.cols r n i) ∧ Below w.heap.size w Zd from by rw [← hZd]; exact ⟨(HI.out.1.drewN _).drewN _, (HI.out.2.1.drewN _).drewN _, below_drewN (below_drewN HI.out.2.2 _) _⟩)
          have hqn := HQN.out
          have c1 : Zd.cell? ⟨w.heap.size, q, none⟩ = some (.int .i64 (Rd.col t n q i)) := by rw [HJ.out.1.cell (by rw [Rd.cols_len]; omega), Rd.cols_get _ _ _ (by omega)]
          have c2 : Zd.cell? ⟨W1.heap.size, q, none⟩ = some (.int .i64 (Rd.col r n q i)) := by rw [HJ.out.2.1.cell (by rw [Rd.cols_len]; omega), Rd.cols_get _ _ _ (by omega)]
          have f1 := HJ.out.1.thaw q
          have s1 := HJ.out.1.store q (Rd.col t n q i + x)
          rw [show (Rd.cols t n i).set q (Rd.col t n q i + x) = Rd.cols t n (i + 1) by rw [← HX.out.1]; exact Rd.cols_set t n i HQ.out] at s1
          obtain ⟨Z2, hZ2⟩ : ∃ Z2 : World, Zd.setCell ⟨w.heap.size, q, none⟩ (.int .i64 (Rd.col t n q i + x)) = Z2 := ⟨_, rfl⟩
          rw [hZ2] at s1
          have o2 : Own Z2 w.heap.size 88 .i64 (.slice (some ⟨W1.heap.size, 0, none⟩) 12 12) (Rd.cols r n i) := HJ.out.2.1.kept s1.2 (.inr (by simp only [Value.ownBlock]; intro e; injection e with e; exact HNE.out e.symm))
          have z2b : Below w.heap.size w Z2 := HJ.out.2.2.grown s1.2 HJ.out.2.2.size (fun k hk => by injection hk with hk; omega)
          have c3 : Z2.cell? ⟨W1.heap.size, q, none⟩ = some (.int .i64 (Rd.col r n q i)) := by rw [o2.cell (by rw [Rd.cols_len]; omega), Rd.cols_get _ _ _ (by omega)]
          have f2 := o2.thaw q
          have cy2 : Z2.cell? (ad'.add i) = some (.int .i64 y) := by
            obtain ⟨ad9, x9, e9, _, HX9, cx9, _⟩ := (HR.out.keep (z2b.mono HBB.out) HBB.out).val HLT.out
            injection e9 with e9
            subst e9
            rw [cx9, ← HX9.out.1, HY.out.1]
          have s2 := (o2.drewN 1).store q (Rd.col r n q i + y)
          rw [show (Rd.cols r n i).set q (Rd.col r n q i + y) = Rd.cols r n (i + 1) by rw [← HY.out.1]; exact Rd.cols_set r n i HQ.out] at s2
          have o1 : Own ((Z2.drewN 1).setCell ⟨W1.heap.size, q, none⟩ (.int .i64 (Rd.col r n q i + y))) w.heap.size 88 .i64 (.slice (some ⟨w.heap.size, 0, none⟩) 12 12) (Rd.cols t n (i + 1)) := (s1.1.drewN 1).kept s2.2 (.inr (by simp only [Value.ownBlock]; intro e; injection e with e; exact HNE.out e))
          have HS := Lib.hid (And.intro o1 (And.intro s2.1 (show Below w.heap.size w _ from (below_drewN z2b 1).grown s2.2 z2b.size (fun k hk => by injection hk with hk; have := o2.head.2.1; omega))))
          generalize Rd.col t n q i = k1 at *
          generalize Rd.col r n q i = k2 at *
          clear s1 s2 o1 o2 z2b c2 hqn hZd cx cy
          go_wp2_with fail
          try rw [hZ2]
          clear hZ2
          refine wp_region_still_tail 9 (by kernel_rfl) (by kernel_rfl) ?_
          simp only [List.take_succ_cons, List.take_zero, List.drop_succ_cons, List.drop_zero]
          repeat still_step
          refine wpStill_nil ?_
          show wpList _ _ _ _ _ (Z2.drewN 1)
          go_wp2_with fail
          have HF := Lib.hid (HNX.out HON.out)
          go_wp2_with fail
          go_roundw
          case rel => exact ⟨i + 1, by go_num, by omega, by rw [HR1.out], by rw [HR2.out], by rw [ea1.out], by rw [ea2.out], HF.out, HS.out⟩
          case measure => simp [intOf]; omega
    · obtain rfl : i = k := by omega
      have HFT := Lib.hid (show Rd.fits n i t r b = (((List.range n).all fun j => Rd.near (Rd.col t n j i) (Rd.col r n j i) b) && Rd.near (Rd.all t i) (Rd.all r i) b) by unfold Rd.fits; rw [HOK.out]; rfl)
      clear b1 b2
      go_wp2_with fail
      go_loopw [77] (fun jv wr => ∃ j : Nat, jv = .int .i64 j ∧ j ≤ n ∧ Hid ((List.range j).all (fun j => Rd.near (Rd.col t n j i) (Rd.col r n j i) b) = true) ∧ Hid (Below Z.heap.size Z wr)) (fun jv _ => n - (intOf jv).toNat)
      case atStart => exact ⟨0, rfl, by omega, (by simp : (List.range 0).all (fun j => Rd.near (Rd.col t n j i) (Rd.col r n j i) b) = true), Below.refl _ _⟩
      case round =>
        rename World => Y
        obtain ⟨j, rfl, hj, HJ, HY⟩ := hrel
        by_cases hlj : j < n
        · have v1 : Y.cell? ⟨w.heap.size, j, none⟩ = some (.int .i64 (Rd.col t n j i)) := by rw [(HI.out.1.below HY.out).cell (by rw [Rd.cols_len]; omega), Rd.cols_get _ _ _ (by omega)]
          have v2 : Y.cell? ⟨W1.heap.size, j, none⟩ = some (.int .i64 (Rd.col r n j i)) := by rw [(HI.out.2.1.below HY.out).cell (by rw [Rd.cols_len]; omega), Rd.cols_get _ _ _ (by omega)]
          have b5 := Rd.col_bd HTS.out n j i
          have b6 := Rd.col_bd HRS.out n j i
          have x1 := Aft.cell v1
          have x2 := Aft.cell v2
          have i3 : (0 : Int) ≤ (j : Int) := by omega
          have i4 : (j : Int) < 12 := by omega
          have HNX := Lib.hid (show Rd.near (Rd.col t n j i) (Rd.col r n j i) b = true → (List.range (j + 1)).all (fun j => Rd.near (Rd.col t n j i) (Rd.col r n j i) b) = true from fun h9 => by rw [all_range_succ, HJ.out, h9]; rfl)
          have HBAD := Lib.hid (show Rd.near (Rd.col t n j i) (Rd.col r n j i) b = false → Rd.fits n i t r b = false from fun h9 => by rw [HFT.out, all_range_bad hlj h9]; rfl)
          have HBY := Lib.hid (HI.out.2.2.trans (HY.out.mono HI.out.2.2.size))
          generalize Rd.col t n j i = k1 at *
          generalize Rd.col r n j i = k2 at *
          have cN : ∀ x : Aft Y, Calls Try.prog 66 #[.int .i64 k1, .int .i64 k2, .int .i64 b] x.now fun e w' => e = .returned (.bool (Rd.near k1 k2 b)) ∧ x.now = w' := fun x => near34 k1 k2 b _ (by omega) (by omega)
          rcases hne : Rd.near k1 k2 b with _ | _
          · have HF := Lib.hid (HBAD.out hne)
            rw [hne] at cN
            clear v1 v2 hne
            go_wp2_with fail
            refine wp_region_aft (by kernel_rfl) (by kernel_rfl) ?_
            repeat (go_big_quiet_step (first | with_reducible exact Calls.aft_same (cN _)))
            refine wpQuiet_nil ?_
            rintro w9 ⟨⟨_, hb9⟩, rfl⟩
            have HB9 := Lib.hid (HBY.out.trans (hb9.mono HBY.out.size))
            clear hb9
            go_wp2_with fail
            go_ret
            exact ⟨congrArg (fun b => Ending.returned (.bool b)) HF.out.symm, HB9.out⟩
          · have HF := Lib.hid (HNX.out hne)
            rw [hne] at cN
            clear v1 v2 hne
            go_wp2_with fail
            refine wp_region_aft (by kernel_rfl) (by kernel_rfl) ?_
            repeat (go_big_quiet_step (first | with_reducible exact Calls.aft_same (cN _)))
            refine wpQuiet_nil ?_
            rintro w9 ⟨⟨_, hb9⟩, rfl⟩
            have HB9 := Lib.hid (HY.out.trans (hb9.mono HY.out.size))
            clear hb9
            go_wp2_with fail
            go_roundw
            case rel => exact ⟨j + 1, by go_num, by omega, HF.out, HB9.out⟩
            case measure => simp [intOf]; omega
        · obtain rfl : j = n := by omega
          have HFE := Lib.hid (show Rd.fits j i t r b = Rd.near (Rd.all t i) (Rd.all r i) b by rw [HFT.out, HJ.out]; rfl)
          have HBY := Lib.hid (HI.out.2.2.trans (HY.out.mono HI.out.2.2.size))
          go_wp2_with fail
          refine (near34 (Rd.all t i) (Rd.all r i) b _ (by omega) (by omega)).mono ?_; rintro e w9 ⟨rfl, rfl⟩
          go_wp2_with fail
          go_ret
          exact ⟨congrArg (fun b => Ending.returned (.bool b)) HFE.out.symm, HBY.out⟩
end Go.Proofs.Ytgclljmchdlbeaa
