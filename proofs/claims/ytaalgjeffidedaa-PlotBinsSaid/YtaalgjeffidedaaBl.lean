/- Bins and quartiles: what the laws of layer 21 say of them. -/
import Derived.Test.YtaalgjeffidedaaBm
namespace Go.Proofs.Ytaalgjeffidedaa.Pb
open Zs (Asc of)
/-- how many numbers lie from lo on and below hi -/
def inn (l : List Int) (lo hi : Int) : Int := (l.filter fun y => decide (lo ≤ y) && decide (y < hi)).length
theorem inn_snoc (l : List Int) (y lo hi : Int) : inn (l ++ [y]) lo hi = inn l lo hi + if lo ≤ y ∧ y < hi then 1 else 0 := by
  unfold inn
  rw [List.filter_append]
  by_cases h : lo ≤ y ∧ y < hi
  · simp [List.filter, h]
  · have : (decide (lo ≤ y) && decide (y < hi)) = false := by
      rw [Bool.and_eq_false_iff]; simp only [decide_eq_false_iff_not]; omega
    simp [List.filter, this, h]
theorem inn_le (l : List Int) (lo hi : Int) : 0 ≤ inn l lo hi ∧ inn l lo hi ≤ l.length := by
  unfold inn
  have := List.length_filter_le (fun y => decide (lo ≤ y) && decide (y < hi)) l
  omega
/-- the sum of the counts of the bins from lo on and below hi -/
def sums (L : List (Int × Int)) (lo hi : Int) : Int := (L.filter fun p => decide (lo ≤ p.1) && decide (p.1 < hi)).foldr (fun p s => p.2 + s) 0
theorem foldr_app (L M : List (Int × Int)) : (L ++ M).foldr (fun p s => p.2 + s) 0 = L.foldr (fun p s => p.2 + s) (0 : Int) + M.foldr (fun p s => p.2 + s) 0 := by
  induction L with
  | nil => simp
  | cons p L ih => simp only [List.cons_append, List.foldr_cons, ih]; omega
theorem sums_snoc (L : List (Int × Int)) (p : Int × Int) (lo hi : Int) : sums (L ++ [p]) lo hi = sums L lo hi + if lo ≤ p.1 ∧ p.1 < hi then p.2 else 0 := by
  unfold sums
  rw [List.filter_append, foldr_app]
  by_cases h : lo ≤ p.1 ∧ p.1 < hi
  · simp [List.filter, h]
  · have : (decide (lo ≤ p.1) && decide (p.1 < hi)) = false := by
      rw [Bool.and_eq_false_iff]; simp only [decide_eq_false_iff_not]; omega
    simp [List.filter, this, h]
def total (L : List (Int × Int)) : Int := L.foldr (fun p s => p.2 + s) 0
theorem total_snoc (L : List (Int × Int)) (p : Int × Int) : total (L ++ [p]) = total L + p.2 := by
  unfold total; rw [foldr_app]; simp
theorem cnt_cons (y : Int) (l : List Int) (x : Int) : cnt (y :: l) x = cnt l x + if y = x then 1 else 0 := by
  unfold cnt
  by_cases h : y = x
  · simp [h]
  · simp [h]
theorem fold_cnt_nil (S : List Int) : (S.map fun x => (x, cnt [] x)).foldr (fun p s => p.2 + s) 0 = 0 := by
  induction S with
  | nil => rfl
  | cons x S ih => simp only [List.map_cons, List.foldr_cons, ih]; rfl
theorem fold_cnt_cons (y : Int) (l : List Int) (S : List Int) (hS : Asc S) :
    (S.map fun x => (x, cnt (y :: l) x)).foldr (fun p s => p.2 + s) 0 = (S.map fun x => (x, cnt l x)).foldr (fun p s => p.2 + s) 0 + if y ∈ S then 1 else 0 := by
  induction S with
  | nil => rfl
  | cons x S ih =>
    have hS' := List.pairwise_cons.1 hS
    have := ih hS'.2
    simp only [List.map_cons, List.foldr_cons]
    rw [this, cnt_cons]
    by_cases hxy : y = x
    · subst hxy
      have hn : y ∉ S := fun h => by have := hS'.1 y h; omega
      simp [hn]; omega
    · by_cases h : y ∈ S
      · simp [h, hxy]; omega
      · simp [h, hxy]
theorem fold_cnt (p : Int → Bool) (S : List Int) (hS : Asc S) : ∀ (l : List Int), (∀ x ∈ l, x ∈ S) → ((S.filter p).map fun x => (x, cnt l x)).foldr (fun p s => p.2 + s) (0 : Int) = ((l.filter p).length : Int) := by
  intro l
  induction l with
  | nil => intro _; simpa using fold_cnt_nil (S.filter p)
  | cons y l ih =>
    intro h
    rw [fold_cnt_cons y l _ (hS.filter p), ih fun x hx => h x (List.mem_cons_of_mem _ hx)]
    have hy := h y (by simp)
    by_cases hp : p y = true
    · simp [hy, hp]
    · simp [hp]
theorem total_bins (l : List Int) : total (bins l) = l.length := by
  have := fold_cnt (fun _ => true) (of l) (Zs.asc_of l) l fun x hx => Zs.mem_of.2 hx
  rw [List.filter_eq_self.2 fun _ _ => rfl, List.filter_eq_self.2 fun _ _ => rfl] at this
  exact this
theorem sums_bins (l : List Int) (lo hi : Int) : sums (bins l) lo hi = inn l lo hi := by
  have := fold_cnt (fun x => decide (lo ≤ x) && decide (x < hi)) (of l) (Zs.asc_of l) l fun x hx => Zs.mem_of.2 hx
  unfold sums bins inn
  rw [← this, List.filter_map]
  rfl
theorem bins_len (l : List Int) : (bins l).length ≤ l.length := by unfold bins; rw [List.length_map]; exact Zs.of_len l
theorem runs_last {l : List Int} (hs : l.Pairwise (· ≤ ·)) {y : Int} (hy : l.getLast? = some y) : ∃ (R : List (Int × Int)) (c : Int), runs l = R ++ [(y, c)] ∧ 0 ≤ c ∧ c ≤ l.length := by
  obtain ⟨h1, h2⟩ := runs_eq _ l rfl hs
  obtain ⟨c, hc⟩ := h2 y hy
  obtain ⟨R, hR⟩ := List.getLast?_eq_some_iff.1 hc
  refine ⟨R, c, hR, ?_⟩
  have hm : (y, c) ∈ bins l := by rw [← h1, hR]; simp
  obtain ⟨x, _, hx⟩ := List.mem_map.1 hm
  injection hx with e1 e2
  rw [← e2]
  have := cnt_le l x
  have h0 : (0 : Int) ≤ cnt l x := by unfold cnt; omega
  exact ⟨h0, this⟩
/-- a bin of a list of floors -/
theorem bin_of {w : Int} (hw : 1 ≤ w) (v : List Int) {j : Nat} (hj : j < (bins (v.map (fl w))).length) :
    ((bins (v.map (fl w)))[j]).1 % w = 0 ∧ ((bins (v.map (fl w)))[j]).2 = inn v ((bins (v.map (fl w)))[j]).1 (((bins (v.map (fl w)))[j]).1 + w) ∧ 0 < ((bins (v.map (fl w)))[j]).2 ∧ ∃ y ∈ v, fl w y = ((bins (v.map (fl w)))[j]).1 := by
  have hm : (of (v.map (fl w)))[j]'(by simpa [bins] using hj) ∈ v.map (fl w) := Zs.mem_of.1 (List.getElem_mem _)
  simp only [bins, List.getElem_map]
  generalize (of (v.map (fl w)))[j]'(by simpa [bins] using hj) = x at hm ⊢
  obtain ⟨y, hy, hyx⟩ := List.mem_map.1 hm
  have h0 : x % w = 0 := by rw [← hyx]; exact fl_mod
  refine ⟨h0, ?_, cnt_pos hm, y, hy, hyx⟩
  unfold cnt inn
  rw [List.filter_map, List.length_map]
  congr 2
  apply List.filter_congr
  intro z _
  simp only [Function.comp]
  rw [Bool.eq_iff_iff]
  simp [fl_iff hw h0]
theorem bin_asc (l : List Int) {j : Nat} (h0 : 0 < j) (hj : j < (bins l).length) : ((bins l)[j - 1]).1 < ((bins l)[j]).1 := by
  simp only [bins, List.getElem_map]
  exact List.pairwise_iff_getElem.1 (Zs.asc_of l) (j - 1) j (by simp [bins] at hj; omega) (by simpa [bins] using hj) (by omega)
/-- a bin of a multiple of the width is the sum of the narrower ones in it -/
theorem bin_sum {w n : Int} (hw : 1 ≤ w) (hn : 1 ≤ n) (v : List Int) {j : Nat} (hj : j < (bins (v.map (fl (w * n)))).length) :
    sums (bins (v.map (fl w))) ((bins (v.map (fl (w * n))))[j]).1 (((bins (v.map (fl (w * n))))[j]).1 + w * n) = ((bins (v.map (fl (w * n))))[j]).2 := by
  have hwn : 1 ≤ w * n := by have := Int.mul_le_mul hw hn (by omega) (by omega); omega
  obtain ⟨h0, h1, _, _⟩ := bin_of hwn v hj
  generalize ((bins (v.map (fl (w * n))))[j]) = x at h0 h1 ⊢
  rw [sums_bins, h1]
  have hx : x.1 % w = 0 := by
    have := Int.emod_emod_of_dvd x.1 (Int.dvd_mul_right w n)
    rw [h0] at this
    simpa using this.symm
  unfold inn
  rw [List.filter_map, List.length_map]
  congr 2
  apply List.filter_congr
  intro z _
  simp only [Function.comp]
  rw [Bool.eq_iff_iff]
  simp only [Bool.and_eq_true, decide_eq_true_eq]
  have hb := fl_bd (v := z) hw
  have hz : (fl w z) % w = 0 := fl_mod
  have hwn0 : (w * n) % w = 0 := Int.mul_emod_right w n
  obtain ⟨a, ha⟩ := Int.dvd_of_emod_eq_zero hx
  obtain ⟨b, hb2⟩ := Int.dvd_of_emod_eq_zero hz
  constructor
  · rintro ⟨h2, h3⟩
    refine ⟨by omega, ?_⟩
    rw [hb2, ha] at h3
    have h4 : w * b < w * (a + n) := by rw [Int.mul_add]; omega
    have h5 : b < a + n := Int.lt_of_mul_lt_mul_left h4 (by omega)
    have h6 : w * (b + 1) ≤ w * (a + n) := Int.mul_le_mul_of_nonneg_left (by omega) (by omega)
    rw [Int.mul_add, Int.mul_add] at h6
    omega
  · rintro ⟨h2, h3⟩
    refine ⟨?_, by omega⟩
    rcases Int.lt_or_le (fl w z) x.1 with h | h
    · exfalso
      rw [hb2, ha] at h
      have h5 : b < a := Int.lt_of_mul_lt_mul_left h (by omega)
      have h6 : w * (b + 1) ≤ w * a := Int.mul_le_mul_of_nonneg_left (by omega) (by omega)
      rw [Int.mul_add] at h6
      omega
    · exact h
/-- sorted numbers -/
def srt (l : List Int) : List Int := l.mergeSort fun x y => decide (x ≤ y)
theorem srt_sorted (l : List Int) : (srt l).Pairwise (· ≤ ·) := by
  have := List.pairwise_mergeSort (le := fun x y : Int => decide (x ≤ y)) (fun a b c => by simp; omega) (fun a b => by simp; omega) l
  simpa [srt] using this
theorem srt_perm (l : List Int) : (srt l).Perm l := List.mergeSort_perm l _
theorem srt_len (l : List Int) : (srt l).length = l.length := List.length_mergeSort _
theorem srt_mem {l : List Int} {x : Int} : x ∈ srt l ↔ x ∈ l := (srt_perm l).mem_iff
theorem runs_srt (l : List Int) : runs (srt l) = bins l := by
  rw [(runs_eq _ (srt l) rfl (srt_sorted l)).1]
  unfold bins
  rw [Zs.of_ext fun x => srt_mem]
  exact List.map_congr_left fun x _ => by rw [cnt_perm (srt_perm l)]
theorem sorted_perm_eq : ∀ {a b : List Int}, a.Pairwise (· ≤ ·) → b.Pairwise (· ≤ ·) → a.Perm b → a = b
  | [], b, _, _, h => (List.nil_perm.1 h).symm
  | x :: a, [], _, _, h => by have := h.length_eq; simp at this
  | x :: a, y :: b, ha, hb, h => by
    have ha' := List.pairwise_cons.1 ha
    have hb' := List.pairwise_cons.1 hb
    have h1 : x ≤ y := by
      rcases List.mem_cons.1 (h.mem_iff.2 (List.mem_cons_self (a := y))) with e | e
      · omega
      · exact ha'.1 y e
    have h2 : y ≤ x := by
      rcases List.mem_cons.1 (h.mem_iff.1 (List.mem_cons_self (a := x))) with e | e
      · omega
      · exact hb'.1 x e
    obtain rfl : x = y := by omega
    rw [sorted_perm_eq ha'.2 hb'.2 ((List.perm_cons x).1 h)]
theorem srt_map_add (l : List Int) (d : Int) : srt (l.map (· + d)) = (srt l).map (· + d) :=
  sorted_perm_eq (srt_sorted _) (List.pairwise_map.2 ((srt_sorted l).imp fun h => by omega)) ((srt_perm _).trans ((srt_perm l).symm.map _))
theorem srt_reverse (l : List Int) : srt l.reverse = srt l := sorted_perm_eq (srt_sorted _) (srt_sorted _) ((srt_perm _).trans ((List.reverse_perm l).trans (srt_perm l).symm))
def lt (l : List Int) (q : Int) : Int := (l.filter fun x => decide (x < q)).length
def le (l : List Int) (q : Int) : Int := (l.filter fun x => decide (x ≤ q)).length
theorem lt_snoc (l : List Int) (x q : Int) : lt (l ++ [x]) q = lt l q + if x < q then 1 else 0 := by
  unfold lt; rw [List.filter_append]; by_cases h : x < q <;> simp [h]
theorem le_snoc (l : List Int) (x q : Int) : le (l ++ [x]) q = le l q + if x ≤ q then 1 else 0 := by
  unfold le; rw [List.filter_append]; by_cases h : x ≤ q <;> simp [h]
theorem lt_bd (l : List Int) (q : Int) : 0 ≤ lt l q ∧ lt l q ≤ l.length := by unfold lt; have := List.length_filter_le (fun x => decide (x < q)) l; omega
theorem le_bd (l : List Int) (q : Int) : 0 ≤ le l q ∧ le l q ≤ l.length := by unfold le; have := List.length_filter_le (fun x => decide (x ≤ q)) l; omega
theorem place (l : List Int) {k : Nat} (hk : k < (srt l).length) : lt l ((srt l)[k]) ≤ k ∧ (k : Int) < le l ((srt l)[k]) := by
  have hs := srt_sorted l
  have e1 : lt l ((srt l)[k]) = ((srt l).filter fun x => decide (x < (srt l)[k])).length := by unfold lt; rw [((srt_perm l).filter _).length_eq]
  have e2 : le l ((srt l)[k]) = ((srt l).filter fun x => decide (x ≤ (srt l)[k])).length := by unfold le; rw [((srt_perm l).filter _).length_eq]
  rw [e1, e2]
  generalize srt l = s at hs hk ⊢
  have hsp : s.take k ++ s.drop k = s := List.take_append_drop k s
  have hle : ∀ x ∈ s.take (k + 1), x ≤ s[k] := by
    intro x hx
    obtain ⟨i, hi, rfl⟩ := List.mem_iff_getElem.1 hx
    have hi' : i < k + 1 := by rw [List.length_take] at hi; omega
    rw [List.getElem_take]
    by_cases e : i = k
    · subst e; exact Int.le_refl _
    · exact List.pairwise_iff_getElem.1 hs i k (by omega) hk (by omega)
  have hge : ∀ x ∈ s.drop k, s[k] ≤ x := by
    intro x hx
    obtain ⟨i, hi, rfl⟩ := List.mem_iff_getElem.1 hx
    rw [List.getElem_drop]
    by_cases e : i = 0
    · subst e; exact Int.le_refl _
    · exact List.pairwise_iff_getElem.1 hs k (k + i) hk (by rw [List.length_drop] at hi; omega) (by omega)
  constructor
  · have h1 : (s.drop k).filter (fun x => decide (x < s[k])) = [] := List.filter_eq_nil_iff.2 fun x hx => by have := hge x hx; simp; omega
    have h2 : (s.filter fun x => decide (x < s[k])).length = ((s.take k).filter fun x => decide (x < s[k])).length := by
      generalize s[k] = q at *
      have h3 : s.filter (fun x => decide (x < q)) = (s.take k ++ s.drop k).filter (fun x => decide (x < q)) := by rw [hsp]
      rw [h3, List.filter_append, List.length_append, h1]
      simp
    rw [h2]
    have := List.length_filter_le (fun x => decide (x < s[k])) (s.take k)
    rw [List.length_take] at this
    omega
  · have h1 : ((s.take (k + 1)).filter fun x => decide (x ≤ s[k])) = s.take (k + 1) := List.filter_eq_self.2 fun x hx => by simpa using hle x hx
    have h2 : (s.take (k + 1)).length ≤ (s.filter fun x => decide (x ≤ s[k])).length := by
      rw [← h1]
      exact (List.Sublist.filter _ (List.take_sublist _ _)).length_le
    rw [List.length_take] at h2
    omega
theorem fl_add {w v d : Int} (hd : d % w = 0) : fl w (v + d) = fl w v + d := by
  unfold fl; rw [Int.add_emod, hd]; simp; omega
theorem cnt_map_add (l : List Int) (d x : Int) : cnt (l.map (· + d)) (x + d) = cnt l x := by
  unfold cnt
  rw [List.filter_map, List.length_map]
  congr 2
  apply List.filter_congr
  intro z _
  simp only [Function.comp]
  rw [Bool.eq_iff_iff]; simp
theorem bins_map_add (l : List Int) (d : Int) : bins (l.map (· + d)) = (bins l).map fun p => (p.1 + d, p.2) := by
  unfold bins
  have : of (l.map (· + d)) = (of l).map (· + d) := (Zs.eq_of (List.pairwise_map.2 ((Zs.asc_of l).imp fun h => by omega)) fun x => by simp [Zs.mem_of]).symm
  rw [this, List.map_map, List.map_map]
  exact List.map_congr_left fun x _ => by simp [cnt_map_add]
theorem bins_perm {l l' : List Int} (h : l.Perm l') : bins l = bins l' := by
  unfold bins
  rw [Zs.of_ext fun x => h.mem_iff]
  exact List.map_congr_left fun x _ => by rw [cnt_perm h]
end Go.Proofs.Ytaalgjeffidedaa.Pb
