/- Cells: which cells have been seen; sums over members: the arithmetic. -/
import Derived.Test.YtojeendofpallaaCn
namespace Go.Proofs.Ytojeendofpallaa.Ce
def seen (f : Nat → Int) (N : Nat) (k : Int) (P : List Int) : List Bool := (List.range N).map fun x : Nat => (decide (0 ≤ f x ∧ f x < k) || decide ((x : Int) ∈ P))
theorem seen_len (f : Nat → Int) (N : Nat) (k : Int) (P : List Int) : (seen f N k P).length = N := by simp [seen]
theorem seen_get {f : Nat → Int} {N : Nat} {k : Int} {P : List Int} {x : Nat} (hx : x < N) : (seen f N k P).getD x false = (decide (0 ≤ f x ∧ f x < k) || decide ((x : Int) ∈ P)) := by simp [seen, List.getD, hx]
theorem seen_zero (f : Nat → Int) (N : Nat) : seen f N 0 [] = List.replicate N false := by
  refine List.ext_getElem (by simp [seen]) fun i h1 h2 => ?_
  simp [seen]
theorem seen_snoc (f : Nat → Int) (N : Nat) (k : Int) (P : List Int) (x : Nat) : seen f N k (P ++ [(x : Int)]) = (seen f N k P).set x true := by
  refine List.ext_getElem (by simp [seen]) fun i h1 h2 => ?_
  simp only [seen, List.getElem_map, List.getElem_range, List.getElem_set]
  by_cases hxi : x = i
  · subst hxi; simp
  · rw [if_neg hxi]
    have : ((i : Int) ∈ P ++ [(x : Int)]) ↔ (i : Int) ∈ P := by simp; intro h; omega
    simp [this]
theorem mem_memb {f : Nat → Int} {k : Int} {N x : Nat} (hx : x < N) : (x : Int) ∈ memb f k N ↔ f x = k := by
  unfold memb
  constructor
  · intro h
    obtain ⟨c, hc, he⟩ := List.mem_map.1 h
    have := (List.mem_filter.1 hc).2
    obtain rfl : c = x := by omega
    simpa using this
  · intro h
    exact List.mem_map.2 ⟨x, List.mem_filter.2 ⟨List.mem_range.2 hx, by simpa using h⟩, rfl⟩
theorem seen_full (f : Nat → Int) (N : Nat) (k : Int) (hk : 0 ≤ k) : seen f N k (memb f k N) = seen f N (k + 1) [] := by
  refine List.ext_getElem (by simp [seen]) fun i h1 h2 => ?_
  simp only [seen, List.length_map, List.length_range] at h1
  simp only [seen, List.getElem_map, List.getElem_range]
  rw [Bool.eq_iff_iff]
  simp only [Bool.or_eq_true, decide_eq_true_eq, List.not_mem_nil, or_false, mem_memb h1]
  omega
/-- the i-th member -/
theorem memb_get {f : Nat → Int} {k : Int} {N i : Nat} (hi : i < (memb f k N).length) : ∃ x : Nat, (memb f k N).getD i 0 = (x : Int) ∧ x < N ∧ f x = k ∧ (x : Int) ∉ (memb f k N).take i := by
  have hp : (memb f k N).Pairwise (· < ·) := by
    unfold memb
    rw [List.pairwise_map]
    refine (List.Pairwise.filter _ (List.pairwise_lt_range)).imp ?_
    intro a b h; omega
  have hm : (memb f k N)[i] ∈ memb f k N := List.getElem_mem hi
  obtain ⟨x, hx, he⟩ := List.mem_map.1 (show _ ∈ List.map _ _ from hm)
  have h1 := List.mem_filter.1 hx
  have hg : (memb f k N).getD i 0 = (memb f k N)[i] := by simp [List.getD, hi]
  refine ⟨x, by rw [hg]; exact he.symm, List.mem_range.1 h1.1, by simpa using h1.2, fun hin => ?_⟩
  obtain ⟨j, hj, hej⟩ := List.getElem_of_mem hin
  have hj2 : j < i := by rw [List.length_take] at hj; omega
  rw [List.getElem_take] at hej
  have := List.pairwise_iff_getElem.1 hp j i (by omega) hi hj2
  rw [hej, ← he] at this
  omega
def msum (t : List Int) (P : List Int) : Int := (P.map fun x => t.getD x.toNat 0).sum
theorem msum_snoc (t P : List Int) (x : Int) : msum t (P ++ [x]) = msum t P + t.getD x.toNat 0 := by simp [msum]
theorem msum_bd {t : List Int} {m : Int} (ht : ∀ j, j < t.length → 0 ≤ t.getD j 0 ∧ t.getD j 0 ≤ m) (hm : 0 ≤ m) : ∀ P : List Int, 0 ≤ msum t P ∧ msum t P ≤ m * P.length
  | [] => by simp [msum]
  | x :: P => by
    have h1 := msum_bd ht hm P
    have e : msum t (x :: P) = t.getD x.toNat 0 + msum t P := by simp [msum]
    have h2 : 0 ≤ t.getD x.toNat 0 ∧ t.getD x.toNat 0 ≤ m := by
      rcases Nat.lt_or_ge x.toNat t.length with h | h
      · exact ht _ h
      · have : t.getD x.toNat 0 = 0 := by simp [List.getD, List.getElem?_eq_none h]
        rw [this]; omega
    rw [e, List.length_cons]
    have h3 : m * ((P.length + 1 : Nat) : Int) = m * P.length + m := by rw [Int.natCast_add]; simp [Int.mul_add]
    omega
theorem msum_memb (f : Nat → Int) (t : List Int) (k : Int) : ∀ N, msum t (memb f k N) = psum f t k N
  | 0 => by simp [msum, memb, psum]
  | N + 1 => by
    rw [memb_succ]
    by_cases h : f N = k
    · rw [if_pos h, msum_snoc, msum_memb f t k N]
      simp [psum, h]
    · rw [if_neg h, List.append_nil, msum_memb f t k N]
      simp [psum, h]
end Go.Proofs.Ytojeendofpallaa.Ce
