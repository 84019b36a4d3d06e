/- Sets of numbers: ascending lists, what is put into them, and what a sorted list becomes without its repetitions. -/
import Derived.Lib.SlicesCompact
import Derived.Lib.Hide
namespace Go.Proofs.Ytoomgbddfcmjnaa.Zs
open Go.Lib
def put (x : Int) : List Int → List Int
  | [] => [x]
  | y :: l => if x < y then x :: y :: l else if x = y then y :: l else y :: put x l
def of (l : List Int) : List Int := l.foldl (fun acc x => put x acc) []
def Asc (l : List Int) : Prop := l.Pairwise (· < ·)
theorem mem_put {x y : Int} {l : List Int} : y ∈ put x l ↔ y = x ∨ y ∈ l := by
  induction l with
  | nil => simp [put]
  | cons z l ih =>
    unfold put
    by_cases h : x < z
    · simp [h]
    · by_cases h2 : x = z
      · subst h2; simp
      · simp [h, h2, ih]; constructor <;> (rintro (h | h | h) <;> simp [h])
theorem asc_put {x : Int} {l : List Int} (h : Asc l) : Asc (put x l) := by
  induction l with
  | nil => simp [put, Asc]
  | cons z l ih =>
    have hz := (List.pairwise_cons.1 h)
    unfold put
    by_cases h1 : x < z
    · rw [if_pos h1]
      exact List.pairwise_cons.2 ⟨fun y hy => by
        rcases List.mem_cons.1 hy with rfl | hy
        · exact h1
        · have := hz.1 y hy; omega, h⟩
    · rw [if_neg h1]
      by_cases h2 : x = z
      · rw [if_pos h2]; exact h
      · rw [if_neg h2]
        exact List.pairwise_cons.2 ⟨fun y hy => by
          rcases mem_put.1 hy with rfl | hy
          · omega
          · exact hz.1 y hy, ih hz.2⟩
theorem foldl_put {l : List Int} : ∀ {acc : List Int}, Asc acc → Asc (l.foldl (fun acc x => put x acc) acc) ∧ ∀ y, y ∈ l.foldl (fun acc x => put x acc) acc ↔ y ∈ acc ∨ y ∈ l := by
  induction l with
  | nil => intro acc h; exact ⟨h, by simp⟩
  | cons x l ih =>
    intro acc h
    obtain ⟨h1, h2⟩ := ih (asc_put (x := x) h)
    refine ⟨h1, fun y => ?_⟩
    simp only [List.foldl_cons, h2, mem_put, List.mem_cons]
    constructor
    · rintro ((h | h) | h) <;> simp [h]
    · rintro (h | h | h) <;> simp [h]
theorem asc_of (l : List Int) : Asc (of l) := (foldl_put (List.Pairwise.nil)).1
theorem mem_of {l : List Int} {y : Int} : y ∈ of l ↔ y ∈ l := by
  have := (foldl_put (l := l) (acc := []) List.Pairwise.nil).2 y
  simpa [of] using this
theorem of_snoc (l : List Int) (x : Int) : of (l ++ [x]) = put x (of l) := by simp [of, List.foldl_append]
theorem Asc.ext : ∀ {a b : List Int}, Asc a → Asc b → (∀ x, x ∈ a ↔ x ∈ b) → a = b
  | [], [], _, _, _ => rfl
  | [], y :: b, _, _, h => by have := (h y).2 (by simp); simp at this
  | x :: a, [], _, _, h => by have := (h x).1 (by simp); simp at this
  | x :: a, y :: b, ha, hb, h => by
    have ha' := List.pairwise_cons.1 ha
    have hb' := List.pairwise_cons.1 hb
    have hxy : x = y := by
      rcases List.mem_cons.1 ((h x).1 (by simp)) with e | e
      · exact e
      · rcases List.mem_cons.1 ((h y).2 (by simp)) with e' | e'
        · exact e'.symm
        · have h1 := hb'.1 x e; have h2 := ha'.1 y e'; omega
    subst hxy
    rw [Asc.ext ha'.2 hb'.2 (fun z => ?_)]
    constructor
    · intro hz
      rcases List.mem_cons.1 ((h z).1 (List.mem_cons_of_mem _ hz)) with e | e
      · have := ha'.1 z hz; omega
      · exact e
    · intro hz
      rcases List.mem_cons.1 ((h z).2 (List.mem_cons_of_mem _ hz)) with e | e
      · have := hb'.1 z hz; omega
      · exact e
theorem of_ext {a b : List Int} (h : ∀ x, x ∈ a ↔ x ∈ b) : of a = of b := Asc.ext (asc_of a) (asc_of b) fun x => by rw [mem_of, mem_of]; exact h x
theorem eq_of {a l : List Int} (ha : Asc a) (h : ∀ x, x ∈ a ↔ x ∈ l) : a = of l := Asc.ext ha (asc_of l) fun x => by rw [mem_of]; exact h x
theorem of_asc {a : List Int} (ha : Asc a) : of a = a := (eq_of ha fun _ => Iff.rfl).symm
theorem Asc.filter {a : List Int} (h : Asc a) (p : Int → Bool) : Asc (a.filter p) := List.Pairwise.filter p h
theorem of_len (l : List Int) : (of l).length ≤ l.length := by
  have hp : ∀ (x : Int) (l : List Int), (put x l).length ≤ l.length + 1 := by
    intro x l
    induction l with
    | nil => simp [put]
    | cons z l ih =>
      unfold put
      split
      · simp
      · split
        · simp
        · simp; exact ih
  have : ∀ (l acc : List Int), (l.foldl (fun acc x => put x acc) acc).length ≤ acc.length + l.length := by
    intro l
    induction l with
    | nil => intro acc; simp
    | cons x l ih => intro acc; have h1 := ih (put x acc); have h2 := hp x acc; simp only [List.foldl_cons, List.length_cons]; omega
  have := this l []
  simpa [of] using this
theorem keeps_of_sorted {l : List Int} (hs : l.Pairwise (· ≤ ·)) : ∀ m, m ≤ l.length → Asc (compactUpTo l.toArray m) ∧ (∀ x, x ∈ compactUpTo l.toArray m ↔ x ∈ l.take m) := by
  intro m
  induction m with
  | zero => intro _; exact ⟨by simp [compactUpTo, Asc], by simp [compactUpTo]⟩
  | succ m ih =>
    intro hm
    obtain ⟨h1, h2⟩ := ih (by omega)
    have hml : m < l.length := by omega
    have hg : l.toArray[m]! = l[m] := by rw [getElem!_pos _ _ (by simpa using hml)]; simp
    have ht : l.take (m + 1) = l.take m ++ [l[m]] := List.take_succ_eq_append_getElem hml
    have hle : ∀ x ∈ l.take m, x ≤ l[m] := by
      intro x hx
      obtain ⟨i, hi, rfl⟩ := List.mem_iff_getElem.1 hx
      have hi' : i < m := by rw [List.length_take] at hi; omega
      rw [List.getElem_take]
      exact List.pairwise_iff_getElem.1 hs i m (by omega) hml hi'
    rw [compactUpTo_succ, hg, ht]
    by_cases hk : keeps l.toArray m = true
    · rw [if_pos hk]
      refine ⟨List.pairwise_append.2 ⟨h1, by simp, fun x hx y hy => ?_⟩, fun x => by simp only [List.mem_append, List.mem_singleton, h2]⟩
      obtain rfl := List.mem_singleton.1 hy
      have hx' := (h2 x).1 hx
      have := hle x hx'
      rcases Int.lt_or_le x l[m] with h | h
      · exact h
      · exfalso
        have hm0 : m ≠ 0 := by rintro rfl; simp at hx'
        have hm1 : m - 1 < l.length := by omega
        have hg1 : l.toArray[m - 1]! = l[m - 1] := by rw [getElem!_pos _ _ (by simpa using hm1)]; simp
        unfold keeps at hk
        rw [hg, hg1] at hk
        have hne : l[m] ≠ l[m - 1] := by simpa [hm0] using hk
        have h3 : l[m - 1] ≤ l[m] := List.pairwise_iff_getElem.1 hs (m - 1) m hm1 hml (by omega)
        have h4 : x ≤ l[m - 1] := by
          obtain ⟨i, hi, rfl⟩ := List.mem_iff_getElem.1 hx'
          have hi' : i < m := by rw [List.length_take] at hi; omega
          rw [List.getElem_take]
          by_cases e : i = m - 1
          · subst e; exact Int.le_refl _
          · exact List.pairwise_iff_getElem.1 hs i (m - 1) (by omega) hm1 (by omega)
        omega
    · rw [if_neg hk, List.append_nil]
      refine ⟨h1, fun x => ?_⟩
      rw [h2]
      have hm0 : m ≠ 0 := by rintro rfl; simp [keeps] at hk
      have hm1 : m - 1 < l.length := by omega
      have hg1 : l.toArray[m - 1]! = l[m - 1] := by rw [getElem!_pos _ _ (by simpa using hm1)]; simp
      unfold keeps at hk
      rw [hg, hg1] at hk
      have he : l[m] = l[m - 1] := by simpa [hm0] using hk
      have hin : l[m] ∈ l.take m := by rw [he]; exact List.mem_iff_getElem.2 ⟨m - 1, by rw [List.length_take]; omega, by rw [List.getElem_take]⟩
      simp only [List.mem_append, List.mem_singleton]
      exact ⟨fun h => .inl h, fun h => h.elim id fun e => by rw [e]; exact hin⟩
/-- what sorting and leaving out repetitions makes of a list -/
theorem compact_sort (l : List Int) : compactUpTo (l.mergeSort fun x y => decide (x ≤ y)).toArray l.length = of l := by
  have hs : (l.mergeSort fun x y => decide (x ≤ y)).Pairwise (· ≤ ·) := by
    have := List.pairwise_mergeSort (le := fun x y : Int => decide (x ≤ y)) (fun a b c => by simp; omega) (fun a b => by simp; omega) l
    simpa using this
  have h := keeps_of_sorted hs (l.mergeSort fun x y => decide (x ≤ y)).length (Nat.le_refl _)
  rw [List.length_mergeSort] at h
  refine eq_of h.1 fun x => ?_
  rw [h.2, List.take_of_length_le (by rw [List.length_mergeSort]; exact Nat.le_refl _)]
  exact (List.mergeSort_perm l _).mem_iff
end Go.Proofs.Ytoomgbddfcmjnaa.Zs
