/- What two ascending lists have in common. -/
import Derived.Test.YtihgopiocjflcaaYa
import Derived.Test.YtihgopiocjflcaaZs
namespace Go.Proofs.Ytihgopiocjflcaa
open Go.RowKit
def Cn.meet (a b : List Int) : List Int := a.filter fun x => decide (x ∈ b)
/-- i of a and k of b are looked at -/
structure Cn.Two (a b : List Int) (i k : Nat) : Prop where
  lo : ∀ x ∈ a.drop i, ∀ y ∈ b.take k, y < x
  hi : ∀ x ∈ a.take i, ∀ y ∈ b.drop k, x < y
theorem Cn.Two.start (a b : List Int) : Cn.Two a b 0 0 := ⟨fun _ _ _ h => by simp at h, fun _ h => by simp at h⟩
theorem Cn.drop_at {a : List Int} {i : Nat} (h : i < a.length) : a.drop i = a.getD i 0 :: a.drop (i + 1) := by
  rw [List.drop_eq_getElem_cons h]; simp [List.getD, h]
theorem Cn.asc_drop {a : List Int} (ha : Zs.Asc a) {i : Nat} (h : i < a.length) : ∀ x ∈ a.drop (i + 1), a.getD i 0 < x := by
  have h1 : (a.drop i).Pairwise (· < ·) := List.Pairwise.sublist (List.drop_sublist i a) ha
  rw [Cn.drop_at h] at h1
  exact (List.pairwise_cons.1 h1).1
theorem Cn.asc_take {a : List Int} (ha : Zs.Asc a) {i : Nat} (h : i < a.length) : ∀ x ∈ a.take i, x < a.getD i 0 := by
  intro x hx
  have h1 : (a.take i ++ a.drop i).Pairwise (· < ·) := by rw [List.take_append_drop]; exact ha
  rw [List.pairwise_append] at h1
  exact h1.2.2 x hx _ (by rw [Cn.drop_at h]; simp)
theorem Cn.take_at {a : List Int} {i : Nat} (h : i < a.length) : a.take (i + 1) = a.take i ++ [a.getD i 0] := by
  rw [List.take_succ_eq_append_getElem h]; simp [List.getD, h]
/-- the first is less -/
theorem Cn.Two.less {a b : List Int} (hb : Zs.Asc b) {i k : Nat} (h : Cn.Two a b i k) (hi : i < a.length) (hk : k < b.length) (hlt : a.getD i 0 < b.getD k 0) : Cn.Two a b (i + 1) k ∧ Cn.meet (a.take (i + 1)) b = Cn.meet (a.take i) b := by
  have hnot : a.getD i 0 ∉ b := by
    intro hm
    rw [← List.take_append_drop k b, List.mem_append] at hm
    rcases hm with hm | hm
    · have := h.lo (a.getD i 0) (by rw [Cn.drop_at hi]; exact List.mem_cons_self) _ hm; omega
    · rw [Cn.drop_at hk] at hm
      rcases List.mem_cons.1 hm with hm | hm
      · omega
      · have := Cn.asc_drop hb hk _ hm; omega
  refine ⟨⟨fun x hx y hy => h.lo x (by rw [Cn.drop_at hi]; exact List.mem_cons_of_mem _ hx) y hy, fun x hx y hy => ?_⟩, ?_⟩
  · rw [Cn.take_at hi, List.mem_append] at hx
    rcases hx with hx | hx
    · exact h.hi x hx y hy
    · rw [List.mem_singleton.1 hx]
      rw [Cn.drop_at hk] at hy
      rcases List.mem_cons.1 hy with rfl | hy
      · exact hlt
      · have := Cn.asc_drop hb hk _ hy; omega
  · unfold Cn.meet
    rw [Cn.take_at hi, List.filter_append]
    generalize a.getD i 0 = z at *
    simp [hnot]
theorem Cn.Two.more {a b : List Int} (ha : Zs.Asc a) {i k : Nat} (h : Cn.Two a b i k) (hi : i < a.length) (hk : k < b.length) (hlt : b.getD k 0 < a.getD i 0) : Cn.Two a b i (k + 1) := by
  refine ⟨fun x hx y hy => ?_, fun x hx y hy => h.hi x hx y (by rw [Cn.drop_at hk]; exact List.mem_cons_of_mem _ hy)⟩
  rw [Cn.take_at hk, List.mem_append] at hy
  rcases hy with hy | hy
  · exact h.lo x hx y hy
  · rw [List.mem_singleton.1 hy]
    rw [Cn.drop_at hi] at hx
    rcases List.mem_cons.1 hx with rfl | hx
    · exact hlt
    · have := Cn.asc_drop ha hi _ hx; omega
theorem Cn.Two.same {a b : List Int} (ha : Zs.Asc a) (hb : Zs.Asc b) {i k : Nat} (h : Cn.Two a b i k) (hi : i < a.length) (hk : k < b.length) (he : a.getD i 0 = b.getD k 0) : Cn.Two a b (i + 1) (k + 1) ∧ Cn.meet (a.take (i + 1)) b = Cn.meet (a.take i) b ++ [a.getD i 0] := by
  have hm : a.getD i 0 ∈ b := by rw [he, List.getD_eq_getElem?_getD, List.getElem?_eq_getElem hk]; exact List.getElem_mem hk
  refine ⟨⟨fun x hx y hy => ?_, fun x hx y hy => ?_⟩, ?_⟩
  · rw [Cn.take_at hk, List.mem_append] at hy
    rcases hy with hy | hy
    · exact h.lo x (by rw [Cn.drop_at hi]; exact List.mem_cons_of_mem _ hx) y hy
    · rw [List.mem_singleton.1 hy, ← he]
      exact Cn.asc_drop ha hi x hx
  · rw [Cn.take_at hi, List.mem_append] at hx
    rcases hx with hx | hx
    · exact h.hi x hx y (by rw [Cn.drop_at hk]; exact List.mem_cons_of_mem _ hy)
    · rw [List.mem_singleton.1 hx, he]
      exact Cn.asc_drop hb hk y hy
  · unfold Cn.meet
    rw [Cn.take_at hi, List.filter_append]
    generalize a.getD i 0 = z at *
    simp [hm]
theorem Cn.Two.done {a b : List Int} {i k : Nat} (h : Cn.Two a b i k) (he : a.length ≤ i ∨ b.length ≤ k) : Cn.meet (a.take i) b = Cn.meet a b := by
  rcases he with he | he
  · rw [List.take_of_length_le he]
  · have h0 : Cn.meet (a.drop i) b = [] := by
      unfold Cn.meet
      rw [List.filter_eq_nil_iff]
      intro x hx hm
      have := h.lo x hx x (by rw [List.take_of_length_le he]; exact of_decide_eq_true hm)
      omega
    have h1 : Cn.meet a b = Cn.meet (a.take i) b ++ Cn.meet (a.drop i) b := by unfold Cn.meet; rw [← List.filter_append, List.take_append_drop]
    rw [h1, h0, List.append_nil]
def Cn.conc (cs : List (Int × List Int)) (S : List Int) : List (Int × List Int) := cs.filterMap fun p => if Cn.meet p.2 S = [] then none else some (p.1, Cn.meet p.2 S)
def Cn.has (cs : List (Int × List Int)) (o k : Int) : Bool := cs.any fun p => decide (p.1 = o) && decide (k ∈ p.2)
theorem Cn.has_conc {cs : List (Int × List Int)} {o k : Int} {keys : List Int} (S : List Int) (hm : (o, keys) ∈ cs) (hk : k ∈ keys) : Cn.has (Cn.conc cs S) o k = decide (k ∈ S) := by
  rw [Bool.eq_iff_iff, decide_eq_true_eq]
  unfold Cn.has Cn.conc
  rw [List.any_eq_true]
  constructor
  · rintro ⟨p, hp, hh⟩
    obtain ⟨q, _, hq⟩ := List.mem_filterMap.1 hp
    split at hq
    · cases hq
    · injection hq with hq
      subst hq
      simp only [Bool.and_eq_true, decide_eq_true_eq] at hh
      have := (List.mem_filter.1 hh.2).2
      exact of_decide_eq_true this
  · intro hS
    have hmm : k ∈ Cn.meet keys S := List.mem_filter.2 ⟨hk, decide_eq_true hS⟩
    refine ⟨(o, Cn.meet keys S), List.mem_filterMap.2 ⟨(o, keys), hm, ?_⟩, by simp [hmm]⟩
    rw [if_neg (fun e => by simp only at e; rw [e] at hmm; cases hmm)]
end Go.Proofs.Ytihgopiocjflcaa
