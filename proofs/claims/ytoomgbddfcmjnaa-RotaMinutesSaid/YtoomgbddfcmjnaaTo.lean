/- Rota: who is on duty, each once, ascending; what Pairs tells. -/
import Derived.Test.YtoomgbddfcmjnaaTm
import Derived.Sort.Walk0
namespace Go.Proofs.Ytoomgbddfcmjnaa
open Go.RowKit
theorem Sf.who_nodup {L : List Sf} (h : Sf.Ok L) (t : Int) : (Sf.who L t).Nodup := by
  unfold Sf.who List.Nodup
  rw [List.pairwise_map, List.pairwise_filter]
  refine h.pw.imp fun {a b} hab ha hb e => ?_
  have hp : a.p = b.p := txOf_inj e
  simp only [Sf.has, Bool.and_eq_true, decide_eq_true_eq] at ha hb
  have : Sf.meet a b = true := Sf.meet_iff.2 ⟨by rw [hp], by omega, by omega⟩
  rw [hab.2] at this
  cases this
theorem tx_total (a b : Tx) : (decide (a ≤ b) || decide (b ≤ a)) = true := by
  simp only [Bool.or_eq_true, decide_eq_true_eq]
  exact List.le_total a b
theorem Sf.onl_sorted (L : List Sf) (t : Int) : (Sf.onl L t).Pairwise (fun x y => x ≤ y) := by
  have := List.pairwise_mergeSort (le := fun x y : Tx => decide (x ≤ y)) (fun a b c h1 h2 => by
    simp only [decide_eq_true_eq] at *
    exact List.le_trans h1 h2) (fun a b => tx_total a b) (Sf.who L t)
  exact this.imp fun h => by simpa using h
theorem Sf.onl_asc {L : List Sf} (h : Sf.Ok L) (t : Int) : (Sf.onl L t).Pairwise (fun x y => x < y) := by
  have h1 := Sf.onl_sorted L t
  have h2 : (Sf.onl L t).Nodup := (List.mergeSort_perm (Sf.who L t) _).nodup_iff.2 (Sf.who_nodup h t)
  refine (List.Pairwise.and h1 h2).imp fun {a b} hab => ?_
  rcases Decidable.em (a < b) with h | h
  · exact h
  · exact absurd (List.le_antisymm hab.1 h) hab.2
theorem Sf.onl_mem {L : List Sf} {t : Int} {x : Tx} : x ∈ Sf.onl L t ↔ x ∈ Sf.who L t := (List.mergeSort_perm (Sf.who L t) _).mem_iff
/-- the times at which the number changes, each with the number -/
def Sf.chg (c : Int → Int) : List Int → Int → List Int
  | [], _ => []
  | t :: T, b => if c t ≠ b then t :: c t :: Sf.chg c T (c t) else Sf.chg c T b
def Sf.cnt (L : List Sf) (t : Int) : Int := ((Sf.onl L t).length : Int)
theorem Sf.chg_cons (c : Int → Int) (t : Int) (T : List Int) (b : Int) : Sf.chg c (t :: T) b = if c t ≠ b then t :: c t :: Sf.chg c T (c t) else Sf.chg c T b := rfl
theorem Sf.pst_chg (L : List Sf) (T : List Int) : (Sf.pst L T).1 = Sf.chg (Sf.cnt L) T 0 := by
  suffices h : ∀ (T : List Int) (s : List Int × Int), (T.foldl (fun s t => if ((Sf.onl L t).length : Int) ≠ s.2 then (s.1 ++ [t, ((Sf.onl L t).length : Int)], ((Sf.onl L t).length : Int)) else s) s).1 = s.1 ++ Sf.chg (Sf.cnt L) T s.2 by
    have := h T ([], 0)
    unfold Sf.pst
    rw [this]; rfl
  intro T
  induction T with
  | nil => intro s; simp [Sf.chg]
  | cons t T ih =>
    intro s
    rw [List.foldl_cons, ih, Sf.chg_cons]
    by_cases hc : ((Sf.onl L t).length : Int) ≠ s.2
    · rw [if_pos hc, if_pos (show Sf.cnt L t ≠ s.2 from hc)]; simp [Sf.cnt]
    · rw [if_neg hc, if_neg (show ¬ Sf.cnt L t ≠ s.2 from hc)]
theorem Sf.chg_even (c : Int → Int) : ∀ (T : List Int) (b : Int), (Sf.chg c T b).length % 2 = 0
  | [], b => rfl
  | t :: T, b => by
    unfold Sf.chg
    have h1 := Sf.chg_even c T (c t)
    have h2 := Sf.chg_even c T b
    split
    · simp only [List.length_cons]; omega
    · exact h2
theorem Sf.chg_head {c : Int → Int} : ∀ {T : List Int} {b x : Int} {P : List Int}, Sf.chg c T b = x :: P → x ∈ T
  | [], b, x, P, h => by simp [Sf.chg] at h
  | t :: T, b, x, P, h => by
    unfold Sf.chg at h
    split at h
    · injection h with h _
      rw [h]; simp
    · exact List.mem_cons_of_mem _ (Sf.chg_head h)
def Sf.from (T : List Int) (t : Int) : List Int := T.filter fun x => decide (t ≤ x)
theorem Sf.from_in {T : List Int} (h : Zs.Asc T) {t : Int} (ht : t ∈ T) : Sf.from T t = t :: Sf.from T (t + 1) := by
  obtain ⟨xs, ys, rfl⟩ := List.append_of_mem ht
  obtain ⟨_, h2, h3⟩ := List.pairwise_append.1 h
  have h4 := (List.pairwise_cons.1 h2).1
  have e1 : ∀ b : Int, t ≤ b → xs.filter (fun x => decide (b ≤ x)) = [] := fun b hb => List.filter_eq_nil_iff.2 fun a ha => by have := h3 a ha t (by simp); simp; omega
  have e2 : ys.filter (fun x => decide (t ≤ x)) = ys.filter fun x => decide (t + 1 ≤ x) := List.filter_congr fun a ha => by
    have := h4 a ha
    rw [Bool.eq_iff_iff, decide_eq_true_eq, decide_eq_true_eq]; omega
  unfold Sf.from
  rw [List.filter_append, List.filter_append, e1 t (Int.le_refl _), e1 (t + 1) (by omega), List.nil_append, List.nil_append, List.filter_cons, List.filter_cons, if_pos (by simp), if_neg (by simp; omega), e2]
theorem Sf.from_out {T : List Int} {t : Int} (ht : t ∉ T) : Sf.from T t = Sf.from T (t + 1) := by
  unfold Sf.from
  refine List.filter_congr fun a ha => ?_
  have : a ≠ t := fun e => ht (by rw [← e]; exact ha)
  rw [Bool.eq_iff_iff, decide_eq_true_eq, decide_eq_true_eq]; omega
/-- how far a walk over the minutes has come: what is left of the pairs, and the number before -/
def Sf.rest (L : List Sf) (a b t now : Int) (P : List Int) : Prop := P = Sf.chg (Sf.cnt L) (Sf.from (Zs.of (Sf.tms L a b)) t) now
theorem Sf.rest_start (L : List Sf) (a b : Int) (h0 : 0 ≤ a ∧ a < b ∧ b ≤ 1073741824) (h : Sf.Ok L) : (Sf.prs L a b) = ((Sf.prs L a b).1, 0) ∧ Sf.rest L a b a 0 (Sf.prs L a b).1 := by
  have e : Sf.prs L a b = ((Sf.pst L (Zs.of (Sf.tms L a b))).1, 0) := by
    unfold Sf.prs
    rw [if_neg (by simpa using Sf.chk_ok.2 h), if_neg (by omega)]
  rw [e]
  refine ⟨rfl, ?_⟩
  unfold Sf.rest
  show (Sf.pst L (Zs.of (Sf.tms L a b))).1 = _
  rw [Sf.pst_chg]
  congr 1
  unfold Sf.from
  symm
  rw [List.filter_eq_self]
  intro x hx
  rcases Sf.mem_tms.1 (Zs.mem_of.1 hx) with rfl | h1
  · simp
  · simp; omega
theorem Sf.cnt_step {L : List Sf} {a b t : Int} (h1 : a < t) (h2 : t < b) (hn : t ∉ Zs.of (Sf.tms L a b)) : Sf.cnt L t = Sf.cnt L (t - 1) := by
  have hst : Sf.still L (t - 1) t := fun s hs => by
    have hf : ¬ (t = s.f ∨ t = s.u) := fun h => hn (Zs.mem_of.2 (Sf.mem_tms.2 (.inr ⟨h1, h2, s, hs, h⟩)))
    omega
  unfold Sf.cnt Sf.onl
  rw [Sf.who_still hst (by omega)]
/-- a step of the walk: what is popped at a time -/
theorem Sf.rest_step {L : List Sf} {a b t now : Int} {P : List Int} (h : Sf.rest L a b t now P) (h1 : a ≤ t) (h2 : t < b) (hnow : (t = a ∧ now = 0) ∨ (a < t ∧ now = Sf.cnt L (t - 1))) :
    (∃ Q, P = t :: Sf.cnt L t :: Q ∧ Sf.cnt L t ≠ now ∧ Sf.rest L a b (t + 1) (Sf.cnt L t) Q) ∨ (now = Sf.cnt L t ∧ Sf.rest L a b (t + 1) (Sf.cnt L t) P) := by
  unfold Sf.rest at *
  by_cases hm : t ∈ Zs.of (Sf.tms L a b)
  · rw [Sf.from_in (Zs.asc_of _) hm] at h
    unfold Sf.chg at h
    by_cases hc : Sf.cnt L t ≠ now
    · rw [if_pos hc] at h
      exact .inl ⟨_, h, hc, rfl⟩
    · rw [if_neg hc] at h
      have hc' : now = Sf.cnt L t := by
        rcases Decidable.em (Sf.cnt L t = now) with e | e
        · exact e.symm
        · exact absurd e hc
      exact .inr ⟨hc', by rw [← hc']; exact h⟩
  · rw [Sf.from_out hm] at h
    rcases hnow with ⟨rfl, _⟩ | ⟨h3, h4⟩
    · exact absurd (Zs.mem_of.2 (Sf.mem_tms.2 (.inl rfl))) hm
    · have hc' : now = Sf.cnt L t := by rw [h4, Sf.cnt_step h3 h2 hm]
      exact .inr ⟨hc', by rw [← hc']; exact h⟩
/-- what is left begins later -/
theorem Sf.rest_head {L : List Sf} {a b t now x : Int} {P : List Int} (h : Sf.rest L a b t now (x :: P)) : t ≤ x ∧ x < b ∨ x = a ∧ t ≤ a := by
  unfold Sf.rest at h
  have hm := Sf.chg_head h.symm
  unfold Sf.from at hm
  obtain ⟨h1, h2⟩ := List.mem_filter.1 hm
  have h2 : t ≤ x := by simpa using h2
  rcases Sf.mem_tms.1 (Zs.mem_of.1 h1) with rfl | h3
  · exact .inr ⟨rfl, h2⟩
  · exact .inl ⟨h2, h3.2.1⟩
theorem Sf.rest_end {L : List Sf} {a b now : Int} {P : List Int} (hab : a < b) (h : Sf.rest L a b b now P) : P = [] := by
  cases P with
  | nil => rfl
  | cons x P =>
    have := Sf.rest_head h
    omega
end Go.Proofs.Ytoomgbddfcmjnaa
