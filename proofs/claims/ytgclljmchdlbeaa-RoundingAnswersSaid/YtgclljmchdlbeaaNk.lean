/- Rounding: what the search finds. -/
import Derived.Test.YtgclljmchdlbeaaNj
import Derived.Test.YtgclljmchdlbeaaNi
namespace Go.Proofs.Ytgclljmchdlbeaa
open Go.RowKit
theorem Rd.In.len {b : Int} : ∀ {q l : List Int}, Rd.In b q l → q.length = l.length
  | [], [], _ => rfl
  | _ :: _, _ :: _, h => by simp [Rd.In.len h.2]
  | [], _ :: _, h => h.elim
  | _ :: _, [], h => h.elim
theorem Rd.In.at {b : Int} : ∀ {q l : List Int}, Rd.In b q l → ∀ i, i < l.length → q.getD i 0 ∈ Rd.mult (l.getD i 0) b
  | [], [], _, i, h => by simp at h
  | y :: q, x :: l, h, 0, _ => h.1
  | y :: q, x :: l, h, i + 1, hi => by simpa using Rd.In.at h.2 i (by simpa using hi)
  | [], _ :: _, h, _, _ => h.elim
  | _ :: _, [], h, _, _ => h.elim
theorem Rd.In.of {b : Int} : ∀ {q l : List Int}, q.length = l.length → (∀ i, i < l.length → q.getD i 0 ∈ Rd.mult (l.getD i 0) b) → Rd.In b q l
  | [], [], _, _ => trivial
  | y :: q, x :: l, h, hi => ⟨by simpa using hi 0 (by simp), Rd.In.of (by simpa using h) (fun i hl => by simpa using hi (i + 1) (by simpa using hl))⟩
  | [], _ :: _, h, _ => by simp at h
  | _ :: _, [], h, _ => by simp at h
theorem Rd.find_some {F : List Int → Bool} {b : Int} : ∀ {l p r : List Int}, Rd.find F b p l = some r → ∃ q, r = p ++ q ∧ F r = true ∧ Rd.In b q l
  | [], p, r, h => by
    unfold Rd.find at h
    split at h
    · rename_i hf
      injection h with h
      subst h
      exact ⟨[], by simp, hf, trivial⟩
    · cases h
  | x :: l, p, r, h => by
    unfold Rd.find at h
    obtain ⟨y, hy, hr⟩ := List.exists_of_findSome?_eq_some h
    obtain ⟨q, hq, hf, hin⟩ := Rd.find_some hr
    exact ⟨y :: q, by rw [hq]; simp, hf, hy, hin⟩
theorem Rd.find_none {F : List Int → Bool} {b : Int} : ∀ {l p : List Int}, Rd.find F b p l = none → ∀ q, Rd.In b q l → F (p ++ q) = false
  | [], p, h, [], _ => by
    unfold Rd.find at h
    split at h
    · cases h
    · rename_i hf; simpa using hf
  | x :: l, p, h, y :: q, hin => by
    unfold Rd.find at h
    have h1 := List.findSome?_eq_none_iff.1 h y hin.1
    have := Rd.find_none h1 q hin.2
    simpa using this
  | [], _, _, _ :: _, hin => hin.elim
  | _ :: _, _, _, [], hin => hin.elim
/-- what differs first in a lesser number doesn't fit -/
theorem Rd.find_least {F : List Int → Bool} {b : Int} (hb : 1 ≤ b) : ∀ {l p q : List Int}, Rd.find F b p l = some (p ++ q) → Rd.In b q l → ∀ i, i < l.length → ∀ q', Rd.In b q' l → (∀ j, j < i → q'.getD j 0 = q.getD j 0) → q'.getD i 0 < q.getD i 0 → F (p ++ q') = false
  | x :: l, p, y :: q, h, hin, i, hi, y' :: q', hin', hj, hlt => by
    unfold Rd.find at h
    rcases i with _ | i
    · have hlt' : y' < y := by simpa using hlt
      have hy := hin.1
      have hy' := hin'.1
      unfold Rd.mult at hy hy' h
      split at hy
      · rename_i h0
        rw [if_pos h0] at hy'
        simp at hy hy'
        omega
      · rename_i h0
        rw [if_neg h0] at hy' h
        have e1 : y' = x - x % b := by
          simp at hy hy'
          omega
        have e2 : y = x - x % b + b := by
          simp at hy hy'
          omega
        have hn : Rd.find F b (p ++ [x - x % b]) l = none := by
          rcases hx : Rd.find F b (p ++ [x - x % b]) l with _ | r
          · rfl
          · exfalso
            rw [List.findSome?_cons, hx] at h
            injection h with h
            obtain ⟨q9, hq9, _, _⟩ := Rd.find_some hx
            rw [hq9] at h
            have h2 : p ++ ((x - x % b) :: q9) = p ++ (y :: q) := by simpa using h
            have h3 := List.append_cancel_left h2
            injection h3 with h3 _
            omega
        have := Rd.find_none hn q' hin'.2
        rw [e1]
        simpa using this
    · have hy : y' = y := by simpa using hj 0 (by omega)
      subst hy
      have hs : Rd.find F b (p ++ [y']) l = some ((p ++ [y']) ++ q) := by
        obtain ⟨z, hz, hr⟩ := List.exists_of_findSome?_eq_some h
        obtain ⟨q9, hq9, _, _⟩ := Rd.find_some hr
        have h2 : p ++ (y' :: q) = p ++ (z :: q9) := by simpa using hq9
        have h3 := List.append_cancel_left h2
        injection h3 with h3 h4
        subst h3
        simpa using hr
      have := Rd.find_least hb hs hin.2 i (by simpa using hi) q' hin'.2 (fun j hjj => by simpa using hj (j + 1) (by omega)) (by simpa using hlt)
      simpa using this
  | [], _, _, _, _, i, hi, _, _, _, _ => by simp at hi
  | _ :: _, _, [], _, hin, _, _, _, _, _, _ => hin.elim
  | _ :: _, _, _ :: _, _, _, _, _, [], hin', _, _ => hin'.elim
theorem Rd.find_id {F : List Int → Bool} {b : Int} : ∀ {l p : List Int}, (∀ x ∈ l, Rd.mult x b = [x]) → F (p ++ l) = true → Rd.find F b p l = some (p ++ l)
  | [], p, _, h => by
    unfold Rd.find
    have : F p = true := by simpa using h
    rw [if_pos this]; simp
  | x :: l, p, hm, h => by
    unfold Rd.find
    rw [hm x (by simp)]
    have := Rd.find_id (F := F) (p := p ++ [x]) (fun z hz => hm z (List.mem_cons_of_mem _ hz)) (by simpa using h)
    rw [List.findSome?_cons, this]
    simp
theorem Rd.mult_mul (x b k : Int) (hk : 1 ≤ k) : Rd.mult (k * x) (k * b) = (Rd.mult x b).map (k * ·) := by
  unfold Rd.mult
  rw [Int.mul_emod_mul_of_pos _ _ (by omega)]
  have h0 : k * (x % b) = 0 ↔ x % b = 0 := by
    rw [Int.mul_eq_zero]; omega
  by_cases h : x % b = 0
  · rw [if_pos (h0.2 h), if_pos h]; simp
  · rw [if_neg (fun h9 => h (h0.1 h9)), if_neg h]
    simp only [List.map_cons, List.map_nil, Int.mul_add, Int.mul_sub]
theorem Rd.find_mul {F G : List Int → Bool} {b k : Int} (hk : 1 ≤ k) (hF : ∀ p, G (p.map (k * ·)) = F p) : ∀ {l p : List Int}, Rd.find G (k * b) (p.map (k * ·)) (l.map (k * ·)) = (Rd.find F b p l).map (List.map (k * ·))
  | [], p => by
    simp only [List.map_nil]
    unfold Rd.find
    rw [hF]
    split <;> rfl
  | x :: l, p => by
    simp only [List.map_cons]
    unfold Rd.find
    rw [Rd.mult_mul x b k hk, List.findSome?_map]
    have e : ((fun y => Rd.find G (k * b) (p.map (k * ·) ++ [y]) (l.map (k * ·))) ∘ (k * ·)) = fun y => (Rd.find F b (p ++ [y]) l).map (List.map (k * ·)) := by
      funext y
      have := Rd.find_mul (l := l) (p := p ++ [y]) hk hF (b := b)
      simpa using this
    rw [e]
    generalize Rd.mult x b = L
    induction L with
    | nil => rfl
    | cons a L ih =>
      rw [List.findSome?_cons, List.findSome?_cons]
      rcases Rd.find F b (p ++ [a]) l with _ | r
      · exact ih
      · rfl
theorem Rd.getD_mul (k : Int) (t : List Int) (i : Nat) : (t.map (k * ·)).getD i 0 = k * t.getD i 0 := by
  simp only [List.getD_eq_getElem?_getD, List.getElem?_map]
  rcases t[i]? with _ | x <;> simp
theorem Rd.row_mul (k : Int) (t : List Int) (n : Nat) : ∀ i, Rd.row (t.map (k * ·)) n i = k * Rd.row t n i
  | 0 => by simp [Rd.row]
  | i + 1 => by
    simp only [Rd.row, Rd.getD_mul, Rd.row_mul k t n i, Int.mul_add]
    split <;> simp
theorem Rd.all_mul (k : Int) (t : List Int) : ∀ i, Rd.all (t.map (k * ·)) i = k * Rd.all t i
  | 0 => by simp [Rd.all]
  | i + 1 => by simp only [Rd.all, Rd.getD_mul, Rd.all_mul k t i, Int.mul_add]
theorem Rd.col_mul (k : Int) (t : List Int) (n j : Nat) : ∀ i, Rd.col (t.map (k * ·)) n j i = k * Rd.col t n j i
  | 0 => by simp [Rd.col]
  | i + 1 => by
    simp only [Rd.col, Rd.getD_mul, Rd.col_mul k t n j i, Int.mul_add]
    split <;> simp
theorem Rd.near_mul (s r b k : Int) (hk : 1 ≤ k) : Rd.near (k * s) (k * r) (k * b) = Rd.near s r b := by
  unfold Rd.near
  rw [← Int.mul_sub, ← Int.mul_sub]
  have h : ∀ x : Int, (k * x < k * b) ↔ x < b := fun x => ⟨fun h => Int.lt_of_mul_lt_mul_left h (by omega), fun h => Int.mul_lt_mul_of_pos_left h (by omega)⟩
  simp [h]
theorem Rd.fits_mul (n K : Nat) (t r : List Int) (b k : Int) (hk : 1 ≤ k) : Rd.fits n K (t.map (k * ·)) (r.map (k * ·)) (k * b) = Rd.fits n K t r b := by
  unfold Rd.fits Rd.okRow
  simp only [Rd.row_mul, Rd.col_mul, Rd.all_mul, Rd.near_mul _ _ _ _ hk]
theorem Rd.near_self (s b : Int) (hb : 1 ≤ b) : Rd.near s s b = true := by simp [Rd.near]; omega
theorem Rd.fits_self (n K : Nat) (t : List Int) (b : Int) (hb : 1 ≤ b) : Rd.fits n K t t b = true := by
  simp [Rd.fits, Rd.okRow, Rd.near_self _ _ hb]
theorem Rd.mult_self {x b : Int} (h : b ∣ x) : Rd.mult x b = [x] := by unfold Rd.mult; rw [if_pos (Int.emod_eq_zero_of_dvd h)]
/-- the rounded table -/
def Rd.best (n : Nat) (t : List Int) (b : Int) : List Int := (Rd.find (fun p => Rd.fits n t.length t p b) b [] t).getD []
structure Rd.Tb (m n : Nat) (t : List Int) (b : Int) : Prop where
  m1 : 1 ≤ m
  m2 : m ≤ 3
  n1 : 1 ≤ n
  n2 : n ≤ 3
  len : t.length = m * n
  b1 : 1 ≤ b
  b2 : b ≤ 20
  sm : ∀ x ∈ t, 0 ≤ x ∧ x ≤ 1000000
theorem Rd.Tb.small {m n : Nat} {t : List Int} {b : Int} (h : Rd.Tb m n t b) : m * n ≤ 9 := Nat.mul_le_mul h.m2 h.n2
theorem Rd.Tb.find {m n : Nat} {t : List Int} {b : Int} (h : Rd.Tb m n t b) : Rd.find (fun p => Rd.fits n t.length t p b) b [] t = some (Rd.best n t b) ∧ Rd.In b (Rd.best n t b) t ∧ Rd.fits n t.length t (Rd.best n t b) b = true := by
  obtain ⟨q, hq, hf⟩ := Rd.exists_ m n ⟨h.m1, h.m2⟩ ⟨h.n1, h.n2⟩ t h.len b h.b1
  rcases hx : Rd.find (fun p => Rd.fits n t.length t p b) b [] t with _ | r
  · have h9 := Rd.find_none hx q hq
    simp only [List.nil_append] at h9
    rw [h.len, hf] at h9; cases h9
  · obtain ⟨q9, h1, h2, h3⟩ := Rd.find_some hx
    have e : Rd.best n t b = r := by unfold Rd.best; rw [hx]; rfl
    rw [e]
    simp only [List.nil_append] at h1
    subst h1
    exact ⟨rfl, h3, h2⟩
theorem Rd.Tb.round {m n : Nat} {t : List Int} {b : Int} (h : Rd.Tb m n t b) (A : Option Addr) (k c : Nat) (w : World) (hN : Nums w .i64 w.heap.size A k c t) :
    Calls Try.prog 14 #[.int .i64 m, .int .i64 n, .slice A k c, .int .i64 b] w fun e w' => ∃ v, e = .returned (.tuple #[v, .int .i64 0]) ∧ Own w' w.heap.size 3 .i64 v (Rd.best n t b) ∧ Below w.heap.size w w' := by
  have hk : k = m * n := by rw [← hN.len]; exact h.len
  refine (round34 m n h.m1 h.n1 (by have := h.small; omega) A k c (Lib.hid hk) t h.sm b h.b1 h.b2 w hN).mono ?_
  rintro e w' ⟨v, rfl, hb, HX⟩
  have hf := h.find.1
  rw [hN.len] at hf
  rcases HX.out with ⟨h1, _⟩ | ⟨r, h1, h2⟩
  · rw [h1] at hf; cases hf
  · rw [h1] at hf
    injection hf with hf
    subst hf
    exact ⟨v, rfl, h2, hb⟩
end Go.Proofs.Ytgclljmchdlbeaa
