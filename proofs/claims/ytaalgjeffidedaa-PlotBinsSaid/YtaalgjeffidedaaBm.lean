/- Bins: what a sorted list of lower bounds becomes, and what its bins say. -/
import Derived.Test.YtaalgjeffidedaaZs
namespace Go.Proofs.Ytaalgjeffidedaa.Zs
theorem put_mem' {x : Int} : ∀ {l : List Int}, Asc l → x ∈ l → put x l = l
  | [], _, h => by cases h
  | y :: l, ha, h => by
    have ha' := List.pairwise_cons.1 ha
    unfold put
    rcases List.mem_cons.1 h with rfl | h
    · rw [if_neg (by omega), if_pos rfl]
    · have := ha'.1 x h
      rw [if_neg (by omega), if_neg (by omega), put_mem' ha'.2 h]
theorem put_last' {x : Int} : ∀ {a : List Int}, (∀ z ∈ a, z < x) → put x a = a ++ [x]
  | [], _ => rfl
  | y :: a, h => by
    have := h y (by simp)
    unfold put
    rw [if_neg (by omega), if_neg (by omega), put_last' fun z hz => h z (List.mem_cons_of_mem _ hz)]
    rfl
end Go.Proofs.Ytaalgjeffidedaa.Zs
namespace Go.Proofs.Ytaalgjeffidedaa.Pb
open Zs (Asc of)
/-- the greatest multiple of w that is at most v -/
def fl (w v : Int) : Int := v - v % w
theorem fl_mod {w v : Int} : (fl w v) % w = 0 := by
  unfold fl; rw [Int.sub_emod, Int.emod_emod]; simp
theorem fl_iff {w v x : Int} (hw : 1 ≤ w) (hx : x % w = 0) : fl w v = x ↔ x ≤ v ∧ v < x + w := by
  unfold fl
  have h1 := Int.emod_nonneg v (show w ≠ 0 by omega)
  have h2 := Int.emod_lt_of_pos v (show 0 < w by omega)
  constructor
  · intro h; omega
  · rintro ⟨h3, h4⟩
    have hd : (v - x) % w = v - x := Int.emod_eq_of_lt (by omega) (by omega)
    have : v % w = v - x := by rw [← hd, Int.sub_emod, hx]; simp
    omega
theorem fl_bd {w v : Int} (hw : 1 ≤ w) : v - w < fl w v ∧ fl w v ≤ v := by
  unfold fl
  have h1 := Int.emod_nonneg v (show w ≠ 0 by omega)
  have h2 := Int.emod_lt_of_pos v (show 0 < w by omega)
  omega
/-- runs of a list -/
def step (acc : List (Int × Int)) (x : Int) : List (Int × Int) :=
  match acc.getLast? with
  | none => [(x, 1)]
  | some (y, c) => if x = y then acc.dropLast ++ [(y, c + 1)] else acc ++ [(x, 1)]
def runs (l : List Int) : List (Int × Int) := l.foldl step []
theorem runs_snoc (l : List Int) (x : Int) : runs (l ++ [x]) = step (runs l) x := by simp [runs, List.foldl_append]
def cnt (l : List Int) (x : Int) : Int := (l.filter fun y => decide (y = x)).length
theorem cnt_snoc (l : List Int) (x y : Int) : cnt (l ++ [x]) y = cnt l y + if x = y then 1 else 0 := by
  unfold cnt
  rw [List.filter_append]
  by_cases h : x = y <;> simp [h]
theorem cnt_perm {l l' : List Int} (h : l.Perm l') (x : Int) : cnt l x = cnt l' x := by unfold cnt; rw [(h.filter _).length_eq]
theorem cnt_zero {l : List Int} {x : Int} (h : x ∉ l) : cnt l x = 0 := by
  unfold cnt
  rw [List.filter_eq_nil_iff.2 fun y hy => by simp; rintro rfl; exact h hy]; rfl
theorem cnt_pos {l : List Int} {x : Int} (h : x ∈ l) : 0 < cnt l x := by
  unfold cnt
  have : x ∈ l.filter fun y => decide (y = x) := List.mem_filter.2 ⟨h, by simp⟩
  have := List.length_pos_of_mem this
  omega
theorem cnt_le (l : List Int) (x : Int) : cnt l x ≤ l.length := by
  unfold cnt; have := List.length_filter_le (fun y => decide (y = x)) l; omega
/-- the bins of a list of lower bounds -/
def bins (l : List Int) : List (Int × Int) := (of l).map fun x => (x, cnt l x)
theorem runs_eq : ∀ (n : Nat) (l : List Int), l.length = n → l.Pairwise (· ≤ ·) → runs l = bins l ∧ (∀ x, l.getLast? = some x → ∃ c, (runs l).getLast? = some (x, c)) := by
  intro n
  induction n with
  | zero =>
    intro l hl _
    obtain rfl := List.eq_nil_of_length_eq_zero hl
    exact ⟨rfl, by simp⟩
  | succ n ih =>
    intro l hl hs
    obtain ⟨a, x, rfl⟩ : ∃ a x, l = a ++ [x] := ⟨l.dropLast, l.getLast (by intro h; rw [h] at hl; cases hl), (List.dropLast_concat_getLast _).symm⟩
    have hs' := List.pairwise_append.1 hs
    have hle : ∀ y ∈ a, y ≤ x := fun y hy => hs'.2.2 y hy x (by simp)
    obtain ⟨h1, h2⟩ := ih a (by simpa using hl) hs'.1
    rw [runs_snoc]
    have hof : of (a ++ [x]) = Zs.put x (of a) := Zs.of_snoc a x
    have hcnt : ∀ y, cnt (a ++ [x]) y = cnt a y + if x = y then 1 else 0 := cnt_snoc a x
    unfold step
    rcases hg : a.getLast? with _ | z
    · have ha : a = [] := List.getLast?_eq_none_iff.1 hg
      subst ha
      simp [runs, bins, of, Zs.put, cnt]
    · obtain ⟨c, hc⟩ := h2 z hg
      rw [hc]
      have hza : z ∈ a := List.mem_of_getLast? hg
      have hmax : ∀ y ∈ a, y ≤ z := by
        intro y hy
        obtain ⟨b, rfl⟩ : ∃ b, a = b ++ [z] := List.getLast?_eq_some_iff.1 hg
        rcases List.mem_append.1 hy with h | h
        · exact (List.pairwise_append.1 hs'.1).2.2 y h z (by simp)
        · have := List.mem_singleton.1 h; omega
      have hofl : ∃ b, of a = b ++ [z] ∧ ∀ y ∈ b, y < z := by
        have hz : z ∈ of a := Zs.mem_of.2 hza
        have hA := Zs.asc_of a
        have hall : ∀ y ∈ of a, y ≤ z := fun y hy => hmax y (Zs.mem_of.1 hy)
        obtain ⟨b1, b2, hb⟩ := List.append_of_mem hz
        rw [hb] at hA hall
        have hA' := List.pairwise_append.1 hA
        have hb2 : b2 = [] := by
          rcases b2 with _ | ⟨u, b2⟩
          · rfl
          · have h3 := (List.pairwise_cons.1 hA'.2.1).1 u (by simp)
            have h4 := hall u (by simp)
            omega
        subst hb2
        exact ⟨b1, hb, fun y hy => hA'.2.2 y hy z (by simp)⟩
      obtain ⟨b, hb, hbz⟩ := hofl
      simp only
      by_cases hxz : x = z
      · subst hxz
        rw [if_pos rfl, h1]
        have hput : of (a ++ [x]) = b ++ [x] := by rw [hof, Zs.put_mem' (Zs.asc_of a) (Zs.mem_of.2 hza), hb]
        constructor
        · have hcx : c = cnt a x := by
            rw [h1] at hc
            unfold bins at hc
            rw [hb, List.map_append] at hc
            simp at hc
            exact hc.symm
          unfold bins
          rw [hb, hput, List.map_append, List.map_append]
          simp only [List.map_cons, List.map_nil, List.dropLast_concat]
          congr 1
          · exact List.map_congr_left fun y hy => by rw [hcnt, if_neg (by have := hbz y hy; omega)]; simp
          · rw [hcnt, if_pos rfl, hcx]
        · intro y hy
          rw [List.getLast?_append] at hy
          simp at hy
          subst hy
          exact ⟨c + 1, by simp⟩
      · have hzx : z < x := by have := hle z hza; omega
        rw [if_neg hxz, h1]
        have hput : of (a ++ [x]) = of a ++ [x] := by rw [hof, Zs.put_last' fun y hy => by have := hmax y (Zs.mem_of.1 hy); omega]
        constructor
        · unfold bins
          rw [hput, List.map_append]
          have hxa : x ∉ a := fun h => by have := hmax x h; omega
          congr 1
          · exact List.map_congr_left fun y hy => by
              rw [hcnt, if_neg (by rintro rfl; exact hxa (Zs.mem_of.1 hy))]; simp
          · simp only [List.map_cons, List.map_nil]
            rw [hcnt, if_pos rfl, cnt_zero hxa]; rfl
        · intro y hy
          rw [List.getLast?_append] at hy
          simp at hy
          subst hy
          exact ⟨1, by simp⟩
end Go.Proofs.Ytaalgjeffidedaa.Pb
