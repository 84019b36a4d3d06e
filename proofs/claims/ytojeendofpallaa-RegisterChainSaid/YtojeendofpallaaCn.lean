/- Cells: members, published sums: the arithmetic. -/
import Derived.Test.YtojeendofpallaaCm
namespace Go.Proofs.Ytojeendofpallaa.Ce
/-- those below j of which f is k -/
def memb (f : Nat → Int) (k : Int) (j : Nat) : List Int := ((List.range j).filter fun c => decide (f c = k)).map fun c : Nat => (c : Int)
theorem memb_succ (f : Nat → Int) (k : Int) (j : Nat) : memb f k (j + 1) = memb f k j ++ if f j = k then [(j : Int)] else [] := by
  unfold memb
  rw [List.range_succ, List.filter_append, List.map_append]
  by_cases h : f j = k <;> simp [h]
theorem memb_len (f : Nat → Int) (k : Int) (j : Nat) : (memb f k j).length ≤ j := by
  unfold memb
  rw [List.length_map]
  exact Nat.le_trans (List.length_filter_le _ _) (by simp)
theorem memb_wf (f : Nat → Int) (k : Int) (j : Nat) (hj : j ≤ 1000) : ∀ x ∈ memb f k j, (Lit.int .i64 x).wf = true := by
  intro x hx
  obtain ⟨c, hc, rfl⟩ := List.mem_map.1 hx
  have := List.mem_range.1 (List.mem_filter.1 hc).1
  exact Go.WalkArith.wf_i64 (by omega)
/-- the sum of a table over those below j of which f is k -/
def psum (f : Nat → Int) (t : List Int) (k : Int) : Nat → Int
  | 0 => 0
  | j + 1 => psum f t k j + if f j = k then t.getD j 0 else 0
theorem psum_bd {f : Nat → Int} {t : List Int} (ht : ∀ j, j < t.length → 0 ≤ t.getD j 0 ∧ t.getD j 0 ≤ 1000000) (k : Int) : ∀ j, j ≤ t.length → 0 ≤ psum f t k j ∧ psum f t k j ≤ 1000000 * j
  | 0, _ => by simp [psum]
  | j + 1, hj => by
    have h1 := psum_bd (f := f) ht k j (by omega)
    have h2 := ht j (by omega)
    simp only [psum]
    split <;> omega
def pubs (f : Nat → Int) (t : List Int) (M j : Nat) : List Int := (List.range M).map fun k : Nat => psum f t (k : Int) j
theorem pubs_len (f : Nat → Int) (t : List Int) (M j : Nat) : (pubs f t M j).length = M := by simp [pubs]
theorem pubs_zero (f : Nat → Int) (t : List Int) (M : Nat) : pubs f t M 0 = List.replicate M 0 := by
  refine List.ext_getElem (by simp [pubs]) fun i h1 h2 => ?_
  simp [pubs, psum]
theorem pubs_get {f : Nat → Int} {t : List Int} {M j k : Nat} (hk : k < M) : (pubs f t M j).getD k 0 = psum f t k j := by simp [pubs, List.getD, hk]
theorem pubs_out {f : Nat → Int} {t : List Int} {M j : Nat} (h : f j = -1) : pubs f t M (j + 1) = pubs f t M j := by
  unfold pubs
  refine List.map_congr_left fun k hk => ?_
  simp only [psum]
  rw [if_neg (by omega)]; omega
theorem pubs_in {f : Nat → Int} {t : List Int} {M j k : Nat} (h : f j = (k : Int)) : pubs f t M (j + 1) = (pubs f t M j).set k (psum f t k j + t.getD j 0) := by
  refine List.ext_getElem (by simp [pubs]) fun i h1 h2 => ?_
  simp only [pubs, List.getElem_map, List.getElem_range, List.getElem_set, psum]
  by_cases hik : k = i
  · subst hik; rw [if_pos h, if_pos rfl]
  · rw [if_neg hik, if_neg (by omega)]; omega
theorem pubs_wf {f : Nat → Int} {t : List Int} (ht : ∀ j, j < t.length → 0 ≤ t.getD j 0 ∧ t.getD j 0 ≤ 1000000) {M j : Nat} (hj : j ≤ t.length) (hj2 : j ≤ 1000) : ∀ x ∈ pubs f t M j, (Lit.int .i64 x).wf = true :=
  map_range_wf fun k _ => by have := psum_bd (f := f) ht k j hj; omega
theorem ownf_bd {ss : List Int} {vs : List (List Int)} (hs : Space ss) (h : View ss vs) (c : Nat) : ownf ss vs c = -1 ∨ (0 ≤ ownf ss vs c ∧ ownf ss vs c < published vs) := by
  rcases owner_bd hs h (c : Int) with ⟨h1, _⟩ | ⟨_, h1, h2, _⟩
  · exact .inl h1
  · exact .inr ⟨h1, h2⟩
theorem owns_wf {ss : List Int} {vs : List (List Int)} (hs : Space ss) (h : View ss vs) (N : Nat) : ∀ x ∈ (List.range N).map (ownf ss vs), (Lit.int .i64 x).wf = true :=
  map_range_wf fun c _ => by have := ownf_bd hs h c; have := published_bd hs h; omega
theorem range_get {N : Nat} {f : Nat → Int} {j : Nat} (hj : j < N) : ((List.range N).map f).getD j 0 = f j := by simp [List.getD, hj]
end Go.Proofs.Ytojeendofpallaa.Ce
