/- Cells and views: products, numbers of cells, places, groups, owners: the arithmetic. -/
import Derived.WalkKit
namespace Go.Proofs.Ytojeendofpallaa.Ce
/-- the product of the first j numbers -/
def prodN (l : List Int) : Nat → Int
  | 0 => 1
  | j + 1 => prodN l j * l.getD j 0
/-- the number of a list of places, of the first j dimensions -/
def numN (ss xs : List Int) : Nat → Int
  | 0 => 0
  | j + 1 => numN ss xs j * ss.getD j 0 + xs.getD j 0
/-- what is left of a number behind the last j dimensions -/
def quoN (ss : List Int) (n : Int) : Nat → Int
  | 0 => n
  | j + 1 => quoN ss n j / ss.getD (ss.length - 1 - j) 0
def place (ss : List Int) (n : Int) (i : Nat) : Int := quoN ss n (ss.length - 1 - i) % ss.getD i 0
def places (ss : List Int) (n : Int) : List Int := (List.range ss.length).map (place ss n)
/-- the places of the last k dimensions, 0 in the others -/
def part (ss : List Int) (n : Int) (k : Nat) : List Int := (List.range ss.length).map fun i => if ss.length ≤ i + k then place ss n i else 0
theorem part_len (ss : List Int) (n : Int) (k : Nat) : (part ss n k).length = ss.length := by simp [part]
theorem part_zero (ss : List Int) (n : Int) : part ss n 0 = List.replicate ss.length 0 := by
  refine List.ext_getElem (by simp [part]) fun i h1 h2 => ?_
  simp [part] at h1 ⊢
  omega
theorem part_all (ss : List Int) (n : Int) : part ss n ss.length = places ss n := by
  refine List.ext_getElem (by simp [part, places]) fun i h1 h2 => ?_
  simp [part, places]
theorem part_succ (ss : List Int) (n : Int) (j k : Nat) (h : j + 1 + k = ss.length) : part ss n (k + 1) = (part ss n k).set j (place ss n j) := by
  refine List.ext_getElem (by simp [part]) fun i h1 h2 => ?_
  simp only [part, List.getElem_map, List.getElem_range, List.getElem_set]
  by_cases hij : j = i
  · subst hij; rw [if_pos (by omega), if_pos rfl]
  · rw [if_neg hij]
    by_cases h3 : ss.length ≤ i + k
    · rw [if_pos h3, if_pos (by omega)]
    · rw [if_neg h3, if_neg (by omega)]
structure Space (ss : List Int) : Prop where
  pos : 1 ≤ ss.length
  few : ss.length ≤ 4
  lo : ∀ j, j < ss.length → 1 ≤ ss.getD j 0
  hi : ∀ j, j < ss.length → ss.getD j 0 ≤ 8
  all : prodN ss ss.length ≤ 48
theorem prodN_pos {l : List Int} (h : ∀ j, j < l.length → 1 ≤ l.getD j 0) : ∀ j, j ≤ l.length → 1 ≤ prodN l j
  | 0, _ => Int.le_refl _
  | j + 1, hj => by
    have h1 := prodN_pos h j (by omega)
    have h2 := h j (by omega)
    have := Int.mul_le_mul h1 h2 (by omega) (by omega)
    simpa [prodN] using this
theorem prodN_step {l : List Int} (h : ∀ j, j < l.length → 1 ≤ l.getD j 0) {j : Nat} (hj : j < l.length) : prodN l j ≤ prodN l (j + 1) := by
  have h1 := prodN_pos h j (by omega)
  have h2 := h j hj
  have := Int.mul_le_mul (Int.le_refl (prodN l j)) h2 (by omega) (by omega)
  simpa [prodN] using this
theorem prodN_le {l : List Int} (h : ∀ j, j < l.length → 1 ≤ l.getD j 0) : ∀ (d j : Nat), j + d = l.length → prodN l j ≤ prodN l l.length
  | 0, j, hj => by rw [← hj]; exact Int.le_refl _
  | d + 1, j, hj => Int.le_trans (prodN_step h (by omega)) (prodN_le h d (j + 1) (by omega))
theorem Space.bd {ss : List Int} (h : Space ss) {j : Nat} (hj : j ≤ ss.length) : 1 ≤ prodN ss j ∧ prodN ss j ≤ 48 :=
  ⟨prodN_pos h.lo j hj, Int.le_trans (prodN_le h.lo (ss.length - j) j (by omega)) h.all⟩
theorem getD_of_mem {l : List Int} {x : Int} (h : x ∈ l) : ∃ j, j < l.length ∧ l.getD j 0 = x := by
  obtain ⟨j, hj, rfl⟩ := List.getElem_of_mem h
  exact ⟨j, hj, by simp [List.getD, hj]⟩
theorem space_wf {ss : List Int} (h : Space ss) : ∀ x ∈ ss, (Lit.int .i64 x).wf = true := by
  intro x hx
  obtain ⟨j, hj, rfl⟩ := getD_of_mem hx
  have := h.lo j hj
  have := h.hi j hj
  exact Go.WalkArith.wf_i64 (by omega)
theorem numN_bd {ss xs : List Int} (h : ∀ j, j < ss.length → 1 ≤ ss.getD j 0) (hx : ∀ j, j < ss.length → 0 ≤ xs.getD j 0 ∧ xs.getD j 0 < ss.getD j 0) : ∀ j, j ≤ ss.length → 0 ≤ numN ss xs j ∧ numN ss xs j + 1 ≤ prodN ss j
  | 0, _ => by simp [numN, prodN]
  | j + 1, hj => by
    have h1 := numN_bd h hx j (by omega)
    have h2 := hx j (by omega)
    have h3 := h j (by omega)
    have h4 := Int.mul_le_mul_of_nonneg_right h1.2 (show 0 ≤ ss.getD j 0 by omega)
    have h5 := Int.mul_nonneg h1.1 (show 0 ≤ ss.getD j 0 by omega)
    simp only [numN, prodN]
    rw [Int.add_mul, Int.one_mul] at h4
    omega
theorem quoN_nonneg {ss : List Int} (h : ∀ j, j < ss.length → 1 ≤ ss.getD j 0) {n : Int} (hn : 0 ≤ n) : ∀ j, 0 ≤ quoN ss n j
  | 0 => hn
  | j + 1 => by
    have h1 := quoN_nonneg h hn j
    by_cases hj : ss.length - 1 - j < ss.length
    · exact Int.ediv_nonneg h1 (by have := h _ hj; omega)
    · have e : ss.getD (ss.length - 1 - j) 0 = 0 := by simp [List.getD, List.getElem?_eq_none (by omega : ss.length ≤ ss.length - 1 - j)]
      show 0 ≤ quoN ss n j / ss.getD (ss.length - 1 - j) 0
      rw [e]; simp
theorem quoN_le {ss : List Int} (h : ∀ j, j < ss.length → 1 ≤ ss.getD j 0) {n : Int} (hn : 0 ≤ n) : ∀ j, quoN ss n j ≤ n
  | 0 => Int.le_refl _
  | j + 1 => Int.le_trans (Int.ediv_le_self _ (quoN_nonneg h hn j)) (quoN_le h hn j)
theorem places_len (ss : List Int) (n : Int) : (places ss n).length = ss.length := by simp [places]
theorem places_get {ss : List Int} {n : Int} {i : Nat} (hi : i < ss.length) : (places ss n).getD i 0 = place ss n i := by simp [places, List.getD, hi]
theorem place_bd {ss : List Int} (h : ∀ j, j < ss.length → 1 ≤ ss.getD j 0) (n : Int) {i : Nat} (hi : i < ss.length) : 0 ≤ place ss n i ∧ place ss n i < ss.getD i 0 := by
  have := h i hi
  exact ⟨Int.emod_nonneg _ (by omega), Int.emod_lt_of_pos _ (by omega)⟩
/-- how many groups occur among the first j categories, where they are numbered as they occur -/
def nextN (l : List Int) : Nat → Int
  | 0 => 0
  | j + 1 => if l.getD j 0 = nextN l j then nextN l j + 1 else nextN l j
def groups (l : List Int) : Int := nextN l l.length
structure Numbered (l : List Int) : Prop where
  lo : ∀ j, j < l.length → -1 ≤ l.getD j 0
  hi : ∀ j, j < l.length → l.getD j 0 ≤ nextN l j
  some : 1 ≤ groups l
theorem nextN_nonneg (l : List Int) : ∀ j, 0 ≤ nextN l j
  | 0 => Int.le_refl _
  | j + 1 => by have := nextN_nonneg l j; simp only [nextN]; split <;> omega
theorem nextN_le (l : List Int) : ∀ j, nextN l j ≤ j
  | 0 => Int.le_refl _
  | j + 1 => by have := nextN_le l j; simp only [nextN]; split <;> omega
theorem nextN_mono (l : List Int) : ∀ d j, nextN l j ≤ nextN l (j + d)
  | 0, _ => Int.le_refl _
  | d + 1, j => by
    have := nextN_mono l d j
    have e : nextN l (j + (d + 1)) = if l.getD (j + d) 0 = nextN l (j + d) then nextN l (j + d) + 1 else nextN l (j + d) := rfl
    rw [e]; split <;> omega
theorem Numbered.lt {l : List Int} (h : Numbered l) {j : Nat} (hj : j < l.length) : l.getD j 0 < groups l := by
  have h1 := h.hi j hj
  have h2 := nextN_mono l (l.length - (j + 1)) (j + 1)
  rw [show j + 1 + (l.length - (j + 1)) = l.length by omega] at h2
  have e : nextN l (j + 1) = if l.getD j 0 = nextN l j then nextN l j + 1 else nextN l j := rfl
  rw [e] at h2
  unfold groups
  split at h2 <;> omega
/-- the greatest group of the first j categories, and one more -/
def grpN (l : List Int) : Nat → Int
  | 0 => 0
  | j + 1 => max (grpN l j) (l.getD j 0 + 1)
theorem Numbered.grp {l : List Int} (h : Numbered l) : ∀ j, j ≤ l.length → grpN l j = nextN l j
  | 0, _ => rfl
  | j + 1, hj => by
    have h1 := h.grp j (by omega)
    have h2 := h.hi j (by omega)
    simp only [grpN, nextN, h1]
    split <;> omega
structure View (ss : List Int) (vs : List (List Int)) : Prop where
  len : vs.length = ss.length
  lens : ∀ j, j < ss.length → ((vs.getD j []).length : Int) = ss.getD j 0
  num : ∀ j, j < ss.length → Numbered (vs.getD j [])
def sizes (vs : List (List Int)) : List Int := vs.map groups
theorem sizes_len (vs : List (List Int)) : (sizes vs).length = vs.length := by simp [sizes]
theorem sizes_get {vs : List (List Int)} {j : Nat} (hj : j < vs.length) : (sizes vs).getD j 0 = groups (vs.getD j []) := by simp [sizes, List.getD, hj]
theorem View.sizes_lo {ss : List Int} {vs : List (List Int)} (h : View ss vs) : ∀ j, j < (sizes vs).length → 1 ≤ (sizes vs).getD j 0 := by
  intro j hj
  rw [sizes_len] at hj
  rw [sizes_get hj]
  exact (h.num j (by rw [← h.len]; exact hj)).some
theorem View.sizes_hi {ss : List Int} {vs : List (List Int)} (h : View ss vs) : ∀ j, j < (sizes vs).length → (sizes vs).getD j 0 ≤ ss.getD j 0 := by
  intro j hj
  rw [sizes_len] at hj
  rw [sizes_get hj, ← h.lens j (by rw [← h.len]; exact hj)]
  exact nextN_le _ _
theorem prodN_mono {a b : List Int} (hl : a.length = b.length) (h : ∀ j, j < a.length → 1 ≤ a.getD j 0) (hle : ∀ j, j < a.length → a.getD j 0 ≤ b.getD j 0) : ∀ j, j ≤ a.length → prodN a j ≤ prodN b j
  | 0, _ => Int.le_refl _
  | j + 1, hj => by
    have h1 := prodN_mono hl h hle j (by omega)
    have h2 := prodN_pos h j (by omega)
    have h3 := h j (by omega)
    have h4 := hle j (by omega)
    exact Int.mul_le_mul h1 h4 (by omega) (by omega)
theorem View.space {ss : List Int} {vs : List (List Int)} (hs : Space ss) (h : View ss vs) : Space (sizes vs) := by
  have hl : (sizes vs).length = ss.length := by rw [sizes_len, h.len]
  refine ⟨by rw [hl]; exact hs.pos, by rw [hl]; exact hs.few, h.sizes_lo, fun j hj => ?_, ?_⟩
  · exact Int.le_trans (h.sizes_hi j hj) (hs.hi j (by omega))
  · refine Int.le_trans (prodN_mono hl h.sizes_lo h.sizes_hi _ (Nat.le_refl _)) ?_
    rw [hl]; exact hs.all
/-- the groups of a cell -/
def of (ss : List Int) (vs : List (List Int)) (c : Int) (i : Nat) : Int := (vs.getD i []).getD (place ss c i).toNat 0
def ofs (ss : List Int) (vs : List (List Int)) (c : Int) : List Int := (List.range ss.length).map (of ss vs c)
theorem ofs_len (ss : List Int) (vs : List (List Int)) (c : Int) : (ofs ss vs c).length = ss.length := by simp [ofs]
theorem ofs_get {ss : List Int} {vs : List (List Int)} {c : Int} {i : Nat} (hi : i < ss.length) : (ofs ss vs c).getD i 0 = of ss vs c i := by simp [ofs, List.getD, hi]
/-- the published cell of which a cell is a member, -1 if it is left out -/
def owner (ss : List Int) (vs : List (List Int)) (c : Int) : Int := if (-1 : Int) ∈ ofs ss vs c then -1 else numN (sizes vs) (ofs ss vs c) ss.length
def published (vs : List (List Int)) : Int := prodN (sizes vs) vs.length
theorem of_bd {ss : List Int} {vs : List (List Int)} (hs : Space ss) (h : View ss vs) (c : Int) {i : Nat} (hi : i < ss.length) : (place ss c i).toNat < (vs.getD i []).length ∧ -1 ≤ of ss vs c i ∧ of ss vs c i < groups (vs.getD i []) := by
  have h1 := place_bd hs.lo c hi
  have h2 := h.lens i hi
  have h3 : (place ss c i).toNat < (vs.getD i []).length := by omega
  exact ⟨h3, (h.num i hi).lo _ h3, (h.num i hi).lt h3⟩
theorem owner_bd {ss : List Int} {vs : List (List Int)} (hs : Space ss) (h : View ss vs) (c : Int) : (owner ss vs c = -1 ∧ (-1 : Int) ∈ ofs ss vs c) ∨ ((-1 : Int) ∉ ofs ss vs c ∧ 0 ≤ owner ss vs c ∧ owner ss vs c < published vs ∧ owner ss vs c = numN (sizes vs) (ofs ss vs c) ss.length) := by
  unfold owner
  by_cases hm : (-1 : Int) ∈ ofs ss vs c
  · exact .inl ⟨by rw [if_pos hm], hm⟩
  · rw [if_neg hm]
    refine .inr ⟨hm, ?_⟩
    have hl : (sizes vs).length = ss.length := by rw [sizes_len, h.len]
    have := numN_bd (ss := sizes vs) (xs := ofs ss vs c) h.sizes_lo (fun j hj => by
      have hj' : j < ss.length := by omega
      rw [ofs_get hj', sizes_get (by rw [h.len]; exact hj')]
      have hb := of_bd hs h c hj'
      have hne : of ss vs c j ≠ -1 := fun e => hm (by rw [← e, ← ofs_get hj']; simp [List.getD, List.getElem?_eq_getElem (show j < (ofs ss vs c).length by rw [ofs_len]; exact hj')])
      omega) ss.length (by omega)
    unfold published
    rw [h.len]
    exact ⟨by omega, by omega, rfl⟩
theorem published_bd {ss : List Int} {vs : List (List Int)} (hs : Space ss) (h : View ss vs) : 1 ≤ published vs ∧ published vs ≤ 48 := by
  have := (h.space hs).bd (j := vs.length) (by rw [sizes_len]; exact Nat.le_refl _)
  exact this
theorem place_wf {ss : List Int} (hs : Space ss) (c : Int) {i : Nat} (hi : i < ss.length) : 0 ≤ place ss c i ∧ place ss c i ≤ 7 := by
  have := place_bd hs.lo c hi
  have := hs.hi i hi
  omega
theorem of_wf {ss : List Int} {vs : List (List Int)} (hs : Space ss) (h : View ss vs) (c : Int) {i : Nat} (hi : i < ss.length) : -1 ≤ of ss vs c i ∧ of ss vs c i ≤ 7 := by
  have h1 := of_bd hs h c hi
  have h2 := nextN_le (vs.getD i []) (vs.getD i []).length
  have h3 := h.lens i hi
  have h4 := hs.hi i hi
  unfold groups at h1
  omega
theorem map_range_wf {n : Nat} {f : Nat → Int} (h : ∀ i, i < n → -1000000000 ≤ f i ∧ f i ≤ 1000000000) : ∀ x ∈ (List.range n).map f, (Lit.int .i64 x).wf = true := by
  intro x hx
  obtain ⟨i, hi, rfl⟩ := List.mem_map.1 hx
  have := h i (List.mem_range.1 hi)
  exact Go.WalkArith.wf_i64 (by omega)
theorem places_wf {ss : List Int} (hs : Space ss) (c : Int) : ∀ x ∈ places ss c, (Lit.int .i64 x).wf = true :=
  map_range_wf fun i hi => by have := place_wf hs c hi; omega
theorem ofs_wf {ss : List Int} {vs : List (List Int)} (hs : Space ss) (h : View ss vs) (c : Int) : ∀ x ∈ ofs ss vs c, (Lit.int .i64 x).wf = true :=
  map_range_wf fun i hi => by have := of_wf hs h c hi; omega
/-- groups in the first i places, categories in the others -/
def ofp (ss : List Int) (vs : List (List Int)) (c : Int) (i : Nat) : List Int := (List.range ss.length).map fun k => if k < i then of ss vs c k else place ss c k
theorem ofp_len (ss : List Int) (vs : List (List Int)) (c : Int) (i : Nat) : (ofp ss vs c i).length = ss.length := by simp [ofp]
theorem ofp_zero (ss : List Int) (vs : List (List Int)) (c : Int) : ofp ss vs c 0 = places ss c := by
  refine List.ext_getElem (by simp [ofp, places]) fun i h1 h2 => ?_
  simp [ofp, places]
theorem ofp_all (ss : List Int) (vs : List (List Int)) (c : Int) : ofp ss vs c ss.length = ofs ss vs c := by
  refine List.ext_getElem (by simp [ofp, ofs]) fun i h1 h2 => ?_
  simp [ofp, ofs] at h1 ⊢
  omega
theorem ofp_get {ss : List Int} {vs : List (List Int)} {c : Int} {i : Nat} (hi : i < ss.length) : (ofp ss vs c i).getD i 0 = place ss c i := by simp [ofp, List.getD, hi]
theorem ofp_succ (ss : List Int) (vs : List (List Int)) (c : Int) (i : Nat) : ofp ss vs c (i + 1) = (ofp ss vs c i).set i (of ss vs c i) := by
  refine List.ext_getElem (by simp [ofp]) fun k h1 h2 => ?_
  simp only [ofp, List.getElem_map, List.getElem_range, List.getElem_set]
  by_cases hik : i = k
  · subst hik; rw [if_pos (by omega), if_pos rfl]
  · rw [if_neg hik]
    by_cases h3 : k < i
    · rw [if_pos h3, if_pos (by omega)]
    · rw [if_neg h3, if_neg (by omega)]
theorem ofs_in {ss : List Int} {vs : List (List Int)} (hs : Space ss) (h : View ss vs) (c : Int) (hm : (-1 : Int) ∉ ofs ss vs c) : ∀ j, j < (sizes vs).length → 0 ≤ (ofs ss vs c).getD j 0 ∧ (ofs ss vs c).getD j 0 < (sizes vs).getD j 0 := by
  intro j hj
  have hl : (sizes vs).length = ss.length := by rw [sizes_len, h.len]
  have hj' : j < ss.length := by omega
  rw [ofs_get hj', sizes_get (by rw [h.len]; exact hj')]
  have hb := of_bd hs h c hj'
  have hne : of ss vs c j ≠ -1 := fun e => hm (by rw [← e, ← ofs_get hj']; simp [List.getD, List.getElem?_eq_getElem (show j < (ofs ss vs c).length by rw [ofs_len]; exact hj')])
  omega
/-- a list of which the first k numbers are told by f, the others are 0 -/
def told (n : Nat) (f : Nat → Int) (k : Nat) : List Int := (List.range n).map fun i => if i < k then f i else 0
theorem told_len (n : Nat) (f : Nat → Int) (k : Nat) : (told n f k).length = n := by simp [told]
theorem told_zero (n : Nat) (f : Nat → Int) : told n f 0 = List.replicate n 0 := by
  refine List.ext_getElem (by simp [told]) fun i h1 h2 => ?_
  simp [told]
theorem told_all (n : Nat) (f : Nat → Int) : told n f n = (List.range n).map f := by
  refine List.ext_getElem (by simp [told]) fun i h1 h2 => ?_
  simp [told] at h1 ⊢
  omega
theorem told_succ (n : Nat) (f : Nat → Int) (k : Nat) : told n f (k + 1) = (told n f k).set k (f k) := by
  refine List.ext_getElem (by simp [told]) fun i h1 h2 => ?_
  simp only [told, List.getElem_map, List.getElem_range, List.getElem_set]
  by_cases hik : k = i
  · subst hik; rw [if_pos (by omega), if_pos rfl]
  · rw [if_neg hik]
    by_cases h3 : i < k
    · rw [if_pos h3, if_pos (by omega)]
    · rw [if_neg h3, if_neg (by omega)]
def ownf (ss : List Int) (vs : List (List Int)) (c : Nat) : Int := owner ss vs c
end Go.Proofs.Ytojeendofpallaa.Ce
