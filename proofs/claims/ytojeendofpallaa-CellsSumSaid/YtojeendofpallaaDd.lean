/- Cells: owners of finer and coarser views; sums over groups: the arithmetic. -/
import Derived.Test.YtojeendofpallaaDc
import Derived.Test.YtojeendofpallaaCq
namespace Go.Proofs.Ytojeendofpallaa.Ce
/-- digits are told by the number -/
theorem numN_inj {ss xs ys : List Int} {n : Nat} (hx : ∀ j, j < n → 0 ≤ xs.getD j 0 ∧ xs.getD j 0 < ss.getD j 0) (hy : ∀ j, j < n → 0 ≤ ys.getD j 0 ∧ ys.getD j 0 < ss.getD j 0) : ∀ j, j ≤ n → numN ss xs j = numN ss ys j → ∀ i, i < j → xs.getD i 0 = ys.getD i 0
  | 0, _, _ => fun i hi => absurd hi (by omega)
  | j + 1, hj, h => by
    have h1 := hx j (by omega)
    have h2 := hy j (by omega)
    have e : numN ss xs j * ss.getD j 0 + xs.getD j 0 = numN ss ys j * ss.getD j 0 + ys.getD j 0 := h
    have ea : (numN ss xs j * ss.getD j 0 + xs.getD j 0) % ss.getD j 0 = xs.getD j 0 := by
      rw [Int.add_comm, Int.add_mul_emod_self_right]; exact Int.emod_eq_of_lt h1.1 h1.2
    have eb : (numN ss ys j * ss.getD j 0 + ys.getD j 0) % ss.getD j 0 = ys.getD j 0 := by
      rw [Int.add_comm, Int.add_mul_emod_self_right]; exact Int.emod_eq_of_lt h2.1 h2.2
    have hd : xs.getD j 0 = ys.getD j 0 := by rw [← ea, e, eb]
    have hm : numN ss xs j * ss.getD j 0 = numN ss ys j * ss.getD j 0 := by omega
    have hn : numN ss xs j = numN ss ys j := Int.eq_of_mul_eq_mul_right (by omega) hm
    intro i hi
    rcases Nat.lt_or_ge i j with h3 | h3
    · exact numN_inj hx hy j (by omega) hn i h3
    · rw [show i = j by omega]; exact hd
theorem out_iff {ss : List Int} {vs : List (List Int)} (hs : Space ss) (h : View ss vs) (c : Int) : owner ss vs c = -1 ↔ ∃ i, i < ss.length ∧ of ss vs c i = -1 := by
  constructor
  · intro he
    rcases owner_bd hs h c with ⟨_, hm⟩ | ⟨_, h0, _, _⟩
    · obtain ⟨i, hi, hg⟩ := getD_of_mem hm
      rw [ofs_len] at hi
      rw [ofs_get hi] at hg
      exact ⟨i, hi, hg⟩
    · omega
  · rintro ⟨i, hi, hg⟩
    unfold owner
    rw [if_pos]
    rw [← hg, ← ofs_get hi]
    simp [List.getD, List.getElem?_eq_getElem (show i < (ofs ss vs c).length by rw [ofs_len]; exact hi)]
theorem owner_fine {ss : List Int} {vs ws : List (List Int)} (hs : Space ss) (hv : View ss vs) (hw : View ss ws) (hf : finB ss.length vs ws = true) :
    (∀ c, owner ss vs c = -1 → owner ss ws c = -1) ∧ ∀ c d, owner ss vs c = owner ss vs d → owner ss ws c = owner ss ws d := by
  have hfi := finB_iff.1 hf
  have hout : ∀ c, owner ss vs c = -1 → owner ss ws c = -1 := by
    intro c hc
    obtain ⟨i, hi, hg⟩ := (out_iff hs hv c).1 hc
    exact (out_iff hs hw c).2 ⟨i, hi, (hfi i hi).out _ (of_bd hs hv c hi).1 hg⟩
  refine ⟨hout, fun c d he => ?_⟩
  rcases owner_bd hs hv c with ⟨hc, _⟩ | ⟨hmc, h0, _, hc⟩
  · rw [hout c hc, hout d (by rw [← he]; exact hc)]
  · rcases owner_bd hs hv d with ⟨hd, _⟩ | ⟨hmd, _, _, hd⟩
    · omega
    · rw [hc, hd] at he
      have hl : (sizes vs).length = ss.length := by rw [sizes_len, hv.len]
      have hdig := numN_inj (n := ss.length) (fun j hj => ofs_in hs hv c hmc j (by omega)) (fun j hj => ofs_in hs hv d hmd j (by omega)) ss.length (Nat.le_refl _) he
      have hofs : ofs ss ws c = ofs ss ws d := by
        unfold ofs
        refine List.map_congr_left fun i hi => ?_
        have hi := List.mem_range.1 hi
        have h1 := hdig i hi
        rw [ofs_get hi, ofs_get hi] at h1
        exact (hfi i hi).same _ _ (of_bd hs hv c hi).1 (of_bd hs hv d hi).1 h1
      unfold owner
      rw [hofs]
theorem owner_tog {ss : List Int} {vs : List (List Int)} (hs : Space ss) (hv : View ss vs) (st : Nat) (c : Int) : owner ss (tog vs st) c = -1 ↔ owner ss vs c = -1 := by
  rw [out_iff hs (tog_view hv st) c, out_iff hs hv c]
  have e : ∀ i, i < ss.length → (of ss (tog vs st) c i = -1 ↔ of ss vs c i = -1) := by
    intro i hi
    unfold of
    rw [tog_get (by rw [hv.len]; exact hi)]
    unfold togi
    split
    · exact flat1_out (of_bd hs hv c hi).1
    · exact Iff.rfl
  constructor <;> rintro ⟨i, hi, h⟩ <;> exact ⟨i, hi, by first | exact (e i hi).1 h | exact (e i hi).2 h⟩
/-- the sum of a table over those of which p is true -/
def sump (p : Nat → Prop) [DecidablePred p] (t : List Int) : Nat → Int
  | 0 => 0
  | j + 1 => sump p t j + if p j then t.getD j 0 else 0
theorem sump_congr {p q : Nat → Prop} [DecidablePred p] [DecidablePred q] (t : List Int) : ∀ n, (∀ j, j < n → (p j ↔ q j)) → sump p t n = sump q t n
  | 0, _ => rfl
  | n + 1, h => by
    have h1 := sump_congr t n (fun j hj => h j (by omega))
    have h2 := h n (by omega)
    simp only [sump, h1]
    by_cases hp : p n
    · rw [if_pos hp, if_pos (h2.1 hp)]
    · rw [if_neg hp, if_neg (fun hq => hp (h2.2 hq))]
theorem sump_none {p : Nat → Prop} [DecidablePred p] (t : List Int) : ∀ n, (∀ j, j < n → ¬ p j) → sump p t n = 0
  | 0, _ => rfl
  | n + 1, h => by
    simp only [sump]
    rw [sump_none t n (fun j hj => h j (by omega)), if_neg (h n (by omega))]; rfl
theorem psum_sump (f : Nat → Int) (t : List Int) (k : Int) : ∀ n, psum f t k n = sump (fun c => f c = k) t n
  | 0 => rfl
  | n + 1 => by simp only [psum, sump, psum_sump f t k n]
def sumk (F : Nat → Int) : Nat → Int
  | 0 => 0
  | m + 1 => sumk F m + F m
theorem sumk_congr {F G : Nat → Int} : ∀ m, (∀ k, k < m → F k = G k) → sumk F m = sumk G m
  | 0, _ => rfl
  | m + 1, h => by simp only [sumk]; rw [sumk_congr m (fun k hk => h k (by omega)), h m (by omega)]
theorem sumk_zero : ∀ m, sumk (fun _ => 0) m = 0
  | 0 => rfl
  | m + 1 => by simp only [sumk]; rw [sumk_zero m]; rfl
theorem sumk_one (F : Nat → Int) (b : Prop) [Decidable b] (v x : Int) : ∀ m : Nat, sumk (fun k => F k + if v = (k : Int) ∧ b then x else 0) m = sumk F m + if (0 ≤ v ∧ v < (m : Int)) ∧ b then x else 0
  | 0 => by simp [sumk]; omega
  | m + 1 => by
    simp only [sumk]
    rw [sumk_one F b v x m]
    by_cases hb : b
    · by_cases hv : v = (m : Int)
      · rw [if_neg (by omega), if_pos ⟨hv, hb⟩, if_pos ⟨by omega, hb⟩]; omega
      · rw [if_neg (show ¬ (v = (m : Int) ∧ b) from fun h => hv h.1)]
        by_cases hr : 0 ≤ v ∧ v < (m : Int)
        · rw [if_pos ⟨hr, hb⟩, if_pos ⟨by omega, hb⟩]; omega
        · rw [if_neg (fun h => hr h.1), if_neg (fun h => hr (by omega))]; omega
    · rw [if_neg (fun h => hb h.2), if_neg (fun h => hb h.2), if_neg (fun h => hb h.2)]; omega
/-- a sum is the sum of those over the values of f -/
theorem sump_split (f : Nat → Int) (p : Nat → Prop) [DecidablePred p] (t : List Int) (m : Nat) : ∀ n, sumk (fun k => sump (fun c => f c = (k : Int) ∧ p c) t n) m = sump (fun c => (0 ≤ f c ∧ f c < (m : Int)) ∧ p c) t n
  | 0 => by simp only [sump]; exact sumk_zero m
  | n + 1 => by
    simp only [sump]
    rw [sumk_one (fun k => sump (fun c => f c = (k : Int) ∧ p c) t n) (p n) (f n) (t.getD n 0) m, sump_split f p t m n]
/-- equal sums of a finer view give equal sums of a coarser one -/
theorem psum_coarse {f g : Nat → Int} {t u : List Int} {n m : Nat} (hf : ∀ c, f c = -1 ∨ (0 ≤ f c ∧ f c < (m : Int))) (ho : ∀ c, f c = -1 → g c = -1) (hs : ∀ c d, f c = f d → g c = g d) (h : ∀ k, k < m → psum f t (k : Int) n = psum f u (k : Int) n) {j : Int} (hj : 0 ≤ j) :
    psum g t j n = psum g u j n := by
  have key : ∀ x : List Int, psum g x j n = sumk (fun k => sump (fun c => f c = (k : Int) ∧ g c = j) x n) m := by
    intro x
    rw [sump_split f (fun c => g c = j) x m n, psum_sump]
    refine sump_congr x n fun c _ => ?_
    constructor
    · intro hg
      rcases hf c with h1 | h1
      · have := ho c h1; omega
      · exact ⟨h1, hg⟩
    · exact fun h => h.2
  rw [key t, key u]
  refine sumk_congr m fun k hk => ?_
  by_cases he : ∃ c, f c = (k : Int) ∧ g c = j
  · obtain ⟨c0, hc0, hg0⟩ := he
    have e : ∀ x : List Int, sump (fun c => f c = (k : Int) ∧ g c = j) x n = psum f x (k : Int) n := by
      intro x
      rw [psum_sump]
      refine sump_congr x n fun c _ => ⟨fun h => h.1, fun h => ⟨h, ?_⟩⟩
      rw [← hg0]; exact hs c c0 (by rw [h, hc0])
    rw [e t, e u]; exact h k hk
  · have e : ∀ x : List Int, sump (fun c => f c = (k : Int) ∧ g c = j) x n = 0 := fun x => sump_none x n fun c _ hc => he ⟨c, hc⟩
    rw [e t, e u]
/-- all published values together -/
theorem psum_all {f g : Nat → Int} {t : List Int} {n m : Nat} (hf : ∀ c, f c = -1 ∨ (0 ≤ f c ∧ f c < (m : Int))) (hg : ∀ c, g c = -1 ∨ (0 ≤ g c ∧ g c < 1)) (h : ∀ c, g c = -1 ↔ f c = -1) : psum g t 0 n = sumk (fun k => psum f t (k : Int) n) m := by
  have e := sump_split f (fun _ => True) t m n
  rw [sumk_congr (G := fun k => sump (fun c => f c = (k : Int) ∧ True) t n) m (fun k _ => by rw [psum_sump]; exact sump_congr t n fun c _ => by simp), e, psum_sump]
  refine sump_congr t n fun c _ => ?_
  have h1 := hf c
  have h2 := hg c
  have h3 := h c
  constructor
  · intro h4
    refine ⟨?_, trivial⟩
    rcases h1 with h1 | h1
    · have := h3.2 h1; omega
    · exact h1
  · rintro ⟨h4, _⟩
    rcases h2 with h2 | h2
    · have := h3.1 h2; omega
    · omega
theorem psum_add {f : Nat → Int} {t u b : List Int} (k : Int) : ∀ n, (∀ j, j < n → b.getD j 0 = t.getD j 0 + u.getD j 0) → psum f b k n = psum f t k n + psum f u k n
  | 0, _ => rfl
  | n + 1, h => by
    have h1 := psum_add (f := f) k n (fun j hj => h j (by omega))
    simp only [psum, h1, h n (by omega)]
    split <;> omega
theorem pubs_ext {f : Nat → Int} {t u : List Int} {M N : Nat} : pubs f t M N = pubs f u M N ↔ ∀ k, k < M → psum f t (k : Int) N = psum f u (k : Int) N := by
  constructor
  · intro h k hk
    rw [← pubs_get (t := t) hk, h, pubs_get hk]
  · intro h
    unfold pubs
    exact List.map_congr_left fun k hk => h k (List.mem_range.1 hk)
end Go.Proofs.Ytojeendofpallaa.Ce
