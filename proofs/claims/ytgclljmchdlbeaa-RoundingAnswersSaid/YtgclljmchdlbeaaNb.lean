/- Controlled rounding: that it always can be done. -/
import Derived.Test.YtgclljmchdlbeaaNa
namespace Go.Proofs.Ytgclljmchdlbeaa
theorem Nd.single {b x y z t : Int} (h : x + y + z + t = 0) (hy : b ∣ y) (hz : b ∣ z) (ht : b ∣ t) : b ∣ x := by
  have : x = -(y + z + t) := by omega
  rw [this]
  exact Int.dvd_neg.2 (Int.dvd_add (Int.dvd_add hy hz) ht)
def Nd.mk (b : Int) (Z : Nat → Int) (k : Nat) : Bool := decide (¬ b ∣ Z k)
theorem Nd.not_one {b x y z t : Int} (h : x + y + z + t = 0) : (decide (¬ b ∣ x)).toNat + (decide (¬ b ∣ y)).toNat + (decide (¬ b ∣ z)).toNat + (decide (¬ b ∣ t)).toNat ≠ 1 := by
  have h1 := Nd.single (b := b) h
  have h2 := Nd.single (b := b) (show y + x + z + t = 0 by omega)
  have h3 := Nd.single (b := b) (show z + x + y + t = 0 by omega)
  have h4 := Nd.single (b := b) (show t + x + y + z = 0 by omega)
  by_cases ex : b ∣ x <;> by_cases ey : b ∣ y <;> by_cases ez : b ∣ z <;> by_cases et : b ∣ t <;> simp_all
theorem Nd.least {l : List Nat} (hl : l ≠ []) (f : Nat → Int) : ∃ x ∈ l, ∀ y ∈ l, f x ≤ f y := by
  induction l with
  | nil => exact absurd rfl hl
  | cons a l ih =>
    by_cases h : l = []
    · subst h; exact ⟨a, by simp, by simp⟩
    · obtain ⟨x, hx, hm⟩ := ih h
      by_cases hc : f a ≤ f x
      · exact ⟨a, by simp, fun y hy => by
          rcases List.mem_cons.1 hy with rfl | hy
          · exact Int.le_refl _
          · exact Int.le_trans hc (hm y hy)⟩
      · exact ⟨x, by simp [hx], fun y hy => by
          rcases List.mem_cons.1 hy with rfl | hy
          · omega
          · exact hm y hy⟩
theorem Nd.fewer {l : List Nat} {p q : Nat → Bool} (h : ∀ k ∈ l, p k = true → q k = true) (hx : ∃ k ∈ l, q k = true ∧ p k = false) : (l.filter p).length < (l.filter q).length := by
  induction l with
  | nil => obtain ⟨k, hk, _⟩ := hx; cases hk
  | cons a l ih =>
    have hle : ∀ m : List Nat, (∀ k ∈ m, p k = true → q k = true) → (m.filter p).length ≤ (m.filter q).length := by
      intro m hm
      induction m with
      | nil => simp
      | cons c m ihm =>
        have := ihm (fun k hk => hm k (List.mem_cons_of_mem _ hk))
        have hc := hm c (by simp)
        rcases hp : p c with _ | _
        · rw [List.filter_cons, List.filter_cons, hp]
          rcases q c with _ | _ <;> simp <;> omega
        · rw [List.filter_cons, List.filter_cons, hp, hc hp]; simp; omega
    obtain ⟨k, hk, hq, hp⟩ := hx
    rcases List.mem_cons.1 hk with rfl | hk
    · have := hle l (fun j hj => h j (List.mem_cons_of_mem _ hj))
      rw [List.filter_cons, List.filter_cons, hp, hq]; simp; omega
    · have h1 := ih (fun j hj => h j (List.mem_cons_of_mem _ hj)) ⟨k, hk, hq, hp⟩
      have hc := h a (by simp)
      rcases hpa : p a with _ | _
      · rw [List.filter_cons, List.filter_cons, hpa]
        rcases q a with _ | _ <;> simp <;> omega
      · rw [List.filter_cons, List.filter_cons, hpa, hc hpa]; simp; omega
def Nd.Bal (Z : Nat → Int) : Prop := ∀ i, i < 4 → Z (4 * i) + Z (4 * i + 1) + Z (4 * i + 2) + Z (4 * i + 3) = 0 ∧ Z i + Z (i + 4) + Z (i + 8) + Z (i + 12) = 0
theorem Nd.sg_cases (c : Nat × Nat) (k : Nat) : (c.1.testBit k = false ∧ Nd.sg c k = 0) ∨ (c.1.testBit k = true ∧ (Nd.sg c k = 1 ∨ Nd.sg c k = -1)) := by
  unfold Nd.sg
  rcases c.1.testBit k with _ | _
  · exact .inl ⟨rfl, rfl⟩
  · rcases c.2.testBit k with _ | _
    · exact .inr ⟨rfl, .inr rfl⟩
    · exact .inr ⟨rfl, .inl rfl⟩
/-- there is a round way through places that are not multiples, or there are none -/
theorem Nd.way {b : Int} {Z : Nat → Int} (h : Nd.Bal Z) : (∀ k, k < 16 → b ∣ Z k) ∨ ∃ c ∈ Nd.circs, ∀ k, k < 16 → c.1.testBit k = true → ¬ b ∣ Z k := by
  have hr : ∀ i, i < 4 → [Nd.mk b Z (4 * i), Nd.mk b Z (4 * i + 1), Nd.mk b Z (4 * i + 2), Nd.mk b Z (4 * i + 3)] ∈ Nd.rows := fun i hi => Nd.row_in _ _ _ _ (Nd.not_one (h i hi).1)
  have hA := Nd.all
  simp only [List.all_eq_true] at hA
  have hk := hA _ (hr 0 (by decide)) _ (hr 1 (by decide)) _ (hr 2 (by decide)) _ (hr 3 (by decide))
  unfold Nd.okM at hk
  rw [Bool.or_eq_true] at hk
  have hm : ∀ k, k < 16 → (Nd.bits ([Nd.mk b Z (4 * 0), Nd.mk b Z (4 * 0 + 1), Nd.mk b Z (4 * 0 + 2), Nd.mk b Z (4 * 0 + 3)] ++ [Nd.mk b Z (4 * 1), Nd.mk b Z (4 * 1 + 1), Nd.mk b Z (4 * 1 + 2), Nd.mk b Z (4 * 1 + 3)] ++ [Nd.mk b Z (4 * 2), Nd.mk b Z (4 * 2 + 1), Nd.mk b Z (4 * 2 + 2), Nd.mk b Z (4 * 2 + 3)] ++ [Nd.mk b Z (4 * 3), Nd.mk b Z (4 * 3 + 1), Nd.mk b Z (4 * 3 + 2), Nd.mk b Z (4 * 3 + 3)])).testBit k = Nd.mk b Z k := by
    intro k hk
    rw [Nd.bits_test]
    rcases (show k = 0 ∨ k = 1 ∨ k = 2 ∨ k = 3 ∨ k = 4 ∨ k = 5 ∨ k = 6 ∨ k = 7 ∨ k = 8 ∨ k = 9 ∨ k = 10 ∨ k = 11 ∨ k = 12 ∨ k = 13 ∨ k = 14 ∨ k = 15 by omega) with rfl | rfl | rfl | rfl | rfl | rfl | rfl | rfl | rfl | rfl | rfl | rfl | rfl | rfl | rfl | rfl <;> rfl
  generalize Nd.bits _ = m at hk hm
  rcases hk with hk | hk
  · exfalso
    have h0 := Nd.not_one (b := b) (h 0 (by decide)).2
    have h1 := Nd.not_one (b := b) (h 1 (by decide)).2
    have h2 := Nd.not_one (b := b) (h 2 (by decide)).2
    have h3 := Nd.not_one (b := b) (h 3 (by decide)).2
    simp only [Nd.col, Nd.one, Bool.or_eq_true, beq_iff_eq, Bool.or_false] at hk
    simp only [Nd.mk, Nat.zero_add, Nat.mul_zero, Nat.mul_one, Nat.reduceAdd, Nat.reduceMul] at hk
    simp only [Nat.zero_add, Nat.reduceAdd] at h0 h1 h2 h3
    rcases hk with hk | hk | hk | hk
    · exact h0 hk
    · exact h1 hk
    · exact h2 hk
    · exact h3 hk
  · unfold Nd.okN at hk
    rw [Bool.or_eq_true, beq_iff_eq] at hk
    rcases hk with rfl | hk
    · left
      intro k hk
      have := hm k hk
      simp [Nd.mk] at this
      exact this
    · right
      obtain ⟨c, hc, he⟩ := List.any_eq_true.1 hk
      refine ⟨c, hc, fun k hk ht => ?_⟩
      have he := beq_iff_eq.1 he
      have h1 : (m &&& c.1).testBit k = true := by rw [he]; exact ht
      rw [Nat.testBit_and, hm k hk] at h1
      simp [Nd.mk, ht] at h1
      exact h1
def Nd.cnt (b : Int) (Z : Nat → Int) : Nat := ((List.range 16).filter (Nd.mk b Z)).length
theorem Nd.round (b : Int) (hb : 1 ≤ b) : ∀ (N : Nat) (Z : Nat → Int), Nd.cnt b Z ≤ N → Nd.Bal Z → ∃ Y : Nat → Int, Nd.Bal Y ∧ ∀ k, k < 16 → b ∣ Y k ∧ Y k - Z k < b ∧ Z k - Y k < b := by
  intro N
  induction N with
  | zero =>
    intro Z hN hZ
    refine ⟨Z, hZ, fun k hk => ⟨?_, by omega, by omega⟩⟩
    by_cases h : b ∣ Z k
    · exact h
    · exfalso
      have : k ∈ (List.range 16).filter (Nd.mk b Z) := List.mem_filter.2 ⟨List.mem_range.2 hk, by simp [Nd.mk, h]⟩
      have := List.length_pos_of_mem this
      unfold Nd.cnt at hN
      omega
  | succ N ih =>
    intro Z hN hZ
    rcases Nd.way (b := b) hZ with hall | ⟨c, hc, hs⟩
    · exact ⟨Z, hZ, fun k hk => ⟨hall k hk, by omega, by omega⟩⟩
    · have hz := List.all_eq_true.1 Nd.zero c hc
      unfold Nd.zeroB at hz
      simp only [Bool.and_eq_true, List.all_eq_true, List.mem_range, decide_eq_true_eq, List.any_eq_true] at hz
      obtain ⟨hz, ks, hks, hkt⟩ := hz
      let S := (List.range 16).filter (fun k => c.1.testBit k)
      let f : Nat → Int := fun k => if Nd.sg c k = 1 then b - Z k % b else Z k % b
      obtain ⟨k0, hk0, hmin⟩ := Nd.least (l := S) (List.ne_nil_of_mem (List.mem_filter.2 ⟨List.mem_range.2 hks, hkt⟩)) f
      obtain ⟨hk16, hkt0⟩ := List.mem_filter.1 hk0
      have hk16 := List.mem_range.1 hk16
      have hrem : ∀ k, k < 16 → c.1.testBit k = true → 1 ≤ Z k % b ∧ Z k % b < b := by
        intro k hk ht
        have h1 := Int.emod_nonneg (Z k) (show b ≠ 0 by omega)
        have h2 := Int.emod_lt_of_pos (Z k) (show 0 < b by omega)
        have h3 : Z k % b ≠ 0 := fun e => hs k hk ht (Int.dvd_of_emod_eq_zero e)
        omega
      have hd1 : 1 ≤ f k0 := by
        have := hrem k0 hk16 hkt0
        show 1 ≤ (if Nd.sg c k0 = 1 then b - Z k0 % b else Z k0 % b)
        split <;> omega
      obtain ⟨d, hd⟩ : ∃ d, f k0 = d := ⟨_, rfl⟩
      rw [hd] at hd1
      have hmn : ∀ k, k < 16 → c.1.testBit k = true → (Nd.sg c k = 1 → d ≤ b - Z k % b) ∧ (Nd.sg c k = -1 → d ≤ Z k % b) := by
        intro k hk ht
        have h1 := hmin k (List.mem_filter.2 ⟨List.mem_range.2 hk, ht⟩)
        rw [hd] at h1
        have h2 : f k = if Nd.sg c k = 1 then b - Z k % b else Z k % b := rfl
        rw [h2] at h1
        refine ⟨fun e => ?_, fun e => ?_⟩
        · rwa [if_pos e] at h1
        · rwa [if_neg (by omega)] at h1
      have hZ' : Nd.Bal (fun k => Z k + d * Nd.sg c k) := by
        intro i hi
        have h1 := hz i hi
        have h2 := hZ i hi
        have e1 : d * (Nd.sg c (4 * i) + Nd.sg c (4 * i + 1) + Nd.sg c (4 * i + 2) + Nd.sg c (4 * i + 3)) = 0 := by rw [h1.1]; simp
        have e2 : d * (Nd.sg c i + Nd.sg c (i + 4) + Nd.sg c (i + 8) + Nd.sg c (i + 12)) = 0 := by rw [h1.2]; simp
        simp only [Int.mul_add] at e1 e2
        constructor
        · show Z (4 * i) + d * _ + (Z (4 * i + 1) + d * _) + (Z (4 * i + 2) + d * _) + (Z (4 * i + 3) + d * _) = 0
          omega
        · show Z i + d * _ + (Z (i + 4) + d * _) + (Z (i + 8) + d * _) + (Z (i + 12) + d * _) = 0
          omega
      have hfew : Nd.cnt b (fun k => Z k + d * Nd.sg c k) ≤ N := by
        have : Nd.cnt b (fun k => Z k + d * Nd.sg c k) < Nd.cnt b Z := by
          refine Nd.fewer (fun k hk hp => ?_) ⟨k0, List.mem_range.2 hk16, by simp [Nd.mk, hs k0 hk16 hkt0], ?_⟩
          · have hk := List.mem_range.1 hk
            rcases Nd.sg_cases c k with ⟨h1, h2⟩ | ⟨h1, _⟩
            · simpa [Nd.mk, h2] using hp
            · simp [Nd.mk, hs k hk h1]
          · have h0 := Int.mul_ediv_add_emod (Z k0) b
            have h9 : f k0 = if Nd.sg c k0 = 1 then b - Z k0 % b else Z k0 % b := rfl
            rw [hd] at h9
            have : b ∣ Z k0 + d * Nd.sg c k0 := by
              rcases Nd.sg_cases c k0 with ⟨h1, _⟩ | ⟨_, h2 | h2⟩
              · rw [hkt0] at h1; cases h1
              · rw [if_pos h2] at h9
                rw [h2]
                refine ⟨Z k0 / b + 1, ?_⟩
                rw [Int.mul_add]
                omega
              · rw [if_neg (by omega)] at h9
                rw [h2]
                exact ⟨Z k0 / b, by omega⟩
            simp [Nd.mk, this]
        omega
      obtain ⟨Y, hY, hn⟩ := ih _ hfew hZ'
      refine ⟨Y, hY, fun k hk => ⟨(hn k hk).1, ?_⟩⟩
      obtain ⟨⟨y, hy⟩, h1, h2⟩ := hn k hk
      rcases Nd.sg_cases c k with ⟨_, h3⟩ | ⟨ht, hs3⟩
      · have h1 : Y k - (Z k + d * Nd.sg c k) < b := h1
        have h2 : (Z k + d * Nd.sg c k) - Y k < b := h2
        rw [h3] at h1 h2
        omega
      · have h1 : Y k - (Z k + d * Nd.sg c k) < b := h1
        have h2 : (Z k + d * Nd.sg c k) - Y k < b := h2
        have hr := hrem k hk ht
        have hm := hmn k hk ht
        have h0 := Int.mul_ediv_add_emod (Z k) b
        obtain ⟨q, hq⟩ : ∃ q, Z k / b = q := ⟨_, rfl⟩
        obtain ⟨r, hr9⟩ : ∃ r, Z k % b = r := ⟨_, rfl⟩
        rw [hq, hr9] at h0
        rw [hr9] at hr hm
        rw [hy] at h1 h2 ⊢
        have hlo : q - 1 < y := by
          have : b * (q - 1) < b * y := by
            rw [Int.mul_sub]
            rcases hs3 with e | e
            · rw [e] at h1 h2; have := hm.1 e; omega
            · rw [e] at h1 h2; have := hm.2 e; omega
          exact Int.lt_of_mul_lt_mul_left this (by omega)
        have hhi : y < q + 2 := by
          have : b * y < b * (q + 2) := by
            rw [Int.mul_add]
            rcases hs3 with e | e
            · rw [e] at h1 h2; have := hm.1 e; omega
            · rw [e] at h1 h2; have := hm.2 e; omega
          exact Int.lt_of_mul_lt_mul_left this (by omega)
        rcases (show y = q ∨ y = q + 1 by omega) with rfl | rfl
        · omega
        · rw [Int.mul_add]; omega
end Go.Proofs.Ytgclljmchdlbeaa
