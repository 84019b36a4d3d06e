/- Controlled rounding of three by five numbers. -/
import Derived.Test.YtgclljmchdlbeaaNt
namespace Go.Proofs.Ytgclljmchdlbeaa
def Nt.Bal (Z : Nat → Int) : Prop := (∀ i, i < 3 → Z (5 * i) + Z (5 * i + 1) + Z (5 * i + 2) + Z (5 * i + 3) + Z (5 * i + 4) = 0) ∧ ∀ i, i < 5 → Z i + Z (i + 5) + Z (i + 10) = 0
theorem Nt.not_one5 {b x y z t u : Int} (h : x + y + z + t + u = 0) : (decide (¬ b ∣ x)).toNat + (decide (¬ b ∣ y)).toNat + (decide (¬ b ∣ z)).toNat + (decide (¬ b ∣ t)).toNat + (decide (¬ b ∣ u)).toNat ≠ 1 := by
  have S : ∀ {x y z t u : Int}, x + y + z + t + u = 0 → b ∣ y → b ∣ z → b ∣ t → b ∣ u → b ∣ x := by
    intro x y z t u h hy hz ht hu
    have : x = -(y + z + t + u) := by omega
    rw [this]
    exact Int.dvd_neg.2 (Int.dvd_add (Int.dvd_add (Int.dvd_add hy hz) ht) hu)
  have h1 := S h
  have h2 := S (show y + x + z + t + u = 0 by omega)
  have h3 := S (show z + x + y + t + u = 0 by omega)
  have h4 := S (show t + x + y + z + u = 0 by omega)
  have h5 := S (show u + x + y + z + t = 0 by omega)
  clear S
  by_cases ex : b ∣ x <;> by_cases ey : b ∣ y <;> by_cases ez : b ∣ z <;> by_cases et : b ∣ t <;> by_cases eu : b ∣ u <;> simp_all
theorem Nt.not_one3 {b x y z : Int} (h : x + y + z = 0) : (decide (¬ b ∣ x)).toNat + (decide (¬ b ∣ y)).toNat + (decide (¬ b ∣ z)).toNat ≠ 1 := by
  have h9 := Nd.not_one (b := b) (x := x) (y := y) (z := z) (t := 0) (by omega)
  simpa using h9
/-- there is a round way through places that are not multiples, or there are none -/
theorem Nt.way {b : Int} {Z : Nat → Int} (h : Nt.Bal Z) : (∀ k, k < 15 → b ∣ Z k) ∨ ∃ c ∈ Nt.circs, ∀ k, k < 15 → c.1.testBit k = true → ¬ b ∣ Z k := by
  have hr : ∀ i, i < 3 → [Nd.mk b Z (5 * i), Nd.mk b Z (5 * i + 1), Nd.mk b Z (5 * i + 2), Nd.mk b Z (5 * i + 3), Nd.mk b Z (5 * i + 4)] ∈ Nt.rows := fun i hi => Nt.row_in _ _ _ _ _ (Nt.not_one5 (h.1 i hi))
  have hA := Nt.all
  simp only [List.all_eq_true] at hA
  have hk := hA _ (hr 0 (by decide)) _ (hr 1 (by decide)) _ (hr 2 (by decide))
  unfold Nt.okM at hk
  rw [Bool.or_eq_true] at hk
  have hm : ∀ k, k < 15 → (Nd.bits ([Nd.mk b Z (5 * 0), Nd.mk b Z (5 * 0 + 1), Nd.mk b Z (5 * 0 + 2), Nd.mk b Z (5 * 0 + 3), Nd.mk b Z (5 * 0 + 4)] ++ [Nd.mk b Z (5 * 1), Nd.mk b Z (5 * 1 + 1), Nd.mk b Z (5 * 1 + 2), Nd.mk b Z (5 * 1 + 3), Nd.mk b Z (5 * 1 + 4)] ++ [Nd.mk b Z (5 * 2), Nd.mk b Z (5 * 2 + 1), Nd.mk b Z (5 * 2 + 2), Nd.mk b Z (5 * 2 + 3), Nd.mk b Z (5 * 2 + 4)])).testBit k = Nd.mk b Z k := by
    intro k hk
    rw [Nd.bits_test]
    rcases (show k = 0 ∨ k = 1 ∨ k = 2 ∨ k = 3 ∨ k = 4 ∨ k = 5 ∨ k = 6 ∨ k = 7 ∨ k = 8 ∨ k = 9 ∨ k = 10 ∨ k = 11 ∨ k = 12 ∨ k = 13 ∨ k = 14 by omega) with rfl | rfl | rfl | rfl | rfl | rfl | rfl | rfl | rfl | rfl | rfl | rfl | rfl | rfl | rfl <;> rfl
  generalize Nd.bits _ = m at hk hm
  rcases hk with hk | hk
  · exfalso
    have h0 := Nt.not_one3 (b := b) (h.2 0 (by decide))
    have h1 := Nt.not_one3 (b := b) (h.2 1 (by decide))
    have h2 := Nt.not_one3 (b := b) (h.2 2 (by decide))
    have h3 := Nt.not_one3 (b := b) (h.2 3 (by decide))
    have h4 := Nt.not_one3 (b := b) (h.2 4 (by decide))
    simp only [Nt.col, Nt.one, Bool.or_eq_true, beq_iff_eq, Bool.or_false] at hk
    simp only [Nd.mk, Nat.zero_add, Nat.mul_zero, Nat.mul_one, Nat.reduceAdd, Nat.reduceMul] at hk
    simp only [Nat.zero_add, Nat.reduceAdd] at h0 h1 h2 h3 h4
    rcases hk with hk | hk | hk | hk | hk
    · exact h0 hk
    · exact h1 hk
    · exact h2 hk
    · exact h3 hk
    · exact h4 hk
  · unfold Nt.okN at hk
    rw [Bool.or_eq_true, beq_iff_eq] at hk
    rcases hk with rfl | hk
    · left
      intro k hk
      have := hm k hk
      simp [Nd.mk] at this
      exact this
    · right
      obtain ⟨c, hc, he⟩ := List.any_eq_true.1 hk
      refine ⟨c, hc, fun k hk ht => ?_⟩
      have he := beq_iff_eq.1 he
      have h1 : (m &&& c.1).testBit k = true := by rw [he]; exact ht
      rw [Nat.testBit_and, hm k hk] at h1
      simp [Nd.mk, ht] at h1
      exact h1
def Nt.cnt (b : Int) (Z : Nat → Int) : Nat := ((List.range 15).filter (Nd.mk b Z)).length
theorem Nt.round (b : Int) (hb : 1 ≤ b) : ∀ (N : Nat) (Z : Nat → Int), Nt.cnt b Z ≤ N → Nt.Bal Z → ∃ Y : Nat → Int, Nt.Bal Y ∧ ∀ k, k < 15 → b ∣ Y k ∧ Y k - Z k < b ∧ Z k - Y k < b := by
  intro N
  induction N with
  | zero =>
    intro Z hN hZ
    refine ⟨Z, hZ, fun k hk => ⟨?_, by omega, by omega⟩⟩
    by_cases h : b ∣ Z k
    · exact h
    · exfalso
      have : k ∈ (List.range 15).filter (Nd.mk b Z) := List.mem_filter.2 ⟨List.mem_range.2 hk, by simp [Nd.mk, h]⟩
      have := List.length_pos_of_mem this
      unfold Nt.cnt at hN
      omega
  | succ N ih =>
    intro Z hN hZ
    rcases Nt.way (b := b) hZ with hall | ⟨c, hc, hs⟩
    · exact ⟨Z, hZ, fun k hk => ⟨hall k hk, by omega, by omega⟩⟩
    · have hz := List.all_eq_true.1 Nt.zero c hc
      unfold Nt.zeroB at hz
      simp only [Bool.and_eq_true, List.all_eq_true, List.mem_range, decide_eq_true_eq, List.any_eq_true] at hz
      obtain ⟨⟨hza, hzb⟩, ks, hks, hkt⟩ := hz
      let S := (List.range 15).filter (fun k => c.1.testBit k)
      let f : Nat → Int := fun k => if Nd.sg c k = 1 then b - Z k % b else Z k % b
      obtain ⟨k0, hk0, hmin⟩ := Nd.least (l := S) (List.ne_nil_of_mem (List.mem_filter.2 ⟨List.mem_range.2 hks, hkt⟩)) f
      obtain ⟨hk16, hkt0⟩ := List.mem_filter.1 hk0
      have hk16 := List.mem_range.1 hk16
      have hrem : ∀ k, k < 15 → c.1.testBit k = true → 1 ≤ Z k % b ∧ Z k % b < b := by
        intro k hk ht
        have h1 := Int.emod_nonneg (Z k) (show b ≠ 0 by omega)
        have h2 := Int.emod_lt_of_pos (Z k) (show 0 < b by omega)
        have h3 : Z k % b ≠ 0 := fun e => hs k hk ht (Int.dvd_of_emod_eq_zero e)
        omega
      have hd1 : 1 ≤ f k0 := by
        have := hrem k0 hk16 hkt0
        show 1 ≤ (if Nd.sg c k0 = 1 then b - Z k0 % b else Z k0 % b)
        split <;> omega
      obtain ⟨d, hd⟩ : ∃ d, f k0 = d := ⟨_, rfl⟩
      rw [hd] at hd1
      have hmn : ∀ k, k < 15 → c.1.testBit k = true → (Nd.sg c k = 1 → d ≤ b - Z k % b) ∧ (Nd.sg c k = -1 → d ≤ Z k % b) := by
        intro k hk ht
        have h1 := hmin k (List.mem_filter.2 ⟨List.mem_range.2 hk, ht⟩)
        rw [hd] at h1
        have h2 : f k = if Nd.sg c k = 1 then b - Z k % b else Z k % b := rfl
        rw [h2] at h1
        refine ⟨fun e => ?_, fun e => ?_⟩
        · rwa [if_pos e] at h1
        · rwa [if_neg (by omega)] at h1
      have hZ' : Nt.Bal (fun k => Z k + d * Nd.sg c k) := by
        constructor
        · intro i hi
          have h1 := hza i hi
          have h2 := hZ.1 i hi
          have e1 : d * (Nd.sg c (5 * i) + Nd.sg c (5 * i + 1) + Nd.sg c (5 * i + 2) + Nd.sg c (5 * i + 3) + Nd.sg c (5 * i + 4)) = 0 := by rw [h1]; simp
          simp only [Int.mul_add] at e1
          show Z (5 * i) + d * _ + (Z (5 * i + 1) + d * _) + (Z (5 * i + 2) + d * _) + (Z (5 * i + 3) + d * _) + (Z (5 * i + 4) + d * _) = 0
          omega
        · intro i hi
          have h1 := hzb i hi
          have h2 := hZ.2 i hi
          have e2 : d * (Nd.sg c i + Nd.sg c (i + 5) + Nd.sg c (i + 10)) = 0 := by rw [h1]; simp
          simp only [Int.mul_add] at e2
          show Z i + d * _ + (Z (i + 5) + d * _) + (Z (i + 10) + d * _) = 0
          omega
      have hfew : Nt.cnt b (fun k => Z k + d * Nd.sg c k) ≤ N := by
        have : Nt.cnt b (fun k => Z k + d * Nd.sg c k) < Nt.cnt b Z := by
          refine Nd.fewer (fun k hk hp => ?_) ⟨k0, List.mem_range.2 hk16, by simp [Nd.mk, hs k0 hk16 hkt0], ?_⟩
          · have hk := List.mem_range.1 hk
            rcases Nd.sg_cases c k with ⟨h1, h2⟩ | ⟨h1, _⟩
            · simpa [Nd.mk, h2] using hp
            · simp [Nd.mk, hs k hk h1]
          · have h0 := Int.mul_ediv_add_emod (Z k0) b
            have h9 : f k0 = if Nd.sg c k0 = 1 then b - Z k0 % b else Z k0 % b := rfl
            rw [hd] at h9
            have : b ∣ Z k0 + d * Nd.sg c k0 := by
              rcases Nd.sg_cases c k0 with ⟨h1, _⟩ | ⟨_, h2 | h2⟩
              · rw [hkt0] at h1; cases h1
              · rw [if_pos h2] at h9
                rw [h2]
                refine ⟨Z k0 / b + 1, ?_⟩
                rw [Int.mul_add]
                omega
              · rw [if_neg (by omega)] at h9
                rw [h2]
                exact ⟨Z k0 / b, by omega⟩
            simp [Nd.mk, this]
        omega
      obtain ⟨Y, hY, hn⟩ := ih _ hfew hZ'
      refine ⟨Y, hY, fun k hk => ⟨(hn k hk).1, ?_⟩⟩
      obtain ⟨⟨y, hy⟩, h1, h2⟩ := hn k hk
      rcases Nd.sg_cases c k with ⟨_, h3⟩ | ⟨ht, hs3⟩
      · have h1 : Y k - (Z k + d * Nd.sg c k) < b := h1
        have h2 : (Z k + d * Nd.sg c k) - Y k < b := h2
        rw [h3] at h1 h2
        omega
      · have h1 : Y k - (Z k + d * Nd.sg c k) < b := h1
        have h2 : (Z k + d * Nd.sg c k) - Y k < b := h2
        have hr := hrem k hk ht
        have hm := hmn k hk ht
        have h0 := Int.mul_ediv_add_emod (Z k) b
        obtain ⟨q, hq⟩ : ∃ q, Z k / b = q := ⟨_, rfl⟩
        obtain ⟨r, hr9⟩ : ∃ r, Z k % b = r := ⟨_, rfl⟩
        rw [hq, hr9] at h0
        rw [hr9] at hr hm
        rw [hy] at h1 h2 ⊢
        have hlo : q - 1 < y := by
          have : b * (q - 1) < b * y := by
            rw [Int.mul_sub]
            rcases hs3 with e | e
            · rw [e] at h1 h2; have := hm.1 e; omega
            · rw [e] at h1 h2; have := hm.2 e; omega
          exact Int.lt_of_mul_lt_mul_left this (by omega)
        have hhi : y < q + 2 := by
          have : b * y < b * (q + 2) := by
            rw [Int.mul_add]
            rcases hs3 with e | e
            · rw [e] at h1 h2; have := hm.1 e; omega
            · rw [e] at h1 h2; have := hm.2 e; omega
          exact Int.lt_of_mul_lt_mul_left this (by omega)
        rcases (show y = q ∨ y = q + 1 by omega) with rfl | rfl
        · omega
        · rw [Int.mul_add]; omega
end Go.Proofs.Ytgclljmchdlbeaa
