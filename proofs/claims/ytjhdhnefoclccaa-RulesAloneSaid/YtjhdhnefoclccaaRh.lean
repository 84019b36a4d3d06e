/- The statement of a lone contributor, walked. -/
import Derived.Test.YtjhdhnefoclccaaRf
namespace Go.Proofs.Ytjhdhnefoclccaa
open Go.RowKit
theorem Rl.br_one (a b : Int) (p : Rl.Row) : Rl.br a b [p] 1 = Rl.one a b 0 p := by
  rw [Rl.br_succ]
  simp [Rl.br]
theorem Rl.alone1 {p a : Int} (hp : p ≤ 99) (ha : 1 ≤ a) : Rl.one 1 p 0 (1, a, a, 0) = [(2, 0)] := by
  have h1 : p * a < 100 * a := Int.mul_lt_mul_of_pos_right (show p < 100 by omega) (show 0 < a by omega)
  have h2 : ¬ (100 * (a - a - 0) < 0) := by omega
  simp [Rl.one, Rl.few, h1]
theorem Rl.alone2 {p a k m : Int} (ha : 1 ≤ a) (hm1 : m ≤ k - 1) : Rl.one 1 p 0 (k, a * k, a, a * m) = if decide (p * k < 100) then [(2, 0)] else [] := by
  have hf : Rl.few 1 k = false := by simp [Rl.few]
  have h0 : 0 ≤ a * (k - 1 - m) := Int.mul_nonneg (by omega) (by omega)
  have h3 : decide (100 * (a * k - a - a * m) < 0) = false := by
    simp
    have e : a * (k - 1 - m) = a * k - a - a * m := by rw [Int.mul_sub, Int.mul_sub, Int.mul_one]
    omega
  have h2 : decide (p * (a * k) < 100 * a) = decide (p * k < 100) := by
    have e : p * (a * k) = p * k * a := by rw [Int.mul_comm a k, Int.mul_assoc]
    rw [e]
    apply decide_eq_decide.2
    constructor
    · intro h; exact Int.lt_of_mul_lt_mul_right h (by omega)
    · intro h; exact Int.mul_lt_mul_of_pos_right h (by omega)
  unfold Rl.one
  simp only [hf, h3, h2, Bool.and_false]
  simp
set_option maxRecDepth 100000 in
set_option maxHeartbeats 3200000 in
theorem walkAlone (W0 : World) (x : Int) (hx0 : 0 ≤ x) (hx1 : x ≤ 65535) (y : Int) (hy0 : 0 ≤ y) (hy1 : y ≤ 255) (z : Int) (hz0 : 0 ≤ z) (hz1 : z ≤ 255) :
    Calls Try.prog 8 #[.int .u16 x, .int .u8 y, .int .u8 z] W0 fun e w => e = .returned (.bool true) ∧ Below W0.heap.size W0 w := by
  obtain ⟨a, ha⟩ : ∃ a, 1 + x = a := ⟨_, rfl⟩
  obtain ⟨k, hk⟩ : ∃ k, 1 + y = k := ⟨_, rfl⟩
  obtain ⟨p, hp⟩ : ∃ p, 1 + z % 99 = p := ⟨_, rfl⟩
  have ha1 : 1 ≤ a := by omega
  have ha2 : a ≤ 65536 := by omega
  have hk1 : 1 ≤ k := by omega
  have hk2 : k ≤ 256 := by omega
  have hp1 : 1 ≤ p := by omega
  have hp2 : p ≤ 99 := by omega
  obtain ⟨q, hq⟩ : ∃ q, W0.heap.size = q := ⟨_, rfl⟩
  obtain ⟨W, hW⟩ : ∃ W : World, (W0.alloc (.cells #[.int .i64 1, .int .i64 p, .int .i64 0, .int .i64 0] 49)).alloc (.cells #[.slice none 0 0, .int .i64 1, .int .i64 0, .int .i64 a, .int .i64 a, .int .i64 0, .slice none 0 0] 55) = W := ⟨_, rfl⟩
  have hbw : Below W0.heap.size W0 W := by rw [← hW]; exact ((Below.refl _ _).alloc (Nat.le_refl _) _).alloc (by simp) _
  have hr : W.heap[q]? = some (.cells #[.int .i64 1, .int .i64 p, .int .i64 0, .int .i64 0] 49) := by
    rw [← hW, ← hq]; exact (heap_alloc_old _ _ (by simp)).trans (heap_alloc_new _ _)
  have ht : Tcs W (some ⟨q + 1, 0, none⟩) 1 [(1, a, a, 0)] := by
    refine tcs_of (cs := #[.slice none 0 0, .int .i64 1, .int .i64 0, .int .i64 a, .int .i64 a, .int .i64 0, .slice none 0 0]) rfl ?_ ?_
    · rw [← hW, show q + 1 = (W0.alloc (.cells #[.int .i64 1, .int .i64 p, .int .i64 0, .int .i64 0] 49)).heap.size from by simp; omega]
      exact heap_alloc_new _ _
    · intro j hj
      match j, hj with
      | 0, _ => exact ⟨rfl, rfl, rfl, rfl, rfl, rfl, rfl⟩
  have hok : ∀ r ∈ ([(1, a, a, 0)] : List Rl.Row), Rl.ok r := by
    intro r hr
    simp only [List.mem_cons, List.not_mem_nil, or_false] at hr
    subst hr
    exact ⟨by simp, ⟨by simp only; omega, by simp only; omega⟩, ⟨by simp only; omega, by simp only; omega⟩, by simp, by simp⟩
  have HWE := Lib.hid hW
  have HBW := Lib.hid hbw
  have HR := Lib.hid hr
  have HTM := Lib.hid (bre27 1 p (by decide) (by decide) hp1 (by omega) _ 1 1 _ W ht (by decide) hok)
  rw [Rl.br_one, Rl.alone1 hp2 ha1] at HTM
  unfold Rl.tvc at HTM
  clear hW hbw hr ht hok
  go_enter Try.func8, Try.ntmps8
  go_wp2_with fail
  rw [HWE.out]
  refine HTM.out.mono ?_; rintro e w1 ⟨v1, rfl, hown1, hb1⟩
  have HB1 := Lib.hid (HBW.out.trans (hb1.mono HBW.out.size))
  have HR1 := Lib.hid ((hb1.block _ (heap_lt HR.out)).trans HR.out)
  have f0 := (heap_cell (i := 0) HR1.out rfl : w1.cell? ⟨q, 0, none⟩ = some (.int .i64 1))
  have f1 := (heap_cell (i := 1) HR1.out rfl : w1.cell? ⟨q, 1, none⟩ = some (.int .i64 p))
  have f2 := (heap_cell (i := 2) HR1.out rfl : w1.cell? ⟨q, 2, none⟩ = some (.int .i64 0))
  have f3 := (heap_cell (i := 3) HR1.out rfl : w1.cell? ⟨q, 3, none⟩ = some (.int .i64 0))
  have HO1 := Lib.hid hown1
  obtain ⟨A1, N1, c1, rfl, hN1, hp1'⟩ := hown1.prs (by decide)
  obtain rfl : N1 = 1 := hN1.out
  have HP1 := Lib.hid hp1'
  clear hb1 hown1 hp1' hN1 HTM HR
  have hak : 0 ≤ a * k := Int.mul_nonneg (by omega) (by omega)
  have hak2 : a * k ≤ 16777216 := by have := Int.mul_le_mul ha2 hk2 (by omega) (by omega); omega
  have hwa : wrap64 a = a := by unfold wrap64; omega
  by_cases hk0 : k = 1
  · subst hk0
    have hB : Rl.br 1 p [(1, a, a, 0)] 1 = if decide (p * 1 < 100) then [(2, 0)] else [] := by
      rw [Rl.br_one]
      have := Rl.alone2 (p := p) (a := a) (k := 1) (m := 0) ha1 (by omega)
      simpa using this
    have HBR := Lib.hid hB
    clear hB
    go_wp2_with fail
    obtain ⟨V, hV⟩ : ∃ V : World, w1.alloc (.cells #[.slice none 0 0, .int .i64 1, .int .i64 0, .int .i64 a, .int .i64 a, .int .i64 0, .slice none 0 0] 55) = V := ⟨_, rfl⟩
    have hbv : Below w1.heap.size w1 V := by rw [← hV]; exact (Below.refl _ _).alloc (Nat.le_refl _) _
    have ht : Tcs V (some ⟨w1.heap.size, 0, none⟩) 1 [(1, a, a, 0)] := by
      refine tcs_of (cs := #[.slice none 0 0, .int .i64 1, .int .i64 0, .int .i64 a, .int .i64 a, .int .i64 0, .slice none 0 0]) rfl ?_ ?_
      · rw [← hV]; exact heap_alloc_new _ _
      · intro j hj
        match j, hj with
        | 0, _ => exact ⟨rfl, rfl, rfl, rfl, rfl, rfl, rfl⟩
    have hok : ∀ r ∈ ([(1, a, a, 0)] : List Rl.Row), Rl.ok r := by
      intro r hr
      simp only [List.mem_cons, List.not_mem_nil, or_false] at hr
      subst hr
      exact ⟨⟨by simp only; omega, by simp only; omega⟩, ⟨by simp only; omega, by simp only; omega⟩, ⟨by simp only; omega, by simp only; omega⟩, by simp only; omega, by simp only; omega⟩
    have HTM := Lib.hid (bre27 1 p (by decide) (by decide) hp1 (by omega) _ 1 1 _ V ht (by decide) hok)
    rw [HBR.out] at HTM
    unfold Rl.tvc at HTM
    rw [hV]
    refine HTM.out.mono ?_; rintro e w2 ⟨v2, rfl, hown2, hb2⟩
    have hb12 := hbv.trans (hb2.mono hbv.size)
    have HB2 := Lib.hid (HB1.out.trans (hb12.mono HB1.out.size))
    have hr2 := (hb12.block _ (heap_lt HR1.out)).trans HR1.out
    obtain ⟨g1, rfl⟩ : ∃ g, A1 = some ⟨g, 0, none⟩ := by
      obtain ⟨g, hg, _⟩ := HP1.out.cells (by decide)
      exact ⟨g, hg⟩
    have hk0 : w2.cell? ⟨g1, 0, none⟩ = some (.int .i64 2) := by
      obtain ⟨g, hg, hc⟩ := HP1.out.cells (by decide)
      injection hg with hg; injection hg with hg; subst hg
      have := (hc 0 (by decide)).1
      exact below_cell hb12 (by simpa using this)
    have f0 := (heap_cell (i := 0) hr2 rfl : w2.cell? ⟨q, 0, none⟩ = some (.int .i64 1))
    have f1 := (heap_cell (i := 1) hr2 rfl : w2.cell? ⟨q, 1, none⟩ = some (.int .i64 p))
    have hpk : 0 ≤ p * 1 := Int.mul_nonneg (by omega) (by omega)
    have hpk2 : p * 1 ≤ 25344 := by have := Int.mul_le_mul hp2 (show (1 : Int) ≤ 256 by omega) (by omega) (by omega); omega
    clear hb2 hbv hb12 hr2 hV ht hok HTM HP1 HO1
    by_cases hc : p * 1 < 100
    · rw [decide_eq_true hc, if_pos rfl] at hown2
      obtain ⟨A2, N2, c2, rfl, hN2, _⟩ := hown2.prs (by decide)
      obtain rfl : N2 = 1 := hN2.out
      have e1 : decide (p < 100) = true := by simp; omega
      clear hown2 hN2
      go_wp2_with fail
      refine (awake27 _).mono ?_; rintro e w9 ⟨rfl, hb9⟩
      go_wp2_with fail
      go_ret
      exact ⟨rfl, HB2.out.trans (hb9.mono HB2.out.size)⟩
    · exact absurd hc (by omega)
  · have hk3 : 2 ≤ k := by omega
    have hmn : decide (k - 1 < 1) = false := by simp; omega
    have hB : Rl.br 1 p [(k, (a * k), a, a)] 1 = if decide (p * k < 100) then [(2, 0)] else [] := by
      rw [Rl.br_one]
      have := Rl.alone2 (p := p) (a := a) (k := k) (m := 1) ha1 (by omega)
      simpa using this
    have HBR := Lib.hid hB
    clear hB
    go_wp2_with fail
    obtain ⟨V, hV⟩ : ∃ V : World, w1.alloc (.cells #[.slice none 0 0, .int .i64 k, .int .i64 0, .int .i64 (a * k), .int .i64 a, .int .i64 a, .slice none 0 0] 55) = V := ⟨_, rfl⟩
    have hbv : Below w1.heap.size w1 V := by rw [← hV]; exact (Below.refl _ _).alloc (Nat.le_refl _) _
    have ht : Tcs V (some ⟨w1.heap.size, 0, none⟩) 1 [(k, (a * k), a, a)] := by
      refine tcs_of (cs := #[.slice none 0 0, .int .i64 k, .int .i64 0, .int .i64 (a * k), .int .i64 a, .int .i64 a, .slice none 0 0]) rfl ?_ ?_
      · rw [← hV]; exact heap_alloc_new _ _
      · intro j hj
        match j, hj with
        | 0, _ => exact ⟨rfl, rfl, rfl, rfl, rfl, rfl, rfl⟩
    have hok : ∀ r ∈ ([(k, (a * k), a, a)] : List Rl.Row), Rl.ok r := by
      intro r hr
      simp only [List.mem_cons, List.not_mem_nil, or_false] at hr
      subst hr
      exact ⟨⟨by simp only; omega, by simp only; omega⟩, ⟨by simp only; omega, by simp only; omega⟩, ⟨by simp only; omega, by simp only; omega⟩, by simp only; omega, by simp only; omega⟩
    have HTM := Lib.hid (bre27 1 p (by decide) (by decide) hp1 (by omega) _ 1 1 _ V ht (by decide) hok)
    rw [HBR.out] at HTM
    unfold Rl.tvc at HTM
    rw [hV]
    refine HTM.out.mono ?_; rintro e w2 ⟨v2, rfl, hown2, hb2⟩
    have hb12 := hbv.trans (hb2.mono hbv.size)
    have HB2 := Lib.hid (HB1.out.trans (hb12.mono HB1.out.size))
    have hr2 := (hb12.block _ (heap_lt HR1.out)).trans HR1.out
    obtain ⟨g1, rfl⟩ : ∃ g, A1 = some ⟨g, 0, none⟩ := by
      obtain ⟨g, hg, _⟩ := HP1.out.cells (by decide)
      exact ⟨g, hg⟩
    have hk0 : w2.cell? ⟨g1, 0, none⟩ = some (.int .i64 2) := by
      obtain ⟨g, hg, hc⟩ := HP1.out.cells (by decide)
      injection hg with hg; injection hg with hg; subst hg
      have := (hc 0 (by decide)).1
      exact below_cell hb12 (by simpa using this)
    have f0 := (heap_cell (i := 0) hr2 rfl : w2.cell? ⟨q, 0, none⟩ = some (.int .i64 1))
    have f1 := (heap_cell (i := 1) hr2 rfl : w2.cell? ⟨q, 1, none⟩ = some (.int .i64 p))
    have hpk : 0 ≤ p * k := Int.mul_nonneg (by omega) (by omega)
    have hpk2 : p * k ≤ 25344 := by have := Int.mul_le_mul hp2 (show (k : Int) ≤ 256 by omega) (by omega) (by omega); omega
    clear hb2 hbv hb12 hr2 hV ht hok HTM HP1 HO1
    by_cases hc : p * k < 100
    · rw [decide_eq_true hc, if_pos rfl] at hown2
      obtain ⟨A2, N2, c2, rfl, hN2, _⟩ := hown2.prs (by decide)
      obtain rfl : N2 = 1 := hN2.out
      have e1 : decide (p * k < 100) = true := decide_eq_true hc
      clear hown2 hN2
      go_wp2_with fail
      refine (awake27 _).mono ?_; rintro e w9 ⟨rfl, hb9⟩
      go_wp2_with fail
      go_ret
      exact ⟨rfl, HB2.out.trans (hb9.mono HB2.out.size)⟩
    · rw [decide_eq_false hc, if_neg (by simp)] at hown2
      obtain ⟨A2, N2, c2, rfl, hN2, _⟩ := hown2.prs (by decide)
      obtain rfl : N2 = 0 := hN2.out
      have e1 : decide (p * k < 100) = false := decide_eq_false hc
      clear hown2 hN2
      go_wp2_with fail
      refine (awake27 _).mono ?_; rintro e w9 ⟨rfl, hb9⟩
      go_wp2_with fail
      go_ret
      exact ⟨rfl, HB2.out.trans (hb9.mono HB2.out.size)⟩
end Go.Proofs.Ytjhdhnefoclccaa
