/- Rounding: Round of a right table. -/
import Derived.Test.YtgclljmchdlbeaaNh
import Derived.Laws.EntriesVeiled
namespace Go.Proofs.Ytgclljmchdlbeaa
open Go.RowKit
theorem Own.k3 {g q : Nat} {w w' : World} {base n c : Nat} {e : TypeId} {k : IntKind} {l : List Int} (h : Own w base e k (.slice (some ⟨q, 0, none⟩) n c) l) (hk : K2 g g w w') (h1 : q ≠ g) : Own w' base e k (.slice (some ⟨q, 0, none⟩) n c) l := h.k2 hk h1 h1
/-- what the search starts from -/
theorem rd_start {n k c : Nat} {A : Option Addr} {b : Int} {t : List Int} {w W1 W2 W3 w4 W5 W6 W7 W8 : World}
    (hn1 : 1 ≤ n) (hn2 : n ≤ 12) (hk1 : 1 ≤ k) (hk2 : k ≤ 12) (hb0 : 1 ≤ b) (hb1 : b ≤ 20) (ht : ∀ x ∈ t, 0 ≤ x ∧ x ≤ 1000000)
    (h : Nums w .i64 w.heap.size A k c t)
    (hB : Below w.heap.size w W3)
    (p1 : W3.heap[w.heap.size]? = some (.cells #[.int .i64 n] 3 (0, 0)))
    (p2 : W3.heap[W1.heap.size]? = some (.cells #[.slice A k c] 22 (0, 0)))
    (p3 : W3.heap[W2.heap.size]? = some (.cells #[.int .i64 b] 3 (0, 0)))
    (e1 : w.heap.size + 1 = W1.heap.size) (e2 : W1.heap.size + 1 = W2.heap.size) (e3 : W2.heap.size + 1 = W3.heap.size)
    (hown : Own w4 W3.heap.size 3 .i64 (.slice (some ⟨W3.heap.size, 0, none⟩) k k) (List.replicate k 0)) (hgrow : W3.grownBy w4 none)
    (hW5 : w4.alloc (.cells #[.slice (some ⟨W3.heap.size, 0, none⟩) k k] 22 (0, 0)) = W5) (hW6 : W5.alloc (.cells #[.slice none 0 0] 22 (0, 0)) = W6) (hW7 : W6.alloc (.cells #[.nilFunc] 68 (0, 0)) = W7)
    (e5 : w4.heap.size + 1 = W5.heap.size) (e6 : W5.heap.size + 1 = W6.heap.size)
    (hW8 : W7.setCell ⟨W6.heap.size, 0, none⟩ (.func (.func 40) #[] #[.pointer (some ⟨W1.heap.size, 0, none⟩), .pointer (some ⟨w.heap.size, 0, none⟩), .pointer (some ⟨w4.heap.size, 0, none⟩), .pointer (some ⟨W2.heap.size, 0, none⟩), .pointer (some ⟨W5.heap.size, 0, none⟩), .pointer (some ⟨W6.heap.size, 0, none⟩)]) = W8) :
    (⟨W1.heap.size, w.heap.size, w4.heap.size, W2.heap.size, W5.heap.size, W6.heap.size, W3.heap.size, w.heap.size, A, k, c, n, b, t⟩ : Rd.Cx).Ok w ∧
      Rd.St ⟨W1.heap.size, w.heap.size, w4.heap.size, W2.heap.size, W5.heap.size, W6.heap.size, W3.heap.size, w.heap.size, A, k, c, n, b, t⟩ w W8 (List.replicate k 0) (.slice none 0 0) := by
  have hw4 : W3.heap.size < w4.heap.size := hown.head.2.2
  have k34 : K2 W6.heap.size W6.heap.size W3 w4 := K2.below (Own.below_grown hgrow (Nat.le_refl _))
  have k45 : K2 W6.heap.size W6.heap.size w4 W5 := by rw [← hW5]; exact K2.below ((Below.refl _ _).alloc (Nat.le_refl _) _)
  have k56 : K2 W6.heap.size W6.heap.size W5 W6 := by rw [← hW6]; exact K2.below ((Below.refl _ _).alloc (Nat.le_refl _) _)
  have k67 : K2 W6.heap.size W6.heap.size W6 W7 := by rw [← hW7]; exact K2.below ((Below.refl _ _).alloc (Nat.le_refl _) _)
  have k78 : K2 W6.heap.size W6.heap.size W7 W8 := by rw [← hW8]; exact K2.grownG (grownBy_setF _ _ _ _)
  have k68 := k67.trans k78
  have k58 := k56.trans k68
  have k48 := k45.trans k58
  have k38 := k34.trans k48
  have q5 : W5.heap[w4.heap.size]? = some (.cells #[.slice (some ⟨W3.heap.size, 0, none⟩) k k] 22 (0, 0)) := by rw [← hW5]; exact heap_alloc_new _ _
  have q6 : W6.heap[W5.heap.size]? = some (.cells #[.slice none 0 0] 22 (0, 0)) := by rw [← hW6]; exact heap_alloc_new _ _
  have q7 : W7.heap[W6.heap.size]? = some (.cells #[.nilFunc] 68 (0, 0)) := by rw [← hW7]; exact heap_alloc_new _ _
  obtain ⟨d1, d2, d3, d4, d5, d6⟩ : W1.heap.size ≠ W6.heap.size ∧ w.heap.size ≠ W6.heap.size ∧ w4.heap.size ≠ W6.heap.size ∧ W2.heap.size ≠ W6.heap.size ∧ W5.heap.size ≠ W6.heap.size ∧ W3.heap.size ≠ W6.heap.size := by omega
  refine ⟨⟨hn1, hn2, hk1, hk2, hb0, hb1, h.len, ht, h, by show w.heap.size ≤ W3.heap.size; omega, by show w.heap.size ≤ W5.heap.size; omega, ?_, ?_⟩, ⟨?_, ?_, k38.heap p2 d1 d1, k38.heap p1 d2 d2, k58.heap q5 d3 d3, k38.heap p3 d4 d4, k68.heap q6 d5 d5, ?_, ?_, by simp, ?_⟩⟩
  · show W1.heap.size ≠ W5.heap.size ∧ w.heap.size ≠ W5.heap.size ∧ w4.heap.size ≠ W5.heap.size ∧ W2.heap.size ≠ W5.heap.size ∧ W6.heap.size ≠ W5.heap.size ∧ W3.heap.size ≠ W5.heap.size
    omega
  · show W1.heap.size ≠ W3.heap.size ∧ w.heap.size ≠ W3.heap.size ∧ w4.heap.size ≠ W3.heap.size ∧ W2.heap.size ≠ W3.heap.size ∧ W6.heap.size ≠ W3.heap.size
    omega
  · exact k38.belowB hB (by show w.heap.size ≤ W3.heap.size; omega) (by show w.heap.size ≤ W6.heap.size; omega) (by show w.heap.size ≤ W6.heap.size; omega)
  · exact Nat.le_trans (show w.heap.size ≤ W3.heap.size by omega) k38.size
  · rw [← hW8]; exact heap_setF q7 _
  · exact (hown.k3 k48 d6).base_le (by show w.heap.size ≤ W3.heap.size; omega)
  · intro x hx
    rw [List.eq_of_mem_replicate hx]
    exact ⟨by decide, by decide⟩
set_option maxRecDepth 100000 in
set_option maxHeartbeats 1600000 in
theorem round34 (m n : Nat) (hm : 1 ≤ m) (hn : 1 ≤ n) (hmn : m * n ≤ 12) (A : Option Addr) (k c : Nat) (HK : Hid (k = m * n)) (t : List Int) (ht : ∀ x ∈ t, 0 ≤ x ∧ x ≤ 1000000) (b : Int) (hb0 : 1 ≤ b) (hb1 : b ≤ 20) (w : World) (h : Nums w .i64 w.heap.size A k c t) :
    Calls Try.prog 14 #[.int .i64 m, .int .i64 n, .slice A k c, .int .i64 b] w fun e w' => ∃ v, e = .returned (.tuple #[v, .int .i64 0]) ∧ Below w.heap.size w w' ∧ Hid ((Rd.find (fun p => Rd.fits n k t p b) b [] t = none ∧ v = .slice none 0 0) ∨ ∃ r, Rd.find (fun p => Rd.fits n k t p b) b [] t = some r ∧ Own w' w.heap.size 3 .i64 v r) := by
  obtain ⟨W1, hW1⟩ : ∃ W1, w.alloc (.cells #[.int .i64 n] 3 (0, 0)) = W1 := ⟨_, rfl⟩
  have e1 : w.heap.size + 1 = W1.heap.size := by rw [← hW1]; simp
  obtain ⟨W2, hW2⟩ : ∃ W2, W1.alloc (.cells #[.slice A k c] 22 (0, 0)) = W2 := ⟨_, rfl⟩
  have e2 : W1.heap.size + 1 = W2.heap.size := by rw [← hW2]; simp
  obtain ⟨W3, hW3⟩ : ∃ W3, W2.alloc (.cells #[.int .i64 b] 3 (0, 0)) = W3 := ⟨_, rfl⟩
  have e3 : W2.heap.size + 1 = W3.heap.size := by rw [← hW3]; simp
  have b1 : Below w.heap.size w W1 := by rw [← hW1]; exact (Below.refl _ _).alloc (Nat.le_refl _) _
  have b2 : Below W1.heap.size W1 W2 := by rw [← hW2]; exact (Below.refl _ _).alloc (Nat.le_refl _) _
  have b3 : Below W2.heap.size W2 W3 := by rw [← hW3]; exact (Below.refl _ _).alloc (Nat.le_refl _) _
  have p1 : W3.heap[w.heap.size]? = some (.cells #[.int .i64 n] 3 (0, 0)) := by
    rw [b3.block _ (by omega), b2.block _ (by omega), ← hW1]; exact heap_alloc_new _ _
  have p2 : W3.heap[W1.heap.size]? = some (.cells #[.slice A k c] 22 (0, 0)) := by
    rw [b3.block _ (by omega), ← hW2]; exact heap_alloc_new _ _
  have p3 : W3.heap[W2.heap.size]? = some (.cells #[.int .i64 b] 3 (0, 0)) := by
    rw [← hW3]; exact heap_alloc_new _ _
  have HB := Lib.hid ((b1.trans (b2.mono (by omega))).trans (b3.mono (by omega)))
  have H := Lib.hid h
  have HT := Lib.hid ht
  have c1 := heap_cell0 p1
  have c2 := heap_cell0 p2
  have c3 := heap_cell0 p3
  have P := Lib.hid (And.intro p1 (And.intro p2 p3))
  have hk12 : k ≤ 12 := by rw [HK.out]; exact hmn
  have HMN := Lib.hid hmn
  clear h ht b1 b2 b3 p1 p2 p3 hmn
  have E := Lib.hid (And.intro e1 (And.intro e2 e3))
  clear e1 e2 e3
  go_enter Try.func14, Try.ntmps14
  go_wp2_with fail
  refine (wrong34 m n hm hn HMN.out A k c HK.out t HT.out b hb0 hb1 w.heap.size W3 (H.out.keep HB.out (Nat.le_refl _))).mono ?_; rintro e w4 ⟨rfl, rfl⟩
  go_wp2_with (at_make; refine make_ints _ rfl _ _ _ rfl W3.heap.size 3 8 .i64 int_info Try.underlying22 k rfl rfl (by simp only [maxLen]; omega) (by omega) (Nat.le_refl _) ?_; intro w4 hown hgrow; obtain ⟨W5, hW5⟩ : ∃ W5, w4.alloc (.cells #[.slice (some ⟨W3.heap.size, 0, none⟩) k k] 22 (0, 0)) = W5 := ⟨_, rfl⟩; have e5 : w4.heap.size + 1 = W5.heap.size := (by rw [← hW5]; simp); obtain ⟨W6, hW6⟩ : ∃ W6, W5.alloc (.cells #[.slice none 0 0] 22 (0, 0)) = W6 := ⟨_, rfl⟩; have e6 : W5.heap.size + 1 = W6.heap.size := (by rw [← hW6]; simp); obtain ⟨W7, hW7⟩ : ∃ W7, W6.alloc (.cells #[.nilFunc] 68 (0, 0)) = W7 := ⟨_, rfl⟩; have q7 : W7.heap[W6.heap.size]? = some (.cells #[.nilFunc] 68 (0, 0)) := (by rw [← hW7]; exact heap_alloc_new _ _); have c7 := heap_cell0 q7; have f7 := heap_thaw0 q7; have Q7 := Lib.hid q7; clear q7; have E7 := Lib.hid (And.intro e5 e6); clear e5 e6)
  obtain ⟨W8, hW8⟩ : ∃ W8, W7.setCell ⟨W6.heap.size, 0, none⟩ (.func (.func 40) #[] #[.pointer (some ⟨W1.heap.size, 0, none⟩), .pointer (some ⟨w.heap.size, 0, none⟩), .pointer (some ⟨w4.heap.size, 0, none⟩), .pointer (some ⟨W2.heap.size, 0, none⟩), .pointer (some ⟨W5.heap.size, 0, none⟩), .pointer (some ⟨W6.heap.size, 0, none⟩)]) = W8 := ⟨_, rfl⟩
  have k1 : 1 ≤ k := by rw [HK.out]; exact Nat.mul_pos hm hn
  have hn12 : n ≤ 12 := Nat.le_trans (by simpa using Nat.mul_le_mul_right n hm) HMN.out
  have HS := Lib.hid (rd_start hn hn12 k1 hk12 hb0 hb1 HT.out H.out HB.out P.out.1 P.out.2.1 P.out.2.2 E.out.1 E.out.2.1 E.out.2.2 hown hgrow hW5 hW6 hW7 E7.out.1 E7.out.2 hW8)
  have HW8 := Lib.hid hW8
  clear hown hgrow k1 hn12
  go_wp2_with fail
  rw [HW8.out]
  refine (show Calls Try.prog 40 #[.int .i64 0, .pointer (some ⟨W1.heap.size, 0, none⟩), .pointer (some ⟨w.heap.size, 0, none⟩), .pointer (some ⟨w4.heap.size, 0, none⟩), .pointer (some ⟨W2.heap.size, 0, none⟩), .pointer (some ⟨W5.heap.size, 0, none⟩), .pointer (some ⟨W6.heap.size, 0, none⟩)] W8 (Rd.Post ⟨W1.heap.size, w.heap.size, w4.heap.size, W2.heap.size, W5.heap.size, W6.heap.size, W3.heap.size, w.heap.size, A, k, c, n, b, t⟩ w W8 [] t) from try34 _ w HS.out.1 k 0 (Nat.zero_add k) W8 _ HS.out.2).mono ?_; rintro e w9 ⟨ρ', hr, hk, hc⟩
  clear hr
  rcases hc with ⟨h1, rfl, h3⟩ | ⟨r, v, h1, rfl, h3, h4⟩
  · have c9 := heap_cell0 h3.hf
    have HF := Lib.hid (And.intro h1 h3.bel)
    clear h1 h3 hk
    go_wp2_with fail
    refine bodyPost_ret (v := .tuple #[.slice none 0 0, .int .i64 0]) (by simp [results, Try.results14, go_sem]) rfl ?_
    exact ⟨_, rfl, HF.out.2, Lib.hid (.inl ⟨HF.out.1, rfl⟩)⟩
  · have c9 := heap_cell0 h3.hf
    have HF := Lib.hid (And.intro h1 (And.intro h3.bel h4))
    clear h1 h3 h4 hk
    go_wp2_with fail
    refine bodyPost_ret (v := .tuple #[v, .int .i64 0]) (by simp [results, Try.results14, go_sem]) rfl ?_
    exact ⟨_, rfl, HF.out.2.1, Lib.hid (.inr ⟨r, HF.out.1, HF.out.2.2⟩)⟩
end Go.Proofs.Ytgclljmchdlbeaa
