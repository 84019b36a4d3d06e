/- Rounding: Round of all tables. -/
import Derived.Test.YtgclljmchdlbeaaNx
namespace Go.Proofs.Ytgclljmchdlbeaa
open Go.RowKit
/-- what Round gives -/
def Rd.res (R C : Int) (t : List Int) (b : Int) : List Int := if Rd.err R C t b = 0 then Rd.best C.toNat t b else []
theorem Rd.find_best {m n : Nat} {t : List Int} {b : Int} (hm : 1 ≤ m) (hn : 1 ≤ n) (hmn : m * n ≤ 9) (hl : t.length = m * n) (hb : 1 ≤ b) : Rd.find (fun p => Rd.fits n t.length t p b) b [] t = some (Rd.best n t b) := by
  obtain ⟨q, hq, hf⟩ := Rd.existsG m n hm hn hmn t hl b hb
  rcases hx : Rd.find (fun p => Rd.fits n t.length t p b) b [] t with _ | r
  · have h9 := Rd.find_none hx q hq
    simp only [List.nil_append] at h9
    rw [hl, hf] at h9; cases h9
  · unfold Rd.best; rw [hx]; rfl
set_option maxRecDepth 100000 in
set_option maxHeartbeats 1600000 in
theorem roundG (R C : Int) (hR : -9223372036854775808 ≤ R ∧ R ≤ 9223372036854775807) (hC : -9223372036854775808 ≤ C ∧ C ≤ 9223372036854775807) (A : Option Addr) (k c : Nat) (t : List Int) (ht : t.length ≤ 9 ∨ 12 < t.length) (b : Int) (w : World) (h : Nums w .i64 w.heap.size A k c t) :
    Calls Try.prog 14 #[.int .i64 R, .int .i64 C, .slice A k c, .int .i64 b] w fun e w' => ∃ v, e = .returned (.tuple #[v, .int .i64 (Rd.err R C t b)]) ∧ Own w' w.heap.size 3 .i64 v (Rd.res R C t b) ∧ Below w.heap.size w w' := by
  by_cases h0 : Rd.err R C t b = 0
  · obtain ⟨m, n, rfl, rfl, hm, hn, hmn, hlen, hb0, hb1, hsm⟩ := Rd.err_ok h0
    have hk : k = m * n := by rw [← h.len]; exact hlen
    have hf := Rd.find_best (t := t) (b := b) hm hn (by omega) hlen hb0
    refine (round34 m n hm hn hmn A k c (Lib.hid hk) t hsm b hb0 hb1 w h).mono ?_
    rintro e w' ⟨v, rfl, hb, HX⟩
    rw [h.len] at hf
    rcases HX.out with ⟨h1, _⟩ | ⟨r, h1, h2⟩
    · rw [h1] at hf; cases hf
    · rw [h1] at hf
      injection hf with hf
      have e2 : Rd.res (m : Int) (n : Int) t b = r := by unfold Rd.res; rw [if_pos h0, hf]; rfl
      exact ⟨v, by rw [h0], by rw [e2]; exact h2, hb⟩
  · have HR := Lib.hid (show Rd.res R C t b = [] by unfold Rd.res; rw [if_neg h0])
    obtain ⟨q, hq⟩ : ∃ q, Rd.err R C t b = q := ⟨_, rfl⟩
    have g2 : (q != 0) = true := by rw [← hq]; simpa using h0
    have HQ := Lib.hid hq
    obtain ⟨W1, hW1⟩ : ∃ W1, w.alloc (.cells #[.int .i64 C] 3 (0, 0)) = W1 := ⟨_, rfl⟩
    have e1 : w.heap.size + 1 = W1.heap.size := by rw [← hW1]; simp
    obtain ⟨W2, hW2⟩ : ∃ W2, W1.alloc (.cells #[.slice A k c] 22 (0, 0)) = W2 := ⟨_, rfl⟩
    have e2 : W1.heap.size + 1 = W2.heap.size := by rw [← hW2]; simp
    obtain ⟨W3, hW3⟩ : ∃ W3, W2.alloc (.cells #[.int .i64 b] 3 (0, 0)) = W3 := ⟨_, rfl⟩
    have e3 : W2.heap.size + 1 = W3.heap.size := by rw [← hW3]; simp
    have b1 : Below w.heap.size w W1 := by rw [← hW1]; exact (Below.refl _ _).alloc (Nat.le_refl _) _
    have b2 : Below W1.heap.size W1 W2 := by rw [← hW2]; exact (Below.refl _ _).alloc (Nat.le_refl _) _
    have b3 : Below W2.heap.size W2 W3 := by rw [← hW3]; exact (Below.refl _ _).alloc (Nat.le_refl _) _
    have p1 : W3.heap[w.heap.size]? = some (.cells #[.int .i64 C] 3 (0, 0)) := by
      rw [b3.block _ (by omega), b2.block _ (by omega), ← hW1]; exact heap_alloc_new _ _
    have p2 : W3.heap[W1.heap.size]? = some (.cells #[.slice A k c] 22 (0, 0)) := by
      rw [b3.block _ (by omega), ← hW2]; exact heap_alloc_new _ _
    have p3 : W3.heap[W2.heap.size]? = some (.cells #[.int .i64 b] 3 (0, 0)) := by
      rw [← hW3]; exact heap_alloc_new _ _
    have HB := Lib.hid ((b1.trans (b2.mono (by omega))).trans (b3.mono (by omega)))
    have H := Lib.hid h
    have c1 := heap_cell0 p1
    have c2 := heap_cell0 p2
    have c3 := heap_cell0 p3
    clear h b1 b2 b3 p1 p2 p3 e1 e2 e3 h0 hq ht
    go_enter Try.func14, Try.ntmps14
    go_wp2_with fail
    refine (wrongG R C hR hC A k c t b w.heap.size W3 (H.out.keep HB.out (Nat.le_refl _))).mono ?_; rintro e w4 ⟨rfl, rfl⟩
    rw [HQ.out]
    go_wp2_with fail
    refine bodyPost_ret (v := .tuple #[.slice none 0 0, .int .i64 q]) (by simp [results, Try.results14, go_sem]) rfl ?_
    exact ⟨.slice none 0 0, by rw [HQ.out], by rw [HR.out]; exact Own.nil _ _ _ _, HB.out⟩
end Go.Proofs.Ytgclljmchdlbeaa
