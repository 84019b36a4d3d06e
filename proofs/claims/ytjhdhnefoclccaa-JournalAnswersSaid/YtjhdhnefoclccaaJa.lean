/- Journals: Append. -/
import Derived.Test.YtjhdhnefoclccaaJs
namespace Go.Proofs.Ytjhdhnefoclccaa
open Go.RowKit
/-- The function returns the file as it was, and an error. -/
def GivesError (b p : Value) (code : Int) (w : World) (e : Ending) (w' : World) : Prop := e = .returned (.tuple #[.agg #[b, p], .int .i64 code]) ∧ Below w.heap.size w w'
/-- The function returns a file with the same safe bytes, and what is pending in a row of its own. -/
def GivesPending (b : Value) (l : List Int) (w : World) (e : Ending) (w' : World) : Prop := ∃ v, e = .returned (.tuple #[.agg #[b, v], .int .i64 0]) ∧ Own w' w.heap.size 5 .u8 v l ∧ Below w.heap.size w w'
theorem Jn.frame_len (p : List Int) : (Jn.frame p).length = p.length + 8 := by simp [Jn.frame, Jn.four]
theorem Jn.frame_wf {p : List Int} (h : ∀ x ∈ p, (Lit.int .u8 x).wf = true) : ∀ x ∈ Jn.frame p, (Lit.int .u8 x).wf = true := by
  intro x hx
  unfold Jn.frame at hx
  rcases List.mem_append.1 hx with hx | hx
  · exact (List.mem_append.1 hx).elim (Jn.four_wf _ x) (h x)
  · exact Jn.four_wf _ x hx
section
variable (A A' B : Option Addr) (n c n' c' m d : Nat) (l l' p : List Int) (w : World)
set_option maxRecDepth 100000 in
set_option maxHeartbeats 1600000 in
/-- Append, behind the frame: the three ways. -/
theorem append23 (h : Nums w .u8 w.heap.size A n c l) (h' : Nums w .u8 w.heap.size A' n' c' l') (hp : Nums w .u8 w.heap.size B m d p) (hs : n + n' ≤ 1000000) (hm : m ≤ 4096)
    (Q : Ending → World → Prop)
    (ht : (Jn.read l).2 ≠ n → Q = GivesError (.slice A n c) (.slice A' n' c') 40 w)
    (hf : (Jn.read l).2 = n → 262144 < n + n' + (m + 8) → Q = GivesError (.slice A n c) (.slice A' n' c') 42 w)
    (ho : (Jn.read l).2 = n → n + n' + (m + 8) ≤ 262144 → Q = GivesPending (.slice A n c) (l' ++ Jn.frame p) w) :
    Calls Try.prog 13 #[.agg #[.slice A n c, .slice A' n' c'], .slice B m d] w Q := by
  obtain ⟨W, hW⟩ : ∃ W : World, (w.alloc (.cells #[.slice A n c, .slice A' n' c'] 29)).alloc (.cells #[.slice none 0 0, .slice none 0 0] 29) = W := ⟨_, rfl⟩
  have k0 : W.cell? ⟨w.heap.size, 0, none⟩ = some (.slice A n c) := by rw [← hW]; simp [go_sem]
  have k1 : W.cell? ⟨w.heap.size, 1, none⟩ = some (.slice A' n' c') := by rw [← hW]; simp [go_sem]
  have r0 : W.cell? ⟨w.heap.size + 1, 0, none⟩ = some (.slice none 0 0) := by rw [← hW]; simp [go_sem]
  have r1 : W.cell? ⟨w.heap.size + 1, 1, none⟩ = some (.slice none 0 0) := by rw [← hW]; simp [go_sem]
  have zk0 : W.frozen? ⟨w.heap.size, 0, none⟩ = false := by rw [← hW]; simp [go_sem]
  have zk1 : W.frozen? ⟨w.heap.size, 1, none⟩ = false := by rw [← hW]; simp [go_sem]
  have z0 : W.frozen? ⟨w.heap.size + 1, 0, none⟩ = false := by rw [← hW]; simp [go_sem]
  have z1 : W.frozen? ⟨w.heap.size + 1, 1, none⟩ = false := by rw [← hW]; simp [go_sem]
  have hsz : W.heap.size = w.heap.size + 2 := by rw [← hW]; simp
  have hbW : Below w.heap.size w W := by rw [← hW]; exact ((Below.refl _ _).alloc (Nat.le_refl _) _).alloc (by simp) _
  have H := Lib.hid (h.keep hbW hbW.size)
  have H' := Lib.hid (h'.keep hbW hbW.size)
  have HP := Lib.hid (hp.keep hbW hbW.size)
  have HB := Lib.hid hbW
  have HZ := Lib.hid hsz
  have HS := Lib.hid hs
  have HM := Lib.hid hm
  have HR := Lib.hid (And.intro k0 (And.intro k1 (And.intro r0 (And.intro r1 (And.intro zk0 (And.intro zk1 (And.intro z0 z1)))))))
  have HT := Lib.hid ht
  have HF := Lib.hid hf
  have HO := Lib.hid ho
  obtain ⟨k, hk⟩ : ∃ k, (Jn.read l).2 = k := ⟨_, rfl⟩
  have HK := Lib.hid hk
  have hmx : m ≤ 9223372036854775807 := hp.bd
  clear h h' hp hbW hsz r0 r1 zk0 zk1 z0 z1 hs hm k0 k1 ht hf ho hk
  go_enter Try.func13, Try.ntmps13
  go_wp2_with fail
  clear hW
  refine (frame23 B m d p W HP.out HM.out).mono ?_; rintro e w1 ⟨v1, rfl, hown, hb⟩
  obtain ⟨A1, c1, rfl, hn1⟩ := hown.nums (Jn.frame_wf HP.out.wf)
  have hfl : (Jn.frame p).length = m + 8 := by rw [Jn.frame_len, HP.out.len]
  rw [hfl] at hn1
  rw [hfl]
  have HN1 := Lib.hid hn1
  have HB1 := Lib.hid hb
  have k0 := below_cell hb HR.out.1
  clear hown hn1 hfl hb
  generalize Jn.frame p = fr at *
  go_wp2_with fail
  refine (read23 A n c l w1 (H.out.keep HB1.out HB1.out.size) (by have := HS.out; omega)).mono ?_; rintro e w2 ⟨v2, rfl, hrows, hb2⟩
  rw [HK.out]
  have HB2 := Lib.hid (HB1.out.trans (hb2.mono HB1.out.size))
  have HN2 := Lib.hid (HN1.out.keep hb2 hb2.size)
  clear hrows hb2 k0
  have k0 := below_cell HB2.out HR.out.1
  have k1 := below_cell HB2.out HR.out.2.1
  have r0 := below_cell HB2.out HR.out.2.2.1
  have r1 := below_cell HB2.out HR.out.2.2.2.1
  have z0 := below_frozen HB2.out HR.out.2.2.1 HR.out.2.2.2.2.2.2.1
  have z1 := below_frozen HB2.out HR.out.2.2.2.1 HR.out.2.2.2.2.2.2.2
  have y0 := below_frozen HB2.out HR.out.1 HR.out.2.2.2.2.1
  have y1 := below_frozen HB2.out HR.out.2.1 HR.out.2.2.2.2.2.1
  have b1 : (n : Int) + (n' : Int) ≤ 1000000 := by have := HS.out; omega
  have b2 : (m : Int) ≤ 4096 := by have := HM.out; omega
  by_cases hkn : k = n
  · have g1 : ((k : Int) != (n : Int)) = false := by simp [hkn]
    have g1' : ((k : Int) == (n : Int)) = true := by simp [hkn]
    by_cases hfull : 262144 < n + n' + (m + 8)
    · have g2 : decide (262144 < (n : Int) + (n' : Int) + ((m : Int) + 8)) = true := by simp; omega
      have hq := HF.out (by rw [HK.out]; exact hkn) hfull
      subst hq
      clear hfull hkn
      go_wp2_with fail
      exact bodyPost_ret (v := .tuple #[.agg #[.slice A n c, .slice A' n' c'], .int .i64 42]) (by simp [results, Try.results13, go_sem, *]) rfl
        ⟨rfl, ((HB.out.trans (HB2.out.mono HB.out.size)).setCell (by simp) _).setCell (by simp) _⟩
    · have g2 : decide (262144 < (n : Int) + (n' : Int) + ((m : Int) + 8)) = false := by simp; omega
      have hq := HO.out (by rw [HK.out]; exact hkn) (by omega)
      subst hq
      clear hfull hkn
      go_wp2_with fail
      refine (concat_new A' A1 n' c' (m + 8) c1 l' fr w2 (H'.out.keep HB2.out HB2.out.size) HN2.out (by have := HS.out; have := HM.out; omega)).mono ?_; rintro e w3 ⟨v3, rfl, hown3, hb3⟩
      have HWF := Lib.hid (show ∀ x ∈ l' ++ fr, (Lit.int .u8 x).wf = true from fun x hx => (List.mem_append.1 hx).elim (H'.out.wf x) (HN2.out.wf x))
      generalize l' ++ fr = lf at *
      obtain ⟨A3, c3, rfl, _⟩ := hown3.nums HWF.out
      have HB3 := Lib.hid (HB2.out.trans (hb3.mono HB2.out.size))
      have HO3 := Lib.hid hown3
      clear hown3 hb3 k0 k1 r0 r1 z0 z1 y0 y1
      have k0 := below_cell HB3.out HR.out.1
      have k1 := below_cell HB3.out HR.out.2.1
      have r0 := below_cell HB3.out HR.out.2.2.1
      have r1 := below_cell HB3.out HR.out.2.2.2.1
      have z0 := below_frozen HB3.out HR.out.2.2.1 HR.out.2.2.2.2.2.2.1
      have z1 := below_frozen HB3.out HR.out.2.2.2.1 HR.out.2.2.2.2.2.2.2
      have y0 := below_frozen HB3.out HR.out.1 HR.out.2.2.2.2.1
      have y1 := below_frozen HB3.out HR.out.2.1 HR.out.2.2.2.2.2.1
      go_wp2_with fail
      have hz3 : w.heap.size + 1 < w2.heap.size := by have := HB2.out.size; rw [HZ.out] at this; omega
      exact bodyPost_ret (v := .tuple #[.agg #[.slice A n c, .slice A3 lf.length c3], .int .i64 0]) (by simp [results, Try.results13, go_sem, *]) rfl
        ⟨_, rfl, (((HO3.out.setCell (by simp; omega) _).setCell (by simp; omega) _).setCell (by simp; omega) _).base_le (Nat.le_trans HB.out.size HB2.out.size),
          (((HB.out.trans (HB3.out.mono HB.out.size)).setCell (by simp) _).setCell (by simp) _).setCell (by simp) _⟩
  · have g1 : ((k : Int) != (n : Int)) = true := by simp; omega
    have g1' : ((k : Int) == (n : Int)) = false := by simp; omega
    have hq := HT.out (by rw [HK.out]; exact hkn)
    subst hq
    clear hkn
    go_wp2_with fail
    exact bodyPost_ret (v := .tuple #[.agg #[.slice A n c, .slice A' n' c'], .int .i64 40]) (by simp [results, Try.results13, go_sem, *]) rfl
      ⟨rfl, ((HB.out.trans (HB2.out.mono HB.out.size)).setCell (by simp) _).setCell (by simp) _⟩
end
end Go.Proofs.Ytjhdhnefoclccaa
