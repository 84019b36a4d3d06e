/- Journals: the reference's Sync. -/
import Derived.Test.YtjhdhnefoclccaaK3
namespace Go.Proofs.Ytjhdhnefoclccaa
open Go.RowKit
set_option maxRecDepth 100000 in
set_option maxHeartbeats 800000 in
theorem rsync23 (A A' : Option Addr) (n c n' c' : Nat) (l l' : List Int) (w : World) (h : Nums w .u8 w.heap.size A n c l) (h' : Nums w .u8 w.heap.size A' n' c' l') (hs : n + n' ≤ 1000000000) :
    Calls Try.prog 22 #[.agg #[.slice A n c, .slice A' n' c']] w (GivesSafe (l ++ l') w) := by
  obtain ⟨W, hW⟩ : ∃ W : World, (w.alloc (.cells #[.slice A n c, .slice A' n' c'] 29)).alloc (.cells #[.slice none 0 0, .slice none 0 0] 29) = W := ⟨_, rfl⟩
  have k0 : W.cell? ⟨w.heap.size, 0, none⟩ = some (.slice A n c) := by rw [← hW]; simp [go_sem]
  have k1 : W.cell? ⟨w.heap.size, 1, none⟩ = some (.slice A' n' c') := by rw [← hW]; simp [go_sem]
  have r0 : W.cell? ⟨w.heap.size + 1, 0, none⟩ = some (.slice none 0 0) := by rw [← hW]; simp [go_sem]
  have r1 : W.cell? ⟨w.heap.size + 1, 1, none⟩ = some (.slice none 0 0) := by rw [← hW]; simp [go_sem]
  have z0 : W.frozen? ⟨w.heap.size + 1, 0, none⟩ = false := by rw [← hW]; simp [go_sem]
  have z1 : W.frozen? ⟨w.heap.size + 1, 1, none⟩ = false := by rw [← hW]; simp [go_sem]
  have hsz : W.heap.size = w.heap.size + 2 := by rw [← hW]; simp
  have hbW : Below w.heap.size w W := by rw [← hW]; exact ((Below.refl _ _).alloc (Nat.le_refl _) _).alloc (by simp) _
  have H := Lib.hid (h.keep hbW hbW.size)
  have H' := Lib.hid (h'.keep hbW hbW.size)
  have HB := Lib.hid hbW
  have HZ := Lib.hid hsz
  have HR := Lib.hid (And.intro r0 (And.intro r1 (And.intro z0 z1)))
  have hl : l ++ l'.take (Jn.cl n' n') = l ++ l' := by rw [show Jn.cl n' n' = n' from by unfold Jn.cl; omega, take_len h'.len]
  have HL := Lib.hid hl
  have HWF := Lib.hid (show ∀ x ∈ l ++ l', (Lit.int .u8 x).wf = true from fun x hx => (List.mem_append.1 hx).elim (h.wf x) (h'.wf x))
  generalize hlr : l ++ l' = lr at *
  clear h h' hbW hsz r0 r1 z0 z1 hl hlr
  go_enter Try.func22, Try.ntmps22
  go_wp2_with fail
  clear hW
  refine (rcrash23 A A' n c n' c' l l' n' W H.out H'.out hs).mono ?_; rintro e w1 ⟨v1, rfl, hown, hb⟩
  rw [HL.out] at hown
  obtain ⟨A1, c1, rfl, _⟩ := hown.nums HWF.out
  have q2 := below_cell hb HR.out.1
  have q3 := below_cell hb HR.out.2.1
  have q4 := below_frozen hb HR.out.1 HR.out.2.2.1
  have q5 := below_frozen hb HR.out.2.1 HR.out.2.2.2
  go_wp2
  exact bodyPost_ret (v := .agg #[.slice A1 lr.length c1, .slice none 0 0]) (by simp [results, Try.results22, go_sem, *]) rfl
      ⟨_, rfl, ((hown.setCell (by rw [HZ.out]; simp) _).setCell (by rw [HZ.out]; simp) _).base_le HB.out.size,
        ((HB.out.trans (hb.mono HB.out.size)).setCell (by simp) _).setCell (by simp) _⟩
end Go.Proofs.Ytjhdhnefoclccaa
