/- Journals: two files that hold the same are told so. -/
import Derived.Test.YtjhdhnefoclccaaJg
namespace Go.Proofs.Ytjhdhnefoclccaa
open Go.RowKit
set_option maxRecDepth 100000 in
set_option maxHeartbeats 800000 in
theorem same_true (A A' B B' : Option Addr) (n c n' c' m d m' d' : Nat) (l l' : List Int) (w : World) (h : Nums w .u8 w.heap.size A n c l) (h' : Nums w .u8 w.heap.size A' n' c' l') (k : Nums w .u8 w.heap.size B m d l) (k' : Nums w .u8 w.heap.size B' m' d' l') :
    Calls Try.prog 19 #[.agg #[.slice A n c, .slice A' n' c'], .agg #[.slice B m d, .slice B' m' d']] w fun e w' => e = .returned (.bool true) ∧ Below w.heap.size w w' := by
  obtain ⟨W, hW⟩ : ∃ W : World, (w.alloc (.cells #[.slice A n c, .slice A' n' c'] 29)).alloc (.cells #[.slice B m d, .slice B' m' d'] 29) = W := ⟨_, rfl⟩
  have hbW : Below w.heap.size w W := by rw [← hW]; exact ((Below.refl _ _).alloc (Nat.le_refl _) _).alloc (by simp) _
  have q0 : W.cell? ⟨w.heap.size, 0, none⟩ = some (.slice A n c) := by rw [← hW]; simp [go_sem]
  have q1 : W.cell? ⟨w.heap.size, 1, none⟩ = some (.slice A' n' c') := by rw [← hW]; simp [go_sem]
  have q2 : W.cell? ⟨w.heap.size + 1, 0, none⟩ = some (.slice B m d) := by rw [← hW]; simp [go_sem]
  have q3 : W.cell? ⟨w.heap.size + 1, 1, none⟩ = some (.slice B' m' d') := by rw [← hW]; simp [go_sem]
  have s0 := (h.keep hbW hbW.size).str 22 9 5 Try.underlying22 Try.underlying5 Try.underlying9
  have s1 := (h'.keep hbW hbW.size).str 22 9 5 Try.underlying22 Try.underlying5 Try.underlying9
  have s2 := (k.keep hbW hbW.size).str 22 9 5 Try.underlying22 Try.underlying5 Try.underlying9
  have s3 := (k'.keep hbW hbW.size).str 22 9 5 Try.underlying22 Try.underlying5 Try.underlying9
  have HB := Lib.hid hbW
  clear h h' k k' hbW
  go_enter Try.func19, Try.ntmps19
  go_wp2_with fail
  go_ret
  exact ⟨rfl, hW ▸ HB.out⟩
end Go.Proofs.Ytjhdhnefoclccaa
