/- Codes: what a tree answers. -/
import Derived.Test.YtdlgfhegafnmcaaDoorLk
namespace Go.Proofs.YtdlgfhegafnmcaaDoor
open Go.RowKit
/-- a tree's codes and levels -/
structure TrOk (w : World) (A : Option Addr) (n c g1 c1 : Nat) (L : List Cd.Co) : Prop where
  row : CoRow w w.heap.size A n c L
  lev : Nums w .i64 w.heap.size (some ⟨g1, 0, none⟩) n c1 (Cd.levels (Cd.par L))
  tree : Cd.Tree (Cd.par L)
theorem TrOk.keep {w w' : World} {A : Option Addr} {n c g1 c1 : Nat} {L : List Cd.Co} (h : TrOk w A n c g1 c1 L) (hb : Below w.heap.size w w') : TrOk w' A n c g1 c1 L := ⟨h.row.keep hb hb.size, h.lev.keep hb hb.size, h.tree⟩
theorem TrOk.len {w : World} {A : Option Addr} {n c g1 c1 : Nat} {L : List Cd.Co} (h : TrOk w A n c g1 c1 L) : (Cd.par L).length = n := by rw [← h.row.len]; simp [Cd.par]
theorem TrOk.few {w : World} {A : Option Addr} {n c g1 c1 : Nat} {L : List Cd.Co} (h : TrOk w A n c g1 c1 L) : n ≤ 60 := by rw [← h.len]; exact h.tree.few
theorem TrOk.at {w : World} {A : Option Addr} {n c g1 c1 : Nat} {L : List Cd.Co} (h : TrOk w A n c g1 c1 L) {j : Nat} (hj : j < n) : w.cell? ⟨g1, j, none⟩ = some (.int .i64 (Cd.lev (Cd.par L) j)) := by
  obtain ⟨x, HX, hx, _⟩ := h.lev.valG hj
  rw [hx, ← HX.out.1]
  unfold Cd.levels
  rw [Cd.levs_get (by rw [h.len]; exact hj) (by rw [h.len]; exact hj)]
theorem Cd.last_le (P : List Int) : Cd.last P ≤ P.length := by
  obtain ⟨_, _, h⟩ := Cd.foldmax ((List.range P.length).map (Cd.lev P)) 0
  unfold Cd.last
  rcases h with h | h
  · rw [h]; omega
  · obtain ⟨k, hk, e⟩ := List.mem_map.1 h
    have h1 := List.mem_range.1 hk
    have h2 := Cd.lev_le P k
    rw [← e]; omega
def Cd.has (n : Nat) (k : Int) : Bool := decide (0 ≤ k) && decide (k < n)
set_option maxRecDepth 100000 in
set_option maxHeartbeats 1600000 in
theorem has01 (A : Option Addr) (n c g1 c1 g2 c2 : Nat) (L : List Cd.Co) (k : Int) (w : World) (h : TrOk w A n c g1 c1 L) : Calls Tryd.prog 52 #[.agg #[.slice A n c, .slice (some ⟨g1, 0, none⟩) n c1, .slice (some ⟨g2, 0, none⟩) n c2, .int .i64 (Cd.last (Cd.par L))], .int .i64 k] w fun e w' => e = .returned (.bool (Cd.has n k)) ∧ Below w.heap.size w w' := by
  have HT := Lib.hid h
  have hn60 := h.few
  obtain ⟨W, hW⟩ : ∃ W : World, w.alloc (.cells #[.slice A n c, .slice (some ⟨g1, 0, none⟩) n c1, .slice (some ⟨g2, 0, none⟩) n c2, .int .i64 (Cd.last (Cd.par L))] 54) = W := ⟨_, rfl⟩
  have hb : Below w.heap.size w W := by rw [← hW]; exact (Below.refl _ _).alloc (Nat.le_refl _) _
  have d0 : W.cell? ⟨w.heap.size, 0, none⟩ = some (.slice A n c) := by rw [← hW]; simp [go_sem]
  have d1 : W.cell? ⟨w.heap.size, 1, none⟩ = some (.slice (some ⟨g1, 0, none⟩) n c1) := by rw [← hW]; simp [go_sem]
  have d2 : W.cell? ⟨w.heap.size, 2, none⟩ = some (.slice (some ⟨g2, 0, none⟩) n c2) := by rw [← hW]; simp [go_sem]
  have d3 : W.cell? ⟨w.heap.size, 3, none⟩ = some (.int .i64 (Cd.last (Cd.par L))) := by rw [← hW]; simp [go_sem]
  have hsz : w.heap.size < W.heap.size := by rw [← hW]; simp
  have HW := Lib.hid (h.keep hb)
  have HB := Lib.hid hb
  clear h hb
  by_cases h0 : 0 ≤ k
  · by_cases h1 : k < (n : Int)
    · have HR := Lib.hid (show Cd.has n k = true by simp [Cd.has, h0, h1])
      go_enter Tryd.func52, Tryd.ntmps52
      go_wp2_with fail
      go_ret
      exact ⟨congrArg (fun b => Ending.returned (.bool b)) HR.out.symm, HB.out⟩
    · have HR := Lib.hid (show Cd.has n k = false by simp [Cd.has, h1])
      go_enter Tryd.func52, Tryd.ntmps52
      go_wp2_with fail
      go_ret
      exact ⟨congrArg (fun b => Ending.returned (.bool b)) HR.out.symm, HB.out⟩
  · have HR := Lib.hid (show Cd.has n k = false by simp [Cd.has, h0])
    go_enter Tryd.func52, Tryd.ntmps52
    go_wp2_with fail
    go_ret
    exact ⟨congrArg (fun b => Ending.returned (.bool b)) HR.out.symm, HB.out⟩
set_option maxRecDepth 100000 in
set_option maxHeartbeats 1600000 in
theorem lvls01 (A : Option Addr) (n c g1 c1 g2 c2 : Nat) (L : List Cd.Co) (w : World) (h : TrOk w A n c g1 c1 L) : Calls Tryd.prog 39 #[.agg #[.slice A n c, .slice (some ⟨g1, 0, none⟩) n c1, .slice (some ⟨g2, 0, none⟩) n c2, .int .i64 (Cd.last (Cd.par L))]] w fun e w' => e = .returned (.int .i64 ((Cd.last (Cd.par L) : Int) + 1)) ∧ Below w.heap.size w w' := by
  have HT := Lib.hid h
  have hn60 := h.few
  obtain ⟨W, hW⟩ : ∃ W : World, w.alloc (.cells #[.slice A n c, .slice (some ⟨g1, 0, none⟩) n c1, .slice (some ⟨g2, 0, none⟩) n c2, .int .i64 (Cd.last (Cd.par L))] 54) = W := ⟨_, rfl⟩
  have hb : Below w.heap.size w W := by rw [← hW]; exact (Below.refl _ _).alloc (Nat.le_refl _) _
  have d0 : W.cell? ⟨w.heap.size, 0, none⟩ = some (.slice A n c) := by rw [← hW]; simp [go_sem]
  have d1 : W.cell? ⟨w.heap.size, 1, none⟩ = some (.slice (some ⟨g1, 0, none⟩) n c1) := by rw [← hW]; simp [go_sem]
  have d2 : W.cell? ⟨w.heap.size, 2, none⟩ = some (.slice (some ⟨g2, 0, none⟩) n c2) := by rw [← hW]; simp [go_sem]
  have d3 : W.cell? ⟨w.heap.size, 3, none⟩ = some (.int .i64 (Cd.last (Cd.par L))) := by rw [← hW]; simp [go_sem]
  have hsz : w.heap.size < W.heap.size := by rw [← hW]; simp
  have HW := Lib.hid (h.keep hb)
  have HB := Lib.hid hb
  clear h hb
  have hl := Cd.last_le (Cd.par L)
  rw [HT.out.len] at hl
  generalize Cd.last (Cd.par L) = lst at *
  go_enter Tryd.func39, Tryd.ntmps39
  go_wp2_with fail
  go_ret
  exact ⟨rfl, HB.out⟩
end Go.Proofs.YtdlgfhegafnmcaaDoor
