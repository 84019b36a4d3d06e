/- Codes: the level of a code. -/
import Derived.Test.YtdlgfhegafnmcaaDoorLo
namespace Go.Proofs.YtdlgfhegafnmcaaDoor
open Go.RowKit
def Cd.level (P : List Int) (n : Nat) (k : Int) : Int := if Cd.has n k = true then Cd.lev P k.toNat else -1
set_option maxRecDepth 100000 in
set_option maxHeartbeats 1600000 in
theorem level01 (A : Option Addr) (n c g1 c1 g2 c2 : Nat) (L : List Cd.Co) (k : Int) (w : World) (h : TrOk w A n c g1 c1 L) : Calls Tryd.prog 35 #[.agg #[.slice A n c, .slice (some ⟨g1, 0, none⟩) n c1, .slice (some ⟨g2, 0, none⟩) n c2, .int .i64 (Cd.last (Cd.par L))], .int .i64 k] w fun e w' => e = .returned (.int .i64 (Cd.level (Cd.par L) n k)) ∧ Below w.heap.size w w' := by
  have HT := Lib.hid h
  have hn60 := h.few
  obtain ⟨W, hW⟩ : ∃ W : World, w.alloc (.cells #[.slice A n c, .slice (some ⟨g1, 0, none⟩) n c1, .slice (some ⟨g2, 0, none⟩) n c2, .int .i64 (Cd.last (Cd.par L))] 54) = W := ⟨_, rfl⟩
  have hb : Below w.heap.size w W := by rw [← hW]; exact (Below.refl _ _).alloc (Nat.le_refl _) _
  have d0 : W.cell? ⟨w.heap.size, 0, none⟩ = some (.slice A n c) := by rw [← hW]; simp [go_sem]
  have d1 : W.cell? ⟨w.heap.size, 1, none⟩ = some (.slice (some ⟨g1, 0, none⟩) n c1) := by rw [← hW]; simp [go_sem]
  have d2 : W.cell? ⟨w.heap.size, 2, none⟩ = some (.slice (some ⟨g2, 0, none⟩) n c2) := by rw [← hW]; simp [go_sem]
  have d3 : W.cell? ⟨w.heap.size, 3, none⟩ = some (.int .i64 (Cd.last (Cd.par L))) := by rw [← hW]; simp [go_sem]
  have hsz : w.heap.size < W.heap.size := by rw [← hW]; simp
  have HW := Lib.hid (h.keep hb)
  have HB := Lib.hid hb
  clear h hb
  go_enter Tryd.func35, Tryd.ntmps35
  go_wp2_with fail
  clear hW
  refine (has01 A n c g1 c1 g2 c2 L k W HW.out).mono ?_; rintro e w1 ⟨rfl, hb1⟩
  have HB1 := Lib.hid (HB.out.trans (hb1.mono HB.out.size))
  have d1 := (hb1.cell hsz).trans d1
  have H1 := Lib.hid (HW.out.keep hb1)
  clear hb1
  rcases hh : Cd.has n k with _ | _
  · have HR := Lib.hid (show Cd.level (Cd.par L) n k = -1 by unfold Cd.level; rw [hh]; simp)
    clear hh
    go_wp2_with fail
    go_ret
    exact ⟨congrArg (fun b => Ending.returned (.int .i64 b)) HR.out.symm, HB1.out⟩
  · have hk : 0 ≤ k ∧ k < n := by simpa [Cd.has] using hh
    obtain ⟨j, rfl⟩ := Int.eq_ofNat_of_zero_le hk.1
    have HR := Lib.hid (show Cd.level (Cd.par L) n (j : Int) = Cd.lev (Cd.par L) j by unfold Cd.level; rw [hh]; simp)
    have cj := H1.out.at (j := j) (by omega)
    have i1 : (0 : Int) ≤ (j : Int) := by omega
    have i2 : (j : Int) < (n : Int) := by omega
    clear hh hk
    go_wp2_with fail
    go_ret
    exact ⟨congrArg (fun b => Ending.returned (.int .i64 b)) HR.out.symm, HB1.out⟩
set_option maxRecDepth 100000 in
set_option maxHeartbeats 1600000 in
theorem cLevel01 (s : ByteArray) (hs : Cd.name s = true) (A : Option Addr) (n c : Nat) (L : List Cd.Co) (k : Int) (w : World) (h : CoRow w w.heap.size A n c L) (hr : Cd.Right L) : Calls Tryd.prog 15 #[.agg #[.string s, .slice A n c], .int .i64 k] w fun e w' => e = .returned (.int .i64 (Cd.level (Cd.par L) n k)) ∧ Below w.heap.size w w' := by
  have HR := Lib.hid hr
  have hn60 : n ≤ 60 := by rw [← h.len]; have := hr.good.tree.few; simpa [Cd.par] using this
  obtain ⟨W, hW⟩ : ∃ W : World, w.alloc (.cells #[.string s, .slice A n c] 25) = W := ⟨_, rfl⟩
  have hb : Below w.heap.size w W := by rw [← hW]; exact (Below.refl _ _).alloc (Nat.le_refl _) _
  have d0 : W.cell? ⟨w.heap.size, 0, none⟩ = some (.string s) := by rw [← hW]; simp [go_sem]
  have d1 : W.cell? ⟨w.heap.size, 1, none⟩ = some (.slice A n c) := by rw [← hW]; simp [go_sem]
  have H := Lib.hid (h.keep hb hb.size)
  have HB := Lib.hid hb
  clear h hr hb
  go_enter Tryd.func15, Tryd.ntmps15
  go_wp2_with fail
  refine (open01 s hs A n c L W H.out HR.out).mono ?_; rintro e w1 ⟨g1, g2, c1, c2, lf, rfl, hl1, hl2, hlf, hb1⟩
  have HB1 := Lib.hid (HB.out.trans (hb1.mono HB.out.size))
  have HT := Lib.hid (show TrOk w1 A n c g1 c1 L from ⟨H.out.keep hb1 hb1.size, hl1, HR.out.good.tree⟩)
  obtain ⟨V, hV⟩ : ∃ V : World, w1.alloc (.cells #[.slice A n c, .slice (some ⟨g1, 0, none⟩) n c1, .slice (some ⟨g2, 0, none⟩) n c2, .int .i64 (Cd.last (Cd.par L))] 54) = V := ⟨_, rfl⟩
  have hbv : Below w1.heap.size w1 V := by rw [← hV]; exact (Below.refl _ _).alloc (Nat.le_refl _) _
  have v0 : V.cell? ⟨w1.heap.size, 0, none⟩ = some (.slice A n c) := by rw [← hV]; simp [go_sem]
  have v1 : V.cell? ⟨w1.heap.size, 1, none⟩ = some (.slice (some ⟨g1, 0, none⟩) n c1) := by rw [← hV]; simp [go_sem]
  have v2 : V.cell? ⟨w1.heap.size, 2, none⟩ = some (.slice (some ⟨g2, 0, none⟩) n c2) := by rw [← hV]; simp [go_sem]
  have v3 : V.cell? ⟨w1.heap.size, 3, none⟩ = some (.int .i64 (Cd.last (Cd.par L))) := by rw [← hV]; simp [go_sem]
  have HTV := Lib.hid (HT.out.keep hbv)
  have HBV := Lib.hid (HB1.out.trans (hbv.mono HB1.out.size))
  clear hl1 hl2 hlf hb1 hbv
  go_wp2_with fail
  refine (level01 A n c g1 c1 g2 c2 L k V HTV.out).mono ?_; rintro e w2 ⟨rfl, hb2⟩
  have HB2 := Lib.hid (HBV.out.trans (hb2.mono HBV.out.size))
  clear hb2
  go_wp2_with fail
  go_ret
  exact ⟨rfl, HB2.out⟩
end Go.Proofs.YtdlgfhegafnmcaaDoor
