/- Codes: what the package answers of a right list. -/
import Derived.Test.YtdlgfhegafnmcaaDoorLn
namespace Go.Proofs.YtdlgfhegafnmcaaDoor
open Go.RowKit
set_option maxRecDepth 100000 in
set_option maxHeartbeats 1600000 in
theorem cCheck01 (s : ByteArray) (hs : Cd.name s = true) (A : Option Addr) (n c : Nat) (L : List Cd.Co)  (w : World) (h : CoRow w w.heap.size A n c L) (hr : Cd.Right L) : Calls Tryd.prog 10 #[.agg #[.string s, .slice A n c]] w fun e w' => e = .returned (.int .i64 0) ∧ Below w.heap.size w w' := by
  have HR := Lib.hid hr
  have hn60 : n ≤ 60 := by rw [← h.len]; have := hr.good.tree.few; simpa [Cd.par] using this
  obtain ⟨W, hW⟩ : ∃ W : World, w.alloc (.cells #[.string s, .slice A n c] 25) = W := ⟨_, rfl⟩
  have hb : Below w.heap.size w W := by rw [← hW]; exact (Below.refl _ _).alloc (Nat.le_refl _) _
  have d0 : W.cell? ⟨w.heap.size, 0, none⟩ = some (.string s) := by rw [← hW]; simp [go_sem]
  have d1 : W.cell? ⟨w.heap.size, 1, none⟩ = some (.slice A n c) := by rw [← hW]; simp [go_sem]
  have H := Lib.hid (h.keep hb hb.size)
  have HB := Lib.hid hb
  clear h hr hb
  go_enter Tryd.func10, Tryd.ntmps10
  go_wp2_with fail
  refine (open01 s hs A n c L W H.out HR.out).mono ?_; rintro e w1 ⟨g1, g2, c1, c2, lf, rfl, hl1, hl2, hlf, hb1⟩
  have HB1 := Lib.hid (HB.out.trans (hb1.mono HB.out.size))
  have HT := Lib.hid (show TrOk w1 A n c g1 c1 L from ⟨H.out.keep hb1 hb1.size, hl1, HR.out.good.tree⟩)
  obtain ⟨V, hV⟩ : ∃ V : World, w1.alloc (.cells #[.slice A n c, .slice (some ⟨g1, 0, none⟩) n c1, .slice (some ⟨g2, 0, none⟩) n c2, .int .i64 (Cd.last (Cd.par L))] 54) = V := ⟨_, rfl⟩
  have hbv : Below w1.heap.size w1 V := by rw [← hV]; exact (Below.refl _ _).alloc (Nat.le_refl _) _
  have v0 : V.cell? ⟨w1.heap.size, 0, none⟩ = some (.slice A n c) := by rw [← hV]; simp [go_sem]
  have v1 : V.cell? ⟨w1.heap.size, 1, none⟩ = some (.slice (some ⟨g1, 0, none⟩) n c1) := by rw [← hV]; simp [go_sem]
  have v2 : V.cell? ⟨w1.heap.size, 2, none⟩ = some (.slice (some ⟨g2, 0, none⟩) n c2) := by rw [← hV]; simp [go_sem]
  have v3 : V.cell? ⟨w1.heap.size, 3, none⟩ = some (.int .i64 (Cd.last (Cd.par L))) := by rw [← hV]; simp [go_sem]
  have HTV := Lib.hid (HT.out.keep hbv)
  have HBV := Lib.hid (HB1.out.trans (hbv.mono HB1.out.size))
  clear hl1 hl2 hlf hb1 hbv
  go_wp2_with fail
  go_ret
  exact ⟨rfl, HBV.out⟩
set_option maxRecDepth 100000 in
set_option maxHeartbeats 1600000 in
theorem cLevels01 (s : ByteArray) (hs : Cd.name s = true) (A : Option Addr) (n c : Nat) (L : List Cd.Co)  (w : World) (h : CoRow w w.heap.size A n c L) (hr : Cd.Right L) : Calls Tryd.prog 24 #[.agg #[.string s, .slice A n c]] w fun e w' => e = .returned (.int .i64 ((Cd.last (Cd.par L) : Int) + 1)) ∧ Below w.heap.size w w' := by
  have HR := Lib.hid hr
  have hn60 : n ≤ 60 := by rw [← h.len]; have := hr.good.tree.few; simpa [Cd.par] using this
  obtain ⟨W, hW⟩ : ∃ W : World, w.alloc (.cells #[.string s, .slice A n c] 25) = W := ⟨_, rfl⟩
  have hb : Below w.heap.size w W := by rw [← hW]; exact (Below.refl _ _).alloc (Nat.le_refl _) _
  have d0 : W.cell? ⟨w.heap.size, 0, none⟩ = some (.string s) := by rw [← hW]; simp [go_sem]
  have d1 : W.cell? ⟨w.heap.size, 1, none⟩ = some (.slice A n c) := by rw [← hW]; simp [go_sem]
  have H := Lib.hid (h.keep hb hb.size)
  have HB := Lib.hid hb
  clear h hr hb
  go_enter Tryd.func24, Tryd.ntmps24
  go_wp2_with fail
  refine (open01 s hs A n c L W H.out HR.out).mono ?_; rintro e w1 ⟨g1, g2, c1, c2, lf, rfl, hl1, hl2, hlf, hb1⟩
  have HB1 := Lib.hid (HB.out.trans (hb1.mono HB.out.size))
  have HT := Lib.hid (show TrOk w1 A n c g1 c1 L from ⟨H.out.keep hb1 hb1.size, hl1, HR.out.good.tree⟩)
  obtain ⟨V, hV⟩ : ∃ V : World, w1.alloc (.cells #[.slice A n c, .slice (some ⟨g1, 0, none⟩) n c1, .slice (some ⟨g2, 0, none⟩) n c2, .int .i64 (Cd.last (Cd.par L))] 54) = V := ⟨_, rfl⟩
  have hbv : Below w1.heap.size w1 V := by rw [← hV]; exact (Below.refl _ _).alloc (Nat.le_refl _) _
  have v0 : V.cell? ⟨w1.heap.size, 0, none⟩ = some (.slice A n c) := by rw [← hV]; simp [go_sem]
  have v1 : V.cell? ⟨w1.heap.size, 1, none⟩ = some (.slice (some ⟨g1, 0, none⟩) n c1) := by rw [← hV]; simp [go_sem]
  have v2 : V.cell? ⟨w1.heap.size, 2, none⟩ = some (.slice (some ⟨g2, 0, none⟩) n c2) := by rw [← hV]; simp [go_sem]
  have v3 : V.cell? ⟨w1.heap.size, 3, none⟩ = some (.int .i64 (Cd.last (Cd.par L))) := by rw [← hV]; simp [go_sem]
  have HTV := Lib.hid (HT.out.keep hbv)
  have HBV := Lib.hid (HB1.out.trans (hbv.mono HB1.out.size))
  clear hl1 hl2 hlf hb1 hbv
  go_wp2_with fail
  refine (lvls01 A n c g1 c1 g2 c2 L V HTV.out).mono ?_; rintro e w2 ⟨rfl, hb2⟩
  have HB2 := Lib.hid (HBV.out.trans (hb2.mono HBV.out.size))
  clear hb2
  go_wp2_with fail
  go_ret
  exact ⟨rfl, HB2.out⟩
set_option maxRecDepth 100000 in
set_option maxHeartbeats 1600000 in
theorem cUp01 (s : ByteArray) (hs : Cd.name s = true) (A : Option Addr) (n c : Nat) (L : List Cd.Co) (k a : Int) (w : World) (h : CoRow w w.heap.size A n c L) (hr : Cd.Right L) : Calls Tryd.prog 17 #[.agg #[.string s, .slice A n c], .int .i64 k, .int .i64 a] w fun e w' => e = .returned (.int .i64 (Cd.up (Cd.par L) n k a)) ∧ Below w.heap.size w w' := by
  have HR := Lib.hid hr
  have hn60 : n ≤ 60 := by rw [← h.len]; have := hr.good.tree.few; simpa [Cd.par] using this
  obtain ⟨W, hW⟩ : ∃ W : World, w.alloc (.cells #[.string s, .slice A n c] 25) = W := ⟨_, rfl⟩
  have hb : Below w.heap.size w W := by rw [← hW]; exact (Below.refl _ _).alloc (Nat.le_refl _) _
  have d0 : W.cell? ⟨w.heap.size, 0, none⟩ = some (.string s) := by rw [← hW]; simp [go_sem]
  have d1 : W.cell? ⟨w.heap.size, 1, none⟩ = some (.slice A n c) := by rw [← hW]; simp [go_sem]
  have H := Lib.hid (h.keep hb hb.size)
  have HB := Lib.hid hb
  clear h hr hb
  go_enter Tryd.func17, Tryd.ntmps17
  go_wp2_with fail
  refine (open01 s hs A n c L W H.out HR.out).mono ?_; rintro e w1 ⟨g1, g2, c1, c2, lf, rfl, hl1, hl2, hlf, hb1⟩
  have HB1 := Lib.hid (HB.out.trans (hb1.mono HB.out.size))
  have HT := Lib.hid (show TrOk w1 A n c g1 c1 L from ⟨H.out.keep hb1 hb1.size, hl1, HR.out.good.tree⟩)
  obtain ⟨V, hV⟩ : ∃ V : World, w1.alloc (.cells #[.slice A n c, .slice (some ⟨g1, 0, none⟩) n c1, .slice (some ⟨g2, 0, none⟩) n c2, .int .i64 (Cd.last (Cd.par L))] 54) = V := ⟨_, rfl⟩
  have hbv : Below w1.heap.size w1 V := by rw [← hV]; exact (Below.refl _ _).alloc (Nat.le_refl _) _
  have v0 : V.cell? ⟨w1.heap.size, 0, none⟩ = some (.slice A n c) := by rw [← hV]; simp [go_sem]
  have v1 : V.cell? ⟨w1.heap.size, 1, none⟩ = some (.slice (some ⟨g1, 0, none⟩) n c1) := by rw [← hV]; simp [go_sem]
  have v2 : V.cell? ⟨w1.heap.size, 2, none⟩ = some (.slice (some ⟨g2, 0, none⟩) n c2) := by rw [← hV]; simp [go_sem]
  have v3 : V.cell? ⟨w1.heap.size, 3, none⟩ = some (.int .i64 (Cd.last (Cd.par L))) := by rw [← hV]; simp [go_sem]
  have HTV := Lib.hid (HT.out.keep hbv)
  have HBV := Lib.hid (HB1.out.trans (hbv.mono HB1.out.size))
  clear hl1 hl2 hlf hb1 hbv
  go_wp2_with fail
  refine (up01 A n c g1 c1 g2 c2 L k a V HTV.out).mono ?_; rintro e w2 ⟨rfl, hb2⟩
  have HB2 := Lib.hid (HBV.out.trans (hb2.mono HBV.out.size))
  clear hb2
  go_wp2_with fail
  go_ret
  exact ⟨rfl, HB2.out⟩
set_option maxRecDepth 100000 in
set_option maxHeartbeats 1600000 in
theorem cUnder01 (s : ByteArray) (hs : Cd.name s = true) (A : Option Addr) (n c : Nat) (L : List Cd.Co) (k a : Int) (w : World) (h : CoRow w w.heap.size A n c L) (hr : Cd.Right L) : Calls Tryd.prog 19 #[.agg #[.string s, .slice A n c], .int .i64 k, .int .i64 a] w fun e w' => e = .returned (.bool (Cd.under (Cd.par L) n k a)) ∧ Below w.heap.size w w' := by
  have HR := Lib.hid hr
  have hn60 : n ≤ 60 := by rw [← h.len]; have := hr.good.tree.few; simpa [Cd.par] using this
  obtain ⟨W, hW⟩ : ∃ W : World, w.alloc (.cells #[.string s, .slice A n c] 25) = W := ⟨_, rfl⟩
  have hb : Below w.heap.size w W := by rw [← hW]; exact (Below.refl _ _).alloc (Nat.le_refl _) _
  have d0 : W.cell? ⟨w.heap.size, 0, none⟩ = some (.string s) := by rw [← hW]; simp [go_sem]
  have d1 : W.cell? ⟨w.heap.size, 1, none⟩ = some (.slice A n c) := by rw [← hW]; simp [go_sem]
  have H := Lib.hid (h.keep hb hb.size)
  have HB := Lib.hid hb
  clear h hr hb
  go_enter Tryd.func19, Tryd.ntmps19
  go_wp2_with fail
  refine (open01 s hs A n c L W H.out HR.out).mono ?_; rintro e w1 ⟨g1, g2, c1, c2, lf, rfl, hl1, hl2, hlf, hb1⟩
  have HB1 := Lib.hid (HB.out.trans (hb1.mono HB.out.size))
  have HT := Lib.hid (show TrOk w1 A n c g1 c1 L from ⟨H.out.keep hb1 hb1.size, hl1, HR.out.good.tree⟩)
  obtain ⟨V, hV⟩ : ∃ V : World, w1.alloc (.cells #[.slice A n c, .slice (some ⟨g1, 0, none⟩) n c1, .slice (some ⟨g2, 0, none⟩) n c2, .int .i64 (Cd.last (Cd.par L))] 54) = V := ⟨_, rfl⟩
  have hbv : Below w1.heap.size w1 V := by rw [← hV]; exact (Below.refl _ _).alloc (Nat.le_refl _) _
  have v0 : V.cell? ⟨w1.heap.size, 0, none⟩ = some (.slice A n c) := by rw [← hV]; simp [go_sem]
  have v1 : V.cell? ⟨w1.heap.size, 1, none⟩ = some (.slice (some ⟨g1, 0, none⟩) n c1) := by rw [← hV]; simp [go_sem]
  have v2 : V.cell? ⟨w1.heap.size, 2, none⟩ = some (.slice (some ⟨g2, 0, none⟩) n c2) := by rw [← hV]; simp [go_sem]
  have v3 : V.cell? ⟨w1.heap.size, 3, none⟩ = some (.int .i64 (Cd.last (Cd.par L))) := by rw [← hV]; simp [go_sem]
  have HTV := Lib.hid (HT.out.keep hbv)
  have HBV := Lib.hid (HB1.out.trans (hbv.mono HB1.out.size))
  clear hl1 hl2 hlf hb1 hbv
  go_wp2_with fail
  refine (under01 A n c g1 c1 g2 c2 L k a V HTV.out).mono ?_; rintro e w2 ⟨rfl, hb2⟩
  have HB2 := Lib.hid (HBV.out.trans (hb2.mono HBV.out.size))
  clear hb2
  go_wp2_with fail
  go_ret
  exact ⟨rfl, HB2.out⟩
set_option maxRecDepth 100000 in
set_option maxHeartbeats 1600000 in
theorem cAt01 (s : ByteArray) (hs : Cd.name s = true) (A : Option Addr) (n c : Nat) (L : List Cd.Co) (a : Int) (w : World) (h : CoRow w w.heap.size A n c L) (hr : Cd.Right L) : Calls Tryd.prog 22 #[.agg #[.string s, .slice A n c], .int .i64 a] w fun e w' => ∃ v, e = .returned v ∧ Own w' w.heap.size 3 .i64 v (Cd.atUp (Cd.par L) a n) ∧ Below w.heap.size w w' := by
  have HR := Lib.hid hr
  have hn60 : n ≤ 60 := by rw [← h.len]; have := hr.good.tree.few; simpa [Cd.par] using this
  obtain ⟨W, hW⟩ : ∃ W : World, w.alloc (.cells #[.string s, .slice A n c] 25) = W := ⟨_, rfl⟩
  have hb : Below w.heap.size w W := by rw [← hW]; exact (Below.refl _ _).alloc (Nat.le_refl _) _
  have d0 : W.cell? ⟨w.heap.size, 0, none⟩ = some (.string s) := by rw [← hW]; simp [go_sem]
  have d1 : W.cell? ⟨w.heap.size, 1, none⟩ = some (.slice A n c) := by rw [← hW]; simp [go_sem]
  have H := Lib.hid (h.keep hb hb.size)
  have HB := Lib.hid hb
  clear h hr hb
  go_enter Tryd.func22, Tryd.ntmps22
  go_wp2_with fail
  refine (open01 s hs A n c L W H.out HR.out).mono ?_; rintro e w1 ⟨g1, g2, c1, c2, lf, rfl, hl1, hl2, hlf, hb1⟩
  have HB1 := Lib.hid (HB.out.trans (hb1.mono HB.out.size))
  have HT := Lib.hid (show TrOk w1 A n c g1 c1 L from ⟨H.out.keep hb1 hb1.size, hl1, HR.out.good.tree⟩)
  obtain ⟨V, hV⟩ : ∃ V : World, w1.alloc (.cells #[.slice A n c, .slice (some ⟨g1, 0, none⟩) n c1, .slice (some ⟨g2, 0, none⟩) n c2, .int .i64 (Cd.last (Cd.par L))] 54) = V := ⟨_, rfl⟩
  have hbv : Below w1.heap.size w1 V := by rw [← hV]; exact (Below.refl _ _).alloc (Nat.le_refl _) _
  have v0 : V.cell? ⟨w1.heap.size, 0, none⟩ = some (.slice A n c) := by rw [← hV]; simp [go_sem]
  have v1 : V.cell? ⟨w1.heap.size, 1, none⟩ = some (.slice (some ⟨g1, 0, none⟩) n c1) := by rw [← hV]; simp [go_sem]
  have v2 : V.cell? ⟨w1.heap.size, 2, none⟩ = some (.slice (some ⟨g2, 0, none⟩) n c2) := by rw [← hV]; simp [go_sem]
  have v3 : V.cell? ⟨w1.heap.size, 3, none⟩ = some (.int .i64 (Cd.last (Cd.par L))) := by rw [← hV]; simp [go_sem]
  have HTV := Lib.hid (HT.out.keep hbv)
  have HBV := Lib.hid (HB1.out.trans (hbv.mono HB1.out.size))
  clear hl1 hl2 hlf hb1 hbv
  go_wp2_with fail
  refine (at01 A n c g1 c1 g2 c2 L a V HTV.out).mono ?_; rintro e w2 ⟨v, rfl, ho, hb2⟩
  have HB2 := Lib.hid (HBV.out.trans (hb2.mono HBV.out.size))
  have HO := Lib.hid (ho.base_le HBV.out.size)
  clear hb2 ho
  go_wp2_with fail
  go_ret
  exact ⟨v, rfl, HO.out, HB2.out⟩
end Go.Proofs.YtdlgfhegafnmcaaDoor
