/- Codes: Find; the example that every law asks. -/
import Derived.Test.YtdlgfhegafnmcaaDoorLp
namespace Go.Proofs.YtdlgfhegafnmcaaDoor
open Go.RowKit
set_option maxRecDepth 100000 in
set_option maxHeartbeats 1600000 in
theorem cFind01 (s : ByteArray) (hs : Cd.name s = true) (A : Option Addr) (n c : Nat) (L : List Cd.Co) (t : ByteArray) (w : World) (h : CoRow w w.heap.size A n c L) (hr : Cd.Right L) :
    Calls Tryd.prog 26 #[.agg #[.string s, .slice A n c], .string t] w (GivesPlaceC L t w) := by
  have HR := Lib.hid hr
  have hn60 : n ≤ 60 := by rw [← h.len]; have := hr.good.tree.few; simpa [Cd.par] using this
  obtain ⟨W, hW⟩ : ∃ W : World, w.alloc (.cells #[.string s, .slice A n c] 25) = W := ⟨_, rfl⟩
  have hb : Below w.heap.size w W := by rw [← hW]; exact (Below.refl _ _).alloc (Nat.le_refl _) _
  have d0 : W.cell? ⟨w.heap.size, 0, none⟩ = some (.string s) := by rw [← hW]; simp [go_sem]
  have d1 : W.cell? ⟨w.heap.size, 1, none⟩ = some (.slice A n c) := by rw [← hW]; simp [go_sem]
  obtain ⟨W2, hW2⟩ : ∃ W2 : World, W.alloc (.cells #[.string t] 9) = W2 := ⟨_, rfl⟩
  have hb2 : Below W.heap.size W W2 := by rw [← hW2]; exact (Below.refl _ _).alloc (Nat.le_refl _) _
  have e0 := below_cell hb2 d0
  have e1 := below_cell hb2 d1
  have et : W2.cell? ⟨W.heap.size, 0, none⟩ = some (.string t) := by rw [← hW2]; simp [go_sem]
  have hlt : W.heap.size < W2.heap.size := by rw [← hW2]; simp
  have HB2 := Lib.hid (hb.trans (hb2.mono hb.size))
  have H2 := Lib.hid (h.keep (hb.trans (hb2.mono hb.size)) (hb.trans (hb2.mono hb.size)).size)
  clear h hr hb hb2
  go_enter Tryd.func26, Tryd.ntmps26
  go_wp2_with fail
  clear hW hW2 d0 d1
  refine (open01 s hs A n c L W2 H2.out HR.out).mono ?_; rintro e w1 ⟨g1, g2, c1, c2, lf, rfl, hl1, hl2, hlf, hb1⟩
  have et := (hb1.cell hlt).trans et
  have hlt := Nat.lt_of_lt_of_le hlt hb1.size
  have HB1 := Lib.hid (HB2.out.trans (hb1.mono HB2.out.size))
  have H1 := Lib.hid (H2.out.keep hb1 hb1.size)
  obtain ⟨V, hV⟩ : ∃ V : World, w1.alloc (.cells #[.slice A n c, .slice (some ⟨g1, 0, none⟩) n c1, .slice (some ⟨g2, 0, none⟩) n c2, .int .i64 (Cd.last (Cd.par L))] 54) = V := ⟨_, rfl⟩
  have hbv : Below w1.heap.size w1 V := by rw [← hV]; exact (Below.refl _ _).alloc (Nat.le_refl _) _
  have v0 : V.cell? ⟨w1.heap.size, 0, none⟩ = some (.slice A n c) := by rw [← hV]; simp [go_sem]
  have v1 : V.cell? ⟨w1.heap.size, 1, none⟩ = some (.slice (some ⟨g1, 0, none⟩) n c1) := by rw [← hV]; simp [go_sem]
  have v2 : V.cell? ⟨w1.heap.size, 2, none⟩ = some (.slice (some ⟨g2, 0, none⟩) n c2) := by rw [← hV]; simp [go_sem]
  have v3 : V.cell? ⟨w1.heap.size, 3, none⟩ = some (.int .i64 (Cd.last (Cd.par L))) := by rw [← hV]; simp [go_sem]
  have et := (hbv.cell hlt).trans et
  have hltv := Nat.lt_of_lt_of_le hlt hbv.size
  have HBV := Lib.hid (HB1.out.trans (hbv.mono HB1.out.size))
  have HV := Lib.hid (H1.out.keep hbv hbv.size)
  clear hl1 hl2 hlf hb1 hbv
  go_wp2_with fail
  clear hV
  refine (indexC01 A n c L W.heap.size t V HV.out (by omega) et hltv).mono ?_; rintro e w2 ⟨i, rfl, hi, hb2⟩
  have HI := Lib.hid hi
  have HB3 := Lib.hid (HBV.out.trans (hb2.mono HBV.out.size))
  clear hi hb2
  go_wp2_with fail
  go_ret
  exact ⟨i, rfl, HI.out, HB3.out⟩
theorem litN01 {w : World} {k : IntKind} {g : Nat} {l : List Int} {t : TypeId} {fr : Nat × Nat} (h : w.heap[g]? = some (.cells (l.map (Value.int k)).toArray t fr)) (hl : l.length ≤ 1000) (hw : ∀ x ∈ l, (Lit.int k x).wf = true) {B : Nat} (hB : g < B) : Nums w k B (some ⟨g, 0, none⟩) l.length l.length l :=
  ⟨rfl, Nat.le_refl _, by simp only [maxLen]; omega, fun _ => ⟨_, rfl, hB, fun j hj => by rw [Cd.addr_zero]; simp [World.cell?, h, List.getD, hj]⟩, hw, fun h => by cases h⟩
/-- the example's list -/
def Cd.exl : List Cd.Co := [⟨⟨#[97]⟩, -1⟩, ⟨⟨#[98]⟩, 0⟩, ⟨⟨#[99]⟩, 0⟩, ⟨⟨#[100]⟩, 1⟩, ⟨⟨#[101]⟩, 1⟩, ⟨⟨#[102]⟩, 2⟩]
/-- Right, computed -/
def Cd.treeB (P : List Int) : Bool := decide (1 ≤ P.length) && decide (P.length ≤ 60) && decide (P.getD 0 0 = -1) && (List.range P.length).all fun i => decide (i = 0) || (decide (0 ≤ P.getD i (-1)) && decide (P.getD i (-1) < i))
def Cd.evenB (P : List Int) : Bool := (List.range P.length).all fun k => ((List.range P.length).any fun q => decide (0 < q) && decide (P.getD q (-1) = k)) || decide (Cd.lev P k = Cd.last P)
def Cd.diffB (N : List (List UInt8)) : Bool := (List.range N.length).all fun j => (List.range j).all fun i => decide (N.getD i [] ≠ N.getD j [])
theorem Cd.tree_of {P : List Int} (h : Cd.treeB P = true) : Cd.Tree P := by
  unfold Cd.treeB at h
  simp only [Bool.and_eq_true, decide_eq_true_eq, List.all_eq_true, List.mem_range, Bool.or_eq_true] at h
  exact ⟨h.1.1.1, h.1.1.2, h.1.2, fun i h1 h2 => (h.2 i h2).elim (fun e => by omega) id⟩
theorem Cd.even_of {P : List Int} (h : Cd.evenB P = true) : Cd.Even P := by
  unfold Cd.evenB at h
  simp only [List.all_eq_true, List.mem_range, Bool.or_eq_true, List.any_eq_true, Bool.and_eq_true, decide_eq_true_eq] at h
  intro k hk hno
  rcases h k hk with ⟨q, hq, h1, h2⟩ | h1
  · exact absurd h2 (hno q h1 hq)
  · exact h1
/-- a name's bytes, computed -/
def Cd.nameL (l : List UInt8) : Bool := decide (1 ≤ l.length) && decide (l.length ≤ 16) && Cd.letter ((l.map fun b => (b.toNat : Int)).getD 0 0) && !(Cd.words.contains l) && (l.map fun b => (b.toNat : Int)).all Cd.okb
theorem Cd.name_L (s : ByteArray) : Cd.name s = Cd.nameL s.data.toList := by
  unfold Cd.name Cd.nameL Cd.str
  rw [ByteArray.toList_eq]
  rfl
theorem Cd.right_of {L : List Cd.Co} (h1 : Cd.treeB (Cd.par L) = true) (h2 : Cd.evenB (Cd.par L) = true) (h3 : (L.all fun x => Cd.nameL x.name.data.toList) = true) (h4 : Cd.diffB (L.map fun x => x.name.data.toList) = true) : Cd.Right L := by
  refine ⟨⟨Cd.tree_of h1, fun j hj => ?_, fun i j hij hj e => ?_⟩, Cd.even_of h2⟩
  · rw [Cd.name_L]
    have := List.all_eq_true.1 h3 (L.getD j Cd.Co0) (by rw [List.getD_eq_getElem?_getD, List.getElem?_eq_getElem hj]; exact List.getElem_mem hj)
    exact this
  · unfold Cd.diffB at h4
    simp only [List.all_eq_true, List.mem_range, List.length_map, decide_eq_true_eq] at h4
    have h5 := h4 j hj i hij
    apply h5
    have hg : ∀ k, k < L.length → (L.map fun x => x.name.data.toList).getD k [] = (L.getD k Cd.Co0).name.data.toList := fun k hk => by simp [List.getD, hk]
    rw [hg i (by omega), hg j hj, e]
theorem Cd.ex_right : Cd.Right Cd.exl := Cd.right_of (by decide) (by decide) (by decide) (by decide)
theorem Cd.ex_name : Cd.name ⟨#[108]⟩ = true := by rw [Cd.name_L]; decide
set_option maxRecDepth 100000 in
set_option maxHeartbeats 1600000 in
theorem awake01 (w : World) : Calls Tryd.prog 8 #[] w fun e w' => e = .returned (.bool true) ∧ Below w.heap.size w w' := by
  obtain ⟨W0, hW0⟩ : ∃ W0 : World, w.alloc (.cells #[.string ⟨#[97]⟩, .int .i64 (-1), .string ⟨#[98]⟩, .int .i64 0, .string ⟨#[99]⟩, .int .i64 0, .string ⟨#[100]⟩, .int .i64 1, .string ⟨#[101]⟩, .int .i64 1, .string ⟨#[102]⟩, .int .i64 2] 50) = W0 := ⟨_, rfl⟩
  have hb0 : Below w.heap.size w W0 := by rw [← hW0]; exact (Below.refl _ _).alloc (Nat.le_refl _) _
  have hc0 : CoRow W0 W0.heap.size (some ⟨w.heap.size, 0, none⟩) 6 6 Cd.exl := CoRow.lit (L := Cd.exl) (by rw [← hW0]; exact heap_alloc_new _ _) (by decide)
  obtain ⟨W, hW⟩ : ∃ W : World, W0.alloc (.cells #[.string ⟨#[108]⟩, .slice (some ⟨w.heap.size, 0, none⟩) 6 6] 25) = W := ⟨_, rfl⟩
  have hb : Below W0.heap.size W0 W := by rw [← hW]; exact (Below.refl _ _).alloc (Nat.le_refl _) _
  have d0 : W.cell? ⟨W0.heap.size, 0, none⟩ = some (.string ⟨#[108]⟩) := by rw [← hW]; simp [go_sem]
  have d1 : W.cell? ⟨W0.heap.size, 1, none⟩ = some (.slice (some ⟨w.heap.size, 0, none⟩) 6 6) := by rw [← hW]; simp [go_sem]
  have HB_W := Lib.hid (hb0.trans (hb.mono hb0.size))
  have HC_W := Lib.hid (hc0.keep hb hb.size)
  clear hb hb0 hc0
  go_enter Tryd.func8, Tryd.ntmps8
  go_wp2_with fail
  clear hW hW0
  refine (cCheck01 ⟨#[108]⟩ Cd.ex_name (some ⟨w.heap.size, 0, none⟩) 6 6 Cd.exl W HC_W.out Cd.ex_right).mono ?_; rintro e w1 ⟨rfl, hb⟩
  have d0 := below_cell hb d0
  have d1 := below_cell hb d1
  have HB_w1 := Lib.hid (HB_W.out.trans (hb.mono HB_W.out.size))
  have HC_w1 := Lib.hid (HC_W.out.keep hb hb.size)
  clear hb
  go_wp2_with fail
  refine (cLevels01 ⟨#[108]⟩ Cd.ex_name (some ⟨w.heap.size, 0, none⟩) 6 6 Cd.exl w1 HC_w1.out Cd.ex_right).mono ?_; rintro e w2 ⟨rfl, hb⟩
  rw [show ((Cd.last (Cd.par Cd.exl) : Nat) : Int) + 1 = 3 by decide]
  have d0 := below_cell hb d0
  have d1 := below_cell hb d1
  have HB_w2 := Lib.hid (HB_w1.out.trans (hb.mono HB_w1.out.size))
  have HC_w2 := Lib.hid (HC_w1.out.keep hb hb.size)
  clear hb
  go_wp2_with fail
  refine (cUp01 ⟨#[108]⟩ Cd.ex_name (some ⟨w.heap.size, 0, none⟩) 6 6 Cd.exl 4 1 w2 HC_w2.out Cd.ex_right).mono ?_; rintro e w3 ⟨rfl, hb⟩
  rw [show Cd.up (Cd.par Cd.exl) 6 4 1 = 1 by decide]
  have d0 := below_cell hb d0
  have d1 := below_cell hb d1
  have HB_w3 := Lib.hid (HB_w2.out.trans (hb.mono HB_w2.out.size))
  have HC_w3 := Lib.hid (HC_w2.out.keep hb hb.size)
  clear hb
  go_wp2_with fail
  refine (cUnder01 ⟨#[108]⟩ Cd.ex_name (some ⟨w.heap.size, 0, none⟩) 6 6 Cd.exl 4 1 w3 HC_w3.out Cd.ex_right).mono ?_; rintro e w4 ⟨rfl, hb⟩
  rw [show Cd.under (Cd.par Cd.exl) 6 4 1 = true by decide]
  have d0 := below_cell hb d0
  have d1 := below_cell hb d1
  have HB_w4 := Lib.hid (HB_w3.out.trans (hb.mono HB_w3.out.size))
  have HC_w4 := Lib.hid (HC_w3.out.keep hb hb.size)
  clear hb
  go_wp2_with fail
  refine (cUnder01 ⟨#[108]⟩ Cd.ex_name (some ⟨w.heap.size, 0, none⟩) 6 6 Cd.exl 5 1 w4 HC_w4.out Cd.ex_right).mono ?_; rintro e w5 ⟨rfl, hb⟩
  rw [show Cd.under (Cd.par Cd.exl) 6 5 1 = false by decide]
  have d0 := below_cell hb d0
  have d1 := below_cell hb d1
  have HB_w5 := Lib.hid (HB_w4.out.trans (hb.mono HB_w4.out.size))
  have HC_w5 := Lib.hid (HC_w4.out.keep hb hb.size)
  clear hb
  go_wp2_with fail
  refine (cFind01 ⟨#[108]⟩ Cd.ex_name (some ⟨w.heap.size, 0, none⟩) 6 6 Cd.exl ⟨#[102]⟩ w5 HC_w5.out Cd.ex_right).mono ?_; rintro e w6 ⟨i, rfl, hi, hb⟩
  obtain rfl : i = 5 := by
    rcases hi with ⟨_, h9⟩ | ⟨j, hj, rfl, h8, h9⟩
    · exact absurd rfl (h9 ⟨⟨#[102]⟩, 2⟩ (by simp [Cd.exl]))
    · have hj6 : j < 6 := hj
      rcases (show j = 0 ∨ j = 1 ∨ j = 2 ∨ j = 3 ∨ j = 4 ∨ j = 5 by omega) with rfl | rfl | rfl | rfl | rfl | rfl
      · exact absurd h8 (by decide)
      · exact absurd h8 (by decide)
      · exact absurd h8 (by decide)
      · exact absurd h8 (by decide)
      · exact absurd h8 (by decide)
      · rfl
  have d0 := below_cell hb d0
  have d1 := below_cell hb d1
  have HB_w6 := Lib.hid (HB_w5.out.trans (hb.mono HB_w5.out.size))
  have HC_w6 := Lib.hid (HC_w5.out.keep hb hb.size)
  clear hb hi
  go_wp2_with fail
  refine (cAt01 ⟨#[108]⟩ Cd.ex_name (some ⟨w.heap.size, 0, none⟩) 6 6 Cd.exl 2 w6 HC_w6.out Cd.ex_right).mono ?_; rintro e w7 ⟨v, rfl, ho, hb⟩
  rw [show Cd.atUp (Cd.par Cd.exl) 2 6 = [3, 4, 5] by decide] at ho
  obtain ⟨ga, ca, rfl, _, _, _, _⟩ := ho.rowg (n := 3) rfl (by omega)
  have hna := ho.numsG (by decide)
  have HB_w7 := Lib.hid (HB_w6.out.trans (hb.mono HB_w6.out.size))
  obtain ⟨X, hX⟩ : ∃ X : World, w7.alloc (.cells #[.int .i64 3, .int .i64 4, .int .i64 5] 3) = X := ⟨_, rfl⟩
  have hbx : Below w7.heap.size w7 X := by rw [← hX]; exact (Below.refl _ _).alloc (Nat.le_refl _) _
  have HNA := Lib.hid (hna.keep hbx hbx.size)
  have HLX := Lib.hid (show Nums X .i64 X.heap.size (some ⟨w7.heap.size, 0, none⟩) 3 3 [3, 4, 5] by rw [← hX]; exact litN01 (k := .i64) (l := [3, 4, 5]) (heap_alloc_new w7 _) (by simp) (by decide) (by simp))
  have HB_X := Lib.hid (HB_w7.out.trans (hbx.mono HB_w7.out.size))
  clear hb ho hna hbx
  go_wp2_with fail
  clear hX
  refine (ints_any _ _ _ _ _ _ [3, 4, 5] [3, 4, 5] _ _ X HNA.out HLX.out).mono ?_; rintro e w8 ⟨rfl, m, rfl⟩
  rw [show decide (([3, 4, 5] : List Int) = [3, 4, 5]) = true by decide]
  go_wp2_with fail
  go_ret
  exact ⟨rfl, below_drewN HB_X.out _⟩
end Go.Proofs.YtdlgfhegafnmcaaDoor
