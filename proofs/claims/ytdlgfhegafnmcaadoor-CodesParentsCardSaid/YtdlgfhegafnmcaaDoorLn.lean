/- Codes: what is under what, and the codes of a level. -/
import Derived.Test.YtdlgfhegafnmcaaDoorLm
namespace Go.Proofs.YtdlgfhegafnmcaaDoor
open Go.RowKit
theorem TrOk.aft {w : World} {A : Option Addr} {n c g1 c1 : Nat} {L : List Cd.Co} (h : TrOk w A n c g1 c1 L) (x : Aft w) : TrOk x.now A n c g1 c1 L := h.keep x.below
def Cd.under (P : List Int) (n : Nat) (k a : Int) : Bool := Cd.has n k && Cd.has n a && (Cd.up P n k (Cd.lev P a.toNat) == a)
set_option maxRecDepth 100000 in
set_option maxHeartbeats 1600000 in
theorem under01 (A : Option Addr) (n c g1 c1 g2 c2 : Nat) (L : List Cd.Co) (k a : Int) (w : World) (h : TrOk w A n c g1 c1 L) : Calls Tryd.prog 37 #[.agg #[.slice A n c, .slice (some ⟨g1, 0, none⟩) n c1, .slice (some ⟨g2, 0, none⟩) n c2, .int .i64 (Cd.last (Cd.par L))], .int .i64 k, .int .i64 a] w fun e w' => e = .returned (.bool (Cd.under (Cd.par L) n k a)) ∧ Below w.heap.size w w' := by
  have HT := Lib.hid h
  have hn60 := h.few
  obtain ⟨W, hW⟩ : ∃ W : World, w.alloc (.cells #[.slice A n c, .slice (some ⟨g1, 0, none⟩) n c1, .slice (some ⟨g2, 0, none⟩) n c2, .int .i64 (Cd.last (Cd.par L))] 54) = W := ⟨_, rfl⟩
  have hb : Below w.heap.size w W := by rw [← hW]; exact (Below.refl _ _).alloc (Nat.le_refl _) _
  have d0 : W.cell? ⟨w.heap.size, 0, none⟩ = some (.slice A n c) := by rw [← hW]; simp [go_sem]
  have d1 : W.cell? ⟨w.heap.size, 1, none⟩ = some (.slice (some ⟨g1, 0, none⟩) n c1) := by rw [← hW]; simp [go_sem]
  have d2 : W.cell? ⟨w.heap.size, 2, none⟩ = some (.slice (some ⟨g2, 0, none⟩) n c2) := by rw [← hW]; simp [go_sem]
  have d3 : W.cell? ⟨w.heap.size, 3, none⟩ = some (.int .i64 (Cd.last (Cd.par L))) := by rw [← hW]; simp [go_sem]
  have hsz : w.heap.size < W.heap.size := by rw [← hW]; simp
  have HW := Lib.hid (h.keep hb)
  have HB := Lib.hid hb
  clear h hb
  go_enter Tryd.func37, Tryd.ntmps37
  go_wp2_with fail
  clear hW
  have x0 := Aft.cell d0
  have x1 := Aft.cell d1
  have x2 := Aft.cell d2
  have x3 := Aft.cell d3
  clear d0 d1 d2 d3
  rcases hk : Cd.has n k with _ | _
  · have HR := Lib.hid (show Cd.under (Cd.par L) n k a = false by unfold Cd.under; rw [hk]; rfl)
    have cK : ∀ x : Aft W, Calls Tryd.prog 52 #[.agg #[.slice A n c, .slice (some ⟨g1, 0, none⟩) n c1, .slice (some ⟨g2, 0, none⟩) n c2, .int .i64 (Cd.last (Cd.par L))], .int .i64 k] x.now fun e w' => e = .returned (.bool false) ∧ Below x.now.heap.size x.now w' := fun x => by
      have h9 := has01 A n c g1 c1 g2 c2 L k _ (HW.out.aft x)
      rwa [hk] at h9
    refine wp_region_aft (by kernel_rfl) (by kernel_rfl) ?_
    repeat (go_big_quiet_step (first | with_reducible exact Calls.aft (cK _) | with_reducible exact Calls.aft (up01 A n c g1 c1 g2 c2 L k _ _ (HW.out.aft _))))
    refine wpQuiet_nil ?_
    rintro w9 ⟨⟨_, hb9⟩, rfl⟩
    have HB9 := Lib.hid hb9
    clear hb9
    go_wp2
    go_ret
    exact ⟨congrArg (fun b => Ending.returned (.bool b)) HR.out.symm, HB.out.trans (HB9.out.mono HB.out.size)⟩
  · rcases ha : Cd.has n a with _ | _
    · have HR := Lib.hid (show Cd.under (Cd.par L) n k a = false by unfold Cd.under; rw [hk, ha]; rfl)
      have cK : ∀ x : Aft W, Calls Tryd.prog 52 #[.agg #[.slice A n c, .slice (some ⟨g1, 0, none⟩) n c1, .slice (some ⟨g2, 0, none⟩) n c2, .int .i64 (Cd.last (Cd.par L))], .int .i64 k] x.now fun e w' => e = .returned (.bool true) ∧ Below x.now.heap.size x.now w' := fun x => by
        have h9 := has01 A n c g1 c1 g2 c2 L k _ (HW.out.aft x)
        rwa [hk] at h9
      have cA : ∀ x : Aft W, Calls Tryd.prog 52 #[.agg #[.slice A n c, .slice (some ⟨g1, 0, none⟩) n c1, .slice (some ⟨g2, 0, none⟩) n c2, .int .i64 (Cd.last (Cd.par L))], .int .i64 a] x.now fun e w' => e = .returned (.bool false) ∧ Below x.now.heap.size x.now w' := fun x => by
        have h9 := has01 A n c g1 c1 g2 c2 L a _ (HW.out.aft x)
        rwa [ha] at h9
      refine wp_region_aft (by kernel_rfl) (by kernel_rfl) ?_
      repeat (go_big_quiet_step (first | with_reducible exact Calls.aft (cK _) | with_reducible exact Calls.aft (cA _) | with_reducible exact Calls.aft (up01 A n c g1 c1 g2 c2 L k _ _ (HW.out.aft _))))
      refine wpQuiet_nil ?_
      rintro w9 ⟨⟨_, hb9⟩, rfl⟩
      have HB9 := Lib.hid hb9
      clear hb9
      go_wp2
      go_ret
      exact ⟨congrArg (fun b => Ending.returned (.bool b)) HR.out.symm, HB.out.trans (HB9.out.mono HB.out.size)⟩
    · have ha2 : 0 ≤ a ∧ a < n := by simpa [Cd.has] using ha
      obtain ⟨j, rfl⟩ := Int.eq_ofNat_of_zero_le ha2.1
      have cj := Aft.cell (HW.out.at (j := j) (by omega))
      have HR := Lib.hid (show Cd.under (Cd.par L) n k (j : Int) = (Cd.up (Cd.par L) n k ((Cd.lev (Cd.par L) j : Nat) : Int) == (j : Int)) by unfold Cd.under; rw [hk, ha]; simp)
      have i1 : (0 : Int) ≤ (j : Int) := by omega
      have i2 : (j : Int) < (n : Int) := by omega
      clear ha2
      have cK : ∀ x : Aft W, Calls Tryd.prog 52 #[.agg #[.slice A n c, .slice (some ⟨g1, 0, none⟩) n c1, .slice (some ⟨g2, 0, none⟩) n c2, .int .i64 (Cd.last (Cd.par L))], .int .i64 k] x.now fun e w' => e = .returned (.bool true) ∧ Below x.now.heap.size x.now w' := fun x => by
        have h9 := has01 A n c g1 c1 g2 c2 L k _ (HW.out.aft x)
        rwa [hk] at h9
      have cA : ∀ x : Aft W, Calls Tryd.prog 52 #[.agg #[.slice A n c, .slice (some ⟨g1, 0, none⟩) n c1, .slice (some ⟨g2, 0, none⟩) n c2, .int .i64 (Cd.last (Cd.par L))], .int .i64 (j : Int)] x.now fun e w' => e = .returned (.bool true) ∧ Below x.now.heap.size x.now w' := fun x => by
        have h9 := has01 A n c g1 c1 g2 c2 L (j : Int) _ (HW.out.aft x)
        rwa [ha] at h9
      refine wp_region_aft (by kernel_rfl) (by kernel_rfl) ?_
      repeat (go_big_quiet_step (first | with_reducible exact Calls.aft (cK _) | with_reducible exact Calls.aft (cA _) | with_reducible exact Calls.aft (up01 A n c g1 c1 g2 c2 L k _ _ (HW.out.aft _))))
      refine wpQuiet_nil ?_
      rintro w9 ⟨⟨_, hb9⟩, rfl⟩
      have HB9 := Lib.hid hb9
      clear hb9
      go_wp2
      go_ret
      exact ⟨congrArg (fun b => Ending.returned (.bool b)) HR.out.symm, HB.out.trans (HB9.out.mono HB.out.size)⟩
/-- the codes of a level among the first i -/
def Cd.atUp (P : List Int) (lv : Int) (i : Nat) : List Int := ((List.range i).filter fun k => ((Cd.lev P k : Int) == lv)).map fun (k : Nat) => (k : Int)
theorem Cd.atUp_succ (P : List Int) (lv : Int) (i : Nat) : Cd.atUp P lv (i + 1) = Cd.atUp P lv i ++ (if ((Cd.lev P i : Int) == lv) = true then [(i : Int)] else []) := by
  unfold Cd.atUp
  rw [List.range_succ, List.filter_append, List.map_append]
  congr 1
  by_cases h : ((Cd.lev P i : Int) == lv) = true
  · rw [if_pos h]; simp [List.filter, h]
  · rw [if_neg h]; simp [List.filter, h]
theorem Cd.atUp_len (P : List Int) (lv : Int) (i : Nat) : (Cd.atUp P lv i).length ≤ i := by
  unfold Cd.atUp
  rw [List.length_map]
  have := List.length_filter_le (fun k => ((Cd.lev P k : Int) == lv)) (List.range i)
  rwa [List.length_range] at this
theorem Cd.atUp_wf {P : List Int} {lv : Int} {i : Nat} (hi : i ≤ 1000) : ∀ x ∈ Cd.atUp P lv i, (Lit.int .i64 x).wf = true := by
  intro x hx
  obtain ⟨k, hk, rfl⟩ := List.mem_map.1 hx
  have := List.mem_range.1 (List.mem_filter.1 hk).1
  simp [Lit.wf, IntKind.min, IntKind.max, IntKind.bits, IntKind.signed]; omega
set_option maxRecDepth 100000 in
set_option maxHeartbeats 1600000 in
theorem at01 (A : Option Addr) (n c g1 c1 g2 c2 : Nat) (L : List Cd.Co) (a : Int) (w : World) (h : TrOk w A n c g1 c1 L) : Calls Tryd.prog 38 #[.agg #[.slice A n c, .slice (some ⟨g1, 0, none⟩) n c1, .slice (some ⟨g2, 0, none⟩) n c2, .int .i64 (Cd.last (Cd.par L))], .int .i64 a] w fun e w' => ∃ v, e = .returned v ∧ Own w' w.heap.size 3 .i64 v (Cd.atUp (Cd.par L) a n) ∧ Below w.heap.size w w' := by
  have HT := Lib.hid h
  have hn60 := h.few
  obtain ⟨W, hW⟩ : ∃ W : World, w.alloc (.cells #[.slice A n c, .slice (some ⟨g1, 0, none⟩) n c1, .slice (some ⟨g2, 0, none⟩) n c2, .int .i64 (Cd.last (Cd.par L))] 54) = W := ⟨_, rfl⟩
  have hb : Below w.heap.size w W := by rw [← hW]; exact (Below.refl _ _).alloc (Nat.le_refl _) _
  have d0 : W.cell? ⟨w.heap.size, 0, none⟩ = some (.slice A n c) := by rw [← hW]; simp [go_sem]
  have d1 : W.cell? ⟨w.heap.size, 1, none⟩ = some (.slice (some ⟨g1, 0, none⟩) n c1) := by rw [← hW]; simp [go_sem]
  have d2 : W.cell? ⟨w.heap.size, 2, none⟩ = some (.slice (some ⟨g2, 0, none⟩) n c2) := by rw [← hW]; simp [go_sem]
  have d3 : W.cell? ⟨w.heap.size, 3, none⟩ = some (.int .i64 (Cd.last (Cd.par L))) := by rw [← hW]; simp [go_sem]
  have hsz : w.heap.size < W.heap.size := by rw [← hW]; simp
  have HW := Lib.hid (h.keep hb)
  have HB := Lib.hid hb
  clear h hb
  go_enter Tryd.func38, Tryd.ntmps38
  go_wp2_with fail
  go_loopw [5, 11] (fun q i wr => ∃ j : Nat, i = .int .i64 j ∧ j ≤ n ∧ Hid (Own wr w.heap.size 3 .i64 q (Cd.atUp (Cd.par L) a j) ∧ Below w.heap.size w wr)) (fun _ i _ => n - (intOf i).toNat)
  case atStart => exact ⟨0, rfl, by omega, Own.nil _ _ _ _, HB.out⟩
  case round =>
    rename World => Z
    obtain ⟨j, rfl, hj, HI⟩ := hrel
    by_cases hlt : j < n
    · have HTZ := Lib.hid (HT.out.keep HI.out.2)
      have cj := HTZ.out.at hlt
      have HS := Lib.hid (Cd.atUp_succ (Cd.par L) a j)
      have HLN := Lib.hid (Cd.atUp_len (Cd.par L) a j)
      have i1 : (0 : Int) ≤ (j : Int) := by omega
      have i2 : (j : Int) < (n : Int) := by omega
      generalize Cd.lev (Cd.par L) j = lj at cj HS
      rcases he : (((lj : Nat) : Int) == a) with _ | _
      · have HE := Lib.hid he
        go_wp2_with fail
        go_roundw
        case rel => exact ⟨j + 1, by go_num, by omega, by rw [HS.out, if_neg (by rw [HE.out]; simp), List.append_nil]; exact HI.out.1, HI.out.2⟩
        case measure => simp [intOf]; omega
      · have HE := Lib.hid he
        go_wp2_with (at_builtin; refine app_int _ rfl (.tmp 19) (.tmp 21) _ rfl w.heap.size 3 8 .i64 int_info01 Tryd.underlying40 _ _ rfl (HI.out.1.alloc _) (j : Int) Z.heap.size rfl (by simp [go_sem]) (by have := HLN.out; simp only [maxLen]; omega) (by have := HLN.out; omega) (by have := HI.out.2.size; simp; omega) ?_; intro v' w' hown' hgrow)
        have hb2 : Below w.heap.size w w' := (HI.out.1.alloc _).grow (HI.out.2.alloc HI.out.2.size _) hgrow (by have := HI.out.2.size; simp; omega) (Nat.le_refl _)
        go_roundw
        case rel => exact ⟨j + 1, by go_num, by omega, by rw [HS.out, if_pos HE.out]; exact hown', hb2⟩
        case measure => simp [intOf]; omega
    · obtain rfl : n = j := by omega
      go_wp2_with fail
      go_ret
      exact ⟨_, rfl, HI.out.1, HI.out.2⟩
end Go.Proofs.YtdlgfhegafnmcaaDoor
