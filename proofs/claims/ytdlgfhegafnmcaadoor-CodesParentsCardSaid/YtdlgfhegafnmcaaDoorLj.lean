/- Codes: the leaves of a right list. -/
import Derived.Test.YtdlgfhegafnmcaaDoorLi
import Derived.StillTailTactics
namespace Go.Proofs.YtdlgfhegafnmcaaDoor
open Go.RowKit
/-- the numbers up to i, the others 0 -/
def Cd.ids (n i : Nat) : List Int := (List.range n).map fun k => if k < i then (k : Int) else 0
theorem Cd.ids_len (n i : Nat) : (Cd.ids n i).length = n := by simp [Cd.ids]
theorem Cd.ids_zero (n : Nat) : Cd.ids n 0 = List.replicate n 0 := by
  refine List.ext_getElem (by simp [Cd.ids]) fun k h1 h2 => ?_
  simp [Cd.ids]
theorem Cd.ids_set {n i : Nat} (hi : i < n) : (Cd.ids n i).set i (i : Int) = Cd.ids n (i + 1) := by
  refine List.ext_getElem (by simp [Cd.ids]) fun k h1 h2 => ?_
  rw [List.getElem_set]
  simp only [Cd.ids, List.getElem_map, List.getElem_range]
  split
  · subst_vars; simp
  · rename_i h
    have : (k < i) ↔ (k < i + 1) := by omega
    simp [this]
theorem Cd.ids_get {n k : Nat} (hk : k < n) : (Cd.ids n n).getD k 0 = (k : Int) := by simp [Cd.ids, List.getD, hk]
/-- leaves, when the codes above i have been gone through -/
structure Cd.Lv (P : List Int) (i : Nat) (l : List Int) : Prop where
  len : l.length = P.length
  bd : ∀ k, k < P.length → (k : Int) ≤ l.getD k 0 ∧ l.getD k 0 < P.length
  own : ∀ k, k < P.length → (l.getD k 0 = k ↔ ∀ q, i < q → q < P.length → P.getD q (-1) ≠ k)
theorem Cd.Lv.first (P : List Int) : Cd.Lv P (P.length - 1) (Cd.ids P.length P.length) :=
  ⟨Cd.ids_len _ _, fun k hk => by rw [Cd.ids_get hk]; omega, fun k hk => ⟨fun _ q h1 h2 => by omega, fun _ => Cd.ids_get hk⟩⟩
theorem Cd.Lv.step {P : List Int} {i p : Nat} {l : List Int} (h : Cd.Lv P i l) (hi : i < P.length) (h1 : 1 ≤ i) (hp : P.getD i (-1) = (p : Int)) (hpi : p < i) : Cd.Lv P (i - 1) (l.set p (l.getD i 0)) := by
  have hg : ∀ k, k < P.length → (l.set p (l.getD i 0)).getD k 0 = if p = k then l.getD i 0 else l.getD k 0 := fun k hk => by
    have hl := h.len
    simp only [List.getD_eq_getElem?_getD, List.getElem?_set]
    split
    · subst_vars; simp [show k < l.length by omega]
    · rfl
  have hb := h.bd i hi
  refine ⟨by rw [List.length_set]; exact h.len, fun k hk => ?_, fun k hk => ?_⟩
  · rw [hg k hk]
    split
    · subst_vars; omega
    · exact h.bd k hk
  · rw [hg k hk]
    split
    · subst_vars
      constructor
      · intro e; omega
      · intro h9; exact absurd hp (h9 i (by omega) hi)
    · rename_i hne
      rw [h.own k hk]
      constructor
      · intro h9 q hq hl
        rcases Nat.lt_or_ge i q with h8 | h8
        · exact h9 q h8 hl
        · obtain rfl : q = i := by omega
          rw [hp]; omega
      · intro h9 q hq hl
        exact h9 q (by omega) hl
theorem Cd.Lv.wf {P : List Int} {i : Nat} {l : List Int} (h : Cd.Lv P i l) (hn : P.length ≤ 60) : ∀ x ∈ l, (Lit.int .i64 x).wf = true := by
  intro x hx
  obtain ⟨k, hk, e⟩ := List.getElem_of_mem hx
  have := h.bd k (by rw [← h.len]; exact hk)
  rw [List.getD_eq_getElem?_getD, List.getElem?_eq_getElem hk, Option.getD_some, e] at this
  simp [Lit.wf, IntKind.min, IntKind.max, IntKind.bits, IntKind.signed]; omega
set_option maxRecDepth 100000 in
set_option maxHeartbeats 1600000 in
theorem leaves01 (A : Option Addr) (n c : Nat) (L : List Cd.Co) (w : World) (h : CoRow w w.heap.size A n c L) (hg : Cd.Tree (Cd.par L)) :
    Calls Tryd.prog 47 #[.slice A n c] w fun e w' => ∃ v l, e = .returned v ∧ Own w' w.heap.size 3 .i64 v l ∧ Cd.Lv (Cd.par L) 0 l ∧ Below w.heap.size w w' := by
  have H := Lib.hid h
  have HG := Lib.hid hg
  have hpl : (Cd.par L).length = n := by rw [← h.len]; simp [Cd.par]
  have HP := Lib.hid hpl
  have hn1 : 1 ≤ n := by rw [← hpl]; exact hg.pos
  have hn60 : n ≤ 60 := by rw [← hpl]; exact hg.few
  clear h hg hpl
  go_enter Tryd.func47, Tryd.ntmps47
  go_wp2_with (at_make; refine make_ints _ rfl _ _ _ rfl w.heap.size 3 8 .i64 int_info01 Tryd.underlying40 n rfl rfl (by simp only [maxLen]; omega) (by omega) (Nat.le_refl _) ?_; intro w1 hown1 hgrow1)
  have hb1 := Own.below_grown hgrow1 (Nat.le_refl w.heap.size)
  rw [← Cd.ids_zero] at hown1
  have HO1 := Lib.hid hown1
  have HB1 := Lib.hid hb1
  clear hown1 hgrow1 hb1
  go_loopw [11] (fun i wr => ∃ j : Nat, i = .int .i64 j ∧ j ≤ n ∧ Hid (Own wr w.heap.size 3 .i64 (.slice (some ⟨w.heap.size, 0, none⟩) n n) (Cd.ids n j) ∧ Below w.heap.size w wr)) (fun i _ => n - (intOf i).toNat)
  case atStart => exact ⟨0, rfl, by omega, HO1.out, HB1.out⟩
  case round =>
    rename World => Z
    obtain ⟨j, rfl, hj, HI⟩ := hrel
    by_cases hlt : j < n
    · have cj : Z.cell? ⟨w.heap.size, j, none⟩ = some (.int .i64 ((Cd.ids n j).getD j 0)) := HI.out.1.cell (by rw [Cd.ids_len]; omega)
      have fj := HI.out.1.thaw j
      have HST := Lib.hid (HI.out.1.store j j)
      rw [Cd.ids_set hlt] at HST
      generalize (Cd.ids n j).getD j 0 = p at cj
      have i3 : (0 : Int) ≤ (j : Int) := by omega
      have i4 : (j : Int) < (n : Int) := by omega
      go_wp2_with fail
      go_roundw
      case rel =>
        have hb := HI.out.1.grow HI.out.2 HST.out.2 HI.out.2.size (Nat.le_refl _)
        exact ⟨j + 1, by go_num, by omega, HST.out.1, hb⟩
      case measure => simp [intOf]; omega
    · obtain rfl : n = j := by omega
      have HLV := Lib.hid (show Cd.Lv (Cd.par L) (n - 1) (Cd.ids n n) by have := Cd.Lv.first (Cd.par L); rwa [HP.out] at this)
      go_wp2_with fail
      go_loopw [5] (fun i wr => ∃ (j : Nat) (l : List Int), i = .int .i64 j ∧ j < n ∧ Hid (Own wr w.heap.size 3 .i64 (.slice (some ⟨w.heap.size, 0, none⟩) n n) l ∧ Cd.Lv (Cd.par L) j l ∧ Below w.heap.size w wr)) (fun i _ => (intOf i).toNat)
      case atStart => exact ⟨n - 1, _, by rw [show ((n - 1 : Nat) : Int) = (n : Int) - 1 by omega], by omega, HI.out.1, HLV.out, HI.out.2⟩
      case round =>
        rename World => V
        obtain ⟨j, l, rfl, hj2, HJ⟩ := hrel
        by_cases hj0 : j = 0
        · subst hj0
          go_wp2_with fail
          go_ret
          exact ⟨_, l, rfl, HJ.out.1, HJ.out.2.1, HJ.out.2.2⟩
        · obtain ⟨g, name, par, rfl, HX, c0, c1⟩ := (H.out.keep HJ.out.2.2 HJ.out.2.2.size).val hj2
          have hjp : j < (Cd.par L).length := by rw [HP.out]; exact hj2
          have hb := HG.out.before j (by omega) hjp
          have hpe := Cd.par_get HX.out.2.1 (-1)
          rw [HX.out.1] at hpe
          simp only at hpe
          rw [hpe] at hb
          obtain ⟨q, rfl⟩ := Int.eq_ofNat_of_zero_le hb.1
          have hq : q < j := by omega
          have hstep := HJ.out.2.1.step hjp (by omega) hpe hq
          have hll := HJ.out.2.1.len
          rw [HP.out] at hll
          have cq : V.cell? ⟨w.heap.size, q, none⟩ = some (.int .i64 (l.getD q 0)) := HJ.out.1.cell (by omega)
          have cj : V.cell? ⟨w.heap.size, j, none⟩ = some (.int .i64 (l.getD j 0)) := HJ.out.1.cell (by omega)
          have fq := HJ.out.1.thaw q
          have HST := Lib.hid (HJ.out.1.store q (l.getD j 0))
          have HSTEP := Lib.hid hstep
          generalize l.getD j 0 = x at *
          generalize l.getD q 0 = y at *
          have g0 : decide ((0 : Int) < (j : Int)) = true := decide_eq_true (by omega)
          have g0' : decide (0 < j) = true := decide_eq_true (by omega)
          have i1 : (0 : Int) ≤ (q : Int) := by omega
          have i2 : (q : Int) < (n : Int) := by omega
          have i3 : (0 : Int) ≤ (j : Int) := by omega
          have i4 : (j : Int) < (n : Int) := by omega
          clear hb hpe hstep hll
          go_wp2_with fail
          refine wp_region_still_tail 11 (by kernel_rfl) (by kernel_rfl) ?_
          simp only [List.take_succ_cons, List.take_zero, List.drop_succ_cons, List.drop_zero]
          repeat still_step
          refine wpStill_nil ?_
          show wpList _ _ _ _ _ (V.drewN 1)
          go_wp2_with fail
          go_roundw
          case rel =>
            have hb := HJ.out.1.grow HJ.out.2.2 HST.out.2 HJ.out.2.2.size (Nat.le_refl _)
            exact ⟨j - 1, _, by rw [show ((j - 1 : Nat) : Int) = (j : Int) - 1 by omega], by omega, HST.out.1, HSTEP.out, hb.os, hb.tape, hb.output, hb.size, hb.block⟩
          case measure => simp [intOf]; omega
end Go.Proofs.YtdlgfhegafnmcaaDoor
