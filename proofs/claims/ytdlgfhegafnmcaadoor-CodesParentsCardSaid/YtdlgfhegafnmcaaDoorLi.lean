/- Codes: the levels of a right list. -/
import Derived.Test.YtdlgfhegafnmcaaDoorLh
import Derived.Test.YtdlgfhegafnmcaaDoorMk
namespace Go.Proofs.YtdlgfhegafnmcaaDoor
open Go.RowKit
/-- the levels of the first i codes, the others 0 -/
def Cd.levs (P : List Int) (i : Nat) : List Int := (List.range P.length).map fun k => if k < i then (Cd.lev P k : Int) else 0
theorem Cd.levs_len (P : List Int) (i : Nat) : (Cd.levs P i).length = P.length := by simp [Cd.levs]
theorem Cd.levs_one (P : List Int) : Cd.levs P 1 = List.replicate P.length 0 := by
  refine List.ext_getElem (by simp [Cd.levs]) fun k h1 h2 => ?_
  simp only [Cd.levs, List.getElem_map, List.getElem_range, List.getElem_replicate]
  split
  · obtain rfl : k = 0 := by omega
    rfl
  · rfl
theorem Cd.levs_get {P : List Int} {i k : Nat} (hk : k < i) (hl : k < P.length) : (Cd.levs P i).getD k 0 = (Cd.lev P k : Int) := by
  simp [Cd.levs, List.getD, hl, hk]
theorem Cd.levs_set {P : List Int} {i : Nat} (hi : i < P.length) : (Cd.levs P i).set i (Cd.lev P i : Int) = Cd.levs P (i + 1) := by
  refine List.ext_getElem (by simp [Cd.levs]) fun k h1 h2 => ?_
  rw [List.getElem_set]
  simp only [Cd.levs, List.getElem_map, List.getElem_range]
  split
  · subst_vars; simp
  · rename_i h
    have : (k < i) ↔ (k < i + 1) := by omega
    simp [this]
theorem Cd.levF_le {P : List Int} : ∀ f k, Cd.levF P f k ≤ f := by
  intro f
  induction f with
  | zero => intro k; simp [Cd.levF]
  | succ f ih =>
    intro k
    simp only [Cd.levF]
    split
    · omega
    · have := ih (P.getD k (-1)).toNat; omega
theorem Cd.lev_le (P : List Int) (k : Nat) : Cd.lev P k ≤ k := Cd.levF_le k k
def Cd.levels (P : List Int) : List Int := Cd.levs P P.length
theorem Cd.levs_wf {P : List Int} (h : P.length ≤ 60) (i : Nat) : ∀ x ∈ Cd.levs P i, (Lit.int .i64 x).wf = true := by
  intro x hx
  obtain ⟨k, hk, rfl⟩ := List.mem_map.1 hx
  have h1 := List.mem_range.1 hk
  have h2 := Cd.lev_le P k
  split <;> simp [Lit.wf, IntKind.min, IntKind.max, IntKind.bits, IntKind.signed]
  omega
theorem int_info01 : (Tryd.prog.info? 3).map (fun i => (i.zero, i.size, i.bytes)) = some (some (.int .i64 0), 1, 8) := by kernel_rfl
set_option maxRecDepth 100000 in
set_option maxHeartbeats 1600000 in
theorem levels01 (A : Option Addr) (n c : Nat) (L : List Cd.Co) (w : World) (h : CoRow w w.heap.size A n c L) (hg : Cd.Tree (Cd.par L)) :
    Calls Tryd.prog 46 #[.slice A n c] w fun e w' => ∃ v, e = .returned v ∧ Own w' w.heap.size 3 .i64 v (Cd.levels (Cd.par L)) ∧ Below w.heap.size w w' := by
  have H := Lib.hid h
  have HL := Lib.hid h.len
  have HG := Lib.hid hg
  have hpl : (Cd.par L).length = n := by rw [← h.len]; simp [Cd.par]
  have HP := Lib.hid hpl
  have hn1 : 1 ≤ n := by rw [← hpl]; exact hg.pos
  have hn60 : n ≤ 60 := by rw [← hpl]; exact hg.few
  clear h hg hpl
  go_enter Tryd.func46, Tryd.ntmps46
  go_wp2_with (at_make; refine make_ints _ rfl _ _ _ rfl w.heap.size 3 8 .i64 int_info01 Tryd.underlying40 n rfl rfl (by simp only [maxLen]; omega) (by omega) (Nat.le_refl _) ?_; intro w1 hown1 hgrow1)
  have hb1 := Own.below_grown hgrow1 (Nat.le_refl w.heap.size)
  rw [← HP.out, ← Cd.levs_one, HP.out] at hown1
  have HO1 := Lib.hid hown1
  have HB1 := Lib.hid hb1
  clear hown1 hgrow1 hb1
  go_loopw [4] (fun i wr => ∃ j : Nat, i = .int .i64 j ∧ 1 ≤ j ∧ j ≤ n ∧ Hid (Own wr w.heap.size 3 .i64 (.slice (some ⟨w.heap.size, 0, none⟩) n n) (Cd.levs (Cd.par L) j) ∧ Below w.heap.size w wr)) (fun i _ => n - (intOf i).toNat)
  case atStart => exact ⟨1, rfl, Nat.le_refl _, hn1, HO1.out, HB1.out⟩
  case round =>
    rename World => Z
    obtain ⟨j, rfl, hj1, hj, HI⟩ := hrel
    by_cases hlt : j < n
    · obtain ⟨g, name, par, rfl, HX, c0, c1⟩ := (H.out.keep HI.out.2 HI.out.2.size).val hlt
      have hjp : j < (Cd.par L).length := by rw [HP.out]; exact hlt
      have hb := HG.out.before j hj1 hjp
      have hst := Cd.lev_step HG.out hj1 hjp
      rw [Cd.par_get HX.out.2.1, HX.out.1] at hb hst
      simp only at hb hst
      obtain ⟨q, rfl⟩ := Int.eq_ofNat_of_zero_le hb.1
      rw [Int.toNat_natCast] at hst
      have hq : q < j := by omega
      have cq : Z.cell? ⟨w.heap.size, q, none⟩ = some (.int .i64 (Cd.lev (Cd.par L) q)) := by
        rw [HI.out.1.cell (by rw [Cd.levs_len, HP.out]; omega), Cd.levs_get hq (by rw [HP.out]; omega)]
      have cj : Z.cell? ⟨w.heap.size, j, none⟩ = some (.int .i64 ((Cd.levs (Cd.par L) j).getD j 0)) := HI.out.1.cell (by rw [Cd.levs_len, HP.out]; omega)
      have fj := HI.out.1.thaw j
      have hle := Cd.lev_le (Cd.par L) q
      have HST := Lib.hid (HI.out.1.store j (Cd.lev (Cd.par L) j))
      rw [Cd.levs_set hjp] at HST
      have HQ := Lib.hid hst
      generalize (Cd.levs (Cd.par L) j).getD j 0 = p at cj
      have hst2 : ((Cd.lev (Cd.par L) q : Nat) : Int) + 1 = ((Cd.lev (Cd.par L) j : Nat) : Int) := by omega
      generalize hlq : Cd.lev (Cd.par L) q = lq at *
      generalize hlj : Cd.lev (Cd.par L) j = lj at *
      have i1 : (0 : Int) ≤ (q : Int) := by omega
      have i2 : (q : Int) < (n : Int) := by omega
      have i3 : (0 : Int) ≤ (j : Int) := by omega
      have i4 : (j : Int) < (n : Int) := by omega
      clear hst hb hlq hlj
      go_wp2_with fail
      go_roundw
      case rel =>
        have hb := HI.out.1.grow HI.out.2 HST.out.2 HI.out.2.size (Nat.le_refl _)
        exact ⟨j + 1, by go_num, by omega, by omega, HST.out.1, hb⟩
      case measure => simp [intOf]; omega
    · obtain rfl : n = j := by omega
      have HE := Lib.hid (show Cd.levs (Cd.par L) n = Cd.levels (Cd.par L) by unfold Cd.levels; rw [HP.out])
      go_wp2_with fail
      go_ret
      exact ⟨_, rfl, by rw [← HE.out]; exact HI.out.1, HI.out.2⟩
end Go.Proofs.YtdlgfhegafnmcaaDoor
