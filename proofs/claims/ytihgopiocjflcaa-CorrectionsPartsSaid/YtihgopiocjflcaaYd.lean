/- Corrections: which outputs are concerned. -/
import Derived.Test.YtihgopiocjflcaaYc
namespace Go.Proofs.Ytihgopiocjflcaa
open Go.RowKit
theorem concern_info : (Try.prog.info? 30).map (fun i => (i.zero, i.size, i.bytes)) = some (some (.agg #[.int .i64 0, .slice none 0 0]), 2, 32) := by kernel_rfl
structure Cn.Right (cs : List (Int × List Int)) : Prop where
  few : cs.length ≤ 40
  asc : ∀ p ∈ cs, Zs.Asc p.2
  bd : ∀ p ∈ cs, ∀ x ∈ p.2, 0 ≤ x ∧ x ≤ 1000
  sm : ∀ p ∈ cs, p.2.length ≤ 100
  num : ∀ p ∈ cs, 0 ≤ p.1 ∧ p.1 ≤ 1000
theorem Cn.wf {x : Int} (h : 0 ≤ x ∧ x ≤ 1000) : (Lit.int .i64 x).wf = true := by
  simp [Lit.wf, IntKind.min, IntKind.max, IntKind.bits, IntKind.signed]; omega
theorem Cn.mem_at {cs : List (Int × List Int)} {j : Nat} {p : Int × List Int} (h : cs.getD j (0, []) = p ∧ j < cs.length) : p ∈ cs := by
  rw [← h.1, List.getD_eq_getElem?_getD, List.getElem?_eq_getElem h.2]; exact List.getElem_mem h.2
theorem Cn.conc_take {cs : List (Int × List Int)} (S : List Int) {j : Nat} {p : Int × List Int} (h : cs.getD j (0, []) = p ∧ j < cs.length) : Cn.conc (cs.take (j + 1)) S = Cn.conc (cs.take j) S ++ (if Cn.meet p.2 S = [] then [] else [(p.1, Cn.meet p.2 S)]) := by
  have h9 := h.1
  rw [List.getD_eq_getElem?_getD, List.getElem?_eq_getElem h.2] at h9
  have e : cs[j]'h.2 = p := h9
  unfold Cn.conc
  rw [List.take_succ_eq_append_getElem h.2, List.filterMap_append, e]
  congr 1
  by_cases h0 : Cn.meet p.2 S = []
  · simp [h0]
  · simp [h0]
set_option maxRecDepth 100000 in
set_option maxHeartbeats 1600000 in
theorem concerned40 (A A' : Option Addr) (n c n' c' : Nat) (cs : List (Int × List Int)) (ks : List Int) (base : Nat) (w : World) (h : OwnC w base (.slice A n c) cs) (hr : Cn.Right cs) (hn : n = cs.length) (h' : Nums w .i64 w.heap.size A' n' c' ks) (hn' : n' ≤ 1000) :
    Calls Try.prog 8 #[.slice A n c, .slice A' n' c'] w fun e w' => ∃ v, e = .returned (.tuple #[v, .int .i64 0]) ∧ OwnC w' w.heap.size v (Cn.conc cs (Zs.of ks)) ∧ Below w.heap.size w w' := by
  have H := Lib.hid h
  have HR := Lib.hid hr
  have HN := Lib.hid hn
  have hn50 : n ≤ 40 := by rw [hn]; exact hr.few
  have H' := Lib.hid h'
  clear h hr hn h'
  go_enter Try.func8, Try.ntmps8
  have g0 : decide ((40 : Int) < (n : Int)) = false := decide_eq_false (by omega)
  go_wp2_with fail
  go_loopw [18] (fun iv wr => ∃ j : Nat, j ≤ n ∧ iv = .int .i64 j ∧ Hid (Below w.heap.size w wr)) (fun iv _ => n - (intOf iv).toNat)
  case atStart => exact ⟨0, by omega, rfl, Lib.hid (Below.refl _ _)⟩
  case round =>
    rename World => Y
    obtain ⟨j, hj, rfl, HI⟩ := hrel
    by_cases hlt : j < n
    · obtain ⟨g, k, l, vl, hA, HX, hc0, hc1, hol⟩ := (H.out.below HI.out).at_ hlt
      have HM := Lib.hid (Cn.mem_at ⟨HX.out.1, HX.out.2.1⟩)
      obtain ⟨Al, cl, rfl, hnl⟩ := hol.nums (fun x hx => Cn.wf (HR.out.bd _ HM.out x hx))
      have HNL := Lib.hid hnl
      obtain ⟨Z, hZ⟩ : ∃ Z : World, Y.alloc (.cells #[.int .i64 k, .slice Al l.length cl] 30) = Z := ⟨_, rfl⟩
      have hbz : Below Y.heap.size Y Z := by rw [← hZ]; exact (Below.refl _ _).alloc (Nat.le_refl _) _
      have d1 : Z.cell? ⟨Y.heap.size, 1, none⟩ = some (.slice Al l.length cl) := by rw [← hZ]; simp [go_sem]
      have HBZ := Lib.hid (HI.out.trans (hbz.mono HI.out.size))
      have HNZ := Lib.hid (hnl.keep hbz (Nat.le_refl _))
      have HSZ := Lib.hid hbz.size
      have i1 : (0 : Int) ≤ (j : Int) := by omega
      have i2 : (j : Int) < (n : Int) := by omega
      clear hol hnl hbz
      subst hA
      go_wp2_with fail
      refine (right40 Al l.length cl l Y.heap.size Z HNZ.out (HR.out.asc _ HM.out) (HR.out.bd _ HM.out) HSZ.out).mono ?_; rintro e z1 ⟨rfl, hb1⟩
      have HB1 := Lib.hid (HBZ.out.trans (hb1.mono HBZ.out.size))
      clear hb1
      go_wp2_with fail
      go_roundw
      case rel => exact ⟨j + 1, by omega, by go_num, HB1⟩
      case measure => simp [intOf]; omega
    · obtain rfl : n = j := by omega
      have HY' := Lib.hid (H'.out.keep HI.out HI.out.size)
      go_wp2_with fail
      refine (of15 A' n' c' ks Y HY'.out (by omega)).mono ?_; rintro e w1 ⟨v1, rfl, hv1, hb1⟩
      obtain ⟨As, cS, rfl, hns⟩ := hv1.nums (fun x hx => H'.out.wf x (Zs.mem_of.1 hx))
      have HNS := Lib.hid hns
      have HB1 := Lib.hid (HI.out.trans (hb1.mono HI.out.size))
      have HAS := Lib.hid (Zs.asc_of ks)
      clear hv1 hb1 hns
      obtain ⟨S, hS⟩ : ∃ S, Zs.of ks = S := ⟨_, rfl⟩
      have HSE := Lib.hid hS
      rw [hS] at HNS HAS ⊢
      clear hS
      go_wp2_with fail
      go_loopw [9, 31] (fun v iv wr => ∃ j : Nat, j ≤ n ∧ iv = .int .i64 j ∧ Hid (OwnC wr w1.heap.size v (Cn.conc (cs.take j) S) ∧ Below w1.heap.size w1 wr)) (fun _ iv _ => n - (intOf iv).toNat)
      case atStart => exact ⟨0, by omega, rfl, OwnC.nil _ _, Below.refl _ _⟩
      case round =>
        rename World => X
        obtain ⟨j, hj, rfl, HJ⟩ := hrel
        by_cases hlt : j < n
        · obtain ⟨g, k, l, vl, hA, HX, hc0, hc1, hol⟩ := (H.out.below (HB1.out.trans (HJ.out.2.mono HB1.out.size))).at_ hlt
          have HM := Lib.hid (Cn.mem_at ⟨HX.out.1, HX.out.2.1⟩)
          obtain ⟨Al, cl, rfl, hnl⟩ := hol.nums (fun x hx => Cn.wf (HR.out.bd _ HM.out x hx))
          obtain ⟨Z, hZ⟩ : ∃ Z : World, X.alloc (.cells #[.int .i64 k, .slice Al l.length cl] 30) = Z := ⟨_, rfl⟩
          have hbz : Below X.heap.size X Z := by rw [← hZ]; exact (Below.refl _ _).alloc (Nat.le_refl _) _
          have d0 : Z.cell? ⟨X.heap.size, 0, none⟩ = some (.int .i64 k) := by rw [← hZ]; simp [go_sem]
          have d1 : Z.cell? ⟨X.heap.size, 1, none⟩ = some (.slice Al l.length cl) := by rw [← hZ]; simp [go_sem]
          have HXZ := Lib.hid (show X.heap.size < Z.heap.size by rw [← hZ]; simp)
          have HBZ := Lib.hid (HJ.out.2.trans (hbz.mono HJ.out.2.size))
          have HNZ := Lib.hid (hnl.keep hbz (Nat.le_refl _))
          have HSZ := Lib.hid hbz.size
          have HOZ := Lib.hid (HJ.out.1.below hbz)
          have HSS := Lib.hid (HNS.out.keep HBZ.out (Nat.le_refl _))
          have HLL := Lib.hid (HR.out.sm _ HM.out)
          have HTK := Lib.hid (Cn.conc_take S ⟨HX.out.1, HX.out.2.1⟩)
          have i1 : (0 : Int) ≤ (j : Int) := by omega
          have i2 : (j : Int) < (n : Int) := by omega
          clear hol hnl hbz
          subst hA
          go_wp2_with fail
          refine (meet40 Al As l.length cl S.length cS l S X.heap.size w1.heap.size Z HNZ.out HSS.out (HR.out.asc _ HM.out) HAS.out (by have := HLL.out; omega) HSZ.out HBZ.out.size).mono ?_; rintro e z2 ⟨v2, rfl, hv2, hb2⟩
          have hcX : z2.cell? ⟨X.heap.size, 0, none⟩ = some (.int .i64 k) := (hb2.cell (by exact HXZ.out)).trans d0
          have HB2 := Lib.hid (HBZ.out.trans (hb2.mono HBZ.out.size))
          have HO2 := Lib.hid (HOZ.out.below hb2)
          obtain ⟨A2, c2, rfl, hn2⟩ := hv2.nums (fun x hx => Cn.wf (HR.out.bd _ HM.out x (List.mem_filter.1 hx).1))
          have HV2 := Lib.hid (hv2.base_le HBZ.out.size)
          obtain ⟨M, hM⟩ : ∃ M, Cn.meet l S = M := ⟨_, rfl⟩
          rw [hM] at HV2 HTK ⊢
          clear hv2 hn2 hb2 hM d0 d1
          rcases M with _ | ⟨y, M⟩
          · go_wp2_with fail
            go_roundw
            case rel => exact ⟨j + 1, by omega, by go_num, by rw [HTK.out]; simpa using HO2.out, HB2.out⟩
            case measure => simp [intOf]; omega
          · obtain ⟨m, hm⟩ : ∃ m, (y :: M).length = m + 1 := ⟨_, rfl⟩
            have HCL := Lib.hid (show (Cn.conc (cs.take j) S).length ≤ 40 by
              unfold Cn.conc
              refine Nat.le_trans (List.length_filterMap_le _ _) ?_
              rw [List.length_take]; omega)
            have HV3 := Lib.hid (show Own z2 w1.heap.size 3 .i64 (.slice A2 (m + 1) c2) (y :: M) by have h9 := HV2.out; rw [hm] at h9; exact h9)
            rw [hm]
            have HMM := Lib.hid hm
            have gm : decide ((0 : Int) < ((m + 1 : Nat) : Int)) = true := decide_eq_true (by omega)
            clear hm
            go_wp2_with (at_builtin; refine app_concern _ rfl _ _ _ rfl w1.heap.size concern_info Try.underlying27 _ _ rfl (HO2.out.below (by exact (Below.refl _ _).alloc (Nat.le_refl _) _)) k _ (y :: M) (HV3.out.alloc _) rfl _ rfl (by simp [go_sem]) (by simp [go_sem]) (by have := HCL.out; omega) (by have := HB2.out.size; simp; omega) ?_; intro v' w4 hown4 hgrow4; (have HO4 := Lib.hid hown4); (have HG4 := Lib.hid hgrow4); clear hown4 hgrow4)
            go_roundw
            case rel =>
              refine ⟨j + 1, by omega, by go_num, by rw [HTK.out]; exact HO4.out, ?_⟩
              refine (HO2.out.below (by exact (Below.refl _ _).alloc (Nat.le_refl _) _)).grow (HB2.out.alloc HB2.out.size _) HG4.out (by have := HB2.out.size; simp; omega) (Nat.le_refl _)
            case measure => simp [intOf]; omega
        · obtain rfl : n = j := by omega
          go_wp2_with fail
          refine bodyPost_ret (v := .tuple #[u9, .int .i64 0]) (by simp [results, Try.results8, go_sem]) rfl ?_
          refine ⟨_, rfl, ?_, HB1.out.trans (HJ.out.2.mono HB1.out.size)⟩
          have h9 := HJ.out.1
          rw [List.take_of_length_le (by rw [HN.out]; exact Nat.le_refl _)] at h9
          rw [HSE.out]
          exact h9.base_le HB1.out.size
end Go.Proofs.Ytihgopiocjflcaa
