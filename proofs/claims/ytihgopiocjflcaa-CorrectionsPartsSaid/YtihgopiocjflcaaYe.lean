/- Corrections: the law's question, the reference's comparison. -/
import Derived.Test.YtihgopiocjflcaaYd
namespace Go.Proofs.Ytihgopiocjflcaa
open Go.RowKit
theorem Cn.has_take {cs : List (Int × List Int)} (o k : Int) {j : Nat} {p : Int × List Int} (h : cs.getD j (0, []) = p ∧ j < cs.length) : Cn.has (cs.take (j + 1)) o k = (Cn.has (cs.take j) o k || (decide (p.1 = o) && decide (k ∈ p.2))) := by
  have h9 := h.1
  rw [List.getD_eq_getElem?_getD, List.getElem?_eq_getElem h.2] at h9
  have e : cs[j]'h.2 = p := h9
  unfold Cn.has
  rw [List.take_succ_eq_append_getElem h.2, List.any_append, e]
  simp
theorem Cn.has_in {cs : List (Int × List Int)} {o k : Int} {l : List Int} (h : (o, l) ∈ cs) (hk : k ∈ l) : Cn.has cs o k = true := List.any_eq_true.2 ⟨(o, l), h, by simp [hk]⟩
structure Cn.Sane (cs : List (Int × List Int)) : Prop where
  bd : ∀ p ∈ cs, ∀ x ∈ p.2, 0 ≤ x ∧ x ≤ 1000
  sm : ∀ p ∈ cs, p.2.length ≤ 100
set_option maxRecDepth 100000 in
set_option maxHeartbeats 1600000 in
theorem has40 (A : Option Addr) (n c : Nat) (cs : List (Int × List Int)) (o key : Int) (base : Nat) (w : World) (h : OwnC w base (.slice A n c) cs) (hr : Cn.Sane cs) (hn : n = cs.length) (hn1 : n ≤ 1000) :
    Calls Try.prog 9 #[.slice A n c, .int .i64 o, .int .i64 key] w fun e w' => e = .returned (.bool (Cn.has cs o key)) ∧ Below w.heap.size w w' := by
  have H := Lib.hid h
  have HR := Lib.hid hr
  have HN := Lib.hid hn
  clear h hr hn
  go_enter Try.func9, Try.ntmps9
  go_wp2_with fail
  go_loopw [13] (fun iv wr => ∃ j : Nat, j ≤ n ∧ iv = .int .i64 j ∧ Hid (Cn.has (cs.take j) o key = false ∧ Below w.heap.size w wr)) (fun iv _ => n - (intOf iv).toNat)
  case atStart => exact ⟨0, by omega, rfl, rfl, Below.refl _ _⟩
  case round =>
    rename World => Y
    obtain ⟨j, hj, rfl, HI⟩ := hrel
    by_cases hlt : j < n
    · obtain ⟨g, q, l, vl, hA, HX, hc0, hc1, hol⟩ := (H.out.below HI.out.2).at_ hlt
      have HM := Lib.hid (Cn.mem_at ⟨HX.out.1, HX.out.2.1⟩)
      obtain ⟨Al, cl, rfl, hnl⟩ := hol.nums (fun x hx => Cn.wf (HR.out.bd _ HM.out x hx))
      obtain ⟨M, hM⟩ : ∃ M, l.length = M := ⟨_, rfl⟩
      have hM1 : M ≤ 100 := by rw [← hM]; exact HR.out.sm _ HM.out
      rw [hM] at hnl hc1
      obtain ⟨Z, hZ⟩ : ∃ Z : World, Y.alloc (.cells #[.int .i64 q, .slice Al M cl] 30) = Z := ⟨_, rfl⟩
      have hbz : Below Y.heap.size Y Z := by rw [← hZ]; exact (Below.refl _ _).alloc (Nat.le_refl _) _
      have d0 : Z.cell? ⟨Y.heap.size, 0, none⟩ = some (.int .i64 q) := by rw [← hZ]; simp [go_sem]
      have d1 : Z.cell? ⟨Y.heap.size, 1, none⟩ = some (.slice Al M cl) := by rw [← hZ]; simp [go_sem]
      have HBZ := Lib.hid (HI.out.2.trans (hbz.mono HI.out.2.size))
      have HNZ := Lib.hid (hnl.keep hbz (Nat.le_refl _))
      have HTK := Lib.hid (Cn.has_take o key ⟨HX.out.1, HX.out.2.1⟩)
      have HML := Lib.hid hM
      have i1 : (0 : Int) ≤ (j : Int) := by omega
      have i2 : (j : Int) < (n : Int) := by omega
      clear hol hnl hbz hM
      subst hA
      go_wp2_with fail
      go_loopw [20] (fun iv wr => ∃ i : Nat, i ≤ M ∧ iv = .int .i64 i ∧ Hid ((decide (q = o) && decide (key ∈ l.take i)) = false) ∧ wr = Z) (fun iv _ => M - (intOf iv).toNat)
      case atStart => exact ⟨0, by omega, rfl, Lib.hid (by simp), rfl⟩
      case round =>
        obtain ⟨i, hi, rfl, HJ, rfl⟩ := hrel
        by_cases hlt2 : i < M
        · obtain ⟨ad, z, rfl, _, HZ2, hz, _⟩ := HNZ.out.val hlt2
          have HTZ := Lib.hid (take_succ_getD l i HZ2.out.2)
          by_cases hqo : q = o
          · subst hqo
            have gq : (q == q) = true := by simp
            by_cases hzk : z = key
            · subst hzk
              have gz : (z == z) = true := by simp
              have HF := Lib.hid (Cn.has_in HM.out (getD_mem HZ2.out))
              go_wp2_with fail
              go_ret
              exact ⟨congrArg (fun b => Ending.returned (.bool b)) HF.out.symm, HBZ.out⟩
            · have gz : (z == key) = false := by simpa using hzk
              have HZK := Lib.hid hzk
              clear hzk
              go_wp2_with fail
              go_roundw
              case rel => exact ⟨i + 1, by omega, by go_num, Lib.hid (by
                have h9 := HJ.out
                simp only [decide_true, Bool.true_and, decide_eq_false_iff_not] at h9 ⊢
                rw [HTZ.out, HZ2.out.1, List.mem_append]
                rintro (h | h)
                · exact h9 h
                · exact HZK.out (List.mem_singleton.1 h).symm), by first | rfl | trivial⟩
              case measure => simp [intOf]; omega
          · have gq : (q == o) = false := by simpa using hqo
            have HQO := Lib.hid hqo
            clear hqo
            go_wp2_with fail
            go_roundw
            case rel => exact ⟨i + 1, by omega, by go_num, Lib.hid (by rw [decide_eq_false HQO.out]; rfl), by first | rfl | trivial⟩
            case measure => simp [intOf]; omega
        · obtain rfl : M = i := by omega
          have HE := Lib.hid (show Cn.has (cs.take (j + 1)) o key = false by
            have h9 := HJ.out
            rw [List.take_of_length_le (by rw [HML.out]; exact Nat.le_refl _)] at h9
            rw [HTK.out, HI.out.1]
            exact h9)
          go_wp2_with fail
          go_roundw
          case rel => exact ⟨j + 1, by omega, by go_num, HE.out, HBZ.out⟩
          case measure => simp [intOf]; omega
    · obtain rfl : n = j := by omega
      have HF := Lib.hid (show Cn.has cs o key = false by have h9 := HI.out.1; rwa [List.take_of_length_le (by rw [HN.out]; exact Nat.le_refl _)] at h9)
      go_wp2_with fail
      go_ret
      exact ⟨congrArg (fun b => Ending.returned (.bool b)) HF.out.symm, HI.out.2⟩
end Go.Proofs.Ytihgopiocjflcaa
