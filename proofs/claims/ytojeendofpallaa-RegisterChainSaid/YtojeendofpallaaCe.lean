/- Cells: what is right of valid views: View, sizes, Published. -/
import Derived.Test.YtojeendofpallaaCd
namespace Go.Proofs.Ytojeendofpallaa
open Go.RowKit
/-- the boxes of a space and of a view -/
theorem vw_box (w : World) (A : Option Addr) (n c : Nat) (ss : List Int) (h : Nums w .i64 w.heap.size A n c ss) (hs : Ce.Space ss) (A' : Option Addr) (n' c' : Nat) (vs : List (List Int)) (h' : NumRows w .i64 w.heap.size A' n' c' vs) (hv : Ce.View ss vs) :
    ∃ W : World, (w.alloc (.cells #[.slice A n c] 24)).alloc (.cells #[.slice A' n' c'] 27) = W ∧ W.cell? ⟨w.heap.size, 0, none⟩ = some (.slice A n c) ∧ W.cell? ⟨w.heap.size + 1, 0, none⟩ = some (.slice A' n' c') ∧ Hid (Nums W .i64 w.heap.size A n c ss) ∧ Hid (NumRows W .i64 w.heap.size A' n' c' vs) ∧ Hid (Below w.heap.size w W) ∧ n ≤ 4 ∧ Hid (ss.length = n) ∧ Hid (1 ≤ n) ∧ n' = n ∧ Hid (vs.length = n) ∧ Hid (W.heap.size = w.heap.size + 2) := by
  have hb : Below w.heap.size w ((w.alloc (.cells #[.slice A n c] 24)).alloc (.cells #[.slice A' n' c'] 27)) := ((Below.refl _ _).alloc (Nat.le_refl _) _).alloc (by simp) _
  exact ⟨_, rfl, by simp [go_sem], by simp [go_sem], h.keep hb (Nat.le_refl _), h'.keep hb (Nat.le_refl _), hb, by rw [← h.len]; exact hs.few, h.len, by show 1 ≤ n; rw [← h.len]; exact hs.pos, by rw [← h'.len, ← h.len]; exact hv.len, by show vs.length = n; rw [← h.len]; exact hv.len, Lib.hid (by simp)⟩
set_option maxHeartbeats 400000 in
theorem view28 (v v' : Value) (ss : List Int) (vs : List (List Int)) (w : World) (h : Sp w v ss) (h' : Vw w v' ss vs) :
    Calls Try.prog 62 #[v, v'] w fun e w' => e = .returned (.int .i64 0) ∧ Below w.heap.size w w' := by
  obtain ⟨⟨A, n, c, rfl, hn⟩, hs⟩ := h
  obtain ⟨⟨A', n', c', rfl, hn'⟩, hv⟩ := h'
  obtain ⟨W, hW, k0, k1, H, H', HB, hm, HL, H1, rfl, HL', HZ⟩ := vw_box w A n c ss hn hs A' n' c' vs hn' hv
  have HS := Lib.hid hs
  have HV := Lib.hid hv
  clear hs hn hv hn'
  go_enter Try.func62, Try.ntmps62
  go_wp2_with fail
  clear hW
  refine (check28 _ ss W ⟨⟨A, n', c, rfl, H.out.keep (Below.refl _ _) HB.out.size⟩, HS.out⟩).mono ?_; rintro e w1 ⟨rfl, hb1⟩
  have HB1 := Lib.hid hb1
  have k0 := below_cell hb1 k0
  have k1 := below_cell hb1 k1
  have HN := Lib.hid ((H.out.keep (Below.refl _ _) HB.out.size).keep HB1.out HB1.out.size)
  have HN' := Lib.hid ((H'.out.keep (Below.refl _ _) HB.out.size).keep HB1.out HB1.out.size)
  clear hb1
  go_wp2_with fail
  go_loop [23] (fun i => ∃ j : Nat, j ≤ n' ∧ i = .int .i64 j) (fun i => n' - (intOf i).toNat)
  case atStart => exact ⟨0, by omega, rfl⟩
  case round =>
    obtain ⟨j, hj, rfl⟩ := hrel
    by_cases hlt : j < n'
    · obtain ⟨ad, x, rfl, _, HX, hx, hwx⟩ := HN.out.val hlt
      obtain ⟨ad', Aj, nj, cj, rfl, _, hc, hj'⟩ := HN'.out.row hlt
      have e1 := HV.out.lens j (by rw [HL.out]; exact hlt)
      rw [hj'.len, HX.out.1] at e1
      have HJ := Lib.hid hj'
      have HM := Lib.hid (HV.out.num j (by rw [HL.out]; exact hlt))
      have g1 : ((nj : Int) != x) = false := by simp [e1]
      clear hj' e1
      go_wp2_with fail
      refine (numbered28 _ _ _ _ _ _ HJ.out HM.out).mono ?_; rintro e w2 ⟨rfl, rfl⟩
      go_wp2_with fail
      go_round
      case rel => exact ⟨j + 1, by omega, by go_num⟩
      case measure => simp [intOf]; omega
    · obtain rfl : j = n' := by omega
      go_wp2_with fail
      go_ret
      exact ⟨rfl, HB.out.trans (HB1.out.mono HB.out.size)⟩
set_option maxHeartbeats 400000 in
theorem sizes28 (v' : Value) (ss : List Int) (vs : List (List Int)) (w : World) (hs : Ce.Space ss) (h' : Vw w v' ss vs) :
    Calls Try.prog 68 #[v'] w (GivesInts (Ce.sizes vs) w) := by
  obtain ⟨⟨A, n, c, rfl, hn⟩, hv⟩ := h'
  obtain ⟨W, hW, hb⟩ : ∃ W : World, w.alloc (.cells #[.slice A n c] 27) = W ∧ Below w.heap.size w W := ⟨_, rfl, (Below.refl _ _).alloc (Nat.le_refl _) _⟩
  have k0 : W.cell? ⟨w.heap.size, 0, none⟩ = some (.slice A n c) := by rw [← hW]; simp [go_sem]
  have hm : n ≤ 4 := by rw [← hn.len, hv.len]; exact hs.few
  have H := Lib.hid (hn.keep hb (Nat.le_refl _))
  have HL := Lib.hid hn.len
  have HV := Lib.hid hv
  have HB := Lib.hid hb
  have HLs := Lib.hid hv.len
  have HS := Lib.hid hs
  clear hn hv hb hs
  go_enter Try.func68, Try.ntmps68
  go_wp2_with fail
  clear hW
  go_loopw [3, 9] (fun q i wr => ∃ j : Nat, j ≤ n ∧ i = .int .i64 j ∧ Hid (Own wr W.heap.size 3 .i64 q ((Ce.sizes vs).take j) ∧ Below W.heap.size W wr)) (fun _ i _ => n - (intOf i).toNat)
  case atStart => exact ⟨0, by omega, rfl, ⟨by simpa using Own.nil _ _ _ _, Below.refl _ _⟩⟩
  case round =>
    obtain ⟨j, hj, rfl, HI⟩ := hrel
    by_cases hlt : j < n
    · obtain ⟨ad, Aj, nj, cj, rfl, _, hc, hj'⟩ := ((H.out.keep (Below.refl _ _) HB.out.size).keep HI.out.2 HI.out.2.size).row hlt
      have hjs : j < ss.length := by rw [← HLs.out, HL.out]; exact hlt
      have HJ := Lib.hid hj'
      have HM := Lib.hid (HV.out.num j hjs)
      have HE := Lib.hid (show (Ce.sizes vs).take (j + 1) = (Ce.sizes vs).take j ++ [Ce.groups (vs.getD j [])] by rw [take_succ_getD _ j (by rw [Ce.sizes_len, HL.out]; exact hlt), Ce.sizes_get (by rw [HL.out]; exact hlt)])
      have g0 := HM.out.some
      have g1 := Ce.nextN_le (vs.getD j []) (vs.getD j []).length
      have g2 : Ce.groups (vs.getD j []) ≤ 8 := by
        have a := HV.out.lens j hjs
        have b := HS.out.hi j hjs
        unfold Ce.groups; omega
      have HLN := Lib.hid (show ((Ce.sizes vs).take j).length ≤ 4 by rw [List.length_take]; omega)
      clear hj' g1
      go_wp2_with fail
      refine (max28 _ _ _ _ _ _ HJ.out HM.out).mono ?_; rintro e w2 ⟨rfl, rfl⟩
      generalize Ce.groups (vs.getD j []) = gr at *
      go_wp2_with (at_builtin; refine app_int _ rfl _ _ _ rfl W.heap.size 3 8 .i64 int_info28 Try.underlying22 _ _ rfl (HI.out.1.alloc _) gr _ rfl (by simp [go_sem]) (by have := HLN.out; simp only [maxLen]; omega) (by have := HLN.out; omega) (by have := HI.out.2.size; simp; omega) ?_; intro v' w' hown' hgrow)
      go_roundw
      case rel =>
        exact ⟨j + 1, by omega, by go_num, ⟨by rw [HE.out]; exact hown', (HI.out.1.alloc _).grow (HI.out.2.alloc HI.out.2.size _) hgrow (by have := HI.out.2.size; simp; omega) (Nat.le_refl _)⟩⟩
      case measure => simp [intOf]; omega
    · obtain rfl : j = n := by omega
      have hfin := HI.out.1
      rw [take_len (by rw [Ce.sizes_len, HL.out])] at hfin
      have HF := Lib.hid hfin
      clear hfin
      go_wp2_with fail
      go_ret
      exact ⟨_, rfl, HF.out.base_le HB.out.size, HB.out.trans (HI.out.2.mono HB.out.size)⟩
set_option maxHeartbeats 400000 in
theorem published28 (v v' : Value) (ss : List Int) (vs : List (List Int)) (w : World) (h : Sp w v ss) (h' : Vw w v' ss vs) :
    Calls Try.prog 33 #[v, v'] w fun e w' => e = .returned (.int .i64 (Ce.published vs)) ∧ Below w.heap.size w w' := by
  obtain ⟨⟨A, n, c, rfl, hn⟩, hs⟩ := h
  obtain ⟨⟨A', n', c', rfl, hn'⟩, hv⟩ := h'
  obtain ⟨W, hW, k0, k1, H, H', HB, hm, HL, H1, rfl, HL', HZ⟩ := vw_box w A n c ss hn hs A' n' c' vs hn' hv
  have HSP := Lib.hid (show Sp W (.agg #[.slice A n' c]) ss from ⟨⟨A, n', c, rfl, H.out.keep (Below.refl _ _) HB.out.size⟩, hs⟩)
  have HVW := Lib.hid (show Vw W (.agg #[.slice A' n' c']) ss vs from ⟨⟨A', n', c', rfl, H'.out.keep (Below.refl _ _) HB.out.size⟩, hv⟩)
  clear hn hn'
  go_enter Try.func33, Try.ntmps33
  go_wp2_with fail
  clear hW
  refine (view28 _ _ ss vs W HSP.out HVW.out).mono ?_; rintro e w1 ⟨rfl, hb1⟩
  have HB1 := Lib.hid hb1
  have k0 := below_cell hb1 k0
  have k1 := below_cell hb1 k1
  clear hb1
  go_wp2_with fail
  refine (sizes28 _ ss vs w1 hs (HVW.out.keep HB1.out)).mono ?_; rintro e w2 ⟨u, rfl, hown, hb2⟩
  have hsp := hv.space hs
  have hz : ∀ x ∈ Ce.sizes vs, (Lit.int .i64 x).wf = true := Ce.space_wf hsp
  obtain ⟨Au, cu, rfl, hnu⟩ := hown.nums hz
  go_wp2_with fail
  refine (product28 _ _ _ _ _ _ hnu hsp).mono ?_; rintro e w3 ⟨rfl, rfl⟩
  go_wp2_with fail
  go_ret
  exact ⟨ret_int (by unfold Ce.published; rw [Ce.sizes_len]), HB.out.trans ((HB1.out.trans (hb2.mono HB1.out.size)).mono HB.out.size)⟩
end Go.Proofs.Ytojeendofpallaa
