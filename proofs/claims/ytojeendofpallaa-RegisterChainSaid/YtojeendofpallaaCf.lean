/- Cells: Owners. -/
import Derived.Test.YtojeendofpallaaCe
namespace Go.Proofs.Ytojeendofpallaa
open Go.RowKit
def GivesTup (l : List Int) (w : World) (e : Ending) (w' : World) : Prop := ∃ v, e = .returned (.tuple #[v, .int .i64 0]) ∧ Own w' w.heap.size 3 .i64 v l ∧ Below w.heap.size w w'
set_option maxHeartbeats 800000 in
theorem owners28 (v v' : Value) (ss : List Int) (vs : List (List Int)) (N : Nat) (w : World) (h : Sp w v ss) (h' : Vw w v' ss vs) (hN : Ce.prodN ss ss.length = (N : Int)) :
    Calls Try.prog 65 #[v, v'] w (GivesTup ((List.range N).map (Ce.ownf ss vs)) w) := by
  obtain ⟨⟨A, n, c, rfl, hn⟩, hs⟩ := h
  obtain ⟨⟨A', n', c', rfl, hn'⟩, hv⟩ := h'
  obtain ⟨W, hW, k0, k1, H, H', HB, hm, HL, H1, rfl, HL', HZ⟩ := vw_box w A n c ss hn hs A' n' c' vs hn' hv
  have HSP := Lib.hid (show Sp W (.agg #[.slice A n' c]) ss from ⟨⟨A, n', c, rfl, H.out.keep (Below.refl _ _) HB.out.size⟩, hs⟩)
  have HVW := Lib.hid (show Vw W (.agg #[.slice A' n' c']) ss vs from ⟨⟨A', n', c', rfl, H'.out.keep (Below.refl _ _) HB.out.size⟩, hv⟩)
  have hNb := hs.bd (Nat.le_refl _)
  rw [hN] at hNb
  have HN := Lib.hid hN
  have HS := Lib.hid hs
  have HV := Lib.hid hv
  clear hn hn' hN hs hv
  go_enter Try.func65, Try.ntmps65
  go_wp2_with fail
  clear hW
  refine (view28 _ _ ss vs W HSP.out HVW.out).mono ?_; rintro e w1 ⟨rfl, hb1⟩
  have HB1 := Lib.hid hb1
  have HK := Lib.hid (And.intro (below_cell hb1 k0) (below_cell hb1 k1))
  have k0 := below_cell hb1 k0
  have k1 := below_cell hb1 k1
  have HSP1 := Lib.hid (HSP.out.keep hb1)
  have HVW1 := Lib.hid (HVW.out.keep hb1)
  have HZ1 := Lib.hid (show w.heap.size + 2 ≤ w1.heap.size by have := hb1.size; rw [HZ.out] at this; exact this)
  have HN1 := Lib.hid ((H.out.keep (Below.refl _ _) HB.out.size).keep hb1 hb1.size)
  have HN1' := Lib.hid ((H'.out.keep (Below.refl _ _) HB.out.size).keep hb1 hb1.size)
  have HB1' := Lib.hid (HB.out.trans (hb1.mono HB.out.size))
  clear hb1
  go_wp2_with fail
  refine (product28 _ _ _ _ _ _ HN1.out HS.out).mono ?_; rintro e w2 ⟨rfl, rfl⟩
  rw [HN.out]
  go_wp2_with (at_make; refine make_ints _ rfl _ _ _ rfl w1.heap.size 3 8 .i64 int_info28 Try.underlying22 N rfl rfl (by simp only [maxLen]; omega) (by omega) (Nat.le_refl _) ?_; intro w2 hown hgrow)
  have HB2 := Lib.hid (Own.below_grown hgrow (Nat.le_refl w1.heap.size))
  rw [← Ce.told_zero N (Ce.ownf ss vs)] at hown
  have HO2 := Lib.hid hown
  clear hown hgrow k0 k1
  go_loopw [24] (fun i wr => ∃ k : Nat, k ≤ N ∧ i = .int .i64 k ∧ Hid (Own wr w1.heap.size 3 .i64 (.slice (some ⟨w1.heap.size, 0, none⟩) N N) (Ce.told N (Ce.ownf ss vs) k) ∧ Below w1.heap.size w1 wr)) (fun i _ => N - (intOf i).toNat)
  case atStart => exact ⟨0, by omega, rfl, HO2.out, HB2.out⟩
  case round =>
    rename World => X
    obtain ⟨k, hk, rfl, HI⟩ := hrel
    by_cases hlt : k < N
    · have hk0 : (0 : Int) ≤ (k : Int) := by omega
      have hk48 : (k : Int) ≤ 48 := by omega
      have q0 := below_cell HI.out.2 HK.out.1
      have q1 := below_cell HI.out.2 HK.out.2
      go_wp2_with fail
      refine (places28 _ _ _ ss k X (HN1.out.keep HI.out.2 HI.out.2.size) HS.out hk0 hk48).mono ?_; rintro e w3 ⟨u, rfl, hown3, hb3⟩
      obtain ⟨g3, cap3, rfl, hg3, hgs3, hc3, hcm3⟩ := hown3.rowg ((Ce.places_len ss k).trans HL.out) H1.out
      rw [← Ce.ofp_zero ss vs k] at hown3
      have HO3 := Lib.hid hown3
      have HB3 := Lib.hid hb3
      have HG3 := Lib.hid hg3
      have p1 := below_cell hb3 q1
      clear hown3 hb3 q0 q1 hg3 hgs3
      go_wp2_with fail
      go_loopw [34] (fun i wr => ∃ j : Nat, j ≤ n' ∧ i = .int .i64 j ∧ Hid (Own wr X.heap.size 3 .i64 (.slice (some ⟨g3, 0, none⟩) n' cap3) (Ce.ofp ss vs k j) ∧ Below X.heap.size X wr)) (fun i _ => n' - (intOf i).toNat)
      case atStart => exact ⟨0, by omega, rfl, HO3.out, HB3.out⟩
      case round =>
        rename World => Y
        obtain ⟨j, hj, rfl, HJ⟩ := hrel
        by_cases hlj : j < n'
        · have hjs : j < ss.length := by rw [HL.out]; exact hlj
          have hbY := HI.out.2.trans (HJ.out.2.mono HI.out.2.size)
          obtain ⟨ad, Aj, nj, cj, rfl, _, hc, hr⟩ := (HN1'.out.keep hbY hbY.size).row hlj
          have c0 : Y.cell? ⟨g3, j, none⟩ = some (.int .i64 (Ce.place ss k j)) := by rw [← Ce.ofp_get (vs := vs) hjs]; exact HJ.out.1.cell (by rw [Ce.ofp_len]; exact hjs)
          have f0 := HJ.out.1.thaw j
          have hb := Ce.of_bd HS.out HV.out k hjs
          obtain ⟨q, hq⟩ := Int.eq_ofNat_of_zero_le (Ce.place_wf HS.out k hjs).1
          have ho : Ce.of ss vs k j = (vs.getD j []).getD q 0 := by unfold Ce.of; rw [hq]; rfl
          rw [hq] at c0 hb
          have hqn : q < nj := by rw [← hr.len]; simpa using hb.1
          obtain ⟨ad', y, rfl, _, HY, hy, _⟩ := hr.val hqn
          rw [HY.out.1] at ho
          have HOF := Lib.hid ho
          have HQ := Lib.hid hq
          have hq0 : (0 : Int) ≤ (q : Int) := by omega
          have hq1 : (q : Int) < (nj : Int) := by omega
          clear hbY hr hb ho hq
          go_wp2_with fail
          go_roundw
          case rel =>
            have qs := HJ.out.1.store j y
            refine ⟨j + 1, by omega, by go_num, ?_, ?_⟩
            · rw [Ce.ofp_succ, HOF.out]; exact qs.1
            · exact HJ.out.1.grow HJ.out.2 qs.2 HJ.out.2.size (Nat.le_refl _)
          case measure => simp [intOf]; omega
        · obtain rfl : j = n' := by omega
          have hat := HJ.out.1
          rw [← HL.out, Ce.ofp_all, HL.out] at hat
          have hon := HI.out.1.below HJ.out.2
          have f0 := hon.thaw k
          have c0 := hon.cell (j := k) (by rw [Ce.told_len]; exact hlt)
          have hst := hon.store k (-1)
          have hat2 := hat.kept hst.2 (.inr (by have := HG3.out; have := HI.out.1.head; simp [Value.ownBlock]; omega))
          have HAT := Lib.hid hat2
          have HST := Lib.hid hst
          have hbY := HI.out.2.trans (HJ.out.2.mono HI.out.2.size)
          have hbS : Below w1.heap.size w1 _ := hon.grow hbY hst.2 hbY.size (Nat.le_refl _)
          have HBS := Lib.hid hbS
          clear hon hst hat hat2 hbY hbS
          go_wp2_with fail
          refine (contains80 _ _ _ _ (-1) _ _ (HAT.out.numsG (Ce.ofs_wf HS.out HV.out k))).mono ?_; rintro e w4 ⟨rfl, rfl⟩
          rcases Ce.owner_bd HS.out HV.out (k : Int) with ⟨ho, hmem⟩ | ⟨hmem, ho0, ho1, ho2⟩
          · have hd : decide ((-1 : Int) ∈ Ce.ofs ss vs k) = true := by simpa using hmem
            have HOW := Lib.hid (show Ce.ownf ss vs k = -1 from ho)
            rw [hd]
            clear hd hmem ho
            go_wp2_with fail
            go_roundw
            case rel => exact ⟨k + 1, by omega, by go_num, by rw [Ce.told_succ, HOW.out]; exact HST.out.1, HBS.out⟩
            case measure => simp [intOf]; omega
          · have hd : decide ((-1 : Int) ∈ Ce.ofs ss vs k) = false := by simpa using hmem
            rw [hd]
            have HMEM := Lib.hid hmem
            have HOW := Lib.hid (show Ce.ownf ss vs k = Ce.numN (Ce.sizes vs) (Ce.ofs ss vs k) ss.length from ho2)
            clear hd hmem ho0 ho1 ho2
            generalize Y.setCell ⟨w1.heap.size, k, none⟩ (.int .i64 (-1)) = Z at *
            have q9 := below_cell HBS.out HK.out.2
            go_wp2_with fail
            refine (sizes28 _ ss vs Z HS.out (HVW1.out.keep HBS.out)).mono ?_; rintro e w5 ⟨u, rfl, hown5, hb5⟩
            have hsp := HV.out.space HS.out
            have hls : (Ce.sizes vs).length = j := by rw [Ce.sizes_len, HV.out.len, HL.out]
            obtain ⟨g5, cap5, rfl, _, _, _, _⟩ := hown5.rowg hls H1.out
            have HN5 := Lib.hid (hown5.numsG (Ce.space_wf hsp))
            have HAT5 := Lib.hid ((HAT.out.numsG (Ce.ofs_wf HS.out HV.out k)).keep hb5 hb5.size)
            have HSP5 := Lib.hid hsp
            have HB5 := Lib.hid hb5
            have HO5 := Lib.hid (HST.out.1.below hb5)
            have HLS := Lib.hid hls
            clear hsp hls hown5 hb5 q9
            go_wp2_with fail
            refine (number28 _ _ _ _ _ _ _ _ _ _ HN5.out HAT5.out HSP5.out (Ce.ofs_in HS.out HV.out k HMEM.out)).mono ?_; rintro e w6 ⟨rfl, rfl⟩
            have f0 := HO5.out.thaw k
            have c0 := HO5.out.cell (j := k) (by rw [List.length_set, Ce.told_len]; exact hlt)
            go_wp2_with fail
            go_roundw
            case rel =>
              have qs := HO5.out.store k (Ce.ownf ss vs k)
              have e9 : Ce.numN (Ce.sizes vs) (Ce.ofs ss vs k) (Ce.sizes vs).length = Ce.ownf ss vs k := by rw [HOW.out, HLS.out, HL.out]
              refine ⟨k + 1, by omega, by go_num, ?_, ?_⟩
              · rw [e9, Ce.told_succ]; have q1 := qs.1; rw [List.set_set] at q1; exact q1
              · rw [e9]; exact HO5.out.grow (HBS.out.trans (HB5.out.mono HBS.out.size)) qs.2 (Nat.le_trans HBS.out.size HB5.out.size) (Nat.le_refl _)
            case measure => simp [intOf]; omega
    · obtain rfl : k = N := by omega
      have hfin := HI.out.1
      rw [Ce.told_all] at hfin
      have HF := Lib.hid hfin
      clear hfin
      go_wp2_with fail
      go_ret2
      exact ⟨_, rfl, HF.out.base_le HB1'.out.size, HB1'.out.trans (HI.out.2.mono HB1'.out.size)⟩
end Go.Proofs.Ytojeendofpallaa
