/- Cells: Members, Publish. -/
import Derived.Test.YtojeendofpallaaCf
import Derived.Test.YtojeendofpallaaCn
namespace Go.Proofs.Ytojeendofpallaa
open Go.RowKit
set_option maxHeartbeats 800000 in
theorem members28 (v v' : Value) (ss : List Int) (vs : List (List Int)) (N : Nat) (k : Int) (w : World) (h : Sp w v ss) (h' : Vw w v' ss vs) (hN : Ce.prodN ss ss.length = (N : Int)) (hk0 : 0 ≤ k) (hk1 : k < Ce.published vs) :
    Calls Try.prog 34 #[v, v', .int .i64 k] w (GivesTup (Ce.memb (Ce.ownf ss vs) k N) w) := by
  obtain ⟨⟨A, n, c, rfl, hn⟩, hs⟩ := h
  obtain ⟨⟨A', n', c', rfl, hn'⟩, hv⟩ := h'
  obtain ⟨W, hW, k0, k1, H, H', HB, hm, HL, H1, rfl, HL', HZ⟩ := vw_box w A n c ss hn hs A' n' c' vs hn' hv
  have HSP := Lib.hid (show Sp W (.agg #[.slice A n' c]) ss from ⟨⟨A, n', c, rfl, H.out.keep (Below.refl _ _) HB.out.size⟩, hs⟩)
  have HVW := Lib.hid (show Vw W (.agg #[.slice A' n' c']) ss vs from ⟨⟨A', n', c', rfl, H'.out.keep (Below.refl _ _) HB.out.size⟩, hv⟩)
  have hNb := hs.bd (Nat.le_refl _)
  rw [hN] at hNb
  have HN := Lib.hid hN
  have HS := Lib.hid hs
  have HV := Lib.hid hv
  have hpb := Ce.published_bd hs hv
  have d1 : decide (k < 0) = false := by simp; omega
  have d2 : decide (Ce.published vs ≤ k) = false := by simp; omega
  have HK0 := Lib.hid (And.intro hk0 hk1)
  clear hn hn' hN hs hv hk0 hk1
  go_enter Try.func34, Try.ntmps34
  go_wp2_with fail
  clear hW
  refine (owners28 _ _ ss vs N W HSP.out HVW.out HN.out).mono ?_; rintro e w1 ⟨u, rfl, hown1, hb1⟩
  have hl1 : ((List.range N).map (Ce.ownf ss vs)).length = N := by simp
  obtain ⟨g1, cap1, rfl, _, _, _, _⟩ := hown1.rowg hl1 (by omega)
  have HN1 := Lib.hid (hown1.numsG (Ce.owns_wf HS.out HV.out N))
  have HB1 := Lib.hid (HB.out.trans (hb1.mono HB.out.size))
  have k1 := below_cell hb1 k1
  have HVW1 := Lib.hid (HVW.out.keep hb1)
  clear hl1 hown1 hb1 k0
  go_wp2_with fail
  refine (sizes28 _ ss vs w1 HS.out HVW1.out).mono ?_; rintro e w2 ⟨u2, rfl, hown2, hb2⟩
  have hsp := HV.out.space HS.out
  obtain ⟨g2, cap2, rfl, _, _, _, _⟩ := hown2.rowg (Ce.sizes_len vs |>.trans (HV.out.len.trans HL.out)) H1.out
  have HN2 := Lib.hid (hown2.numsG (Ce.space_wf hsp))
  have HSP2 := Lib.hid hsp
  have HN12 := Lib.hid (HN1.out.keep hb2 hb2.size)
  have HB2 := Lib.hid (HB1.out.trans (hb2.mono HB1.out.size))
  have HPP := Lib.hid (show Ce.prodN (Ce.sizes vs) (Ce.sizes vs).length = Ce.published vs by unfold Ce.published; rw [Ce.sizes_len])
  clear hown2 hsp hb2 k1
  go_wp2_with fail
  refine (product28 _ _ _ _ _ _ HN2.out HSP2.out).mono ?_; rintro e w3 ⟨rfl, rfl⟩
  rw [HPP.out]
  go_wp2_with fail
  go_loopw [10, 33] (fun q i wr => ∃ j : Nat, j ≤ N ∧ i = .int .i64 j ∧ Hid (Own wr w2.heap.size 3 .i64 q (Ce.memb (Ce.ownf ss vs) k j) ∧ Below w2.heap.size w2 wr)) (fun _ i _ => N - (intOf i).toNat)
  case atStart => exact ⟨0, by omega, rfl, ⟨by simpa [Ce.memb] using Own.nil _ _ _ _, Below.refl _ _⟩⟩
  case round =>
    obtain ⟨j, hj, rfl, HI⟩ := hrel
    by_cases hlt : j < N
    · obtain ⟨x, HX, hx, _⟩ := (HN12.out.keep HI.out.2 HI.out.2.size).valG hlt
      have hxo := HX.out.1
      rw [Ce.range_get hlt] at hxo
      have HXO := Lib.hid hxo
      have hmb := Ce.memb_len (Ce.ownf ss vs) k j
      have HMB := Lib.hid hmb
      clear hxo hmb
      by_cases he : x = k
      · have g1 : (x == k) = true := by simpa using he
        have HE := Lib.hid (show Ce.memb (Ce.ownf ss vs) k (j + 1) = Ce.memb (Ce.ownf ss vs) k j ++ [(j : Int)] by rw [Ce.memb_succ, if_pos (by rw [HXO.out]; exact he)])
        clear he
        go_wp2_with (at_builtin; refine app_int _ rfl _ _ _ rfl w2.heap.size 3 8 .i64 int_info28 Try.underlying22 _ _ rfl (HI.out.1.alloc _) (j : Int) _ rfl (by simp [go_sem]) (by have := HMB.out; simp only [maxLen]; omega) (by have := HMB.out; omega) (by have := HI.out.2.size; simp; omega) ?_; intro v' w' hown' hgrow)
        go_roundw
        case rel =>
          exact ⟨j + 1, by omega, by go_num, ⟨by rw [HE.out]; exact hown', (HI.out.1.alloc _).grow (HI.out.2.alloc HI.out.2.size _) hgrow (by have := HI.out.2.size; simp; omega) (Nat.le_refl _)⟩⟩
        case measure => simp [intOf]; omega
      · have g1 : (x == k) = false := by simpa using he
        have HE := Lib.hid (show Ce.memb (Ce.ownf ss vs) k (j + 1) = Ce.memb (Ce.ownf ss vs) k j by rw [Ce.memb_succ, if_neg (by rw [HXO.out]; exact he), List.append_nil])
        clear he
        go_wp2_with fail
        go_roundw
        case rel => exact ⟨j + 1, by omega, by go_num, ⟨by rw [HE.out]; exact HI.out.1, HI.out.2⟩⟩
        case measure => simp [intOf]; omega
    · obtain rfl : j = N := by omega
      go_wp2_with fail
      go_ret2
      exact ⟨_, rfl, HI.out.1.base_le HB2.out.size, HB2.out.trans (HI.out.2.mono HB2.out.size)⟩
def Ce.odd (x : Int) : Bool := decide (x < 0) || decide (1000000 < x)
theorem odd28 (x : Int) (hx0 : 0 ≤ x) (hx1 : x ≤ 1000000) (w : World) : Calls Try.prog 67 #[.int .i64 x] w fun e w' => e = .returned (.bool false) ∧ w = w' := by
  have d1 : decide (x < 0) = false := by simp; omega
  have d2 : decide (1000000 < x) = false := by simp; omega
  go_enter Try.func67, Try.ntmps67
  go_wp2
  go_ret
  exact ⟨rfl, rfl⟩
theorem index_odd28 (A : Option Addr) (n c : Nat) (l : List Int) (B : Nat) (w : World) (h : Nums w .i64 B A n c l) (ht : ∀ j, j < l.length → 0 ≤ l.getD j 0 ∧ l.getD j 0 ≤ 1000000) :
    Calls Try.prog 81 #[.slice A n c, .func (.func 67) #[] #[]] w fun e w' => e = .returned (.int .i64 (-1)) ∧ w = w' := by
  have hm : n ≤ 9223372036854775807 := by have := h.cap; have := h.max; unfold maxLen at this; omega
  have H := Lib.hid h
  have HL := Lib.hid h.len
  have HT := Lib.hid ht
  clear h ht
  go_enter Try.func81, Try.ntmps81
  go_wp2_with fail
  go_loop [8] (fun i => ∃ j : Nat, j ≤ n ∧ i = .int .i64 j) (fun i => n - (intOf i).toNat)
  case atStart => exact ⟨0, by omega, rfl⟩
  case round =>
    obtain ⟨j, hj, rfl⟩ := hrel
    by_cases hlt : j < n
    · obtain ⟨ad, x, rfl, _, HX, hx, _⟩ := H.out.val hlt
      have hxb := HT.out j (by rw [HL.out]; exact hlt)
      rw [HX.out.1] at hxb
      go_wp2_with fail
      refine (odd28 x hxb.1 hxb.2 w).mono ?_; rintro e w1 ⟨rfl, rfl⟩
      go_wp2_with fail
      go_round
      case rel => exact ⟨j + 1, by omega, by go_num⟩
      case measure => simp [intOf]; omega
    · obtain rfl : j = n := by omega
      go_wp2
      go_ret
      exact ⟨rfl, rfl⟩
theorem contains_odd28 (A : Option Addr) (n c : Nat) (l : List Int) (B : Nat) (w : World) (h : Nums w .i64 B A n c l) (ht : ∀ j, j < l.length → 0 ≤ l.getD j 0 ∧ l.getD j 0 ≤ 1000000) :
    Calls Try.prog 66 #[.slice A n c, .func (.func 67) #[] #[]] w fun e w' => e = .returned (.bool false) ∧ w = w' := by
  go_enter Try.func66, Try.ntmps66
  go_wp2_with fail
  refine (index_odd28 A n c l B w h ht).mono ?_; rintro e w1 ⟨rfl, rfl⟩
  clear h
  go_wp2_with fail
  go_ret
  exact ⟨rfl, rfl⟩
set_option maxHeartbeats 800000 in
theorem publish28 (v v' : Value) (ss : List Int) (vs : List (List Int)) (N M : Nat) (At : Option Addr) (nt ct : Nat) (t : List Int) (w : World) (h : Sp w v ss) (h' : Vw w v' ss vs) (hN : Ce.prodN ss ss.length = (N : Int)) (hM : Ce.published vs = (M : Int))
    (ht : Nums w .i64 w.heap.size At nt ct t) (hnt : nt = N) (htb : ∀ j, j < t.length → 0 ≤ t.getD j 0 ∧ t.getD j 0 ≤ 1000000) :
    Calls Try.prog 32 #[v, v', .slice At nt ct] w (GivesTup (Ce.pubs (Ce.ownf ss vs) t M N) w) := by
  obtain ⟨⟨A, n, c, rfl, hn⟩, hs⟩ := h
  obtain ⟨⟨A', n', c', rfl, hn'⟩, hv⟩ := h'
  subst hnt
  obtain ⟨W, hW, k0, k1, H, H', HB, hm, HL, H1, rfl, HL', HZ⟩ := vw_box w A n c ss hn hs A' n' c' vs hn' hv
  have HSP := Lib.hid (show Sp W (.agg #[.slice A n' c]) ss from ⟨⟨A, n', c, rfl, H.out.keep (Below.refl _ _) HB.out.size⟩, hs⟩)
  have HVW := Lib.hid (show Vw W (.agg #[.slice A' n' c']) ss vs from ⟨⟨A', n', c', rfl, H'.out.keep (Below.refl _ _) HB.out.size⟩, hv⟩)
  have hNb := hs.bd (Nat.le_refl _)
  rw [hN] at hNb
  have HN := Lib.hid hN
  have HS := Lib.hid hs
  have HV := Lib.hid hv
  have hpb := Ce.published_bd hs hv
  rw [hM] at hpb
  have HM := Lib.hid hM
  have HT := Lib.hid (ht.keep HB.out HB.out.size)
  have HTB := Lib.hid htb
  have HTL := Lib.hid ht.len
  clear hn hn' hN hs hv hM ht htb
  go_enter Try.func32, Try.ntmps32
  go_wp2_with fail
  clear hW
  refine (owners28 _ _ ss vs nt W HSP.out HVW.out HN.out).mono ?_; rintro e w1 ⟨u, rfl, hown1, hb1⟩
  have hl1 : ((List.range nt).map (Ce.ownf ss vs)).length = nt := by simp
  obtain ⟨g1, cap1, rfl, _, _, _, _⟩ := hown1.rowg hl1 (by omega)
  have HN1 := Lib.hid (hown1.numsG (Ce.owns_wf HS.out HV.out nt))
  have HB1 := Lib.hid (HB.out.trans (hb1.mono HB.out.size))
  have k1 := below_cell hb1 k1
  have HVW1 := Lib.hid (HVW.out.keep hb1)
  have HT1 := Lib.hid (HT.out.keep hb1 hb1.size)
  clear hl1 hown1 hb1 k0
  go_wp2_with fail
  refine (contains_odd28 At _ ct t _ _ HT1.out HTB.out).mono ?_; rintro e w2 ⟨rfl, rfl⟩
  go_wp2_with fail
  refine (sizes28 _ ss vs w1 HS.out HVW1.out).mono ?_; rintro e w2 ⟨u2, rfl, hown2, hb2⟩
  have hsp := HV.out.space HS.out
  obtain ⟨g2, cap2, rfl, _, _, _, _⟩ := hown2.rowg (Ce.sizes_len vs |>.trans (HV.out.len.trans HL.out)) H1.out
  have HN2 := Lib.hid (hown2.numsG (Ce.space_wf hsp))
  have HSP2 := Lib.hid hsp
  have HN12 := Lib.hid (HN1.out.keep hb2 hb2.size)
  have HT2 := Lib.hid (HT1.out.keep hb2 hb2.size)
  have HB2 := Lib.hid (HB1.out.trans (hb2.mono HB1.out.size))
  have HPP := Lib.hid (show Ce.prodN (Ce.sizes vs) (Ce.sizes vs).length = (M : Int) by rw [← HM.out]; unfold Ce.published; rw [Ce.sizes_len])
  clear hown2 hsp hb2 k1
  go_wp2_with fail
  refine (product28 _ _ _ _ _ _ HN2.out HSP2.out).mono ?_; rintro e w3 ⟨rfl, rfl⟩
  rw [HPP.out]
  go_wp2_with (at_make; refine make_ints _ rfl _ _ _ rfl w2.heap.size 3 8 .i64 int_info28 Try.underlying22 M rfl rfl (by simp only [maxLen]; omega) (by omega) (Nat.le_refl _) ?_; intro w3 hown3 hgrow3)
  have HB3 := Lib.hid (Own.below_grown hgrow3 (Nat.le_refl w2.heap.size))
  rw [← Ce.pubs_zero (Ce.ownf ss vs) t M] at hown3
  have HO3 := Lib.hid hown3
  clear hown3 hgrow3
  go_loopw [35] (fun i wr => ∃ j : Nat, j ≤ nt ∧ i = .int .i64 j ∧ Hid (Own wr w2.heap.size 3 .i64 (.slice (some ⟨w2.heap.size, 0, none⟩) M M) (Ce.pubs (Ce.ownf ss vs) t M j) ∧ Below w2.heap.size w2 wr)) (fun i _ => nt - (intOf i).toNat)
  case atStart => exact ⟨0, by omega, rfl, HO3.out, HB3.out⟩
  case round =>
    obtain ⟨j, hj, rfl, HI⟩ := hrel
    by_cases hlt : j < nt
    · obtain ⟨x, HX, hx, _⟩ := (HN12.out.keep HI.out.2 HI.out.2.size).valG hlt
      obtain ⟨ad, y, rfl, _, HY, hy, _⟩ := (HT2.out.keep HI.out.2 HI.out.2.size).val hlt
      have hxo := HX.out.1
      rw [Ce.range_get hlt] at hxo
      have HXO := Lib.hid hxo
      have hyb := HTB.out j (by rw [HTL.out]; exact hlt)
      rw [HY.out.1] at hyb
      rcases Ce.ownf_bd HS.out HV.out j with he | ⟨he0, he1⟩
      · rw [hxo] at he
        have g1 : (x != -1) = false := by simp [he]
        have HE := Lib.hid (show Ce.pubs (Ce.ownf ss vs) t M (j + 1) = Ce.pubs (Ce.ownf ss vs) t M j from Ce.pubs_out (by rw [HXO.out]; exact he))
        clear he hxo
        go_wp2_with fail
        go_roundw
        case rel => exact ⟨j + 1, by omega, by go_num, by rw [HE.out]; exact HI.out.1, HI.out.2⟩
        case measure => simp [intOf]; omega
      · rw [hxo] at he0 he1
        rw [HM.out] at he1
        obtain ⟨k, rfl⟩ := Int.eq_ofNat_of_zero_le he0
        have hkM : k < M := by omega
        have g1 : ((k : Int) != -1) = true := by simp
        have hpb := Ce.psum_bd (f := Ce.ownf ss vs) HTB.out (k : Int) j (by rw [HTL.out]; omega)
        have c0 : wr.cell? ⟨w2.heap.size, k, none⟩ = some (.int .i64 (Ce.psum (Ce.ownf ss vs) t k j)) := by rw [← Ce.pubs_get hkM]; exact HI.out.1.cell (by rw [Ce.pubs_len]; exact hkM)
        have f0 := HI.out.1.thaw k
        have HE := Lib.hid (show Ce.pubs (Ce.ownf ss vs) t M (j + 1) = (Ce.pubs (Ce.ownf ss vs) t M j).set k (Ce.psum (Ce.ownf ss vs) t k j + y) by rw [Ce.pubs_in HXO.out, HY.out.1])
        have HST := Lib.hid (HI.out.1.store k (Ce.psum (Ce.ownf ss vs) t k j + y))
        generalize Ce.psum (Ce.ownf ss vs) t k j = p at *
        clear hxo
        go_wp2_with fail
        go_region
        go_wp2_with fail
        go_roundw
        case rel =>
          have hb := HI.out.1.grow HI.out.2 HST.out.2 HI.out.2.size (Nat.le_refl _)
          exact ⟨j + 1, by omega, by go_num, by rw [HE.out]; exact HST.out.1, ⟨hb.os, hb.tape, hb.output, hb.size, hb.block⟩⟩
        case measure => simp [intOf]; omega
    · obtain rfl : j = nt := by omega
      go_wp2_with fail
      go_ret2
      exact ⟨_, rfl, HI.out.1.base_le HB2.out.size, HB2.out.trans (HI.out.2.mono HB2.out.size)⟩
end Go.Proofs.Ytojeendofpallaa
