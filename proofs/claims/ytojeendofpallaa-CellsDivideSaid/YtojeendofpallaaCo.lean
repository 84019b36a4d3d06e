/- Cells: the reference's At, Groups, Of. -/
import Derived.Test.YtojeendofpallaaCw
namespace Go.Proofs.Ytojeendofpallaa
open Go.RowKit
set_option maxHeartbeats 400000 in
theorem rgroups28 (A : Option Addr) (n c : Nat) (l : List Int) (B : Nat) (w : World) (h : Nums w .i64 B A n c l) (hs : Ce.Numbered l) :
    Calls Try.prog 69 #[.slice A n c] w fun e w' => e = .returned (.int .i64 (Ce.groups l)) ∧ w = w' := by
  have hm : n ≤ 9223372036854775807 := by have := h.cap; have := h.max; unfold maxLen at this; omega
  have H := Lib.hid h
  have HS := Lib.hid hs
  have HL := Lib.hid h.len
  clear h hs
  go_enter Try.func69, Try.ntmps69
  go_wp2_with fail
  go_loop [3, 8] (fun q i => ∃ j : Nat, j ≤ n ∧ i = .int .i64 j ∧ q = .int .i64 (Ce.grpN l j)) (fun _ i => n - (intOf i).toNat)
  case atStart => exact ⟨0, by omega, rfl, rfl⟩
  case round =>
    obtain ⟨j, hj, rfl, rfl⟩ := hrel
    have z0 := Ce.nextN_nonneg l j
    have z1 := Ce.nextN_le l j
    rw [← HS.out.grp j (by rw [HL.out]; exact hj)] at z0 z1
    by_cases hlt : j < n
    · obtain ⟨ad, y, rfl, _, HY, hy, hwy⟩ := H.out.val hlt
      have y0 := HS.out.lo j (by rw [HL.out]; exact hlt)
      have y1 := HS.out.hi j (by rw [HL.out]; exact hlt)
      rw [← HS.out.grp j (by rw [HL.out]; exact hj)] at y1
      rw [HY.out.1] at y0 y1
      have e2 : Ce.grpN l (j + 1) = max (Ce.grpN l j) (y + 1) := by show max (Ce.grpN l j) (l.getD j 0 + 1) = _; rw [HY.out.1]
      have HE := Lib.hid e2
      clear e2
      generalize Ce.grpN l j = p at *
      go_wp2_with fail
      all_goals go_round
      all_goals first | (case rel => exact ⟨j + 1, by omega, by go_num, by rw [HE.out]; congr 1; omega⟩) | skip
      all_goals (case measure => simp [intOf]; omega)
    · obtain rfl : j = n := by omega
      go_wp2_with fail
      go_ret
      refine ⟨ret_int ?_, rfl⟩
      rw [HS.out.grp j (by rw [HL.out]; exact Nat.le_refl _)]
      unfold Ce.groups
      rw [HL.out]
set_option maxHeartbeats 800000 in
theorem rat28 (v : Value) (ss : List Int) (x : Int) (w : World) (h : Sp w v ss) (hq : 0 ≤ x) (h1 : x < Ce.prodN ss ss.length) :
    Calls Try.prog 22 #[v, .int .i64 x] w (GivesTup (Ce.places ss x) w) := by
  obtain ⟨⟨A, n, c, rfl, hn⟩, hs⟩ := h
  obtain ⟨W, hW, k0, H, HB, hm, HL, H1, _⟩ := sp_box w A n c ss hn hs
  have HS := Lib.hid hs
  have hbd := hs.bd (Nat.le_refl _)
  have hq2 : x ≤ 48 := by omega
  have d1 : decide (x < 0) = false := by simp; omega
  have d2 : decide (Ce.prodN ss ss.length ≤ x) = false := by simp; omega
  clear hs hn
  go_enter Try.func22, Try.ntmps22
  go_wp2_with fail
  clear hW
  refine (rcheck28 _ ss W ⟨⟨A, n, c, rfl, H.out.keep (Below.refl _ _) HB.out.size⟩, HS.out⟩).mono ?_; rintro e w1 ⟨rfl, hb1⟩
  have HB1 := Lib.hid (HB.out.trans (hb1.mono HB.out.size))
  have HSP1 := Lib.hid ((show Sp W (.agg #[.slice A n c]) ss from ⟨⟨A, n, c, rfl, H.out.keep (Below.refl _ _) HB.out.size⟩, HS.out⟩).keep hb1)
  have HN1 := Lib.hid ((H.out.keep (Below.refl _ _) HB.out.size).keep hb1 hb1.size)
  have k0 := below_cell hb1 k0
  clear hb1
  go_wp2_with fail
  refine (rcount28 _ ss w1 HSP1.out).mono ?_; rintro e w2 ⟨rfl, hb2⟩
  have HB2 := Lib.hid (HB1.out.trans (hb2.mono HB1.out.size))
  have HN2 := Lib.hid (HN1.out.keep hb2 hb2.size)
  have k0 := below_cell hb2 k0
  clear hb2
  go_wp2_with (at_make; refine make_ints _ rfl _ _ _ rfl w2.heap.size 3 8 .i64 int_info28 Try.underlying22 n rfl rfl (by simp only [maxLen]; omega) (by omega) (Nat.le_refl _) ?_; intro w3 hown hgrow; (have HB3 := Lib.hid (Own.below_grown hgrow (Nat.le_refl w2.heap.size))); (have HK := Lib.hid k0); (have k0 := below_cell HB3.out k0))
  rw [← HL.out, ← Ce.part_zero ss x, HL.out] at hown
  have HO3 := Lib.hid hown
  clear hown hgrow
  go_loopw [1, 8] (fun q i wr => ∃ j k : Nat, j + k = n ∧ i = .int .i64 ((j : Int) - 1) ∧ q = .int .i64 (Ce.quoN ss x k) ∧ Hid (Own wr w2.heap.size 3 .i64 (.slice (some ⟨w2.heap.size, 0, none⟩) n n) (Ce.part ss x k) ∧ Below w2.heap.size w2 wr)) (fun _ i _ => (intOf i + 1).toNat)
  case atStart => exact ⟨n, 0, rfl, rfl, rfl, HO3.out, HB3.out⟩
  case round =>
    obtain ⟨j, k, hjk, rfl, rfl, HI⟩ := hrel
    clear k0
    rcases j with _ | j
    · go_wp2_with fail
      go_ret2
      obtain rfl : k = n := by omega
      refine ⟨_, rfl, ?_, HB2.out.trans (HI.out.2.mono HB2.out.size)⟩
      have := HI.out.1
      rw [← HL.out, Ce.part_all] at this
      rw [HL.out] at this
      exact this.base_le HB2.out.size
    · have hjn : j < n := by omega
      obtain ⟨ad, s, rfl, hlt, HX, hx0, hwx⟩ := HN2.out.val hjn
      have hbk : w.heap.size ≠ w2.heap.size := by
        have := World.block_lt_of_cell? w2 _ HK.out
        simp at this
        omega
      have hx : wr.cell? (ad.add j) = some (.int .i64 s) := by rw [HI.out.2.cell (by rw [add_block]; exact hlt)]; exact hx0
      have q0 := below_cell HI.out.2 HK.out
      have c2 : ∀ v, (wr.setCell ⟨w2.heap.size, j, none⟩ v).cell? (ad.add j) = some (.int .i64 s) := fun v => by rw [World.cell?_setCell_other _ _ _ _ (fun e => by have e2 := congrArg Addr.block e; rw [add_block] at e2; simp at e2; omega)]; exact hx
      have c3 : ∀ v, (wr.setCell ⟨w2.heap.size, j, none⟩ v).cell? ⟨w.heap.size, 0, none⟩ = some (.slice (some ad) n c) := fun v => by rw [World.cell?_setCell_other _ _ _ _ (fun e => by have e2 := congrArg Addr.block e; simp at e2; omega)]; exact q0
      have s0 := HS.out.lo j (by rw [HL.out]; exact hjn)
      have s1 := HS.out.hi j (by rw [HL.out]; exact hjn)
      rw [HX.out.1] at s0 s1
      have q0' := Ce.quoN_nonneg HS.out.lo hq k
      have q1 := Ce.quoN_le HS.out.lo hq k
      have c1 : wr.cell? ⟨w2.heap.size, j, none⟩ = some (.int .i64 ((Ce.part ss x k).getD j 0)) := HI.out.1.cell (by rw [Ce.part_len, HL.out]; exact hjn)
      have f1 := HI.out.1.thaw j
      have HE := Lib.hid (show Ce.quoN ss x (k + 1) = Ce.quoN ss x k / s by show Ce.quoN ss x k / ss.getD (ss.length - 1 - k) 0 = _; rw [show ss.length - 1 - k = j by have := HL.out; omega, HX.out.1])
      have HP := Lib.hid (show Ce.place ss x j = Ce.quoN ss x k % s by show Ce.quoN ss x (ss.length - 1 - j) % ss.getD j 0 = _; rw [show ss.length - 1 - j = k by have := HL.out; omega, HX.out.1])
      have HJK := Lib.hid hjk
      generalize Ce.quoN ss x k = q at *
      clear hjk hbk
      go_wp2_with fail
      go_roundw
      case rel =>
        have q := HI.out.1.store j (q % s)
        refine ⟨j, k + 1, by have := HJK.out; omega, by go_num, by rw [HE.out], ?_, ?_⟩
        · rw [Ce.part_succ ss x j k (by have := HL.out; have := HJK.out; omega), HP.out]; exact q.1
        · exact HI.out.1.grow HI.out.2 q.2 HI.out.2.size (Nat.le_refl _)
      case measure => simp [intOf]
theorem Ce.numN_bdk {ss xs : List Int} {k : Nat} (h : ∀ j, j < ss.length → 1 ≤ ss.getD j 0) (hk : k ≤ ss.length) (hx : ∀ j, j < k → 0 ≤ xs.getD j 0 ∧ xs.getD j 0 < ss.getD j 0) : ∀ j, j ≤ k → 0 ≤ Ce.numN ss xs j ∧ Ce.numN ss xs j + 1 ≤ Ce.prodN ss j
  | 0, _ => by simp [Ce.numN, Ce.prodN]
  | j + 1, hj => by
    have h1 := Ce.numN_bdk h hk hx j (by omega)
    have h2 := hx j (by omega)
    have h3 := h j (by omega)
    have h4 := Int.mul_le_mul_of_nonneg_right h1.2 (show 0 ≤ ss.getD j 0 by omega)
    have h5 := Int.mul_nonneg h1.1 (show 0 ≤ ss.getD j 0 by omega)
    simp only [Ce.numN, Ce.prodN]
    rw [Int.add_mul, Int.one_mul] at h4
    omega
theorem Ce.owner_out {ss : List Int} {vs : List (List Int)} {c : Int} {i : Nat} (hi : i < ss.length) (h : Ce.of ss vs c i = -1) : Ce.owner ss vs c = -1 := by
  unfold Ce.owner
  rw [if_pos]
  rw [← h, ← Ce.ofs_get hi]
  simp [List.getD, List.getElem?_eq_getElem (show i < (Ce.ofs ss vs c).length by rw [Ce.ofs_len]; exact hi)]
theorem Ce.owner_in {ss : List Int} {vs : List (List Int)} {c : Int} (h : ∀ i, i < ss.length → 0 ≤ Ce.of ss vs c i) : Ce.owner ss vs c = Ce.numN (Ce.sizes vs) (Ce.ofs ss vs c) ss.length := by
  unfold Ce.owner
  rw [if_neg]
  intro hm
  obtain ⟨i, hi, he⟩ := Ce.getD_of_mem hm
  rw [Ce.ofs_len] at hi
  rw [Ce.ofs_get hi] at he
  have := h i hi
  omega
set_option maxHeartbeats 800000 in
theorem rof28 (v v' : Value) (ss : List Int) (vs : List (List Int)) (x : Int) (w : World) (h : Sp w v ss) (h' : Vw w v' ss vs) (hq : 0 ≤ x) (h1 : x < Ce.prodN ss ss.length) :
    Calls Try.prog 35 #[v, v', .int .i64 x] w fun e w' => e = .returned (.int .i64 (Ce.owner ss vs x)) ∧ Below w.heap.size w w' := by
  obtain ⟨⟨A, n, c, rfl, hn⟩, hs⟩ := h
  obtain ⟨⟨A', n', c', rfl, hn'⟩, hv⟩ := h'
  obtain ⟨W, hW, k0, k1, H, H', HB, hm, HL, H1, rfl, HL', HZ⟩ := vw_box w A n c ss hn hs A' n' c' vs hn' hv
  have HSP := Lib.hid (show Sp W (.agg #[.slice A n' c]) ss from ⟨⟨A, n', c, rfl, H.out.keep (Below.refl _ _) HB.out.size⟩, hs⟩)
  have HVN := Lib.hid (show NumRows W .i64 W.heap.size A' n' c' vs from H'.out.keep (Below.refl _ _) HB.out.size)
  have HS := Lib.hid hs
  have HV := Lib.hid hv
  clear hn hn' hs hv
  go_enter Try.func35, Try.ntmps35
  go_wp2_with fail
  clear hW
  refine (rat28 _ ss x W HSP.out hq h1).mono ?_; rintro e w1 ⟨u, rfl, hown, hb1⟩
  obtain ⟨g1, cap1, rfl, _, _, _, hcm1⟩ := hown.rowg ((Ce.places_len ss x).trans HL.out) H1.out
  have HN1 := Lib.hid (hown.numsG (Ce.places_wf HS.out x))
  have HB1 := Lib.hid (HB.out.trans (hb1.mono HB.out.size))
  have HV1 := Lib.hid (HVN.out.keep hb1 hb1.size)
  have k1 := below_cell hb1 k1
  clear hown hb1 k0
  go_wp2_with fail
  go_loopw [9, 21] (fun q i wr => ∃ j : Nat, j ≤ n' ∧ i = .int .i64 j ∧ q = .int .i64 (Ce.numN (Ce.sizes vs) (Ce.ofs ss vs x) j) ∧ Hid ((∀ i, i < j → 0 ≤ Ce.of ss vs x i) ∧ wr = w1)) (fun _ i _ => n' - (intOf i).toNat)
  case atStart => exact ⟨0, by omega, rfl, rfl, fun i hi => absurd hi (by omega), rfl⟩
  case round =>
    obtain ⟨j, hj, rfl, rfl, HI⟩ := hrel
    obtain rfl := HI.out.2
    by_cases hlj : j < n'
    · have hjs : j < ss.length := by rw [HL.out]; exact hlj
      obtain ⟨ad, Aj, nj, cj, rfl, _, hc, hr⟩ := HV1.out.row hlj
      obtain ⟨y, HY, hy, _⟩ := HN1.out.valG hlj
      have hyp := HY.out.1
      rw [Ce.places_get hjs] at hyp
      have hb := Ce.of_bd HS.out HV.out x hjs
      obtain ⟨q, hq'⟩ := Int.eq_ofNat_of_zero_le (Ce.place_wf HS.out x hjs).1
      have ho : Ce.of ss vs x j = (vs.getD j []).getD q 0 := by unfold Ce.of; rw [hq']; rfl
      rw [hq'] at hb hyp
      subst hyp
      have hqn : q < nj := by rw [← hr.len]; simpa using hb.1
      obtain ⟨ad', z, rfl, _, HZ', hz, _⟩ := hr.val hqn
      rw [HZ'.out.1] at ho
      have HOF := Lib.hid ho
      have hz0 := hb.2.1
      have hz1 := hb.2.2
      rw [ho] at hz0 hz1
      have HR := Lib.hid hr
      have HNUM := Lib.hid (HV.out.num j hjs)
      have hg8 : Ce.groups (vs.getD j []) ≤ 8 := by
        have a := Ce.groups_bd (vs.getD j [])
        have b := HV.out.lens j hjs
        have d := HS.out.hi j hjs
        omega
      have hq0 : (0 : Int) ≤ (q : Int) := by omega
      have hq1 : (q : Int) < (nj : Int) := by omega
      have hlsz : (Ce.sizes vs).length = n' := by rw [Ce.sizes_len, HV.out.len, HL.out]
      have hnb := Ce.numN_bdk (ss := Ce.sizes vs) (xs := Ce.ofs ss vs x) (k := j) HV.out.sizes_lo (by omega) (fun i hi => by
        rw [Ce.ofs_get (by omega), Ce.sizes_get (by rw [HV.out.len]; omega)]
        exact ⟨HI.out.1 i hi, (Ce.of_bd HS.out HV.out x (by omega)).2.2⟩) j (Nat.le_refl _)
      have hpb := (HV.out.space HS.out).bd (j := j) (by omega)
      have HE := Lib.hid (show Ce.numN (Ce.sizes vs) (Ce.ofs ss vs x) (j + 1) = Ce.numN (Ce.sizes vs) (Ce.ofs ss vs x) j * Ce.groups (vs.getD j []) + z by
        show Ce.numN _ _ j * (Ce.sizes vs).getD j 0 + (Ce.ofs ss vs x).getD j 0 = _
        rw [Ce.sizes_get (by rw [HV.out.len]; exact hjs), Ce.ofs_get hjs, HOF.out])
      clear hr hb ho hq'
      by_cases hzn : z < 0
      · have g1 : decide (z < 0) = true := by simpa using hzn
        have hoz : Ce.of ss vs x j = -1 := by rw [HOF.out]; omega
        have HOW := Lib.hid (Ce.owner_out hjs hoz)
        clear hoz
        go_wp2_with fail
        go_ret
        exact ⟨ret_int HOW.out.symm, HB1.out⟩
      · have g1 : decide (z < 0) = false := by simpa using hzn
        obtain ⟨G, hG⟩ : ∃ G, Ce.groups (vs.getD j []) = G := ⟨_, rfl⟩
        obtain ⟨p, hp⟩ : ∃ p, Ce.numN (Ce.sizes vs) (Ce.ofs ss vs x) j = p := ⟨_, rfl⟩
        rw [hp] at hnb HE ⊢
        rw [hG] at hz1 hg8 HE
        have HG := Lib.hid hG
        have hpm : 0 ≤ p * G ∧ p * G ≤ 48 * 8 := ⟨Int.mul_nonneg (by omega) (by omega), Int.mul_le_mul (by omega) hg8 (by omega) (by omega)⟩
        clear hG hp
        go_wp2_with fail
        refine (rgroups28 _ _ _ _ _ _ HR.out HNUM.out).mono ?_; rintro e w2 ⟨rfl, rfl⟩
        rw [HG.out]
        go_wp2_with fail
        go_roundw
        case rel => exact ⟨j + 1, by omega, by go_num, by rw [HE.out], fun i hi => by
          rcases Nat.lt_or_ge i j with h | h
          · exact HI.out.1 i h
          · obtain rfl : i = j := by omega
            rw [HOF.out]; omega, trivial⟩
        case measure => simp [intOf]; omega
    · obtain rfl : j = n' := by omega
      have HOW := Lib.hid (Ce.owner_in (ss := ss) (vs := vs) (c := x) (fun i hi => HI.out.1 i (by rw [← HL.out]; exact hi)))
      go_wp2_with fail
      go_ret
      exact ⟨ret_int (by rw [HOW.out, HL.out]), HB1.out⟩
end Go.Proofs.Ytojeendofpallaa
