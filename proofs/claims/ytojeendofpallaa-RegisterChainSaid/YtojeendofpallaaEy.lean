/- Register: what is refused. -/
import Derived.Test.YtojeendofpallaaEx
namespace Go.Proofs.Ytojeendofpallaa
open Go.RowKit
theorem Rg.Reg.wd_out {L : List Rg.En} (h : Rg.Reg L) {x : Rg.En} (hx : x ∈ L) (hk : x.kind = 2) : x.out = 0 := by
  obtain ⟨j, hj, e⟩ := Rg.mem_getD hx
  by_cases ho : x.out = 0
  · exact ho
  · exact absurd hk (by rw [← e] at ho ⊢; exact (Rg.about_out (h.abt j hj) ho).1)
theorem Rg.news_any {L : List Rg.En} {y : Int} (h1 : 1 ≤ y) (h9 : y ≤ 40) : Rg.news L y = if Rg.any L y = true then 11 else 0 := by
  unfold Rg.news
  rw [if_neg (by omega)]
  by_cases ha : ∃ x ∈ L, x.out = y
  · rw [if_pos ha, if_pos (Rg.any_iff.2 ha)]
  · rw [if_neg ha, if_neg (fun h => ha (Rg.any_iff.1 h))]
theorem Rg.Reg.taken {L : List Rg.En} (h : Rg.Reg L) {y r : Int} (h1 : 1 ≤ y)
    (hr : (r = 0 ∧ ∀ x ∈ L, ¬ Rg.hits y x) ∨ ∃ j, j < L.length ∧ Rg.hits y (L.getD j Rg.En0) ∧ r = (L.getD j Rg.En0).num ∧ ∀ x ∈ L.take j, ¬ Rg.hits y x) : decide (0 < r) = Rg.any L y := by
  rw [Bool.eq_iff_iff, Rg.any_iff, decide_eq_true_iff]
  rcases hr with ⟨e, h9⟩ | ⟨j, hj, hh, e, _⟩
  · constructor
    · intro h2; omega
    · rintro ⟨x, hx, e2⟩
      exact absurd ⟨fun hk => by have := h.wd_out hx hk; omega, e2⟩ (h9 x hx)
  · have hm : L.getD j Rg.En0 ∈ L := by rw [List.getD_eq_getElem?_getD, List.getElem?_eq_getElem hj]; exact List.getElem_mem hj
    have := h.num j hj
    exact ⟨fun _ => ⟨_, hm, hh.2⟩, fun _ => by omega⟩
theorem Rg.t1 : ¬ 4096 < (⟨#[116]⟩ : ByteArray).size := by decide
theorem Rg.t0 : ¬ 4096 < (⟨#[]⟩ : ByteArray).size := by decide
theorem Rg.rel_about (L : List Rg.En) {y : Int} (h1 : 1 ≤ y) (h9 : y ≤ 40) : Rg.about L (Rg.next L 1 0 y ⟨#[116]⟩) = if Rg.any L y = true then 11 else 0 := by
  rw [Rg.about_one Rg.t1 rfl]
  show (if (0 : Int) ≠ 0 then 11 else Rg.news L y) = _
  rw [if_neg (by simp)]
  exact Rg.news_any h1 h9
theorem Rg.wd_about (L : List Rg.En) (n : Int) : Rg.about L (Rg.next L 2 n 0 ⟨#[]⟩) = if n ∈ Rg.inf L then 0 else 56 := by
  by_cases hi : n ∈ Rg.inf L
  · rw [if_pos hi, Rg.about_two Rg.t0 rfl hi, if_pos ⟨rfl, show (⟨#[]⟩ : ByteArray).toList.isEmpty = true by rw [ByteArray.toList]; unfold ByteArray.toList.loop; rfl⟩]
  · rw [if_neg hi, Rg.about_wd Rg.t0 (by simp [Rg.next]) (by simp [Rg.next]) hi]
theorem Rg.sup_about (L : List Rg.En) (n : Int) {y : Int} (h1 : 1 ≤ y) (h9 : y ≤ 40) : Rg.about L (Rg.next L 3 n y ⟨#[116]⟩) = if n ∈ Rg.inf L then (if Rg.any L y = true then 11 else 0) else 56 := by
  by_cases hi : n ∈ Rg.inf L
  · rw [if_pos hi, Rg.about_three Rg.t1 rfl hi]
    exact Rg.news_any h1 h9
  · rw [if_neg hi, Rg.about_wd Rg.t1 (by simp [Rg.next]) (by simp [Rg.next]) hi]
theorem Rg.is_mem (l : List Int) (n : Int) : Rg.is l n l.length = decide (n ∈ l) := by
  unfold Rg.is
  rw [List.take_length, Bool.eq_iff_iff]
  simp
set_option maxHeartbeats 1600000 in
set_option maxRecDepth 100000 in
theorem walkRefuses (W : World) (A : Option Addr) (n c : Nat) (l : List Int) (h : Nums W .u8 W.heap.size A n c l) (a : Int) (ha0 : 0 ≤ a) (ha1 : a ≤ 255) (b : Int) (hb0 : 0 ≤ b) (hb1 : b ≤ 255) :
    Calls Try.prog 13 #[.slice A n c, .int .u8 a, .int .u8 b] W fun e w => e = .returned (.bool true) ∧ Below W.heap.size W w := by
  obtain ⟨K, hK⟩ : ∃ K, 1 + b % 9 = K := ⟨_, rfl⟩
  have hK1 : 1 ≤ K := by omega
  have hK9 : K ≤ 40 := by omega
  have HKK := Lib.hid (And.intro hK1 hK9)
  clear hK1 hK9
  go_enter Try.func13, Try.ntmps13
  go_wp2_with fail
  refine (new_any A n c l W h).mono ?_; rintro e w1 ⟨rfl, hc1, hb1⟩
  have HB1 := Lib.hid hb1
  clear hb1
  go_wp2_with fail
  refine (register9 _ _ w1 hc1).mono ?_; rintro e w2 ⟨v, L, rfl, ho, hr, hl8, hc2, hg2⟩
  obtain ⟨Ar, nr, cr, rfl, hrow⟩ := ho.row (by omega)
  have hnr : nr ≤ 8 := by rw [← hrow.len]; exact hl8
  have HRW := Lib.hid hrow
  have HR := Lib.hid hr
  have HB2 := Lib.hid (below_cod HB1.out hg2)
  clear hc1 hg2 ho hrow hc2 hr hl8 h
  go_wp2_with fail
  clear hK
  generalize a % 10 = N
  refine (force38 Ar nr cr L w2 HRW.out HR.out).mono ?_; rintro e w3 ⟨vi, rfl, hoi, hb3⟩
  obtain ⟨Ai, ni, ci, rfl, HNI, hni⟩ := hoi.nums9 (Rg.inf_wf HR.out.nums)
  have hni9 : ni ≤ 100 := by
    have := Rg.inf_len L []
    rw [HNI.out]
    have h2 := HR.out.few
    unfold Rg.inf
    simp only [List.length_nil] at this
    omega
  have HRW3 := Lib.hid (HRW.out.keep hb3 hb3.size)
  have HB3 := Lib.hid (HB2.out.trans (hb3.mono HB2.out.size))
  have HI := Lib.hid hni
  have HLR := Lib.hid HRW.out.len
  clear hoi hb3 hni
  go_wp2_with fail
  go_loop [10, 33] (fun b i => ∃ k : Nat, k ≤ ni ∧ i = .int .i64 k ∧ b = .bool (Rg.is (Rg.inf L) N k)) (fun _ i => ni - (intOf i).toNat)
  case atStart => exact ⟨0, by omega, rfl, by simp [Rg.is]⟩
  case round =>
    obtain ⟨k, hk, rfl, rfl⟩ := hrel
    by_cases hlk2 : k < ni
    · obtain ⟨ad, x, rfl, _, HX2, hx, _⟩ := HI.out.val hlk2
      have HS := Lib.hid (show Rg.is (Rg.inf L) N (k + 1) = (Rg.is (Rg.inf L) N k || (x == N)) by rw [Rg.is_succ HX2.out.2, HX2.out.1])
      generalize Rg.is (Rg.inf L) N k = b at HS
      rcases b with _ | _
      · go_wp2_with fail
        go_round
        case rel => exact ⟨k + 1, by omega, by go_num, by rw [HS.out]; simp⟩
        case measure => simp [intOf]; omega
      · go_wp2_with fail
        go_round
        case rel => exact ⟨k + 1, by omega, by go_num, by rw [HS.out]; simp⟩
        case measure => simp [intOf]; omega
    · obtain rfl : ni = k := by omega
      rw [show Rg.is (Rg.inf L) N ni = decide (N ∈ Rg.inf L) by rw [HNI.out]; exact Rg.is_mem _ _]
      go_wp2_with fail
      refine (find38 Ar nr cr L K w3 HRW3.out HR.out).mono ?_; rintro e w4 ⟨r, rfl, hrr, hb4⟩
      have HT := Lib.hid (HR.out.taken HKK.out.1 hrr)
      have HRW4 := Lib.hid (HRW3.out.keep hb4 hb4.size)
      have HB4 := Lib.hid (HB3.out.trans (hb4.mono HB3.out.size))
      have hn60 : nr < 60 := by omega
      clear hrr hb4
      obtain ⟨ta, hta⟩ : ∃ ta, Rg.any L K = ta := ⟨_, rfl⟩
      obtain ⟨ii, hii⟩ : ∃ ii, decide (N ∈ Rg.inf L) = ii := ⟨_, rfl⟩
      have HA := Lib.hid (show Rg.about L (Rg.next L 1 0 K ⟨#[116]⟩) = if ta = true then 11 else 0 by rw [Rg.rel_about L HKK.out.1 HKK.out.2, hta])
      have HBB := Lib.hid (show Rg.about L (Rg.next L 2 N 0 ⟨#[]⟩) = if ii = true then 0 else 56 by rw [Rg.wd_about, ← hii]; simp)
      have HC := Lib.hid (show Rg.about L (Rg.next L 3 N K ⟨#[116]⟩) = if ii = true then (if ta = true then 11 else 0) else 56 by rw [Rg.sup_about L N HKK.out.1 HKK.out.2, ← hii, hta]; simp)
      rw [hta] at HT
      rw [hii]
      have gt := HT.out
      clear hta hii
      obtain ⟨ca, hca⟩ : ∃ ca : Int, (if ta = true then 11 else 0) = ca := ⟨_, rfl⟩
      obtain ⟨cb, hcb⟩ : ∃ cb : Int, (if ii = true then 0 else 56) = cb := ⟨_, rfl⟩
      obtain ⟨cc, hcc⟩ : ∃ cc : Int, (if ii = true then (if ta = true then 11 else 0) else 56) = cc := ⟨_, rfl⟩
      rw [hca] at HA
      rw [hcb] at HBB
      rw [hcc] at HC
      have HCC := Lib.hid (And.intro hca (And.intro hcb hcc))
      clear hca hcb hcc
      go_wp2_with fail
      refine (add38 Ar nr cr L 1 0 K ⟨#[116]⟩ w4 HRW4.out HR.out hn60 (by decide)).mono ?_; rintro e w5 ⟨v5, rfl, _, hb5⟩
      rw [HA.out]
      have HRW5 := Lib.hid (HRW4.out.keep hb5 hb5.size)
      have HB5 := Lib.hid (HB4.out.trans (hb5.mono HB4.out.size))
      clear hb5
      go_wp2_with fail
      refine (add38 Ar nr cr L 2 N 0 ⟨#[]⟩ w5 HRW5.out HR.out hn60 (by decide)).mono ?_; rintro e w6 ⟨v6, rfl, _, hb6⟩
      rw [HBB.out]
      have HRW6 := Lib.hid (HRW5.out.keep hb6 hb6.size)
      have HB6 := Lib.hid (HB5.out.trans (hb6.mono HB5.out.size))
      clear hb6
      go_wp2_with fail
      refine (add38 Ar nr cr L 3 N K ⟨#[116]⟩ w6 HRW6.out HR.out hn60 (by decide)).mono ?_; rintro e w7 ⟨v7, rfl, _, hb7⟩
      rw [HC.out]
      have HB7 := Lib.hid (HB6.out.trans (hb7.mono HB6.out.size))
      clear hb7 HA HBB HC HT
      obtain ⟨rfl, rfl, rfl⟩ := HCC.out
      clear HCC
      rcases ta with _ | _
      all_goals rcases ii with _ | _
      all_goals simp only [if_true, if_false, Bool.false_eq_true]
      all_goals go_wp2_with fail
      all_goals
        refine (awake38 w7).mono ?_
        rintro e w8 ⟨rfl, hb8⟩
        have HB8 := Lib.hid (HB7.out.trans (hb8.mono HB7.out.size))
        go_wp2_with fail
        go_ret
        exact ⟨rfl, HB8.out⟩
end Go.Proofs.Ytojeendofpallaa
