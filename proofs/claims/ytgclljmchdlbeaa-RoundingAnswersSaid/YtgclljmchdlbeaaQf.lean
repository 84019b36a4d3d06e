/- Rounding, the reference: Round of a right table. -/
import Derived.Test.YtgclljmchdlbeaaQe
import Derived.Test.YtgclljmchdlbeaaBits
namespace Go.Proofs.Ytgclljmchdlbeaa
open Go.RowKit
theorem Rd.findSome_range {f : Nat → Option (List Int)} {T B : Nat} {q : List Int} (hB : B < T) (h0 : ∀ i, i < B → f i = none) (h1 : f B = some q) : (List.range T).findSome? f = some q := by
  obtain ⟨d, rfl⟩ : ∃ d, T = B + (d + 1) := ⟨T - B - 1, by omega⟩
  rw [List.range_add, List.findSome?_append]
  have e0 : (List.range B).findSome? f = none := List.findSome?_eq_none_iff.2 (fun i hi => h0 i (List.mem_range.1 hi))
  rw [e0, List.range_succ_eq_map, List.map_cons, List.findSome?_cons, Nat.add_zero, h1]
  rfl
theorem Rd.drop_map (t : List Int) (b : Int) {i : Nat} {x : Int} (h : t.getD i 0 = x ∧ i < t.length) : (t.map (Rd.mult · b)).drop i = Rd.mult x b :: (t.map (Rd.mult · b)).drop (i + 1) := by
  rw [List.drop_eq_getElem_cons (by rw [List.length_map]; exact h.2)]
  congr 1
  rw [List.getElem_map]
  have h9 := h.1
  rw [List.getD_eq_getElem?_getD, List.getElem?_eq_getElem h.2] at h9
  have h8 : t[i]'h.2 = x := h9
  rw [h8]
theorem Rd.getD_snoc (q : List Int) (y : Int) (j : Nat) : (q ++ [y]).getD j 0 = if j < q.length then q.getD j 0 else if j = q.length then y else 0 := by
  simp only [List.getD_eq_getElem?_getD, List.getElem?_append]
  by_cases h : j < q.length
  · simp [h]
  · by_cases h2 : j = q.length
    · subst h2; simp
    · simp [h, h2]
      rw [List.getElem?_eq_none (by simp; omega)]; rfl
set_option maxRecDepth 100000 in
set_option maxHeartbeats 3200000 in
theorem rroundV (m n : Nat) (hm : 1 ≤ m) (hn : 1 ≤ n) (hmn : m * n ≤ 9) (t : List Int) (b : Int) (hb0 : 1 ≤ b) (hb1 : b ≤ 20) (hsm : ∀ x ∈ t, 0 ≤ x ∧ x ≤ 1000000) (A : Option Addr) (k c : Nat) (HK : Hid (k = m * n)) (HE0 : Hid (Rd.err (m : Int) (n : Int) t b = 0)) (w : World) (h : Nums w .i64 w.heap.size A k c t) :
    Calls Try.prog 15 #[.int .i64 m, .int .i64 n, .slice A k c, .int .i64 b] w fun e w' => ∃ v, e = .returned (.tuple #[v, .int .i64 0]) ∧ Own w' w.heap.size 3 .i64 v (Rd.best n t b) ∧ Below w.heap.size w w' := by
  have hk9 : k ≤ 9 := by rw [HK.out]; exact hmn
  have hn12 : n ≤ 12 := by have : n ≤ 9 := Nat.le_trans (by simpa using Nat.mul_le_mul_right n hm) hmn; omega
  have hm12 : m ≤ 12 := by have : m ≤ 9 := Nat.le_trans (by simpa using Nat.mul_le_mul_left m hn) hmn; omega
  have H := Lib.hid h
  have HSM := Lib.hid hsm
  have HL := Lib.hid h.len
  have HMN := Lib.hid hmn
  clear h hsm hmn
  go_enter Try.func15, Try.ntmps15
  go_wp2_with fail
  refine (rcheck34 m n (by omega) (by omega) A k c t b _ w H.out).mono ?_; rintro e w1 ⟨rfl, rfl⟩
  rw [HE0.out]
  go_wp2_with fail
  refine (rvalues34 A k c t (by omega) HSM.out b hb0 hb1 w H.out).mono ?_; rintro e w2 ⟨v, rfl, hv, hb2⟩
  obtain ⟨A7, c7, rfl, h0, hcells⟩ := hv.read
  rw [List.length_map, HL.out] at hcells ⊢
  have HC := Lib.hid hcells
  have HB2 := Lib.hid hb2
  have H2 := Lib.hid (H.out.keep hb2 hb2.size)
  clear hb2 hv hcells h0
  go_wp2_with fail
  obtain ⟨T, hT⟩ : ∃ T : Nat, 2 ^ k = T := ⟨_, rfl⟩
  have hTi : (2 : Int) ^ k = (T : Int) := by rw [← hT]; simp
  have hT9 : T ≤ 512 := by rw [← hT]; exact Nat.pow_le_pow_right (n := 2) (by decide) hk9
  have HTT := Lib.hid hT
  have HFB := Lib.hid (show (List.range T).findSome? (Rd.sel (fun p => Rd.fits n k t p b) [] (t.map (Rd.mult · b))) = some (Rd.best n t b) by
    have h9 := Rd.find_best (t := t) (b := b) hm hn HMN.out (by rw [HL.out, HK.out]) hb0
    rw [Rd.find_bits, HL.out, hT] at h9
    exact h9)
  have w9 : IntKind.i64.wrap (T : Int) = (T : Int) := by simp [IntKind.wrap, IntKind.bits, IntKind.signed]; omega
  clear hT
  go_loopw [14] (fun Bv wr => ∃ B : Nat, B ≤ T ∧ Bv = .int .i64 B ∧ Hid ((∀ i, i < B → Rd.sel (fun p => Rd.fits n k t p b) [] (t.map (Rd.mult · b)) i = none) ∧ Below w2.heap.size w2 wr)) (fun Bv _ => T - (intOf Bv).toNat)
  case atStart => exact ⟨0, by omega, rfl, fun i hi => absurd hi (by omega), Below.refl _ _⟩
  case round =>
    rename World => X
    obtain ⟨B, hB, rfl, HI⟩ := hrel
    by_cases hlt : B < T
    · go_wp2_with fail
      go_loopw [15, 16, 43] (fun rv fv iv wr => ∃ (i : Nat) (q : List Int), i ≤ k ∧ iv = .int .i64 i ∧ fv = .bool true ∧ Hid (Own wr w2.heap.size 3 .i64 rv q ∧ q.length = i ∧ (∀ j, j < i → q.getD j 0 ∈ Rd.mult (t.getD j 0) b) ∧ Rd.pick [] (t.map (Rd.mult · b)) B = Rd.pick q ((t.map (Rd.mult · b)).drop i) B ∧ Below w2.heap.size w2 wr)) (fun _ _ iv _ => k - (intOf iv).toNat)
      case atStart => exact ⟨0, [], by omega, rfl, rfl, Own.nil _ _ _ _, rfl, fun j hj => absurd hj (by omega), by simp, HI.out.2⟩
      case round =>
        rename World => Y
        obtain ⟨i, q, hi, rfl, rfl, HJ⟩ := hrel
        by_cases hlt2 : i < k
        · obtain ⟨ad, x, hAd, _, HX, hx, _⟩ := (H2.out.keep HJ.out.2.2.2.2 HJ.out.2.2.2.2.size).val hlt2
          obtain ⟨g7, vj, hA7, hg7, hcj, hoj⟩ := HC.out i hlt2
          subst hA7
          have hmap : (t.map (Rd.mult · b)).getD i [] = Rd.mult x b := by
            have h9 := HX.out.1
            rw [List.getD_eq_getElem?_getD, List.getElem?_eq_getElem HX.out.2] at h9
            rw [List.getD_eq_getElem?_getD, List.getElem?_map, List.getElem?_eq_getElem HX.out.2]
            have h8 : t[i]'HX.out.2 = x := h9
            simp [h8]
          rw [hmap] at hoj
          obtain ⟨q7, n7, k7, rfl, _, hq7⟩ := hoj.cellsNe (Rd.mult_ne _ _)
          have hn7 : n7 = (Rd.mult x b).length := hoj.head.1
          have hcjY : Y.cell? ⟨g7, i, none⟩ = some (.slice (some ⟨q7, 0, none⟩) n7 k7) := (HJ.out.2.2.2.2.cell (by simpa using hg7)).trans hcj
          have hn72 : 1 ≤ n7 ∧ n7 ≤ 2 := by rw [hn7]; unfold Rd.mult; split <;> simp
          obtain ⟨s, hs⟩ : ∃ s, k - 1 - i = s := ⟨_, rfl⟩
          have t1 : (k : Int) - 1 - (i : Int) = (s : Int) := by omega
          obtain ⟨S, hS⟩ : ∃ S : Nat, 2 ^ s = S := ⟨_, rfl⟩
          have hSi : (2 : Int) ^ s = (S : Int) := by rw [← hS]; simp
          have hS0 : 0 < S := by rw [← hS]; exact Nat.two_pow_pos s
          obtain ⟨d, hd⟩ : ∃ d, B / S = d := ⟨_, rfl⟩
          have t2 : (B : Int) / (S : Int) = (d : Int) := by rw [← hd]; simp
          have hdB : d ≤ B := by rw [← hd]; exact Nat.div_le_self _ _
          obtain ⟨g, hg⟩ : ∃ g, d % 2 = g := ⟨_, rfl⟩
          have hg2 : g < 2 := by rw [← hg]; exact Nat.mod_lt _ (by decide)
          have t3 : bits .and .i64 (d : Int) 1 = (g : Int) := by
            have := Bw.i64_and_nat d 1 (by omega) (by omega)
            rw [Nat.and_one_is_mod, hg] at this
            exact this
          have HPK := Lib.hid (show Rd.pick q ((t.map (Rd.mult · b)).drop i) B = ((Rd.mult x b)[g]?).bind fun y => Rd.pick (q ++ [y]) ((t.map (Rd.mult · b)).drop (i + 1)) B by
            rw [Rd.drop_map t b HX.out]
            have e1 : ((t.map (Rd.mult · b)).drop (i + 1)).length = s := by rw [List.length_drop, List.length_map, HL.out]; omega
            show (((Rd.mult x b)[B / 2 ^ ((t.map (Rd.mult · b)).drop (i + 1)).length % 2]?).bind _) = _
            rw [e1, hS, hd, hg])
          have i1 : (0 : Int) ≤ (i : Int) := by omega
          have i2 : (i : Int) < (k : Int) := by omega
          have HN7 := Lib.hid hn7
          have HOJ := Lib.hid hoj
          have HXD := Lib.hid hAd
          clear hAd hx hcj hmap hs hS hd hg hn7 hoj
          by_cases hgn : g < n7
          · have gg : decide ((n7 : Int) ≤ (g : Int)) = false := decide_eq_false (by omega)
            have hgl : g < (Rd.mult x b).length := by rw [← HN7.out]; exact hgn
            have ck := HOJ.out.cell (j := g) hgl
            have hy : (Rd.mult x b)[g]? = some ((Rd.mult x b).getD g 0) := by rw [List.getD_eq_getElem?_getD, List.getElem?_eq_getElem hgl]; rfl
            obtain ⟨y, hye⟩ : ∃ y, (Rd.mult x b).getD g 0 = y := ⟨_, rfl⟩
            have hym : y ∈ Rd.mult x b := by rw [← hye]; exact getD_mem ⟨rfl, hgl⟩
            rw [hye] at ck hy
            have hcy : Y.cell? ⟨q7, g, none⟩ = some (.int .i64 y) := (HJ.out.2.2.2.2.cell (by simpa using hq7)).trans ck
            have HPS := Lib.hid (show Rd.pick [] (t.map (Rd.mult · b)) B = Rd.pick (q ++ [y]) ((t.map (Rd.mult · b)).drop (i + 1)) B by rw [HJ.out.2.2.2.1, HPK.out, hy]; rfl)
            have HYM := Lib.hid (show y ∈ Rd.mult (t.getD i 0) b by rw [HX.out.1]; exact hym)
            have g1 : (0 : Int) ≤ (g : Int) := by omega
            have g2 : (g : Int) < (n7 : Int) := by omega
            have HLQ := Lib.hid (show q.length ≤ 9 by rw [HJ.out.2.1]; omega)
            clear ck hy hye hym hgl
            go_wp2_with (at_builtin; refine app_int _ rfl _ _ _ rfl w2.heap.size 3 8 .i64 int_info Try.underlying22 _ _ rfl (HJ.out.1.alloc _) y _ rfl (by simp [go_sem]) (by have := HLQ.out; simp only [maxLen]; omega) (by have := HLQ.out; omega) (by have := HJ.out.2.2.2.2.size; simp; omega) ?_; intro v' w4 hown4 hgrow4; (have HO4 := Lib.hid hown4); (have HG4 := Lib.hid hgrow4); clear hown4 hgrow4)
            go_roundw
            case rel =>
              refine ⟨i + 1, q ++ [y], by omega, by go_num, by first | rfl | trivial, HO4.out, by rw [List.length_append, HJ.out.2.1]; rfl, fun j hj => ?_, HPS.out, (HJ.out.1.alloc _).grow (HJ.out.2.2.2.2.alloc HJ.out.2.2.2.2.size _) HG4.out (by have := HJ.out.2.2.2.2.size; simp; omega) (Nat.le_refl _)⟩
              rw [Rd.getD_snoc]
              by_cases h1 : j < q.length
              · rw [if_pos h1]; exact HJ.out.2.2.1 j (by rw [← HJ.out.2.1]; exact h1)
              · have h2 : j = i := by have := HJ.out.2.1; omega
                subst h2
                rw [if_neg h1, if_pos HJ.out.2.1.symm]; exact HYM.out
            case measure => simp [intOf]; omega
          · have gg : decide ((n7 : Int) ≤ (g : Int)) = true := decide_eq_true (by omega)
            have HSE := Lib.hid (show Rd.sel (fun p => Rd.fits n k t p b) [] (t.map (Rd.mult · b)) B = none by
              unfold Rd.sel
              rw [HJ.out.2.2.2.1, HPK.out, List.getElem?_eq_none (by rw [← HN7.out]; omega)]; rfl)
            go_wp2_with fail
            go_roundw
            case rel =>
              refine ⟨B + 1, by omega, by go_num, fun i hi => ?_, HJ.out.2.2.2.2⟩
              rcases Nat.lt_or_ge i B with h1 | h1
              · exact HI.out.1 i h1
              · obtain rfl : i = B := by omega
                exact HSE.out
            case measure => simp [intOf]; omega
        · obtain rfl : k = i := by omega
          have hwfq : ∀ z ∈ q, (Lit.int .i64 z).wf = true := fun z hz => by
            obtain ⟨j, hj, rfl⟩ := mem_getD hz
            have hj2 : j < k := by rw [← HJ.out.2.1]; exact hj
            exact wf64s (Rd.mult_mem (HSM.out _ (getD_mem ⟨rfl, by rw [HL.out]; exact hj2⟩)) ⟨hb0, hb1⟩ (HJ.out.2.2.1 j hj2))
          obtain ⟨Aq, cq, rfl, hnq⟩ := HJ.out.1.nums hwfq
          have HPQ := Lib.hid (show Rd.pick [] (t.map (Rd.mult · b)) B = some q by
            rw [HJ.out.2.2.2.1, List.drop_eq_nil_of_le (by rw [List.length_map, HL.out]; exact Nat.le_refl _)]; rfl)
          have HQL := Lib.hid HJ.out.2.1
          rw [HJ.out.2.1] at hnq ⊢
          have HQN := Lib.hid hnq
          have HY2 := Lib.hid (H2.out.keep HJ.out.2.2.2.2 HJ.out.2.2.2.2.size)
          clear hwfq hnq
          go_wp2_with fail
          refine (rfits34 m n hm hn (by have := HMN.out; omega) A Aq k c cq HK t q b HJ.out.2.2.1 hb0 hb1 HSM.out Y HY2.out HQN.out).mono ?_; rintro e w5 ⟨rfl, hb5⟩
          have HB5 := Lib.hid (HJ.out.2.2.2.2.trans (hb5.mono HJ.out.2.2.2.2.size))
          rcases hft : Rd.fits n k t q b with _ | _
          · have HSE := Lib.hid (show Rd.sel (fun p => Rd.fits n k t p b) [] (t.map (Rd.mult · b)) B = none by
              unfold Rd.sel
              rw [HPQ.out]
              show (if Rd.fits n k t q b = true then some q else none) = none
              rw [hft]; rfl)
            clear hft hb5
            go_wp2_with fail
            go_roundw
            case rel =>
              refine ⟨B + 1, by omega, by go_num, fun i hi => ?_, HB5.out⟩
              rcases Nat.lt_or_ge i B with h1 | h1
              · exact HI.out.1 i h1
              · obtain rfl : i = B := by omega
                exact HSE.out
            case measure => simp [intOf]; omega
          · have HSE := Lib.hid (show Rd.sel (fun p => Rd.fits n k t p b) [] (t.map (Rd.mult · b)) B = some q by
              unfold Rd.sel
              rw [HPQ.out]
              show (if Rd.fits n k t q b = true then some q else none) = some q
              rw [hft]; rfl)
            have HOQ := Lib.hid (HJ.out.1.below hb5)
            have HBE := Lib.hid (show Rd.best n t b = q by
              have h9 := HFB.out
              rw [Rd.findSome_range hlt HI.out.1 HSE.out] at h9
              injection h9 with h9
              exact h9.symm)
            clear hft hb5
            go_wp2_with fail
            refine bodyPost_ret (v := .tuple #[.slice Aq k cq, .int .i64 0]) (by simp [results, Try.results15, go_sem]) rfl ?_
            refine ⟨_, rfl, ?_, HB2.out.trans (HB5.out.mono HB2.out.size)⟩
            rw [HBE.out]
            have h9 := HOQ.out
            rw [HQL.out] at h9
            exact h9.base_le HB2.out.size
    · exfalso
      obtain rfl : T = B := by omega
      have := HFB.out
      rw [List.findSome?_eq_none_iff.2 (fun i hi => HI.out.1 i (List.mem_range.1 hi))] at this
      cases this
end Go.Proofs.Ytgclljmchdlbeaa
