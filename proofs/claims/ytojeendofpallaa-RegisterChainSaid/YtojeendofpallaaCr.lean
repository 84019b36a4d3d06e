/- Cells: Finer, of valid views. -/
import Derived.Test.YtojeendofpallaaCw
import Derived.Test.YtojeendofpallaaBo
import Derived.Test.YtojeendofpallaaCy
namespace Go.Proofs.Ytojeendofpallaa
open Go.RowKit Go.Maps
theorem keyedInt : Keyed Try.prog 3 := int_keyed Try.underlying3
theorem zeroInt (w : World) : (zeroValue 3).run Try.prog w = .ok (.int .i64 0) w := by kernel_rfl
theorem grownBy_of_map {w w1 w' : World} {b : Nat} (h : Below w.heap.size w w1) (hg : w1.grownBy w' (some b)) (hb : w.heap.size ≤ b) : Below w.heap.size w w' := h.grown hg h.size (fun r e => by injection e with e; omega)
def GivesFiner (n : Nat) (xs ys : List (List Int)) (w : World) (e : Ending) (w' : World) : Prop := ∃ r : Bool, e = .returned (.bool r) ∧ (r = true ↔ ∀ i, i < n → Ce.Fine (xs.getD i []) (ys.getD i [])) ∧ Below w.heap.size w w'
set_option maxHeartbeats 1600000 in
set_option maxRecDepth 100000 in
theorem finer28 (v v1 v2 : Value) (ss : List Int) (xs ys : List (List Int)) (w : World) (h : Sp w v ss) (h1 : Vw w v1 ss xs) (h2 : Vw w v2 ss ys) :
    Calls Try.prog 30 #[v, v1, v2] w (GivesFiner ss.length xs ys w) := by
  obtain ⟨⟨A, n, c, rfl, hn⟩, hs⟩ := h
  obtain ⟨⟨A1, n1, c1, rfl, hn1⟩, hv1⟩ := h1
  obtain ⟨⟨A2, n2, c2, rfl, hn2⟩, hv2⟩ := h2
  obtain ⟨W, hW, hb, k0, k1, k2⟩ : ∃ W : World, ((w.alloc (.cells #[.slice A n c] 24)).alloc (.cells #[.slice A1 n1 c1] 27)).alloc (.cells #[.slice A2 n2 c2] 27) = W ∧ Below w.heap.size w W ∧ W.cell? ⟨w.heap.size, 0, none⟩ = some (.slice A n c) ∧ W.cell? ⟨w.heap.size + 1, 0, none⟩ = some (.slice A1 n1 c1) ∧ W.cell? ⟨w.heap.size + 1 + 1, 0, none⟩ = some (.slice A2 n2 c2) :=
    ⟨_, rfl, (((Below.refl _ _).alloc (Nat.le_refl _) _).alloc (by simp) _).alloc (by simp; omega) _, by simp [go_sem], by simp [go_sem], by simp [go_sem]⟩
  have e1 : n = n1 := by symm; rw [← hn1.len, ← hn.len]; exact hv1.len
  have e2 : n = n2 := by symm; rw [← hn2.len, ← hn.len]; exact hv2.len
  subst e1
  subst e2
  have HSP := Lib.hid (show Sp W (.agg #[.slice A n c]) ss from ⟨⟨A, n, c, rfl, hn.keep hb hb.size⟩, hs⟩)
  have HV1 := Lib.hid (show Vw W (.agg #[.slice A1 n c1]) ss xs from ⟨⟨A1, n, c1, rfl, hn1.keep hb hb.size⟩, hv1⟩)
  have HV2 := Lib.hid (show Vw W (.agg #[.slice A2 n c2]) ss ys from ⟨⟨A2, n, c2, rfl, hn2.keep hb hb.size⟩, hv2⟩)
  have HN1 := Lib.hid (hn1.keep hb hb.size)
  have HN2 := Lib.hid (hn2.keep hb hb.size)
  have HL := Lib.hid hn.len
  have hm4 : n ≤ 4 := by rw [← hn.len]; exact hs.few
  have HB := Lib.hid hb
  clear hn hn1 hn2 hb
  have hmm := @run_makeMap Try.prog
  go_enter Try.func30, Try.ntmps30
  go_wp2_with fail
  clear hW
  refine (view28 _ _ ss xs W HSP.out HV1.out).mono ?_; rintro e w1 ⟨rfl, hb1⟩
  have HB1 := Lib.hid hb1
  have k0 := below_cell hb1 k0
  have k1 := below_cell hb1 k1
  have k2 := below_cell hb1 k2
  clear hb1
  go_wp2_with fail
  refine (view28 _ _ ss ys w1 (HSP.out.keep HB1.out) (HV2.out.keep HB1.out)).mono ?_; rintro e w2 ⟨rfl, hb2⟩
  have HB2 := Lib.hid (HB1.out.trans (hb2.mono HB1.out.size))
  have k0 := below_cell hb2 k0
  have k1 := below_cell hb2 k1
  have k2 := below_cell hb2 k2
  have HN12 := Lib.hid (HN1.out.keep HB2.out HB2.out.size)
  have HN22 := Lib.hid (HN2.out.keep HB2.out HB2.out.size)
  have HBB := Lib.hid (HB.out.trans (HB2.out.mono HB.out.size))
  clear hb2
  go_wp2_with fail
  have HK := Lib.hid (And.intro k1 k2)
  clear k0 k1 k2
  go_loopw [28] (fun i wr => ∃ k : Nat, k ≤ n ∧ i = .int .i64 k ∧ Hid (Below w2.heap.size w2 wr ∧ ∀ d, d < k → Ce.Fine (xs.getD d []) (ys.getD d []))) (fun i _ => n - (intOf i).toNat)
  case atStart => exact ⟨0, by omega, rfl, Below.refl _ _, fun d hd => absurd hd (by omega)⟩
  case round =>
    rename World => X
    obtain ⟨k, hk, rfl, HI⟩ := hrel
    by_cases hlt : k < n
    · have hks : k < ss.length := by rw [HL.out]; exact hlt
      obtain ⟨ad, Aj, nj, cj, rfl, _, hc, hr⟩ := (HN12.out.keep HI.out.1 HI.out.1.size).row hlt
      obtain ⟨ad2, Bj, mj, dj, rfl, _, hc2, hr2⟩ := (HN22.out.keep HI.out.1 HI.out.1.size).row hlt
      have k2 := below_cell HI.out.1 HK.out.2
      have hlen : mj = nj := by
        have a := hv1.lens k hks
        have b := hv2.lens k hks
        rw [hr.len] at a
        rw [hr2.len] at b
        omega
      subst hlen
      have hb8 : mj ≤ 8 := by
        have a := hv1.lens k hks
        have b := hs.hi k hks
        rw [hr.len] at a
        omega
      have HR := Lib.hid hr
      have HR2 := Lib.hid hr2
      have HMADE := Lib.hid (World.ownsMap_made (H := Unit) X Try.prog 3 (plainElem Try.prog 3))
      clear hr hr2
      obtain ⟨w3, hrun, hown, hgrow⟩ := HMADE.out.update keyedInt Try.underlying83 (by simp [maxLen]) (keyOf_int_mk (a := -1) Try.underlying3 (by decide)) (plainElem_int (H := Unit) (q := .i64) (a := -1) Try.underlying3 (by decide))
      have HOW := Lib.hid hown
      have HGR := Lib.hid (grownBy_of_map (w := X) ((Below.refl _ _).alloc (Nat.le_refl _) _) hgrow (Nat.le_refl _))
      clear hown hgrow
      go_wp2_with fail
      obtain ⟨x, hxx⟩ : ∃ x, xs.getD k [] = x := ⟨_, rfl⟩
      obtain ⟨y, hyy⟩ : ∃ y, ys.getD k [] = y := ⟨_, rfl⟩
      rw [hxx] at HR
      rw [hyy] at HR2
      have HXX := Lib.hid hxx
      have HYY := Lib.hid hyy
      clear hxx hyy hrun
      go_loopw [37] (fun i wr => ∃ j : Nat, j ≤ mj ∧ i = .int .i64 j ∧ Hid ((∃ D : DataW Unit, wr.ownsMap Try.prog 3 (plainElem Try.prog 3) X.heap.size (j + 1) D ∧ Ce.Rep D (Ce.mapN x y j)) ∧ Below X.heap.size X wr ∧ ∀ d, d < j → Ce.Pass x y d)) (fun i _ => mj - (intOf i).toNat)
      case atStart => exact ⟨0, by omega, rfl, ⟨_, HOW.out, Ce.Rep.empty.put (-1) (-1)⟩, HGR.out, fun d hd => absurd hd (by omega)⟩
      case round =>
        rename World => Y
        obtain ⟨j, hj, rfl, HJ⟩ := hrel
        by_cases hlj : j < mj
        · obtain ⟨ad3, p, rfl, _, HP, hp, hwp⟩ := (HR.out.keep HJ.out.2.1 HJ.out.2.1.size).val hlj
          obtain ⟨ad4, q, rfl, _, HQ, hq, hwq⟩ := (HR2.out.keep HJ.out.2.1 HJ.out.2.1.size).val hlj
          obtain ⟨D, hD⟩ := HJ.out.1
          have HOD := Lib.hid hD
          have HWX := Lib.hid hwp
          have HWY := Lib.hid hwq
          have hbY := HI.out.1.trans (HJ.out.2.1.mono HI.out.1.size)
          have k2 := below_cell hbY HK.out.2
          have hc2' := below_cell HJ.out.2.1 hc2
          have HPUT := Lib.hid (show Ce.Rep (D.put (.int .i64 p) (.lit (.int .i64 q))) (Ce.mapN x y (j + 1)) by
            have := hD.2.put p q
            rw [← HP.out.1, ← HQ.out.1] at this
            rw [← HP.out.1, ← HQ.out.1]
            exact this)
          have hhas := hD.2.has p
          cases hm : Ce.mapN x y j p with
          | none =>
            rw [hm] at hhas
            have hhas : Maps.has D (.int .i64 p) = false := hhas
            have HPASS := Lib.hid (show Ce.Pass x y j from fun b hb => by rw [HP.out.1, hm] at hb; cases hb)
            clear hD hwp hwq hbY hm hc hc2
            go_wp2_with (first
              | (at_lookup; refine wpList_lookup_own_ok_int _ rfl _ _ 83 rfl 3 3 .i64 keyedInt Try.underlying83 Try.underlying3 (zeroInt _) X.heap.size (j + 1) D rfl HOD.out.1 _ _ rfl (keyOf_int_mk Try.underlying3 HWX.out) ?_; intro cc hat hwc; skip)
              | (at_mapUpdate; refine wpList_mapUpdate_own _ rfl _ _ _ 83 rfl 3 3 keyedInt Try.underlying83 _ X.heap.size (j + 1) D rfl HOD.out.1 (by simp only [maxLen]; omega) _ _ _ rfl rfl (keyOf_int_mk Try.underlying3 HWX.out) _ [] (plainElem_int Try.underlying3 HWY.out) ?_; intro w5 hown5 hgrow5)
              | fail)
            go_roundw
            case rel =>
              exact ⟨j + 1, by omega, by go_num, ⟨_, hown5, HPUT.out⟩, HJ.out.2.1.grown hgrow5 HJ.out.2.1.size (fun r e => by injection e with e; omega), fun d hd => by
                rcases Nat.lt_or_ge d j with h | h
                · exact HJ.out.2.2 d h
                · obtain rfl : d = j := by omega
                  exact HPASS.out⟩
            case measure => simp [intOf]; omega
          | some b =>
            rw [hm] at hhas
            have hhas : Maps.has D (.int .i64 p) = true := hhas
            have HAT := Lib.hid (fun (c : Int) (hc : D.atKey (.int .i64 p) (.lit (.int .i64 0)) = .lit (.int .i64 c)) => (show c = b from by rw [hD.2.at_ p b hm] at hc; injection hc with hc; injection hc with _ hc; exact hc.symm))
            by_cases hbq : b = q
            · have HPASS := Lib.hid (show Ce.Pass x y j from fun b' hb => by rw [HP.out.1, hm] at hb; injection hb with hb; rw [← hb, HQ.out.1]; exact hbq)
              subst hbq
              clear hD hwp hwq hbY hm hc hc2
              go_wp2_with (first
                | (at_lookup; refine wpList_lookup_own_ok_int _ rfl _ _ 83 rfl 3 3 .i64 keyedInt Try.underlying83 Try.underlying3 (zeroInt _) X.heap.size (j + 1) D rfl HOD.out.1 _ _ rfl (keyOf_int_mk Try.underlying3 HWX.out) ?_; intro cc hat hwc; obtain rfl := HAT.out cc hat)
                | (at_mapUpdate; refine wpList_mapUpdate_own _ rfl _ _ _ 83 rfl 3 3 keyedInt Try.underlying83 _ X.heap.size (j + 1) D rfl HOD.out.1 (by simp only [maxLen]; omega) _ _ _ rfl rfl (keyOf_int_mk Try.underlying3 HWX.out) _ [] (plainElem_int Try.underlying3 HWY.out) ?_; intro w5 hown5 hgrow5)
                | fail)
              go_roundw
              case rel =>
                exact ⟨j + 1, by omega, by go_num, ⟨_, hown5, HPUT.out⟩, HJ.out.2.1.grown hgrow5 HJ.out.2.1.size (fun r e => by injection e with e; omega), fun d hd => by
                  rcases Nat.lt_or_ge d j with h | h
                  · exact HJ.out.2.2 d h
                  · obtain rfl : d = j := by omega
                    exact HPASS.out⟩
              case measure => simp [intOf]; omega
            · have HNP := Lib.hid (show ¬ Ce.Pass x y j from fun hpp => hbq (by have := hpp b (by rw [HP.out.1]; exact hm); rw [this, HQ.out.1]))
              have hne : (b != q) = true := by simpa using hbq
              clear hD hwp hwq hbY hm hc hc2 hbq
              go_wp2_with (first
                | (at_lookup; refine wpList_lookup_own_ok_int _ rfl _ _ 83 rfl 3 3 .i64 keyedInt Try.underlying83 Try.underlying3 (zeroInt _) X.heap.size (j + 1) D rfl HOD.out.1 _ _ rfl (keyOf_int_mk Try.underlying3 HWX.out) ?_; intro cc hat hwc; obtain rfl := HAT.out cc hat)
                | fail)
              go_ret
              refine ⟨false, rfl, ⟨fun h => Bool.noConfusion h, fun h => ?_⟩, HBB.out.trans ((HI.out.1.trans (HJ.out.2.1.mono HI.out.1.size)).mono HBB.out.size)⟩
              have hf := h k hks
              rw [HXX.out, HYY.out] at hf
              exact absurd (hf.pass (by have := HR.out.len; omega)) HNP.out
        · obtain rfl : j = mj := by omega
          have HF := Lib.hid (Ce.fine_of_pass (x := x) (y := y) (fun i hi => HJ.out.2.2 i (by have := HR.out.len; omega)))
          go_wp2_with fail
          go_roundw
          case rel => exact ⟨k + 1, by omega, by go_num, HI.out.1.trans (HJ.out.2.1.mono HI.out.1.size), fun d hd => by
            rcases Nat.lt_or_ge d k with h | h
            · exact HI.out.2 d h
            · obtain rfl : d = k := by omega
              rw [HXX.out, HYY.out]; exact HF.out⟩
          case measure => simp [intOf]; omega
    · obtain rfl : k = n := by omega
      go_wp2_with fail
      go_ret
      refine ⟨true, rfl, ⟨fun _ i hi => HI.out.2 i (by rw [← HL.out]; exact hi), fun _ => rfl⟩, HBB.out.trans (HI.out.1.mono HBB.out.size)⟩
end Go.Proofs.Ytojeendofpallaa
