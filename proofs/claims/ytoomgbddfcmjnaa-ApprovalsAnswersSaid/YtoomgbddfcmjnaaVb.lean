/- Approvals: the reference's End. -/
import Derived.Test.YtoomgbddfcmjnaaVa
namespace Go.Proofs.Ytoomgbddfcmjnaa
open Go.RowKit
def Ap.cutS (p : ByteArray) (t : Int) (x : Ap) : Option Ap :=
  if Ap.has x p t = true then (if x.f < t then some (x.cutAt t) else none) else if x.f < x.u then some x else none
theorem cutS_self {p : ByteArray} {t : Int} : ∀ {L : List Ap}, (∀ x ∈ L, Ap.has x p t = false ∧ x.f < x.u) → L.filterMap (Ap.cutS p t) = L
  | [], _ => rfl
  | x :: L, h => by
    have h1 := h x (by simp)
    have e : Ap.cutS p t x = some x := by unfold Ap.cutS; rw [if_neg (by rw [h1.1]; decide), if_pos h1.2]
    rw [List.filterMap_cons, e]
    simp only
    rw [cutS_self fun y hy => h y (by simp [hy])]
theorem Ap.cut_all {L : List Ap} (h : Ap.Ok L) {p : ByteArray} {t : Int} (ha : (Ap.act L p t).isSome = true) : Ap.fin L p t = (L.filterMap (Ap.cutS p t), 0) := by
  obtain ⟨a, ha⟩ := Option.isSome_iff_exists.1 ha
  rw [Ap.act_ok h] at ha
  rcases fstI_cases (fun x : Ap => x.has p t) L Ap0 with ⟨_, h2⟩ | ⟨j, h1, hj, h2, h3, _⟩
  · rw [h2] at ha; cases ha
  rw [h2] at ha
  injection ha with ha
  rw [ha] at h3
  have hidx := fstI_idx h1
  have hL : L = L.take j ++ a :: L.drop (j + 1) := by
    rw [← ha, getD_getElem hj, ← List.drop_eq_getElem_cons hj, List.take_append_drop]
  obtain ⟨hp, hf, hu⟩ := Ap.has_iff.1 h3
  have hfin : Ap.fin L p t = if a.f = t then (L.take j ++ L.drop (j + 1), 0) else (L.set j (a.cutAt t), 0) := by
    unfold Ap.fin
    rw [if_neg (by simpa using Ap.chk_ok.2 h), if_neg (by rw [h2]; simp), hidx, ha]
  have hset : L.set j (a.cutAt t) = L.take j ++ a.cutAt t :: L.drop (j + 1) := by
    rw [List.set_eq_take_append_cons_drop, if_pos hj]
  rw [hset] at hfin
  generalize L.take j = L1 at *
  generalize L.drop (j + 1) = L2 at *
  clear h1 h2 hidx hset
  subst hL
  have hother : ∀ y ∈ L1 ++ L2, Ap.has y p t = false ∧ y.f < y.u := fun y hy => by
    refine ⟨Ap.only h.pw h3 hy, ?_⟩
    have hm : y ∈ L1 ++ a :: L2 := by
      rcases List.mem_append.1 hy with h9 | h9
      · exact List.mem_append_left _ h9
      · exact List.mem_append_right _ (List.mem_cons_of_mem _ h9)
    exact (Ap.one_iff.1 (h.one y hm)).2.2.1
  have e1 := cutS_self (fun y hy => hother y (List.mem_append_left L2 hy))
  have e2 := cutS_self (fun y hy => hother y (List.mem_append_right L1 hy))
  rw [hfin, List.filterMap_append, List.filterMap_cons, e1, e2]
  by_cases hft : a.f = t
  · have e : Ap.cutS p t a = none := by unfold Ap.cutS; rw [if_pos h3, if_neg (by omega)]
    rw [if_pos hft, e]
  · have e : Ap.cutS p t a = some (a.cutAt t) := by unfold Ap.cutS; rw [if_pos h3, if_pos (by omega)]
    rw [if_neg hft, e]
theorem ApB.set3 {w : World} {g : Nat} {p r : ByteArray} {f u : Int} (h : ApB w g p r f u) (u' : Int) : ∃ X : World, w.setCell ⟨g, 3, none⟩ (.int .i64 u') = X ∧ Hid (ApB X g p r f u' ∧ ∀ B w0, Below B w0 w → B ≤ g → Below B w0 X) := by
  obtain ⟨cs, hs, hh⟩ := h.blk
  exact ⟨_, rfl, ⟨by simpa using h.lt, cell_farA h.c0 (by decide), cell_farA h.c1 (by decide), cell_farA h.c2 (by decide), cell_hereA h.c3, _, by simp [hs], heap_hereA hh _⟩, fun B w0 hb hB => hb.setCell hB _⟩
theorem fmt_take {L : List Ap} {q : Ap → Option Ap} {j : Nat} {x : Ap} (h : L.getD j Ap0 = x ∧ j < L.length) : (L.take (j + 1)).filterMap q = (L.take j).filterMap q ++ (match q x with | some y => [y] | none => []) := by
  have h9 := h.1
  rw [getD_getElem h.2] at h9
  rw [List.take_succ_eq_append_getElem h.2, h9, List.filterMap_append, List.filterMap_cons]
  cases q x <;> rfl
set_option maxHeartbeats 1600000 in
set_option maxRecDepth 100000 in
theorem rend39 (A : Option Addr) (n c : Nat) (L : List Ap) (p : ByteArray) (t : Int) (w : World) (h : RRow apRec w w.heap.size A n c L) (hn : n ≤ 900) :
    Calls Try.prog 52 #[.slice A n c, .string p, .int .i64 t] w (GivesApO (Ap.fin L p t) w) := by
  have hm : n ≤ 9223372036854775807 := by have := h.cap; have := h.max; unfold maxLen at this; omega
  have H := Lib.hid (h.keep (below_one (.cells #[] 74)) (below_one (.cells #[] 74)).size)
  have HL := Lib.hid h.len
  have HE := Lib.hid (emptyAp w)
  have HA1 := Lib.hid (fun (h : Ap.chk L ≠ 0) => show Ap.fin L p t = (L, Ap.chk L) by unfold Ap.fin; rw [if_pos h])
  have HA2 := Lib.hid (fun (h : Ap.chk L = 0) (h2 : Ap.act L p t = none) => show Ap.fin L p t = (L, 54) by
    unfold Ap.fin
    rw [if_neg (by simpa using h), if_pos (by rw [← Ap.act_ok (Ap.chk_ok.1 h)]; exact h2)])
  have HOK := Lib.hid (fun (h : Ap.chk L = 0) => Ap.chk_ok.1 h)
  have HLN := Lib.hid (show ([] : List Ap).length + n ≤ 1000 by simp; omega)
  have H0 := Lib.hid h
  clear h
  go_enter Try.func52, Try.ntmps52
  go_wp2_with (at_builtin; refine app_recs _ apRec rfl (.tmp 15) (.tmp 16) _ rfl w.heap.size (.agg #[.string ⟨#[]⟩, .string ⟨#[]⟩, .int .i64 0, .int .i64 0]) 48 ap_info rfl (by decide) Try.underlying72 (.slice (some ⟨w.heap.size, 0, none⟩) 0 0) [] rfl HE.out _ A n c L rfl H.out HLN.out (by simp) ?_; intro v1 w1 hown1 hgrow1)
  have hbe : Below w.heap.size w w1 := (emptyAp w).grow (below_one _) hgrow1 (by simp) (Nat.le_refl _)
  have HB1 := Lib.hid hbe
  have H1 := Lib.hid (H0.out.keep hbe hbe.size)
  have HO1 := Lib.hid (show ROwn apRec w1 w.heap.size v1 L by simpa using hown1)
  clear hbe hown1 hgrow1 HE H HLN H0
  refine (rcheck39 A n c L w1 H1.out).mono ?_; rintro e w2 ⟨rfl, hb⟩
  have HB2 := Lib.hid (HB1.out.trans (hb.mono HB1.out.size))
  have H2 := Lib.hid (H1.out.keep hb hb.size)
  have HO2 := Lib.hid (HO1.out.below hb)
  clear hb HB1 H1 HO1
  obtain ⟨o, ho⟩ : ∃ o, Ap.chk L = o := ⟨_, rfl⟩
  rw [ho]
  rw [ho] at HA1 HA2 HOK
  clear ho
  by_cases h0 : o = 0
  rotate_left
  · have g1 : (o != 0) = true := by simpa using h0
    have HR := Lib.hid (HA1.out h0)
    clear HA1 HA2 h0
    go_wp2_with fail
    exact bodyPost_ret (v := .tuple #[v1, .int .i64 o]) (by simp [results, Try.results52, go_sem]) rfl (by rw [HR.out]; exact ⟨v1, rfl, HO2.out, HB2.out⟩)
  have g1 : (o != 0) = false := by simpa using h0
  replace HA2 := Lib.hid (HA2.out h0)
  have HOK2 := Lib.hid (HOK.out h0)
  clear HA1 HOK h0
  go_wp2_with fail
  refine (ractive39 A n c L p t w2 H2.out).mono ?_; rintro e w3 ⟨rfl, hb⟩
  have HB3 := Lib.hid (HB2.out.trans (hb.mono HB2.out.size))
  have H3 := Lib.hid (H2.out.keep hb hb.size)
  have HO3 := Lib.hid (HO2.out.below hb)
  clear hb HB2 H2 HO2 g1
  cases ha : Ap.act L p t with
  | none =>
    have HR := Lib.hid (HA2.out ha)
    clear ha HA2
    simp only [actV, apV]
    go_wp2_with fail
    have HO4 := Lib.hid (HO3.out.below (below_one (.cells #[.string Ap0.p, .string Ap0.r, .int .i64 Ap0.f, .int .i64 Ap0.u] 74)))
    have HB4 := Lib.hid (HB3.out.trans ((below_one (.cells #[.string Ap0.p, .string Ap0.r, .int .i64 Ap0.f, .int .i64 Ap0.u] 74)).mono HB3.out.size))
    exact bodyPost_ret (v := .tuple #[v1, .int .i64 54]) (by simp [results, Try.results52, go_sem]) rfl (by rw [HR.out]; exact ⟨v1, rfl, HO4.out, HB4.out⟩)
  | some a =>
    have HR := Lib.hid (Ap.cut_all HOK2.out (by rw [ha]; rfl))
    clear ha HA2
    obtain ⟨ap, ar, af, au⟩ := a
    obtain ⟨X3, hX3⟩ : ∃ X : World, w3.alloc (.cells #[.string ap, .string ar, .int .i64 af, .int .i64 au] 74) = X := ⟨_, rfl⟩
    have HBX := Lib.hid (show Below w3.heap.size w3 X3 by rw [← hX3]; exact below_one _)
    simp only [actV, apV]
    go_wp2_with fail
    go_loopw [12, 36] (fun v iv wr => ∃ j : Nat, j ≤ n ∧ iv = .int .i64 j ∧ Hid (Below w3.heap.size w3 wr ∧ ROwn apRec wr w3.heap.size v ((L.take j).filterMap (Ap.cutS p t)))) (fun _ iv _ => n - (intOf iv).toNat)
    case atStart => exact ⟨0, by omega, rfl, HBX.out, ROwn.nil _ _⟩
    case round =>
      clear hX3
      rename World => Y
      obtain ⟨j, hj, rfl, HI⟩ := hrel
      by_cases hlt : j < n
      · obtain ⟨ad, yp, yr, yf, yu, rfl, HX, c0, c1, c2, c3⟩ := (H3.out.keep HI.out.1 HI.out.1.size).ap hlt
        obtain ⟨V, hV, HV⟩ := ap_boxB Y yp yr yf yu
        obtain ⟨_, e0, e1, e2, e3, _⟩ := HV.out.2
        have HVB := Lib.hid (HI.out.1.trans (HV.out.1.mono HI.out.1.size))
        have HVO := Lib.hid (HI.out.2.below HV.out.1)
        have HT := Lib.hid (fmt_take (q := Ap.cutS p t) ⟨HX.out.1, HX.out.2.1⟩)
        have HLE := Lib.hid (show ((L.take j).filterMap (Ap.cutS p t)).length + 1 ≤ 1000 by
          have h1 := List.length_filterMap_le (Ap.cutS p t) (L.take j)
          have h2 := List.length_take_le j L
          omega)
        have HHS := Lib.hid (show Ap.has ⟨yp, yr, yf, yu⟩ p t = ((yp.toList == p.toList) && (decide (yf ≤ t) && decide (t < yu))) by unfold Ap.has; rw [Bool.and_assoc])
        rcases g1 : (yp.toList == p.toList) with _ | _
        · have HHF := Lib.hid (show Ap.has ⟨yp, yr, yf, yu⟩ p t = false by rw [HHS.out, g1]; rfl)
          rcases hfu : decide (yf < yu) with _ | _
          · have HS := Lib.hid (show (L.take (j + 1)).filterMap (Ap.cutS p t) = (L.take j).filterMap (Ap.cutS p t) by rw [HT.out, show Ap.cutS p t ⟨yp, yr, yf, yu⟩ = none by unfold Ap.cutS; rw [if_neg (by rw [HHF.out]; decide), if_neg (by simpa using hfu)]]; simp)
            go_wp2_with fail
            go_roundw
            case rel => exact ⟨j + 1, by omega, by go_num, HVB.out, by rw [HS.out]; exact HVO.out⟩
            case measure => simp [intOf]; omega
          · have HS := Lib.hid (show (L.take (j + 1)).filterMap (Ap.cutS p t) = (L.take j).filterMap (Ap.cutS p t) ++ [(⟨yp, yr, yf, yu⟩ : Ap)] by rw [HT.out, show Ap.cutS p t ⟨yp, yr, yf, yu⟩ = some ⟨yp, yr, yf, yu⟩ by unfold Ap.cutS; rw [if_neg (by rw [HHF.out]; decide), if_pos (by simpa using hfu)]])
            obtain ⟨Z, hZ⟩ : ∃ Z : World, V.alloc (.cells #[.string yp, .string yr, .int .i64 yf, .int .i64 yu] 74) = Z := ⟨_, rfl⟩
            have hbz : Below V.heap.size V Z := by rw [← hZ]; exact below_one _
            have HZB := Lib.hid (HVB.out.trans (hbz.mono HVB.out.size))
            have HZO := Lib.hid (HVO.out.below hbz)
            have HZR := Lib.hid (show RRow apRec Z Z.heap.size (some ⟨V.heap.size, 0, none⟩) 1 1 [⟨yp, yr, yf, yu⟩] from RRow.lit (R := apRec) (L := [(⟨yp, yr, yf, yu⟩ : Ap)]) (by rw [← hZ]; exact heap_alloc_new _ _) (by simp))
            have HZS := Lib.hid (show w3.heap.size ≤ Z.heap.size from HZB.out.size)
            clear hbz
            go_wp2_with (at_builtin; refine app_recs _ apRec rfl (.tmp 63) (.tmp 65) _ rfl w3.heap.size (.agg #[.string ⟨#[]⟩, .string ⟨#[]⟩, .int .i64 0, .int .i64 0]) 48 ap_info rfl (by decide) Try.underlying72 _ _ rfl HZO.out Z.heap.size (some ⟨V.heap.size, 0, none⟩) 1 1 [⟨yp, yr, yf, yu⟩] rfl HZR.out HLE.out HZS.out ?_; intro v9 w9 hown9 hgrow9)
            go_roundw
            case rel => exact ⟨j + 1, by omega, by go_num, HZO.out.grow HZB.out hgrow9 HZS.out (Nat.le_refl _), by rw [HS.out]; exact hown9⟩
            case measure => simp [intOf]; omega
        rcases g2 : decide (yf ≤ t) with _ | _
        · have HHF := Lib.hid (show Ap.has ⟨yp, yr, yf, yu⟩ p t = false by rw [HHS.out, g1, g2]; rfl)
          rcases hfu : decide (yf < yu) with _ | _
          · have HS := Lib.hid (show (L.take (j + 1)).filterMap (Ap.cutS p t) = (L.take j).filterMap (Ap.cutS p t) by rw [HT.out, show Ap.cutS p t ⟨yp, yr, yf, yu⟩ = none by unfold Ap.cutS; rw [if_neg (by rw [HHF.out]; decide), if_neg (by simpa using hfu)]]; simp)
            go_wp2_with fail
            go_roundw
            case rel => exact ⟨j + 1, by omega, by go_num, HVB.out, by rw [HS.out]; exact HVO.out⟩
            case measure => simp [intOf]; omega
          · have HS := Lib.hid (show (L.take (j + 1)).filterMap (Ap.cutS p t) = (L.take j).filterMap (Ap.cutS p t) ++ [(⟨yp, yr, yf, yu⟩ : Ap)] by rw [HT.out, show Ap.cutS p t ⟨yp, yr, yf, yu⟩ = some ⟨yp, yr, yf, yu⟩ by unfold Ap.cutS; rw [if_neg (by rw [HHF.out]; decide), if_pos (by simpa using hfu)]])
            obtain ⟨Z, hZ⟩ : ∃ Z : World, V.alloc (.cells #[.string yp, .string yr, .int .i64 yf, .int .i64 yu] 74) = Z := ⟨_, rfl⟩
            have hbz : Below V.heap.size V Z := by rw [← hZ]; exact below_one _
            have HZB := Lib.hid (HVB.out.trans (hbz.mono HVB.out.size))
            have HZO := Lib.hid (HVO.out.below hbz)
            have HZR := Lib.hid (show RRow apRec Z Z.heap.size (some ⟨V.heap.size, 0, none⟩) 1 1 [⟨yp, yr, yf, yu⟩] from RRow.lit (R := apRec) (L := [(⟨yp, yr, yf, yu⟩ : Ap)]) (by rw [← hZ]; exact heap_alloc_new _ _) (by simp))
            have HZS := Lib.hid (show w3.heap.size ≤ Z.heap.size from HZB.out.size)
            clear hbz
            go_wp2_with (at_builtin; refine app_recs _ apRec rfl (.tmp 63) (.tmp 65) _ rfl w3.heap.size (.agg #[.string ⟨#[]⟩, .string ⟨#[]⟩, .int .i64 0, .int .i64 0]) 48 ap_info rfl (by decide) Try.underlying72 _ _ rfl HZO.out Z.heap.size (some ⟨V.heap.size, 0, none⟩) 1 1 [⟨yp, yr, yf, yu⟩] rfl HZR.out HLE.out HZS.out ?_; intro v9 w9 hown9 hgrow9)
            go_roundw
            case rel => exact ⟨j + 1, by omega, by go_num, HZO.out.grow HZB.out hgrow9 HZS.out (Nat.le_refl _), by rw [HS.out]; exact hown9⟩
            case measure => simp [intOf]; omega
        rcases g3 : decide (t < yu) with _ | _
        · have HHF := Lib.hid (show Ap.has ⟨yp, yr, yf, yu⟩ p t = false by rw [HHS.out, g1, g2, g3]; rfl)
          rcases hfu : decide (yf < yu) with _ | _
          · have HS := Lib.hid (show (L.take (j + 1)).filterMap (Ap.cutS p t) = (L.take j).filterMap (Ap.cutS p t) by rw [HT.out, show Ap.cutS p t ⟨yp, yr, yf, yu⟩ = none by unfold Ap.cutS; rw [if_neg (by rw [HHF.out]; decide), if_neg (by simpa using hfu)]]; simp)
            go_wp2_with fail
            go_roundw
            case rel => exact ⟨j + 1, by omega, by go_num, HVB.out, by rw [HS.out]; exact HVO.out⟩
            case measure => simp [intOf]; omega
          · have HS := Lib.hid (show (L.take (j + 1)).filterMap (Ap.cutS p t) = (L.take j).filterMap (Ap.cutS p t) ++ [(⟨yp, yr, yf, yu⟩ : Ap)] by rw [HT.out, show Ap.cutS p t ⟨yp, yr, yf, yu⟩ = some ⟨yp, yr, yf, yu⟩ by unfold Ap.cutS; rw [if_neg (by rw [HHF.out]; decide), if_pos (by simpa using hfu)]])
            obtain ⟨Z, hZ⟩ : ∃ Z : World, V.alloc (.cells #[.string yp, .string yr, .int .i64 yf, .int .i64 yu] 74) = Z := ⟨_, rfl⟩
            have hbz : Below V.heap.size V Z := by rw [← hZ]; exact below_one _
            have HZB := Lib.hid (HVB.out.trans (hbz.mono HVB.out.size))
            have HZO := Lib.hid (HVO.out.below hbz)
            have HZR := Lib.hid (show RRow apRec Z Z.heap.size (some ⟨V.heap.size, 0, none⟩) 1 1 [⟨yp, yr, yf, yu⟩] from RRow.lit (R := apRec) (L := [(⟨yp, yr, yf, yu⟩ : Ap)]) (by rw [← hZ]; exact heap_alloc_new _ _) (by simp))
            have HZS := Lib.hid (show w3.heap.size ≤ Z.heap.size from HZB.out.size)
            clear hbz
            go_wp2_with (at_builtin; refine app_recs _ apRec rfl (.tmp 63) (.tmp 65) _ rfl w3.heap.size (.agg #[.string ⟨#[]⟩, .string ⟨#[]⟩, .int .i64 0, .int .i64 0]) 48 ap_info rfl (by decide) Try.underlying72 _ _ rfl HZO.out Z.heap.size (some ⟨V.heap.size, 0, none⟩) 1 1 [⟨yp, yr, yf, yu⟩] rfl HZR.out HLE.out HZS.out ?_; intro v9 w9 hown9 hgrow9)
            go_roundw
            case rel => exact ⟨j + 1, by omega, by go_num, HZO.out.grow HZB.out hgrow9 HZS.out (Nat.le_refl _), by rw [HS.out]; exact hown9⟩
            case measure => simp [intOf]; omega
        · have HHF := Lib.hid (show Ap.has ⟨yp, yr, yf, yu⟩ p t = true by rw [HHS.out, g1, g2, g3]; rfl)
          have t3 := HV.out.2.thaw 3
          obtain ⟨V2, hV2, HV2⟩ := HV.out.2.set3 t
          obtain ⟨_, d0, d1, d2, d3, _⟩ := HV2.out.1
          have HVB2 := Lib.hid (HV2.out.2 _ _ HVB.out HI.out.1.size)
          have HVO2 := Lib.hid (HI.out.2.below (HV2.out.2 _ _ HV.out.1 (Nat.le_refl _)))
          rcases hfu : decide (yf < t) with _ | _
          · have HS := Lib.hid (show (L.take (j + 1)).filterMap (Ap.cutS p t) = (L.take j).filterMap (Ap.cutS p t) by rw [HT.out, show Ap.cutS p t ⟨yp, yr, yf, yu⟩ = none by unfold Ap.cutS; rw [if_pos HHF.out, if_neg (by simpa using hfu)]]; simp)
            go_wp2_with fail
            go_roundw
            case rel => exact ⟨j + 1, by omega, by go_num, HVB2.out, by rw [HS.out]; exact HVO2.out⟩
            case measure => simp [intOf]; omega
          · have HS := Lib.hid (show (L.take (j + 1)).filterMap (Ap.cutS p t) = (L.take j).filterMap (Ap.cutS p t) ++ [(⟨yp, yr, yf, t⟩ : Ap)] by rw [HT.out, show Ap.cutS p t ⟨yp, yr, yf, yu⟩ = some ⟨yp, yr, yf, t⟩ by unfold Ap.cutS; rw [if_pos HHF.out, if_pos (by simpa using hfu)]; rfl])
            obtain ⟨Z, hZ⟩ : ∃ Z : World, V2.alloc (.cells #[.string yp, .string yr, .int .i64 yf, .int .i64 t] 74) = Z := ⟨_, rfl⟩
            have hbz : Below V2.heap.size V2 Z := by rw [← hZ]; exact below_one _
            have HZB := Lib.hid (HVB2.out.trans (hbz.mono HVB2.out.size))
            have HZO := Lib.hid (HVO2.out.below hbz)
            have HZR := Lib.hid (show RRow apRec Z Z.heap.size (some ⟨V2.heap.size, 0, none⟩) 1 1 [⟨yp, yr, yf, t⟩] from RRow.lit (R := apRec) (L := [(⟨yp, yr, yf, t⟩ : Ap)]) (by rw [← hZ]; exact heap_alloc_new _ _) (by simp))
            have HZS := Lib.hid (show w3.heap.size ≤ Z.heap.size from HZB.out.size)
            clear hbz
            go_wp2_with (at_builtin; refine app_recs _ apRec rfl (.tmp 63) (.tmp 65) _ rfl w3.heap.size (.agg #[.string ⟨#[]⟩, .string ⟨#[]⟩, .int .i64 0, .int .i64 0]) 48 ap_info rfl (by decide) Try.underlying72 _ _ rfl HZO.out Z.heap.size (some ⟨V2.heap.size, 0, none⟩) 1 1 [⟨yp, yr, yf, t⟩] rfl HZR.out HLE.out HZS.out ?_; intro v9 w9 hown9 hgrow9)
            go_roundw
            case rel => exact ⟨j + 1, by omega, by go_num, HZO.out.grow HZB.out hgrow9 HZS.out (Nat.le_refl _), by rw [HS.out]; exact hown9⟩
            case measure => simp [intOf]; omega
      · obtain rfl : n = j := by omega
        have HW := Lib.hid (show L.take n = L from List.take_of_length_le (by rw [HL.out]; exact Nat.le_refl _))
        rw [HW.out] at HI
        go_wp2_with fail
        exact bodyPost_ret (v := .tuple #[_, .int .i64 0]) (by simp [results, Try.results52, go_sem]; rfl) rfl (by rw [HR.out]; exact ⟨_, rfl, HI.out.2.base_le HB3.out.size, HB3.out.trans (HI.out.1.mono HB3.out.size)⟩)
end Go.Proofs.Ytoomgbddfcmjnaa
