/- Approvals: Expired, the program's. -/
import Derived.Test.YtoomgbddfcmjnaaVb
import Derived.Test.YtoomgbddfcmjnaaTd
namespace Go.Proofs.Ytoomgbddfcmjnaa
open Go.RowKit
def Ap.exp (L : List Ap) (a b : Int) (x : Ap) : Bool := decide (x.f ≤ a) && (decide (a < x.u) && !(L.any fun y => y.has x.p b))
def Ap.exq (L : List Ap) (a b : Int) : List Tx := (L.filter (Ap.exp L a b)).map fun x => txOf x.p
def Ap.exr (L : List Ap) (a b : Int) : List Tx × Int :=
  if Ap.chk L ≠ 0 then ([], Ap.chk L) else if a < 0 ∨ b ≤ a ∨ 1073741824 < b then ([], 43) else ((Ap.exq L a b).mergeSort fun x y => decide (x ≤ y), 0)
def GivesTxE (R : List Tx × Int) (w : World) (e : Ending) (w' : World) : Prop := ∃ v, e = .returned (.tuple #[v, .int .i64 R.2]) ∧ ROwn txRec w' w.heap.size v R.1 ∧ Below w.heap.size w w'
theorem fm_takeA {β : Type} {L : List Ap} {p : Ap → Bool} {f : Ap → β} {j : Nat} {x : Ap} (h : L.getD j Ap0 = x ∧ j < L.length) : ((L.take (j + 1)).filter p).map f = ((L.take j).filter p).map f ++ (if p x = true then [f x] else []) := by
  have h9 := h.1
  rw [getD_getElem h.2] at h9
  rw [List.take_succ_eq_append_getElem h.2, h9, List.filter_append, List.map_append]
  congr 1
  by_cases hp : p x = true
  · rw [if_pos hp, List.filter_cons, if_pos hp]; rfl
  · rw [if_neg hp, List.filter_cons, if_neg hp]; rfl
theorem fstI_neg {α : Type} {p : α → Bool} {L : List α} : decide (fstI p L < 0) = !(L.any p) := by
  rw [← fstI_nonneg]
  by_cases h : fstI p L < 0
  · rw [decide_eq_true h, decide_eq_false (by omega)]; rfl
  · rw [decide_eq_false h, decide_eq_true (by omega)]; rfl
set_option maxHeartbeats 1600000 in
set_option maxRecDepth 100000 in
theorem expired39 (A : Option Addr) (n c : Nat) (L : List Ap) (a b : Int) (w : World) (h : RRow apRec w w.heap.size A n c L) :
    Calls Try.prog 56 #[.slice A n c, .int .i64 a, .int .i64 b] w (GivesTxE (Ap.exr L a b) w) := by
  have hm : n ≤ 9223372036854775807 := by have := h.cap; have := h.max; unfold maxLen at this; omega
  have HL := Lib.hid h.len
  have HR := Lib.hid h
  clear h
  go_enter Try.func56, Try.ntmps56
  go_wp2_with fail
  refine (check39 A n c L w HR.out).mono ?_; rintro e w1 ⟨rfl, hb⟩
  have HB1 := Lib.hid hb
  have HR1 := Lib.hid (HR.out.keep hb hb.size)
  clear hb HR
  have HN1 := Lib.hid (fun (h : Ap.chk L ≠ 0) => show Ap.exr L a b = ([], Ap.chk L) by unfold Ap.exr; rw [if_pos h])
  have HN2 := Lib.hid (fun (h : Ap.chk L = 0) (h2 : a < 0 ∨ b ≤ a ∨ 1073741824 < b) => show Ap.exr L a b = ([], 43) by unfold Ap.exr; rw [if_neg (by simpa using h), if_pos h2])
  have HN3 := Lib.hid (fun (h : Ap.chk L = 0) (h2 : ¬ (a < 0 ∨ b ≤ a ∨ 1073741824 < b)) => show Ap.exr L a b = ((Ap.exq L a b).mergeSort fun x y => decide (x ≤ y), 0) by unfold Ap.exr; rw [if_neg (by simpa using h), if_neg h2])
  have HOK := Lib.hid (fun (h : Ap.chk L = 0) => Ap.chk_ok.1 h)
  obtain ⟨o, ho⟩ : ∃ o, Ap.chk L = o := ⟨_, rfl⟩
  rw [ho] at HN1 HN2 HN3 HOK ⊢
  clear ho
  by_cases h0 : o = 0
  rotate_left
  · have g1 : (o != 0) = true := by simpa using h0
    have HE := Lib.hid (HN1.out h0)
    clear h0 HN1 HN2 HN3
    go_wp2_with fail
    exact bodyPost_ret (v := .tuple #[.slice none 0 0, .int .i64 o]) (by simp [results, Try.results56, go_sem]) rfl ⟨_, by rw [HE.out], by rw [HE.out]; exact ROwn.nil _ _, HB1.out⟩
  have g1 : (o != 0) = false := by simpa using h0
  replace HN2 := Lib.hid (HN2.out h0)
  replace HN3 := Lib.hid (HN3.out h0)
  replace HOK := Lib.hid (HOK.out h0)
  clear h0 HN1
  by_cases ht : a < 0 ∨ b ≤ a ∨ 1073741824 < b
  · have HE := Lib.hid (HN2.out ht)
    have ht' : decide (a < 0) = true ∨ (decide (a < 0) = false ∧ decide (b ≤ a) = true) ∨ (decide (a < 0) = false ∧ decide (b ≤ a) = false ∧ decide (1073741824 < b) = true) := by
      simp only [decide_eq_true_eq, decide_eq_false_iff_not]; omega
    clear ht HN3
    rcases ht' with g2 | ⟨g2, g3⟩ | ⟨g2, g3, g4⟩
    all_goals
      go_wp2_with fail
      exact bodyPost_ret (v := .tuple #[.slice none 0 0, .int .i64 43]) (by simp [results, Try.results56, go_sem]) rfl ⟨_, by rw [HE.out], by rw [HE.out]; exact ROwn.nil _ _, HB1.out⟩
  have HE := Lib.hid (HN3.out ht)
  have g2 : decide (a < 0) = false := decide_eq_false (by omega)
  have g3 : decide (b ≤ a) = false := decide_eq_false (by omega)
  have g4 : decide (1073741824 < b) = false := decide_eq_false (by omega)
  have hn60 : n ≤ 60 := by have := HOK.out.few; rw [HL.out] at this; exact this
  clear ht HN2 HN3
  go_wp2_with fail
  clear g1 g2 g3 g4
  go_loopw [9, 30] (fun v iv wr => ∃ j : Nat, j ≤ n ∧ iv = .int .i64 j ∧ Hid (Below w1.heap.size w1 wr ∧ ROwn txRec wr w1.heap.size v (((L.take j).filter (Ap.exp L a b)).map fun x => txOf x.p))) (fun _ iv _ => n - (intOf iv).toNat)
  case atStart => exact ⟨0, by omega, rfl, Below.refl _ _, ROwn.nil _ _⟩
  case round =>
    rename World => Y
    obtain ⟨j, hj, rfl, HI⟩ := hrel
    by_cases hlt : j < n
    · obtain ⟨ad, yp, yr, yf, yu, rfl, HX, c0, c1, c2, c3⟩ := (HR1.out.keep HI.out.1 HI.out.1.size).ap hlt
      obtain ⟨V, hV, HV⟩ := ap_boxB Y yp yr yf yu
      obtain ⟨_, e0, e1, e2, e3, _⟩ := HV.out.2
      have HVB := Lib.hid (HI.out.1.trans (HV.out.1.mono HI.out.1.size))
      have HVO := Lib.hid (HI.out.2.below HV.out.1)
      have HT := Lib.hid (fm_takeA (p := Ap.exp L a b) (f := fun x => txOf x.p) ⟨HX.out.1, HX.out.2.1⟩)
      have HLE := Lib.hid (show (((L.take j).filter (Ap.exp L a b)).map fun x => txOf x.p).length + 1 ≤ 1000 by
        rw [List.length_map]
        have h1 := List.length_filter_le (Ap.exp L a b) (L.take j)
        have h2 := List.length_take_le j L
        omega)
      have HEX := Lib.hid (show Ap.exp L a b ⟨yp, yr, yf, yu⟩ = (decide (yf ≤ a) && (decide (a < yu) && !(L.any fun y => y.has yp b))) from rfl)
      rcases g1 : decide (yf ≤ a) with _ | _
      · have HS := Lib.hid (show ((L.take (j + 1)).filter (Ap.exp L a b)).map (fun x => txOf x.p) = ((L.take j).filter (Ap.exp L a b)).map (fun x => txOf x.p) by rw [HT.out, HEX.out, g1]; simp)
        go_wp2_with fail
        go_roundw
        case rel => exact ⟨j + 1, by omega, by go_num, HVB.out, by rw [HS.out]; exact HVO.out⟩
        case measure => simp [intOf]; omega
      rcases g2 : decide (a < yu) with _ | _
      · have HS := Lib.hid (show ((L.take (j + 1)).filter (Ap.exp L a b)).map (fun x => txOf x.p) = ((L.take j).filter (Ap.exp L a b)).map (fun x => txOf x.p) by rw [HT.out, HEX.out, g1, g2]; simp)
        go_wp2_with fail
        go_roundw
        case rel => exact ⟨j + 1, by omega, by go_num, HVB.out, by rw [HS.out]; exact HVO.out⟩
        case measure => simp [intOf]; omega
      go_wp2_with fail
      refine (find39 (some ad) n c L yp b V (HR1.out.keep HVB.out HVB.out.size)).mono ?_; rintro e w4 ⟨rfl, hb4⟩
      have HB4 := Lib.hid (HVB.out.trans (hb4.mono HVB.out.size))
      have HO4 := Lib.hid (HVO.out.below hb4)
      have HX4 := Lib.hid (HV.out.2.keep hb4)
      have HNG := Lib.hid (show decide (fstI (fun x : Ap => x.has yp b) L < 0) = !(L.any fun y => y.has yp b) from fstI_neg)
      clear e0 e1 e2 e3 hb4 hV
      obtain ⟨_, e0, e1, e2, e3, _⟩ := HX4.out
      obtain ⟨q, hq⟩ : ∃ q, fstI (fun x : Ap => x.has yp b) L = q := ⟨_, rfl⟩
      rw [hq] at HNG ⊢
      clear hq
      rcases g3 : decide (q < 0) with _ | _
      · have HS := Lib.hid (show ((L.take (j + 1)).filter (Ap.exp L a b)).map (fun x => txOf x.p) = ((L.take j).filter (Ap.exp L a b)).map (fun x => txOf x.p) by rw [HT.out, HEX.out, g1, g2, ← HNG.out, g3]; simp)
        go_wp2_with fail
        go_roundw
        case rel => exact ⟨j + 1, by omega, by go_num, HB4.out, by rw [HS.out]; exact HO4.out⟩
        case measure => simp [intOf]; omega
      · have HS := Lib.hid (show ((L.take (j + 1)).filter (Ap.exp L a b)).map (fun x => txOf x.p) = ((L.take j).filter (Ap.exp L a b)).map (fun x => txOf x.p) ++ [txOf yp] by rw [HT.out, HEX.out, g1, g2, ← HNG.out, g3]; simp)
        obtain ⟨Z, hZ⟩ : ∃ Z : World, w4.alloc (.cells #[.string yp] 9) = Z := ⟨_, rfl⟩
        have hbz : Below w4.heap.size w4 Z := by rw [← hZ]; exact below_one _
        have HZB := Lib.hid (HB4.out.trans (hbz.mono HB4.out.size))
        have HZO := Lib.hid (HO4.out.below hbz)
        have HZR := Lib.hid (show RRow txRec Z Z.heap.size (some ⟨w4.heap.size, 0, none⟩) 1 1 [txOf yp] from RRow.lit (R := txRec) (L := [txOf yp]) (by rw [← hZ]; simp only [Rec.flat, List.flatMap_cons, List.flatMap_nil, txRec, txOf_val]; exact heap_alloc_new _ _) (by simp))
        have HZS := Lib.hid (show w1.heap.size ≤ Z.heap.size from HZB.out.size)
        clear hbz
        go_wp2_with (at_builtin; refine app_recs _ txRec rfl (.tmp 52) (.tmp 55) _ rfl w1.heap.size (.string ⟨#[]⟩) 16 tx_info rfl (by decide) Try.underlying39 _ _ rfl HZO.out Z.heap.size (some ⟨w4.heap.size, 0, none⟩) 1 1 [txOf yp] rfl HZR.out HLE.out HZS.out ?_; intro v9 w9 hown9 hgrow9)
        go_roundw
        case rel => exact ⟨j + 1, by omega, by go_num, HZO.out.grow HZB.out hgrow9 HZS.out (Nat.le_refl _), by rw [HS.out]; exact hown9⟩
        case measure => simp [intOf]; omega
    · obtain rfl : n = j := by omega
      have HW := Lib.hid (show ((L.take n).filter (Ap.exp L a b)).map (fun x => txOf x.p) = Ap.exq L a b by rw [List.take_of_length_le (by rw [HL.out]; exact Nat.le_refl _)]; rfl)
      have HQL := Lib.hid (show (Ap.exq L a b).length ≤ 1000000 by
        unfold Ap.exq
        rw [List.length_map]
        have h1 := List.length_filter_le (Ap.exp L a b) L
        have := HL.out
        omega)
      rw [HW.out] at HI
      go_wp2_with fail
      refine (sort_tx w1.heap.size _ _ Y HI.out.2 HI.out.1.size HQL.out).mono ?_; rintro e w2 ⟨rfl, ho, hb⟩
      have HO := Lib.hid (ho.base_le HB1.out.size)
      have HB := Lib.hid (HB1.out.trans ((HI.out.1.trans hb).mono HB1.out.size))
      clear ho hb
      go_wp2_with fail
      exact bodyPost_ret (v := .tuple #[_, .int .i64 0]) (by simp [results, Try.results56, go_sem]; rfl) rfl ⟨_, by rw [HE.out], by rw [HE.out]; exact HO.out, HB.out⟩
end Go.Proofs.Ytoomgbddfcmjnaa
