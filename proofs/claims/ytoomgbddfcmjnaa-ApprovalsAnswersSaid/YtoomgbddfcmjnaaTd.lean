/- Rota: who is on duty. -/
import Derived.Test.YtoomgbddfcmjnaaTc
import Derived.Test.YtoomgbddfcmjnaaTs
namespace Go.Proofs.Ytoomgbddfcmjnaa
open Go.RowKit
theorem fm_take {α β : Type} {L : List α} {p : α → Bool} {f : α → β} {j : Nat} {d x : α} (h : L.getD j d = x ∧ j < L.length) : ((L.take (j + 1)).filter p).map f = ((L.take j).filter p).map f ++ (if p x = true then [f x] else []) := by
  have h9 := h.1
  rw [getD_getElem h.2] at h9
  rw [List.take_succ_eq_append_getElem h.2, h9, List.filter_append, List.map_append]
  congr 1
  by_cases hp : p x = true
  · rw [if_pos hp, List.filter_cons, if_pos hp]; rfl
  · rw [if_neg hp, List.filter_cons, if_neg hp]; rfl
def Sf.who (L : List Sf) (t : Int) : List Tx := (L.filter fun x => x.has t).map fun x => txOf x.p
def Sf.onl (L : List Sf) (t : Int) : List Tx := (Sf.who L t).mergeSort fun x y => decide (x ≤ y)
theorem Sf.who_len (L : List Sf) (t : Int) : (Sf.who L t).length ≤ L.length := by unfold Sf.who; rw [List.length_map]; exact List.length_filter_le _ _
def GivesTx (L : List Tx) (w : World) (e : Ending) (w' : World) : Prop := ∃ v, e = .returned v ∧ ROwn txRec w' w.heap.size v L ∧ Below w.heap.size w w'
set_option maxHeartbeats 1600000 in
set_option maxRecDepth 100000 in
theorem on36 (A : Option Addr) (n c : Nat) (L : List Sf) (t : Int) (w : World) (h : RRow sfRec w w.heap.size A n c L) (hn : n ≤ 900) :
    Calls Try.prog 67 #[.slice A n c, .int .i64 t] w (GivesTx (Sf.onl L t) w) := by
  have hm : n ≤ 9223372036854775807 := by have := h.cap; have := h.max; unfold maxLen at this; omega
  have H := Lib.hid h
  have HL := Lib.hid h.len
  have HN := Lib.hid hn
  clear h
  go_enter Try.func67, Try.ntmps67
  go_wp2_with fail
  go_loopw [5, 10] (fun v iv wr => ∃ j : Nat, j ≤ n ∧ iv = .int .i64 j ∧ Hid (Below w.heap.size w wr ∧ ROwn txRec wr w.heap.size v (((L.take j).filter fun x => x.has t).map fun x => txOf x.p))) (fun _ iv _ => n - (intOf iv).toNat)
  case atStart => exact ⟨0, by omega, rfl, Below.refl _ _, ROwn.nil _ _⟩
  case round =>
    rename World => Y
    obtain ⟨j, hj, rfl, HI⟩ := hrel
    by_cases hlt : j < n
    · obtain ⟨ad, yp, yf, yu, rfl, HX, c0, c1, c2⟩ := (H.out.keep HI.out.1 HI.out.1.size).sf hlt
      obtain ⟨X, hX, HX8⟩ := sf_boxB Y yp yf yu
      obtain ⟨_, e0, e1, e2, _⟩ := HX8.out.2
      have HB := Lib.hid (HI.out.1.trans (HX8.out.1.mono HI.out.1.size))
      have HO := Lib.hid (HI.out.2.below HX8.out.1)
      have HT := Lib.hid (fm_take (p := fun x : Sf => x.has t) (f := fun x => txOf x.p) ⟨HX.out.1, HX.out.2.1⟩)
      have HLE := Lib.hid (show (((L.take j).filter fun x => x.has t).map fun x => txOf x.p).length ≤ 900 by
        rw [List.length_map]
        have h1 := List.length_filter_le (fun x : Sf => x.has t) (L.take j)
        have h2 := List.length_take_le j L
        have := HN.out
        omega)
      rcases hh : Sf.has ⟨yp, yf, yu⟩ t with _ | _
      · have HS := Lib.hid (show ((L.take (j + 1)).filter fun x => x.has t).map (fun x => txOf x.p) = ((L.take j).filter fun x => x.has t).map (fun x => txOf x.p) by rw [HT.out, hh]; simp)
        have hh' : decide (yf ≤ t) = false ∨ (decide (yf ≤ t) = true ∧ decide (t < yu) = false) := by
          simp only [Sf.has] at hh
          rcases h1 : decide (yf ≤ t) with _ | _
          · exact .inl rfl
          · rw [h1] at hh; exact .inr ⟨rfl, by simpa using hh⟩
        clear hh
        rcases hh' with g1 | ⟨g1, g2⟩
        all_goals
          go_wp2_with fail
          go_roundw
          case rel => exact ⟨j + 1, by omega, by go_num, HB.out, by rw [HS.out]; exact HO.out⟩
          case measure => simp [intOf]; omega
      · have HS := Lib.hid (show ((L.take (j + 1)).filter fun x => x.has t).map (fun x => txOf x.p) = ((L.take j).filter fun x => x.has t).map (fun x => txOf x.p) ++ [txOf yp] by rw [HT.out, hh]; simp)
        simp only [Sf.has, Bool.and_eq_true] at hh
        obtain ⟨g1, g2⟩ := hh
        obtain ⟨Z, hZ⟩ : ∃ Z : World, X.alloc (.cells #[.string yp] 9) = Z := ⟨_, rfl⟩
        have HZ := Lib.hid (show Below X.heap.size X Z by rw [← hZ]; exact below_one _)
        have HZB := Lib.hid (HB.out.trans (HZ.out.mono HB.out.size))
        have HZO := Lib.hid (HO.out.below HZ.out)
        have HZR := Lib.hid (show RRow txRec Z Z.heap.size (some ⟨X.heap.size, 0, none⟩) 1 1 [txOf yp] from RRow.lit (L := [txOf yp]) (by rw [← hZ]; simp only [Rec.flat, List.flatMap_cons, List.flatMap_nil, txRec, txOf_val]; exact heap_alloc_new _ _) (by simp))
        have HZS := Lib.hid (show w.heap.size ≤ Z.heap.size from HZB.out.size)
        have HLE1 := Lib.hid (show (((L.take j).filter fun x => x.has t).map fun x => txOf x.p).length + 1 ≤ 1000 by have := HLE.out; omega)
        go_wp2_with (at_builtin; refine app_recs _ txRec rfl (.tmp 24) (.tmp 27) _ rfl w.heap.size (.string ⟨#[]⟩) 16 tx_info rfl (by decide) Try.underlying39 _ _ rfl HZO.out Z.heap.size (some ⟨X.heap.size, 0, none⟩) 1 1 [txOf yp] rfl HZR.out HLE1.out HZS.out ?_; intro v1 w1 hown1 hgrow1)
        go_roundw
        case rel => exact ⟨j + 1, by omega, by go_num, HZO.out.grow HZB.out hgrow1 HZS.out (Nat.le_refl _), by rw [HS.out]; exact hown1⟩
        case measure => simp [intOf]; omega
    · obtain rfl : n = j := by omega
      have HW := Lib.hid (show ((L.take n).filter fun x => x.has t).map (fun x => txOf x.p) = Sf.who L t by rw [List.take_of_length_le (by rw [HL.out]; exact Nat.le_refl _)]; rfl)
      have HWL := Lib.hid (Sf.who_len L t)
      go_wp2_with fail
      refine (sort_tx w.heap.size _ _ Y HI.out.2 HI.out.1.size (by rw [HW.out]; have := HWL.out; have := HL.out; have := HN.out; omega)).mono ?_; rintro e w2 ⟨rfl, ho, hb⟩
      rw [HW.out] at ho
      have HO := Lib.hid ho
      have HB := Lib.hid (HI.out.1.trans hb)
      clear ho hb
      go_wp2_with fail
      go_ret
      exact ⟨_, rfl, HO.out, HB.out⟩
end Go.Proofs.Ytoomgbddfcmjnaa
