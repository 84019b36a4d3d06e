/- Rounding: the multiples of each number. -/
import Derived.Test.YtgclljmchdlbeaaNo
namespace Go.Proofs.Ytgclljmchdlbeaa
open Go.RowKit
theorem ints_info34 : (Try.prog.info? 22).map (fun i => (i.zero, i.size, i.bytes)) = some (some (.slice none 0 0), 1, 24) := by kernel_rfl
set_option maxRecDepth 100000 in
set_option maxHeartbeats 1600000 in
theorem values34 (A : Option Addr) (k c : Nat) (t : List Int) (hk : k ≤ 12) (ht : ∀ x ∈ t, 0 ≤ x ∧ x ≤ 1000000) (b : Int) (hb0 : 1 ≤ b) (hb1 : b ≤ 20) (w : World) (h : Nums w .i64 w.heap.size A k c t) :
    Calls Try.prog 18 #[.slice A k c, .int .i64 b] w fun e w' => ∃ v, e = .returned (.tuple #[v, .int .i64 0]) ∧ OwnRows w' w.heap.size 22 3 .i64 v (t.map (Rd.mult · b)) ∧ Below w.heap.size w w' := by
  have H := Lib.hid h
  have HT := Lib.hid ht
  have HL := Lib.hid h.len
  clear h ht
  go_enter Try.func18, Try.ntmps18
  go_wp2_with fail
  refine (range34 A k c t HT.out b hb0 hb1 _ w H.out).mono ?_; rintro e w1 ⟨rfl, rfl⟩
  go_wp2_with fail
  go_loopw [7, 21] (fun v iv wr => ∃ j : Nat, j ≤ k ∧ iv = .int .i64 j ∧ Hid (OwnRows wr w.heap.size 22 3 .i64 v ((t.take j).map (Rd.mult · b)) ∧ Below w.heap.size w wr)) (fun _ iv _ => k - (intOf iv).toNat)
  case atStart => exact ⟨0, by omega, rfl, OwnRows.nil _ _ _ _ _, Below.refl _ _⟩
  case round =>
    rename World => X
    obtain ⟨j, hj, rfl, HI⟩ := hrel
    by_cases hlt : j < k
    · obtain ⟨ad, x, rfl, _, HX, hx, _⟩ := (H.out.keep HI.out.2 HI.out.2.size).val hlt
      have HXM := Lib.hid (HT.out x (getD_mem HX.out))
      have HTK := Lib.hid (show (t.take (j + 1)).map (Rd.mult · b) = (t.take j).map (Rd.mult · b) ++ [Rd.mult x b] by rw [take_succ_getD t j HX.out.2, HX.out.1, List.map_append]; rfl)
      go_wp2_with fail
      refine (mult34 x b X HXM.out.1 HXM.out.2 hb0 hb1).mono ?_; rintro e w2 ⟨v, rfl, hv, hb2⟩
      obtain ⟨qz, nz, cz, rfl, hq1, hq2⟩ := hv.cellsNe (Rd.mult_ne _ _)
      have HR1 := Lib.hid (HI.out.1.below hb2)
      have HV := Lib.hid (hv.base_le HI.out.2.size)
      have HB2 := Lib.hid (HI.out.2.trans (hb2.mono HI.out.2.size))
      have HLN := Lib.hid (show ((t.take j).map (Rd.mult · b)).length ≤ 12 by rw [List.length_map, List.length_take]; omega)
      clear hv hb2 hq1 hq2
      go_wp2_with (at_builtin; refine app_row _ rfl _ _ _ rfl w.heap.size 22 3 (by decide) 24 .i64 ints_info34 Try.underlying36 _ _ rfl (HR1.out.below (by exact (Below.refl _ _).alloc (Nat.le_refl _) _)) _ _ (HV.out.alloc _) _ rfl (by simp [go_sem]) rfl (by have := HLN.out; simp only [maxLen]; omega) (by have := HLN.out; omega) (by have := HB2.out.size; simp; omega) ?_; intro v' w4 hown4 hgrow4; (have HO4 := Lib.hid hown4); (have HG4 := Lib.hid hgrow4); clear hown4 hgrow4)
      go_roundw
      case rel =>
        refine ⟨j + 1, by omega, by go_num, by rw [HTK.out]; exact HO4.out, ?_⟩
        exact (HR1.out.below (by exact (Below.refl _ _).alloc (Nat.le_refl _) _)).grow (HB2.out.alloc HB2.out.size _) HG4.out (by have := HB2.out.size; simp; omega) (Nat.le_refl _)
      case measure => simp [intOf]; omega
    · obtain rfl : j = k := by omega
      go_wp2_with fail
      refine bodyPost_ret (v := .tuple #[u7, .int .i64 0]) (by simp [results, Try.results18, go_sem]) rfl ?_
      refine ⟨u7, rfl, ?_, HI.out.2⟩
      have := HI.out.1
      rwa [take_len HL.out] at this
end Go.Proofs.Ytgclljmchdlbeaa
