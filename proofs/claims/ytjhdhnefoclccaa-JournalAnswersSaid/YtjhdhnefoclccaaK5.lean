/- Journals: the reference's Read. -/
import Derived.Test.YtjhdhnefoclccaaK4
namespace Go.Proofs.Ytjhdhnefoclccaa
open Go.RowKit
set_option maxRecDepth 100000 in
set_option maxHeartbeats 1600000 in
theorem rread23 (A : Option Addr) (n c : Nat) (l : List Int) (w : World) (h : Nums w .u8 w.heap.size A n c l) (hs : n ≤ 1000000) :
    Calls Try.prog 18 #[.slice A n c] w (GivesRead (Jn.read l) w) := by
  have H := Lib.hid h
  have HS := Lib.hid hs
  have hcap := h.cap
  have hmx : c ≤ 9223372036854775807 := by have := h.max; unfold maxLen at this; exact this
  clear h hs
  go_enter Try.func18, Try.ntmps18
  go_wp2_with fail
  go_loopw [4, 5, 6] (fun v r _ wr => ∃ (k : Nat) (ps : List (List Int)), k ≤ n ∧ r = .int .i64 k ∧ Hid (OwnRows wr w.heap.size 22 5 .u8 v ps ∧ Below w.heap.size w wr ∧ Jn.read l = (ps ++ (Jn.read (l.drop k)).1, k + (Jn.read (l.drop k)).2) ∧ ps.length ≤ k)) (fun _ r _ _ => n - (intOf r).toNat)
  case atStart => exact ⟨0, [], by omega, rfl, OwnRows.nil _ _ _ _ _, Below.refl _ _, by simp, by simp⟩
  case round =>
    obtain ⟨k, ps, hk, rfl, HI⟩ := hrel
    by_cases h8 : k + 8 ≤ n
    · have hn0 := H.out.cut hk
      rw [if_neg (by omega)] at hn0
      obtain ⟨ad, rfl⟩ : ∃ ad, A = some ad := by
        cases A with
        | none => have := H.out.zero rfl; omega
        | some ad => exact ⟨ad, rfl⟩
      have HN := Lib.hid (hn0.keep HI.out.2.1 HI.out.2.1.size)
      have HFUL := Lib.hid (H.out.keep HI.out.2.1 HI.out.2.1.size)
      clear hn0
      have hvb := Jn.val_bd HN.out.wf
      obtain ⟨x, hx⟩ := Int.eq_ofNat_of_zero_le hvb.1
      have hx' : x < 4294967296 := by omega
      have HX := Lib.hid hx
      have hfirst : Hid (Jn.first (l.drop k) = if 4096 < (x : Int) ∨ ((n - k : Nat) : Int) < (x : Int) + 8 then none else if Jn.val ((l.drop k).drop (4 + x)) = Jn.chk ((l.drop k).take (4 + x)) then some x else none) := by
        unfold Jn.first; rw [if_neg (by rw [HN.out.len]; omega), hx, HN.out.len]; exact Lib.hid rfl
      clear hvb hx hx'
      have g8 : decide ((8 : Int) ≤ (n : Int) - k) = true := by simp; omega
      by_cases ha : 4096 < x
      · have f1 : decide (4096 < (x : Int)) = true := by simp; omega
        have hr : Jn.read (l.drop k) = ([], 0) := Jn.read_none (by rw [hfirst.out, if_pos (by omega)])
        have hfin := HI.out.2.2.1
        rw [hr] at hfin
        have HF := Lib.hid hfin
        clear hr hfin ha
        go_wp2_with fail
        refine (rnumber23 _ _ _ _ _ HN.out (by omega)).mono ?_; rintro e w' ⟨rfl, d, rfl⟩
        rw [HX.out]
        go_wp2_with fail
        go_quiet (fail)
        go_wp2_with fail
        go_ret2
        exact ⟨_, by rw [HF.out]; rfl, by rw [HF.out]; simpa using (HI.out.1.drewN d).drewN _, below_drewN (below_drewN HI.out.2.1 d) _⟩
      · have f1 : decide (4096 < (x : Int)) = false := by simp; omega
        have hx1 : (x : Int) ≤ 4096 := by omega
        clear ha
        by_cases hb : n < k + x + 8
        · have f2 : decide ((n : Int) - k < (x : Int) + 8) = true := by simp; omega
          have hr : Jn.read (l.drop k) = ([], 0) := Jn.read_none (by rw [hfirst.out, if_pos (by omega)])
          have hfin := HI.out.2.2.1
          rw [hr] at hfin
          have HF := Lib.hid hfin
          clear hr hfin hb
          go_wp2_with fail
          refine (rnumber23 _ _ _ _ _ HN.out (by omega)).mono ?_; rintro e w' ⟨rfl, d, rfl⟩
          rw [HX.out]
          go_wp2_with fail
          go_quiet (fail)
          go_wp2_with fail
          go_ret2
          exact ⟨_, by rw [HF.out]; rfl, by rw [HF.out]; simpa using (HI.out.1.drewN d).drewN _, below_drewN (below_drewN HI.out.2.1 d) _⟩
        · have f2 : decide ((n : Int) - k < (x : Int) + 8) = false := by simp; omega
          have hb1 : k + 4 + x + 4 ≤ n := by omega
          go_wp2_with fail
          refine (rnumber23 _ _ _ _ _ HN.out (by omega)).mono ?_; rintro e w' ⟨rfl, d, rfl⟩
          rw [HX.out]
          have HN1 := Lib.hid (show Nums (wr.drewN d) .u8 (wr.drewN d).heap.size (some (ad.add (k + 4 + x))) (n - (k + 4 + x)) (c - (k + 4 + x)) (l.drop (k + 4 + x)) by
            have := HFUL.out.cut (k := k + 4 + x) (by omega); rw [if_neg (by omega)] at this; exact this.keep (below_drewN (Below.refl _ _) d) (Nat.le_refl _))
          have HN2 := Lib.hid (show Nums (wr.drewN d) .u8 (wr.drewN d).heap.size (some (ad.add k)) (4 + x) (c - k) ((l.drop k).take (4 + x)) from (HN.out.pre (by omega)).keep (below_drewN (Below.refl _ _) d) (Nat.le_refl _))
          have HBD := Lib.hid (below_drewN HI.out.2.1 d)
          have HRD := Lib.hid (HI.out.1.drewN d)
          go_wp2_with fail
          generalize wr.drewN d = wd at *
          have HN3 := Lib.hid (show Nums wd .u8 wd.heap.size (some (ad.add k)) (k + 4 + x - k) (c - k) ((l.drop k).take (4 + x)) by rw [show k + 4 + x - k = 4 + x by omega]; exact HN2.out)
          have edd : (l.drop k).drop (4 + x) = l.drop (k + 4 + x) := by rw [List.drop_drop]; congr 1; omega
          rw [edd] at hfirst
          have hnp : Nums wd .u8 wd.heap.size (some ((ad.add k).add 4)) x (c - k - 4) (((l.drop k).drop 4).take x) := by
            have h1 := HN2.out.cut (k := 4) (by omega)
            rw [if_neg (by omega)] at h1
            rw [show 4 + x - 4 = x from by omega, List.drop_take, show 4 + x - 4 = x from by omega] at h1
            exact h1
          have HNp := Lib.hid hnp
          clear hnp edd
          by_cases hc : Jn.val (l.drop (k + 4 + x)) = Jn.chk ((l.drop k).take (4 + x))
          · have f3 : (Jn.val (l.drop (k + 4 + x)) != Jn.chk ((l.drop k).take (4 + x))) = false := by simpa using hc
            have hr := Jn.read_some (show Jn.first (l.drop k) = some x by rw [hfirst.out, if_neg (by omega), if_pos hc])
            have hfin := HI.out.2.2.1
            rw [hr] at hfin
            have HF := Lib.hid hfin
            clear hr hfin hc hfirst
            refine wp_region_aft (by kernel_rfl) (by kernel_rfl) ?_
            repeat (go_big_quiet_step (first | with_reducible exact Calls.aft_drew (rnumber23 _ _ _ _ _ (HN1.out.aft _) (by omega)) | with_reducible exact Calls.aft_same (rvalue23 _ _ _ _ _ (HN2.out.aft _) (by omega)) | with_reducible exact Calls.aft_same (rvalue23 _ _ _ _ _ (HN3.out.aft _) (by omega))))
            refine wpQuiet_nil ?_
            rintro w1 ⟨⟨_, hb1'⟩, rfl⟩
            have HB1 := Lib.hid hb1'
            clear hb1'
            have HO1 := Lib.hid (HRD.out.below HB1.out)
            have HBW := Lib.hid (HBD.out.trans (HB1.out.mono HBD.out.size))
            have HPL := Lib.hid (show Nums w1 .u8 w1.heap.size (some (ad.add (k + 4))) x (c - (k + 4)) (((l.drop k).drop 4).take x) by
              have h1 := H.out.keep HBW.out HBW.out.size
              have h2 := h1.cut (k := k + 4) (by omega)
              rw [if_neg (by omega)] at h2
              have h3 := h2.pre (k := x) (by omega)
              rw [List.drop_drop]; exact h3)
            have hbe : Below w1.heap.size w1 (w1.alloc (.cells #[] 5)) := (Below.refl _ _).alloc (Nat.le_refl _) _
            have HPE := Lib.hid (HPL.out.keep hbe hbe.size)
            have HPE2 := Lib.hid (show Nums (w1.alloc (.cells #[] 5)) .u8 (w1.alloc (.cells #[] 5)).heap.size (some (ad.add (k + 4))) (k + 4 + x - (k + 4)) (c - (k + 4)) (((l.drop k).drop 4).take x) by rw [show k + 4 + x - (k + 4) = x by omega]; exact HPE.out)
            have HBE := Lib.hid hbe
            have HQ1 := Lib.hid (show ([] : List Int).length + (k + 4 + x - (k + 4)) ≤ maxLen by have := HS.out; simp only [maxLen, List.length_nil]; omega)
            have HQ2 := Lib.hid (show (([] : List Int).length + (k + 4 + x - (k + 4))) * 1 ≤ 140737488355328 by have := HS.out; simp only [List.length_nil]; omega)
            have HQ3 := Lib.hid hbe.size
            have HGR := Lib.hid (fun (v2 : Value) (w2 : World) (h : (w1.alloc (.cells #[] 5)).grownBy w2 (Value.slice (some ⟨w1.heap.size, 0, none⟩) 0 0).ownBlock) => (Own.grow (w0 := w1) (B := w1.heap.size) (Own.empty w1 5 .u8) hbe h hbe.size (Nat.le_refl _) : Below w1.heap.size w1 w2))
            have HRE := Lib.hid (HO1.out.below hbe)
            clear hbe
            go_wp2_with (first
              | (at_builtin; refine app_ints _ rfl (.tmp 46) (.tmp 54) _ rfl w1.heap.size 5 1 .u8 byte_info Try.underlying22 _ [] rfl (Own.empty w1 _ _) (w1.alloc (.cells #[] 5)).heap.size (some (ad.add (k + 4))) _ (c - (k + 4)) (((l.drop k).drop 4).take x) rfl HPE2.out HQ1.out HQ2.out HQ3.out ?_; intro v2 w2 hown2 hgrow2; (have hb12 : Below w1.heap.size w1 w2 := HGR.out v2 w2 hgrow2); rw [List.nil_append] at hown2; (have HY := Lib.hid (hown2.base_le HBW.out.size)); (have HR2 := Lib.hid (HO1.out.below hb12)); (have HB2 := Lib.hid (HBW.out.trans (hb12.mono HBW.out.size))); obtain ⟨A2, c2, rfl, _⟩ := hown2.nums HPL.out.wf; clear hown2 hgrow2 hb12)
              | (at_builtin; refine app_row _ rfl (.tmp 45) (.tmp 56) _ rfl w.heap.size 22 5 (by decide) 24 .u8 rows_info Try.underlying33 _ ps rfl (HR2.out.below (by exact (Below.refl _ _).alloc (Nat.le_refl _) _)) _ _ (HY.out.alloc _) _ rfl (by simp [go_sem]) rfl (by have := HI.out.2.2.2; have := HS.out; simp only [maxLen]; omega) (by have := HI.out.2.2.2; have := HS.out; omega) (by have := HB2.out.size; simp; omega) ?_; intro v' w' hown' hgrow)
              | fail)
            go_roundw
            case rel =>
              refine ⟨k + (x + 8), ps ++ [((l.drop k).drop 4).take x], by omega, congrArg (Value.int .i64) (by omega), hown', ?_, ?_, ?_⟩
              · exact OwnRows.grow (HR2.out.below ((Below.refl _ _).alloc (Nat.le_refl _) _)) (HB2.out.alloc HB2.out.size _) hgrow (by have := HB2.out.size; simp; omega) (Nat.le_refl _)
              · rw [HF.out, List.drop_drop]; simp; omega
              · have := HI.out.2.2.2; simp; omega
            case measure => simp [intOf]; omega
          · have f3 : (Jn.val (l.drop (k + 4 + x)) != Jn.chk ((l.drop k).take (4 + x))) = true := by simpa using hc
            have hr : Jn.read (l.drop k) = ([], 0) := Jn.read_none (by rw [hfirst.out, if_neg (by omega), if_neg hc])
            have hfin := HI.out.2.2.1
            rw [hr] at hfin
            have HF := Lib.hid hfin
            clear hr hfin hc hfirst
            refine wp_region_aft (by kernel_rfl) (by kernel_rfl) ?_
            repeat (go_big_quiet_step (first | with_reducible exact Calls.aft_drew (rnumber23 _ _ _ _ _ (HN1.out.aft _) (by omega)) | with_reducible exact Calls.aft_same (rvalue23 _ _ _ _ _ (HN2.out.aft _) (by omega)) | with_reducible exact Calls.aft_same (rvalue23 _ _ _ _ _ (HN3.out.aft _) (by omega))))
            refine wpQuiet_nil ?_
            rintro w1 ⟨⟨_, hb1'⟩, rfl⟩
            have HB1 := Lib.hid hb1'
            clear hb1'
            go_wp2_with fail
            go_ret2
            exact ⟨_, by rw [HF.out]; rfl, by rw [HF.out]; simpa using HRD.out.below HB1.out, HBD.out.trans (HB1.out.mono HBD.out.size)⟩
    · have hr : Jn.read (l.drop k) = ([], 0) := Jn.read_none (by unfold Jn.first; rw [if_pos (by rw [List.length_drop, H.out.len]; omega)])
      have hfin := HI.out.2.2.1
      rw [hr] at hfin
      have HF := Lib.hid hfin
      have g8 : decide ((8 : Int) ≤ (n : Int) - k) = false := by simp; omega
      clear hr hfin
      go_wp2_with fail
      go_ret2
      exact ⟨_, by rw [HF.out]; rfl, by rw [HF.out]; simpa using HI.out.1, HI.out.2.1⟩
end Go.Proofs.Ytjhdhnefoclccaa
