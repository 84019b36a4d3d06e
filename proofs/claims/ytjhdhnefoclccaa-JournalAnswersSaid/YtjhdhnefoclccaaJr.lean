/- Journals: the payloads of the whole frames of some bytes. -/
import Derived.Test.YtjhdhnefoclccaaJf
import Derived.Test.YtjhdhnefoclccaaMat
namespace Go.Proofs.Ytjhdhnefoclccaa
open Go.RowKit
namespace Jn
/-- the length of the payload of the whole frame with which some bytes begin -/
def first (b : List Int) : Option Nat :=
  if b.length < 8 then none
  else if 4096 < val b ∨ (b.length : Int) < val b + 8 then none
  else if val (b.drop (4 + (val b).toNat)) = chk (b.take (4 + (val b).toNat)) then some (val b).toNat
  else none
def readF : Nat → List Int → List (List Int) × Nat
  | 0, _ => ([], 0)
  | f + 1, b => match first b with
    | none => ([], 0)
    | some n => ((b.drop 4).take n :: (readF f (b.drop (n + 8))).1, n + 8 + (readF f (b.drop (n + 8))).2)
def read (b : List Int) : List (List Int) × Nat := readF (b.length + 1) b
theorem first_len {b : List Int} {n : Nat} (h : first b = some n) : n + 8 ≤ b.length ∧ n ≤ 4096 ∧ 8 ≤ b.length := by
  unfold first at h
  split at h
  · cases h
  · split at h
    · cases h
    · split at h
      · injection h with h; omega
      · cases h
theorem readF_more : ∀ (f f' : Nat) (b : List Int), b.length < f → b.length < f' → readF f b = readF f' b := by
  intro f
  induction f with
  | zero => intro f' b h; omega
  | succ f ih =>
    intro f' b h h'
    cases f' with
    | zero => omega
    | succ f' =>
      simp only [readF]
      cases hn : first b with
      | none => rfl
      | some n =>
        have := first_len hn
        simp only
        rw [ih f' (b.drop (n + 8)) (by rw [List.length_drop]; omega) (by rw [List.length_drop]; omega)]
theorem read_none {b : List Int} (h : first b = none) : read b = ([], 0) := by simp only [read, readF, h]
theorem read_some {b : List Int} {n : Nat} (h : first b = some n) : read b = ((b.drop 4).take n :: (read (b.drop (n + 8))).1, n + 8 + (read (b.drop (n + 8))).2) := by
  have := first_len h
  have e : readF b.length (b.drop (n + 8)) = read (b.drop (n + 8)) := readF_more _ _ _ (by rw [List.length_drop]; omega) (by omega)
  show readF (b.length + 1) b = _
  simp only [readF, h, e]
theorem read_le (f : Nat) : ∀ b : List Int, (readF f b).2 ≤ b.length ∧ 8 * (readF f b).1.length ≤ b.length := by
  induction f with
  | zero => intro b; simp [readF]
  | succ f ih =>
    intro b
    simp only [readF]
    cases hn : first b with
    | none => simp
    | some n =>
      have h1 := first_len hn
      have h2 := ih (b.drop (n + 8))
      rw [List.length_drop] at h2
      simp only [List.length_cons]
      omega
theorem val_bd {b : List Int} (h : ∀ x ∈ b, (Lit.int .u8 x).wf = true) : 0 ≤ val b ∧ val b < 4294967296 := by
  have hg : ∀ i, 0 ≤ b.getD i 0 ∧ b.getD i 0 ≤ 255 := fun i => by
    by_cases hi : i < b.length
    · have : b.getD i 0 ∈ b := by simp [List.getD, List.getElem?_eq_getElem hi]
      exact bounds_u8 (h _ this)
    · simp [List.getD, List.getElem?_eq_none (Nat.le_of_not_lt hi)]
  have := hg 0; have := hg 1; have := hg 2; have := hg 3
  unfold val; omega
end Jn
theorem Nums.aft {w : World} {kd : IntKind} {A : Option Addr} {n c : Nat} {l : List Int} (h : Nums w kd w.heap.size A n c l) (x : Aft w) : Nums x.now kd x.now.heap.size A n c l := h.keep x.below x.below.size
def GivesRead (r : List (List Int) × Nat) (w : World) (e : Ending) (w' : World) : Prop :=
  ∃ v, e = .returned (.tuple #[v, .int .i64 r.2]) ∧ OwnRows w' w.heap.size 22 5 .u8 v r.1 ∧ Below w.heap.size w w'
theorem rows_info : (Try.prog.info? 22).map (fun i => (i.zero, i.size, i.bytes)) = some (some (.slice none 0 0), 1, 24) := by kernel_rfl
set_option maxRecDepth 100000 in
set_option maxHeartbeats 800000 in
theorem read23 (A : Option Addr) (n c : Nat) (l : List Int) (w : World) (h : Nums w .u8 w.heap.size A n c l) (hs : n ≤ 1000000) :
    Calls Try.prog 17 #[.slice A n c] w (GivesRead (Jn.read l) w) := by
  have H := Lib.hid h
  have HS := Lib.hid hs
  have hcap := h.cap
  have hmx : c ≤ 9223372036854775807 := by have := h.max; unfold maxLen at this; exact this
  clear h hs
  go_enter Try.func17, Try.ntmps17
  go_wp2_with fail
  go_step3
  go_wp2_with fail
  go_step3
  go_wp2_with fail
  go_loopw [4, 5] (fun v r wr => ∃ (k : Nat) (ps : List (List Int)), k ≤ n ∧ r = .int .i64 k ∧ Hid (OwnRows wr w.heap.size 22 5 .u8 v ps ∧ Below w.heap.size w wr ∧ Jn.read l = (ps ++ (Jn.read (l.drop k)).1, k + (Jn.read (l.drop k)).2) ∧ ps.length ≤ k)) (fun _ r _ => n - (intOf r).toNat)
  case atStart => exact ⟨0, [], by omega, rfl, OwnRows.nil _ _ _ _ _, Below.refl _ _, by simp, by simp⟩
  case round =>
    obtain ⟨k, ps, hk, rfl, HI⟩ := hrel
    by_cases hck : c = k
    · have hkn : k = n := by omega
      have hr : Jn.read (l.drop k) = ([], 0) := Jn.read_none (by unfold Jn.first; rw [if_pos (by rw [List.length_drop, H.out.len]; omega)])
      have hfin := HI.out.2.2.1
      rw [hr] at hfin
      have HF := Lib.hid hfin
      clear hr hfin
      subst hck
      subst hkn
      go_wp2_with fail
      go_ret2
      exact ⟨_, by rw [HF.out]; rfl, by rw [HF.out]; simpa using HI.out.1, HI.out.2.1⟩
    · have hn0 := H.out.cut hk
      rw [if_neg hck] at hn0
      obtain ⟨ad, rfl⟩ : ∃ ad, A = some ad := by
        cases A with
        | none => have := H.out.zero rfl; omega
        | some ad => exact ⟨ad, rfl⟩
      have HN := Lib.hid (hn0.keep HI.out.2.1 HI.out.2.1.size)
      clear hn0
      obtain ⟨m, rfl⟩ : ∃ m, n = k + m := ⟨n - k, by omega⟩
      rw [Nat.add_sub_cancel_left] at HN
      by_cases h8 : 8 ≤ m
      · have hvb := Jn.val_bd HN.out.wf
        obtain ⟨x, hx⟩ := Int.eq_ofNat_of_zero_le hvb.1
        have hx' : x < 4294967296 := by omega
        have HX := Lib.hid hx
        have hfirst : Hid (Jn.first (l.drop k) = if 4096 < (x : Int) ∨ (m : Int) < (x : Int) + 8 then none else if Jn.val ((l.drop k).drop (4 + x)) = Jn.chk ((l.drop k).take (4 + x)) then some x else none) := by
          unfold Jn.first; rw [if_neg (by rw [HN.out.len]; omega), hx, HN.out.len]; exact Lib.hid rfl
        clear hvb hx
        clear hx'
        have g8 : decide ((m : Int) < 8) = false := by simp; omega
        by_cases ha : 4096 < x
        · have f1 : decide (4096 < (x : Int)) = true := by simp; omega
          have hr : Jn.read (l.drop k) = ([], 0) := Jn.read_none (by rw [hfirst.out, if_pos (by omega)])
          have hfin := HI.out.2.2.1
          rw [hr] at hfin
          have HF := Lib.hid hfin
          clear hr hfin ha
          go_wp2_with fail
          refine (value23 _ _ _ _ _ HN.out (by omega)).mono ?_; rintro e w' ⟨rfl, d, rfl⟩
          rw [HX.out]
          go_wp2_with fail
          go_ret2
          exact ⟨_, by rw [HF.out]; rfl, by rw [HF.out]; simpa using HI.out.1.drewN d, below_drewN HI.out.2.1 d⟩
        · have f1 : decide (4096 < (x : Int)) = false := by simp; omega
          have hx1 : (x : Int) ≤ 4096 := by omega
          clear ha
          by_cases hb : m < x + 8
          · have f2 : decide ((m : Int) < 4 + (x : Int) + 4) = true := by simp; omega
            have hr : Jn.read (l.drop k) = ([], 0) := Jn.read_none (by rw [hfirst.out, if_pos (by omega)])
            have hfin := HI.out.2.2.1
            rw [hr] at hfin
            have HF := Lib.hid hfin
            clear hr hfin hb
            go_wp2_with fail
            refine (value23 _ _ _ _ _ HN.out (by omega)).mono ?_; rintro e w' ⟨rfl, d, rfl⟩
            rw [HX.out]
            go_wp2_with fail
            go_ret2
            exact ⟨_, by rw [HF.out]; rfl, by rw [HF.out]; simpa using HI.out.1.drewN d, below_drewN HI.out.2.1 d⟩
          · have f2 : decide ((m : Int) < 4 + (x : Int) + 4) = false := by simp; omega
            have hb1 : 4 + (x : Int) ≤ m := by omega
            have hb2 : 4 + x ≤ m := by omega
            go_wp2_with fail
            refine (value23 _ _ _ _ _ HN.out (by omega)).mono ?_; rintro e w' ⟨rfl, d, rfl⟩
            rw [HX.out]
            go_wp2_with fail
            have HN1 := Lib.hid (show Nums (wr.drewN d) .u8 (wr.drewN d).heap.size (some ((ad.add k).add (4 + x))) (m - (4 + x)) (c - k - (4 + x)) ((l.drop k).drop (4 + x)) by
              have := HN.out.cut hb2; rw [if_neg (by omega)] at this; exact this.keep (below_drewN (Below.refl _ _) d) (Nat.le_refl _))
            have HN2 := Lib.hid (show Nums (wr.drewN d) .u8 (wr.drewN d).heap.size (some (ad.add k)) (4 + x) (c - k) ((l.drop k).take (4 + x)) from (HN.out.pre hb2).keep (below_drewN (Below.refl _ _) d) (Nat.le_refl _))
            have HBD := Lib.hid (below_drewN HI.out.2.1 d)
            have HRD := Lib.hid (HI.out.1.drewN d)
            generalize wr.drewN d = wd at *
            have hnp : Nums wd .u8 wd.heap.size (some ⟨(ad.add k).block, (ad.add k).off + 4, none⟩) x (c - k - 4) (((l.drop k).drop 4).take x) := by
              have h1 := HN2.out.cut (k := 4) (by omega)
              rw [if_neg (by omega)] at h1
              have e1 : (some (ad.add k)).map (fun a => a.add 4) = some (⟨(ad.add k).block, (ad.add k).off + 4, none⟩ : Addr) := by simp [Addr.add]
              rw [e1, show 4 + x - 4 = x from by omega, List.drop_take, show 4 + x - 4 = x from by omega] at h1
              exact h1
            have HNp := Lib.hid hnp
            clear hnp
            by_cases hc : Jn.val ((l.drop k).drop (4 + x)) = Jn.chk ((l.drop k).take (4 + x))
            · have f3 : (Jn.val ((l.drop k).drop (4 + x)) != Jn.chk ((l.drop k).take (4 + x))) = false := by simpa using hc
              have f4 : (Jn.val ((l.drop k).drop (4 + x)) == Jn.chk ((l.drop k).take (4 + x))) = true := by simpa using hc
              have hr := Jn.read_some (show Jn.first (l.drop k) = some x by rw [hfirst.out, if_neg (by omega), if_pos hc])
              have hfin := HI.out.2.2.1
              rw [hr] at hfin
              have HF := Lib.hid hfin
              clear hr hfin hc
              generalize (l.drop k).drop (4 + x) = lb at *
              generalize (l.drop k).take (4 + x) = la at *
              refine wp_region_aft (by kernel_rfl) (by kernel_rfl) ?_
              repeat (go_big_quiet_step (first | with_reducible exact Calls.aft_drew (value23 _ _ _ _ _ (HN1.out.aft _) (by omega)) | with_reducible exact Calls.aft_same (check23 _ _ _ _ _ (HN2.out.aft _) (by omega))))
              refine wpQuiet_nil ?_
              rintro w1 ⟨⟨_, hb1⟩, rfl⟩
              have HB1 := Lib.hid hb1
              clear hb1
              have HO1 := Lib.hid (HRD.out.below HB1.out)
              have HBW := Lib.hid (HBD.out.trans (HB1.out.mono HBD.out.size))
              have hn3 := HNp.out.keep HB1.out HB1.out.size
              have HN3 := Lib.hid hn3
              clear hn3
              go_wp2_with fail
              refine (clone_any _ _ _ _ _ HN3.out (by omega)).mono ?_; rintro e w2 ⟨v2, rfl, hown2, hb2⟩
              have HY := Lib.hid (hown2.base_le HBW.out.size)
              have HR2 := Lib.hid (HO1.out.below hb2)
              have HB2 := Lib.hid (HBW.out.trans (hb2.mono HBW.out.size))
              obtain ⟨A2, c2, rfl, _⟩ := hown2.nums HN3.out.wf
              clear hown2 hb2
              go_wp2_with (at_builtin; refine app_row _ rfl (.tmp 37) (.tmp 42) _ rfl w.heap.size 22 5 (by decide) 24 .u8 rows_info Try.underlying33 u4 ps rfl (HR2.out.below (by exact (Below.refl _ _).alloc (Nat.le_refl _) _)) _ _ (HY.out.alloc _) _ rfl (by simp [go_sem]) rfl (by have := HI.out.2.2.2; have := HS.out; simp only [maxLen]; omega) (by have := HI.out.2.2.2; have := HS.out; omega) (by have := HB2.out.size; simp; omega) ?_; intro v' w' hown' hgrow)
              go_roundw
              case rel =>
                refine ⟨k + (x + 8), ps ++ [((l.drop k).drop 4).take x], by omega, congrArg (Value.int .i64) (by omega), hown', ?_, ?_, ?_⟩
                · exact OwnRows.grow (HR2.out.below ((Below.refl _ _).alloc (Nat.le_refl _) _)) (HB2.out.alloc HB2.out.size _) hgrow (by have := HB2.out.size; simp; omega) (Nat.le_refl _)
                · rw [HF.out, List.drop_drop]; simp; omega
                · have := HI.out.2.2.2; simp; omega
              case measure => simp [intOf]; omega
            · have f3 : (Jn.val ((l.drop k).drop (4 + x)) != Jn.chk ((l.drop k).take (4 + x))) = true := by simpa using hc
              have f4 : (Jn.val ((l.drop k).drop (4 + x)) == Jn.chk ((l.drop k).take (4 + x))) = false := by simpa using hc
              have hr : Jn.read (l.drop k) = ([], 0) := Jn.read_none (by rw [hfirst.out, if_neg (by omega), if_neg hc])
              have hfin := HI.out.2.2.1
              rw [hr] at hfin
              have HF := Lib.hid hfin
              clear hr hfin hc
              generalize (l.drop k).drop (4 + x) = lb at *
              generalize (l.drop k).take (4 + x) = la at *
              refine wp_region_aft (by kernel_rfl) (by kernel_rfl) ?_
              repeat (go_big_quiet_step (first | with_reducible exact Calls.aft_drew (value23 _ _ _ _ _ (HN1.out.aft _) (by omega)) | with_reducible exact Calls.aft_same (check23 _ _ _ _ _ (HN2.out.aft _) (by omega))))
              refine wpQuiet_nil ?_
              rintro w1 ⟨⟨_, hb1⟩, rfl⟩
              have HB1 := Lib.hid hb1
              clear hb1
              go_wp2_with fail
              go_ret2
              exact ⟨_, by rw [HF.out]; rfl, by rw [HF.out]; simpa using HRD.out.below HB1.out, HBD.out.trans (HB1.out.mono HBD.out.size)⟩
      · have hr : Jn.read (l.drop k) = ([], 0) := Jn.read_none (by unfold Jn.first; rw [if_pos (by rw [HN.out.len]; omega)])
        have hfin := HI.out.2.2.1
        rw [hr] at hfin
        have HF := Lib.hid hfin
        have g8 : decide ((m : Int) < 8) = true := by simp; omega
        clear hr hfin h8
        go_wp2_with fail
        go_ret2
        exact ⟨_, by rw [HF.out]; rfl, by rw [HF.out]; simpa using HI.out.1, HI.out.2.1⟩
end Go.Proofs.Ytjhdhnefoclccaa
