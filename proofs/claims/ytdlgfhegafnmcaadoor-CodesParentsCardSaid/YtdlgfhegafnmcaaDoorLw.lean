/- Codes: Check of a list whose codes are right; the parents. -/
import Derived.Test.YtdlgfhegafnmcaaDoorLv
import Derived.Test.YtdlgfhegafnmcaaDoorLu
import Derived.Test.YtdlgfhegafnmcaaDoorLx
namespace Go.Proofs.YtdlgfhegafnmcaaDoor
open Go.RowKit
set_option maxRecDepth 100000 in
set_option maxHeartbeats 1600000 in
theorem cCheckG01 (s : ByteArray) (hs : Cd.name s = true) (A : Option Addr) (n c : Nat) (L : List Cd.Co)  (w : World) (h : CoRow w w.heap.size A n c L) (hr : Cd.Good L) : Calls Tryd.prog 10 #[.agg #[.string s, .slice A n c]] w fun e w' => ∃ x : Int, e = .returned (.int .i64 x) ∧ ((Cd.Even (Cd.par L) ∧ x = 0) ∨ (¬ Cd.Even (Cd.par L) ∧ x = 5)) ∧ Below w.heap.size w w' := by
  have HR := Lib.hid hr
  have hn60 : n ≤ 60 := by rw [← h.len]; have := hr.tree.few; simpa [Cd.par] using this
  obtain ⟨W, hW⟩ : ∃ W : World, w.alloc (.cells #[.string s, .slice A n c] 25) = W := ⟨_, rfl⟩
  have hb : Below w.heap.size w W := by rw [← hW]; exact (Below.refl _ _).alloc (Nat.le_refl _) _
  have d0 : W.cell? ⟨w.heap.size, 0, none⟩ = some (.string s) := by rw [← hW]; simp [go_sem]
  have d1 : W.cell? ⟨w.heap.size, 1, none⟩ = some (.slice A n c) := by rw [← hW]; simp [go_sem]
  have H := Lib.hid (h.keep hb hb.size)
  have HB := Lib.hid hb
  clear h hr hb
  go_enter Tryd.func10, Tryd.ntmps10
  go_wp2_with fail
  refine (open02 s hs A n c L W H.out HR.out).mono ?_; rintro e w1 (⟨hev, g1, g2, c1, c2, lf, rfl, hl1, hl2, hlf, hb1⟩ | ⟨hev, he, hb1⟩) <;> have HEV := Lib.hid hev <;> clear hev
  · have HB1 := Lib.hid (HB.out.trans (hb1.mono HB.out.size))
    have HT := Lib.hid (show TrOk w1 A n c g1 c1 L from ⟨H.out.keep hb1 hb1.size, hl1, HR.out.tree⟩)
    obtain ⟨V, hV⟩ : ∃ V : World, w1.alloc (.cells #[.slice A n c, .slice (some ⟨g1, 0, none⟩) n c1, .slice (some ⟨g2, 0, none⟩) n c2, .int .i64 (Cd.last (Cd.par L))] 54) = V := ⟨_, rfl⟩
    have hbv : Below w1.heap.size w1 V := by rw [← hV]; exact (Below.refl _ _).alloc (Nat.le_refl _) _
    have v0 : V.cell? ⟨w1.heap.size, 0, none⟩ = some (.slice A n c) := by rw [← hV]; simp [go_sem]
    have v1 : V.cell? ⟨w1.heap.size, 1, none⟩ = some (.slice (some ⟨g1, 0, none⟩) n c1) := by rw [← hV]; simp [go_sem]
    have v2 : V.cell? ⟨w1.heap.size, 2, none⟩ = some (.slice (some ⟨g2, 0, none⟩) n c2) := by rw [← hV]; simp [go_sem]
    have v3 : V.cell? ⟨w1.heap.size, 3, none⟩ = some (.int .i64 (Cd.last (Cd.par L))) := by rw [← hV]; simp [go_sem]
    have HTV := Lib.hid (HT.out.keep hbv)
    have HBV := Lib.hid (HB1.out.trans (hbv.mono HB1.out.size))
    clear hl1 hl2 hlf hb1 hbv
    go_wp2_with fail
    go_ret
    exact ⟨0, rfl, .inl ⟨HEV.out, rfl⟩, HBV.out⟩
  · obtain rfl := he
    have HB1 := Lib.hid (HB.out.trans (hb1.mono HB.out.size))
    clear hb1
    go_wp2_with fail
    go_ret
    exact ⟨5, rfl, .inr ⟨HEV.out, rfl⟩, HB1.out.alloc HB1.out.size _⟩
def Cd.parB (P : List Int) (i : Nat) : Bool := decide (i = 0) || (decide (Cd.up P P.length i (Cd.level P P.length i - 1) = P.getD i 0) && decide (Cd.level P P.length i = Cd.level P P.length (P.getD i 0) + 1) && decide (1 ≤ Cd.level P P.length i) && decide (Cd.level P P.length i ≤ 100))
set_option maxRecDepth 100000 in
theorem Cd.shapes_par : ∀ L ∈ Cd.shapes, (∀ i < L.length, Cd.parB (Cd.par L) i = true) ∧ Cd.level (Cd.par L) L.length 0 = 0 := by decide +kernel
def Cd.ext (L : List Cd.Co) (k : Int) : List Cd.Co := L ++ [Cd.Co.mk ⟨#[100, 101, 101, 112, 101, 114]⟩ k]
def Cd.moreB (L : List Cd.Co) (k : Int) : Bool := Cd.treeB (Cd.par (Cd.ext L k)) && ((Cd.ext L k).all fun x => Cd.nameL x.name.data.toList) && Cd.diffB ((Cd.ext L k).map fun x => x.name.data.toList) && (Cd.evenB (Cd.par (Cd.ext L k)) == decide ((Cd.atUp (Cd.par L) (Cd.last (Cd.par L)) L.length).length = 1))
set_option maxRecDepth 100000 in
theorem Cd.shapes_more : ∀ L ∈ Cd.shapes, ∀ k ∈ Cd.atUp (Cd.par L) (Cd.last (Cd.par L)) L.length, Cd.moreB L k = true := by decide +kernel
theorem Cd.shapes_deep : ∀ L ∈ Cd.shapes, 1 ≤ (Cd.atUp (Cd.par L) (Cd.last (Cd.par L)) L.length).length := by decide +kernel
theorem Cd.even_iff {P : List Int} : Cd.evenB P = true ↔ Cd.Even P := by
  refine ⟨Cd.even_of, fun h => ?_⟩
  unfold Cd.evenB
  simp only [List.all_eq_true, List.mem_range, Bool.or_eq_true, List.any_eq_true, Bool.and_eq_true, decide_eq_true_eq]
  intro k hk
  by_cases he : ∃ q, q < P.length ∧ 0 < q ∧ P.getD q (-1) = k
  · obtain ⟨q, h1, h2, h3⟩ := he
    exact .inl ⟨q, h1, h2, h3⟩
  · exact .inr (h k hk (fun q h1 h2 h3 => he ⟨q, h2, h1, h3⟩))
theorem Cd.more_good {L : List Cd.Co} {k : Int} (h : Cd.moreB L k = true) : Cd.Good (L ++ [Cd.Co.mk ⟨#[100, 101, 101, 112, 101, 114]⟩ k]) ∧ (Cd.Even (Cd.par (L ++ [Cd.Co.mk ⟨#[100, 101, 101, 112, 101, 114]⟩ k])) ↔ (Cd.atUp (Cd.par L) (Cd.last (Cd.par L)) L.length).length = 1) := by
  unfold Cd.moreB Cd.ext at h
  simp only [Bool.and_eq_true, beq_iff_eq] at h
  refine ⟨⟨Cd.tree_of h.1.1.1, fun j hj => ?_, fun i j hij hj e => ?_⟩, ?_⟩
  · rw [Cd.name_L]
    exact List.all_eq_true.1 h.1.1.2 ((L ++ [Cd.Co.mk ⟨#[100, 101, 101, 112, 101, 114]⟩ k]).getD j Cd.Co0) (by rw [List.getD_eq_getElem?_getD, List.getElem?_eq_getElem hj]; exact List.getElem_mem hj)
  · have h4 := h.1.2
    unfold Cd.diffB at h4
    simp only [List.all_eq_true, List.mem_range, List.length_map, decide_eq_true_eq] at h4
    have h5 := h4 j hj i hij
    apply h5
    have hg : ∀ q, q < (L ++ [Cd.Co.mk ⟨#[100, 101, 101, 112, 101, 114]⟩ k]).length → ((L ++ [Cd.Co.mk ⟨#[100, 101, 101, 112, 101, 114]⟩ k]).map fun x => x.name.data.toList).getD q [] = ((L ++ [Cd.Co.mk ⟨#[100, 101, 101, 112, 101, 114]⟩ k]).getD q Cd.Co0).name.data.toList := fun q hq => by
      rw [List.getD_eq_getElem?_getD, List.getD_eq_getElem?_getD, List.getElem?_map, List.getElem?_eq_getElem hq]; rfl
    rw [hg i (by omega), hg j hj, e]
  · rw [← Cd.even_iff, h.2, decide_eq_true_eq]
set_option maxRecDepth 100000 in
set_option maxHeartbeats 1600000 in
theorem walkParents (W : World) (A : Option Addr) (n c : Nat) (l : List Int) (h : Nums W .u8 W.heap.size A n c l) (at0 : Int) (_ : -9223372036854775808 ≤ at0) (_ : at0 ≤ 9223372036854775807) :
    Calls Tryd.prog 7 #[.slice A n c, .int .i64 at0] W fun e w => e = .returned (.bool true) ∧ Below W.heap.size W w := by
  go_enter Tryd.func7, Tryd.ntmps7
  go_wp2_with fail
  refine (new_any A n c l W h).mono ?_; rintro e w1 ⟨rfl, hc1, hb1⟩
  have HB1 := Lib.hid hb1
  clear hb1
  go_wp2_with fail
  refine (list01 ⟨#[111, 110, 101]⟩ _ _ w1 hc1).mono ?_; rintro e w2 ⟨v, L, rfl, ho, hL, hc2, hg2⟩
  obtain ⟨Ar, nr, cr, rfl, hrow⟩ := ho.row
  have HRW := Lib.hid hrow
  have HSH := Lib.hid hL
  have HR := Lib.hid (Cd.shapes_right hL)
  have hnr := Cd.shapes_few L hL
  rw [hrow.len] at hnr
  have HP := Lib.hid (show (Cd.par L).length = nr by rw [← hrow.len]; simp [Cd.par])
  have HB2 := Lib.hid (show Below W.heap.size W w2 from HB1.out.grown hg2 HB1.out.size (fun r e => by injection e with e; omega))
  clear hc1 hg2 ho hrow hc2 hL h
  obtain ⟨X, hX⟩ : ∃ X : World, w2.alloc (.cells #[.string ⟨#[111, 110, 101]⟩, .slice Ar nr cr] 25) = X := ⟨_, rfl⟩
  have hbx : Below w2.heap.size w2 X := by rw [← hX]; exact (Below.refl _ _).alloc (Nat.le_refl _) _
  have d0 : X.cell? ⟨w2.heap.size, 0, none⟩ = some (.string ⟨#[111, 110, 101]⟩) := by rw [← hX]; simp [go_sem]
  have d1 : X.cell? ⟨w2.heap.size, 1, none⟩ = some (.slice Ar nr cr) := by rw [← hX]; simp [go_sem]
  have hsx : w2.heap.size < X.heap.size := by rw [← hX]; simp
  have HBX := Lib.hid (HB2.out.trans (hbx.mono HB2.out.size))
  have HC := Lib.hid (HRW.out.keep hbx hbx.size)
  clear hbx
  go_wp2_with fail
  clear hX
  have HPB := Lib.hid (Cd.shapes_par L HSH.out)
  go_loopw [19] (fun iv wr => ∃ i : Nat, iv = .int .i64 i ∧ i ≤ nr ∧ Hid (Below X.heap.size X wr)) (fun iv _ => nr - (intOf iv).toNat)
  case atStart => exact ⟨0, rfl, by omega, Below.refl _ _⟩
  case round =>
    rename World => Y
    obtain ⟨i, rfl, hil, HI⟩ := hrel
    have d0 := (HI.out.cell hsx).trans d0
    have d1 := (HI.out.cell hsx).trans d1
    have hsy := Nat.lt_of_lt_of_le hsx HI.out.size
    by_cases hlt : i < nr
    · obtain ⟨g, nm, pr, rfl, HV, cn, cp⟩ := (HC.out.keep HI.out HI.out.size).val hlt
      obtain ⟨V, hV⟩ : ∃ V : World, Y.alloc (.cells #[.string nm, .int .i64 pr] 50) = V := ⟨_, rfl⟩
      have hbv : Below Y.heap.size Y V := by rw [← hV]; exact (Below.refl _ _).alloc (Nat.le_refl _) _
      have v1 : V.cell? ⟨Y.heap.size, 1, none⟩ = some (.int .i64 pr) := by rw [← hV]; simp [go_sem]
      have HBV := Lib.hid (HI.out.trans (hbv.mono HI.out.size))
      have HCV := Lib.hid (HC.out.keep HBV.out HBV.out.size)
      have k0 := (hbv.cell hsy).trans d0
      have k1 := (hbv.cell hsy).trans d1
      have i1 : (0 : Int) ≤ (i : Int) := by omega
      have i2 : (i : Int) < (nr : Int) := by omega
      clear hbv
      by_cases hi0 : i = 0
      · subst hi0
        have g25 : decide ((0 : Int) < ((0 : Nat) : Int)) = false := by decide
        have x0 := Aft.cell k0
        have x1 := Aft.cell k1
        have x2 := Aft.cell v1
        clear d0 d1 k0 k1 v1
        go_wp2_with fail
        refine wp_region_aft (by kernel_rfl) (by kernel_rfl) ?_
        repeat (go_big_quiet_step (fail))
        refine wpQuiet_nil ?_
        rintro w9 ⟨⟨_, hb9⟩, rfl⟩
        have HB9 := Lib.hid (HBV.out.trans (hb9.mono HBV.out.size))
        clear hb9
        go_wp2_with fail
        go_roundw
        case rel => exact ⟨1, by go_num, by omega, HB9.out⟩
        case measure => simp [intOf]; omega
      · have hpb := HPB.out.1 i (by rw [HRW.out.len]; exact hlt)
        have hpg : (Cd.par L).getD i 0 = pr := by rw [Cd.par_get HV.out.2.1, HV.out.1]
        unfold Cd.parB at hpb
        rw [HP.out, hpg] at hpb
        simp only [Bool.or_eq_true, Bool.and_eq_true, decide_eq_true_eq, hi0, false_or] at hpb
        obtain ⟨⟨⟨hp1, hp2⟩, hp3⟩, hp4⟩ := hpb
        obtain ⟨q, hq⟩ : ∃ q, Cd.level (Cd.par L) nr pr = q := ⟨_, rfl⟩
        rw [hq] at hp2
        rw [hp2] at hp1 hp3 hp4
        rw [show q + 1 - 1 = q by omega] at hp1
        have c1 : ∀ x : Aft V, Calls Tryd.prog 15 #[.agg #[.string ⟨#[111, 110, 101]⟩, .slice (some ⟨g, 0, none⟩) nr cr], .int .i64 (i : Int)] x.now fun e w' => e = .returned (.int .i64 (q + 1)) ∧ Below x.now.heap.size x.now w' := fun x => by
          have h9 := cLevel01 ⟨#[111, 110, 101]⟩ Cd.one_name _ nr cr L (i : Int) _ (HCV.out.keep x.below x.below.size) HR.out
          rwa [hp2] at h9
        have c2 : ∀ x : Aft V, Calls Tryd.prog 17 #[.agg #[.string ⟨#[111, 110, 101]⟩, .slice (some ⟨g, 0, none⟩) nr cr], .int .i64 (i : Int), .int .i64 q] x.now fun e w' => e = .returned (.int .i64 pr) ∧ Below x.now.heap.size x.now w' := fun x => by
          have h9 := cUp01 ⟨#[111, 110, 101]⟩ Cd.one_name _ nr cr L (i : Int) q _ (HCV.out.keep x.below x.below.size) HR.out
          rwa [hp1] at h9
        have c3 : ∀ x : Aft V, Calls Tryd.prog 15 #[.agg #[.string ⟨#[111, 110, 101]⟩, .slice (some ⟨g, 0, none⟩) nr cr], .int .i64 pr] x.now fun e w' => e = .returned (.int .i64 q) ∧ Below x.now.heap.size x.now w' := fun x => by
          have h9 := cLevel01 ⟨#[111, 110, 101]⟩ Cd.one_name _ nr cr L pr _ (HCV.out.keep x.below x.below.size) HR.out
          rwa [hq] at h9
        have g25 : decide ((0 : Int) < (i : Int)) = true := decide_eq_true (by omega)
        have g25n : decide (0 < i) = true := decide_eq_true (by omega)
        have g36 : (pr != pr) = false := by simp
        have g50 : (q + 1 != q + 1) = false := by simp
        have x0 := Aft.cell k0
        have x1 := Aft.cell k1
        have x2 := Aft.cell v1
        clear d0 d1 k0 k1 v1 hp1 hp2 hq
        go_wp2_with fail
        refine wp_region_aft (by kernel_rfl) (by kernel_rfl) ?_
        repeat (go_big_quiet_step (first | with_reducible exact Calls.aft (c1 _) | with_reducible exact Calls.aft (c2 _) | with_reducible exact Calls.aft (c3 _)))
        refine wpQuiet_nil ?_
        rintro w9 ⟨⟨_, hb9⟩, rfl⟩
        have HB9 := Lib.hid (HBV.out.trans (hb9.mono HBV.out.size))
        clear hb9
        go_wp2_with fail
        go_roundw
        case rel => exact ⟨i + 1, by go_num, by omega, HB9.out⟩
        case measure => simp [intOf]; omega
    · obtain rfl : nr = i := by omega
      have HBY := Lib.hid (HBX.out.trans (HI.out.mono HBX.out.size))
      have HCY := Lib.hid (HC.out.keep HI.out HI.out.size)
      have hla := Cd.last_le (Cd.par L)
      rw [HP.out] at hla
      obtain ⟨la, hlae⟩ : ∃ la, Cd.last (Cd.par L) = la := ⟨_, rfl⟩
      have HLA := Lib.hid hlae
      rw [hlae] at hla
      clear hlae
      go_wp2_with fail
      refine (cLevels01 ⟨#[111, 110, 101]⟩ Cd.one_name Ar nr cr L Y HCY.out HR.out).mono ?_; rintro e w3 ⟨rfl, hb3⟩
      rw [HLA.out]
      have HB3 := Lib.hid (HBY.out.trans (hb3.mono HBY.out.size))
      have HC3 := Lib.hid (HCY.out.keep hb3 hb3.size)
      have d0 := (hb3.cell hsy).trans d0
      have d1 := (hb3.cell hsy).trans d1
      have hsx3 := Nat.lt_of_lt_of_le hsy hb3.size
      clear hb3
      go_wp2_with fail
      refine (cAt01 ⟨#[111, 110, 101]⟩ Cd.one_name Ar nr cr L (la : Int) w3 HC3.out HR.out).mono ?_; rintro e w4 ⟨v4, rfl, ho4, hb4⟩
      have hdeep := Cd.shapes_deep L HSH.out
      rw [HLA.out, HRW.out.len] at hdeep
      obtain ⟨Af, nf, cf, rfl, hnf, hnl⟩ := ho4.numsN01 (Cd.atUp_wf (by omega))
      rw [← hnf] at hdeep
      have HNF := Lib.hid hnl
      have HNFL := Lib.hid hnf
      have hnf9 : nf ≤ 10 := by rw [hnf]; have := Cd.atUp_len (Cd.par L) (la : Int) nr; omega
      have HB4 := Lib.hid (HB3.out.trans (hb4.mono HB3.out.size))
      have HC4 := Lib.hid (HC3.out.keep hb4 hb4.size)
      have d0 := (hb4.cell hsx3).trans d0
      have d1 := (hb4.cell hsx3).trans d1
      have hsx4 := Nat.lt_of_lt_of_le hsx3 hb4.size
      have gz : ((nf : Int) == 0) = false := beq_false_of_ne (by omega)
      clear hb4 ho4 hnl hnf
      go_wp2_with fail
      obtain ⟨m, hm, hmn⟩ : ∃ m : Nat, at0 % (nf : Int) = m ∧ m < nf := ⟨(at0 % (nf : Int)).toNat, by have := Int.emod_nonneg at0 (show (nf : Int) ≠ 0 by omega); omega, by have := Int.emod_lt_of_pos at0 (show (0 : Int) < (nf : Int) by omega); omega⟩
      refine (mod_any at0 (nf : Int) w4 (by omega) (by omega)).mono ?_; rintro e w5 ⟨rfl, rfl⟩
      rw [hm]
      clear hm
      obtain ⟨ad, k, rfl, _, HK, hk, _⟩ := HNF.out.val hmn
      have HMEM := Lib.hid (show k ∈ Cd.atUp (Cd.par L) (la : Int) nr by
        rw [← HK.out.1, List.getD_eq_getElem?_getD, List.getElem?_eq_getElem HK.out.2]
        exact List.getElem_mem HK.out.2)
      have i1 : (0 : Int) ≤ (m : Int) := by omega
      have i2 : (m : Int) < (nf : Int) := by omega
      go_wp2_with fail
      have hB4 : ∀ {w' : World}, Below w4.heap.size w4 w' → w4.heap.size ≤ w'.heap.size := fun h9 => h9.size
      refine wp_region_inv (by kernel_rfl) (fun listed a wv => listed.size = 12 ∧ ∃ x70 x71 x72 x73 x74 x75 x76 x77 x78 x79 x11 : Value, a = ⟨#[Value.slice A n c, Value.int IntKind.i64 at0, undef, undef, u4, Value.pointer (some { block := w2.heap.size, off := 0 }), u6, u7, Value.int IntKind.i64 (↑la + 1), Value.slice (some ad) nf cf, Value.int IntKind.i64 k, x11, undef, Value.slice A n c, Value.pointer (some { block := W.heap.size, off := 0 }), Value.agg #[Value.string { data := #[111, 110, 101] }, Value.slice Ar nr cr], Value.pointer (some { block := w2.heap.size, off := 1 }), Value.slice Ar nr cr, Value.int IntKind.i64 ↑nr, Value.int IntKind.i64 ↑nr, Value.bool false, u21, u22, u23, u24, u25, u26, u27, u28, u29, u30, u31, u32, u33, u34, u35, u36, u37, u38, u39, u40, u41, u42, u43, u44, u45, u46, u47, u48, u49, u50, u51, u52, u53, Value.agg #[Value.string { data := #[111, 110, 101] }, Value.slice Ar nr cr], Value.int IntKind.i64 (↑la + 1), Value.agg #[Value.string { data := #[111, 110, 101] }, Value.slice Ar nr cr], Value.int IntKind.i64 (↑la + 1), Value.int IntKind.i64 ↑la, Value.slice (some ad) nf cf, Value.slice (some ad) nf cf, Value.int IntKind.i64 ↑nf, Value.bool false, Value.slice (some ad) nf cf, Value.int IntKind.i64 at0, Value.slice (some ad) nf cf, Value.int IntKind.i64 ↑nf, Value.int IntKind.i64 ↑m, Value.pointer (some (ad.add m)), Value.int IntKind.i64 k, x70, x71, x72, x73, x74, x75, x76, x77, x78, x79, undef, undef, undef, undef, undef, undef, undef, undef, undef, undef, undef, undef, undef, undef, undef], []⟩ ∧ CF listed [(0, x70, .pointer (some ⟨w2.heap.size, 0, none⟩)), (1, x71, .string ⟨#[111, 110, 101]⟩), (2, x72, .pointer (some ⟨w2.heap.size, 1, none⟩)), (3, x73, .slice Ar nr cr), (5, x75, .int .i64 k), (6, x76, .agg #[.string ⟨#[100, 101, 101, 112, 101, 114]⟩, .int .i64 k])] ∧ PaI w4.heap.size w4 ⟨#[111, 110, 101]⟩ L ⟨#[100, 101, 101, 112, 101, 114]⟩ k listed x74 x77 x78 x11 x79 wv) (fun _ _ _ h => h.1) ?_ ?_ ?_
      · exact ⟨by simp, undef, undef, undef, undef, undef, undef, undef, undef, undef, undef, undef, rfl, CF.start, PaI.start rfl⟩
      · rintro listed a wv i o ⟨hz, x70, x71, x72, x73, x74, x75, x76, x77, x78, x79, x11, rfl, hd, hp⟩ ho hdep hnu
        have hi : i < 12 := by
          rcases Nat.lt_or_ge i 12 with h | h
          · exact h
          · rw [Array.getElem?_eq_none (by simpa using h)] at ho; cases ho
        have hil : i < listed.size := by omega
        have hBv := hB4 hp.bel
        rcases (show i = 0 ∨ i = 1 ∨ i = 2 ∨ i = 3 ∨ i = 4 ∨ i = 5 ∨ i = 6 ∨ i = 7 ∨ i = 8 ∨ i = 9 ∨ i = 10 ∨ i = 11 by omega) with rfl | rfl | rfl | rfl | rfl | rfl | rfl | rfl | rfl | rfl | rfl | rfl
        · have ho' := ho
          simp only [List.getElem?_toArray, List.getElem?_cons_zero, Option.some.injEq] at ho'
          subst ho'
          refine wpOp_value ho rfl (v := .pointer (some ⟨w2.heap.size, 0, none⟩)) (w' := wv) (by simp [execOp, Act.eval, go_sem]) ?_
          exact ⟨by simpa using hz, _, _, _, _, _, _, _, _, _, _, _, rfl, hd.step hil (by intro p hp; simp only [List.mem_cons, List.not_mem_nil, or_false] at hp ⊢; rcases hp with rfl | rfl | rfl | rfl | rfl | rfl <;> first | exact .inl rfl | exact .inr ⟨by simp, by simp⟩), hp.same hil (by decide)⟩
        · have ho' := ho
          simp only [List.getElem?_toArray, List.getElem?_cons_zero, List.getElem?_cons_succ, Option.some.injEq] at ho'
          subst ho'
          have e0 := hd (0, x70, .pointer (some ⟨w2.heap.size, 0, none⟩)) (by simp) (hdep { on := 0, ground := .data } (by simp) rfl)
          simp only at e0
          have c9 := below_cell hp.bel d0
          refine wpOp_value ho rfl (v := .string ⟨#[111, 110, 101]⟩) (w' := wv) (by simp [execOp, Act.eval, go_sem, e0, c9]) ?_
          exact ⟨by simpa using hz, _, _, _, _, _, _, _, _, _, _, _, rfl, hd.step hil (by intro p hp; simp only [List.mem_cons, List.not_mem_nil, or_false] at hp ⊢; rcases hp with rfl | rfl | rfl | rfl | rfl | rfl <;> first | exact .inl rfl | exact .inr ⟨by simp, by simp⟩), hp.same hil (by decide)⟩
        · have ho' := ho
          simp only [List.getElem?_toArray, List.getElem?_cons_zero, List.getElem?_cons_succ, Option.some.injEq] at ho'
          subst ho'
          refine wpOp_value ho rfl (v := .pointer (some ⟨w2.heap.size, 1, none⟩)) (w' := wv) (by simp [execOp, Act.eval, go_sem]) ?_
          exact ⟨by simpa using hz, _, _, _, _, _, _, _, _, _, _, _, rfl, hd.step hil (by intro p hp; simp only [List.mem_cons, List.not_mem_nil, or_false] at hp ⊢; rcases hp with rfl | rfl | rfl | rfl | rfl | rfl <;> first | exact .inl rfl | exact .inr ⟨by simp, by simp⟩), hp.same hil (by decide)⟩
        · have ho' := ho
          simp only [List.getElem?_toArray, List.getElem?_cons_zero, List.getElem?_cons_succ, Option.some.injEq] at ho'
          subst ho'
          have e2 := hd (2, x72, .pointer (some ⟨w2.heap.size, 1, none⟩)) (by simp) (hdep { on := 2, ground := .data } (by simp) rfl)
          simp only at e2
          have c9 := below_cell hp.bel d1
          refine wpOp_value ho rfl (v := .slice Ar nr cr) (w' := wv) (by simp [execOp, Act.eval, go_sem, e2, c9]) ?_
          exact ⟨by simpa using hz, _, _, _, _, _, _, _, _, _, _, _, rfl, hd.step hil (by intro p hp; simp only [List.mem_cons, List.not_mem_nil, or_false] at hp ⊢; rcases hp with rfl | rfl | rfl | rfl | rfl | rfl <;> first | exact .inl rfl | exact .inr ⟨by simp, by simp⟩), hp.same hil (by decide)⟩
        · have ho' := ho
          simp only [List.getElem?_toArray, List.getElem?_cons_zero, List.getElem?_cons_succ, Option.some.injEq] at ho'
          subst ho'
          have e3 := hd (3, x73, .slice Ar nr cr) (by simp) (hdep { on := 3, ground := .data } (by simp) rfl)
          simp only at e3
          refine wpOp_app_codes ho rfl (.const (.slice none 0 0)) (.tmp 73) _ rfl w4.heap.size 24 code_info (by omega) Tryd.underlying23 _ [] rfl (CoOwn.nil _ _) w4.heap.size Ar nr cr L (by simp [Act.eval]; exact e3) (HC4.out.keep hp.bel (Nat.le_refl _)) (by omega) (by simp only [List.length_nil]; omega) hBv ?_
          intro u9 w9 ho9 hg9
          exact ⟨by simpa using hz, _, _, _, _, _, _, _, _, _, _, _, rfl, hd.step hil (by intro p hp; simp only [List.mem_cons, List.not_mem_nil, or_false] at hp ⊢; rcases hp with rfl | rfl | rfl | rfl | rfl | rfl <;> first | exact .inl rfl | exact .inr ⟨by simp, by simp⟩), hp.app1 hil hnu hBv ho9 hg9⟩
        · have ho' := ho
          simp only [List.getElem?_toArray, List.getElem?_cons_zero, List.getElem?_cons_succ, Option.some.injEq] at ho'
          subst ho'
          refine wpOp_value ho rfl (v := .int .i64 k) (w' := wv) (by simp [execOp, Act.eval, go_sem]) ?_
          exact ⟨by simpa using hz, _, _, _, _, _, _, _, _, _, _, _, rfl, hd.step hil (by intro p hp; simp only [List.mem_cons, List.not_mem_nil, or_false] at hp ⊢; rcases hp with rfl | rfl | rfl | rfl | rfl | rfl <;> first | exact .inl rfl | exact .inr ⟨by simp, by simp⟩), hp.same hil (by decide)⟩
        · have ho' := ho
          simp only [List.getElem?_toArray, List.getElem?_cons_zero, List.getElem?_cons_succ, Option.some.injEq] at ho'
          subst ho'
          have e5 := hd (5, x75, .int .i64 k) (by simp) (hdep { on := 5, ground := .data } (by simp) rfl)
          simp only at e5
          refine wpOp_value ho rfl (v := .agg #[.string ⟨#[100, 101, 101, 112, 101, 114]⟩, .int .i64 k]) (w' := wv) (by simp [execOp, Act.eval, go_sem, e5]) ?_
          exact ⟨by simpa using hz, _, _, _, _, _, _, _, _, _, _, _, rfl, hd.step hil (by intro p hp; simp only [List.mem_cons, List.not_mem_nil, or_false] at hp ⊢; rcases hp with rfl | rfl | rfl | rfl | rfl | rfl <;> first | exact .inl rfl | exact .inr ⟨by simp, by simp⟩), hp.same hil (by decide)⟩
        · have ho' := ho
          simp only [List.getElem?_toArray, List.getElem?_cons_zero, List.getElem?_cons_succ, Option.some.injEq] at ho'
          subst ho'
          have e6 := hd (6, x76, .agg #[.string ⟨#[100, 101, 101, 112, 101, 114]⟩, .int .i64 k]) (by simp) (hdep { on := 6, ground := .data } (by simp) rfl)
          simp only at e6
          refine wpOp_value ho rfl (v := .slice (some ⟨wv.heap.size, 0, none⟩) 1 1) (w' := wv.alloc (.cells #[.string ⟨#[100, 101, 101, 112, 101, 114]⟩, .int .i64 k] 50 (0, 0))) (by simp [execOp, Act.eval, go_sem, e6]) ?_
          exact ⟨by simpa using hz, _, _, _, _, _, _, _, _, _, _, _, rfl, hd.step hil (by intro p hp; simp only [List.mem_cons, List.not_mem_nil, or_false] at hp ⊢; rcases hp with rfl | rfl | rfl | rfl | rfl | rfl <;> first | exact .inl rfl | exact .inr ⟨by simp, by simp⟩), hp.lit hil hnu hBv⟩
        · have ho' := ho
          simp only [List.getElem?_toArray, List.getElem?_cons_zero, List.getElem?_cons_succ, Option.some.injEq] at ho'
          subst ho'
          have u4 := hdep { on := 4, ground := .data } (by simp) rfl
          have u7 := hdep { on := 7, ground := .data } (by simp) rfl
          obtain ⟨q, rfl, hq⟩ := hp.li u7 hnu
          refine wpOp_app_code ho rfl (.tmp 74) (.tmp 77) _ rfl w4.heap.size 24 code_info (by omega) Tryd.underlying23 _ _ rfl (hp.ap u4 hnu) q ⟨#[100, 101, 101, 112, 101, 114]⟩ k rfl hq (by rw [HRW.out.len]; omega) hBv ?_
          intro u9 w9 ho9 hg9
          exact ⟨by simpa using hz, _, _, _, _, _, _, _, _, _, _, _, rfl, hd.step hil (by intro p hp; simp only [List.mem_cons, List.not_mem_nil, or_false] at hp ⊢; rcases hp with rfl | rfl | rfl | rfl | rfl | rfl <;> first | exact .inl rfl | exact .inr ⟨by simp, by simp⟩), hp.app2 hil hnu u4 u7 hBv ho9 hg9⟩
        · have ho' := ho
          simp only [List.getElem?_toArray, List.getElem?_cons_zero, List.getElem?_cons_succ, Option.some.injEq] at ho'
          subst ho'
          have e1 := hd (1, x71, .string ⟨#[111, 110, 101]⟩) (by simp) (hdep { on := 1, ground := .data } (by simp) rfl)
          simp only at e1
          have u8 := hdep { on := 8, ground := .data } (by simp) rfl
          obtain ⟨A9, n9, c9v, rfl⟩ : ∃ A n c, x78 = .slice A n c := by obtain ⟨A, n, c, e, _⟩ := (hp.a2 u8).row; exact ⟨A, n, c, e⟩
          refine wpOp_value ho rfl (v := .agg #[.string ⟨#[111, 110, 101]⟩, .slice A9 n9 c9v]) (w' := wv) (by simp [execOp, Act.eval, go_sem, e1]) ?_
          exact ⟨by simpa using hz, _, _, _, _, _, _, _, _, _, _, _, rfl, hd.step hil (by intro p hp; simp only [List.mem_cons, List.not_mem_nil, or_false] at hp ⊢; rcases hp with rfl | rfl | rfl | rfl | rfl | rfl <;> first | exact .inl rfl | exact .inr ⟨by simp, by simp⟩), hp.build hil hnu u8⟩
        · have ho' := ho
          simp only [List.getElem?_toArray, List.getElem?_cons_zero, List.getElem?_cons_succ, Option.some.injEq] at ho'
          subst ho'
          refine wpOp_value ho rfl (v := .pointer (some ⟨wv.heap.size, 0, none⟩)) (w' := wv.alloc (.cells #[.string ⟨#[]⟩, .slice none 0 0] 25 (0, 0))) (by simp [execOp, go_sem]) ?_
          exact ⟨by simpa using hz, _, _, _, _, _, _, _, _, _, _, _, rfl, hd.step hil (by intro p hp; simp only [List.mem_cons, List.not_mem_nil, or_false] at hp ⊢; rcases hp with rfl | rfl | rfl | rfl | rfl | rfl <;> first | exact .inl rfl | exact .inr ⟨by simp, by simp⟩), hp.alloc hil hnu hBv⟩
        · have ho' := ho
          simp only [List.getElem?_toArray, List.getElem?_cons_zero, List.getElem?_cons_succ, Option.some.injEq] at ho'
          subst ho'
          have hall : ∀ k, k < 11 → up listed k := fun k hk => by
            rcases (show k = 0 ∨ k = 1 ∨ k = 2 ∨ k = 3 ∨ k = 4 ∨ k = 5 ∨ k = 6 ∨ k = 7 ∨ k = 8 ∨ k = 9 ∨ k = 10 by omega) with rfl | rfl | rfl | rfl | rfl | rfl | rfl | rfl | rfl | rfl | rfl
            · first | (refine hdep { on := 0, ground := .phase } ?_ rfl; simp; done) | (refine hdep { on := 0, ground := .data } ?_ rfl; simp; done)
            · first | (refine hdep { on := 1, ground := .phase } ?_ rfl; simp; done) | (refine hdep { on := 1, ground := .data } ?_ rfl; simp; done)
            · first | (refine hdep { on := 2, ground := .phase } ?_ rfl; simp; done) | (refine hdep { on := 2, ground := .data } ?_ rfl; simp; done)
            · first | (refine hdep { on := 3, ground := .phase } ?_ rfl; simp; done) | (refine hdep { on := 3, ground := .data } ?_ rfl; simp; done)
            · first | (refine hdep { on := 4, ground := .phase } ?_ rfl; simp; done) | (refine hdep { on := 4, ground := .data } ?_ rfl; simp; done)
            · first | (refine hdep { on := 5, ground := .phase } ?_ rfl; simp; done) | (refine hdep { on := 5, ground := .data } ?_ rfl; simp; done)
            · first | (refine hdep { on := 6, ground := .phase } ?_ rfl; simp; done) | (refine hdep { on := 6, ground := .data } ?_ rfl; simp; done)
            · first | (refine hdep { on := 7, ground := .phase } ?_ rfl; simp; done) | (refine hdep { on := 7, ground := .data } ?_ rfl; simp; done)
            · first | (refine hdep { on := 8, ground := .phase } ?_ rfl; simp; done) | (refine hdep { on := 8, ground := .data } ?_ rfl; simp; done)
            · first | (refine hdep { on := 9, ground := .phase } ?_ rfl; simp; done) | (refine hdep { on := 9, ground := .data } ?_ rfl; simp; done)
            · first | (refine hdep { on := 10, ground := .phase } ?_ rfl; simp; done) | (refine hdep { on := 10, ground := .data } ?_ rfl; simp; done)
          obtain ⟨r, rfl, hr, h9, _⟩ := hp.al (hall 10 (by decide))
          have h9 := h9 hnu
          obtain ⟨A9, n9, c9v, rfl⟩ : ∃ A n c, x78 = .slice A n c := by obtain ⟨A, n, c, e, _⟩ := (hp.a2 (hall 8 (by decide))).row; exact ⟨A, n, c, e⟩
          obtain ⟨_, rfl⟩ := hp.b9 (hall 9 (by decide))
          have c0 := h9.cell0
          have c1 := h9.cell1
          have z0 := h9.thaw 0
          have z1 := h9.thaw 1
          refine wpOp_skip ho rfl (w' := (wv.setCell ⟨r, 0, none⟩ (.string ⟨#[111, 110, 101]⟩)).setCell ⟨r, 1, none⟩ (.slice A9 n9 c9v)) (by simp [execOp, Act.eval, go_sem, c0, c1, z0, z1]) ?_
          exact ⟨by simpa using hz, _, _, _, _, _, _, _, _, _, _, _, rfl, hd.step hil (by intro p hp; simp only [List.mem_cons, List.not_mem_nil, or_false] at hp ⊢; rcases hp with rfl | rfl | rfl | rfl | rfl | rfl <;> first | exact .inl rfl | exact .inr ⟨by simp, by simp⟩), hp.store hil hnu hall hBv rfl⟩
      · rintro listed a wv ⟨hz, x70, x71, x72, x73, x74, x75, x76, x77, x78, x79, x11, rfl, hd, hp⟩ hr
        have hall := all_up2 hr hz (by decide)
        obtain ⟨r, rfl, hr9, _, hlb⟩ := hp.al (hall 12 10 (by omega) (by simp))
        have hlb := hlb (hall 12 11 (by omega) (by simp))
        have ho9 := hp.a2 (hall 12 8 (by omega) (by simp))
        have hb9 := hp.bel
        clear hall hr hd hp hz
        obtain ⟨Ay, ny, cy, rfl, hry⟩ := ho9.row
        have e0 := hlb.cell0
        have e1 := hlb.cell1
        have HRY := Lib.hid hry
        have HB9 := Lib.hid (HB4.out.trans (hb9.mono HB4.out.size))
        have HC9 := Lib.hid (HC4.out.keep hb9 hb9.size)
        have d0 := below_cell hb9 d0
        have d1 := below_cell hb9 d1
        have HLT := Lib.hid hlb.lt
        have HS4 := Lib.hid (Nat.lt_of_lt_of_le hsx4 hb9.size)
        clear hb9 hry ho9 hlb
        have hmore := Cd.shapes_more L HSH.out k (by rw [HLA.out, HRW.out.len]; exact HMEM.out)
        obtain ⟨hgood, hevn⟩ := Cd.more_good hmore
        have HG := Lib.hid hgood
        rw [HLA.out, HRW.out.len, ← HNFL.out] at hevn
        have HEV := Lib.hid hevn
        clear hmore hgood hevn
        by_cases h1 : nf = 1
        · have g1 : ((nf : Int) == 1) = true := by simp [h1]
          have HE1 := Lib.hid (HEV.out.2 h1)
          clear h1 HEV
          go_wp2_with fail
          refine (cCheckG01 ⟨#[111, 110, 101]⟩ Cd.one_name Ay ny cy _ wv HRY.out HG.out).mono ?_; rintro e w5 ⟨xc, rfl, hxc, hb5⟩
          obtain ⟨_, rfl⟩ : Cd.Even (Cd.par (L ++ [Cd.Co.mk ⟨#[100, 101, 101, 112, 101, 114]⟩ k])) ∧ xc = 0 := by
            rcases hxc with h | h
            · exact h
            · exact absurd HE1.out h.1
          have HB5 := Lib.hid (HB9.out.trans (hb5.mono HB9.out.size))
          have HC5 := Lib.hid (HC9.out.keep hb5 hb5.size)
          have d0 := (hb5.cell HS4.out).trans d0
          have d1 := (hb5.cell HS4.out).trans d1
          clear hxc hb5
          go_wp2_with fail
          refine (cLevel01 ⟨#[111, 110, 101]⟩ Cd.one_name Ar nr cr L 0 w5 HC5.out HR.out).mono ?_; rintro e w6 ⟨rfl, hb6⟩
          rw [show Cd.level (Cd.par L) nr 0 = 0 by have := HPB.out.2; rwa [HRW.out.len] at this]
          have HB6 := Lib.hid (HB5.out.trans (hb6.mono HB5.out.size))
          clear hb6
          go_wp2_with fail
          refine (awake01 w6).mono ?_; rintro e wz ⟨rfl, hbz⟩
          have HBZ := Lib.hid (HB6.out.trans (hbz.mono HB6.out.size))
          go_wp2_with fail
          go_ret
          exact ⟨rfl, HBZ.out⟩
        · have g1 : ((nf : Int) == 1) = false := beq_false_of_ne (by omega)
          have HE1 := Lib.hid (show ¬ Cd.Even (Cd.par (L ++ [Cd.Co.mk ⟨#[100, 101, 101, 112, 101, 114]⟩ k])) from fun h => h1 (HEV.out.1 h))
          clear h1 HEV
          go_wp2_with fail
          refine (cCheckG01 ⟨#[111, 110, 101]⟩ Cd.one_name Ay ny cy _ wv HRY.out HG.out).mono ?_; rintro e w5 ⟨xc, rfl, hxc, hb5⟩
          obtain ⟨_, rfl⟩ : ¬ Cd.Even (Cd.par (L ++ [Cd.Co.mk ⟨#[100, 101, 101, 112, 101, 114]⟩ k])) ∧ xc = 5 := by
            rcases hxc with h | h
            · exact absurd h.1 HE1.out
            · exact h
          have HB5 := Lib.hid (HB9.out.trans (hb5.mono HB9.out.size))
          have HC5 := Lib.hid (HC9.out.keep hb5 hb5.size)
          have d0 := (hb5.cell HS4.out).trans d0
          have d1 := (hb5.cell HS4.out).trans d1
          clear hxc hb5
          go_wp2_with fail
          refine (cLevel01 ⟨#[111, 110, 101]⟩ Cd.one_name Ar nr cr L 0 w5 HC5.out HR.out).mono ?_; rintro e w6 ⟨rfl, hb6⟩
          rw [show Cd.level (Cd.par L) nr 0 = 0 by have := HPB.out.2; rwa [HRW.out.len] at this]
          have HB6 := Lib.hid (HB5.out.trans (hb6.mono HB5.out.size))
          clear hb6
          go_wp2_with fail
          refine (awake01 w6).mono ?_; rintro e wz ⟨rfl, hbz⟩
          have HBZ := Lib.hid (HB6.out.trans (hbz.mono HB6.out.size))
          go_wp2_with fail
          go_ret
          exact ⟨rfl, HBZ.out⟩
end Go.Proofs.YtdlgfhegafnmcaaDoor
