/- Approvals: Expired, the reference's. -/
import Derived.Test.YtoomgbddfcmjnaaVc
import Derived.Test.YtoomgbddfcmjnaaIn
import Derived.Sort.Walk0
namespace Go.Proofs.Ytoomgbddfcmjnaa
open Go.RowKit
/-- a text put into its place -/
def Tx.put (out : List Tx) (x : Tx) : List Tx := out.take (out.findIdx fun y => !decide (y < x)) ++ [x] ++ out.drop (out.findIdx fun y => !decide (y < x))
theorem Tx.put_perm (out : List Tx) (x : Tx) : (Tx.put out x).Perm (out ++ [x]) := by
  unfold Tx.put
  rw [List.append_assoc, List.singleton_append]
  refine List.perm_middle.trans ?_
  rw [List.take_append_drop]
  exact (List.perm_append_singleton x out).symm
theorem Tx.put_sorted {out : List Tx} (h : out.Pairwise fun a b => a ≤ b) (x : Tx) : (Tx.put out x).Pairwise fun a b => a ≤ b := by
  obtain ⟨k, hk⟩ : ∃ k, out.findIdx (fun y => !decide (y < x)) = k := ⟨_, rfl⟩
  have hb : ∀ y ∈ out.take k, y < x := by
    intro y hy
    obtain ⟨i, hi, rfl⟩ := List.mem_take_iff_getElem.1 hy
    have := List.not_of_lt_findIdx (p := fun y => !decide (y < x)) (xs := out) (show i < out.findIdx _ by omega)
    simpa using this
  have ha : ∀ y ∈ out.drop k, x ≤ y := by
    intro y hy
    obtain ⟨i, hi, rfl⟩ := List.mem_drop_iff_getElem.1 hy
    have hkl : k < out.length := by omega
    have h0 : x ≤ out[k] := by
      have := List.findIdx_getElem (p := fun y => !decide (y < x)) (xs := out) (w := by omega)
      have h9 : ¬ out[k] < x := by simpa [hk] using this
      exact h9
    rcases Nat.eq_zero_or_pos i with rfl | hi0
    · simpa using h0
    · exact List.le_trans h0 (List.pairwise_iff_getElem.1 h k (k + i) hkl (by omega) (by omega))
  rw [← List.take_append_drop k out, List.pairwise_append] at h
  unfold Tx.put
  rw [hk, List.append_assoc, List.pairwise_append]
  refine ⟨h.1, ?_, ?_⟩
  · rw [List.singleton_append, List.pairwise_cons]
    exact ⟨ha, h.2.1⟩
  · intro a h1 b h2
    rw [List.singleton_append, List.mem_cons] at h2
    rcases h2 with rfl | h2
    · exact List.le_of_lt (hb a h1)
    · exact h.2.2 a h1 b h2
/-- what is put in one after another is what the library sorts -/
theorem Tx.fold_sort (l : List Tx) : l.foldl Tx.put [] = l.mergeSort fun x y => decide (x ≤ y) := by
  suffices h : ∀ (l out : List Tx), out.Pairwise (fun a b => a ≤ b) → (l.foldl Tx.put out).Pairwise (fun a b => a ≤ b) ∧ (l.foldl Tx.put out).Perm (out ++ l) by
    have h1 := h l [] List.Pairwise.nil
    have h2 := List.pairwise_mergeSort (le := fun x y : Tx => decide (x ≤ y)) (fun a b c h1 h2 => by
      simp only [decide_eq_true_eq] at *
      exact List.le_trans h1 h2) (fun a b => by
      simp only [Bool.or_eq_true, decide_eq_true_eq]
      exact List.le_total a b) l
    refine List.Perm.eq_of_pairwise (le := fun a b : Tx => a ≤ b) (fun a b _ _ h1 h2 => List.le_antisymm h1 h2) h1.1 (h2.imp fun h => by simpa using h) ?_
    exact h1.2.trans (List.mergeSort_perm l _).symm
  intro l
  induction l with
  | nil => intro out ho; exact ⟨ho, by simp⟩
  | cons x l ih =>
    intro out ho
    obtain ⟨h1, h2⟩ := ih (Tx.put out x) (Tx.put_sorted ho x)
    refine ⟨h1, ?_⟩
    rw [List.foldl_cons]
    refine h2.trans ?_
    refine ((Tx.put_perm out x).append_right l).trans ?_
    rw [List.append_assoc]
    rfl
theorem actV_eq9 (o : Option Ap) : actV o = .tuple #[apV (o.getD Ap0), .bool o.isSome] := by cases o <;> rfl
theorem exp_take {L : List Ap} {p : Ap → Bool} {j : Nat} {x : Ap} (h : L.getD j Ap0 = x ∧ j < L.length) : (((L.take (j + 1)).filter p).map fun x => txOf x.p).foldl Tx.put [] = if p x = true then Tx.put ((((L.take j).filter p).map fun x => txOf x.p).foldl Tx.put []) (txOf x.p) else (((L.take j).filter p).map fun x => txOf x.p).foldl Tx.put [] := by
  rw [fm_takeA h, List.foldl_append]
  by_cases hp : p x = true
  · rw [if_pos hp, if_pos hp]; rfl
  · rw [if_neg hp, if_neg hp]; rfl
set_option maxHeartbeats 1600000 in
set_option maxRecDepth 100000 in
set_option pp.maxSteps 1000000 in
set_option pp.deepTerms true in
theorem rexpired39 (A : Option Addr) (n c : Nat) (L : List Ap) (a b : Int) (w : World) (h : RRow apRec w w.heap.size A n c L) :
    Calls Try.prog 57 #[.slice A n c, .int .i64 a, .int .i64 b] w (GivesTxE (Ap.exr L a b) w) := by
  have hm : n ≤ 9223372036854775807 := by have := h.cap; have := h.max; unfold maxLen at this; omega
  have HL := Lib.hid h.len
  have HR := Lib.hid h
  clear h
  go_enter Try.func57, Try.ntmps57
  go_wp2_with fail
  refine (rcheck39 A n c L w HR.out).mono ?_; rintro e w1 ⟨rfl, hb⟩
  have HB1 := Lib.hid hb
  have HR1 := Lib.hid (HR.out.keep hb hb.size)
  clear hb HR
  have HN1 := Lib.hid (fun (h : Ap.chk L ≠ 0) => show Ap.exr L a b = ([], Ap.chk L) by unfold Ap.exr; rw [if_pos h])
  have HN2 := Lib.hid (fun (h : Ap.chk L = 0) (h2 : a < 0 ∨ b ≤ a ∨ 1073741824 < b) => show Ap.exr L a b = ([], 43) by unfold Ap.exr; rw [if_neg (by simpa using h), if_pos h2])
  have HN3 := Lib.hid (fun (h : Ap.chk L = 0) (h2 : ¬ (a < 0 ∨ b ≤ a ∨ 1073741824 < b)) => show Ap.exr L a b = ((Ap.exq L a b).mergeSort fun x y => decide (x ≤ y), 0) by unfold Ap.exr; rw [if_neg (by simpa using h), if_neg h2])
  have HOK := Lib.hid (fun (h : Ap.chk L = 0) => Ap.chk_ok.1 h)
  obtain ⟨o, ho⟩ : ∃ o, Ap.chk L = o := ⟨_, rfl⟩
  rw [ho] at HN1 HN2 HN3 HOK ⊢
  clear ho
  by_cases h0 : o = 0
  rotate_left
  · have g1 : (o != 0) = true := by simpa using h0
    have HE := Lib.hid (HN1.out h0)
    clear h0 HN1 HN2 HN3
    go_wp2_with fail
    exact bodyPost_ret (v := .tuple #[.slice none 0 0, .int .i64 o]) (by simp [results, Try.results57, go_sem]) rfl ⟨_, by rw [HE.out], by rw [HE.out]; exact ROwn.nil _ _, HB1.out⟩
  have g1 : (o != 0) = false := by simpa using h0
  replace HN2 := Lib.hid (HN2.out h0)
  replace HN3 := Lib.hid (HN3.out h0)
  replace HOK := Lib.hid (HOK.out h0)
  clear h0 HN1
  by_cases ht : a < 0 ∨ b ≤ a ∨ 1073741824 < b
  · have HE := Lib.hid (HN2.out ht)
    have ht' : decide (a < 0) = true ∨ (decide (a < 0) = false ∧ decide (b ≤ a) = true) ∨ (decide (a < 0) = false ∧ decide (b ≤ a) = false ∧ decide (1073741824 < b) = true) := by
      simp only [decide_eq_true_eq, decide_eq_false_iff_not]; omega
    clear ht HN3
    rcases ht' with g2 | ⟨g2, g3⟩ | ⟨g2, g3, g4⟩
    all_goals
      go_wp2_with fail
      exact bodyPost_ret (v := .tuple #[.slice none 0 0, .int .i64 43]) (by simp [results, Try.results57, go_sem]) rfl ⟨_, by rw [HE.out], by rw [HE.out]; exact ROwn.nil _ _, HB1.out⟩
  have HE := Lib.hid (HN3.out ht)
  have g2 : decide (a < 0) = false := decide_eq_false (by omega)
  have g3 : decide (b ≤ a) = false := decide_eq_false (by omega)
  have g4 : decide (1073741824 < b) = false := decide_eq_false (by omega)
  have hn60 : n ≤ 60 := by have := HOK.out.few; rw [HL.out] at this; exact this
  clear ht HN2 HN3
  go_wp2_with fail
  go_loopw [9, 33] (fun v iv wr => ∃ j : Nat, j ≤ n ∧ iv = .int .i64 j ∧ Hid (Below w1.heap.size w1 wr ∧ ROwn txRec wr w1.heap.size v ((((L.take j).filter (Ap.exp L a b)).map fun x => txOf x.p).foldl Tx.put []))) (fun _ iv _ => n - (intOf iv).toNat)
  case atStart => exact ⟨0, by omega, rfl, Below.refl _ _, ROwn.nil _ _⟩
  case round =>
    rename World => Y
    obtain ⟨j, hj, rfl, HI⟩ := hrel
    by_cases hlt : j < n
    · obtain ⟨ad, yp, yr, yf, yu, rfl, HX, c0, c1, c2, c3⟩ := (HR1.out.keep HI.out.1 HI.out.1.size).ap hlt
      obtain ⟨V, hV, HV⟩ := ap_boxB Y yp yr yf yu
      obtain ⟨_, e0, e1, e2, e3, _⟩ := HV.out.2
      have HVB := Lib.hid (HI.out.1.trans (HV.out.1.mono HI.out.1.size))
      have HVO := Lib.hid (HI.out.2.below HV.out.1)
      have HT := Lib.hid (exp_take (p := Ap.exp L a b) ⟨HX.out.1, HX.out.2.1⟩)
      have HEX := Lib.hid (show Ap.exp L a b ⟨yp, yr, yf, yu⟩ = (decide (yf ≤ a) && (decide (a < yu) && !(L.any fun y => y.has yp b))) from rfl)
      have HLE := Lib.hid (show ((((L.take j).filter (Ap.exp L a b)).map fun x => txOf x.p).foldl Tx.put []).length ≤ 60 by
        rw [Tx.fold_sort, List.length_mergeSort, List.length_map]
        have h1 := List.length_filter_le (Ap.exp L a b) (L.take j)
        have h2 := List.length_take_le j L
        omega)
      go_wp2_with fail
      refine (ractive39 (some ad) n c L yp b V (HR1.out.keep HVB.out HVB.out.size)).mono ?_; rintro e w4 ⟨rfl, hb4⟩
      rw [actV_eq9]
      obtain ⟨ok, hok⟩ : ∃ ok, (Ap.act L yp b).isSome = ok := ⟨_, rfl⟩
      obtain ⟨⟨zp, zr, zf, zu⟩, hzv⟩ : ∃ x, (Ap.act L yp b).getD Ap0 = x := ⟨_, rfl⟩
      rw [hok, hzv]
      rw [Ap.act_some HOK.out] at hok
      rw [hok] at HEX
      clear hok hzv
      obtain ⟨X5, hX5, HX5⟩ := ap_boxB w4 zp zr zf zu
      have h45 : Below V.heap.size V X5 := hb4.trans (HX5.out.1.mono hb4.size)
      have HB5 := Lib.hid (HVB.out.trans (h45.mono HVB.out.size))
      have HO5 := Lib.hid (HVO.out.below h45)
      have HBX := Lib.hid (HV.out.2.keep h45)
      clear e0 e1 e2 e3 hb4 hV h45 HX5
      obtain ⟨_, e0, e1, e2, e3, _⟩ := HBX.out
      simp only [apV]
      rcases ok with _ | _
      rotate_left
      · have HS := Lib.hid (show (((L.take (j + 1)).filter (Ap.exp L a b)).map fun x => txOf x.p).foldl Tx.put [] = (((L.take j).filter (Ap.exp L a b)).map fun x => txOf x.p).foldl Tx.put [] by rw [HT.out, HEX.out]; simp)
        go_wp2_with fail
        go_roundw
        case rel => exact ⟨j + 1, by omega, by go_num, HB5.out, by rw [HS.out]; exact HO5.out⟩
        case measure => simp [intOf]; omega
      rcases g1 : decide (a < yf) with _ | _
      rotate_left
      · have HS := Lib.hid (show (((L.take (j + 1)).filter (Ap.exp L a b)).map fun x => txOf x.p).foldl Tx.put [] = (((L.take j).filter (Ap.exp L a b)).map fun x => txOf x.p).foldl Tx.put [] by
          have : decide (yf ≤ a) = false := decide_eq_false (by have := of_decide_eq_true g1; omega)
          rw [HT.out, HEX.out, this]; simp)
        go_wp2_with fail
        go_roundw
        case rel => exact ⟨j + 1, by omega, by go_num, HB5.out, by rw [HS.out]; exact HO5.out⟩
        case measure => simp [intOf]; omega
      rcases g2 : decide (yu ≤ a) with _ | _
      rotate_left
      · have HS := Lib.hid (show (((L.take (j + 1)).filter (Ap.exp L a b)).map fun x => txOf x.p).foldl Tx.put [] = (((L.take j).filter (Ap.exp L a b)).map fun x => txOf x.p).foldl Tx.put [] by
          have : decide (a < yu) = false := decide_eq_false (by have := of_decide_eq_true g2; omega)
          rw [HT.out, HEX.out, this]; simp)
        go_wp2_with fail
        go_roundw
        case rel => exact ⟨j + 1, by omega, by go_num, HB5.out, by rw [HS.out]; exact HO5.out⟩
        case measure => simp [intOf]; omega
      obtain ⟨O, hO⟩ : ∃ O, (((L.take j).filter (Ap.exp L a b)).map fun x => txOf x.p).foldl Tx.put [] = O := ⟨_, rfl⟩
      have HS := Lib.hid (show (((L.take (j + 1)).filter (Ap.exp L a b)).map fun x => txOf x.p).foldl Tx.put [] = Tx.put O (txOf yp) by
        have h1 : decide (yf ≤ a) = true := decide_eq_true (by have := of_decide_eq_false g1; omega)
        have h2 : decide (a < yu) = true := decide_eq_true (by have := of_decide_eq_false g2; omega)
        rw [HT.out, HEX.out, h1, h2, ← hO]; simp)
      rw [hO] at HLE HO5
      clear hO HI HVO
      obtain ⟨A9, n9, c9, rfl, hn9, hr9⟩ := HO5.out.row
      have HR9 := Lib.hid hr9
      have HN9 := Lib.hid hn9
      have hn9m : n9 ≤ 60 := by rw [hn9]; exact HLE.out
      have hc9 := hr9.cap
      have hcm9 : c9 ≤ 9223372036854775807 := hr9.max
      clear hr9 hn9
      obtain ⟨K, hK⟩ : ∃ K, O.findIdx (fun y => !decide (y < txOf yp)) = K := ⟨_, rfl⟩
      have HPUT := Lib.hid (show Tx.put O (txOf yp) = O.take K ++ [txOf yp] ++ O.drop K by unfold Tx.put; rw [hK])
      have hkn : K ≤ n9 := by rw [HN9.out, ← hK]; exact List.findIdx_le_length
      have HLO := Lib.hid (fun (i : Nat) (hi : i < K) (hi2 : i < O.length) => show O[i] < txOf yp by
        have h1 := List.not_of_lt_findIdx (p := fun y => !decide (y < txOf yp)) (xs := O) (show i < O.findIdx _ by rw [hK]; exact hi)
        simpa using h1)
      have HHI := Lib.hid (fun (hi : K < O.length) => show ¬ O[K] < txOf yp by
        have h1 := List.findIdx_getElem (p := fun y => !decide (y < txOf yp)) (xs := O) (w := by rw [hK]; exact hi)
        simpa [hK] using h1)
      clear hK
      go_wp2_with fail
      clear hX5
      go_loopw [14] (fun iv wr => ∃ k : Nat, k ≤ K ∧ iv = .int .i64 k ∧ Hid (Below X5.heap.size X5 wr)) (fun iv _ => K - (intOf iv).toNat)
      case atStart => exact ⟨0, by omega, rfl, Below.refl _ _⟩
      case round =>
        rename World => U
        obtain ⟨k, hk, rfl, HU⟩ := hrel
        have HXU := Lib.hid (HBX.out.keep HU.out)
        obtain ⟨_, f0, f1, f2, f3, _⟩ := HXU.out
        have HRU := Lib.hid (HR9.out.keep HU.out HU.out.size)
        rcases Nat.lt_or_ge k K with hkK | hkK
        · obtain ⟨ad9, s, rfl, HS9, d0⟩ := HRU.out.tx (show k < n9 by omega)
          have b1 : Op.bytesLess s.toList yp.toList = true := by
            have := HLO.out k hkK HS9.out.2.1
            rw [← getD_getElem HS9.out.2.1 (d := []), HS9.out.1] at this
            rw [bytesLess_eq, ByteArray.toList_eq, ByteArray.toList_eq]
            exact decide_eq_true this
          have k1 : (0 : Int) ≤ (k : Int) := by omega
          have k2 : (k : Int) < (n9 : Int) := by omega
          have k3 : decide ((k : Int) < (n9 : Int)) = true := decide_eq_true k2
          have k4 : decide (k < n9) = true := decide_eq_true (by omega)
          go_wp2_with fail
          go_quiet (fail)
          go_wp2_with fail
          go_roundw
          case rel => exact ⟨k + 1, by omega, by go_num, below_drewN HU.out _⟩
          case measure => simp [intOf]; omega
        · obtain rfl : k = K := by omega
          by_cases hkn9 : k < n9
          · obtain ⟨ad9, s, rfl, HS9, d0⟩ := HRU.out.tx hkn9
            have b1 : Op.bytesLess s.toList yp.toList = false := by
              have := HHI.out HS9.out.2.1
              rw [← getD_getElem HS9.out.2.1 (d := []), HS9.out.1] at this
              rw [bytesLess_eq, ByteArray.toList_eq, ByteArray.toList_eq]
              exact decide_eq_false this
            have k1 : (0 : Int) ≤ (k : Int) := by omega
            have k2 : (k : Int) < (n9 : Int) := by omega
            have k3 : decide ((k : Int) < (n9 : Int)) = true := decide_eq_true k2
            have k4 : decide (k < n9) = true := decide_eq_true (by omega)
            go_wp2_with fail
            go_quiet (fail)
            go_wp2_with fail
            have HUW := Lib.hid (show Below X5.heap.size X5 (U.drewN nq) from below_drewN HU.out nq)
            generalize U.drewN nq = W9 at *
            have HXW := Lib.hid (HBX.out.keep HUW.out)
            have HRW := Lib.hid (HR9.out.keep HUW.out HUW.out.size)
            have HBW := Lib.hid (HB5.out.trans (HUW.out.mono HB5.out.size))
            have nk1 : ¬ (c9 < k) := by omega
            have nk2 : ¬ (n9 < k) := by omega
            refine wp_region_inv (by kernel_rfl) (fun listed ac wv => listed.size = 14 ∧ ∃ x73 x74 x75 x76 x77 x78 x79 x80 x81 x82 x83 x84 x85 yp9 : Value, ac = ⟨#[.slice (some ad) n c, .int .i64 a, .int .i64 b, undef, undef, undef, .slice none 0 0, .int .i64 0, .int .i64 o, yp9, undef, .pointer (some ⟨Y.heap.size, 0, none⟩), .pointer (some ⟨w4.heap.size, 0, none⟩), .bool false, .int .i64 ↑k, .slice (some ad) n c, .int .i64 o, .int .i64 o, .bool false, undef, .int .i64 a, .bool false, .bool false, .int .i64 a, .int .i64 b, .bool false, .bool false, .bool false, .int .i64 b, .bool false, .bool false, .slice (some ad) n c, .int .i64 ↑n, .int .i64 ↑j, .bool true, .pointer (some (ad.add (j * 4))), .agg #[.string yp, .string yr, .int .i64 yf, .int .i64 yu], .tuple #[.agg #[.string zp, .string zr, .int .i64 zf, .int .i64 zu], .bool false], .slice (some ad) n c, .pointer (some ⟨Y.heap.size, 0, none⟩), .string yp, .int .i64 b, .tuple #[.agg #[.string zp, .string zr, .int .i64 zf, .int .i64 zu], .bool false], .agg #[.string zp, .string zr, .int .i64 zf, .int .i64 zu], .bool false, .bool false, .bool false, .int .i64 a, .pointer (some ⟨Y.heap.size, 2, none⟩), .int .i64 yf, .bool false, .bool false, .bool false, .int .i64 a, .pointer (some ⟨Y.heap.size, 3, none⟩), .int .i64 yu, .bool false, .bool false, .int .i64 ↑k, .slice (some ad9) n9 c9, .int .i64 ↑n9, .bool true, .bool true, .slice (some ad9) n9 c9, .int .i64 ↑k, .pointer (some (ad9.add k)), .string s, .pointer (some ⟨Y.heap.size, 0, none⟩), .string yp, .bool false, .bool false, u71, u72, x73, x74, x75, x76, x77, x78, x79, x80, x81, x82, x83, x84, x85, u86, undef], []⟩ ∧ CF listed [(1, x74, .slice (some ad9) n9 c9), (2, x75, .int .i64 ↑k), (3, x76, .slice (some ad9) k c9), (5, x78, .pointer (some ⟨Y.heap.size, 0, none⟩)), (6, x79, .string yp), (9, x82, .slice (some ad9) n9 c9), (10, x83, .int .i64 ↑k), (11, x84, .slice (if c9 = k then (some ad9) else Option.map (fun q => q.add (k * 1)) (some ad9)) (n9 - k) (c9 - k))] ∧ ((up listed 13 → (∀ k, k < 13 → up listed k) ∧ yp9 = x85) ∧ (¬ up listed 13 → yp9 = .slice (some ad9) n9 c9)) ∧ InsI txRec 0 7 4 8 12 W9 (O.take k) (txOf yp) (O.drop k) listed x73 x80 x77 x81 x85 wv) (fun _ _ _ h => h.1) ?_ ?_ ?_
            · exact ⟨by simp, u73, u74, u75, u76, u77, u78, u79, u80, u81, u82, u83, u84, u85, .slice (some ad9) n9 c9, rfl, CF.start, ⟨fun h9 => absurd h9 (up_start _ _), fun _ => rfl⟩, InsI.start⟩
            · rintro listed ac wv i o ⟨hz, x73, x74, x75, x76, x77, x78, x79, x80, x81, x82, x83, x84, x85, yp9, rfl, hd, hq, hp⟩ ho hdep hnu
              have hi : i < 14 := by
                rcases Nat.lt_or_ge i 14 with h | h
                · exact h
                · rw [Array.getElem?_eq_none (by simpa using h)] at ho; cases ho
              have hil : i < listed.size := by omega
              rcases (show i = 0 ∨ i = 1 ∨ i = 2 ∨ i = 3 ∨ i = 4 ∨ i = 5 ∨ i = 6 ∨ i = 7 ∨ i = 8 ∨ i = 9 ∨ i = 10 ∨ i = 11 ∨ i = 12 ∨ i = 13 by omega) with rfl | rfl | rfl | rfl | rfl | rfl | rfl | rfl | rfl | rfl | rfl | rfl | rfl | rfl
              · have ho' := ho
                simp only [List.getElem?_toArray, List.getElem?_cons_zero, Option.some.injEq] at ho'
                subst ho'
                refine wpOp_value ho rfl (v := .slice (some ⟨wv.heap.size, 0, none⟩) 0 0) (w' := wv.alloc (.cells #[] 9 (0, 0))) (by simp [execOp, go_sem]) ?_
                exact ⟨by simpa using hz, _, _, _, _, _, _, _, _, _, _, _, _, _, _, rfl, hd.step hil (by intro p hp; simp only [List.mem_cons, List.not_mem_nil, or_false] at hp ⊢; rcases hp with rfl | rfl | rfl | rfl | rfl | rfl | rfl | rfl <;> first | exact .inl rfl | exact .inr ⟨by simp, by simp⟩), ⟨fun h9 => absurd ((hq.1 ((up_rest hil (by decide)).1 h9)).1 0 (by decide)) hnu, fun h9 => hq.2 (fun h8 => h9 ((up_rest hil (by decide)).2 h8))⟩, hp.empty hil (by decide) (by decide) (by decide) (by decide)⟩
              · have ho' := ho
                simp only [List.getElem?_toArray, List.getElem?_cons_zero, List.getElem?_cons_succ, Option.some.injEq] at ho'
                subst ho'
                have hn13 : ¬ up listed 13 := fun h9 => hnu ((hq.1 h9).1 1 (by decide))
                have ey := hq.2 hn13
                refine wpOp_value ho rfl (v := .slice (some ad9) n9 c9) (w' := wv) (by simp [execOp, Act.eval, go_sem, ey]) ?_
                exact ⟨by simpa using hz, _, _, _, _, _, _, _, _, _, _, _, _, _, _, rfl, hd.step hil (by intro p hp; simp only [List.mem_cons, List.not_mem_nil, or_false] at hp ⊢; rcases hp with rfl | rfl | rfl | rfl | rfl | rfl | rfl | rfl <;> first | exact .inl rfl | exact .inr ⟨by simp, by simp⟩), ⟨fun h9 => absurd ((hq.1 ((up_rest hil (by decide)).1 h9)).1 1 (by decide)) hnu, fun h9 => hq.2 (fun h8 => h9 ((up_rest hil (by decide)).2 h8))⟩, hp.same hil (by decide) (by decide) (by decide) (by decide) (by decide)⟩
              · have ho' := ho
                simp only [List.getElem?_toArray, List.getElem?_cons_zero, List.getElem?_cons_succ, Option.some.injEq] at ho'
                subst ho'
                refine wpOp_value ho rfl (v := .int .i64 ↑k) (w' := wv) (by simp [execOp, Act.eval, go_sem]) ?_
                exact ⟨by simpa using hz, _, _, _, _, _, _, _, _, _, _, _, _, _, _, rfl, hd.step hil (by intro p hp; simp only [List.mem_cons, List.not_mem_nil, or_false] at hp ⊢; rcases hp with rfl | rfl | rfl | rfl | rfl | rfl | rfl | rfl <;> first | exact .inl rfl | exact .inr ⟨by simp, by simp⟩), ⟨fun h9 => absurd ((hq.1 ((up_rest hil (by decide)).1 h9)).1 2 (by decide)) hnu, fun h9 => hq.2 (fun h8 => h9 ((up_rest hil (by decide)).2 h8))⟩, hp.same hil (by decide) (by decide) (by decide) (by decide) (by decide)⟩
              · have ho' := ho
                simp only [List.getElem?_toArray, List.getElem?_cons_zero, List.getElem?_cons_succ, Option.some.injEq] at ho'
                subst ho'
                have e1 := hd (1, x74, .slice (some ad9) n9 c9) (by simp) (hdep { on := 1, ground := .data } (by simp) rfl)
                simp only at e1
                have e2 := hd (2, x75, .int .i64 ↑k) (by simp) (hdep { on := 2, ground := .data } (by simp) rfl)
                simp only at e2
                refine wpOp_value ho rfl (v := .slice (some ad9) k c9) (w' := wv) (by simp [execOp, Act.eval, go_sem, e1, e2, nk1]) ?_
                exact ⟨by simpa using hz, _, _, _, _, _, _, _, _, _, _, _, _, _, _, rfl, hd.step hil (by intro p hp; simp only [List.mem_cons, List.not_mem_nil, or_false] at hp ⊢; rcases hp with rfl | rfl | rfl | rfl | rfl | rfl | rfl | rfl <;> first | exact .inl rfl | exact .inr ⟨by simp, by simp⟩), ⟨fun h9 => absurd ((hq.1 ((up_rest hil (by decide)).1 h9)).1 3 (by decide)) hnu, fun h9 => hq.2 (fun h8 => h9 ((up_rest hil (by decide)).2 h8))⟩, hp.same hil (by decide) (by decide) (by decide) (by decide) (by decide)⟩
              · have ho' := ho
                simp only [List.getElem?_toArray, List.getElem?_cons_zero, List.getElem?_cons_succ, Option.some.injEq] at ho'
                subst ho'
                have e3 := hd (3, x76, .slice (some ad9) k c9) (by simp) (hdep { on := 3, ground := .data } (by simp) rfl)
                simp only at e3
                have hu0 := hdep { on := 0, ground := .data } (by simp) rfl
                obtain ⟨g9, rfl, hg9, hh9, _⟩ := hp.pe hu0 hnu
                refine wpOp_app_recs txRec ho rfl (.tmp 73) (.tmp 76) 39 rfl W9.heap.size (.string ⟨#[]⟩) 16 tx_info rfl (by omega) Try.underlying39 _ [] (by simp [Act.eval]) (ROwn.empty hh9 hg9) W9.heap.size _ _ _ (O.take k) (by simp [Act.eval]; exact e3) ((HRW.out.first hkn).keep hp.bel (Nat.le_refl _)) (by simp only [List.length_nil]; omega) hp.bel.size ?_
                intro u9 w9 ho9 hg9
                exact ⟨by simpa using hz, _, _, _, _, _, _, _, _, _, _, _, _, _, _, rfl, hd.step hil (by intro p hp; simp only [List.mem_cons, List.not_mem_nil, or_false] at hp ⊢; rcases hp with rfl | rfl | rfl | rfl | rfl | rfl | rfl | rfl <;> first | exact .inl rfl | exact .inr ⟨by simp, by simp⟩), ⟨fun h9 => absurd ((hq.1 ((up_rest hil (by decide)).1 h9)).1 4 (by decide)) hnu, fun h9 => hq.2 (fun h8 => h9 ((up_rest hil (by decide)).2 h8))⟩, hp.app1 hil (by decide) (by decide) (by decide) hnu hu0 ho9 hg9⟩
              · have ho' := ho
                simp only [List.getElem?_toArray, List.getElem?_cons_zero, List.getElem?_cons_succ, Option.some.injEq] at ho'
                subst ho'
                refine wpOp_value ho rfl (v := .pointer (some ⟨Y.heap.size, 0, none⟩)) (w' := wv) (by simp [execOp, Act.eval, go_sem]) ?_
                exact ⟨by simpa using hz, _, _, _, _, _, _, _, _, _, _, _, _, _, _, rfl, hd.step hil (by intro p hp; simp only [List.mem_cons, List.not_mem_nil, or_false] at hp ⊢; rcases hp with rfl | rfl | rfl | rfl | rfl | rfl | rfl | rfl <;> first | exact .inl rfl | exact .inr ⟨by simp, by simp⟩), ⟨fun h9 => absurd ((hq.1 ((up_rest hil (by decide)).1 h9)).1 5 (by decide)) hnu, fun h9 => hq.2 (fun h8 => h9 ((up_rest hil (by decide)).2 h8))⟩, hp.same hil (by decide) (by decide) (by decide) (by decide) (by decide)⟩
              · have ho' := ho
                simp only [List.getElem?_toArray, List.getElem?_cons_zero, List.getElem?_cons_succ, Option.some.injEq] at ho'
                subst ho'
                have e5 := hd (5, x78, .pointer (some ⟨Y.heap.size, 0, none⟩)) (by simp) (hdep { on := 5, ground := .data } (by simp) rfl)
                simp only at e5
                obtain ⟨_, b0, _, _, _, _⟩ := HXW.out.keep hp.bel
                refine wpOp_value ho rfl (v := .string yp) (w' := wv) (by simp [execOp, Act.eval, go_sem, e5, b0]) ?_
                exact ⟨by simpa using hz, _, _, _, _, _, _, _, _, _, _, _, _, _, _, rfl, hd.step hil (by intro p hp; simp only [List.mem_cons, List.not_mem_nil, or_false] at hp ⊢; rcases hp with rfl | rfl | rfl | rfl | rfl | rfl | rfl | rfl <;> first | exact .inl rfl | exact .inr ⟨by simp, by simp⟩), ⟨fun h9 => absurd ((hq.1 ((up_rest hil (by decide)).1 h9)).1 6 (by decide)) hnu, fun h9 => hq.2 (fun h8 => h9 ((up_rest hil (by decide)).2 h8))⟩, hp.same hil (by decide) (by decide) (by decide) (by decide) (by decide)⟩
              · have ho' := ho
                simp only [List.getElem?_toArray, List.getElem?_cons_zero, List.getElem?_cons_succ, Option.some.injEq] at ho'
                subst ho'
                have e6 := hd (6, x79, .string yp) (by simp) (hdep { on := 6, ground := .data } (by simp) rfl)
                simp only at e6
                refine wpOp_value ho rfl (v := .slice (some ⟨wv.heap.size, 0, none⟩) 1 1) (w' := wv.alloc (.cells (Rec.cells txRec (txOf yp)).toArray 9 (0, 0))) (by simp [execOp, Act.eval, go_sem, e6, txRec, txOf_val]) ?_
                exact ⟨by simpa using hz, _, _, _, _, _, _, _, _, _, _, _, _, _, _, rfl, hd.step hil (by intro p hp; simp only [List.mem_cons, List.not_mem_nil, or_false] at hp ⊢; rcases hp with rfl | rfl | rfl | rfl | rfl | rfl | rfl | rfl <;> first | exact .inl rfl | exact .inr ⟨by simp, by simp⟩), ⟨fun h9 => absurd ((hq.1 ((up_rest hil (by decide)).1 h9)).1 7 (by decide)) hnu, fun h9 => hq.2 (fun h8 => h9 ((up_rest hil (by decide)).2 h8))⟩, hp.lit hil (by decide) (by decide) (by decide) (by decide)⟩
              · have ho' := ho
                simp only [List.getElem?_toArray, List.getElem?_cons_zero, List.getElem?_cons_succ, Option.some.injEq] at ho'
                subst ho'
                have hu1 := hdep { on := 4, ground := .data } (by simp) rfl
                have hu6 := hdep { on := 7, ground := .data } (by simp) rfl
                obtain ⟨q9, rfl, hq9⟩ := hp.pl hu6 hnu
                refine wpOp_app_recs txRec ho rfl (.tmp 77) (.tmp 80) 39 rfl W9.heap.size (.string ⟨#[]⟩) 16 tx_info rfl (by omega) Try.underlying39 _ (O.take k) (by simp [Act.eval]) (hp.p1 hu1 hnu) wv.heap.size (some ⟨q9, 0, none⟩) 1 1 [(txOf yp)] (by simp [Act.eval]) (RRow.lit (L := [(txOf yp)]) (by simpa [Rec.flat] using hq9) (by simp)) (by have := HRW.out.len; rw [List.length_take]; omega) hp.bel.size ?_
                intro u9 w9 ho9 hg9
                exact ⟨by simpa using hz, _, _, _, _, _, _, _, _, _, _, _, _, _, _, rfl, hd.step hil (by intro p hp; simp only [List.mem_cons, List.not_mem_nil, or_false] at hp ⊢; rcases hp with rfl | rfl | rfl | rfl | rfl | rfl | rfl | rfl <;> first | exact .inl rfl | exact .inr ⟨by simp, by simp⟩), ⟨fun h9 => absurd ((hq.1 ((up_rest hil (by decide)).1 h9)).1 8 (by decide)) hnu, fun h9 => hq.2 (fun h8 => h9 ((up_rest hil (by decide)).2 h8))⟩, hp.app2 hil (by decide) (by decide) hnu hu1 ho9 hg9⟩
              · have ho' := ho
                simp only [List.getElem?_toArray, List.getElem?_cons_zero, List.getElem?_cons_succ, Option.some.injEq] at ho'
                subst ho'
                have hn13 : ¬ up listed 13 := fun h9 => hnu ((hq.1 h9).1 9 (by decide))
                have ey := hq.2 hn13
                refine wpOp_value ho rfl (v := .slice (some ad9) n9 c9) (w' := wv) (by simp [execOp, Act.eval, go_sem, ey]) ?_
                exact ⟨by simpa using hz, _, _, _, _, _, _, _, _, _, _, _, _, _, _, rfl, hd.step hil (by intro p hp; simp only [List.mem_cons, List.not_mem_nil, or_false] at hp ⊢; rcases hp with rfl | rfl | rfl | rfl | rfl | rfl | rfl | rfl <;> first | exact .inl rfl | exact .inr ⟨by simp, by simp⟩), ⟨fun h9 => absurd ((hq.1 ((up_rest hil (by decide)).1 h9)).1 9 (by decide)) hnu, fun h9 => hq.2 (fun h8 => h9 ((up_rest hil (by decide)).2 h8))⟩, hp.same hil (by decide) (by decide) (by decide) (by decide) (by decide)⟩
              · have ho' := ho
                simp only [List.getElem?_toArray, List.getElem?_cons_zero, List.getElem?_cons_succ, Option.some.injEq] at ho'
                subst ho'
                refine wpOp_value ho rfl (v := .int .i64 ↑k) (w' := wv) (by simp [execOp, Act.eval, go_sem]) ?_
                exact ⟨by simpa using hz, _, _, _, _, _, _, _, _, _, _, _, _, _, _, rfl, hd.step hil (by intro p hp; simp only [List.mem_cons, List.not_mem_nil, or_false] at hp ⊢; rcases hp with rfl | rfl | rfl | rfl | rfl | rfl | rfl | rfl <;> first | exact .inl rfl | exact .inr ⟨by simp, by simp⟩), ⟨fun h9 => absurd ((hq.1 ((up_rest hil (by decide)).1 h9)).1 10 (by decide)) hnu, fun h9 => hq.2 (fun h8 => h9 ((up_rest hil (by decide)).2 h8))⟩, hp.same hil (by decide) (by decide) (by decide) (by decide) (by decide)⟩
              · have ho' := ho
                simp only [List.getElem?_toArray, List.getElem?_cons_zero, List.getElem?_cons_succ, Option.some.injEq] at ho'
                subst ho'
                have e9 := hd (9, x82, .slice (some ad9) n9 c9) (by simp) (hdep { on := 9, ground := .data } (by simp) rfl)
                simp only at e9
                have e10 := hd (10, x83, .int .i64 ↑k) (by simp) (hdep { on := 10, ground := .data } (by simp) rfl)
                simp only at e10
                refine wpOp_value ho rfl (v := .slice (if c9 = k then (some ad9) else Option.map (fun q => q.add (k * 1)) (some ad9)) (n9 - k) (c9 - k)) (w' := wv) (by simp [execOp, Act.eval, go_sem, e9, e10, nk2]) ?_
                exact ⟨by simpa using hz, _, _, _, _, _, _, _, _, _, _, _, _, _, _, rfl, hd.step hil (by intro p hp; simp only [List.mem_cons, List.not_mem_nil, or_false] at hp ⊢; rcases hp with rfl | rfl | rfl | rfl | rfl | rfl | rfl | rfl <;> first | exact .inl rfl | exact .inr ⟨by simp, by simp⟩), ⟨fun h9 => absurd ((hq.1 ((up_rest hil (by decide)).1 h9)).1 11 (by decide)) hnu, fun h9 => hq.2 (fun h8 => h9 ((up_rest hil (by decide)).2 h8))⟩, hp.same hil (by decide) (by decide) (by decide) (by decide) (by decide)⟩
              · have ho' := ho
                simp only [List.getElem?_toArray, List.getElem?_cons_zero, List.getElem?_cons_succ, Option.some.injEq] at ho'
                subst ho'
                have e11 := hd (11, x84, .slice (if c9 = k then (some ad9) else Option.map (fun q => q.add (k * 1)) (some ad9)) (n9 - k) (c9 - k)) (by simp) (hdep { on := 11, ground := .data } (by simp) rfl)
                simp only at e11
                have hu2 := hdep { on := 8, ground := .data } (by simp) rfl
                refine wpOp_app_recs txRec ho rfl (.tmp 81) (.tmp 84) 39 rfl W9.heap.size (.string ⟨#[]⟩) 16 tx_info rfl (by omega) Try.underlying39 _ (O.take k ++ [(txOf yp)]) (by simp [Act.eval]) (hp.p2 hu2 hnu) W9.heap.size _ _ _ (O.drop k) (by simp [Act.eval]; exact e11) ((HRW.out.cut hkn).keep hp.bel (Nat.le_refl _)) (by have := HRW.out.len; rw [List.length_append, List.length_take]; simp only [List.length_cons, List.length_nil]; omega) hp.bel.size ?_
                intro u9 w9 ho9 hg9
                exact ⟨by simpa using hz, _, _, _, _, _, _, _, _, _, _, _, _, _, _, rfl, hd.step hil (by intro p hp; simp only [List.mem_cons, List.not_mem_nil, or_false] at hp ⊢; rcases hp with rfl | rfl | rfl | rfl | rfl | rfl | rfl | rfl <;> first | exact .inl rfl | exact .inr ⟨by simp, by simp⟩), ⟨fun h9 => absurd ((hq.1 ((up_rest hil (by decide)).1 h9)).1 12 (by decide)) hnu, fun h9 => hq.2 (fun h8 => h9 ((up_rest hil (by decide)).2 h8))⟩, hp.app3 hil (by decide) (by decide) hnu hu2 ho9 hg9⟩
              · have ho' := ho
                simp only [List.getElem?_toArray, List.getElem?_cons_zero, List.getElem?_cons_succ, Option.some.injEq] at ho'
                subst ho'
                have hall : ∀ k, k < 13 → up listed k := fun k hk => by
                  rcases (show k = 0 ∨ k = 1 ∨ k = 2 ∨ k = 3 ∨ k = 4 ∨ k = 5 ∨ k = 6 ∨ k = 7 ∨ k = 8 ∨ k = 9 ∨ k = 10 ∨ k = 11 ∨ k = 12 by omega) with rfl | rfl | rfl | rfl | rfl | rfl | rfl | rfl | rfl | rfl | rfl | rfl | rfl
                  · first | (refine hdep { on := 0, ground := .phase } ?_ rfl; simp; done) | (refine hdep { on := 0, ground := .data } ?_ rfl; simp; done)
                  · first | (refine hdep { on := 1, ground := .phase } ?_ rfl; simp; done) | (refine hdep { on := 1, ground := .data } ?_ rfl; simp; done)
                  · first | (refine hdep { on := 2, ground := .phase } ?_ rfl; simp; done) | (refine hdep { on := 2, ground := .data } ?_ rfl; simp; done)
                  · first | (refine hdep { on := 3, ground := .phase } ?_ rfl; simp; done) | (refine hdep { on := 3, ground := .data } ?_ rfl; simp; done)
                  · first | (refine hdep { on := 4, ground := .phase } ?_ rfl; simp; done) | (refine hdep { on := 4, ground := .data } ?_ rfl; simp; done)
                  · first | (refine hdep { on := 5, ground := .phase } ?_ rfl; simp; done) | (refine hdep { on := 5, ground := .data } ?_ rfl; simp; done)
                  · first | (refine hdep { on := 6, ground := .phase } ?_ rfl; simp; done) | (refine hdep { on := 6, ground := .data } ?_ rfl; simp; done)
                  · first | (refine hdep { on := 7, ground := .phase } ?_ rfl; simp; done) | (refine hdep { on := 7, ground := .data } ?_ rfl; simp; done)
                  · first | (refine hdep { on := 8, ground := .phase } ?_ rfl; simp; done) | (refine hdep { on := 8, ground := .data } ?_ rfl; simp; done)
                  · first | (refine hdep { on := 9, ground := .phase } ?_ rfl; simp; done) | (refine hdep { on := 9, ground := .data } ?_ rfl; simp; done)
                  · first | (refine hdep { on := 10, ground := .phase } ?_ rfl; simp; done) | (refine hdep { on := 10, ground := .data } ?_ rfl; simp; done)
                  · first | (refine hdep { on := 11, ground := .phase } ?_ rfl; simp; done) | (refine hdep { on := 11, ground := .data } ?_ rfl; simp; done)
                  · first | (refine hdep { on := 12, ground := .phase } ?_ rfl; simp; done) | (refine hdep { on := 12, ground := .data } ?_ rfl; simp; done)
                refine wpOp_value ho rfl (v := x85) (w' := wv) (by simp [execOp, Act.eval, go_sem]) ?_
                exact ⟨by simpa using hz, _, _, _, _, _, _, _, _, _, _, _, _, _, _, rfl, hd.step hil (by intro p hp; simp only [List.mem_cons, List.not_mem_nil, or_false] at hp ⊢; rcases hp with rfl | rfl | rfl | rfl | rfl | rfl | rfl | rfl <;> first | exact .inl rfl | exact .inr ⟨by simp, by simp⟩), ⟨fun _ => ⟨fun k hk => (up_rest hil (by omega)).2 (hall k hk), rfl⟩, fun h9 => absurd ((up_set hil).2 (.inl rfl)) h9⟩, hp.same hil (by decide) (by decide) (by decide) (by decide) (by decide)⟩
            · rintro listed ac wv ⟨hz, x73, x74, x75, x76, x77, x78, x79, x80, x81, x82, x83, x84, x85, yp9, rfl, hd, hq, hp⟩ hr
              have hall := all_up2 hr hz (by decide)
              have hro := hp.p3 (hall 14 12 (by omega) (by simp))
              obtain ⟨_, rfl⟩ := hq.1 (hall 14 13 (by omega) (by simp))
              have hbw := hp.bel
              clear hall hr hd hp hz hq
              have HRO := Lib.hid (hro.base_le HBW.out.size)
              have HBZ := Lib.hid (HBW.out.trans (hbw.mono HBW.out.size))
              clear hro hbw
              go_wp2_with fail
              go_roundw
              case rel => exact ⟨j + 1, by omega, by go_num, HBZ.out, by rw [HS.out, HPUT.out]; exact HRO.out⟩
              case measure => simp [intOf]; omega
          · obtain rfl : k = n9 := by omega
            have k3 : decide ((k : Int) < (k : Int)) = false := decide_eq_false (by omega)
            go_wp2_with fail
            go_quiet (fail)
            go_wp2_with fail
            have HUW := Lib.hid (show Below X5.heap.size X5 (U.drewN nq) from below_drewN HU.out nq)
            generalize U.drewN nq = W9 at *
            have HXW := Lib.hid (HBX.out.keep HUW.out)
            have HRW := Lib.hid (HR9.out.keep HUW.out HUW.out.size)
            have HBW := Lib.hid (HB5.out.trans (HUW.out.mono HB5.out.size))
            have nk1 : ¬ (c9 < k) := by omega
            have nk2 : ¬ (k < k) := by omega
            refine wp_region_inv (by kernel_rfl) (fun listed ac wv => listed.size = 14 ∧ ∃ x73 x74 x75 x76 x77 x78 x79 x80 x81 x82 x83 x84 x85 yp9 : Value, ac = ⟨#[.slice (some ad) n c, .int .i64 a, .int .i64 b, undef, undef, undef, .slice none 0 0, .int .i64 0, .int .i64 o, yp9, undef, .pointer (some ⟨Y.heap.size, 0, none⟩), .pointer (some ⟨w4.heap.size, 0, none⟩), .bool false, .int .i64 ↑k, .slice (some ad) n c, .int .i64 o, .int .i64 o, .bool false, undef, .int .i64 a, .bool false, .bool false, .int .i64 a, .int .i64 b, .bool false, .bool false, .bool false, .int .i64 b, .bool false, .bool false, .slice (some ad) n c, .int .i64 ↑n, .int .i64 ↑j, .bool true, .pointer (some (ad.add (j * 4))), .agg #[.string yp, .string yr, .int .i64 yf, .int .i64 yu], .tuple #[.agg #[.string zp, .string zr, .int .i64 zf, .int .i64 zu], .bool false], .slice (some ad) n c, .pointer (some ⟨Y.heap.size, 0, none⟩), .string yp, .int .i64 b, .tuple #[.agg #[.string zp, .string zr, .int .i64 zf, .int .i64 zu], .bool false], .agg #[.string zp, .string zr, .int .i64 zf, .int .i64 zu], .bool false, .bool false, .bool false, .int .i64 a, .pointer (some ⟨Y.heap.size, 2, none⟩), .int .i64 yf, .bool false, .bool false, .bool false, .int .i64 a, .pointer (some ⟨Y.heap.size, 3, none⟩), .int .i64 yu, .bool false, .bool false, .int .i64 ↑k, .slice A9 k c9, .int .i64 ↑k, .bool false, .bool false, undef, undef, undef, undef, undef, undef, undef, .bool false, u71, u72, x73, x74, x75, x76, x77, x78, x79, x80, x81, x82, x83, x84, x85, u86, undef], []⟩ ∧ CF listed [(1, x74, .slice A9 k c9), (2, x75, .int .i64 ↑k), (3, x76, .slice A9 k c9), (5, x78, .pointer (some ⟨Y.heap.size, 0, none⟩)), (6, x79, .string yp), (9, x82, .slice A9 k c9), (10, x83, .int .i64 ↑k), (11, x84, .slice (if c9 = k then A9 else Option.map (fun q => q.add (k * 1)) A9) (0) (c9 - k))] ∧ ((up listed 13 → (∀ k, k < 13 → up listed k) ∧ yp9 = x85) ∧ (¬ up listed 13 → yp9 = .slice A9 k c9)) ∧ InsI txRec 0 7 4 8 12 W9 (O.take k) (txOf yp) (O.drop k) listed x73 x80 x77 x81 x85 wv) (fun _ _ _ h => h.1) ?_ ?_ ?_
            · exact ⟨by simp, u73, u74, u75, u76, u77, u78, u79, u80, u81, u82, u83, u84, u85, .slice A9 k c9, rfl, CF.start, ⟨fun h9 => absurd h9 (up_start _ _), fun _ => rfl⟩, InsI.start⟩
            · rintro listed ac wv i o ⟨hz, x73, x74, x75, x76, x77, x78, x79, x80, x81, x82, x83, x84, x85, yp9, rfl, hd, hq, hp⟩ ho hdep hnu
              have hi : i < 14 := by
                rcases Nat.lt_or_ge i 14 with h | h
                · exact h
                · rw [Array.getElem?_eq_none (by simpa using h)] at ho; cases ho
              have hil : i < listed.size := by omega
              rcases (show i = 0 ∨ i = 1 ∨ i = 2 ∨ i = 3 ∨ i = 4 ∨ i = 5 ∨ i = 6 ∨ i = 7 ∨ i = 8 ∨ i = 9 ∨ i = 10 ∨ i = 11 ∨ i = 12 ∨ i = 13 by omega) with rfl | rfl | rfl | rfl | rfl | rfl | rfl | rfl | rfl | rfl | rfl | rfl | rfl | rfl
              · have ho' := ho
                simp only [List.getElem?_toArray, List.getElem?_cons_zero, Option.some.injEq] at ho'
                subst ho'
                refine wpOp_value ho rfl (v := .slice (some ⟨wv.heap.size, 0, none⟩) 0 0) (w' := wv.alloc (.cells #[] 9 (0, 0))) (by simp [execOp, go_sem]) ?_
                exact ⟨by simpa using hz, _, _, _, _, _, _, _, _, _, _, _, _, _, _, rfl, hd.step hil (by intro p hp; simp only [List.mem_cons, List.not_mem_nil, or_false] at hp ⊢; rcases hp with rfl | rfl | rfl | rfl | rfl | rfl | rfl | rfl <;> first | exact .inl rfl | exact .inr ⟨by simp, by simp⟩), ⟨fun h9 => absurd ((hq.1 ((up_rest hil (by decide)).1 h9)).1 0 (by decide)) hnu, fun h9 => hq.2 (fun h8 => h9 ((up_rest hil (by decide)).2 h8))⟩, hp.empty hil (by decide) (by decide) (by decide) (by decide)⟩
              · have ho' := ho
                simp only [List.getElem?_toArray, List.getElem?_cons_zero, List.getElem?_cons_succ, Option.some.injEq] at ho'
                subst ho'
                have hn13 : ¬ up listed 13 := fun h9 => hnu ((hq.1 h9).1 1 (by decide))
                have ey := hq.2 hn13
                refine wpOp_value ho rfl (v := .slice A9 k c9) (w' := wv) (by simp [execOp, Act.eval, go_sem, ey]) ?_
                exact ⟨by simpa using hz, _, _, _, _, _, _, _, _, _, _, _, _, _, _, rfl, hd.step hil (by intro p hp; simp only [List.mem_cons, List.not_mem_nil, or_false] at hp ⊢; rcases hp with rfl | rfl | rfl | rfl | rfl | rfl | rfl | rfl <;> first | exact .inl rfl | exact .inr ⟨by simp, by simp⟩), ⟨fun h9 => absurd ((hq.1 ((up_rest hil (by decide)).1 h9)).1 1 (by decide)) hnu, fun h9 => hq.2 (fun h8 => h9 ((up_rest hil (by decide)).2 h8))⟩, hp.same hil (by decide) (by decide) (by decide) (by decide) (by decide)⟩
              · have ho' := ho
                simp only [List.getElem?_toArray, List.getElem?_cons_zero, List.getElem?_cons_succ, Option.some.injEq] at ho'
                subst ho'
                refine wpOp_value ho rfl (v := .int .i64 ↑k) (w' := wv) (by simp [execOp, Act.eval, go_sem]) ?_
                exact ⟨by simpa using hz, _, _, _, _, _, _, _, _, _, _, _, _, _, _, rfl, hd.step hil (by intro p hp; simp only [List.mem_cons, List.not_mem_nil, or_false] at hp ⊢; rcases hp with rfl | rfl | rfl | rfl | rfl | rfl | rfl | rfl <;> first | exact .inl rfl | exact .inr ⟨by simp, by simp⟩), ⟨fun h9 => absurd ((hq.1 ((up_rest hil (by decide)).1 h9)).1 2 (by decide)) hnu, fun h9 => hq.2 (fun h8 => h9 ((up_rest hil (by decide)).2 h8))⟩, hp.same hil (by decide) (by decide) (by decide) (by decide) (by decide)⟩
              · have ho' := ho
                simp only [List.getElem?_toArray, List.getElem?_cons_zero, List.getElem?_cons_succ, Option.some.injEq] at ho'
                subst ho'
                have e1 := hd (1, x74, .slice A9 k c9) (by simp) (hdep { on := 1, ground := .data } (by simp) rfl)
                simp only at e1
                have e2 := hd (2, x75, .int .i64 ↑k) (by simp) (hdep { on := 2, ground := .data } (by simp) rfl)
                simp only at e2
                refine wpOp_value ho rfl (v := .slice A9 k c9) (w' := wv) (by simp [execOp, Act.eval, go_sem, e1, e2, nk1]) ?_
                exact ⟨by simpa using hz, _, _, _, _, _, _, _, _, _, _, _, _, _, _, rfl, hd.step hil (by intro p hp; simp only [List.mem_cons, List.not_mem_nil, or_false] at hp ⊢; rcases hp with rfl | rfl | rfl | rfl | rfl | rfl | rfl | rfl <;> first | exact .inl rfl | exact .inr ⟨by simp, by simp⟩), ⟨fun h9 => absurd ((hq.1 ((up_rest hil (by decide)).1 h9)).1 3 (by decide)) hnu, fun h9 => hq.2 (fun h8 => h9 ((up_rest hil (by decide)).2 h8))⟩, hp.same hil (by decide) (by decide) (by decide) (by decide) (by decide)⟩
              · have ho' := ho
                simp only [List.getElem?_toArray, List.getElem?_cons_zero, List.getElem?_cons_succ, Option.some.injEq] at ho'
                subst ho'
                have e3 := hd (3, x76, .slice A9 k c9) (by simp) (hdep { on := 3, ground := .data } (by simp) rfl)
                simp only at e3
                have hu0 := hdep { on := 0, ground := .data } (by simp) rfl
                obtain ⟨g9, rfl, hg9, hh9, _⟩ := hp.pe hu0 hnu
                refine wpOp_app_recs txRec ho rfl (.tmp 73) (.tmp 76) 39 rfl W9.heap.size (.string ⟨#[]⟩) 16 tx_info rfl (by omega) Try.underlying39 _ [] (by simp [Act.eval]) (ROwn.empty hh9 hg9) W9.heap.size _ _ _ (O.take k) (by simp [Act.eval]; exact e3) ((HRW.out.first hkn).keep hp.bel (Nat.le_refl _)) (by simp only [List.length_nil]; omega) hp.bel.size ?_
                intro u9 w9 ho9 hg9
                exact ⟨by simpa using hz, _, _, _, _, _, _, _, _, _, _, _, _, _, _, rfl, hd.step hil (by intro p hp; simp only [List.mem_cons, List.not_mem_nil, or_false] at hp ⊢; rcases hp with rfl | rfl | rfl | rfl | rfl | rfl | rfl | rfl <;> first | exact .inl rfl | exact .inr ⟨by simp, by simp⟩), ⟨fun h9 => absurd ((hq.1 ((up_rest hil (by decide)).1 h9)).1 4 (by decide)) hnu, fun h9 => hq.2 (fun h8 => h9 ((up_rest hil (by decide)).2 h8))⟩, hp.app1 hil (by decide) (by decide) (by decide) hnu hu0 ho9 hg9⟩
              · have ho' := ho
                simp only [List.getElem?_toArray, List.getElem?_cons_zero, List.getElem?_cons_succ, Option.some.injEq] at ho'
                subst ho'
                refine wpOp_value ho rfl (v := .pointer (some ⟨Y.heap.size, 0, none⟩)) (w' := wv) (by simp [execOp, Act.eval, go_sem]) ?_
                exact ⟨by simpa using hz, _, _, _, _, _, _, _, _, _, _, _, _, _, _, rfl, hd.step hil (by intro p hp; simp only [List.mem_cons, List.not_mem_nil, or_false] at hp ⊢; rcases hp with rfl | rfl | rfl | rfl | rfl | rfl | rfl | rfl <;> first | exact .inl rfl | exact .inr ⟨by simp, by simp⟩), ⟨fun h9 => absurd ((hq.1 ((up_rest hil (by decide)).1 h9)).1 5 (by decide)) hnu, fun h9 => hq.2 (fun h8 => h9 ((up_rest hil (by decide)).2 h8))⟩, hp.same hil (by decide) (by decide) (by decide) (by decide) (by decide)⟩
              · have ho' := ho
                simp only [List.getElem?_toArray, List.getElem?_cons_zero, List.getElem?_cons_succ, Option.some.injEq] at ho'
                subst ho'
                have e5 := hd (5, x78, .pointer (some ⟨Y.heap.size, 0, none⟩)) (by simp) (hdep { on := 5, ground := .data } (by simp) rfl)
                simp only at e5
                obtain ⟨_, b0, _, _, _, _⟩ := HXW.out.keep hp.bel
                refine wpOp_value ho rfl (v := .string yp) (w' := wv) (by simp [execOp, Act.eval, go_sem, e5, b0]) ?_
                exact ⟨by simpa using hz, _, _, _, _, _, _, _, _, _, _, _, _, _, _, rfl, hd.step hil (by intro p hp; simp only [List.mem_cons, List.not_mem_nil, or_false] at hp ⊢; rcases hp with rfl | rfl | rfl | rfl | rfl | rfl | rfl | rfl <;> first | exact .inl rfl | exact .inr ⟨by simp, by simp⟩), ⟨fun h9 => absurd ((hq.1 ((up_rest hil (by decide)).1 h9)).1 6 (by decide)) hnu, fun h9 => hq.2 (fun h8 => h9 ((up_rest hil (by decide)).2 h8))⟩, hp.same hil (by decide) (by decide) (by decide) (by decide) (by decide)⟩
              · have ho' := ho
                simp only [List.getElem?_toArray, List.getElem?_cons_zero, List.getElem?_cons_succ, Option.some.injEq] at ho'
                subst ho'
                have e6 := hd (6, x79, .string yp) (by simp) (hdep { on := 6, ground := .data } (by simp) rfl)
                simp only at e6
                refine wpOp_value ho rfl (v := .slice (some ⟨wv.heap.size, 0, none⟩) 1 1) (w' := wv.alloc (.cells (Rec.cells txRec (txOf yp)).toArray 9 (0, 0))) (by simp [execOp, Act.eval, go_sem, e6, txRec, txOf_val]) ?_
                exact ⟨by simpa using hz, _, _, _, _, _, _, _, _, _, _, _, _, _, _, rfl, hd.step hil (by intro p hp; simp only [List.mem_cons, List.not_mem_nil, or_false] at hp ⊢; rcases hp with rfl | rfl | rfl | rfl | rfl | rfl | rfl | rfl <;> first | exact .inl rfl | exact .inr ⟨by simp, by simp⟩), ⟨fun h9 => absurd ((hq.1 ((up_rest hil (by decide)).1 h9)).1 7 (by decide)) hnu, fun h9 => hq.2 (fun h8 => h9 ((up_rest hil (by decide)).2 h8))⟩, hp.lit hil (by decide) (by decide) (by decide) (by decide)⟩
              · have ho' := ho
                simp only [List.getElem?_toArray, List.getElem?_cons_zero, List.getElem?_cons_succ, Option.some.injEq] at ho'
                subst ho'
                have hu1 := hdep { on := 4, ground := .data } (by simp) rfl
                have hu6 := hdep { on := 7, ground := .data } (by simp) rfl
                obtain ⟨q9, rfl, hq9⟩ := hp.pl hu6 hnu
                refine wpOp_app_recs txRec ho rfl (.tmp 77) (.tmp 80) 39 rfl W9.heap.size (.string ⟨#[]⟩) 16 tx_info rfl (by omega) Try.underlying39 _ (O.take k) (by simp [Act.eval]) (hp.p1 hu1 hnu) wv.heap.size (some ⟨q9, 0, none⟩) 1 1 [(txOf yp)] (by simp [Act.eval]) (RRow.lit (L := [(txOf yp)]) (by simpa [Rec.flat] using hq9) (by simp)) (by have := HRW.out.len; rw [List.length_take]; omega) hp.bel.size ?_
                intro u9 w9 ho9 hg9
                exact ⟨by simpa using hz, _, _, _, _, _, _, _, _, _, _, _, _, _, _, rfl, hd.step hil (by intro p hp; simp only [List.mem_cons, List.not_mem_nil, or_false] at hp ⊢; rcases hp with rfl | rfl | rfl | rfl | rfl | rfl | rfl | rfl <;> first | exact .inl rfl | exact .inr ⟨by simp, by simp⟩), ⟨fun h9 => absurd ((hq.1 ((up_rest hil (by decide)).1 h9)).1 8 (by decide)) hnu, fun h9 => hq.2 (fun h8 => h9 ((up_rest hil (by decide)).2 h8))⟩, hp.app2 hil (by decide) (by decide) hnu hu1 ho9 hg9⟩
              · have ho' := ho
                simp only [List.getElem?_toArray, List.getElem?_cons_zero, List.getElem?_cons_succ, Option.some.injEq] at ho'
                subst ho'
                have hn13 : ¬ up listed 13 := fun h9 => hnu ((hq.1 h9).1 9 (by decide))
                have ey := hq.2 hn13
                refine wpOp_value ho rfl (v := .slice A9 k c9) (w' := wv) (by simp [execOp, Act.eval, go_sem, ey]) ?_
                exact ⟨by simpa using hz, _, _, _, _, _, _, _, _, _, _, _, _, _, _, rfl, hd.step hil (by intro p hp; simp only [List.mem_cons, List.not_mem_nil, or_false] at hp ⊢; rcases hp with rfl | rfl | rfl | rfl | rfl | rfl | rfl | rfl <;> first | exact .inl rfl | exact .inr ⟨by simp, by simp⟩), ⟨fun h9 => absurd ((hq.1 ((up_rest hil (by decide)).1 h9)).1 9 (by decide)) hnu, fun h9 => hq.2 (fun h8 => h9 ((up_rest hil (by decide)).2 h8))⟩, hp.same hil (by decide) (by decide) (by decide) (by decide) (by decide)⟩
              · have ho' := ho
                simp only [List.getElem?_toArray, List.getElem?_cons_zero, List.getElem?_cons_succ, Option.some.injEq] at ho'
                subst ho'
                refine wpOp_value ho rfl (v := .int .i64 ↑k) (w' := wv) (by simp [execOp, Act.eval, go_sem]) ?_
                exact ⟨by simpa using hz, _, _, _, _, _, _, _, _, _, _, _, _, _, _, rfl, hd.step hil (by intro p hp; simp only [List.mem_cons, List.not_mem_nil, or_false] at hp ⊢; rcases hp with rfl | rfl | rfl | rfl | rfl | rfl | rfl | rfl <;> first | exact .inl rfl | exact .inr ⟨by simp, by simp⟩), ⟨fun h9 => absurd ((hq.1 ((up_rest hil (by decide)).1 h9)).1 10 (by decide)) hnu, fun h9 => hq.2 (fun h8 => h9 ((up_rest hil (by decide)).2 h8))⟩, hp.same hil (by decide) (by decide) (by decide) (by decide) (by decide)⟩
              · have ho' := ho
                simp only [List.getElem?_toArray, List.getElem?_cons_zero, List.getElem?_cons_succ, Option.some.injEq] at ho'
                subst ho'
                have e9 := hd (9, x82, .slice A9 k c9) (by simp) (hdep { on := 9, ground := .data } (by simp) rfl)
                simp only at e9
                have e10 := hd (10, x83, .int .i64 ↑k) (by simp) (hdep { on := 10, ground := .data } (by simp) rfl)
                simp only at e10
                refine wpOp_value ho rfl (v := .slice (if c9 = k then A9 else Option.map (fun q => q.add (k * 1)) A9) (0) (c9 - k)) (w' := wv) (by simp [execOp, Act.eval, go_sem, e9, e10]) ?_
                exact ⟨by simpa using hz, _, _, _, _, _, _, _, _, _, _, _, _, _, _, rfl, hd.step hil (by intro p hp; simp only [List.mem_cons, List.not_mem_nil, or_false] at hp ⊢; rcases hp with rfl | rfl | rfl | rfl | rfl | rfl | rfl | rfl <;> first | exact .inl rfl | exact .inr ⟨by simp, by simp⟩), ⟨fun h9 => absurd ((hq.1 ((up_rest hil (by decide)).1 h9)).1 11 (by decide)) hnu, fun h9 => hq.2 (fun h8 => h9 ((up_rest hil (by decide)).2 h8))⟩, hp.same hil (by decide) (by decide) (by decide) (by decide) (by decide)⟩
              · have ho' := ho
                simp only [List.getElem?_toArray, List.getElem?_cons_zero, List.getElem?_cons_succ, Option.some.injEq] at ho'
                subst ho'
                have e11 := hd (11, x84, .slice (if c9 = k then A9 else Option.map (fun q => q.add (k * 1)) A9) (0) (c9 - k)) (by simp) (hdep { on := 11, ground := .data } (by simp) rfl)
                simp only at e11
                have hu2 := hdep { on := 8, ground := .data } (by simp) rfl
                refine wpOp_app_recs txRec ho rfl (.tmp 81) (.tmp 84) 39 rfl W9.heap.size (.string ⟨#[]⟩) 16 tx_info rfl (by omega) Try.underlying39 _ (O.take k ++ [(txOf yp)]) (by simp [Act.eval]) (hp.p2 hu2 hnu) W9.heap.size _ _ _ (O.drop k) (by simp [Act.eval]; exact e11) ((HRW.out.cut hkn).keep hp.bel (Nat.le_refl _)) (by have := HRW.out.len; rw [List.length_append, List.length_take]; simp only [List.length_cons, List.length_nil]; omega) hp.bel.size ?_
                intro u9 w9 ho9 hg9
                exact ⟨by simpa using hz, _, _, _, _, _, _, _, _, _, _, _, _, _, _, rfl, hd.step hil (by intro p hp; simp only [List.mem_cons, List.not_mem_nil, or_false] at hp ⊢; rcases hp with rfl | rfl | rfl | rfl | rfl | rfl | rfl | rfl <;> first | exact .inl rfl | exact .inr ⟨by simp, by simp⟩), ⟨fun h9 => absurd ((hq.1 ((up_rest hil (by decide)).1 h9)).1 12 (by decide)) hnu, fun h9 => hq.2 (fun h8 => h9 ((up_rest hil (by decide)).2 h8))⟩, hp.app3 hil (by decide) (by decide) hnu hu2 ho9 hg9⟩
              · have ho' := ho
                simp only [List.getElem?_toArray, List.getElem?_cons_zero, List.getElem?_cons_succ, Option.some.injEq] at ho'
                subst ho'
                have hall : ∀ k, k < 13 → up listed k := fun k hk => by
                  rcases (show k = 0 ∨ k = 1 ∨ k = 2 ∨ k = 3 ∨ k = 4 ∨ k = 5 ∨ k = 6 ∨ k = 7 ∨ k = 8 ∨ k = 9 ∨ k = 10 ∨ k = 11 ∨ k = 12 by omega) with rfl | rfl | rfl | rfl | rfl | rfl | rfl | rfl | rfl | rfl | rfl | rfl | rfl
                  · first | (refine hdep { on := 0, ground := .phase } ?_ rfl; simp; done) | (refine hdep { on := 0, ground := .data } ?_ rfl; simp; done)
                  · first | (refine hdep { on := 1, ground := .phase } ?_ rfl; simp; done) | (refine hdep { on := 1, ground := .data } ?_ rfl; simp; done)
                  · first | (refine hdep { on := 2, ground := .phase } ?_ rfl; simp; done) | (refine hdep { on := 2, ground := .data } ?_ rfl; simp; done)
                  · first | (refine hdep { on := 3, ground := .phase } ?_ rfl; simp; done) | (refine hdep { on := 3, ground := .data } ?_ rfl; simp; done)
                  · first | (refine hdep { on := 4, ground := .phase } ?_ rfl; simp; done) | (refine hdep { on := 4, ground := .data } ?_ rfl; simp; done)
                  · first | (refine hdep { on := 5, ground := .phase } ?_ rfl; simp; done) | (refine hdep { on := 5, ground := .data } ?_ rfl; simp; done)
                  · first | (refine hdep { on := 6, ground := .phase } ?_ rfl; simp; done) | (refine hdep { on := 6, ground := .data } ?_ rfl; simp; done)
                  · first | (refine hdep { on := 7, ground := .phase } ?_ rfl; simp; done) | (refine hdep { on := 7, ground := .data } ?_ rfl; simp; done)
                  · first | (refine hdep { on := 8, ground := .phase } ?_ rfl; simp; done) | (refine hdep { on := 8, ground := .data } ?_ rfl; simp; done)
                  · first | (refine hdep { on := 9, ground := .phase } ?_ rfl; simp; done) | (refine hdep { on := 9, ground := .data } ?_ rfl; simp; done)
                  · first | (refine hdep { on := 10, ground := .phase } ?_ rfl; simp; done) | (refine hdep { on := 10, ground := .data } ?_ rfl; simp; done)
                  · first | (refine hdep { on := 11, ground := .phase } ?_ rfl; simp; done) | (refine hdep { on := 11, ground := .data } ?_ rfl; simp; done)
                  · first | (refine hdep { on := 12, ground := .phase } ?_ rfl; simp; done) | (refine hdep { on := 12, ground := .data } ?_ rfl; simp; done)
                refine wpOp_value ho rfl (v := x85) (w' := wv) (by simp [execOp, Act.eval, go_sem]) ?_
                exact ⟨by simpa using hz, _, _, _, _, _, _, _, _, _, _, _, _, _, _, rfl, hd.step hil (by intro p hp; simp only [List.mem_cons, List.not_mem_nil, or_false] at hp ⊢; rcases hp with rfl | rfl | rfl | rfl | rfl | rfl | rfl | rfl <;> first | exact .inl rfl | exact .inr ⟨by simp, by simp⟩), ⟨fun _ => ⟨fun k hk => (up_rest hil (by omega)).2 (hall k hk), rfl⟩, fun h9 => absurd ((up_set hil).2 (.inl rfl)) h9⟩, hp.same hil (by decide) (by decide) (by decide) (by decide) (by decide)⟩
            · rintro listed ac wv ⟨hz, x73, x74, x75, x76, x77, x78, x79, x80, x81, x82, x83, x84, x85, yp9, rfl, hd, hq, hp⟩ hr
              have hall := all_up2 hr hz (by decide)
              have hro := hp.p3 (hall 14 12 (by omega) (by simp))
              obtain ⟨_, rfl⟩ := hq.1 (hall 14 13 (by omega) (by simp))
              have hbw := hp.bel
              clear hall hr hd hp hz hq
              have HRO := Lib.hid (hro.base_le HBW.out.size)
              have HBZ := Lib.hid (HBW.out.trans (hbw.mono HBW.out.size))
              clear hro hbw
              go_wp2_with fail
              go_roundw
              case rel => exact ⟨j + 1, by omega, by go_num, HBZ.out, by rw [HS.out, HPUT.out]; exact HRO.out⟩
              case measure => simp [intOf]; omega
    · obtain rfl : n = j := by omega
      have HW := Lib.hid (show (((L.take n).filter (Ap.exp L a b)).map fun x => txOf x.p).foldl Tx.put [] = (Ap.exq L a b).mergeSort fun x y => decide (x ≤ y) by
        rw [List.take_of_length_le (by rw [HL.out]; exact Nat.le_refl _), Tx.fold_sort]; rfl)
      rw [HW.out] at HI
      go_wp2_with fail
      exact bodyPost_ret (v := .tuple #[_, .int .i64 0]) (by simp [results, Try.results57, go_sem]; rfl) rfl ⟨_, by rw [HE.out], by rw [HE.out]; exact HI.out.2.base_le HB1.out.size, HB1.out.trans (HI.out.1.mono HB1.out.size)⟩
end Go.Proofs.Ytoomgbddfcmjnaa
