/- Rota: Pairs. -/
import Derived.Test.YtoomgbddfcmjnaaTj
namespace Go.Proofs.Ytoomgbddfcmjnaa
open Go.RowKit
def Sf.pst (L : List Sf) (T : List Int) : List Int × Int := T.foldl (fun s t => if ((Sf.onl L t).length : Int) ≠ s.2 then (s.1 ++ [t, ((Sf.onl L t).length : Int)], ((Sf.onl L t).length : Int)) else s) ([], 0)
theorem Sf.pst_take {L : List Sf} {T : List Int} {j : Nat} {x : Int} (h : T.getD j 0 = x ∧ j < T.length) : Sf.pst L (T.take (j + 1)) = if ((Sf.onl L x).length : Int) ≠ (Sf.pst L (T.take j)).2 then ((Sf.pst L (T.take j)).1 ++ [x, ((Sf.onl L x).length : Int)], ((Sf.onl L x).length : Int)) else Sf.pst L (T.take j) := by
  unfold Sf.pst
  rw [take_succ_getD T j h.2, h.1, List.foldl_append]
  rfl
theorem Sf.pst_len (L : List Sf) (T : List Int) : (Sf.pst L T).1.length ≤ 2 * T.length := by
  suffices h : ∀ (T : List Int) (s : List Int × Int), (T.foldl (fun s t => if ((Sf.onl L t).length : Int) ≠ s.2 then (s.1 ++ [t, ((Sf.onl L t).length : Int)], ((Sf.onl L t).length : Int)) else s) s).1.length ≤ s.1.length + 2 * T.length by
    have := h T ([], 0)
    unfold Sf.pst
    rw [List.length_nil, Nat.zero_add] at this
    exact this
  intro T
  induction T with
  | nil => intro s; simp
  | cons t T ih =>
    intro s
    rw [List.foldl_cons]
    have := ih (if ((Sf.onl L t).length : Int) ≠ s.2 then (s.1 ++ [t, ((Sf.onl L t).length : Int)], ((Sf.onl L t).length : Int)) else s)
    split at this
    · simp only [List.length_append, List.length_cons, List.length_nil] at this ⊢
      rw [if_pos (by assumption)]
      omega
    · rw [if_neg (by assumption)]
      simp only [List.length_cons]
      omega
def Sf.prs (L : List Sf) (a b : Int) : List Int × Int :=
  if Sf.chk L ≠ 0 then ([], Sf.chk L) else if a < 0 ∨ b ≤ a ∨ 1073741824 < b then ([], 43) else ((Sf.pst L (Zs.of (Sf.tms L a b))).1, 0)
theorem nums_lit2 {Z : World} {g : Nat} {x y : Int} {T : TypeId} (h : Z.heap[g]? = some (.cells #[.int .i64 x, .int .i64 y] T (0, 0))) (hx : (Lit.int .i64 x).wf = true) (hy : (Lit.int .i64 y).wf = true) : Nums Z .i64 Z.heap.size (some ⟨g, 0, none⟩) 2 2 [x, y] := by
  refine ⟨rfl, Nat.le_refl _, by simp [maxLen], fun _ => ⟨_, rfl, (Array.getElem?_eq_some_iff.1 h).1, fun j hj => ?_⟩, fun z hz => ?_, fun h => by cases h⟩
  · rw [addr_zero9]
    rcases (show j = 0 ∨ j = 1 by omega) with rfl | rfl <;> simp [World.cell?, h]
  · simp only [List.mem_cons, List.not_mem_nil, or_false] at hz
    rcases hz with rfl | rfl <;> assumption
def GivesIntsE (R : List Int × Int) (w : World) (e : Ending) (w' : World) : Prop := ∃ v, e = .returned (.tuple #[v, .int .i64 R.2]) ∧ Own w' w.heap.size 3 .i64 v R.1 ∧ Below w.heap.size w w'
set_option maxHeartbeats 1600000 in
set_option maxRecDepth 100000 in
theorem pairs36 (A : Option Addr) (n c : Nat) (L : List Sf) (a b : Int) (w : World) (h : RRow sfRec w w.heap.size A n c L) :
    Calls Try.prog 17 #[.slice A n c, .int .i64 a, .int .i64 b] w (GivesIntsE (Sf.prs L a b) w) := by
  have HL := Lib.hid h.len
  have HR := Lib.hid h
  clear h
  go_enter Try.func17, Try.ntmps17
  go_wp2_with fail
  refine (check36 A n c L w HR.out).mono ?_; rintro e w1 ⟨rfl, hb⟩
  have HB1 := Lib.hid hb
  have HR1 := Lib.hid (HR.out.keep hb hb.size)
  clear hb HR
  have HN1 := Lib.hid (fun (h : Sf.chk L ≠ 0) => show Sf.prs L a b = ([], Sf.chk L) by unfold Sf.prs; rw [if_pos h])
  have HN2 := Lib.hid (fun (h : Sf.chk L = 0) (h2 : a < 0 ∨ b ≤ a ∨ 1073741824 < b) => show Sf.prs L a b = ([], 43) by unfold Sf.prs; rw [if_neg (by simpa using h), if_pos h2])
  have HN3 := Lib.hid (fun (h : Sf.chk L = 0) (h2 : ¬ (a < 0 ∨ b ≤ a ∨ 1073741824 < b)) => show Sf.prs L a b = ((Sf.pst L (Zs.of (Sf.tms L a b))).1, 0) by unfold Sf.prs; rw [if_neg (by simpa using h), if_neg h2])
  have HOK := Lib.hid (fun (h : Sf.chk L = 0) => Sf.chk_ok.1 h)
  obtain ⟨o, ho⟩ : ∃ o, Sf.chk L = o := ⟨_, rfl⟩
  rw [ho] at HN1 HN2 HN3 HOK ⊢
  clear ho
  by_cases h0 : o = 0
  rotate_left
  · have g1 : (o != 0) = true := by simpa using h0
    have HE := Lib.hid (HN1.out h0)
    clear h0 HN1 HN2 HN3
    go_wp2_with fail
    exact bodyPost_ret (v := .tuple #[.slice none 0 0, .int .i64 o]) (by simp [results, Try.results17, go_sem]) rfl ⟨_, by rw [HE.out], by rw [HE.out]; exact Own.nil _ _ _ _, HB1.out⟩
  have g1 : (o != 0) = false := by simpa using h0
  replace HN2 := Lib.hid (HN2.out h0)
  replace HN3 := Lib.hid (HN3.out h0)
  replace HOK := Lib.hid (HOK.out h0)
  clear h0 HN1
  by_cases ht : a < 0 ∨ b ≤ a ∨ 1073741824 < b
  · have HE := Lib.hid (HN2.out ht)
    have ht' : decide (a < 0) = true ∨ (decide (a < 0) = false ∧ decide (b ≤ a) = true) ∨ (decide (a < 0) = false ∧ decide (b ≤ a) = false ∧ decide (1073741824 < b) = true) := by
      simp only [decide_eq_true_eq, decide_eq_false_iff_not]; omega
    clear ht HN3
    rcases ht' with g2 | ⟨g2, g3⟩ | ⟨g2, g3, g4⟩
    all_goals
      go_wp2_with fail
      exact bodyPost_ret (v := .tuple #[.slice none 0 0, .int .i64 43]) (by simp [results, Try.results17, go_sem]) rfl ⟨_, by rw [HE.out], by rw [HE.out]; exact Own.nil _ _ _ _, HB1.out⟩
  have HE := Lib.hid (HN3.out ht)
  have g2 : decide (a < 0) = false := decide_eq_false (by omega)
  have g3 : decide (b ≤ a) = false := decide_eq_false (by omega)
  have g4 : decide (1073741824 < b) = false := decide_eq_false (by omega)
  have HT01 := Lib.hid (show 0 ≤ a ∧ a ≤ 1073741824 by omega)
  have hn60 : n ≤ 60 := by have := HOK.out.few; rw [HL.out] at this; exact this
  clear ht HN2 HN3
  go_wp2_with fail
  refine (turns36 A n c L a b w1 HR1.out (by omega)).mono ?_; rintro e w2 ⟨v2, rfl, ho, hb⟩
  have HWF := Lib.hid (show ∀ x ∈ Zs.of (Sf.tms L a b), 0 ≤ x ∧ x ≤ 1073741824 from fun x hx => by
    rcases Sf.tms_bd HOK.out (Zs.mem_of.1 hx) with rfl | h
    · exact HT01.out
    · exact ⟨h.1, h.2.1⟩)
  obtain ⟨A2, n2, c2, rfl, hn2, hr2⟩ := ho.numsN (fun x hx => wf_time (HWF.out x hx))
  have HTL := Lib.hid (show (Zs.of (Sf.tms L a b)).length ≤ 200 by have h1 := Zs.of_len (Sf.tms L a b); have h2 := tms_len L a b; have := HL.out; omega)
  obtain ⟨T, hT⟩ : ∃ T, Zs.of (Sf.tms L a b) = T := ⟨_, rfl⟩
  rw [hT] at hn2 hr2 HE HWF HTL
  have HTN := Lib.hid hn2
  have HB2 := Lib.hid (HB1.out.trans (hb.mono HB1.out.size))
  have HR2 := Lib.hid (HR1.out.keep hb hb.size)
  have HT2 := Lib.hid hr2
  have hm2 : n2 ≤ 9223372036854775807 := by have := hr2.cap; have := hr2.max; unfold maxLen at this; omega
  clear hb ho hr2 hn2 hT HB1 HR1 g1 g2 g3 g4
  go_wp2_with fail
  go_loopw [9, 10, 35] (fun v bv iv wr => ∃ j : Nat, j ≤ n2 ∧ iv = .int .i64 j ∧ bv = .int .i64 (Sf.pst L (T.take j)).2 ∧ Hid (Below w2.heap.size w2 wr ∧ Own wr w2.heap.size 3 .i64 v (Sf.pst L (T.take j)).1)) (fun _ _ iv _ => n2 - (intOf iv).toNat)
  case atStart => exact ⟨0, by omega, rfl, rfl, Below.refl _ _, Own.nil _ _ _ _⟩
  case round =>
    rename World => Y
    obtain ⟨j, hj, rfl, rfl, HI⟩ := hrel
    by_cases hlt : j < n2
    · obtain ⟨ad, x, rfl, _, HX2, c0, _⟩ := (HT2.out.keep HI.out.1 HI.out.1.size).val hlt
      have j1 : (0 : Int) ≤ (j : Int) := by omega
      have j2 : (j : Int) < (n2 : Int) := by omega
      have HPT := Lib.hid (Sf.pst_take (L := L) HX2.out)
      have HXW := Lib.hid (HWF.out x (getD_mem HX2.out))
      have HPL := Lib.hid (show (Sf.pst L (T.take j)).1.length ≤ 400 by
        have h1 := Sf.pst_len L (T.take j)
        have h2 := List.length_take_le j T
        have h3 := HTL.out
        have h4 : (T.take j).length ≤ T.length := by rw [List.length_take]; omega
        omega)
      go_wp2_with fail
      refine (on36 A n c L x Y (HR2.out.keep HI.out.1 HI.out.1.size) (by omega)).mono ?_; rintro e w4 ⟨v4, rfl, ho4, hb4⟩
      obtain ⟨A4, n4, c4, rfl, hn4, hr4⟩ := ho4.row
      have HN4 := Lib.hid hn4
      have HM4 := Lib.hid (show n4 ≤ 60 by have := Sf.onl_len L x; have := HL.out; omega)
      have HI4 := Lib.hid (HI.out.1.trans (hb4.mono HI.out.1.size))
      have HO4 := Lib.hid (HI.out.2.below hb4)
      clear ho4 hb4 c0 hr4 hn4 HI
      obtain ⟨P, hP⟩ : ∃ P, Sf.pst L (T.take j) = P := ⟨_, rfl⟩
      rw [← HN4.out, hP] at HPT
      rw [hP] at HPL HO4 ⊢
      clear hP
      by_cases hne : (n4 : Int) = P.2
      · have g9 : ((n4 : Int) != P.2) = false := by simpa using hne
        have HS := Lib.hid (show Sf.pst L (T.take (j + 1)) = P by rw [HPT.out, if_neg (by simpa using hne)])
        clear hne
        go_wp2_with fail
        go_roundw
        case rel => exact ⟨j + 1, by omega, by go_num, by rw [HS.out], HI4.out, by rw [HS.out]; exact HO4.out⟩
        case measure => simp [intOf]; omega
      · have g9 : ((n4 : Int) != P.2) = true := by simpa using hne
        have HS := Lib.hid (show Sf.pst L (T.take (j + 1)) = (P.1 ++ [x, (n4 : Int)], (n4 : Int)) by rw [HPT.out, if_pos hne])
        obtain ⟨Z, hZ⟩ : ∃ Z : World, w4.alloc (.cells #[.int .i64 x, .int .i64 n4] 3) = Z := ⟨_, rfl⟩
        have hbz : Below w4.heap.size w4 Z := by rw [← hZ]; exact below_one _
        have HZN := Lib.hid (nums_lit2 (show Z.heap[w4.heap.size]? = some (.cells #[.int .i64 x, .int .i64 n4] 3 (0, 0)) by rw [← hZ]; exact heap_alloc_new _ _) (wf_time HXW.out) (wf_time (by have := HM4.out; omega)))
        have HZI := Lib.hid (HI4.out.trans (hbz.mono HI4.out.size))
        have HZO := Lib.hid (HO4.out.below hbz)
        have HL1 := Lib.hid (show P.1.length + 2 ≤ maxLen by have := HPL.out; simp only [maxLen]; omega)
        have HL2 := Lib.hid (show (P.1.length + 2) * 8 ≤ 140737488355328 by have := HPL.out; omega)
        have HZS := Lib.hid HZI.out.size
        clear hne hbz
        go_wp2_with (at_builtin; refine app_ints _ rfl (.tmp 46) (.tmp 49) _ rfl w2.heap.size 3 8 .i64 int_info Try.underlying36 _ _ rfl HZO.out Z.heap.size (some ⟨w4.heap.size, 0, none⟩) 2 2 [x, (n4 : Int)] rfl HZN.out HL1.out HL2.out HZS.out ?_; intro v' w' hown' hgrow)
        go_roundw
        case rel => exact ⟨j + 1, by omega, by go_num, by rw [HS.out], HZO.out.grow HZI.out hgrow HZS.out (Nat.le_refl _), by rw [HS.out]; exact hown'⟩
        case measure => simp [intOf]; omega
    · obtain rfl : n2 = j := by omega
      have HRES := Lib.hid (show T.take n2 = T from List.take_of_length_le (by rw [HTN.out]; exact Nat.le_refl _))
      rw [HRES.out] at HI
      go_wp2_with fail
      exact bodyPost_ret (v := .tuple #[_, .int .i64 0]) (by simp [results, Try.results17, go_sem]; rfl) rfl ⟨_, by rw [HE.out], by rw [HE.out]; exact HI.out.2.base_le HB2.out.size, HB2.out.trans (HI.out.1.mono HB2.out.size)⟩
end Go.Proofs.Ytoomgbddfcmjnaa
