/- Rota: Next. -/
import Derived.Test.YtoomgbddfcmjnaaTi
import Derived.Test.YtoomgbddfcmjnaaAf
namespace Go.Proofs.Ytoomgbddfcmjnaa
open Go.RowKit
def Sf.others (L : List Sf) (who : ByteArray) (t : Int) : List Tx := (Sf.onl L t).filter fun x => !decide (x = txOf who)
/-- the first time of the list at which two others are on duty -/
def Sf.fstT (L : List Sf) (who : ByteArray) (T : List Int) : Option Int := T.find? fun t => decide (2 ≤ (Sf.others L who t).length)
def Sf.nxt (L : List Sf) (who : ByteArray) (t : Int) : Int × Bool × Int :=
  if Sf.chk L ≠ 0 then (0, false, Sf.chk L) else if t < 0 ∨ 1073741824 < t then (0, false, 43) else
  match Sf.fstT L who (Zs.of (Sf.tms L t 1073741824)) with
  | some u => (u, true, 0)
  | none => (0, false, 0)
theorem Sf.tms_bd {L : List Sf} {a b : Int} (h : Sf.Ok L) {x : Int} (hx : x ∈ Sf.tms L a b) : x = a ∨ (0 ≤ x ∧ x ≤ 1073741824 ∧ a < x ∧ x < b) := by
  unfold Sf.tms at hx
  rcases List.mem_cons.1 hx with hx | hx
  · exact .inl hx
  · obtain ⟨y, hy, hxy⟩ := List.mem_flatMap.1 hx
    obtain ⟨h1, h2⟩ := List.mem_filter.1 hxy
    simp only [Bool.and_eq_true, decide_eq_true_eq] at h2
    have := Sf.one_iff.1 (h.one y hy)
    simp only [List.mem_cons, List.not_mem_nil, or_false] at h1
    refine .inr ⟨?_, ?_, h2.1, h2.2⟩ <;> rcases h1 with rfl | rfl <;> omega
theorem wf_time {x : Int} (h : 0 ≤ x ∧ x ≤ 1073741824) : (Lit.int .i64 x).wf = true := by
  simp [Lit.wf, IntKind.min, IntKind.max, IntKind.signed, IntKind.bits]; omega
theorem Sf.onl_len (L : List Sf) (t : Int) : (Sf.onl L t).length ≤ L.length := by unfold Sf.onl; rw [List.length_mergeSort]; exact Sf.who_len L t
theorem Sf.others_len (L : List Sf) (who : ByteArray) (t : Int) : (Sf.others L who t).length ≤ L.length := Nat.le_trans (List.length_filter_le _ _) (Sf.onl_len L t)
set_option maxHeartbeats 1600000 in
set_option maxRecDepth 100000 in
theorem next36 (A : Option Addr) (n c : Nat) (L : List Sf) (who : ByteArray) (t : Int) (ht0 : -9223372036854775808 ≤ t) (ht1 : t ≤ 9223372036854775807) (w : World) (h : RRow sfRec w w.heap.size A n c L) :
    Calls Try.prog 21 #[.slice A n c, .string who, .int .i64 t] w fun e w' => e = .returned (.tuple #[.int .i64 (Sf.nxt L who t).1, .bool (Sf.nxt L who t).2.1, .int .i64 (Sf.nxt L who t).2.2]) ∧ Below w.heap.size w w' := by
  have H := Lib.hid h
  have HL := Lib.hid h.len
  obtain ⟨X, hX⟩ : ∃ X : World, w.alloc (.cells #[.string who] 9) = X := ⟨_, rfl⟩
  have hbx : Below w.heap.size w X := by rw [← hX]; exact below_one _
  have hcx : X.cell? ⟨w.heap.size, 0, none⟩ = some (.string who) := by rw [← hX]; simp [go_sem]
  have HXL := Lib.hid (show w.heap.size < X.heap.size by rw [← hX]; simp)
  have HX := Lib.hid hbx
  have HC := Lib.hid hcx
  have HR := Lib.hid (h.keep hbx hbx.size)
  clear h hbx hcx
  go_enter Try.func21, Try.ntmps21
  go_wp2_with fail
  refine (check36 A n c L X HR.out).mono ?_; rintro e w1 ⟨rfl, hb⟩
  have HB1 := Lib.hid (HX.out.trans (hb.mono HX.out.size))
  have HR1 := Lib.hid (HR.out.keep hb hb.size)
  have HC1 := Lib.hid ((hb.cell HXL.out).trans HC.out)
  have HL1 := Lib.hid (Nat.lt_of_lt_of_le HXL.out hb.size)
  clear hb HR hX
  have HN1 := Lib.hid (fun (h : Sf.chk L ≠ 0) => show Sf.nxt L who t = (0, false, Sf.chk L) by unfold Sf.nxt; rw [if_pos h])
  have HN2 := Lib.hid (fun (h : Sf.chk L = 0) (h2 : t < 0 ∨ 1073741824 < t) => show Sf.nxt L who t = (0, false, 43) by unfold Sf.nxt; rw [if_neg (by simpa using h), if_pos h2])
  have HN3 := Lib.hid (fun (h : Sf.chk L = 0) (h2 : ¬ (t < 0 ∨ 1073741824 < t)) => show Sf.nxt L who t = _ by unfold Sf.nxt; rw [if_neg (by simpa using h), if_neg h2])
  have HOK := Lib.hid (fun (h : Sf.chk L = 0) => Sf.chk_ok.1 h)
  obtain ⟨o, ho⟩ : ∃ o, Sf.chk L = o := ⟨_, rfl⟩
  rw [ho] at HN1 HN2 HN3 HOK ⊢
  clear ho
  by_cases h0 : o = 0
  rotate_left
  · have g1 : (o != 0) = true := by simpa using h0
    have HE := Lib.hid (HN1.out h0)
    clear h0 HN1 HN2 HN3
    go_wp2_with fail
    exact bodyPost_ret (v := .tuple #[.int .i64 0, .bool false, .int .i64 o]) (by simp [results, Try.results21, go_sem]) rfl ⟨by rw [HE.out], HB1.out⟩
  have g1 : (o != 0) = false := by simpa using h0
  replace HN2 := Lib.hid (HN2.out h0)
  replace HN3 := Lib.hid (HN3.out h0)
  replace HOK := Lib.hid (HOK.out h0)
  clear h0 HN1
  by_cases ht : t < 0 ∨ 1073741824 < t
  · have HE := Lib.hid (HN2.out ht)
    rcases ht with ht | ht
    · have g2 : decide (t < 0) = true := decide_eq_true ht
      go_wp2_with fail
      exact bodyPost_ret (v := .tuple #[.int .i64 0, .bool false, .int .i64 43]) (by simp [results, Try.results21, go_sem]) rfl ⟨by rw [HE.out], HB1.out⟩
    · have g2 : decide (t < 0) = false := decide_eq_false (by omega)
      have g3 : decide (1073741824 < t) = true := decide_eq_true ht
      go_wp2_with fail
      exact bodyPost_ret (v := .tuple #[.int .i64 0, .bool false, .int .i64 43]) (by simp [results, Try.results21, go_sem]) rfl ⟨by rw [HE.out], HB1.out⟩
  have HE := Lib.hid (HN3.out ht)
  have g2 : decide (t < 0) = false := decide_eq_false (by omega)
  have g3 : decide (1073741824 < t) = false := decide_eq_false (by omega)
  have HT01 := Lib.hid (show 0 ≤ t ∧ t ≤ 1073741824 by omega)
  have hn60 : n ≤ 60 := by have := HOK.out.few; rw [HL.out] at this; exact this
  clear ht HN2 HN3 ht0 ht1
  go_wp2_with fail
  refine (turns36 A n c L t 1073741824 w1 HR1.out (by omega)).mono ?_; rintro e w2 ⟨v2, rfl, ho, hb⟩
  have HWF := Lib.hid (show ∀ x ∈ Zs.of (Sf.tms L t 1073741824), (Lit.int .i64 x).wf = true from fun x hx => wf_time (by
    rcases Sf.tms_bd HOK.out (Zs.mem_of.1 hx) with rfl | h
    · exact HT01.out
    · exact ⟨h.1, h.2.1⟩))
  obtain ⟨A2, n2, c2, rfl, hn2, hr2⟩ := ho.numsN HWF.out
  obtain ⟨T, hT⟩ : ∃ T, Zs.of (Sf.tms L t 1073741824) = T := ⟨_, rfl⟩
  rw [hT] at hn2 hr2 HE HWF
  have HTN := Lib.hid hn2
  have HB2 := Lib.hid (HB1.out.trans (hb.mono HB1.out.size))
  have HR2 := Lib.hid (HR1.out.keep hb hb.size)
  have HC2 := Lib.hid ((hb.cell HL1.out).trans HC1.out)
  have HL2 := Lib.hid (Nat.lt_of_lt_of_le HL1.out hb.size)
  have HT2 := Lib.hid hr2
  have hm2 : n2 ≤ 9223372036854775807 := by have := hr2.cap; have := hr2.max; unfold maxLen at this; omega
  clear hb ho hr2 hn2 hT HB1 HR1 HC1 HL1 g1 g2 g3
  go_wp2_with fail
  go_loopw [28] (fun iv wr => ∃ j : Nat, j ≤ n2 ∧ iv = .int .i64 j ∧ Hid (Below w2.heap.size w2 wr ∧ ∀ y ∈ T.take j, (fun y => decide (2 ≤ (Sf.others L who y).length)) y = false)) (fun iv _ => n2 - (intOf iv).toNat)
  case atStart => exact ⟨0, by omega, rfl, Below.refl _ _, by simp⟩
  case round =>
    rename World => Y
    obtain ⟨j, hj, rfl, HI⟩ := hrel
    by_cases hlt : j < n2
    · obtain ⟨ad, x, rfl, _, HX2, c0, _⟩ := (HT2.out.keep HI.out.1 HI.out.1.size).val hlt
      have j1 : (0 : Int) ≤ (j : Int) := by omega
      have j2 : (j : Int) < (n2 : Int) := by omega
      have HTA := Lib.hid (take_all (p := fun y => decide (2 ≤ (Sf.others L who y).length)) HX2.out.2 HI.out.2 HX2.out.1)
      have HFA := Lib.hid (fnd_at (p := fun y => decide (2 ≤ (Sf.others L who y).length)) HX2.out.2 HI.out.2 HX2.out.1)
      have HCY := Lib.hid ((HI.out.1.cell HL2.out).trans HC2.out)
      have HLY := Lib.hid (Nat.lt_of_lt_of_le HL2.out HI.out.1.size)
      have HBY := Lib.hid (HB2.out.trans (HI.out.1.mono HB2.out.size))
      go_wp2_with fail
      refine (on36 A n c L x Y (HR2.out.keep HI.out.1 HI.out.1.size) (by omega)).mono ?_; rintro e w4 ⟨v4, rfl, ho4, hb4⟩
      have HO4 := Lib.hid ho4
      have HB4 := Lib.hid (HBY.out.trans (hb4.mono HBY.out.size))
      have HI4 := Lib.hid (HI.out.1.trans (hb4.mono HI.out.1.size))
      have HC4 := Lib.hid ((hb4.cell HLY.out).trans HCY.out)
      have HS4 := Lib.hid hb4.size
      clear ho4 hb4 c0
      go_wp2_with fail
      refine (drop36 Y.heap.size w.heap.size who v4 _ w4 HO4.out HS4.out (by have := Sf.onl_len L x; have := HL.out; omega) HLY.out HC4.out).mono ?_; rintro e w5 ⟨v5, rfl, ho5, hb5⟩
      have ho5' : ROwn txRec w5 Y.heap.size v5 (Sf.others L who x) := ho5
      obtain ⟨A5, n5, c5, rfl, hn5, hr5⟩ := ho5'.row
      have HN5 := Lib.hid hn5
      have HB5 := Lib.hid (HB4.out.trans (hb5.mono HBY.out.size))
      have HI5 := Lib.hid (HI4.out.trans (hb5.mono HI.out.1.size))
      clear ho5 ho5' hr5 hb5 hn5
      by_cases h2 : 2 ≤ n5
      · have g9 : decide ((2 : Int) ≤ (n5 : Int)) = true := decide_eq_true (by omega)
        have HRES := Lib.hid (show Sf.nxt L who t = (x, true, 0) by
          rw [HE.out, show Sf.fstT L who T = some x from HFA.out (by rw [decide_eq_true_eq, ← HN5.out]; exact h2)])
        clear h2
        go_wp2_with fail
        exact bodyPost_ret (v := .tuple #[.int .i64 x, .bool true, .int .i64 0]) (by simp [results, Try.results21, go_sem]) rfl ⟨by rw [HRES.out], HB5.out⟩
      · have g9 : decide ((2 : Int) ≤ (n5 : Int)) = false := decide_eq_false (by omega)
        have HTA' := Lib.hid (HTA.out (by rw [decide_eq_false_iff_not, ← HN5.out]; exact h2))
        clear h2
        go_wp2_with fail
        go_roundw
        case rel => exact ⟨j + 1, by omega, by go_num, HI5.out, HTA'.out⟩
        case measure => simp [intOf]; omega
    · obtain rfl : n2 = j := by omega
      have HRES := Lib.hid (show Sf.nxt L who t = (0, false, 0) by
        rw [HE.out, show Sf.fstT L who T = none from fnd_none (p := fun y => decide (2 ≤ (Sf.others L who y).length)) fun y hy => HI.out.2 y (by rw [List.take_of_length_le (by rw [HTN.out]; exact Nat.le_refl _)]; exact hy)])
      have HBY := Lib.hid (HB2.out.trans (HI.out.1.mono HB2.out.size))
      go_wp2_with fail
      exact bodyPost_ret (v := .tuple #[.int .i64 0, .bool false, .int .i64 0]) (by simp [results, Try.results21, go_sem]) rfl ⟨by rw [HRES.out], HBY.out⟩
end Go.Proofs.Ytoomgbddfcmjnaa
