/- Codes: the made lists are right; each leaf is under one code of a level. -/
import Derived.Test.YtdlgfhegafnmcaaDoorLq
import Derived.Test.YtdlgfhegafnmcaaDoorLg
namespace Go.Proofs.YtdlgfhegafnmcaaDoor
open Go.RowKit
theorem Own.numsN01 {w : World} {base : Nat} {e : TypeId} {k : IntKind} {v : Value} {l : List Int} (h : Own w base e k v l) (hw : ∀ x ∈ l, (Lit.int k x).wf = true) :
    ∃ A N c, v = .slice A N c ∧ N = l.length ∧ Nums w k w.heap.size A N c l := by
  obtain ⟨A, c, hv, hn⟩ := h.nums hw
  exact ⟨A, _, c, hv, rfl, hn⟩
def Cd.rightB (L : List Cd.Co) : Bool := Cd.treeB (Cd.par L) && Cd.evenB (Cd.par L) && (L.all fun x => Cd.nameL x.name.data.toList) && Cd.diffB (L.map fun x => x.name.data.toList)
set_option maxRecDepth 100000 in
theorem Cd.shapes_rightB : ∀ L ∈ Cd.shapes, Cd.rightB L = true := by decide +kernel
theorem Cd.shapes_right {L : List Cd.Co} (h : L ∈ Cd.shapes) : Cd.Right L := by
  have := Cd.shapes_rightB L h
  unfold Cd.rightB at this
  simp only [Bool.and_eq_true] at this
  exact Cd.right_of this.1.1.1 this.1.1.2 this.1.2 this.2
def Cd.sumAt (P : List Int) : Nat → Nat
  | 0 => 0
  | a + 1 => Cd.sumAt P a + (Cd.atUp P a P.length).length
def Cd.divB (P : List Int) : Bool :=
  ((List.range (Cd.last P + 1)).all fun a => (Cd.atUp P (Cd.last P) P.length).all fun f => decide (((Cd.atUp P a P.length).filter fun k => Cd.under P P.length f k).length = 1)) && decide (Cd.sumAt P (Cd.last P + 1) = P.length)
set_option maxRecDepth 100000 in
theorem Cd.shapes_div : ∀ L ∈ Cd.shapes, Cd.divB (Cd.par L) = true := by decide +kernel
theorem Cd.one_name : Cd.name ⟨#[111, 110, 101]⟩ = true := by rw [Cd.name_L]; decide
set_option maxRecDepth 100000 in
theorem Cd.shapes_few : ∀ L ∈ Cd.shapes, 1 ≤ L.length ∧ L.length ≤ 10 := by decide +kernel
def Cd.cnt (P : List Int) (n : Nat) (f : Int) (l : List Int) (i : Nat) : Nat := ((l.take i).filter fun k => Cd.under P n f k).length
theorem Cd.cnt_succ {P : List Int} {n : Nat} {f : Int} {l : List Int} {i : Nat} {y : Int} (h : l.getD i 0 = y ∧ i < l.length) : Cd.cnt P n f l (i + 1) = Cd.cnt P n f l i + (if Cd.under P n f y = true then 1 else 0) := by
  unfold Cd.cnt
  rw [List.take_succ_eq_append_getElem h.2, List.filter_append, List.length_append]
  have h9 := h.1
  simp only [List.getD, List.getElem?_eq_getElem h.2, Option.getD_some] at h9
  rw [h9]
  congr 1
  by_cases hu : Cd.under P n f y = true
  · rw [if_pos hu]; simp [List.filter, hu]
  · rw [if_neg hu]; simp [List.filter, hu]
theorem Cd.cnt_le (P : List Int) (n : Nat) (f : Int) (l : List Int) (i : Nat) : Cd.cnt P n f l i ≤ i := by
  unfold Cd.cnt
  have h1 := List.length_filter_le (fun k => Cd.under P n f k) (l.take i)
  rw [List.length_take] at h1
  omega
theorem Cd.sumAt_le (P : List Int) : ∀ a, Cd.sumAt P a ≤ a * P.length := by
  intro a
  induction a with
  | zero => simp [Cd.sumAt]
  | succ a ih =>
    simp only [Cd.sumAt]
    have := Cd.atUp_len P a P.length
    rw [Nat.succ_mul]
    omega
set_option maxRecDepth 100000 in
set_option maxHeartbeats 1600000 in
theorem walkDivide (W : World) (A : Option Addr) (n c : Nat) (l : List Int) (h : Nums W .u8 W.heap.size A n c l) :
    Calls Tryd.prog 6 #[.slice A n c] W fun e w => e = .returned (.bool true) ∧ Below W.heap.size W w := by
  go_enter Tryd.func6, Tryd.ntmps6
  go_wp2_with fail
  refine (new_any A n c l W h).mono ?_; rintro e w1 ⟨rfl, hc1, hb1⟩
  have HB1 := Lib.hid hb1
  clear hb1
  go_wp2_with fail
  refine (list01 ⟨#[111, 110, 101]⟩ _ _ w1 hc1).mono ?_; rintro e w2 ⟨v, L, rfl, ho, hL, hc2, hg2⟩
  obtain ⟨Ar, nr, cr, rfl, hrow⟩ := ho.row
  have HRW := Lib.hid hrow
  have HSH := Lib.hid hL
  have HR := Lib.hid (Cd.shapes_right hL)
  have hnr := Cd.shapes_few L hL
  rw [hrow.len] at hnr
  have HP := Lib.hid (show (Cd.par L).length = nr by rw [← hrow.len]; simp [Cd.par])
  have HB2 := Lib.hid (show Below W.heap.size W w2 from HB1.out.grown hg2 HB1.out.size (fun r e => by injection e with e; omega))
  clear hc1 hg2 ho hrow hc2 hL h
  obtain ⟨X, hX⟩ : ∃ X : World, w2.alloc (.cells #[.string ⟨#[111, 110, 101]⟩, .slice Ar nr cr] 25) = X := ⟨_, rfl⟩
  have hbx : Below w2.heap.size w2 X := by rw [← hX]; exact (Below.refl _ _).alloc (Nat.le_refl _) _
  have d0 : X.cell? ⟨w2.heap.size, 0, none⟩ = some (.string ⟨#[111, 110, 101]⟩) := by rw [← hX]; simp [go_sem]
  have d1 : X.cell? ⟨w2.heap.size, 1, none⟩ = some (.slice Ar nr cr) := by rw [← hX]; simp [go_sem]
  have hsx : w2.heap.size < X.heap.size := by rw [← hX]; simp
  have HBX := Lib.hid (HB2.out.trans (hbx.mono HB2.out.size))
  have HC := Lib.hid (HRW.out.keep hbx hbx.size)
  clear hbx
  have hla := Cd.last_le (Cd.par L)
  rw [HP.out] at hla
  have HD := Lib.hid (Cd.shapes_div L HSH.out)
  obtain ⟨la, hlae⟩ : ∃ la, Cd.last (Cd.par L) = la := ⟨_, rfl⟩
  have HLA := Lib.hid hlae
  rw [hlae] at hla
  clear hlae
  go_wp2_with fail
  clear hX
  refine (cLevels01 ⟨#[111, 110, 101]⟩ Cd.one_name Ar nr cr L X HC.out HR.out).mono ?_; rintro e w3 ⟨rfl, hb3⟩
  rw [HLA.out]
  have HB3 := Lib.hid (HBX.out.trans (hb3.mono HBX.out.size))
  have HC3 := Lib.hid (HC.out.keep hb3 hb3.size)
  have d0 := (hb3.cell hsx).trans d0
  have d1 := (hb3.cell hsx).trans d1
  have hsx3 := Nat.lt_of_lt_of_le hsx hb3.size
  have gl : decide ((la : Int) + 1 < 1) = false := decide_eq_false (by omega)
  clear hb3
  go_wp2_with fail
  refine (cAt01 ⟨#[111, 110, 101]⟩ Cd.one_name Ar nr cr L (la : Int) w3 HC3.out HR.out).mono ?_; rintro e w4 ⟨v4, rfl, ho4, hb4⟩
  obtain ⟨Af, nf, cf, rfl, hnf, hnl⟩ := ho4.numsN01 (Cd.atUp_wf (by omega))
  have HNF := Lib.hid hnl
  have HNFL := Lib.hid hnf
  have hnf9 : nf ≤ 10 := by rw [hnf]; have := Cd.atUp_len (Cd.par L) (la : Int) nr; omega
  have HB4 := Lib.hid (HB3.out.trans (hb4.mono HB3.out.size))
  have HC4 := Lib.hid (HC3.out.keep hb4 hb4.size)
  have d0 := (hb4.cell hsx3).trans d0
  have d1 := (hb4.cell hsx3).trans d1
  have hsx4 := Nat.lt_of_lt_of_le hsx3 hb4.size
  clear hb4 ho4 hnl hnf
  go_wp2_with fail
  go_loopw [6, 7] (fun al lv wr => ∃ a : Nat, lv = .int .i64 a ∧ a ≤ la + 1 ∧ al = .int .i64 (Cd.sumAt (Cd.par L) a) ∧ Hid (Below w4.heap.size w4 wr)) (fun _ lv _ => la + 1 - (intOf lv).toNat)
  case atStart => exact ⟨0, rfl, by omega, rfl, Below.refl _ _⟩
  case round =>
    rename World => Y
    obtain ⟨a, rfl, hal, rfl, HI⟩ := hrel
    have d0 := (HI.out.cell hsx4).trans d0
    have d1 := (HI.out.cell hsx4).trans d1
    have hsxy := Nat.lt_of_lt_of_le hsx4 HI.out.size
    have HCY := Lib.hid (HC4.out.keep HI.out HI.out.size)
    have HSUM := Lib.hid (show Cd.sumAt (Cd.par L) (a + 1) = Cd.sumAt (Cd.par L) a + (Cd.atUp (Cd.par L) a nr).length by simp only [Cd.sumAt]; rw [HP.out])
    have hsl := Cd.sumAt_le (Cd.par L) a
    rw [HP.out] at hsl
    have hsl9 : Cd.sumAt (Cd.par L) a ≤ 1000 := by
      have : a * nr ≤ 11 * 10 := Nat.mul_le_mul (by omega) (by omega)
      omega
    by_cases hlt : a < la + 1
    · have g1 : decide ((a : Int) < (la : Int) + 1) = true := decide_eq_true (by omega)
      generalize Cd.sumAt (Cd.par L) a = sm at *
      go_wp2_with fail
      refine (cAt01 ⟨#[111, 110, 101]⟩ Cd.one_name Ar nr cr L (a : Int) Y HCY.out HR.out).mono ?_; rintro e w5 ⟨v5, rfl, ho5, hb5⟩
      obtain ⟨Aa, na, ca, rfl, hna, hnl⟩ := ho5.numsN01 (Cd.atUp_wf (by omega))
      have HNA := Lib.hid hnl
      have HNAL := Lib.hid hna
      have hna9 : na ≤ 10 := by rw [hna]; have := Cd.atUp_len (Cd.par L) (a : Int) nr; omega
      have HB5 := Lib.hid (HI.out.trans (hb5.mono HI.out.size))
      have HC5 := Lib.hid (HCY.out.keep hb5 hb5.size)
      have d0 := (hb5.cell hsxy).trans d0
      have d1 := (hb5.cell hsxy).trans d1
      have hsx5 := Nat.lt_of_lt_of_le hsxy hb5.size
      have HNF5 := Lib.hid (HNF.out.keep HB5.out HB5.out.size)
      clear hb5 ho5 hnl hna hsl
      go_wp2_with fail
      go_loopw [39] (fun i wr => ∃ j : Nat, i = .int .i64 j ∧ j ≤ nf ∧ Hid (Below w5.heap.size w5 wr)) (fun i _ => nf - (intOf i).toNat)
      case atStart => exact ⟨0, rfl, by omega, Below.refl _ _⟩
      case round =>
        rename World => Z
        obtain ⟨j, rfl, hj, HJ⟩ := hrel
        have d0 := (HJ.out.cell hsx5).trans d0
        have d1 := (HJ.out.cell hsx5).trans d1
        have hsxz := Nat.lt_of_lt_of_le hsx5 HJ.out.size
        by_cases hlj : j < nf
        · obtain ⟨ad, x, rfl, _, HX, hx, _⟩ := (HNF5.out.keep HJ.out HJ.out.size).val hlj
          have HCNT := Lib.hid (show Cd.cnt (Cd.par L) nr x (Cd.atUp (Cd.par L) a nr) na = 1 by
            have h1 := HD.out
            unfold Cd.divB at h1
            simp only [Bool.and_eq_true, List.all_eq_true, List.mem_range, decide_eq_true_eq] at h1
            rw [HLA.out, HP.out] at h1
            have hmem : x ∈ Cd.atUp (Cd.par L) (la : Int) nr := by
              rw [← HX.out.1, List.getD_eq_getElem?_getD, List.getElem?_eq_getElem HX.out.2]
              exact List.getElem_mem HX.out.2
            have h2 := h1.1 a hlt x hmem
            unfold Cd.cnt
            rw [List.take_of_length_le (by rw [HNAL.out]; exact Nat.le_refl _)]
            exact h2)
          go_wp2_with fail
          go_loopw [11, 45] (fun u i wr => ∃ k : Nat, i = .int .i64 k ∧ k ≤ na ∧ u = .int .i64 (Cd.cnt (Cd.par L) nr x (Cd.atUp (Cd.par L) a nr) k) ∧ Hid (Below Z.heap.size Z wr)) (fun _ i _ => na - (intOf i).toNat)
          case atStart => exact ⟨0, rfl, by omega, by simp [Cd.cnt], Below.refl _ _⟩
          case round =>
            rename World => V
            obtain ⟨k, rfl, hk, rfl, HK⟩ := hrel
            have d0 := (HK.out.cell hsxz).trans d0
            have d1 := (HK.out.cell hsxz).trans d1
            have HZV := Lib.hid (HJ.out.trans (HK.out.mono HJ.out.size))
            by_cases hlk : k < na
            · obtain ⟨ad2, y, rfl, _, HY, hy, _⟩ := (HNA.out.keep HZV.out HZV.out.size).val hlk
              have HS := Lib.hid (Cd.cnt_succ (P := Cd.par L) (n := nr) (f := x) HY.out)
              have hcl := Cd.cnt_le (Cd.par L) nr x (Cd.atUp (Cd.par L) a nr) k
              have HCV := Lib.hid (HC5.out.keep HZV.out HZV.out.size)
              generalize Cd.cnt (Cd.par L) nr x (Cd.atUp (Cd.par L) a nr) k = ct at *
              rcases hu : Cd.under (Cd.par L) nr x y with _ | _
              · have HU := Lib.hid hu
                clear hu
                go_wp2_with fail
                refine (cUnder01 ⟨#[111, 110, 101]⟩ Cd.one_name Ar nr cr L x y V HCV.out HR.out).mono ?_; rintro e w6 ⟨rfl, hb6⟩
                rw [HU.out]
                have HB6 := Lib.hid (HK.out.trans (hb6.mono HK.out.size))
                clear hb6
                go_wp2_with fail
                go_roundw
                case rel => exact ⟨k + 1, by go_num, by omega, by rw [HS.out, HU.out]; simp, HB6.out⟩
                case measure => simp [intOf]; omega
              · have HU := Lib.hid hu
                clear hu
                go_wp2_with fail
                refine (cUnder01 ⟨#[111, 110, 101]⟩ Cd.one_name Ar nr cr L x y V HCV.out HR.out).mono ?_; rintro e w6 ⟨rfl, hb6⟩
                rw [HU.out]
                have HB6 := Lib.hid (HK.out.trans (hb6.mono HK.out.size))
                clear hb6
                go_wp2_with fail
                go_roundw
                case rel => exact ⟨k + 1, by go_num, by omega, by rw [HS.out, HU.out]; simp, HB6.out⟩
                case measure => simp [intOf]; omega
            · obtain rfl : na = k := by omega
              rw [HCNT.out]
              have HBK := Lib.hid HZV.out
              go_wp2_with fail
              go_roundw
              case rel => exact ⟨j + 1, by go_num, by omega, HBK.out⟩
              case measure => simp [intOf]; omega
        · obtain rfl : nf = j := by omega
          have HBY := Lib.hid (HB5.out.trans (HJ.out.mono HB5.out.size))
          have hnaE : ((sm : Nat) : Int) + (na : Int) = ((Cd.sumAt (Cd.par L) (a + 1) : Nat) : Int) := by rw [HSUM.out, ← HNAL.out]; omega
          have HNE := Lib.hid hnaE
          clear hnaE
          go_wp2_with fail
          go_roundw
          case rel => exact ⟨a + 1, by go_num, by omega, by rw [← HNE.out], HBY.out⟩
          case measure => simp [intOf]; omega
    · obtain rfl : a = la + 1 := by omega
      have HE := Lib.hid (show Cd.sumAt (Cd.par L) (la + 1) = nr by
        have h1 := HD.out
        unfold Cd.divB at h1
        simp only [Bool.and_eq_true, decide_eq_true_eq] at h1
        rw [HLA.out, HP.out] at h1
        exact h1.2)
      rw [HE.out]
      have HBY := Lib.hid (HB4.out.trans (HI.out.mono HB4.out.size))
      clear hsl hsl9 HSUM
      go_wp2_with fail
      refine (awake01 Y).mono ?_; rintro e wz ⟨rfl, hbz⟩
      have HBZ := Lib.hid (HBY.out.trans (hbz.mono HBY.out.size))
      go_wp2_with fail
      go_ret
      exact ⟨rfl, HBZ.out⟩
end Go.Proofs.YtdlgfhegafnmcaaDoor
