/- Register: the program's Check. -/
import Derived.Test.YtojeendofpallaaRgd
import Derived.Lib.AppendZerosOnto
import Derived.Lib.SlBytesConst
import Derived.Test.YtojeendofpallaaCw
namespace Go.Proofs.Ytojeendofpallaa
open Go.RowKit
/-- the error of an entry behind right ones -/
def Rg.at (L : List Rg.En) (j : Nat) : Int :=
  if (L.getD j Rg.En0).num ≠ (j : Int) + 1 then 48
  else if (L.getD j Rg.En0).bef ≠ Rg.before L j ∨ (L.getD j Rg.En0).link ≠ Rg.lnk (L.getD j Rg.En0).num (L.getD j Rg.En0).bef (L.getD j Rg.En0).kind (L.getD j Rg.En0).of (L.getD j Rg.En0).out (L.getD j Rg.En0).txt then 47
  else Rg.about (L.take j) (L.getD j Rg.En0)
def Rg.chkUp (L : List Rg.En) : Nat → Int
  | 0 => 0
  | j + 1 => if Rg.chkUp L j = 0 then Rg.at L j else Rg.chkUp L j
def Rg.chk (L : List Rg.En) : Int := if 60 < L.length then 1 else Rg.chkUp L L.length
theorem Rg.chkUp_bad {L : List Rg.En} {j : Nat} (h : Rg.chkUp L (j + 1) ≠ 0) : ∀ k, j + 1 ≤ k → Rg.chkUp L k = Rg.chkUp L (j + 1) := by
  intro k hk
  induction k with
  | zero => omega
  | succ k ih =>
    rcases Nat.lt_or_ge j k with h9 | h9
    · have := ih (by omega)
      simp only [Rg.chkUp] at *
      rw [this, if_neg h]
    · obtain rfl : k = j := by omega
      rfl
theorem Rg.chk_at {L : List Rg.En} {j : Nat} (hl : L.length ≤ 60) (h0 : Rg.chkUp L j = 0) (hj : j < L.length) (h : Rg.at L j ≠ 0) : Rg.chk L = Rg.at L j := by
  have h1 : Rg.chkUp L (j + 1) = Rg.at L j := by simp only [Rg.chkUp]; rw [if_pos h0]
  unfold Rg.chk
  rw [if_neg (by omega), Rg.chkUp_bad (by rw [h1]; exact h) _ hj, h1]
set_option maxRecDepth 100000 in
set_option maxHeartbeats 1600000 in
theorem check38 (A : Option Addr) (n c : Nat) (L : List Rg.En) (w : World) (h : EnRow w w.heap.size A n c L) (hr : ∀ x ∈ L, Rg.Small x) (hn9 : n ≤ 1000) :
    Calls Try.prog 44 #[.slice A n c] w fun e w' => e = .returned (.int .i64 (Rg.chk L)) ∧ Below w.heap.size w w' := by
  have H := Lib.hid h
  have HL := Lib.hid h.len
  have HR := Lib.hid hr
  clear h hr
  by_cases hn : 60 < n
  · have HE := Lib.hid (show Rg.chk L = 1 by unfold Rg.chk; rw [if_pos (by rw [HL.out]; exact hn)])
    go_enter Try.func44, Try.ntmps44
    go_wp2_with fail
    go_ret
    exact ⟨congrArg (fun b => Ending.returned (.int .i64 b)) HE.out.symm, Below.refl _ _⟩
  have g60 : decide (60 < (n : Int)) = false := by simp; omega
  go_enter Try.func44, Try.ntmps44
  go_wp2_with fail
  go_loopw [3, 12] (fun b i wr => ∃ j : Nat, j ≤ n ∧ i = .int .i64 j ∧ b = .int .u64 (Rg.before L j) ∧ Hid (Below w.heap.size w wr ∧ Rg.chkUp L j = 0)) (fun _ i _ => n - (intOf i).toNat)
  case atStart => exact ⟨0, by omega, rfl, rfl, Below.refl _ _, rfl⟩
  case round =>
    rename World => Y
    obtain ⟨j, hj, rfl, rfl, HI⟩ := hrel
    by_cases hlt : j < n
    · obtain ⟨g, num, bef, kind, of, out, txt, link, rfl, HX, c0, c1, c2, c3, c4, c5, c6⟩ := (H.out.keep HI.out.1 HI.out.1.size).val hlt
      have hjl : j < L.length := by rw [HL.out]; exact hlt
      have HJL := Lib.hid hjl
      have HAT := Lib.hid (show Rg.at L j = if num ≠ (j : Int) + 1 then 48 else if bef ≠ Rg.before L j ∨ link ≠ Rg.lnk num bef kind of out txt then 47 else Rg.about (L.take j) ⟨num, bef, kind, of, out, txt, link⟩ by
        unfold Rg.at
        rw [HX.out.1])
      have r5 : Rg.Small (L.getD j Rg.En0) := by
        rw [List.getD_eq_getElem?_getD, List.getElem?_eq_getElem hjl]
        exact HR.out _ (List.getElem_mem hjl)
      rw [HX.out.1] at r5
      have HE := Lib.hid (show Rg.before L (j + 1) = link by
        unfold Rg.before
        rw [if_neg (by omega), show j + 1 - 1 = j by omega, HX.out.1])
      have HSM := Lib.hid r5
      have HF := Lib.hid ((H.out.keep HI.out.1 HI.out.1.size).first (m := j) (by omega))
      have HNM := Lib.hid (show ∀ x ∈ L.take j, 0 ≤ x.num ∧ x.num ≤ 1000 from fun x hx => (HR.out x (List.mem_of_mem_take hx)).num)
      have HCH := Lib.hid (show Rg.at L j ≠ 0 → Rg.chk L = Rg.at L j from fun h9 => Rg.chk_at (by rw [HL.out]; omega) HI.out.2 hjl h9)
      have HUP := Lib.hid (show Rg.chkUp L (j + 1) = Rg.at L j by simp only [Rg.chkUp]; rw [if_pos HI.out.2])
      clear r5 hjl
      obtain ⟨pb, hpb⟩ : ∃ pb, Rg.before L j = pb := ⟨_, rfl⟩
      rw [hpb] at HAT ⊢
      clear hpb
      have HAB := Lib.hid HI.out.1
      obtain ⟨Z, hZ⟩ : ∃ Z : World, Y.alloc (.cells #[.int .i64 num, .int .u64 bef, .int .i64 kind, .int .i64 of, .int .i64 out, .string txt, .int .u64 link] 60) = Z := ⟨_, rfl⟩
      have hbz : Below Y.heap.size Y Z := by rw [← hZ]; exact (Below.refl _ _).alloc (Nat.le_refl _) _
      have hsz : Y.heap.size < Z.heap.size := by rw [← hZ]; simp
      have d0 : Z.cell? ⟨Y.heap.size, 0, none⟩ = some (.int .i64 num) := by rw [← hZ]; simp [go_sem]
      have d1 : Z.cell? ⟨Y.heap.size, 1, none⟩ = some (.int .u64 bef) := by rw [← hZ]; simp [go_sem]
      have d2 : Z.cell? ⟨Y.heap.size, 2, none⟩ = some (.int .i64 kind) := by rw [← hZ]; simp [go_sem]
      have d3 : Z.cell? ⟨Y.heap.size, 3, none⟩ = some (.int .i64 of) := by rw [← hZ]; simp [go_sem]
      have d4 : Z.cell? ⟨Y.heap.size, 4, none⟩ = some (.int .i64 out) := by rw [← hZ]; simp [go_sem]
      have d5 : Z.cell? ⟨Y.heap.size, 5, none⟩ = some (.string txt) := by rw [← hZ]; simp [go_sem]
      have d6 : Z.cell? ⟨Y.heap.size, 6, none⟩ = some (.int .u64 link) := by rw [← hZ]; simp [go_sem]
      have HFZ := Lib.hid (HF.out.keep hbz hbz.size)
      have HBZ := Lib.hid (HI.out.1.trans (hbz.mono HI.out.1.size))
      clear hbz
      by_cases hnum : num = (j : Int) + 1
      · subst hnum
        have g1 : ((j : Int) + 1 != (j : Int) + 1) = false := by simp
        have HAT2 := Lib.hid (HAT.out.trans (if_neg (by simp)))
        clear HAT
        by_cases hbef : bef = pb
        · subst hbef
          have g2 : (bef != bef) = false := by simp
          obtain ⟨lk, hlk⟩ : ∃ lk, Rg.lnk ((j : Int) + 1) bef kind of out txt = lk := ⟨_, rfl⟩
          have HLK := Lib.hid hlk
          rw [hlk] at HAT2
          clear hlk
          go_wp2_with fail
          clear hZ c0 c1 c2 c3 c4 c5 c6
          have v0 : ∀ w', Below Z.heap.size Z w' → w'.cell? ⟨Y.heap.size, 0, none⟩ = some (.int .i64 ((j : Int) + 1)) := fun w' h9 => (h9.cell hsz).trans d0
          have v1 : ∀ w', Below Z.heap.size Z w' → w'.cell? ⟨Y.heap.size, 1, none⟩ = some (.int .u64 bef) := fun w' h9 => (h9.cell hsz).trans d1
          have v2 : ∀ w', Below Z.heap.size Z w' → w'.cell? ⟨Y.heap.size, 2, none⟩ = some (.int .i64 kind) := fun w' h9 => (h9.cell hsz).trans d2
          have v3 : ∀ w', Below Z.heap.size Z w' → w'.cell? ⟨Y.heap.size, 3, none⟩ = some (.int .i64 of) := fun w' h9 => (h9.cell hsz).trans d3
          have v4 : ∀ w', Below Z.heap.size Z w' → w'.cell? ⟨Y.heap.size, 4, none⟩ = some (.int .i64 out) := fun w' h9 => (h9.cell hsz).trans d4
          have v5 : ∀ w', Below Z.heap.size Z w' → w'.cell? ⟨Y.heap.size, 5, none⟩ = some (.string txt) := fun w' h9 => (h9.cell hsz).trans d5
          have v6 : ∀ w', Below Z.heap.size Z w' → w'.cell? ⟨Y.heap.size, 6, none⟩ = some (.int .u64 link) := fun w' h9 => (h9.cell hsz).trans d6
          clear d0 d1 d2 d3 d4 d5 d6
          go_region_held3 (fun w' => Below Z.heap.size Z w')
            (first | assumption | (exact below_of_drawn 1) | (exact (Below.refl _ _).drew) | (exact below_drewN (by assumption) _) | (exact below_next28 (by assumption) (by assumption) (Below.size (by assumption))))
            (first
              | (go_at_call 43; (with_reducible refine (link38 ((j : Int) + 1) bef kind of out link txt _ HSM.out).mono ?_); rintro e wz ⟨rfl, hbz⟩; rw [HLK.out])
              | fail)
          have hbv : Below Z.heap.size Z wz := by assumption
          by_cases hlink : link = lk
          · subst hlink
            have g3 : (link != link) = false := by simp
            have HAT3 := Lib.hid (HAT2.out.trans (if_neg (by simp)))
            have hcap := H.out.cap
            have hmax := H.out.max
            simp only [maxLen] at hmax
            have i1 : (0 : Int) ≤ (j : Int) := by omega
            have i2 : (j : Int) ≤ (c : Int) := by omega
            have i3 : (c : Int) ≤ 9223372036854775807 := by omega
            have i4 : (j : Int) ≤ (n : Int) := by omega
            obtain ⟨ab, hab⟩ : ∃ ab, Rg.about (L.take j) ⟨(j : Int) + 1, bef, kind, of, out, txt, link⟩ = ab := ⟨_, rfl⟩
            have HA := Lib.hid hab
            rw [hab] at HAT3
            clear hab
            go_wp2_with fail
            go_region_held3 (fun w' => Below Z.heap.size Z w')
              (first | assumption | (exact hbv.drew) | (exact below_drewN hbv _) | (exact below_next28 (by assumption) (by assumption) (Below.size (by assumption))))
              (first
                | (go_at_call 74; (with_reducible refine (about38 (some ⟨g, 0, none⟩) j c (L.take j) ((j : Int) + 1) bef kind of out link txt _ (HFZ.out.keep (by assumption) (Below.size (by assumption))) (by omega) HNM.out (by have h9 := HSM.out.txt; simp only at h9; omega)).mono ?_); rintro e wy ⟨rfl, hby⟩; rw [HA.out])
                | fail)
            have hbw : Below Z.heap.size Z wy := by assumption
            have HBW := Lib.hid (HBZ.out.trans (hbw.mono HBZ.out.size))
            by_cases hab : ab = 0
            · subst hab
              have k6 := v6 wy hbw
              go_wp2_with fail
              go_roundw
              case rel => exact ⟨j + 1, by omega, by go_num, by rw [HE.out], HBW.out, by rw [HUP.out]; exact HAT3.out⟩
              case measure => simp [intOf]; omega
            · have g4 : (ab != 0) = true := by simp [hab]
              have HZ := Lib.hid ((HCH.out (by rw [HAT3.out]; exact hab)).trans HAT3.out)
              clear hab
              go_wp2_with fail
              go_ret
              exact ⟨congrArg (fun b => Ending.returned (.int .i64 b)) HZ.out.symm, HBW.out⟩
          · have g3 : (link != lk) = true := by simp [hlink]
            have HAT3 := Lib.hid (HAT2.out.trans (if_pos (.inr hlink)))
            have HZ := Lib.hid ((HCH.out (by rw [HAT3.out]; decide)).trans HAT3.out)
            have HBW := Lib.hid (HBZ.out.trans (hbv.mono HBZ.out.size))
            clear hlink
            go_wp2_with fail
            go_ret
            exact ⟨congrArg (fun b => Ending.returned (.int .i64 b)) HZ.out.symm, HBW.out⟩
        · have g2 : (bef != pb) = true := by simp [hbef]
          have HAT3 := Lib.hid (HAT2.out.trans (if_pos (.inl hbef)))
          have HZ := Lib.hid ((HCH.out (by rw [HAT3.out]; decide)).trans HAT3.out)
          clear hbef
          go_wp2_with fail
          go_ret
          exact ⟨congrArg (fun b => Ending.returned (.int .i64 b)) HZ.out.symm, HBZ.out⟩
      · have g1 : (num != (j : Int) + 1) = true := by simp [hnum]
        have HAT3 := Lib.hid (HAT.out.trans (if_pos hnum))
        have HZ := Lib.hid ((HCH.out (by rw [HAT3.out]; decide)).trans HAT3.out)
        clear hnum
        go_wp2_with fail
        go_ret
        exact ⟨congrArg (fun b => Ending.returned (.int .i64 b)) HZ.out.symm, HBZ.out⟩
    · obtain rfl : n = j := by omega
      have HZ := Lib.hid (show Rg.chk L = 0 by unfold Rg.chk; rw [if_neg (by rw [HL.out]; exact hn), HL.out]; exact HI.out.2)
      go_wp2_with fail
      go_ret
      exact ⟨congrArg (fun b => Ending.returned (.int .i64 b)) HZ.out.symm, HI.out.1⟩
end Go.Proofs.Ytojeendofpallaa
/- Entries: slices.Grow of nothing, slices.Concat of two. -/
namespace Go.Proofs.Ytojeendofpallaa
open Go.RowKit
def GivesEnts (L : List Rg.En) (w : World) (e : Ending) (w' : World) : Prop := ∃ v, e = .returned v ∧ EnOwn w' w.heap.size v L ∧ Below w.heap.size w w'
theorem growE0 (w : World) : Calls Try.prog 88 #[.slice none 0 0, .int .i64 0] w (GivesEnts [] w) := by
  go_enter Try.func88, Try.ntmps88
  go_wp2
  go_ret
  exact ⟨_, rfl, EnOwn.nil _ _, Below.refl _ _⟩
theorem growE1 (n : Nat) (hn : 0 < n) (hn' : n ≤ 1000) (w : World) : Calls Try.prog 88 #[.slice none 0 0, .int .i64 n] w (GivesEnts [] w) := by
  have tb : Try.t60.bytes = 64 := by kernel_rfl
  have q1 : ¬ (281474976710656 < (n : Int) * 64) := by omega
  have q2 : ¬ (281474976710656 < Builtin.nextslicecap n 0 * 64) := by have := growslice_fits (need := n) (old := 0) (bytes := 64) (by omega) (by omega); omega
  have hge : n ≤ (Question.appendCap n 0 60).cut (w.tape w.drawn (Question.appendCap n 0 60)) := grownCap_ge w n 0 60
  have hmax : (Question.appendCap n 0 60).cut (w.tape w.drawn (Question.appendCap n 0 60)) ≤ 9223372036854775807 := by
    have := grownCap_le_maxLen w n 0 60 (by unfold maxLen; omega); unfold maxLen at this; exact Nat.le_trans this (by omega)
  have HG := Lib.hid hge
  have HM := Lib.hid hmax
  clear hge hmax
  go_enter Try.func88, Try.ntmps88
  go_wp2
  go_ret
  refine ⟨_, rfl, ⟨rfl, .inr ⟨w.heap.size, _, _, rfl, Nat.le_refl _, heap_alloc_new w _, Nat.zero_le _, by unfold maxLen; exact HM.out, ?_, by simp [Rg.flat]⟩⟩, ((Below.refl _ _).alloc (Nat.le_refl _) _).drew⟩
  have := HG.out
  simp [size_zeroCells]
  omega
theorem growE_any (n : Int) (h0 : 0 ≤ n) (h1 : n ≤ 1000) (w : World) : Calls Try.prog 88 #[.slice none 0 0, .int .i64 n] w (GivesEnts [] w) := by
  obtain ⟨n, rfl⟩ := Int.eq_ofNat_of_zero_le h0
  rcases Nat.eq_zero_or_pos n with rfl | hn
  · exact growE0 w
  · exact growE1 n hn (by omega) w
/-- what stands before the part of number j, of two -/
def two {α : Type} (z a b : α) : Nat → α
  | 0 => z
  | 1 => a
  | _ => b
set_option maxHeartbeats 800000 in
theorem concatE2 (g : Nat) (A A' : Option Addr) (n c n' c' : Nat) (l l' : List Rg.En) (w : World) (hg0 : w.cell? ⟨g, 0, none⟩ = some (.slice A n c)) (hg1 : w.cell? ⟨g, 1, none⟩ = some (.slice A' n' c'))
    (h : EnRow w w.heap.size A n c l) (h' : EnRow w w.heap.size A' n' c' l') (hs : n + n' ≤ 1000) :
    Calls Try.prog 78 #[.slice (some ⟨g, 0, none⟩) 2 2] w (GivesEnts (l ++ l') w) := by
  have hgl := World.block_lt_of_cell? w _ hg0
  have H := Lib.hid h
  have H' := Lib.hid h'
  have HG0 := Lib.hid hg0
  have HG1 := Lib.hid hg1
  clear h h' hg0 hg1
  go_enter Try.func78, Try.ntmps78
  go_wp2_with fail
  go_loop [3, 5, 11] (fun s _ i => ∃ j : Nat, j ≤ 2 ∧ i = .int .i64 j ∧ s = .int .i64 (two 0 n (n + n') j : Nat)) (fun _ _ i => 2 - (intOf i).toNat)
  case atStart => exact ⟨0, by omega, rfl, rfl⟩
  case round =>
    obtain ⟨j, hj, rfl, rfl⟩ := hrel
    rcases (show j = 0 ∨ j = 1 ∨ j = 2 by omega) with rfl | rfl | rfl
    · have e0 := HG0.out
      have e1 : two 0 n (n + n') 0 = 0 := rfl
      have hnn : n ≤ 1000 := by omega
      go_wp2_with fail
      go_round
      case rel => exact ⟨1, by omega, rfl, rfl⟩
      case measure => simp [intOf]
    · have e0 := HG1.out
      have e1 : two 0 n (n + n') 1 = n := rfl
      have hnn : n ≤ 1000 := by omega
      have hnn' : n' ≤ 1000 := by omega
      go_wp2_with fail
      go_round
      case rel => exact ⟨2, by omega, rfl, by go_num⟩
      case measure => simp [intOf]
    · have e1 : two 0 n (n + n') 2 = n + n' := rfl
      go_wp2_with fail
      refine (growE_any _ (by omega) (by omega) _).mono ?_; rintro e w1 ⟨v1, rfl, hown1, hb1⟩
      have HO1 := Lib.hid hown1
      have HB1 := Lib.hid hb1
      clear hown1 hb1 e1
      go_wp2_with fail
      go_loopw [6, 8, 27] (fun v _ i wr => ∃ j : Nat, j ≤ 2 ∧ i = .int .i64 j ∧ Hid (EnOwn wr w.heap.size v (two [] l (l ++ l') j) ∧ Below w.heap.size w wr)) (fun _ _ i _ => 2 - (intOf i).toNat)
      case atStart => exact ⟨0, by omega, rfl, HO1.out, HB1.out⟩
      case round =>
        obtain ⟨j, hj, rfl, HI⟩ := hrel
        rcases (show j = 0 ∨ j = 1 ∨ j = 2 by omega) with rfl | rfl | rfl
        · have e0 : wr.cell? ⟨g, 0, none⟩ = some (.slice A n c) := by rw [HI.out.2.cell hgl]; exact HG0.out
          have HN := Lib.hid (H.out.keep HI.out.2 HI.out.2.size)
          go_wp2_with (at_builtin; refine app_ents _ rfl (.tmp 31) (.tmp 32) _ rfl w.heap.size 64 entry_info (by omega) Try.underlying61 u6 _ rfl HI.out.1 _ A n c l rfl HN.out (by simp only [two, List.length_nil]; omega) HI.out.2.size ?_; intro v' w' hown' hgrow)
          go_roundw
          case rel => exact ⟨1, by omega, rfl, by simpa [two] using hown', HI.out.1.grow HI.out.2 hgrow HI.out.2.size (Nat.le_refl _)⟩
          case measure => simp [intOf]
        · have e0 : wr.cell? ⟨g, 1, none⟩ = some (.slice A' n' c') := by rw [HI.out.2.cell hgl]; exact HG1.out
          have HN := Lib.hid (H'.out.keep HI.out.2 HI.out.2.size)
          have hll := H.out.len
          go_wp2_with (at_builtin; refine app_ents _ rfl (.tmp 31) (.tmp 32) _ rfl w.heap.size 64 entry_info (by omega) Try.underlying61 u6 _ rfl HI.out.1 _ A' n' c' l' rfl HN.out (by simp only [two]; omega) HI.out.2.size ?_; intro v' w' hown' hgrow)
          go_roundw
          case rel => exact ⟨2, by omega, rfl, by simpa [two] using hown', HI.out.1.grow HI.out.2 hgrow HI.out.2.size (Nat.le_refl _)⟩
          case measure => simp [intOf]
        · go_wp2_with fail
          go_ret
          exact ⟨_, rfl, HI.out.1, HI.out.2⟩
end Go.Proofs.Ytojeendofpallaa
/- Register: the program's InForce, Find, History and Add of a right register. -/
namespace Go.Proofs.Ytojeendofpallaa
open Go.RowKit
theorem Rg.Reg.chk {L : List Rg.En} (h : Rg.Reg L) : Rg.chk L = 0 := by
  have up : ∀ j, j ≤ L.length → Rg.chkUp L j = 0 := by
    intro j
    induction j with
    | zero => intro _; rfl
    | succ j ih =>
      intro hj
      have h1 := ih (by omega)
      simp only [Rg.chkUp]
      rw [if_pos h1]
      unfold Rg.at
      rw [if_neg (by rw [h.num j hj]; simp), if_neg (by rw [h.bef j hj, ← h.bef j hj, ← h.lnk j hj]; simp), h.abt j hj]
  unfold Rg.chk
  rw [if_neg (by have := h.few; omega)]
  exact up _ (Nat.le_refl _)
theorem Rg.Reg.smalls {L : List Rg.En} (h : Rg.Reg L) : ∀ x ∈ L, Rg.Small x := fun x hx => by
  obtain ⟨j, hj, e⟩ := Rg.mem_getD hx
  rw [← e]
  exact h.small hj
/-- Check of a right register -/
theorem check_ok (A : Option Addr) (n c : Nat) (L : List Rg.En) (w : World) (h : EnRow w w.heap.size A n c L) (hr : Rg.Reg L) :
    Calls Try.prog 44 #[.slice A n c] w fun e w' => e = .returned (.int .i64 0) ∧ Below w.heap.size w w' := by
  have h1 := check38 A n c L w h hr.smalls (by rw [← h.len]; have := hr.few; omega)
  rw [hr.chk] at h1
  exact h1
set_option maxRecDepth 100000 in
set_option maxHeartbeats 1600000 in
theorem force38 (A : Option Addr) (n c : Nat) (L : List Rg.En) (w : World) (h : EnRow w w.heap.size A n c L) (hr : Rg.Reg L) :
    Calls Try.prog 46 #[.slice A n c] w fun e w' => ∃ v, e = .returned v ∧ Own w' w.heap.size 3 .i64 v (Rg.inf L) ∧ Below w.heap.size w w' := by
  have H := Lib.hid h
  have HR := Lib.hid hr
  have hn : n ≤ 100 := by rw [← h.len]; have := hr.few; omega
  clear h hr
  go_enter Try.func46, Try.ntmps46
  go_wp2_with fail
  refine (check_ok A n c L w H.out HR.out).mono ?_; rintro e w1 ⟨rfl, hb1⟩
  have HB1 := Lib.hid hb1
  clear hb1
  go_wp2_with fail
  refine (pinf38 A n c L w1 (H.out.keep HB1.out HB1.out.size) hn HR.out.nums).mono ?_; rintro e w2 ⟨v, rfl, ho, hb2⟩
  have HB2 := Lib.hid (HB1.out.trans (hb2.mono HB1.out.size))
  have HO := Lib.hid (ho.base_le HB1.out.size)
  clear hb2 ho
  go_wp2_with fail
  go_ret
  exact ⟨v, rfl, HO.out, HB2.out⟩
def Rg.hits (y : Int) (x : Rg.En) : Prop := x.kind ≠ 2 ∧ x.out = y
def GivesFind (L : List Rg.En) (y : Int) (w : World) (e : Ending) (w' : World) : Prop := ∃ r : Int, e = .returned (.int .i64 r) ∧ ((r = 0 ∧ ∀ x ∈ L, ¬ Rg.hits y x) ∨ ∃ j, j < L.length ∧ Rg.hits y (L.getD j Rg.En0) ∧ r = (L.getD j Rg.En0).num ∧ ∀ x ∈ L.take j, ¬ Rg.hits y x) ∧ Below w.heap.size w w'
set_option maxRecDepth 100000 in
set_option maxHeartbeats 1600000 in
theorem find38 (A : Option Addr) (n c : Nat) (L : List Rg.En) (y : Int) (w : World) (h : EnRow w w.heap.size A n c L) (hr : Rg.Reg L) :
    Calls Try.prog 53 #[.slice A n c, .int .i64 y] w (GivesFind L y w) := by
  have H := Lib.hid h
  have HR := Lib.hid hr
  have hn : n ≤ 100 := by rw [← h.len]; have := hr.few; omega
  clear h hr
  go_enter Try.func53, Try.ntmps53
  go_wp2_with fail
  refine (check_ok A n c L w H.out HR.out).mono ?_; rintro e w1 ⟨rfl, hb1⟩
  have HB1 := Lib.hid hb1
  clear hb1
  go_wp2_with fail
  go_loopw [12] (fun i wr => ∃ j : Nat, j ≤ n ∧ i = .int .i64 j ∧ Hid (Below w.heap.size w wr ∧ ∀ x ∈ L.take j, ¬ Rg.hits y x)) (fun i _ => n - (intOf i).toNat)
  case atStart => exact ⟨0, by omega, rfl, HB1.out, by simp⟩
  case round =>
    rename World => Y
    obtain ⟨j, hj, rfl, HI⟩ := hrel
    by_cases hlt : j < n
    · obtain ⟨g, num, bef, kind, of, out, txt, link, rfl, HX, c0, c1, c2, c3, c4, c5, c6⟩ := (H.out.keep HI.out.1 HI.out.1.size).val hlt
      have HS := Lib.hid (show L.take (j + 1) = L.take j ++ [⟨num, bef, kind, of, out, txt, link⟩] by
        rw [List.take_succ_eq_append_getElem HX.out.2.1]
        have h9 := HX.out.1
        simp only [List.getD, List.getElem?_eq_getElem HX.out.2.1, Option.getD_some] at h9
        rw [h9])
      have HBZ := Lib.hid (HI.out.1.alloc HI.out.1.size (.cells #[.int .i64 num, .int .u64 bef, .int .i64 kind, .int .i64 of, .int .i64 out, .string txt, .int .u64 link] 60))
      have next : ¬ Rg.hits y ⟨num, bef, kind, of, out, txt, link⟩ → ∀ x ∈ L.take (j + 1), ¬ Rg.hits y x := fun h9 x hx => by
        rw [HS.out] at hx
        rcases List.mem_append.1 hx with h | h
        · exact HI.out.2 x h
        · rw [List.mem_singleton.1 h]; exact h9
      have HNX := Lib.hid next
      clear next
      by_cases hk : kind = 2
      · subst hk
        have HN := Lib.hid (HNX.out (fun h9 => h9.1 rfl))
        have g1 : ((2 : Int) != 2) = false := by simp
        go_wp2_with fail
        go_roundw
        case rel => exact ⟨j + 1, by omega, by go_num, HBZ.out, HN.out⟩
        case measure => simp [intOf]; omega
      · have g1 : (kind != 2) = true := by simp [hk]
        by_cases hoy : out = y
        · subst hoy
          have g2 : (out == out) = true := by simp
          have HH := Lib.hid (show Rg.hits out (L.getD j Rg.En0) ∧ (L.getD j Rg.En0).num = num by rw [HX.out.1]; exact ⟨⟨hk, rfl⟩, rfl⟩)
          go_wp2_with fail
          go_ret
          exact ⟨_, rfl, .inr ⟨j, HX.out.2.1, HH.out.1, HH.out.2.symm, HI.out.2⟩, HBZ.out⟩
        · have g2 : (out == y) = false := by simp [hoy]
          have HN := Lib.hid (HNX.out (fun h9 => hoy h9.2))
          go_wp2_with fail
          go_roundw
          case rel => exact ⟨j + 1, by omega, by go_num, HBZ.out, HN.out⟩
          case measure => simp [intOf]; omega
    · obtain rfl : n = j := by omega
      have HA := Lib.hid (show ∀ x ∈ L, ¬ Rg.hits y x by
        have := HI.out.2
        rwa [List.take_of_length_le (by rw [H.out.len]; omega)] at this)
      go_wp2_with fail
      go_ret
      exact ⟨0, rfl, .inl ⟨rfl, HA.out⟩, HI.out.1⟩
/-- from an entry back by what was superseded -/
def Rg.hist (L : List Rg.En) : Nat → Nat → List Int
  | 0, _ => []
  | _ + 1, 0 => []
  | f + 1, k + 1 => ((k : Int) + 1) :: Rg.hist L f (L.getD k Rg.En0).of.toNat
theorem Rg.about_of {L : List Rg.En} {x : Rg.En} (h : Rg.about L x = 0) : (x.kind = 1 ∧ x.of = 0) ∨ (x.kind = 2 ∧ x.of ∈ Rg.inf L) ∨ (x.kind = 3 ∧ x.of ∈ Rg.inf L) := by
  unfold Rg.about at h
  split at h
  · simp at h
  · split at h
    · simp at h
    · rename_i hk
      split at h
      · simp at h
      · rename_i hf
        split at h
        · simp at h
        · rename_i h1
          rcases (show x.kind = 1 ∨ x.kind = 2 ∨ x.kind = 3 by omega) with e | e | e
          · exact .inl ⟨e, by by_cases h0 : x.of = 0; exact h0; exact absurd ⟨e, h0⟩ h1⟩
          · exact .inr (.inl ⟨e, by by_cases h0 : x.of ∈ Rg.inf L; exact h0; exact absurd ⟨by omega, h0⟩ hf⟩)
          · exact .inr (.inr ⟨e, by by_cases h0 : x.of ∈ Rg.inf L; exact h0; exact absurd ⟨by omega, h0⟩ hf⟩)
theorem Rg.Reg.inf_of {L : List Rg.En} (h : Rg.Reg L) {j : Nat} (hj : j ≤ L.length) {n : Int} (hn : n ∈ Rg.inf (L.take j)) : ∃ i : Nat, i < j ∧ n = (i : Int) + 1 := by
  rcases Rg.inf_mem _ _ hn with h9 | ⟨x, hx, e⟩
  · simp at h9
  · obtain ⟨i, hi, e2⟩ := Rg.mem_getD hx
    rw [List.length_take] at hi
    have e3 : (L.take j).getD i Rg.En0 = L.getD i Rg.En0 := by simp [List.getD, show i < j by omega, show i < L.length by omega]
    exact ⟨i, by omega, by rw [e, ← e2, e3, h.num i (by omega)]⟩
theorem Rg.Reg.of_le {L : List Rg.En} (h : Rg.Reg L) {j : Nat} (hj : j < L.length) : 0 ≤ (L.getD j Rg.En0).of ∧ (L.getD j Rg.En0).of ≤ j ∧ ((L.getD j Rg.En0).kind = 1 → (L.getD j Rg.En0).of = 0) ∧ ((L.getD j Rg.En0).kind = 3 → 1 ≤ (L.getD j Rg.En0).of) := by
  rcases Rg.about_of (h.abt j hj) with ⟨h1, h2⟩ | ⟨h1, h2⟩ | ⟨h1, h2⟩
  · exact ⟨by omega, by omega, fun _ => h2, fun h9 => by omega⟩
  · obtain ⟨i, hi, e⟩ := h.inf_of (by omega) h2
    exact ⟨by omega, by omega, fun h9 => by omega, fun h9 => by omega⟩
  · obtain ⟨i, hi, e⟩ := h.inf_of (by omega) h2
    exact ⟨by omega, by omega, fun h9 => by omega, fun h9 => by omega⟩
theorem Rg.hist_fuel {L : List Rg.En} (h : Rg.Reg L) : ∀ f k, k ≤ f → k ≤ L.length → Rg.hist L f k = Rg.hist L k k := by
  intro f
  induction f using Nat.strongRecOn with
  | ind f ih =>
    intro k hk hl
    match f, k, hk with
    | 0, 0, _ => rfl
    | f + 1, 0, _ => rfl
    | f + 1, k + 1, hk =>
      have h1 := h.of_le (j := k) (by omega)
      simp only [Rg.hist]
      rw [ih f (by omega) _ (by omega) (by omega)]
      rcases Nat.lt_or_ge k f with h9 | h9
      · rw [ih k (by omega) _ (by omega) (by omega)]
      · obtain rfl : f = k := by omega
        rw [ih f (by omega) _ (by omega) (by omega)]
theorem Rg.hist_step {L : List Rg.En} (h : Rg.Reg L) {k : Nat} (hk : k < L.length) : Rg.hist L (k + 1) (k + 1) = ((k : Int) + 1) :: Rg.hist L (L.getD k Rg.En0).of.toNat (L.getD k Rg.En0).of.toNat := by
  have h1 := h.of_le hk
  simp only [Rg.hist]
  rw [Rg.hist_fuel h _ _ (by omega) (by omega)]
def GivesHist (L : List Rg.En) (k : Nat) (w : World) (e : Ending) (w' : World) : Prop :=
  ((L.getD (k - 1) Rg.En0).kind = 2 ∧ e = .returned (.tuple #[.slice none 0 0, .int .i64 48]) ∧ Below w.heap.size w w') ∨
  ((L.getD (k - 1) Rg.En0).kind ≠ 2 ∧ ∃ v, e = .returned (.tuple #[v, .int .i64 0]) ∧ Own w' w.heap.size 3 .i64 v (Rg.hist L k k) ∧ Below w.heap.size w w')
set_option maxRecDepth 100000 in
set_option maxHeartbeats 1600000 in
theorem hist38 (A : Option Addr) (n c : Nat) (L : List Rg.En) (k : Nat) (w : World) (h : EnRow w w.heap.size A n c L) (hr : Rg.Reg L) (hk1 : 1 ≤ k) (hk2 : k ≤ n) :
    Calls Try.prog 51 #[.slice A n c, .int .i64 k] w (GivesHist L k w) := by
  have H := Lib.hid h
  have HR := Lib.hid hr
  have hn : n ≤ 100 := by rw [← h.len]; have := hr.few; omega
  clear h hr
  obtain ⟨j, hj⟩ : ∃ j, k = j + 1 := ⟨k - 1, by omega⟩
  have e1 : (k : Int) - 1 = (j : Int) := by omega
  have i1 : (0 : Int) ≤ (j : Int) := by omega
  have i2 : (j : Int) < (n : Int) := by omega
  have d1 : decide ((k : Int) < 1) = false := by simp; omega
  have d2 : decide ((n : Int) < (k : Int)) = false := by simp; omega
  have HJ := Lib.hid hj
  clear hj
  go_enter Try.func51, Try.ntmps51
  go_wp2_with fail
  refine (check_ok A n c L w H.out HR.out).mono ?_; rintro e w1 ⟨rfl, hb1⟩
  have HB1 := Lib.hid hb1
  obtain ⟨g, num, bef, kind, of, out, txt, link, rfl, HX, c0, c1, c2, c3, c4, c5, c6⟩ := (H.out.keep HB1.out HB1.out.size).val (j := j) (by have := HJ.out; omega)
  clear hb1 c0 c1 c3 c4 c5 c6
  by_cases hkd : kind = 2
  · subst hkd
    go_wp2_with fail
    go_ret2
    exact .inl ⟨by rw [HJ.out, show j + 1 - 1 = j by omega, HX.out.1], rfl, HB1.out⟩
  · have g1 : (kind == 2) = false := by simp [hkd]
    have HKD := Lib.hid (show (L.getD (k - 1) Rg.En0).kind ≠ 2 by rw [HJ.out, show j + 1 - 1 = j by omega, HX.out.1]; exact hkd)
    clear hkd
    go_wp2_with fail
    clear HX c2 e1 i1 i2 d1 d2
    have HK2 := Lib.hid hk2
    have hkb : k ≤ 100 := by omega
    go_loopw [1, 7] (fun m q wr => ∃ (t : Nat) (acc : List Int), m = .int .i64 t ∧ t ≤ k ∧ acc.length + t ≤ k ∧ Hid (Own wr w.heap.size 3 .i64 q acc ∧ acc ++ Rg.hist L t t = Rg.hist L k k ∧ Below w.heap.size w wr)) (fun m _ _ => (intOf m).toNat)
    case atStart => exact ⟨k, [], rfl, Nat.le_refl _, by simp, Own.nil _ _ _ _, by simp, HB1.out⟩
    case round =>
      rename World => Y
      obtain ⟨t, acc, rfl, ht, hacc, HI⟩ := hrel
      by_cases ht0 : t = 0
      · subst ht0
        have HE := Lib.hid (show acc = Rg.hist L k k by have := HI.out.2.1; simpa [Rg.hist] using this)
        go_wp2_with fail
        go_ret2
        exact .inr ⟨HKD.out, _, rfl, by rw [← HE.out]; exact HI.out.1, HI.out.2.2⟩
      · obtain ⟨j, rfl⟩ : ∃ j, t = j + 1 := ⟨t - 1, by omega⟩
        obtain ⟨g', num, bef, kind, of, out, txt, link, e9, HX, c0, c1, c2, c3, c4, c5, c6⟩ := H.out.val (j := j) (by omega)
        injection e9 with e9
        injection e9 with e9
        subst e9
        have hj7 : (j : Int) + 1 - 1 = (j : Int) := by omega
        have i1 : (0 : Int) ≤ (j : Int) := by omega
        have i2 : (j : Int) < (n : Int) := by omega
        have g0 : decide ((0 : Int) < (j : Int) + 1) = true := decide_eq_true (by omega)
        have hof := HR.out.of_le HX.out.2.1
        have hst := Rg.hist_step HR.out HX.out.2.1
        rw [HX.out.1] at hof hst
        simp only at hof hst
        obtain ⟨o, rfl⟩ := Int.eq_ofNat_of_zero_le hof.1
        have hoj : o ≤ j := by omega
        have HST := Lib.hid (show (acc ++ [(j : Int) + 1]) ++ Rg.hist L o o = Rg.hist L k k by
          have h9 := HI.out.2.1
          rw [hst] at h9
          rw [← h9]
          simp)
        clear hof hst c0 c1 c2 c4 c5 c6
        go_wp2_with (at_builtin; refine app_int _ rfl (.tmp 32) (.tmp 34) _ rfl w.heap.size 3 8 .i64 int_info28 Try.underlying22 _ _ rfl (HI.out.1.alloc _) ((j : Int) + 1) Y.heap.size rfl (by simp [go_sem]) (by simp only [maxLen]; omega) (by omega) (by have := HI.out.2.2.size; simp; omega) ?_; intro v' w' hown' hgrow; (have hb2 : Below w.heap.size w w' := (HI.out.1.alloc _).grow (HI.out.2.2.alloc HI.out.2.2.size _) hgrow (by have := HI.out.2.2.size; simp; omega) (Nat.le_refl _)); (have c3 := (hb2.cell HX.out.2.2).trans c3); (have HB2 := Lib.hid hb2); (have HO2 := Lib.hid hown'); clear hb2 hown' hgrow)
        go_roundw
        case rel => exact ⟨o, _, rfl, by omega, by simp; omega, HO2.out, HST.out, HB2.out⟩
        case measure => simp [intOf]; omega
end Go.Proofs.Ytojeendofpallaa
/- Register: the program's Add, of a right register. -/
namespace Go.Proofs.Ytojeendofpallaa
open Go.RowKit
def GivesAdd9 (L : List Rg.En) (x : Rg.En) (w : World) (e : Ending) (w' : World) : Prop := ∃ v, e = .returned (.tuple #[v, .int .i64 (Rg.about L x)]) ∧ (Rg.about L x = 0 → EnOwn w' w.heap.size v (L ++ [x])) ∧ Below w.heap.size w w'
theorem concat_add (A : Option Addr) (n c : Nat) (L : List Rg.En) (num bef kind of out link : Int) (txt : ByteArray) (f : Nat) (u : Value) (w w5 : World) (h : EnRow w w.heap.size A n c L) (hb : Below w.heap.size w w5) (hf : w.heap.size ≤ f) (hn : n < 60) :
    Calls Try.prog 78 #[.slice (some ⟨w5.heap.size + 1, 0, none⟩) 2 2] (((w5.setCell ⟨f, 6, none⟩ u).alloc (.cells #[.int .i64 num, .int .u64 bef, .int .i64 kind, .int .i64 of, .int .i64 out, .string txt, .int .u64 link] 60)).alloc (.cells #[.slice A n c, .slice (some ⟨w5.heap.size, 0, none⟩) 1 1] 61)) fun e w' => ∃ v, e = .returned v ∧ EnOwn w' w.heap.size v (L ++ [⟨num, bef, kind, of, out, txt, link⟩]) ∧ Below w.heap.size w w' := by
  obtain ⟨V, hV⟩ : ∃ V : World, (w5.setCell ⟨f, 6, none⟩ u).alloc (.cells #[.int .i64 num, .int .u64 bef, .int .i64 kind, .int .i64 of, .int .i64 out, .string txt, .int .u64 link] 60) = V := ⟨_, rfl⟩
  have hbv : Below w.heap.size w V := by rw [← hV]; exact (hb.setCell (by simpa using hf) _).alloc (by simpa using hb.size) _
  have hlit : V.heap[w5.heap.size]? = some (.cells (Rg.En.cells ⟨num, bef, kind, of, out, txt, link⟩).toArray 60 (0, 0)) := by
    rw [← hV, show w5.heap.size = (w5.setCell ⟨f, 6, none⟩ u).heap.size from by simp]
    exact heap_alloc_new _ _
  have hsz : V.heap.size = w5.heap.size + 1 := by rw [← hV]; simp
  rw [hV]
  obtain ⟨U, hU⟩ : ∃ U : World, V.alloc (.cells #[.slice A n c, .slice (some ⟨w5.heap.size, 0, none⟩) 1 1] 61) = U := ⟨_, rfl⟩
  have hbu : Below V.heap.size V U := by rw [← hU]; exact (Below.refl _ _).alloc (Nat.le_refl _) _
  have hbw : Below w.heap.size w U := hbv.trans (hbu.mono hbv.size)
  have hh : U.heap[w5.heap.size + 1]? = some (.cells #[.slice A n c, .slice (some ⟨w5.heap.size, 0, none⟩) 1 1] 61 (0, 0)) := by
    rw [← hU, ← hsz]
    exact heap_alloc_new _ _
  rw [hU]
  refine (concatE2 (w5.heap.size + 1) A (some ⟨w5.heap.size, 0, none⟩) n c 1 1 L [⟨num, bef, kind, of, out, txt, link⟩] U (by simp [World.cell?, hh]) (by simp [World.cell?, hh]) (h.keep hbw hbw.size) ((EnRow.lit hlit).keep hbu hbu.size) (by omega)).mono ?_
  rintro e w' ⟨v, rfl, ho, hb9⟩
  exact ⟨v, rfl, ho.base_le hbw.size, hbw.trans (hb9.mono hbw.size)⟩
set_option maxRecDepth 100000 in
set_option maxHeartbeats 3200000 in
theorem add38 (A : Option Addr) (n c : Nat) (L : List Rg.En) (kind of out : Int) (txt : ByteArray) (w : World) (h : EnRow w w.heap.size A n c L) (hr : Rg.Reg L) (hn : n < 60) (ht : txt.size ≤ 4000) :
    Calls Try.prog 48 #[.slice A n c, .int .i64 kind, .int .i64 of, .int .i64 out, .string txt] w (GivesAdd9 L (Rg.next L kind of out txt) w) := by
  have H := Lib.hid h
  have HL := Lib.hid h.len
  have HR := Lib.hid hr
  clear h hr
  have g60 : ((n : Int) == 60) = false := by simp; omega
  go_enter Try.func48, Try.ntmps48
  go_wp2_with fail
  refine (check_ok A n c L w H.out HR.out).mono ?_; rintro e w3 ⟨rfl, hb3⟩
  have HB3 := Lib.hid hb3
  have HN3 := Lib.hid (H.out.keep hb3 hb3.size)
  clear hb3
  obtain ⟨X0, hX0⟩ : ∃ X : World, w3.alloc (.cells #[.int .i64 ((n : Int) + 1), .int .u64 0, .int .i64 kind, .int .i64 of, .int .i64 out, .string txt, .int .u64 0] 60) = X := ⟨_, rfl⟩
  have hbx : Below w3.heap.size w3 X0 := by rw [← hX0]; exact (Below.refl _ _).alloc (Nat.le_refl _) _
  have hszx : w3.heap.size < X0.heap.size := by rw [← hX0]; simp
  have x0 : X0.cell? ⟨w3.heap.size, 0, none⟩ = some (.int .i64 ((n : Int) + 1)) := by rw [← hX0]; simp [go_sem]
  have x1 : X0.cell? ⟨w3.heap.size, 1, none⟩ = some (.int .u64 0) := by rw [← hX0]; simp [go_sem]
  have x2 : X0.cell? ⟨w3.heap.size, 2, none⟩ = some (.int .i64 kind) := by rw [← hX0]; simp [go_sem]
  have x3 : X0.cell? ⟨w3.heap.size, 3, none⟩ = some (.int .i64 of) := by rw [← hX0]; simp [go_sem]
  have x4 : X0.cell? ⟨w3.heap.size, 4, none⟩ = some (.int .i64 out) := by rw [← hX0]; simp [go_sem]
  have x5 : X0.cell? ⟨w3.heap.size, 5, none⟩ = some (.string txt) := by rw [← hX0]; simp [go_sem]
  have x6 : X0.cell? ⟨w3.heap.size, 6, none⟩ = some (.int .u64 0) := by rw [← hX0]; simp [go_sem]
  have z1 : X0.frozen? ⟨w3.heap.size, 1, none⟩ = false := by rw [← hX0]; simp [go_sem]
  have z6 : X0.frozen? ⟨w3.heap.size, 6, none⟩ = false := by rw [← hX0]; simp [go_sem]
  have s6 : X0.setCell ⟨w3.heap.size, 6, none⟩ (.int .u64 0) = X0 := by rw [← hX0]; simp [go_sem]
  have HNX := Lib.hid (HN3.out.keep hbx hbx.size)
  have HBX := Lib.hid (HB3.out.trans (hbx.mono HB3.out.size))
  have HEA := Lib.hid (show ∀ a b, Rg.about L ⟨a, b, kind, of, out, txt, 0⟩ = Rg.about L (Rg.next L kind of out txt) from fun _ _ => rfl)
  obtain ⟨code, hcode⟩ : ∃ code, Rg.about L (Rg.next L kind of out txt) = code := ⟨_, rfl⟩
  have HCO := Lib.hid hcode
  have HS3 := Lib.hid HB3.out.size
  have HBX0 := Lib.hid hbx
  clear hbx hcode
  go_wp2_with fail
  clear hX0 s6
  refine (about38 _ n c L _ 0 kind of out 0 txt _ HNX.out (by omega) HR.out.nums (by omega)).mono ?_; rintro e w4 ⟨rfl, hb4⟩
  rw [HEA.out, HCO.out]
  by_cases hc0 : code = 0
  · have hab := about_small (HCO.out.trans hc0) HR.out.nums
    have HSM := Lib.hid (show ∀ b, 0 ≤ b ∧ b ≤ 18446744073709551615 → Rg.Small ⟨(n : Int) + 1, b, kind, of, out, txt, 0⟩ from fun b hb => ⟨by simp only; omega, hab.1, hab.2.1, hab.2.2, by simp only; omega, hb⟩)
    subst hc0
    have HN4 := Lib.hid (HNX.out.keep hb4 hb4.size)
    have HB4 := Lib.hid (HBX.out.trans (hb4.mono HBX.out.size))
    have HB34 := Lib.hid (HBX0.out.trans (hb4.mono HBX0.out.size))
    have HSX := Lib.hid (Nat.lt_of_lt_of_le hszx hb4.size)
    replace z1 := below_frozen hb4 x1 z1
    replace z6 := below_frozen hb4 x6 z6
    replace x0 := below_cell hb4 x0
    replace x1 := below_cell hb4 x1
    replace x2 := below_cell hb4 x2
    replace x3 := below_cell hb4 x3
    replace x4 := below_cell hb4 x4
    replace x5 := below_cell hb4 x5
    replace x6 := below_cell hb4 x6
    clear hab hb4
    by_cases hn0 : n = 0
    · have g0 : decide ((0 : Int) < (n : Int)) = false := by simp; omega
      have g0' : decide (0 < n) = false := by simp; omega
      have HBB := Lib.hid (show (0 : Int) ≤ 0 ∧ (0 : Int) ≤ 18446744073709551615 by omega)
      have HBEF := Lib.hid (show Rg.before L n = 0 by unfold Rg.before; rw [if_pos hn0])
      have HNEXT := Lib.hid (show Rg.next L kind of out txt = ⟨(n : Int) + 1, 0, kind, of, out, txt, Rg.lnk ((n : Int) + 1) 0 kind of out txt⟩ by
        unfold Rg.next
        rw [HL.out, HBEF.out])
      clear hn0
      go_wp2_with fail
      refine (link38 _ 0 kind of out 0 txt _ (HSM.out 0 HBB.out)).mono ?_; rintro e w5 ⟨rfl, hb5⟩
      obtain ⟨lk, hlk⟩ : ∃ lk, Rg.lnk ((n : Int) + 1) 0 kind of out txt = lk := ⟨_, rfl⟩
      have HLK := Lib.hid hlk
      rw [hlk]
      replace z6 := below_frozen hb5 x6 z6
      replace x0 := below_cell hb5 x0
      replace x1 := below_cell hb5 x1
      replace x2 := below_cell hb5 x2
      replace x3 := below_cell hb5 x3
      replace x4 := below_cell hb5 x4
      replace x5 := below_cell hb5 x5
      replace x6 := below_cell hb5 x6
      have HB5 := Lib.hid (HB4.out.trans (hb5.mono HB4.out.size))
      clear hlk hb5 z1
      go_wp2_with fail
      refine (concat_add _ n c L _ 0 kind of out lk txt w3.heap.size _ w w5 H.out HB5.out HS3.out hn).mono ?_; rintro e w6 ⟨v, rfl, ho, hb6⟩
      have HO6 := Lib.hid ho
      have HB6 := Lib.hid hb6
      clear ho hb6
      go_wp2_with fail
      go_ret2
      exact ⟨v, congrArg (fun b => Ending.returned (.tuple #[v, .int .i64 b])) HCO.out.symm, fun _ => by rw [HNEXT.out, HLK.out]; exact HO6.out, HB6.out⟩
    · obtain ⟨k, hk⟩ : ∃ k : Nat, n = k + 1 := ⟨n - 1, by omega⟩
      obtain ⟨g, num2, bef2, kind2, of2, out2, txt2, lk0, rfl, HX, c0, c1, c2, c3, c4, c5, c6⟩ := HN4.out.val (j := k) (by omega)
      have hk1 : (n : Int) - 1 = (k : Int) := by omega
      have g0 : decide ((0 : Int) < (n : Int)) = true := by simp; omega
      have g0' : decide (0 < n) = true := by simp; omega
      have i1 : (0 : Int) ≤ (k : Int) := by omega
      have i2 : (k : Int) < (n : Int) := by omega
      have HBEF := Lib.hid (show Rg.before L n = lk0 by
        unfold Rg.before
        rw [if_neg hn0, show n - 1 = k by omega, HX.out.1])
      have HBB := Lib.hid (show (0 : Int) ≤ lk0 ∧ lk0 ≤ 18446744073709551615 by
        have h9 := HR.out.lnk k HX.out.2.1
        rw [HX.out.1] at h9
        simp only at h9
        rw [h9]
        exact Rg.lnk_bd _ _ _ _ _ _)
      have HNEXT := Lib.hid (show Rg.next L kind of out txt = ⟨(n : Int) + 1, lk0, kind, of, out, txt, Rg.lnk ((n : Int) + 1) lk0 kind of out txt⟩ by
        unfold Rg.next
        rw [HL.out, HBEF.out])
      have HK := Lib.hid hk
      clear hk hn0 c0 c1 c2 c3 c4 c5
      obtain ⟨X1, hX1⟩ : ∃ X : World, w4.setCell ⟨w3.heap.size, 1, none⟩ (.int .u64 lk0) = X := ⟨_, rfl⟩
      have hb1 : Below w3.heap.size w3 X1 := by rw [← hX1]; exact HB34.out.setCell (Nat.le_refl _) _
      have q0 : X1.cell? ⟨w3.heap.size, 0, none⟩ = some (.int .i64 ((n : Int) + 1)) := by rw [← hX1]; simp [go_sem, x0]
      have q1 : X1.cell? ⟨w3.heap.size, 1, none⟩ = some (.int .u64 lk0) := by rw [← hX1]; simp [go_sem, x1]
      have q2 : X1.cell? ⟨w3.heap.size, 2, none⟩ = some (.int .i64 kind) := by rw [← hX1]; simp [go_sem, x2]
      have q3 : X1.cell? ⟨w3.heap.size, 3, none⟩ = some (.int .i64 of) := by rw [← hX1]; simp [go_sem, x3]
      have q4 : X1.cell? ⟨w3.heap.size, 4, none⟩ = some (.int .i64 out) := by rw [← hX1]; simp [go_sem, x4]
      have q5 : X1.cell? ⟨w3.heap.size, 5, none⟩ = some (.string txt) := by rw [← hX1]; simp [go_sem, x5]
      have q6 : X1.cell? ⟨w3.heap.size, 6, none⟩ = some (.int .u64 0) := by rw [← hX1]; simp [go_sem, x6]
      have y6 : X1.frozen? ⟨w3.heap.size, 6, none⟩ = false := by rw [← hX1]; simp [go_sem, z6]
      go_wp2_with fail
      clear hX1 x0 x1 x2 x3 x4 x5 x6 z6 z1 c6 HN4 HSX HB34
      have HB4 := Lib.hid (HB3.out.trans (hb1.mono HB3.out.size))
      have z6 := y6
      have x0 := q0
      have x1 := q1
      have x2 := q2
      have x3 := q3
      have x4 := q4
      have x5 := q5
      have x6 := q6
      clear q0 q1 q2 q3 q4 q5 q6 hb1 y6
      refine (link38 _ lk0 kind of out 0 txt _ (HSM.out lk0 HBB.out)).mono ?_; rintro e w5 ⟨rfl, hb5⟩
      obtain ⟨lk, hlk⟩ : ∃ lk, Rg.lnk ((n : Int) + 1) lk0 kind of out txt = lk := ⟨_, rfl⟩
      have HLK := Lib.hid hlk
      rw [hlk]
      replace z6 := below_frozen hb5 x6 z6
      replace x0 := below_cell hb5 x0
      replace x1 := below_cell hb5 x1
      replace x2 := below_cell hb5 x2
      replace x3 := below_cell hb5 x3
      replace x4 := below_cell hb5 x4
      replace x5 := below_cell hb5 x5
      replace x6 := below_cell hb5 x6
      have HB5 := Lib.hid (HB4.out.trans (hb5.mono HB4.out.size))
      clear hlk hb5 i1
      go_wp2_with fail
      refine (concat_add _ n c L _ lk0 kind of out lk txt w3.heap.size _ w w5 H.out HB5.out HS3.out hn).mono ?_; rintro e w6 ⟨v, rfl, ho, hb6⟩
      have HO6 := Lib.hid ho
      have HB6 := Lib.hid hb6
      clear ho hb6
      go_wp2_with fail
      go_ret2
      exact ⟨v, congrArg (fun b => Ending.returned (.tuple #[v, .int .i64 b])) HCO.out.symm, fun _ => by rw [HNEXT.out, HLK.out]; exact HO6.out, HB6.out⟩
  · have g0 : (code != 0) = true := by simp [hc0]
    have HB4 := Lib.hid (HBX.out.trans (hb4.mono HBX.out.size))
    go_wp2_with fail
    go_ret2
    exact ⟨_, congrArg (fun b => Ending.returned (.tuple #[_, .int .i64 b])) HCO.out.symm, fun h9 => absurd (HCO.out.symm.trans h9) hc0, HB4.out⟩
end Go.Proofs.Ytojeendofpallaa
/- Register: the example that every law asks. -/
namespace Go.Proofs.Ytojeendofpallaa
open Go.RowKit
def Rg.ex1 : Rg.En := Rg.next [] 1 0 1 ⟨#[97]⟩
def Rg.ex2 : Rg.En := Rg.next [Rg.ex1] 3 1 2 ⟨#[98]⟩
theorem Rg.ab1 : Rg.about [] Rg.ex1 = 0 := by decide
theorem Rg.ab2 : Rg.about [Rg.ex1] Rg.ex2 = 0 := by decide
theorem Rg.reg0 : Rg.Reg [] := ⟨by simp, fun j hj => by simp at hj, fun j hj => by simp at hj, fun j hj => by simp at hj, fun j hj => by simp at hj⟩
theorem Rg.reg1 : Rg.Reg [Rg.ex1] := Rg.reg0.snoc (by simp) Rg.ab1
theorem Rg.reg2 : Rg.Reg [Rg.ex1, Rg.ex2] := Rg.reg1.snoc (by simp) Rg.ab2
theorem Rg.inf2 : Rg.inf [Rg.ex1, Rg.ex2] = [2] := by decide
theorem Rg.hist2 : Rg.hist [Rg.ex1, Rg.ex2] 2 2 = [2, 1] := by decide
theorem Rg.kind2 : ([Rg.ex1, Rg.ex2].getD 1 Rg.En0).kind ≠ 2 := by decide
theorem Rg.fnv0 : Rg.fnv [] = 14695981039346656037 := rfl
theorem Rg.fnv1 : Rg.fnv [97] = 12638187200555641996 := by decide
theorem EnRow.nil (w : World) : EnRow w w.heap.size none 0 0 [] := ⟨rfl, Nat.le_refl _, by simp [maxLen], fun h => by omega, fun _ => rfl⟩
set_option maxRecDepth 100000 in
set_option maxHeartbeats 1600000 in
theorem awake38 (w : World) : Calls Try.prog 38 #[] w fun e w' => e = .returned (.bool true) ∧ Below w.heap.size w w' := by
  go_enter Try.func38, Try.ntmps38
  go_wp2_with fail
  refine (add38 none 0 0 [] 1 0 1 ⟨#[97]⟩ w (EnRow.nil w) Rg.reg0 (by omega) (by decide)).mono ?_; rintro e w1 ⟨v1, rfl, ho1, hb1⟩
  have HO1 := Lib.hid (ho1 Rg.ab1)
  have HB1 := Lib.hid hb1
  rw [show Rg.about [] (Rg.next [] 1 0 1 ⟨#[97]⟩) = 0 from Rg.ab1]
  obtain ⟨A1, n1, c1, rfl, hr1⟩ := HO1.out.row (by simp)
  have HN1 := Lib.hid (show EnRow w1 w1.heap.size A1 n1 c1 [Rg.ex1] from hr1)
  obtain rfl : n1 = 1 := HN1.out.len.symm
  clear ho1 hb1 hr1
  go_wp2_with fail
  refine (add38 A1 1 c1 [Rg.ex1] 3 1 2 ⟨#[98]⟩ w1 HN1.out Rg.reg1 (by omega) (by decide)).mono ?_; rintro e w2 ⟨v2, rfl, ho2, hb2⟩
  have HO2 := Lib.hid (ho2 Rg.ab2)
  have HB2 := Lib.hid (HB1.out.trans (hb2.mono HB1.out.size))
  rw [show Rg.about [Rg.ex1] (Rg.next [Rg.ex1] 3 1 2 ⟨#[98]⟩) = 0 from Rg.ab2]
  obtain ⟨A2, n2, c2, rfl, hr2⟩ := HO2.out.row (by simp)
  have HN2 := Lib.hid (show EnRow w2 w2.heap.size A2 n2 c2 [Rg.ex1, Rg.ex2] from hr2)
  obtain rfl : n2 = 2 := HN2.out.len.symm
  clear ho2 hb2 hr2
  go_wp2_with fail
  refine (hist38 A2 2 c2 [Rg.ex1, Rg.ex2] 2 w2 HN2.out Rg.reg2 (by omega) (by omega)).mono ?_; rintro e w3 (⟨h9, _⟩ | ⟨_, v3, rfl, ho3, hb3⟩)
  · exact absurd h9 Rg.kind2
  rw [Rg.hist2] at ho3
  have HB3 := Lib.hid (HB2.out.trans (hb3.mono HB2.out.size))
  have HN3 := Lib.hid (HN2.out.keep hb3 hb3.size)
  obtain ⟨A3, n3, c3, rfl, hn3, hm3⟩ := ho3.nums9 (by decide)
  obtain rfl : n3 = 2 := hn3.out
  have HM3 := Lib.hid hm3
  clear ho3 hb3 hm3 hn3
  go_wp2_with fail
  refine (force38 A2 2 c2 [Rg.ex1, Rg.ex2] w3 HN3.out Rg.reg2).mono ?_; rintro e w4 ⟨v4, rfl, ho4, hb4⟩
  rw [Rg.inf2] at ho4
  obtain ⟨A4, n4, c4, rfl, hn4, hm4⟩ := ho4.nums9 (by decide)
  obtain rfl : n4 = 1 := hn4.out
  have HB4 := Lib.hid (HB3.out.trans (hb4.mono HB3.out.size))
  have HM34 := Lib.hid (HM3.out.keep hb4 hb4.size)
  obtain ⟨X, hX⟩ : ∃ X : World, w4.alloc (.cells #[.int .i64 2] 3) = X := ⟨_, rfl⟩
  have hbx : Below w4.heap.size w4 X := by rw [← hX]; exact (Below.refl _ _).alloc (Nat.le_refl _) _
  have HBX := Lib.hid (HB4.out.trans (hbx.mono HB4.out.size))
  have HM4 := Lib.hid (hm4.keep hbx hbx.size)
  have HM3X := Lib.hid (HM34.out.keep hbx hbx.size)
  have HL := Lib.hid (show Nums X .i64 X.heap.size (some ⟨w4.heap.size, 0, none⟩) 1 1 [2] by rw [← hX]; exact Nums.litH (k := .i64) (l := [2]) (heap_alloc_new w4 _) (by simp) (by decide) (by simp))
  clear ho4 hn4 hm4 hb4 hbx
  go_wp2_with fail
  clear hX
  refine (ints28 _ _ _ _ _ _ [2] [2] _ _ X HM4.out HL.out).mono ?_; rintro e w5 ⟨rfl, hb5⟩
  have HB5 := Lib.hid (HBX.out.trans (hb5.mono HBX.out.size))
  have HM5 := Lib.hid (HM3X.out.keep hb5 hb5.size)
  rw [show decide (([2] : List Int) = [2]) = true by decide]
  obtain ⟨Y, hY⟩ : ∃ Y : World, w5.alloc (.cells #[.int .i64 2, .int .i64 1] 3) = Y := ⟨_, rfl⟩
  have hby : Below w5.heap.size w5 Y := by rw [← hY]; exact (Below.refl _ _).alloc (Nat.le_refl _) _
  have HBY := Lib.hid (HB5.out.trans (hby.mono HB5.out.size))
  have HM5Y := Lib.hid (HM5.out.keep hby hby.size)
  have HLY := Lib.hid (show Nums Y .i64 Y.heap.size (some ⟨w5.heap.size, 0, none⟩) 2 2 [2, 1] by rw [← hY]; exact Nums.litH (k := .i64) (l := [2, 1]) (heap_alloc_new w5 _) (by simp) (by decide) (by simp))
  clear hb5 hby
  go_wp2_with fail
  clear hY
  refine (ints28 _ _ _ _ _ _ [2, 1] [2, 1] _ _ Y HM5Y.out HLY.out).mono ?_; rintro e w6 ⟨rfl, hb6⟩
  have HB6 := Lib.hid (HBY.out.trans (hb6.mono HBY.out.size))
  rw [show decide (([2, 1] : List Int) = [2, 1]) = true by decide]
  clear hb6
  go_wp2_with fail
  refine (sum38 none 0 0 [] w6.heap.size w6 (Nums.nil _ _ _)).mono ?_; rintro e w7 ⟨rfl, rfl⟩
  rw [Rg.fnv0]
  have kc := Lib.run_convert_bytes_const (P := Try.prog) w6 28 5 #[.int .u8 97] 1 1 Try.underlying28 Try.underlying5
  go_wp2_with fail
  obtain ⟨U, hU⟩ : ∃ U : World, w6.alloc (.cells #[.int .u8 97] 5 (1, 2)) = U := ⟨_, rfl⟩
  have hbu : Below w6.heap.size w6 U := by rw [← hU]; exact (Below.refl _ _).alloc (Nat.le_refl _) _
  have HLU := Lib.hid (show Nums U .u8 U.heap.size (some ⟨w6.heap.size, 0, none⟩) 1 1 [97] by rw [← hU]; exact Nums.litH (k := .u8) (l := [97]) (heap_alloc_new w6 _) (by simp) (by decide) (by simp))
  refine (sum38 _ 1 1 [97] U.heap.size _ (show Nums (w6.alloc (.cells #[.int .u8 97] 5 (1, 2))) .u8 U.heap.size (some ⟨w6.heap.size, 0, none⟩) 1 1 [97] by rw [hU]; exact HLU.out)).mono ?_; rintro e w7 ⟨rfl, rfl⟩
  rw [Rg.fnv1]
  rw [hU]
  have HBU := Lib.hid (HB6.out.trans (hbu.mono HB6.out.size))
  go_wp2_with fail
  go_ret
  exact ⟨rfl, HBU.out⟩
end Go.Proofs.Ytojeendofpallaa
