/- Cells: Margins, walked. -/
import Derived.Test.YtojeendofpallaaDb
import Derived.Test.YtojeendofpallaaOb
namespace Go.Proofs.Ytojeendofpallaa
open Go.RowKit Go.Maps
theorem kstr_size (l : List Int) (h : l.length ≤ 1000) : (strOfNums l).size ≤ maxLen := by rw [strOfNums_size]; simp only [maxLen]; omega
theorem Ce.kbytes_few {ss : List Int} {vs : List (List Int)} (hs : Ce.Space ss) (hv : Ce.View ss vs) : (Ce.kbytes vs).length ≤ 1000 := by
  have h := Ce.kbytes_len vs (m := 8) (fun j hj => by
    have a := hv.lens j (by rw [← hv.len]; exact hj)
    have b := hs.hi j (by rw [← hv.len]; exact hj)
    omega) vs.length (Nat.le_refl _)
  rw [List.take_of_length_le (Nat.le_refl _), hv.len] at h
  have := hs.few
  omega
theorem Ce.tog_bit {set n : Nat} (h : set < 2 ^ n) (hn : n ≤ 4) : set ≤ 16 := by
  have : 2 ^ n ≤ 2 ^ 4 := Nat.pow_le_pow_right (by omega) hn
  omega
theorem OwnRows.farB {w w' : World} {base b : Nat} {e eb : TypeId} {k : IntKind} {v : Value} {ls : List (List Int)} (h : OwnRows w base e eb k v ls) (hg : w.grownBy w' (some b)) (hb : b < base) : OwnRows w' base e eb k v ls := by
  obtain ⟨vs, h1, h2⟩ := h
  refine ⟨vs, World.ownsRow.kept h1 hg ?_, h2.imp fun _ _ ho => ho.kept hg (ho.notBlock hb)⟩
  cases hv : v.ownBlock with
  | none => exact .inl rfl
  | some g => exact .inr (by intro e; injection e with e; have := (World.ownsRow.lt h1 g hv).1; omega)
theorem OwnVs.farB {w w' : World} {base b : Nat} {v : Value} {ms : List (List (List Int))} (h : OwnVs w base v ms) (hg : w.grownBy w' (some b)) (hb : b < base) : OwnVs w' base v ms := by
  obtain ⟨xs, h1, h2⟩ := h
  refine ⟨xs, World.ownsRow.kept h1 hg ?_, h2.imp fun _ _ ho => ho.farB hg hb⟩
  cases hv : v.ownBlock with
  | none => exact .inl rfl
  | some g => exact .inr (by intro e; injection e with e; have := (World.ownsRow.lt h1 g hv).1; omega)
/-- a map that is not the row's block stays when the row grows -/
theorem map_row {w w' : World} {k : TypeId} {R : Value → Option (DataW Unit × List MemPlace)} {b n base : Nat} {D : DataW Unit} {v : Value} {ms : List (List (List Int))} (h : w.ownsMap Try.prog k R b n D) (ho : OwnVs w base v ms) (hg : w.grownBy w' v.ownBlock) (hb : b < base) : w'.ownsMap Try.prog k R b n D := by
  obtain ⟨xs, h1, _⟩ := ho
  refine h.kept hg ?_
  intro e
  have := (World.ownsRow.lt h1 b e.symm).1
  omega
theorem VwO.rows {w : World} {b : Nat} {u : Value} {ss : List Int} {vs : List (List Int)} (h : VwO w b (.agg #[u]) ss vs) : OwnRows w b 22 3 .i64 u vs := by
  obtain ⟨⟨q, hq, ho⟩, _⟩ := h
  injection hq with hq
  injection hq with hq
  injection hq with hq _
  subst hq
  exact ho
theorem OwnVs.alloc {w : World} {base : Nat} {v : Value} {ms : List (List (List Int))} (h : OwnVs w base v ms) (o : Obj) : OwnVs (w.alloc o) base v ms := h.below ((Below.refl _ _).alloc (Nat.le_refl _) _)
theorem grownBy_rowV {w0 w w' : World} {row : Option Nat} {base : Nat} {v : Value} {ms : List (List (List Int))} (h : w0.grownBy w row) (ho : OwnVs w base v ms) (hg : w.grownBy w' v.ownBlock) (hb : w0.heap.size ≤ base) : w0.grownBy w' row := by
  obtain ⟨xs, h1, _⟩ := ho
  refine ⟨hg.os.trans h.os, hg.tape.trans h.tape, hg.output.trans h.output, Nat.le_trans h.size hg.size, fun k hk hne => ?_⟩
  rw [hg.block k (Nat.lt_of_lt_of_le hk h.size) (fun e => by have := (World.ownsRow.lt h1 k e.symm).1; omega)]
  exact h.block k hk hne
theorem key28' (v : Value) (ss : List Int) (vs : List (List Int)) (ks : ByteArray) (he : strOfNums (Ce.kbytes vs) = ks) (w : World) (hs : Ce.Space ss) (h : Vw w v ss vs) :
    Calls Try.prog 70 #[v] w fun e w' => e = .returned (.string ks) ∧ Below w.heap.size w w' := by
  subst he
  exact key28 v ss vs w hs h
/-- the key of the view is there -/
structure Ce.Seen (vs : List (List Int)) (D : DataW Unit) : Prop where
  isMap : IsMap D
  own : D.atKey (.string (strOfNums (Ce.kbytes vs)).data.toList) (.lit (.bool false)) = .lit (.bool true)
theorem Ce.Seen.put {vs : List (List Int)} {D : DataW Unit} (h : Ce.Seen vs D) (k : List UInt8) : Ce.Seen vs (D.put (.string k) (.lit (.bool true))) := by
  refine ⟨h.isMap.put _ _, ?_⟩
  by_cases hk : (Lit.string (strOfNums (Ce.kbytes vs)).data.toList) = .string k
  · rw [hk]; exact atKey_put_same h.isMap (show WideAt.IsKeyLit (.string k) from trivial) _ _
  · rw [atKey_put_other hk]; exact h.own
/-- what is among the margins: groups of the view made one, which is another view -/
def Ce.Marg (vs : List (List Int)) (ms : List (List (List Int))) : Prop := ∀ m ∈ ms, ∃ st, st ≤ 16 ∧ m = Ce.tog vs st ∧ m ≠ vs
def GivesMargins (vs : List (List Int)) (w : World) (e : Ending) (w' : World) : Prop := ∃ u ms, e = .returned (.tuple #[u, .int .i64 0]) ∧ OwnVs w' w.heap.size u ms ∧ Ce.Marg vs ms ∧ ms.length ≤ 16 ∧ Below w.heap.size w w'
set_option maxHeartbeats 1600000 in
set_option maxRecDepth 100000 in
theorem margins28 (v v' : Value) (ss : List Int) (vs : List (List Int)) (w : World) (h : Sp w v ss) (h' : Vw w v' ss vs) :
    Calls Try.prog 36 #[v, v'] w (GivesMargins vs w) := by
  obtain ⟨⟨A, n, c, rfl, hn⟩, hs⟩ := h
  obtain ⟨⟨A', n', c', rfl, hn'⟩, hv⟩ := h'
  obtain ⟨W, hW, k0, k1, H, H', HB, hm, HL, H1, rfl, HL', HZ⟩ := vw_box w A n c ss hn hs A' n' c' vs hn' hv
  have HSP := Lib.hid (show Sp W (.agg #[.slice A n' c]) ss from ⟨⟨A, n', c, rfl, H.out.keep (Below.refl _ _) HB.out.size⟩, hs⟩)
  have HVW := Lib.hid (show Vw W (.agg #[.slice A' n' c']) ss vs from ⟨⟨A', n', c', rfl, H'.out.keep (Below.refl _ _) HB.out.size⟩, hv⟩)
  have HS := Lib.hid hs
  have HV := Lib.hid hv
  clear hn hn' hs hv
  have hmm := @run_makeMap Try.prog
  go_enter Try.func36, Try.ntmps36
  go_wp2_with fail
  clear hW
  refine (view28 _ _ ss vs W HSP.out HVW.out).mono ?_; rintro e w1 ⟨rfl, hb1⟩
  have HB1 := Lib.hid (HB.out.trans (hb1.mono HB.out.size))
  have k0 := below_cell hb1 k0
  have k1 := below_cell hb1 k1
  have HK1 := Lib.hid k1
  have HSP1 := Lib.hid (HSP.out.keep hb1)
  have HVW1 := Lib.hid (HVW.out.keep hb1)
  clear hb1
  have hbm : Below w1.heap.size w1 (w1.alloc (.map #[] 0)) := (Below.refl _ _).alloc (Nat.le_refl _) _
  have k9 := below_cell hbm k1
  have HVWM := Lib.hid (HVW1.out.keep hbm)
  have HBM := Lib.hid hbm
  have HMADE := Lib.hid (World.ownsMap_made (H := Unit) w1 Try.prog 9 (plainElem Try.prog 4))
  clear hbm
  go_wp2_with fail
  refine (key28 _ ss vs _ HS.out HVWM.out).mono ?_; rintro e w2 ⟨rfl, hb2⟩
  have hmade2 := HMADE.out.kept (grownBy_of_below hb2 none) (by simp)
  obtain ⟨w3, hrun, hown, hgrow⟩ := hmade2.update keyedStr Try.underlying90 (by simp [maxLen]) (Go.WideMaps.keyOf_string_mk Try.underlying9 (kstr_size _ (Ce.kbytes_few HS.out HV.out))) (plainElem_bool (H := Unit) Try.underlying4 true)
  have hb13 : Below w1.heap.size w1 w3 := grownBy_of_map (w := w1) (HBM.out.trans (hb2.mono HBM.out.size)) hgrow (Nat.le_refl _)
  have HOW := Lib.hid hown
  have HB3 := Lib.hid (HB1.out.trans (hb13.mono HB1.out.size))
  have HSZ := Lib.hid hb13.size
  have HB13 := Lib.hid hb13
  have hmz : w1.heap.size < w3.heap.size := by
    have := hgrow.size
    have := hb2.size
    simp at this
    omega
  have HSP3 := Lib.hid (HSP1.out.keep hb13)
  have HVW3 := Lib.hid (HVW1.out.keep hb13)
  have k1 := below_cell hb13 k1
  have HK := Lib.hid k1
  clear k9 hown hgrow hb2 hb13 k0
  go_wp2_with fail
  clear hrun hmade2 k1
  have hfirst : Ce.Seen vs (DataW.put (H := Unit) (.map []) (.string (strOfNums (Ce.kbytes vs)).data.toList) (.lit (.bool true))) := ⟨isMap_empty.put _ _, atKey_put_same isMap_empty (show WideAt.IsKeyLit (.string _) from trivial) _ _⟩
  have HFI := Lib.hid hfirst
  clear hfirst
  obtain ⟨P, hP⟩ : ∃ P, 2 ^ n' = P := ⟨_, rfl⟩
  have hP16 : P ≤ 16 := by
    have : 2 ^ n' ≤ 2 ^ 4 := Nat.pow_le_pow_right (by omega) hm
    omega
  have hP1 : 1 ≤ P := by rw [← hP]; exact Nat.one_le_two_pow
  have hwr : wrap64 ((2 : Int) ^ n') = (P : Int) := by
    have : ((2 : Int) ^ n') = ((2 ^ n' : Nat) : Int) := by simp
    rw [this, hP, IntWalk.wrap64_in _ (by omega)]
  clear hP
  go_loopw [8, 9] (fun q i wr => ∃ (set : Nat) (ms : List (List (List Int))), 1 ≤ set ∧ set ≤ P ∧ i = .int .i64 set ∧ Hid (OwnVs wr w3.heap.size q ms ∧ Ce.Marg vs ms ∧ ms.length + 1 ≤ set ∧ w3.grownBy wr (some w1.heap.size)) ∧ Hid (∃ D : DataW Unit, wr.ownsMap Try.prog 9 (plainElem Try.prog 4) w1.heap.size set D ∧ Ce.Seen vs D)) (fun _ i _ => P - (intOf i).toNat)
  case atStart => exact ⟨1, [], by omega, hP1, rfl, Lib.hid ⟨OwnVs.nil _ _, (fun m hm => by cases hm), by simp, World.grownBy.refl _ _⟩, _, HOW.out, HFI.out⟩
  case round =>
    rename World => X
    obtain ⟨set, ms, hset1, hset, rfl, HI, HD⟩ := hrel
    obtain ⟨D, hD⟩ := HD.out
    have HOD := Lib.hid hD
    have HBX := Lib.hid (show Below w1.heap.size w1 X from HB13.out.grown HI.out.2.2.2 HB13.out.size (fun r e => by injection e with e; omega))
    have k1 := below_cell HBX.out HK1.out
    have HVWX := Lib.hid (HVW1.out.keep HBX.out)
    have HLM := Lib.hid HI.out.2.2.1
    clear hD
    by_cases hlt : set < P
    · have hltI : decide ((set : Int) < (P : Int)) = true := by simp; omega
      go_wp2_with fail
      refine (together28 _ ss vs set X HS.out HVWX.out (by omega)).mono ?_; rintro e X1 ⟨Am, cm, rfl, hrows, hb1⟩
      obtain ⟨M, hM⟩ : ∃ M, (Ce.tog vs set).length = M := ⟨_, rfl⟩
      rw [hM] at hrows ⊢
      have HMV := Lib.hid (Ce.tog_view HV.out set)
      have HMX := Lib.hid (show X1.heap.size ≠ w1.heap.size by have := hb1.size; have := HI.out.2.2.2.size; omega)
      have HX1 := Lib.hid (show w3.heap.size ≤ X.heap.size from HI.out.2.2.2.size)
      have hbx : Below X1.heap.size X1 (X1.alloc (.cells #[.slice Am M cm] 27)) := (Below.refl _ _).alloc (Nat.le_refl _) _
      obtain ⟨Y, hY⟩ : ∃ Y : World, X1.alloc (.cells #[.slice Am M cm] 27) = Y := ⟨_, rfl⟩
      have hbm : Box Y X1.heap.size _ _ := hY ▸ Box.new X1 (.slice Am M cm) 27
      rw [hY] at hbx
      have HVM := Lib.hid (show VwO Y X.heap.size (.agg #[.slice Am M cm]) ss (Ce.tog vs set) from ⟨⟨_, rfl, hrows.below hbx⟩, HMV.out⟩)
      have HXY := Lib.hid (hb1.trans (hbx.mono hb1.size))
      have km := hbm.cell
      have HBM2 := Lib.hid hbm
      clear hrows hbx hbm hb1 k1
      go_wp2_with fail
      clear hY
      refine (key28 _ ss _ Y HS.out (HVM.out.vw HS.out)).mono ?_; rintro e Z ⟨rfl, hb2⟩
      have HXZ := Lib.hid (HXY.out.trans (hb2.mono HXY.out.size))
      have HDZ := Lib.hid (HOD.out.1.kept (grownBy_of_below HXZ.out none) (by simp))
      have HVMZ := Lib.hid (HVM.out.below hb2)
      have HBMZ := Lib.hid (HBM2.out.below hb2)
      have km := HBMZ.out.cell
      have HKS := Lib.hid (kstr_size (Ce.kbytes (Ce.tog vs set)) (Ce.kbytes_few HS.out HMV.out))
      clear hb2
      have HSEEN := Lib.hid (fun (h : Ce.tog vs set = vs) (c : Bool) (hc : D.atKey (.string (strOfNums (Ce.kbytes (Ce.tog vs set))).data.toList) (.lit (.bool false)) = .lit (.bool c)) => (show c = true by rw [h, HOD.out.2.own] at hc; injection hc with hc; injection hc with hc; exact hc.symm))
      generalize hks : strOfNums (Ce.kbytes (Ce.tog vs set)) = ks at *
      have HKE := Lib.hid hks
      clear hks
      go_wp2_with (first
        | (at_lookup; refine wpList_lookup_own_bool _ rfl _ _ 90 rfl 9 4 keyedStr Try.underlying90 Try.underlying4 (zeroBool _) w1.heap.size set D rfl HDZ.out _ _ rfl (Go.WideMaps.keyOf_string_mk Try.underlying9 HKS.out) ?_; intro cc hat)
        | fail)
      · have hcf : cc = false := by first | assumption | simp_all
        have HNE := Lib.hid (show Ce.tog vs set ≠ vs from fun h9 => by have := HSEEN.out h9 cc hat; rw [hcf] at this; cases this)
        clear hat
        have HVMW := Lib.hid (HVMZ.out.vw HS.out)
        refine (key28' _ ss _ ks HKE.out Z HS.out HVMW.out).mono ?_; rintro e Z1 ⟨rfl, hb3⟩
        have HXZ1 := Lib.hid (HXZ.out.trans (hb3.mono HXZ.out.size))
        have HDZ1 := Lib.hid (HOD.out.1.kept (grownBy_of_below HXZ1.out none) (by simp))
        have HVMZ1 := Lib.hid (HVMZ.out.below hb3)
        have HBMZ1 := Lib.hid (HBMZ.out.below hb3)
        have HRZ1 := Lib.hid (HI.out.1.below HXZ1.out)
        have km := HBMZ1.out.cell
        clear hb3
        go_wp2_with (first
          | (at_mapUpdate; refine wpList_mapUpdate_own _ rfl _ _ _ 90 rfl 9 4 keyedStr Try.underlying90 _ w1.heap.size set D rfl HDZ1.out (by simp only [maxLen]; omega) _ _ _ rfl rfl (Go.WideMaps.keyOf_string_mk Try.underlying9 HKS.out) _ [] (plainElem_bool Try.underlying4 true) ?_; intro Z2 hown5 hgrow5; (have hbm2 := HBMZ1.out.far hgrow5 HMX.out); (have km2 := hbm2.cell); (have HD2 := Lib.hid hown5); (have HG5 := Lib.hid hgrow5); (have HR2 := Lib.hid (HRZ1.out.farB hgrow5 hmz)); (have HROW2 := Lib.hid ((HVMZ1.out.rows.base_le HX1.out).farB hgrow5 hmz)); (have HS2 := Lib.hid (Nat.le_trans HX1.out (Nat.le_trans HXZ1.out.size hgrow5.size))))
          | (at_builtin; refine app_view _ rfl _ _ _ rfl w3.heap.size Try.underlying30 _ ms rfl (HR2.out.alloc _) (.slice Am M cm) (Ce.tog vs set) (HROW2.out.alloc _) _ rfl (by simp [go_sem]) rfl (by have := HLM.out; omega) (by have := HS2.out; simp; omega) ?_; intro v' w' hown' hgrow)
          | fail)
        go_roundw
        case rel =>
          have hg0 := (HI.out.2.2.2.trans (grownBy_of_below HXZ1.out _)).trans HG5.out
          have hg1 := hg0.trans (World.grownBy_alloc Z2 (.cells #[.slice Am M cm] 27) _)
          refine ⟨set + 1, ms ++ [Ce.tog vs set], by omega, by omega, by go_num, Lib.hid ⟨hown', fun m hm => ?_, by have := HLM.out; simp; omega, grownBy_rowV hg1 (HR2.out.alloc _) hgrow (Nat.le_refl _)⟩, _, map_row (HD2.out.alloc _) (HR2.out.alloc _) hgrow hmz, HOD.out.2.put _⟩
          rcases List.mem_append.1 hm with h9 | h9
          · exact HI.out.2.1 m h9
          · rw [List.mem_singleton.1 h9]
            exact ⟨set, by omega, rfl, HNE.out⟩
        case measure => simp [intOf]; omega
      · go_roundw
        case rel => exact ⟨set + 1, ms, by omega, by omega, by go_num, Lib.hid ⟨HI.out.1.below HXZ.out, HI.out.2.1, by have := HLM.out; omega, HI.out.2.2.2.trans (grownBy_of_below HXZ.out _)⟩, D, HDZ.out.mono (by omega), HOD.out.2⟩
        case measure => simp [intOf]; omega
    · obtain rfl : set = P := by omega
      go_wp2_with fail
      go_ret2
      exact ⟨_, ms, rfl, HI.out.1.base_le HB3.out.size, HI.out.2.1, by have := HLM.out; omega, HB3.out.grown HI.out.2.2.2 HB3.out.size (fun r e => by injection e with e; have := HB1.out.size; omega)⟩
end Go.Proofs.Ytojeendofpallaa
