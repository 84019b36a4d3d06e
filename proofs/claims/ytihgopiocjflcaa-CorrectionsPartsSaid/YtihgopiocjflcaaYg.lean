/- Corrections: the law that what two lists of keys concern is what one of both concerns. -/
import Derived.Test.YtihgopiocjflcaaYf
import Derived.Test.YtihgopiocjflcaaRn
namespace Go.Proofs.Ytihgopiocjflcaa
open Go.RowKit
theorem Cod.belowC {w w' : World} {base g B : Nat} (h : Cod w base g) (hb : Below B w w') (hB : base ≤ B) (hg : g < B) : Cod w' base g := by
  obtain ⟨A, n, c, i, l, h1, h2, h3, h4, h5⟩ := h
  exact ⟨A, n, c, i, l, h1, h2, h3, (hb.block g hg).trans h4, h5.keep (hb.mono hB) (Nat.le_refl _)⟩
theorem grown_belowC {w w3 w4 : World} {g B : Nat} (hg : w.grownBy w3 (some g)) (hb : Below B w3 w4) (hB : w.heap.size ≤ B) : w.grownBy w4 (some g) :=
  ⟨hb.os.trans hg.os, hb.tape.trans hg.tape, hb.output.trans hg.output, Nat.le_trans hg.size hb.size, fun k hk hne => (hb.block k (Nat.lt_of_lt_of_le hk hB)).trans (hg.block k hk hne)⟩
theorem grown_setC {w w3 w4 : World} {g b : Nat} (hg : w.grownBy w3 (some g)) (hb : w3.grownBy w4 (some b)) (hB : w.heap.size ≤ b) : w.grownBy w4 (some g) :=
  ⟨hb.os.trans hg.os, hb.tape.trans hg.tape, hb.output.trans hg.output, Nat.le_trans hg.size hb.size, fun k hk hne => (hb.block k (Nat.lt_of_lt_of_le hk hg.size) (fun e => by injection e with e; omega)).trans (hg.block k hk hne)⟩
theorem below_growC {w0 w w' : World} {g : Nat} (h : Below w0.heap.size w0 w) (hg : w.grownBy w' (some g)) (hgg : w0.heap.size ≤ g) : Below w0.heap.size w0 w' :=
  h.trans ⟨hg.os, hg.tape, hg.output, hg.size, fun j hj => hg.block j (Nat.lt_of_lt_of_le hj h.size) (fun e => by injection e with e; omega)⟩
theorem grown_setCell (w : World) (q k : Nat) (u : Value) : w.grownBy (w.setCell ⟨q, k, none⟩ u) (some q) := ⟨rfl, rfl, rfl, by simp [World.setCell], fun j hj hne => by
  simp only [World.setCell, Array.getElem?_modify]
  rw [if_neg (fun e => hne (by rw [← e]))]⟩
/-- concerns stay when the choices turn -/
theorem OwnC.cod {w w' : World} {base b2 g : Nat} {v : Value} {cs : List (Int × List Int)} (h : OwnC w b2 v cs) (hc : Cod w base g) (hg : w.grownBy w' (some g)) : OwnC w' b2 v cs := by
  obtain ⟨L, h1, h2, h3⟩ := h
  refine ⟨L, ?_, h2, h3.imp fun _ _ ho => ho.cod hc hg (by decide)⟩
  obtain ⟨A, n, c, i, l, q1, q2, q3, q4, q5⟩ := hc
  refine h1.kept hg ?_
  obtain ⟨_, ⟨rfl, _⟩ | ⟨g', cap, cur, rfl, _, hh, _⟩⟩ := h1
  · exact .inl rfl
  · refine .inr fun e9 => ?_
    simp [Value.ownBlock] at e9
    subst e9
    rw [hh] at q4
    injection q4 with q4
    injection q4 with _ qt
    exact absurd qt (by decide)
structure Cn.Good (cs : List (Int × List Int)) : Prop where
  asc : ∀ p ∈ cs, Zs.Asc p.2
  bd : ∀ p ∈ cs, ∀ x ∈ p.2, 0 ≤ x ∧ x ≤ 19
  sm : ∀ p ∈ cs, p.2.length ≤ 20
  num : ∀ p ∈ cs, 0 ≤ p.1 ∧ p.1 ≤ 100
theorem Cn.Good.nil : Cn.Good [] := ⟨by simp, by simp, by simp, by simp⟩
theorem Cn.Good.snoc {cs : List (Int × List Int)} (h : Cn.Good cs) {o : Int} {l : List Int} (h1 : Zs.Asc l) (h2 : ∀ x ∈ l, 0 ≤ x ∧ x ≤ 19) (h3 : l.length ≤ 20) (h4 : 0 ≤ o ∧ o ≤ 100) : Cn.Good (cs ++ [(o, l)]) := by
  refine ⟨fun p hp => ?_, fun p hp => ?_, fun p hp => ?_, fun p hp => ?_⟩ <;> rcases List.mem_append.1 hp with hp | hp
  · exact h.asc p hp
  · rw [List.mem_singleton.1 hp]; exact h1
  · exact h.bd p hp
  · rw [List.mem_singleton.1 hp]; exact h2
  · exact h.sm p hp
  · rw [List.mem_singleton.1 hp]; exact h3
  · exact h.num p hp
  · rw [List.mem_singleton.1 hp]; exact h4
theorem Cn.Good.right {cs : List (Int × List Int)} (h : Cn.Good cs) (hl : cs.length ≤ 40) : Cn.Right cs :=
  ⟨hl, h.asc, fun p hp x hx => by have := h.bd p hp x hx; omega, fun p hp => by have := h.sm p hp; omega, fun p hp => by have := h.num p hp; omega⟩
/-- keys under way -/
structure Cn.Keys (keys : List Int) (q : Int) : Prop where
  asc : Zs.Asc keys
  bd : ∀ x ∈ keys, 0 ≤ x ∧ x ≤ 19 ∧ x < q
  few : (keys.length : Int) ≤ q
  few2 : keys.length ≤ 20
theorem Cn.asc_snoc {keys : List Int} {q : Int} (h : Zs.Asc keys) (hb : ∀ x ∈ keys, x < q) : Zs.Asc (keys ++ [q]) :=
  List.pairwise_append.2 ⟨h, by simp, fun x hx y hy => by rw [List.mem_singleton.1 hy]; exact hb x hx⟩
theorem Cn.Keys.snoc {keys : List Int} {q d : Int} (h : Cn.Keys keys q) (hq : 0 ≤ q) (hq2 : q < 20) (hd : 1 ≤ d) : Cn.Keys (keys ++ [q]) (q + d) := by
  refine ⟨Cn.asc_snoc h.asc (fun x hx => (h.bd x hx).2.2), fun x hx => ?_, ?_, ?_⟩
  · rcases List.mem_append.1 hx with hx | hx
    · have := h.bd x hx; omega
    · rw [List.mem_singleton.1 hx]; omega
  · have := h.few; rw [List.length_append]; simp; omega
  · have := h.few; rw [List.length_append]; simp; omega
theorem Cn.Good.sane {cs : List (Int × List Int)} (h : Cn.Good cs) (S : List Int) : Cn.Sane (Cn.conc cs S) := by
  have hm : ∀ p ∈ Cn.conc cs S, ∃ q ∈ cs, p.2 = Cn.meet q.2 S := fun p hp => by
    obtain ⟨q, hq, he⟩ := List.mem_filterMap.1 hp
    split at he
    · cases he
    · injection he with he
      exact ⟨q, hq, by rw [← he]⟩
  refine ⟨fun p hp x hx => ?_, fun p hp => ?_⟩
  · obtain ⟨q, hq, e⟩ := hm p hp
    rw [e] at hx
    have := h.bd q hq x (List.mem_filter.1 hx).1
    omega
  · obtain ⟨q, hq, e⟩ := hm p hp
    rw [e]
    have := h.sm q hq
    have h2 : (Cn.meet q.2 S).length ≤ q.2.length := List.length_filter_le _ _
    omega
theorem Cn.conc_len (cs : List (Int × List Int)) (S : List Int) : (Cn.conc cs S).length ≤ cs.length := List.length_filterMap_le _ _
theorem hasV {A : Option Addr} {c : Nat} {cs : List (Int × List Int)} {o key : Int} {bl : Bool} {base : Nat} {w : World} (hv : Cn.has cs o key = bl) (h : OwnC w base (.slice A cs.length c) cs) (hr : Cn.Sane cs) (hn1 : cs.length ≤ 1000) (x : Aft w) :
    Calls Try.prog 9 #[.slice A cs.length c, .int .i64 o, .int .i64 key] x.now fun e w' => e = .returned (.bool bl) ∧ ∃ y : Aft w, w' = y.now :=
  Calls.aft ((has40 A cs.length c cs o key base x.now (h.below x.below) hr rfl hn1).mono fun _ _ ⟨h1, h2⟩ => ⟨by rw [h1, hv], h2⟩)
set_option maxRecDepth 100000 in
set_option maxHeartbeats 3200000 in
theorem walkParts (W : World) (A : Option Addr) (n c : Nat) (l : List Int) (h : Nums W .u8 W.heap.size A n c l) (A1 : Option Addr) (n1 c1 : Nat) (l1 : List Int) (h1 : Nums W .i64 W.heap.size A1 n1 c1 l1) (A2 : Option Addr) (n2 c2 : Nat) (l2 : List Int) (h2 : Nums W .i64 W.heap.size A2 n2 c2 l2) :
    Calls Try.prog 3 #[.slice A n c, .slice A1 n1 c1, .slice A2 n2 c2] W fun e w => e = .returned (.bool true) ∧ Below W.heap.size W w := by
  have H1 := Lib.hid h1
  have H2 := Lib.hid h2
  by_cases hb : 30 < n1
  · have g1 : decide ((30 : Int) < (n1 : Int)) = true := decide_eq_true (by omega)
    go_enter Try.func3, Try.ntmps3
    go_wp2_with fail
    refine (awake40 W).mono ?_; rintro e w8 ⟨rfl, hb8⟩
    have HB8 := Lib.hid hb8
    clear hb8
    go_wp2_with fail
    go_ret
    exact ⟨rfl, HB8.out⟩
  have g1 : decide ((30 : Int) < (n1 : Int)) = false := decide_eq_false (by omega)
  by_cases hb2 : 30 < n2
  · have g2 : decide ((30 : Int) < (n2 : Int)) = true := decide_eq_true (by omega)
    go_enter Try.func3, Try.ntmps3
    go_wp2_with fail
    refine (awake40 W).mono ?_; rintro e w8 ⟨rfl, hb8⟩
    have HB8 := Lib.hid hb8
    clear hb8
    go_wp2_with fail
    go_ret
    exact ⟨rfl, HB8.out⟩
  have g2 : decide ((30 : Int) < (n2 : Int)) = false := decide_eq_false (by omega)
  have HNN := Lib.hid (show n1 ≤ 30 ∧ n2 ≤ 30 by omega)
  clear hb hb2 h1 h2
  go_enter Try.func3, Try.ntmps3
  go_wp2_with fail
  refine (new_any A n c l W h).mono ?_; rintro e w1 ⟨rfl, hc1, hb1⟩
  have HB1 := Lib.hid hb1
  have HC1 := Lib.hid hc1
  clear hb1 hc1
  go_wp2_with fail
  refine (next_any 6 (by decide) (by decide) _ _ w1 HC1.out).mono ?_; rintro e w2 ⟨k, rfl, hk0, hk1, _, hc2, hg2⟩
  have hk1 := hk1 (by decide)
  obtain ⟨k, rfl⟩ := Int.eq_ofNat_of_zero_le hk0
  have hk5 : k ≤ 5 := by omega
  have HC2 := Lib.hid hc2
  have HB2 := Lib.hid (below_growC HB1.out hg2 (Nat.le_refl _))
  have HWG := Lib.hid hc2.lt.1
  clear hc2 hg2 hk0 hk1
  go_wp2_with fail
  go_loopw [8, 9] (fun v nv wr => ∃ (s : Nat) (cs : List (Int × List Int)), s ≤ k ∧ nv = .int .i64 s ∧ Hid (OwnC wr w2.heap.size v cs ∧ cs.length + s = k ∧ Cn.Good cs ∧ Cod wr W.heap.size W.heap.size ∧ Below W.heap.size W wr ∧ w2.heap.size ≤ wr.heap.size)) (fun _ nv _ => (intOf nv).toNat)
  case atStart => exact ⟨k, [], by omega, rfl, OwnC.nil _ _, by simp, Cn.Good.nil, HC2.out, HB2.out, Nat.le_refl _⟩
  case round =>
    rename World => Y
    obtain ⟨s, cs, hs, rfl, HI⟩ := hrel
    rcases Nat.eq_zero_or_pos s with h0 | h0
    · subst h0
      obtain ⟨Av, cv, hvv, _⟩ := HI.out.1.len
      subst hvv
      obtain ⟨M, hM⟩ : ∃ M, cs.length = M := ⟨_, rfl⟩
      have HML := Lib.hid hM
      have hM5 : M ≤ 5 := by have := HI.out.2.1; omega
      have HL0 := Lib.hid (show OwnC Y w2.heap.size (.slice Av M cv) cs by rw [← hM]; exact HI.out.1)
      have HRI := Lib.hid (HI.out.2.2.1.right (by omega))
      have HBY := Lib.hid HI.out.2.2.2.2.1
      rw [hM]
      clear hM
      go_wp2_with fail
      refine (concerned40 Av A1 M cv n1 c1 cs l1 w2.heap.size Y HL0.out HRI.out HML.out.symm (H1.out.keep HBY.out HBY.out.size) (by have := HNN.out; omega)).mono ?_; rintro e z1 ⟨v1, rfl, hv1, hb1⟩
      obtain ⟨P1, p1, rfl, _⟩ := hv1.len
      have HP1 := Lib.hid hv1
      have HB1' := Lib.hid (HBY.out.trans (hb1.mono HBY.out.size))
      have HL1 := Lib.hid (HL0.out.below hb1)
      clear hv1 hb1
      go_wp2_with fail
      refine (concerned40 Av A2 M cv n2 c2 cs l2 w2.heap.size z1 HL1.out HRI.out HML.out.symm (H2.out.keep HB1'.out HB1'.out.size) (by have := HNN.out; omega)).mono ?_; rintro e z2 ⟨v2, rfl, hv2, hb2⟩
      obtain ⟨P2, p2, rfl, _⟩ := hv2.len
      have HP2 := Lib.hid hv2
      have HP1' := Lib.hid (HP1.out.below hb2)
      have HB2' := Lib.hid (HB1'.out.trans (hb2.mono HB1'.out.size))
      have HL2 := Lib.hid (HL1.out.below hb2)
      clear hv2 hb2
      have hbe : Below z2.heap.size z2 (z2.alloc (.cells #[] 3)) := (Below.refl _ _).alloc (Nat.le_refl _) _
      have HPE := Lib.hid ((H1.out.keep HB2'.out HB2'.out.size).keep hbe hbe.size)
      have HQ3 := Lib.hid hbe.size
      have HGR := Lib.hid (fun (w2 : World) (h : (z2.alloc (.cells #[] 3)).grownBy w2 (Value.slice (some ⟨z2.heap.size, 0, none⟩) 0 0).ownBlock) => (Own.grow (w0 := z2) (B := z2.heap.size) (Own.empty z2 3 .i64) hbe h hbe.size (Nat.le_refl _) : Below z2.heap.size z2 w2))
      have hl1 : l1.length ≤ 30 := by rw [H1.out.len]; exact HNN.out.1
      clear hbe
      go_wp2_with (first
        | (at_builtin; have hz := HA1.out; refine app_ints _ rfl _ _ _ rfl z2.heap.size 3 8 .i64 int_info Try.underlying23 _ l1 rfl hz _ _ _ _ l2 rfl HNB.out (by have := HNN.out; simp only [maxLen]; omega) (by have := HNN.out; omega) HBA.out.size ?_; intro vb wb hownb hgrowb; (have hbb : Below z2.heap.size z2 wb := hz.grow HBA.out hgrowb HBA.out.size (Nat.le_refl _)); obtain ⟨Ab, cb, rfl, hnb⟩ := hownb.nums (fun x hx => (List.mem_append.1 hx).elim (H1.out.wf x) (H2.out.wf x)); (have HNBB := Lib.hid hnb); (have HBB := Lib.hid hbb); clear hz hownb hgrowb hbb hnb)
        | (at_builtin; refine app_ints _ rfl _ _ _ rfl z2.heap.size 3 8 .i64 int_info Try.underlying23 (.slice (some ⟨z2.heap.size, 0, none⟩) 0 0) [] rfl (Own.empty z2 _ _) _ _ _ _ l1 rfl HPE.out (by have := HNN.out; simp only [maxLen, List.length_nil]; omega) (by have := HNN.out; simp only [List.length_nil]; omega) HQ3.out ?_; intro va wa howna hgrowa; (have hba : Below z2.heap.size z2 wa := HGR.out wa hgrowa); rw [List.nil_append] at howna; (have HA1 := Lib.hid howna); (have HBA := Lib.hid hba); (have HNB := Lib.hid ((H2.out.keep HB2'.out HB2'.out.size).keep hba hba.size)); clear howna hgrowa hba))
      have hnb9 := HNBB.out
      rw [List.length_append] at hnb9
      have HLW := Lib.hid (HL2.out.below HBB.out)
      have HPW1 := Lib.hid (HP1'.out.below HBB.out)
      have HPW2 := Lib.hid (HP2.out.below HBB.out)
      have HBW := Lib.hid (HB2'.out.trans (HBB.out.mono HB2'.out.size))
      refine (concerned40 Av Ab M cv (l1.length + l2.length) cb cs (l1 ++ l2) w2.heap.size wb HLW.out HRI.out HML.out.symm hnb9 (by have := HNN.out; have := H2.out.len; omega)).mono ?_; rintro e z3 ⟨v3, rfl, hv3, hb3⟩
      obtain ⟨P3, p3, rfl, _⟩ := hv3.len
      have HP3 := Lib.hid hv3
      have HX1 := Lib.hid (HPW1.out.below hb3)
      have HX2 := Lib.hid (HPW2.out.below hb3)
      have HLX := Lib.hid (HLW.out.below hb3)
      have HBX3 := Lib.hid (HBW.out.trans (hb3.mono HBW.out.size))
      clear hv3 hb3 hnb9
      have HSA := Lib.hid HI.out.2.2.1
      go_wp2_with fail
      go_loopw [95] (fun iv wr => ∃ j : Nat, j ≤ M ∧ iv = .int .i64 j ∧ Hid (Below z3.heap.size z3 wr)) (fun iv _ => M - (intOf iv).toNat)
      case atStart => exact ⟨0, by omega, rfl, Lib.hid (Below.refl _ _)⟩
      case round =>
        rename World => V
        obtain ⟨j, hj, rfl, HJ⟩ := hrel
        by_cases hlt : j < M
        · obtain ⟨g, q, l, vl, hA, HX, hc0, hc1, hol⟩ := (HLX.out.below HJ.out).at_ hlt
          have HM := Lib.hid (Cn.mem_at ⟨HX.out.1, HX.out.2.1⟩)
          obtain ⟨Al, cl, rfl, hnl⟩ := hol.nums (fun x hx => Cn.wf (by have := HSA.out.bd _ HM.out x hx; omega))
          obtain ⟨L, hL⟩ : ∃ L, l.length = L := ⟨_, rfl⟩
          have hL20 : L ≤ 20 := by rw [← hL]; exact HSA.out.sm _ HM.out
          rw [hL] at hnl hc1
          obtain ⟨Z, hZ⟩ : ∃ Z : World, V.alloc (.cells #[.int .i64 q, .slice Al L cl] 30) = Z := ⟨_, rfl⟩
          have hbz : Below V.heap.size V Z := by rw [← hZ]; exact (Below.refl _ _).alloc (Nat.le_refl _) _
          have d0 : Z.cell? ⟨V.heap.size, 0, none⟩ = some (.int .i64 q) := by rw [← hZ]; simp [go_sem]
          have d1 : Z.cell? ⟨V.heap.size, 1, none⟩ = some (.slice Al L cl) := by rw [← hZ]; simp [go_sem]
          have HVZ := Lib.hid (show V.heap.size < Z.heap.size by rw [← hZ]; simp)
          have HD0 := Lib.hid d0
          have HBZ := Lib.hid (HJ.out.trans (hbz.mono HJ.out.size))
          have HNZ := Lib.hid (hnl.keep hbz (Nat.le_refl _))
          have HSZ := Lib.hid hbz.size
          have i1 : (0 : Int) ≤ (j : Int) := by omega
          have i2 : (j : Int) < (M : Int) := by omega
          clear hol hnl hbz hL
          subst hA
          go_wp2_with fail
          clear d0 d1
          go_loopw [102] (fun iv wr => ∃ i : Nat, i ≤ L ∧ iv = .int .i64 i ∧ Hid (Below Z.heap.size Z wr)) (fun iv _ => L - (intOf iv).toNat)
          case atStart => exact ⟨0, by omega, rfl, Lib.hid (Below.refl _ _)⟩
          case round =>
            rename World => U
            obtain ⟨i, hi, rfl, HU⟩ := hrel
            by_cases hlt2 : i < L
            · obtain ⟨ad, z, rfl, _, HZ2, hz, _⟩ := (HNZ.out.keep (HU.out.mono HSZ.out) (Nat.le_refl _)).val hlt2
              have d0 : U.cell? ⟨V.heap.size, 0, none⟩ = some (.int .i64 q) := (HU.out.cell (by exact HVZ.out)).trans HD0.out
              have HBU := Lib.hid (HBZ.out.trans (HU.out.mono HBZ.out.size))
              have HR1 := Lib.hid (Cn.has_conc (Zs.of l1) HM.out (getD_mem HZ2.out))
              have HR2 := Lib.hid (Cn.has_conc (Zs.of l2) HM.out (getD_mem HZ2.out))
              have HR3 := Lib.hid (show Cn.has (Cn.conc cs (Zs.of (l1 ++ l2))) q z = (decide (z ∈ Zs.of l1) || decide (z ∈ Zs.of l2)) by
                rw [Cn.has_conc (Zs.of (l1 ++ l2)) HM.out (getD_mem HZ2.out), Bool.eq_iff_iff]
                simp [Zs.mem_of])
              have HO1 := Lib.hid (HX1.out.below HBU.out)
              have HO2 := Lib.hid (HX2.out.below HBU.out)
              have HO3 := Lib.hid (HP3.out.below HBU.out)
              have i3 : (0 : Int) ≤ (i : Int) := by omega
              have i4 : (i : Int) < (L : Int) := by omega
              have a0 := Aft.cell d0
              have HS1 := Lib.hid (HSA.out.sane (Zs.of l1))
              have HS2 := Lib.hid (HSA.out.sane (Zs.of l2))
              have HS3 := Lib.hid (HSA.out.sane (Zs.of (l1 ++ l2)))
              have HN1 := Lib.hid (show (Cn.conc cs (Zs.of l1)).length ≤ 1000 by have := Cn.conc_len cs (Zs.of l1); have := HML.out; omega)
              have HN2 := Lib.hid (show (Cn.conc cs (Zs.of l2)).length ≤ 1000 by have := Cn.conc_len cs (Zs.of l2); have := HML.out; omega)
              have HN3 := Lib.hid (show (Cn.conc cs (Zs.of (l1 ++ l2))).length ≤ 1000 by have := Cn.conc_len cs (Zs.of (l1 ++ l2)); have := HML.out; omega)
              rcases hb1 : decide (z ∈ Zs.of l1) with _ | _ <;> rcases hb2 : decide (z ∈ Zs.of l2) with _ | _
              all_goals
                have R1 := Lib.hid (HR1.out.trans hb1)
                have R2 := Lib.hid (HR2.out.trans hb2)
                have R3 := Lib.hid (show Cn.has (Cn.conc cs (Zs.of (l1 ++ l2))) q z = _ from by rw [HR3.out, hb1, hb2])
                clear hb1 hb2
                go_wp2_with fail
                refine wp_region_aft (by kernel_rfl) (by kernel_rfl) ?_
                repeat (go_big_quiet_step (first | with_reducible exact hasV R3.out HO3.out HS3.out HN3.out _ | with_reducible exact hasV R1.out HO1.out HS1.out HN1.out _ | with_reducible exact hasV R2.out HO2.out HS2.out HN2.out _))
                refine wpQuiet_nil ?_
                rintro _ ⟨⟨U1, hbU⟩, rfl⟩
                have HBE := Lib.hid (HU.out.trans (hbU.mono HU.out.size))
                clear hbU
                go_wp2_with fail
                go_roundw
                case rel => exact ⟨i + 1, by omega, by go_num, HBE⟩
                case measure => simp [intOf]; omega
            · obtain rfl : L = i := by omega
              have HE := Lib.hid (HBZ.out.trans (HU.out.mono HBZ.out.size))
              go_wp2_with fail
              go_roundw
              case rel => exact ⟨j + 1, by omega, by go_num, HE⟩
              case measure => simp [intOf]; omega
        · obtain rfl : M = j := by omega
          go_wp2_with fail
          refine (awake40 V).mono ?_; rintro e w8 ⟨rfl, hb8⟩
          have HB8 := Lib.hid (HBX3.out.trans ((HJ.out.trans (hb8.mono HJ.out.size)).mono HBX3.out.size))
          clear hb8
          go_wp2_with fail
          go_ret
          exact ⟨rfl, HB8.out⟩
    · obtain ⟨j, hj⟩ : ∃ j, s = j + 1 := ⟨s - 1, by omega⟩
      subst hj
      obtain ⟨Av, cv, hvv, _⟩ := HI.out.1.len
      subst hvv
      obtain ⟨M, hM⟩ : ∃ M, cs.length = M := ⟨_, rfl⟩
      have HML := Lib.hid hM
      have hM5 : M ≤ 5 := by have := HI.out.2.1; omega
      have gs : decide ((0 : Int) < ((j + 1 : Nat) : Int)) = true := decide_eq_true (by omega)
      have gs2 : decide ((0 : Int) < (j : Int) + 1) = true := decide_eq_true (by omega)
      rw [hM]
      clear hM
      go_wp2_with fail
      obtain ⟨Z, hZ⟩ : ∃ Z : World, Y.alloc (.cells #[.int .i64 ((M : Int) + 1), .slice none 0 0] 30) = Z := ⟨_, rfl⟩
      have hbz : Below Y.heap.size Y Z := by rw [← hZ]; exact (Below.refl _ _).alloc (Nat.le_refl _) _
      have HBX := Lib.hid (show Z.heap[Y.heap.size]? = some (.cells #[.int .i64 ((M : Int) + 1), .slice none 0 0] 30 (0, 0)) by rw [← hZ]; exact heap_alloc_new _ _)
      have HYZ := Lib.hid (show Y.heap.size + 1 = Z.heap.size by rw [← hZ]; simp)
      have HCZ := Lib.hid (HI.out.2.2.2.1.below hbz)
      have HGZ := Lib.hid (grownBy_of_below hbz (some W.heap.size))
      rw [hZ]
      clear hbz
      obtain ⟨vv, hvv⟩ : ∃ vv, Value.slice Av M cv = vv := ⟨_, rfl⟩
      have HOV := Lib.hid (show OwnC Y w2.heap.size vv cs by rw [← hvv, ← HML.out]; exact HI.out.1)
      rw [hvv]
      clear hvv
      refine (next_any 4 (by decide) (by decide) _ _ Z HCZ.out).mono ?_; rintro e z1 ⟨q0, rfl, hq0, hq1, _, hc1, hg1⟩
      have hq1 := hq1 (by decide)
      have HC1' := Lib.hid hc1
      have HG1' := Lib.hid (HGZ.out.trans hg1)
      have HBX1 := Lib.hid (show z1.heap[Y.heap.size]? = some (.cells #[.int .i64 ((M : Int) + 1), .slice none 0 0] 30 (0, 0)) from (hg1.block _ (by have := HYZ.out; omega) (fun e => by injection e with e; have := HI.out.2.2.2.1.lt.1; omega)).trans HBX.out)
      have HZ1 := Lib.hid hg1.size
      clear hc1 hg1 hZ
      go_wp2_with fail
      go_loopw [11] (fun qv wr => ∃ (q : Int) (keys : List Int) (vl : Value), 0 ≤ q ∧ q ≤ 30 ∧ qv = .int .i64 q ∧ Hid (wr.heap[Y.heap.size]? = some (.cells #[.int .i64 ((M : Int) + 1), vl] 30 (0, 0)) ∧ Own wr Z.heap.size 3 .i64 vl keys ∧ Cn.Keys keys q ∧ Cod wr W.heap.size W.heap.size ∧ Y.grownBy wr (some W.heap.size) ∧ Z.heap.size ≤ wr.heap.size)) (fun qv _ => (20 - intOf qv).toNat)
      case atStart => exact ⟨q0, [], .slice none 0 0, hq0, by omega, rfl, HBX1.out, Own.nil _ _ _ _, ⟨List.Pairwise.nil, by simp, by simpa using hq0, by simp⟩, HC1'.out, HG1'.out, HZ1.out⟩
      case round =>
        rename World => X
        obtain ⟨q, keys, vl, hqa, hqb, rfl, HJ⟩ := hrel
        have HLL := Lib.hid HJ.out.2.2.1.few2
        have hone : vl.oneCell' = true := by
          obtain ⟨_, _, h9, _⟩ := HJ.out.2.1.nums (fun x hx => Cn.wf (by have := HJ.out.2.2.1.bd x hx; omega))
          rw [h9]; rfl
        have HJ0 := Lib.hid HJ.out.1
        have HJ1 := Lib.hid HJ.out.2.1
        have HJ2 := Lib.hid HJ.out.2.2
        have cx0 : X.cell? ⟨Y.heap.size, 0, none⟩ = some (.int .i64 ((M : Int) + 1)) := by simp [World.cell?, HJ0.out]
        have cx1 : X.cell? ⟨Y.heap.size, 1, none⟩ = some (vl) := by simp [World.cell?, HJ0.out]
        by_cases hlt : q < 20
        · have gq : decide (q < 20) = true := decide_eq_true hlt
          have HSX := Lib.hid HJ2.out.2.2.2
          go_wp2_with (at_builtin; refine app_int _ rfl _ _ _ rfl Z.heap.size 3 8 .i64 int_info Try.underlying23 _ _ rfl (HJ1.out.alloc _) q _ rfl (by simp [go_sem]) (by have := HLL.out; simp only [maxLen]; omega) (by have := HLL.out; omega) (by have := HSX.out; simp; omega) ?_; intro v' w4 hown4 hgrow4; obtain ⟨gk, ck, rfl, _, _, _, _⟩ := hown4.rowg (n := keys.length + 1) (by simp) (by omega); (have hb4 : Below Z.heap.size X w4 := (HJ1.out.alloc _).grow ((Below.refl _ _).alloc HSX.out _) hgrow4 (by have := HSX.out; simp; omega) (Nat.le_refl _)); (have hbox4 : w4.heap[Y.heap.size]? = some (.cells #[.int .i64 ((M : Int) + 1), vl] 30 (0, 0)) := (hb4.block _ (by have := HYZ.out; omega)).trans HJ0.out); (have cw1 : w4.cell? ⟨Y.heap.size, 1, none⟩ = some (vl) := by simp [World.cell?, hbox4]); (have fw1 : w4.frozen? ⟨Y.heap.size, 1, none⟩ = false := by simp [World.frozen?, hbox4]); (have HO4 := Lib.hid hown4); (have HB4 := Lib.hid hb4); (have HX4 := Lib.hid hbox4); clear hown4 hgrow4 hb4 hbox4)
          obtain ⟨W5, hW5⟩ : ∃ W5, w4.setCell ⟨Y.heap.size, 1, none⟩ (.slice (some ⟨gk, 0, none⟩) (keys.length + 1) ck) = W5 := ⟨_, rfl⟩
          have hset := cod_set HX4.out (.slice (some ⟨gk, 0, none⟩) (keys.length + 1) ck)
          have hwy : W.heap.size < Y.heap.size := HI.out.2.2.2.1.lt.1
          rw [hW5] at hset ⊢
          have HX5 := Lib.hid hset.1
          have HO5 := Lib.hid (show Own W5 Z.heap.size 3 .i64 (.slice (some ⟨gk, 0, none⟩) (keys.length + 1) ck) (keys ++ [q]) by rw [← hW5]; exact HO4.out.setCell (by have := HYZ.out; show Y.heap.size < Z.heap.size; omega) _)
          have HC5 := Lib.hid ((HJ2.out.2.1.belowC HB4.out (by have := HYZ.out; omega) (by have := HYZ.out; omega)).grown hset.2 (fun r e => by injection e with e; omega))
          have HG5 := Lib.hid (grown_setC (grown_belowC HJ2.out.2.2.1 HB4.out (by have := HYZ.out; omega)) hset.2 (Nat.le_refl _))
          have HS5 := Lib.hid (Nat.le_trans HSX.out (Nat.le_trans HB4.out.size hset.2.size))
          have HWY := Lib.hid hwy
          clear hset hW5 hwy cw1 fw1
          refine (rangeD 1 6 (by decide) (by decide) (by decide) _ _ W5 HC5.out).mono ?_; rintro e w6 ⟨d, rfl, hd0, hd1, hc6, hg6⟩
          have HX6 := Lib.hid ((hg6.block _ (Array.getElem?_eq_some_iff.1 HX5.out).1 (fun e => by injection e with e; have := HWY.out; omega)).trans HX5.out)
          have HO6 := Lib.hid (HO5.out.cod HC5.out hg6 (by decide))
          have HC6 := Lib.hid hc6
          have HG6 := Lib.hid (HG5.out.trans hg6)
          have HS6 := Lib.hid (Nat.le_trans HS5.out hg6.size)
          clear hc6 hg6
          go_wp2_with fail
          go_roundw
          case rel => exact ⟨q + d, keys ++ [q], _, by omega, by omega, by go_num, HX6.out, HO6.out, HJ2.out.1.snoc hqa hlt hd0, HC6.out, HG6.out, HS6.out⟩
          case measure => simp [intOf]; omega
        · have gq : decide (q < 20) = false := decide_eq_false hlt
          have HCX := Lib.hid (HOV.out.cod HI.out.2.2.2.1 HJ2.out.2.2.1)
          have HSX := Lib.hid HJ2.out.2.2.2
          go_wp2_with (at_builtin; refine app_concern _ rfl _ _ _ rfl w2.heap.size concern_info Try.underlying27 _ _ rfl (HCX.out.below (by exact (Below.refl _ _).alloc (Nat.le_refl _) _)) ((M : Int) + 1) _ keys ((HJ1.out.base_le (by have := HYZ.out; have := HI.out.2.2.2.2.2; omega)).alloc _) hone _ rfl (by simp [go_sem]) (by simp [go_sem]) (by have := HML.out; omega) (by have := HSX.out; have := HYZ.out; have := HI.out.2.2.2.2.2; simp; omega) ?_; intro v' w4 hown4 hgrow4; (have HO4 := Lib.hid hown4); (have HG4 := Lib.hid hgrow4); clear hown4 hgrow4)
          go_roundw
          case rel =>
            have hY := HI.out.2.2.2.2
            have hb4 : Below W.heap.size X w4 := (HCX.out.below (by exact (Below.refl _ _).alloc (Nat.le_refl _) _)).grow ((Below.refl _ _).alloc (by have := HSX.out; have := HYZ.out; have := hY.1.size; omega) _) HG4.out (by have := HSX.out; have := HYZ.out; have := hY.1.size; simp; omega) HB2.out.size
            have hb5 : Below w2.heap.size X w4 := (HCX.out.below (by exact (Below.refl _ _).alloc (Nat.le_refl _) _)).grow ((Below.refl _ _).alloc (by have := HSX.out; have := HYZ.out; have := hY.2; omega) _) HG4.out (by have := HSX.out; have := HYZ.out; have := hY.2; simp; omega) (Nat.le_refl _)
            have hg5 : W.heap.size < w2.heap.size := HC2.out.lt.1
            refine ⟨j, cs ++ [((M : Int) + 1, keys)], by omega, by go_num, HO4.out, ?_, ?_, HJ2.out.2.1.belowC hb5 (Nat.le_of_lt hg5) hg5, (below_growC hY.1 HJ2.out.2.2.1 (Nat.le_refl _)).trans hb4, ?_⟩
            · have := HI.out.2.1; rw [List.length_append]; simp; omega
            · exact HI.out.2.2.1.snoc HJ2.out.1.asc (fun x hx => by have := HJ2.out.1.bd x hx; omega) HJ2.out.1.few2 (by omega)
            · have := hb5.size; have := HSX.out; have := HYZ.out; have := hY.2; omega
          case measure => simp [intOf]
end Go.Proofs.Ytihgopiocjflcaa
