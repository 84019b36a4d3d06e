/- Cells: the law that members divide the cells, walked. -/
import Derived.Test.YtojeendofpallaaCo
import Derived.Test.YtojeendofpallaaCx
import Derived.Test.YtojeendofpallaaBo
import Derived.Test.YtojeendofpallaaOb
import Derived.Test.YtojeendofpallaaCq
namespace Go.Proofs.Ytojeendofpallaa
open Go.RowKit
theorem Vw.aft {w : World} {v : Value} {ss : List Int} {vs : List (List Int)} (h : Vw w v ss vs) (x : Aft w) : Vw x.now v ss vs := h.keep x.below
theorem rof28o (v v' : Value) (ss : List Int) (vs : List (List Int)) (x o : Int) (ho : Ce.owner ss vs x = o) (w : World) (h : Sp w v ss) (h' : Vw w v' ss vs) (hq : 0 ≤ x) (h1 : x < Ce.prodN ss ss.length) :
    Calls Try.prog 35 #[v, v', .int .i64 x] w fun e w' => e = .returned (.int .i64 o) ∧ Below w.heap.size w w' := by
  subst ho
  exact rof28 v v' ss vs x w h h' hq h1
set_option maxHeartbeats 1600000 in
set_option maxRecDepth 100000 in
theorem walkDivide (W : World) (A : Option Addr) (n c : Nat) (l : List Int) (h : Nums W .u8 W.heap.size A n c l) :
    Calls Try.prog 5 #[.slice A n c] W fun e w => e = .returned (.bool true) ∧ Below W.heap.size W w := by
  go_enter Try.func5, Try.ntmps5
  go_wp2_with fail
  refine (new_any A n c l W h).mono ?_; rintro e w1 ⟨rfl, hc1, hb1⟩
  have HB1 := Lib.hid hb1
  clear hb1
  go_wp2_with fail
  refine (space9 _ _ w1 hc1).mono ?_; rintro e w2 ⟨v, ss, rfl, ho, hs, hc2, hg2⟩
  have hsp2 : SpO w2 w1.heap.size (.agg #[v]) ss := ⟨⟨v, rfl, ho⟩, hs⟩
  obtain ⟨gs, ns, cs, rfl, _⟩ := hsp2.form
  have hbx : Below w2.heap.size w2 (w2.alloc (.cells #[.slice (some ⟨gs, 0, none⟩) ns cs] 24)) := (Below.refl _ _).alloc (Nat.le_refl _) _
  obtain ⟨X, hX⟩ : ∃ X : World, w2.alloc (.cells #[.slice (some ⟨gs, 0, none⟩) ns cs] 24) = X := ⟨_, rfl⟩
  have hbs : Box X w2.heap.size _ _ := hX ▸ Box.new w2 (.slice (some ⟨gs, 0, none⟩) ns cs) 24
  rw [hX] at hbx
  have HSP2 := Lib.hid (hsp2.below hbx)
  have HB2 := Lib.hid ((below_cod HB1.out hg2).trans (hbx.mono (below_cod HB1.out hg2).size))
  have hc2 := hc2.below hbx
  have HS := Lib.hid hs
  have k0 := hbs.cell
  have HBS := Lib.hid hbs
  obtain ⟨N, hN⟩ : ∃ N : Nat, Ce.prodN ss ss.length = (N : Int) := Int.eq_ofNat_of_zero_le (by have := hs.bd (Nat.le_refl _); omega)
  have hNb := hs.bd (Nat.le_refl _)
  rw [hN] at hNb
  have HN := Lib.hid hN
  clear ho hs hc1 hg2 hsp2 hbx hbs hN
  go_wp2_with fail
  clear hX
  refine (view9 _ _ _ _ ss X hc2 HSP2.out).mono ?_; rintro e w3 ⟨v', vs, rfl, hv3, hc3, hg3⟩
  obtain ⟨Av, nv, cv, rfl, _⟩ := hv3.form HS.out
  have hbx : Below w3.heap.size w3 (w3.alloc (.cells #[.slice Av nv cv] 27)) := (Below.refl _ _).alloc (Nat.le_refl _) _
  obtain ⟨Y, hY⟩ : ∃ Y : World, w3.alloc (.cells #[.slice Av nv cv] 27) = Y := ⟨_, rfl⟩
  have hbv : Box Y w3.heap.size _ _ := hY ▸ Box.new w3 (.slice Av nv cv) 27
  rw [hY] at hbx
  have HSP3 := Lib.hid ((HSP2.out.cod hc2 hg3).below hbx)
  have HV3 := Lib.hid (hv3.below hbx)
  have HB3 := Lib.hid ((below_cod HB2.out hg3).trans (hbx.mono (below_cod HB2.out hg3).size))
  have HBS3 := Lib.hid ((HBS.out.cod hc2 hg3 (by decide)).below hbx)
  have hc3 := hc3.below hbx
  have k0 := HBS3.out.cell
  have k1 := hbv.cell
  have HBV := Lib.hid hbv
  clear hc2 hg3 hv3 hbx hbv
  go_wp2_with fail
  clear hY
  refine (cells9 _ _ _ ss N 9 Y hc3 HSP3.out.sp HN.out (by omega) (by omega)).mono ?_; rintro e w4 ⟨u, t, rfl, ho4, ht, hc4, hg4⟩
  obtain ⟨gt, ct, rfl, _, _, _, _⟩ := ho4.rowg ht.len (by omega)
  have HSP4 := Lib.hid ((HSP3.out.cod hc3 hg4).sp)
  have HV4 := Lib.hid ((HV3.out.cod hc3 hg4).vw HS.out)
  have HB4 := Lib.hid (below_cod HB3.out hg4)
  have HBS4 := Lib.hid (HBS3.out.cod hc3 hg4 (by decide))
  have HBV4 := Lib.hid (HBV.out.cod hc3 hg4 (by decide))
  have HT := Lib.hid ht
  have HGT0 := Lib.hid ho4.head.2.2
  have HT4 := Lib.hid (ho4.numsG (Ce.table_wf ht (by omega)))
  have HVW := Lib.hid HV4.out.ok
  have k0 := HBS4.out.cell
  have k1 := HBV4.out.cell
  clear hc3 hc4 hg4 ho4 ht
  go_wp2_with fail
  obtain ⟨M, hM⟩ : ∃ M : Nat, Ce.published vs = (M : Int) := Int.eq_ofNat_of_zero_le (by have := Ce.published_bd HS.out HVW.out; omega)
  have hMb := Ce.published_bd HS.out HVW.out
  rw [hM] at hMb
  have HM := Lib.hid hM
  clear hM
  refine (publish28 _ _ ss vs N M _ N ct t w4 HSP4.out HV4.out HN.out HM.out HT4.out rfl (fun j hj => by have := HT.out.bd j hj; omega)).mono ?_; rintro e w5 ⟨u, rfl, ho5, hb5⟩
  obtain ⟨gp, cp, rfl, _, _, _, _⟩ := ho5.rowg (Ce.pubs_len _ _ _ _) (by omega)
  have HSP5 := Lib.hid (HSP4.out.keep hb5)
  have HV5 := Lib.hid (HV4.out.keep hb5)
  have HB5 := Lib.hid (HB4.out.trans (hb5.mono HB4.out.size))
  have HBS5 := Lib.hid (HBS4.out.below hb5)
  have HBV5 := Lib.hid (HBV4.out.below hb5)
  have HT5 := Lib.hid (HT4.out.keep hb5 hb5.size)
  have HP5 := Lib.hid (ho5.numsG (Ce.pubs_wf (fun j hj => by have := HT.out.bd j hj; omega) (by rw [HT.out.len]; exact Nat.le_refl _) (by omega)))
  have k0 := HBS5.out.cell
  have k1 := HBV5.out.cell
  have H45 := Lib.hid hb5.size
  clear ho5 hb5
  go_wp2_with fail
  refine (published28 _ _ ss vs w5 HSP5.out HV5.out).mono ?_; rintro e w6 ⟨rfl, hb6⟩
  rw [HM.out]
  have HSP6 := Lib.hid (HSP5.out.keep hb6)
  have HV6 := Lib.hid (HV5.out.keep hb6)
  have HB6 := Lib.hid (HB5.out.trans (hb6.mono HB5.out.size))
  have HBS6 := Lib.hid (HBS5.out.below hb6)
  have HBV6 := Lib.hid (HBV5.out.below hb6)
  have HT6 := Lib.hid (HT5.out.keep hb6 hb6.size)
  have HP6 := Lib.hid (HP5.out.keep hb6 hb6.size)
  have g0 : ((M : Int) == 0) = false := by simp; omega
  have H56 := Lib.hid hb6.size
  clear hb6 k0 k1
  go_wp2_with (at_make; refine make_bools _ rfl _ _ _ rfl w6.heap.size Try.underlying52 N rfl rfl (by omega) (Nat.le_refl _) ?_; intro w7 hown hgrow)
  have HGT := Lib.hid (Nat.lt_of_lt_of_le HGT0.out (Nat.le_trans H45.out H56.out))
  have HB7 := Lib.hid (Own.below_grown hgrow (Nat.le_refl w6.heap.size))
  have HO7 := Lib.hid hown
  clear hown hgrow
  rw [← Ce.seen_zero (Ce.ownf ss vs) N] at HO7
  go_loopw [54] (fun i wr => ∃ k : Nat, k ≤ M ∧ i = .int .i64 k ∧ Hid (OwnB wr w6.heap.size (.slice (some ⟨w6.heap.size, 0, none⟩) N N) (Ce.seen (Ce.ownf ss vs) N k []) ∧ Below w6.heap.size w6 wr)) (fun i _ => M - (intOf i).toNat)
  case atStart => exact ⟨0, by omega, rfl, HO7.out, HB7.out⟩
  case round =>
    rename World => Z
    obtain ⟨k, hk, rfl, HI⟩ := hrel
    by_cases hlt : k < M
    · have k0 := (HBS6.out.below HI.out.2).cell
      have k1 := (HBV6.out.below HI.out.2).cell
      have hkk : (k : Int) < Ce.published vs := by rw [HM.out]; omega
      go_wp2_with fail
      refine (members28 _ _ ss vs N k Z (HSP6.out.keep HI.out.2) (HV6.out.keep HI.out.2) HN.out (by omega) hkk).mono ?_; rintro e w8 ⟨u, rfl, ho8, hb8⟩
      obtain ⟨Am, cm, rfl, _⟩ := ho8.nums (Ce.memb_wf _ _ _ (by omega))
      have hml := Ce.memb_len (Ce.ownf ss vs) k N
      obtain ⟨m, hm⟩ : ∃ m, (Ce.memb (Ce.ownf ss vs) k N).length = m := ⟨_, rfl⟩
      rw [hm] at ho8 hml ⊢
      have HMM := Lib.hid hm
      have HM8 := Lib.hid ho8
      have HI8 := Lib.hid (HI.out.2.trans (hb8.mono HI.out.2.size))
      have HO8 := Lib.hid (HI.out.1.below hb8)
      clear ho8 hb8 hm k0 k1
      go_wp2_with fail
      have hZ6 : w6.heap.size < Z.heap.size := HI.out.1.head.2.2
      go_loopw [13, 66] (fun q i wr => ∃ i' : Nat, i' ≤ m ∧ i = .int .i64 i' ∧ q = .int .i64 (Ce.msum t ((Ce.memb (Ce.ownf ss vs) k N).take i')) ∧ Hid (OwnB wr w6.heap.size (.slice (some ⟨w6.heap.size, 0, none⟩) N N) (Ce.seen (Ce.ownf ss vs) N k ((Ce.memb (Ce.ownf ss vs) k N).take i')) ∧ Below w6.heap.size w6 wr ∧ w8.grownBy wr (some w6.heap.size))) (fun _ i _ => m - (intOf i).toNat)
      case atStart => exact ⟨0, by omega, rfl, rfl, by simpa using HO8.out, HI8.out, World.grownBy.refl _ _⟩
      case round =>
        rename World => Y9
        obtain ⟨i, hi, rfl, rfl, HJ⟩ := hrel
        have hsb := Ce.msum_bd (m := 9) HT.out.bd (by omega) ((Ce.memb (Ce.ownf ss vs) k N).take i)
        have htl : ((Ce.memb (Ce.ownf ss vs) k N).take i).length = i := by rw [List.length_take, HMM.out]; omega
        rw [htl] at hsb
        by_cases hlm : i < m
        · obtain ⟨x, hgx, hxN, hfx, hnot⟩ := Ce.memb_get (f := Ce.ownf ss vs) (k := (k : Int)) (N := N) (i := i) (by rw [HMM.out]; exact hlm)
          obtain ⟨ad, y, rfl, _, HY, hy, _⟩ := ((HM8.out.kept HJ.out.2.2 (HM8.out.notBlock hZ6)).numsG (Ce.memb_wf _ _ _ (by omega))).val hlm
          obtain ⟨tx, HTX, htx, _⟩ := (HT6.out.keep HJ.out.2.1 HJ.out.2.1.size).valG hxN
          have htb := HT.out.bd x (by rw [HT.out.len]; exact hxN)
          rw [HTX.out.1] at htb
          have hyx : y = (x : Int) := by rw [← HY.out.1]; exact hgx
          subst hyx
          have c0 := HJ.out.1.cell (j := x) (by rw [Ce.seen_len]; exact hxN)
          rw [Ce.seen_get hxN, decide_eq_false (show ¬ (0 ≤ Ce.ownf ss vs x ∧ Ce.ownf ss vs x < (k : Int)) by omega), decide_eq_false hnot, Bool.or_false] at c0
          have f0 := HJ.out.1.thaw x
          have htk : (Ce.memb (Ce.ownf ss vs) k N).take (i + 1) = (Ce.memb (Ce.ownf ss vs) k N).take i ++ [(x : Int)] := by rw [take_succ_getD _ i (by rw [HMM.out]; exact hlm), hgx]
          have HTK := Lib.hid htk
          have HST := Lib.hid (HJ.out.1.store x true)
          have HMS := Lib.hid (show Ce.msum t ((Ce.memb (Ce.ownf ss vs) k N).take (i + 1)) = Ce.msum t ((Ce.memb (Ce.ownf ss vs) k N).take i) + tx by rw [htk, Ce.msum_snoc]; rw [show ((x : Int)).toNat = x by omega, HTX.out.1])
          have e1 : decide ((x : Int) < 0) = false := by simp
          have e2 : decide ((N : Int) ≤ (x : Int)) = false := by simp; omega
          have c9 : ∀ v, (Y9.setCell ⟨w6.heap.size, x, none⟩ v).cell? ⟨gt, x, none⟩ = some (.int .i64 tx) := fun v => by rw [World.cell?_setCell_other _ _ _ _ (fun e => by have e2 := congrArg Addr.block e; have := HGT.out; simp at e2; omega)]; exact htx
          generalize Ce.msum t ((Ce.memb (Ce.ownf ss vs) k N).take i) = sm at *
          clear htk hgx hfx hnot htl
          go_wp2_with fail
          go_roundw
          case rel => exact ⟨i + 1, by omega, by go_num, by rw [HMS.out], by rw [HTK.out, Ce.seen_snoc]; exact HST.out.1, HJ.out.1.grow HJ.out.2.1 HST.out.2 HJ.out.2.1.size (Nat.le_refl _), HJ.out.2.2.trans HST.out.2⟩
          case measure => simp [intOf]; omega
        · obtain rfl : i = m := by omega
          have hall : (Ce.memb (Ce.ownf ss vs) k N).take i = Ce.memb (Ce.ownf ss vs) k N := List.take_of_length_le (by rw [HMM.out]; exact Nat.le_refl _)
          obtain ⟨y, HY, hy, _⟩ := (HP6.out.keep HJ.out.2.1 HJ.out.2.1.size).valG hlt
          have hyk : y = Ce.msum t ((Ce.memb (Ce.ownf ss vs) k N).take i) := by rw [hall, Ce.msum_memb, ← HY.out.1, Ce.pubs_get hlt]
          subst hyk
          have HSE := Lib.hid (show Ce.seen (Ce.ownf ss vs) N k ((Ce.memb (Ce.ownf ss vs) k N).take i) = Ce.seen (Ce.ownf ss vs) N ((k + 1 : Nat) : Int) [] by rw [hall, Ce.seen_full _ _ _ (by omega)]; rfl)
          clear hall htl
          generalize Ce.msum t ((Ce.memb (Ce.ownf ss vs) k N).take i) = sm at *
          go_wp2_with fail
          go_roundw
          case rel => exact ⟨k + 1, by omega, by go_num, by rw [← HSE.out]; exact HJ.out.1, HJ.out.2.1⟩
          case measure => simp [intOf]; omega
    · obtain rfl : k = M := by omega
      go_wp2_with fail
      go_loopw [107] (fun i wr => ∃ x : Nat, x ≤ N ∧ i = .int .i64 x ∧ Hid (OwnB wr w6.heap.size (.slice (some ⟨w6.heap.size, 0, none⟩) N N) (Ce.seen (Ce.ownf ss vs) N k []) ∧ Below w6.heap.size w6 wr)) (fun i _ => N - (intOf i).toNat)
      case atStart => exact ⟨0, by omega, rfl, HI.out⟩
      case round =>
        rename World => Y9
        obtain ⟨x, hx, rfl, HJ⟩ := hrel
        by_cases hlx : x < N
        · have c0 := HJ.out.1.cell (j := x) (by rw [Ce.seen_len]; exact hlx)
          have hob := Ce.ownf_bd HS.out HVW.out x
          rw [HM.out] at hob
          have hse : (Ce.seen (Ce.ownf ss vs) N k []).getD x false = decide (0 ≤ Ce.ownf ss vs x) := by
            rw [Ce.seen_get hlx, Bool.eq_iff_iff]
            simp
            omega
          rw [hse] at c0
          have HSY := Lib.hid (HSP6.out.keep HJ.out.2)
          have HVY := Lib.hid (HV6.out.keep HJ.out.2)
          have a0 := Aft.cell (HBS6.out.below HJ.out.2).cell
          have a1 := Aft.cell (HBV6.out.below HJ.out.2).cell
          have hxN : (x : Int) < Ce.prodN ss ss.length := by rw [HN.out]; omega
          obtain ⟨o, ho⟩ : ∃ o, Ce.ownf ss vs x = o := ⟨_, rfl⟩
          rw [ho] at c0
          have HOF := Lib.hid (show Ce.owner ss vs x = o from ho)
          have hne : (decide (0 ≤ o) != decide (0 ≤ o)) = false := by simp
          have a2 := Aft.cell c0
          have x0 : (0 : Int) ≤ (x : Int) := by omega
          clear c0 hse hob ho
          go_wp2_with fail
          refine wp_region_aft (by kernel_rfl) (by kernel_rfl) ?_
          repeat (go_big_quiet_step (first | with_reducible exact Calls.aft (rof28o _ _ ss vs x o HOF.out _ (HSY.out.aft _) (HVY.out.aft _) x0 hxN)))
          refine wpQuiet_nil ?_
          rintro w9 ⟨⟨_, hb9⟩, rfl⟩
          have HB9 := Lib.hid hb9
          have HOB := Lib.hid (HJ.out.1.below hb9)
          have HBB := Lib.hid (HJ.out.2.trans (hb9.mono HJ.out.2.size))
          clear hb9
          go_wp2_with fail
          go_roundw
          case rel => exact ⟨x + 1, by omega, by go_num, HOB.out, HBB.out⟩
          case measure => simp [intOf]; omega
        · obtain rfl : x = N := by omega
          go_wp2_with fail
          refine (awake28 _).mono ?_; rintro e w9 ⟨rfl, hb9⟩
          go_wp2_with fail
          go_ret
          exact ⟨rfl, HB6.out.trans ((HJ.out.2.trans (hb9.mono HJ.out.2.size)).mono HB6.out.size)⟩
end Go.Proofs.Ytojeendofpallaa
