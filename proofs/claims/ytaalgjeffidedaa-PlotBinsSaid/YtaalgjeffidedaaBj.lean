/- The statement of bins and quartiles, walked. -/
import Derived.Test.YtaalgjeffidedaaBi
namespace Go.Proofs.Ytaalgjeffidedaa
open Go.RowKit
theorem neqBox (x0 x1 x2 x3 x4 x5 : Int) (w : World) : (binOp .neq 34 (.agg #[.int .i64 x0, .int .i64 x1, .int .i64 x2, .int .i64 x3, .int .i64 x4, .int .i64 x5]) (.agg #[.int .i64 x0, .int .i64 x1, .int .i64 x2, .int .i64 x3, .int .i64 x4, .int .i64 x5])).run Try.prog w = .ok (.bool false) w := by
  have u3 := Try.underlying3
  have a3 := Try.isAgg3
  have z3 := Try.sizeOf3
  have hS : Try.prog.underlying 34 = some (.struct (Try.prog.fieldsOf 34)) := by kernel_rfl
  have hp : Try.prog.stoodInHeld 34 = false := by kernel_rfl
  rw [run_neq_struct, show (10000 : Nat) = 9999 + 1 from rfl, run_equalIn_agg w 9999 34 _ _ hS hp]
  simp only [Program.fieldsOf, Try.underlying34]
  go_simp
theorem Pb.quartE_form (l : List Int) : ∃ x0 x1 x2 x3 x4 x5 e : Int, Pb.quartE l = .tuple #[.agg #[.int .i64 x0, .int .i64 x1, .int .i64 x2, .int .i64 x3, .int .i64 x4, .int .i64 x5], .int .i64 e] := by
  unfold Pb.quartE
  by_cases h : Pb.err l 1 = 0
  · rw [if_pos h]
    unfold Pb.quart
    by_cases h2 : l = []
    · rw [if_pos h2]; exact ⟨_, _, _, _, _, _, _, rfl⟩
    · rw [if_neg h2]; unfold Pb.box; exact ⟨_, _, _, _, _, _, _, rfl⟩
  · rw [if_neg h]; exact ⟨_, _, _, _, _, _, _, rfl⟩
theorem Pb.binsE_len (l : List Int) (wd : Int) : (Pb.binsE l wd).length ≤ 1000000 := by
  unfold Pb.binsE
  by_cases h : Pb.err l wd = 0
  · rw [if_pos h]
    have hb := Pb.bins_len (l.map (Pb.fl wd))
    rw [List.length_map] at hb
    rcases Pb.err_cases l wd with ⟨a, e⟩ | ⟨a, b, e⟩ | ⟨a, b, d, e⟩ | ⟨a, b, d, o, e⟩ | ⟨a, b, d, o, e⟩
    · rw [h] at e; cases e
    all_goals omega
  · rw [if_neg h]; simp
set_option maxRecDepth 100000 in
set_option maxHeartbeats 3200000 in
theorem walkBins (W : World) (A : Option Addr) (n c : Nat) (l : List Int) (h : Nums W .u8 W.heap.size A n c l) (B : Option Addr) (m d : Nat) (p : List Int) (hp : Nums W .i64 W.heap.size B m d p) (wd : Int) (_ : -9223372036854775808 ≤ wd) (_ : wd ≤ 9223372036854775807) :
    Calls Try.prog 3 #[.slice A n c, .slice B m d, .int .i64 wd] W fun e w => e = .returned (.bool true) ∧ Below W.heap.size W w := by
  have hm0 : m ≤ 9223372036854775807 := by have := hp.cap; have := hp.max; unfold maxLen at this; omega
  have H := Lib.hid h
  have HP := Lib.hid hp
  clear h hp
  by_cases h210 : 210 < m
  · have g1 : decide (210 < (m : Int)) = true := by simp; omega
    clear h210
    go_enter Try.func3, Try.ntmps3
    go_wp2_with fail
    refine (awake21 _).mono ?_; rintro e w9 ⟨rfl, hb9⟩
    go_wp2_with fail
    go_ret
    exact ⟨rfl, hb9⟩
  · have g1 : decide (210 < (m : Int)) = false := by simp; omega
    go_enter Try.func3, Try.ntmps3
    go_wp2_with fail
    refine (vals21 A n c l W H.out).mono ?_; rintro e w1 ⟨v1, rfl, hown1, hb1⟩
    have hvb := Pb.vals_bd (l := l)
    have hvl := Pb.vals_len l
    have hvw : ∀ x ∈ Pb.vals l, (Lit.int .i64 x).wf = true := fun x hx => wf_i64 (by have := hvb x hx; omega)
    have HVW := Lib.hid hvw
    have HVL := Lib.hid hvl
    obtain ⟨V1, N1, c1, rfl, hN1, hn1⟩ := hown1.numsN hvw
    have HV1 := Lib.hid hn1
    have HB1 := Lib.hid hb1
    clear hown1 hn1 hb1 hvb hvl hvw
    go_wp2_with fail
    refine (vals21 A n c l w1 (H.out.keep HB1.out HB1.out.size)).mono ?_; rintro e w2 ⟨v2, rfl, hown2, hb2⟩
    have HO2 := Lib.hid hown2
    have HB2 := Lib.hid (HB1.out.trans (hb2.mono HB1.out.size))
    have HV2 := Lib.hid (HV1.out.keep hb2 hb2.size)
    have HP2 := Lib.hid (HP.out.keep (HB1.out.trans (hb2.mono HB1.out.size)) (Nat.le_trans HB1.out.size hb2.size))
    have HS2 := Lib.hid hb2.size
    have HS12 := Lib.hid hb2
    clear hown2 hb2
    have HW3 := Lib.hid (show ∀ x ∈ Pb.vals l ++ p, (Lit.int .i64 x).wf = true from fun x hx => (List.mem_append.1 hx).elim (HVW.out x) (HP.out.wf x))
    go_wp2_with (at_builtin; refine app_ints _ rfl (.tmp 27) (.tmp 28) _ rfl w1.heap.size 3 8 .i64 int_info Try.underlying23 _ _ rfl HO2.out _ _ _ _ p rfl HP2.out (by have := HVL.out; simp only [maxLen]; omega) (by have := HVL.out; omega) HS2.out ?_; intro v3 w3 hown3 hgrow3; (have hb3 : Below w1.heap.size w2 w3 := HO2.out.grow (Below.refl _ _) hgrow3 HS2.out (Nat.le_refl _)); obtain ⟨V3, N3, c3, rfl, hN3, hn3⟩ := hown3.numsN HW3.out)
    have HB3 := Lib.hid (HB2.out.trans ((hb3.mono (Nat.le_refl _)).mono HB1.out.size))
    obtain ⟨Z, hZ⟩ : ∃ Z : World, w3.alloc (.cells #[.slice V1 N1 c1, .slice B m d, .slice V3 N3 c3] 23) = Z := ⟨_, rfl⟩
    have hbz : Below w3.heap.size w3 Z := by rw [← hZ]; exact (Below.refl _ _).alloc (Nat.le_refl _) _
    have hgz : Z.heap[w3.heap.size]? = some (.cells #[.slice V1 N1 c1, .slice B m d, .slice V3 N3 c3] 23) := by rw [← hZ]; exact heap_alloc_new _ _
    have HBZ := Lib.hid (HB3.out.trans (hbz.mono HB3.out.size))
    have hsel : ∀ j, j < 3 → ∃ X nx cx lx, Z.cell? ⟨w3.heap.size, j, none⟩ = some (.slice X nx cx) ∧ Nums Z .i64 Z.heap.size X nx cx lx := by
      intro j hj
      match j, hj with
      | 0, _ => exact ⟨_, _, _, _, heap_cell hgz rfl, (HV1.out.keep (HS12.out.trans (hb3.mono (Nat.le_refl _))) (Nat.le_trans HS2.out hb3.size)).keep hbz hbz.size⟩
      | 1, _ => exact ⟨_, _, _, _, heap_cell hgz rfl, HP.out.keep HBZ.out HBZ.out.size⟩
      | 2, _ => exact ⟨_, _, _, _, heap_cell hgz rfl, hn3.keep hbz hbz.size⟩
    have HSEL := Lib.hid hsel
    rw [hZ]
    clear hZ hbz hgz hsel hn3 hb3 hown3 hgrow3 HO2 HV2 HP2 HV1
    generalize w3.heap.size = g at *
    go_loopw [8, 10, 11, 12, 13, 14, 15, 16, 17, 18, 32] (fun _ _ _ _ _ _ _ _ _ _ i wr => ∃ j : Nat, j ≤ 3 ∧ i = .int .i64 j ∧ Hid (Below Z.heap.size Z wr)) (fun _ _ _ _ _ _ _ _ _ _ i _ => 3 - (intOf i).toNat)
    case atStart => exact ⟨0, by omega, rfl, Below.refl _ _⟩
    case round =>
      obtain ⟨j, hj, rfl, HI⟩ := hrel
      by_cases hlt : j < 3
      · obtain ⟨X, nx, cx, lx, hcx, hnx⟩ := HSEL.out j hlt
        have hcr := below_cell HI.out hcx
        have HX := Lib.hid (hnx.keep HI.out HI.out.size)
        have HB := Lib.hid (HBZ.out.trans (HI.out.mono HBZ.out.size))
        have HBI := Lib.hid HI.out
        have j3 : (j : Int) < 3 := by omega
        clear hcx hnx HI
        go_wp2_with fail
        refine (mod21 wd _).mono ?_; rintro e w4 ⟨rfl, rfl⟩
        go_wp2_with fail
        generalize hwr : wr = w4 at *
        clear hwr
        obtain ⟨Y, hY⟩ : ∃ Y : World, w4.alloc (.cells #[.int .i64 wd, .int .i64 (wd % 14), .int .i64 1000000] 3) = Y := ⟨_, rfl⟩
        have hby : Below w4.heap.size w4 Y := by rw [← hY]; exact (Below.refl _ _).alloc (Nat.le_refl _) _
        have hgy : Y.heap[w4.heap.size]? = some (.cells #[.int .i64 wd, .int .i64 (wd % 14), .int .i64 1000000] 3) := by rw [← hY]; exact heap_alloc_new _ _
        have hselw : ∀ k, k < 3 → ∃ q : Int, Y.cell? ⟨w4.heap.size, k, none⟩ = some (.int .i64 q) := by
          intro k hk
          match k, hk with
          | 0, _ => exact ⟨_, heap_cell hgy rfl⟩
          | 1, _ => exact ⟨_, heap_cell hgy rfl⟩
          | 2, _ => exact ⟨_, heap_cell hgy rfl⟩
        have HSW := Lib.hid hselw
        have HBY := Lib.hid (HBI.out.trans (hby.mono HBI.out.size))
        have HXY := Lib.hid (HX.out.keep hby hby.size)
        rw [hY]
        clear hY hby hgy hselw HX
        generalize w4.heap.size = b4 at *
        go_loopw [10, 11, 12, 13, 14, 41] (fun _ _ _ _ _ i wk => ∃ k : Nat, k ≤ 3 ∧ i = .int .i64 k ∧ Hid (Below Y.heap.size Y wk)) (fun _ _ _ _ _ i _ => 3 - (intOf i).toNat)
        case atStart => exact ⟨0, by omega, rfl, Below.refl _ _⟩
        case round =>
          obtain ⟨k, hk, rfl, HK⟩ := hrel
          by_cases hkt : k < 3
          · obtain ⟨q, hq⟩ := HSW.out k hkt
            have hqr := below_cell HK.out hq
            have HXK := Lib.hid (HXY.out.keep HK.out HK.out.size)
            have HBK := Lib.hid HK.out
            have k3 : (k : Int) < 3 := by omega
            clear hq HK
            go_wp2_with fail
            refine (bins_all X nx cx lx q wr HXK.out).mono ?_; rintro e z1 ⟨va, rfl, howna, hb1⟩
            obtain ⟨Aa, Na, ca, rfl, hNa, hpa⟩ := howna.prs (Pb.binsE_len lx q)
            have HPA := Lib.hid hpa
            have HX1 := Lib.hid (HXK.out.keep hb1 hb1.size)
            have HB1' := Lib.hid (HBK.out.trans (hb1.mono HBK.out.size))
            clear howna hpa hb1 HXK HBK
            go_wp2_with fail
            refine (rbins21 X nx cx lx q z1 HX1.out).mono ?_; rintro e z2 ⟨vb, rfl, hownb, hb2'⟩
            obtain ⟨Ab, Nb, cb, rfl, hNb, hpb⟩ := hownb.prs (Pb.binsE_len lx q)
            have HPB := Lib.hid hpb
            have HPA2 := Lib.hid (HPA.out.keep hb2')
            have HB2' := Lib.hid (HB1'.out.trans (hb2'.mono HB1'.out.size))
            generalize Pb.err lx q = er at *
            clear hownb hpb hb2' HB1' HPA
            go_wp2_with fail
            refine (same21 Aa Ab Na ca Nb cb _ _ z2 HPA2.out HPB.out).mono ?_; rintro e z3 ⟨rfl, hb3'⟩
            rw [decide_eq_true (rfl : Pb.binsE lx q = Pb.binsE lx q)]
            have HB3' := Lib.hid (HB2'.out.trans (hb3'.mono HB2'.out.size))
            clear hb3'
            go_wp2_with fail
            go_roundw
            case rel => exact ⟨k + 1, by omega, by go_num, HB3'.out⟩
            case measure => simp [intOf]; omega
          · obtain rfl : k = 3 := by omega
            have HBK := Lib.hid HK.out
            have HXK := Lib.hid (HXY.out.keep HK.out HK.out.size)
            obtain ⟨x0, x1, x2, x3, x4, x5, er, hqe⟩ := Pb.quartE_form lx
            have HQE := Lib.hid hqe
            have hnb := fun w => neqBox x0 x1 x2 x3 x4 x5 w
            clear HK hqe
            go_wp2_with fail
            refine (quart_all X nx cx lx wr HXK.out).mono ?_; rintro e z1 ⟨rfl, hb1⟩
            rw [HQE.out]
            have HX1 := Lib.hid (HXK.out.keep hb1 hb1.size)
            have HB1' := Lib.hid (HBY.out.trans ((HBK.out.trans (hb1.mono HBK.out.size)).mono HBY.out.size))
            clear hb1 HXK HBK
            go_wp2_with fail
            obtain ⟨T, hT⟩ : ∃ T : World, z1.alloc (.cells #[.int .i64 x0, .int .i64 x1, .int .i64 x2, .int .i64 x3, .int .i64 x4, .int .i64 x5] 34) = T := ⟨_, rfl⟩
            have hbt : Below z1.heap.size z1 T := by rw [← hT]; exact (Below.refl _ _).alloc (Nat.le_refl _) _
            have hgt : T.heap[z1.heap.size]? = some (.cells #[.int .i64 x0, .int .i64 x1, .int .i64 x2, .int .i64 x3, .int .i64 x4, .int .i64 x5] 34) := by rw [← hT]; exact heap_alloc_new _ _
            have HXT := Lib.hid (HX1.out.keep hbt hbt.size)
            have HBT := Lib.hid (HB1'.out.trans (hbt.mono HB1'.out.size))
            rw [hT]
            clear hT hbt HX1 HB1'
            generalize z1.heap.size = b1 at *
            refine (rquart21 X nx cx lx T HXT.out).mono ?_; rintro e z2 ⟨rfl, hb2'⟩
            rw [HQE.out]
            have hg2 := (hb2'.block _ (heap_lt hgt)).trans hgt
            have hlt2 := heap_lt hg2
            have f0 := (heap_cell (i := 0) hg2 rfl : z2.cell? ⟨b1, 0, none⟩ = some (.int .i64 x0))
            have f1 := (heap_cell (i := 1) hg2 rfl : z2.cell? ⟨b1, 1, none⟩ = some (.int .i64 x1))
            have f2 := (heap_cell (i := 2) hg2 rfl : z2.cell? ⟨b1, 2, none⟩ = some (.int .i64 x2))
            have f3 := (heap_cell (i := 3) hg2 rfl : z2.cell? ⟨b1, 3, none⟩ = some (.int .i64 x3))
            have f4 := (heap_cell (i := 4) hg2 rfl : z2.cell? ⟨b1, 4, none⟩ = some (.int .i64 x4))
            have f5 := (heap_cell (i := 5) hg2 rfl : z2.cell? ⟨b1, 5, none⟩ = some (.int .i64 x5))
            have HB2' := Lib.hid (HBT.out.trans (hb2'.mono HBT.out.size))
            clear hb2' hg2 hgt HXT HBT
            go_wp2_with fail
            go_roundw
            case rel => exact ⟨j + 1, by omega, by go_num, HB2'.out.alloc HB2'.out.size _⟩
            case measure => simp [intOf]; omega
      · obtain rfl : j = 3 := by omega
        have HE := Lib.hid (HBZ.out.trans (HI.out.mono HBZ.out.size))
        clear HI
        go_wp2_with fail
        refine (awake21 _).mono ?_; rintro e w9 ⟨rfl, hb9⟩
        go_wp2_with fail
        go_ret
        exact ⟨rfl, HE.out.trans (hb9.mono HE.out.size)⟩
end Go.Proofs.Ytaalgjeffidedaa
