/- Layer 21: the reference's Bins. -/
import Derived.Test.YtaalgjeffidedaaBf
namespace Go.Proofs.Ytaalgjeffidedaa
open Go.RowKit
theorem heap_cell {w : World} {g i : Nat} {cs : Array Value} {e : TypeId} {v : Value} (h : w.heap[g]? = some (.cells cs e)) (hv : cs[i]? = some v) : w.cell? ⟨g, i, none⟩ = some v := by
  unfold World.cell?
  simp [h, hv]
theorem heap_thawed {w : World} {g i : Nat} {cs : Array Value} {e : TypeId} (h : w.heap[g]? = some (.cells cs e)) : w.frozen? ⟨g, i, none⟩ = false := by
  unfold World.frozen?
  simp [h]
theorem heap_lt {w : World} {g : Nat} {o : Obj} (h : w.heap[g]? = some o) : g < w.heap.size := (Array.getElem?_eq_some_iff.1 h).1
theorem heap_set1 {w : World} {g : Nat} {e : TypeId} {a v : Value} (h : w.heap[g]? = some (.cells #[a, v] e)) (u : Value) : (w.setCell ⟨g, 1, none⟩ u).heap[g]? = some (.cells #[a, u] e) := by
  simp [World.setCell, Array.getElem?_modify, h]
theorem Pb.fl_div {v wd : Int} : v / wd * wd = Pb.fl wd v := by
  have := Int.mul_ediv_add_emod v wd
  rw [Int.mul_comm] at this
  unfold Pb.fl
  omega
theorem Pb.inn_take_succ {l : List Int} {j : Nat} {y : Int} (h : l.getD j 0 = y ∧ j < l.length) (lo hi : Int) : Pb.inn (l.take (j + 1)) lo hi = Pb.inn (l.take j) lo hi + if lo ≤ y ∧ y < hi then 1 else 0 := by
  rw [take_succ_getD l j h.2, h.1, Pb.inn_snoc]
set_option maxRecDepth 100000 in
set_option maxHeartbeats 1600000 in
theorem rbins21 (A : Option Addr) (n c : Nat) (l : List Int) (wd : Int) (w : World) (h : Nums w .i64 w.heap.size A n c l) :
    Calls Try.prog 11 #[.slice A n c, .int .i64 wd] w (GivesBinsE (Pb.binsE l wd) (Pb.err l wd) w) := by
  have hm : n ≤ 9223372036854775807 := by have := h.cap; have := h.max; unfold maxLen at this; omega
  have hlen := h.len
  have H := Lib.hid h
  clear h
  by_cases he : Pb.err l wd = 0
  · rcases Pb.err_cases l wd with ⟨a, e⟩ | ⟨a, b, e⟩ | ⟨a, b, d, e⟩ | ⟨a, b, d, o, e⟩ | ⟨a, b, d, o, e⟩
    · rw [he] at e; cases e
    · rw [he] at e; cases e
    · rw [he] at e; cases e
    · rw [he] at e; cases e
    have HB := Lib.hid (show Pb.binsE l wd = Pb.bins (l.map (Pb.fl wd)) by unfold Pb.binsE; rw [e]; rfl)
    have HE := Lib.hid e
    have hrx : ∀ x ∈ l, -1000000 ≤ x ∧ x ≤ 1000000 := fun x hx => out_bd (by
      rcases ho : Pb.out x with _ | _
      · rfl
      · exact absurd (List.any_eq_true.2 ⟨x, hx, ho⟩) (by rw [o]; simp))
    have HX0 := Lib.hid hrx
    have hn : n ≤ 200 := by omega
    have HOF := Lib.hid (show ∀ j, ∀ y ∈ Zs.of ((l.take j).map (Pb.fl wd)), -9000000000 ≤ y ∧ y ≤ 9000000000 from fun j y hy => by
      obtain ⟨x, hx, rfl⟩ := List.mem_map.1 (Zs.mem_of.1 hy)
      have := hrx x (List.mem_of_mem_take hx)
      have := Pb.fl_bd (v := x) b
      omega)
    have HOL := Lib.hid (show ∀ j, (Zs.of ((l.take j).map (Pb.fl wd))).length ≤ 200 from fun j => by
      have := Zs.of_len ((l.take j).map (Pb.fl wd))
      rw [List.length_map, List.length_take] at this; omega)
    have HBIN := Lib.hid (fun k hk => Pb.bin_of (w := wd) b l (j := k) hk)
    clear he a e o hrx hlen
    go_enter Try.func11, Try.ntmps11
    go_wp2_with fail
    refine (rcheck21 A n c l wd _ w H.out).mono ?_; rintro e w1 ⟨rfl, rfl⟩
    rw [HE.out]
    go_wp2_with fail
    go_loopw [7, 8] (fun v i wr => ∃ j : Nat, j ≤ n ∧ i = .int .i64 j ∧ Hid (Own wr w.heap.size 3 .i64 v (Zs.of ((l.take j).map (Pb.fl wd))) ∧ Below w.heap.size w wr)) (fun _ i _ => n - (intOf i).toNat)
    case atStart => exact ⟨0, by omega, rfl, ⟨by simpa [Zs.of] using Own.nil _ _ _ _, Below.refl _ _⟩⟩
    case round =>
      obtain ⟨j, hj, rfl, HI⟩ := hrel
      by_cases hlt : j < n
      · obtain ⟨ad, x, rfl, _, HX, hx, _⟩ := (H.out.keep HI.out.2 HI.out.2.size).val hlt
        have hb := HX0.out x (getD_mem HX.out)
        have hfb := Pb.fl_bd (v := x) b
        have hfd := Pb.fl_div (v := x) (wd := wd)
        have HS := Lib.hid (map_take_succ (Pb.fl wd) HX.out)
        have hf1 : -2000000 ≤ Pb.fl wd x := by omega
        have hf2 : Pb.fl wd x ≤ 1000000 := by omega
        generalize Pb.fl wd x = f at *
        have HBX := Lib.hid hb
        clear hfb hb
        go_wp2_with fail
        refine (rfloor21 x wd _ b d HBX.out.1 HBX.out.2).mono ?_; rintro e w1 ⟨rfl, rfl⟩
        go_wp2_with fail
        refine (put_own w.heap.size _ _ f wr HI.out.1 (Zs.asc_of _) HI.out.2.size (by have := HOL.out j; omega) (fun y hy => wf_i64 (HOF.out j y hy))).mono ?_; rintro e w2 ⟨v', rfl, hown', hb'⟩
        have HO2 := Lib.hid hown'
        have HB2 := Lib.hid (HI.out.2.trans hb')
        clear hown' hb'
        go_wp2_with fail
        go_roundw
        case rel => exact ⟨j + 1, by omega, by go_num, ⟨by rw [HS.out, Zs.of_snoc]; exact HO2.out, HB2.out⟩⟩
        case measure => simp [intOf]; omega
      · obtain rfl : j = n := by omega
        have hfin := HI.out.1
        have hwfF := HOF.out j
        have hlF := HOL.out j
        rw [take_len H.out.len] at hfin hwfF hlF
        obtain ⟨S, N, cs, rfl, hN, hns⟩ := hfin.numsN (fun y hy => wf_i64 (hwfF y hy))
        have HNS := Lib.hid hns
        have HB1 := Lib.hid HI.out.2
        have hN2 : N ≤ 200 := by have := hN.out; omega
        have HH := Lib.hid (H.out.keep HI.out.2 HI.out.2.size)
        have HWF := Lib.hid hwfF
        have HBS := Lib.hid (show Pb.bins (l.map (Pb.fl wd)) = (Zs.of (l.map (Pb.fl wd))).map fun x => (x, Pb.cnt (l.map (Pb.fl wd)) x) from rfl)
        have hbl : (Pb.bins (l.map (Pb.fl wd))).length = N := by rw [HBS.out, List.length_map]; exact hN.out.symm
        have HBL := Lib.hid hbl
        clear hfin hns HI hlt H HX0 HOF HOL hwfF hlF hbl
        go_wp2_with fail
        generalize hw1 : wr = w1 at *
        clear hw1
        generalize hbins : Pb.bins (l.map (Pb.fl wd)) = BL at *
        go_loopw [9, 10, 11, 12] (fun v i _ _ wr => ∃ k : Nat, k ≤ N ∧ i = .int .i64 k ∧ Hid (Own2 wr w1.heap.size 39 v (BL.take k) ∧ Below w1.heap.size w1 wr)) (fun _ i _ _ _ => N - (intOf i).toNat)
        case atStart => exact ⟨0, by omega, rfl, ⟨by simpa using Own2.nil _ _ _, Below.refl _ _⟩⟩
        case round =>
          obtain ⟨k, hk, rfl, HI⟩ := hrel
          by_cases hkt : k < N
          · obtain ⟨sd, x, rfl, _, HX, hx, _⟩ := (HNS.out.keep HI.out.2 HI.out.2.size).val hkt
            have hkb : k < BL.length := by rw [HBL.out]; exact hkt
            have hbin := HBIN.out k hkb
            have hxb := HWF.out x (getD_mem HX.out)
            have hx1 : BL[k].1 = x := by
              simp only [HBS.out, List.getElem_map]
              rw [← HX.out.1]
              simp [List.getD, List.getElem?_eq_getElem (show k < (Zs.of (l.map (Pb.fl wd))).length by rw [← hN.out]; exact hkt)]
            have hts := List.take_succ_eq_append_getElem hkb
            generalize hp : BL[k] = p at *
            obtain ⟨p1, p2⟩ := p
            simp only at hx1 hbin
            subst hx1
            have HTS := Lib.hid hts
            have HCNT := Lib.hid hbin.2.1
            have hlb := Pb.inn_le l p1 (p1 + wd)
            have HLT := Lib.hid (show (BL.take k).length ≤ 200 by rw [List.length_take, HBL.out]; omega)
            have hxb1 := hxb.1
            have hxb2 := hxb.2
            have hkn : (k : Int) < N := by omega
            clear hbin hp hts hxb hkb
            go_wp2_with fail
            obtain ⟨Z, hZ⟩ : ∃ Z : World, wr.alloc (.cells #[.int .i64 p1, .int .i64 0] 39) = Z := ⟨_, rfl⟩
            have hbz : Below wr.heap.size wr Z := by rw [← hZ]; exact (Below.refl _ _).alloc (Nat.le_refl _) _
            have hgz : Z.heap[wr.heap.size]? = some (.cells #[.int .i64 p1, .int .i64 0] 39) := by rw [← hZ]; exact heap_alloc_new _ _
            have HH2 := Lib.hid (HH.out.keep HI.out.2 HI.out.2.size)
            have HBZ := Lib.hid hbz
            have HGZ := Lib.hid hgz
            have HO2 := Lib.hid HI.out.1
            have HB2 := Lib.hid HI.out.2
            rw [hZ]
            clear hZ hbz hgz HI
            generalize hwr : wr = w2 at *
            clear hwr
            go_loopw [12] (fun i wk => ∃ q : Nat, q ≤ j ∧ i = .int .i64 q ∧ Hid (wk.heap[w2.heap.size]? = some (.cells #[.int .i64 p1, .int .i64 (Pb.inn (l.take q) p1 (p1 + wd))] 39) ∧ Below w2.heap.size w2 wk)) (fun i _ => j - (intOf i).toNat)
            case atStart => exact ⟨0, by omega, rfl, ⟨by simpa [Pb.inn] using HGZ.out, HBZ.out⟩⟩
            case round =>
              obtain ⟨q, hq, rfl, HK⟩ := hrel
              have hil := Pb.inn_le (l.take q) p1 (p1 + wd)
              have i0 := hil.1
              have i1 : Pb.inn (l.take q) p1 (p1 + wd) ≤ 200 := by have := hil.2; rw [List.length_take] at this; omega
              have f0 := (heap_cell (i := 0) HK.out.1 rfl : wr.cell? ⟨w2.heap.size, 0, none⟩ = some (.int .i64 p1))
              have f1 := (heap_cell (i := 1) HK.out.1 rfl : wr.cell? ⟨w2.heap.size, 1, none⟩ = some (.int .i64 (Pb.inn (l.take q) p1 (p1 + wd))))
              have f2 := (heap_thawed (i := 1) HK.out.1)
              clear hil
              by_cases hqt : q < j
              · obtain ⟨ad, y, rfl, _, HY, hy, _⟩ := (HH2.out.keep HK.out.2 HK.out.2.size).val hqt
                have his := Pb.inn_take_succ HY.out p1 (p1 + wd)
                have qj : (q : Int) < j := by omega
                have q0 : (0 : Int) ≤ q := by omega
                by_cases c1 : p1 ≤ y
                · by_cases c2 : y < p1 + wd
                  · rw [if_pos ⟨c1, c2⟩] at his
                    have HIS := Lib.hid his
                    have d1 : decide (p1 ≤ y) = true := by simpa using c1
                    have d2 : decide (y < p1 + wd) = true := by simpa using c2
                    clear his c1 c2
                    go_wp2_with fail
                    go_quiet (fail)
                    go_wp2_with fail
                    go_roundw
                    case rel => exact ⟨q + 1, by omega, by go_num, ⟨by rw [HIS.out]; exact heap_set1 (w := wr.drewN _) HK.out.1 _, (below_drewN HK.out.2 _).setCell (Nat.le_refl _) _⟩⟩
                    case measure => simp [intOf]; omega
                  · rw [if_neg (by omega)] at his
                    have HIS := Lib.hid his
                    have d1 : decide (p1 ≤ y) = true := by simpa using c1
                    have d2 : decide (y < p1 + wd) = false := by simpa using c2
                    clear his c1 c2
                    go_wp2_with fail
                    go_quiet (fail)
                    go_wp2_with fail
                    go_roundw
                    case rel => exact ⟨q + 1, by omega, by go_num, ⟨by rw [HIS.out, Int.add_zero]; exact HK.out.1, below_drewN HK.out.2 _⟩⟩
                    case measure => simp [intOf]; omega
                · rw [if_neg (by omega)] at his
                  have HIS := Lib.hid his
                  have d1 : decide (p1 ≤ y) = false := by simpa using c1
                  clear his c1
                  go_wp2_with fail
                  go_quiet (fail)
                  go_wp2_with fail
                  go_roundw
                  case rel => exact ⟨q + 1, by omega, by go_num, ⟨by rw [HIS.out, Int.add_zero]; exact HK.out.1, below_drewN HK.out.2 _⟩⟩
                  case measure => simp [intOf]; omega
              · obtain rfl : q = j := by omega
                have hfull : Pb.inn (l.take q) p1 (p1 + wd) = p2 := by rw [take_len HH2.out.len]; exact HCNT.out.symm
                rw [hfull] at f1 i0 i1
                have HKB := Lib.hid HK.out.2
                have HO3 := Lib.hid (HO2.out.below HK.out.2)
                have HB3 := Lib.hid (HB2.out.trans (HK.out.2.mono HB2.out.size))
                clear hfull hqt HK f2
                go_wp2_with (at_builtin; refine app_pair _ rfl (.tmp 74) (.tmp 76) _ rfl w1.heap.size 39 bin_info Try.underlying28 _ _ rfl (HO3.out.alloc _) p1 p2 _ rfl (by simp [go_sem]) (by simp [go_sem]) (by have := HLT.out; omega) (by have := HB3.out.size; simp; omega) ?_; intro v' w' hown' hgrow)
                go_roundw
                case rel => exact ⟨k + 1, by omega, by go_num, ⟨by rw [HTS.out]; exact hown', (HO3.out.alloc _).grow (HB3.out.alloc HB3.out.size _) hgrow (by have := HB3.out.size; simp; omega) (Nat.le_refl _)⟩⟩
                case measure => simp [intOf]; omega
          · obtain rfl : k = N := by omega
            go_wp2_with fail
            go_ret2
            have hfin := HI.out.1.base_le HB1.out.size
            rw [List.take_of_length_le (by rw [HBL.out]; exact Nat.le_refl _)] at hfin
            exact ⟨u9, by rw [HE.out]; rfl, by rw [HB.out]; exact hfin, HB1.out.trans (HI.out.2.mono HB1.out.size)⟩
  · have hne : Pb.err l wd = 1 ∨ Pb.err l wd = 2 := by
      rcases Pb.err_cases l wd with ⟨a, e⟩ | ⟨a, b, e⟩ | ⟨a, b, d, e⟩ | ⟨a, b, d, o, e⟩ | ⟨a, b, d, o, e⟩
      · exact .inl e
      · exact .inr e
      · exact .inr e
      · exact .inr e
      · exact absurd e he
    have HB := Lib.hid (show Pb.binsE l wd = [] by unfold Pb.binsE; rw [if_neg he])
    rcases hne with hx | hx
    all_goals
      have HE := Lib.hid hx
      clear he hx
      go_enter Try.func11, Try.ntmps11
      go_wp2_with fail
      refine (rcheck21 A n c l wd _ w H.out).mono ?_; rintro e w1 ⟨rfl, rfl⟩
      rw [HE.out]
      go_wp2_with fail
      go_ret2
      exact ⟨.slice none 0 0, by rw [HE.out]; rfl, by rw [HB.out]; exact Own2.nil _ _ _, Below.refl _ _⟩
end Go.Proofs.Ytaalgjeffidedaa
