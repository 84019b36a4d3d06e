/- The statement that rules protect counts, walked. -/
import Derived.Test.YtjhdhnefoclccaaRf
namespace Go.Proofs.Ytjhdhnefoclccaa
open Go.RowKit
theorem map_take_succ (f : Int → Int) {l : List Int} {j : Nat} {x : Int} (h : l.getD j 0 = x ∧ j < l.length) : (l.take (j + 1)).map f = (l.take j).map f ++ [f x] := by
  rw [take_succ_getD l j h.2, h.1, List.map_append]; rfl
theorem Rl.pr_pre (a : Int) (l : List Int) (j m : Nat) : ∃ r, Rl.pr a l (j + m) = Rl.pr a l j ++ r := by
  induction m with
  | zero => exact ⟨[], by simp⟩
  | succ m ih =>
    obtain ⟨r, hr⟩ := ih
    exact ⟨r ++ (if Rl.few a (l.getD (j + m) 0) then [((j + m : Nat) : Int)] else []), by rw [show j + (m + 1) = (j + m) + 1 from rfl, Rl.pr_succ, hr, List.append_assoc]⟩
theorem Rl.pr_at {a : Int} {l : List Int} {j n : Nat} (hj : j < n) (hf : Rl.few a (l.getD j 0) = true) : (Rl.pr a l j).length < (Rl.pr a l n).length ∧ (Rl.pr a l n).getD (Rl.pr a l j).length 0 = j := by
  obtain ⟨r, hr⟩ := Rl.pr_pre a l (j + 1) (n - (j + 1))
  rw [show j + 1 + (n - (j + 1)) = n by omega, Rl.pr_succ, hf, if_pos rfl] at hr
  rw [hr]
  simp [List.getD]
theorem Rl.pr_mono {a a' : Int} (h : a ≤ a') (l : List Int) (k : Nat) : (Rl.pr a l k).length ≤ (Rl.pr a' l k).length := by
  induction k with
  | zero => simp [Rl.pr]
  | succ k ih =>
    rw [Rl.pr_succ, Rl.pr_succ, List.length_append, List.length_append]
    have : (if Rl.few a (l.getD k 0) then [(k : Int)] else []).length ≤ (if Rl.few a' (l.getD k 0) then [(k : Int)] else []).length := by
      by_cases hf : Rl.few a (l.getD k 0) = true
      · have hf' : Rl.few a' (l.getD k 0) = true := by
          simp only [Rl.few, Bool.and_eq_true, decide_eq_true_eq] at hf ⊢; omega
        rw [if_pos hf, if_pos hf']
        exact Nat.le_refl _
      · rw [if_neg hf]
        exact Nat.zero_le _
    omega
theorem Rl.pr_bd {a : Int} {l : List Int} {k : Nat} : ∀ x ∈ Rl.pr a l k, 0 ≤ x ∧ x < k := fun x hx => by
  unfold Rl.pr at hx
  obtain ⟨y, hy, rfl⟩ := List.mem_map.1 hx
  have := List.mem_range.1 (List.mem_filter.1 hy).1
  simp; omega
def Rl.low (l : List Int) : List Int := l.map fun x => x % 30
set_option maxRecDepth 100000 in
set_option maxHeartbeats 3200000 in
theorem walkProtect (W0 : World) (A : Option Addr) (n c : Nat) (l : List Int) (h : Nums W0 .u8 W0.heap.size A n c l) (x : Int) (hx0 : 0 ≤ x) (hx1 : x ≤ 255) (y : Int) (hy0 : 0 ≤ y) (hy1 : y ≤ 255) :
    Calls Try.prog 9 #[.slice A n c, .int .u8 x, .int .u8 y] W0 fun e w => e = .returned (.bool true) ∧ Below W0.heap.size W0 w := by
  by_cases hn : n ≤ 200
  · obtain ⟨a, ha⟩ : ∃ a, 1 + x % 20 = a := ⟨_, rfl⟩
    obtain ⟨b, hb⟩ : ∃ b, a + y % 20 = b := ⟨_, rfl⟩
    have ha1 : 1 ≤ a := by omega
    have ha2 : a ≤ 20 := by omega
    have hb1 : a ≤ b := by omega
    have hb2 : b ≤ 39 := by omega
    obtain ⟨q, hq⟩ : ∃ q, W0.heap.size = q := ⟨_, rfl⟩
    obtain ⟨W, hW⟩ : ∃ W : World, (W0.alloc (.cells #[.int .i64 a, .int .i64 90, .int .i64 0, .int .i64 0] 49)).alloc (.cells #[.int .i64 b, .int .i64 90, .int .i64 0, .int .i64 0] 49) = W := ⟨_, rfl⟩
    have hbw : Below W0.heap.size W0 W := by rw [← hW]; exact ((Below.refl _ _).alloc (Nat.le_refl _) _).alloc (by simp) _
    have hra : W.heap[q]? = some (.cells #[.int .i64 a, .int .i64 90, .int .i64 0, .int .i64 0] 49) := by
      rw [← hW, ← hq]; exact (heap_alloc_old _ _ (by simp)).trans (heap_alloc_new _ _)
    have hrb : W.heap[q + 1]? = some (.cells #[.int .i64 b, .int .i64 90, .int .i64 0, .int .i64 0] 49) := by
      rw [← hW, show q + 1 = (W0.alloc (.cells #[.int .i64 a, .int .i64 90, .int .i64 0, .int .i64 0] 49)).heap.size from by simp; omega]
      exact heap_alloc_new _ _
    have HN := Lib.hid (h.keep hbw hbw.size)
    have HWE := Lib.hid hW
    have HBW := Lib.hid hbw
    have HRA := Lib.hid hra
    have HRB := Lib.hid hrb
    clear h hW hbw hra hrb
    have HQ := Lib.hid hq
    go_enter Try.func9, Try.ntmps9
    go_wp2_with fail
    rw [HWE.out]
    clear ha hb
    go_loopw [9, 11, 37] (fun s _ i wr => ∃ j : Nat, j ≤ n ∧ i = .int .i64 j ∧ Hid (Own wr W.heap.size 3 .i64 s ((l.take j).map fun x => x % 30) ∧ Below W.heap.size W wr)) (fun _ _ i _ => n - (intOf i).toNat)
    case atStart => exact ⟨0, by omega, rfl, ⟨by simpa using Own.nil _ _ _ _, Below.refl _ _⟩⟩
    case round =>
      obtain ⟨j, hj, rfl, HI⟩ := hrel
      by_cases hlt : j < n
      · obtain ⟨ad, v, rfl, _, HX, hx, hwx⟩ := (HN.out.keep HI.out.2 HI.out.2.size).val hlt
        have hv0 := bounds_u8 hwx
        have hlen := Lib.hid (show ((l.take j).map fun x => x % 30).length ≤ 1000 by rw [List.length_map, List.length_take]; omega)
        have HS := Lib.hid (map_take_succ (fun x => x % 30) HX.out)
        have hjn : (j : Int) < n := by omega
        clear hwx
        go_wp2_with (at_builtin; refine app_int _ rfl (.tmp 41) (.tmp 45) _ rfl W.heap.size 3 8 .i64 int_info Try.underlying53 _ _ rfl (HI.out.1.alloc _) (v % 30) _ rfl (by simp [go_sem]) (by have := hlen.out; simp only [maxLen]; omega) (by have := hlen.out; omega) (by have := HI.out.2.size; simp; omega) ?_; intro v' w' hown' hgrow)
        go_roundw
        case rel =>
          exact ⟨j + 1, by omega, by go_num, ⟨by rw [HS.out]; exact hown', (HI.out.1.alloc _).grow (HI.out.2.alloc HI.out.2.size _) hgrow (by have := HI.out.2.size; simp; omega) (Nat.le_refl _)⟩⟩
        case measure => simp [intOf]; omega
      · obtain rfl : j = n := by omega
        have hfin := HI.out.1
        rw [List.take_of_length_le (by rw [HN.out.len]; exact Nat.le_refl _)] at hfin
        have hbd : ∀ x ∈ Rl.low l, 0 ≤ x ∧ x < 30 := fun x hx => by
          obtain ⟨y, _, rfl⟩ := List.mem_map.1 hx
          omega
        obtain ⟨V, N, cv, rfl, hN, hnv⟩ : ∃ V N cv, u9 = .slice V N cv ∧ Hid (N = (Rl.low l).length) ∧ Nums wr .i64 wr.heap.size V N cv (Rl.low l) := by
          obtain ⟨V, cv, hv, hnn⟩ := Own.nums (l := Rl.low l) hfin (fun x hx => wf_i64 (by have := hbd x hx; omega))
          exact ⟨V, _, cv, hv, Lib.hid rfl, hnn⟩
        have HV := Lib.hid hnv
        have hNn : N ≤ 200 := by have := hN.out; unfold Rl.low at this; rw [List.length_map, HN.out.len] at this; omega
        have HBR := Lib.hid (HBW.out.trans (HI.out.2.mono HBW.out.size))
        have HRA1 := Lib.hid ((HI.out.2.block _ (heap_lt HRA.out)).trans HRA.out)
        have HRB1 := Lib.hid ((HI.out.2.block _ (heap_lt HRB.out)).trans HRB.out)
        generalize hL : Rl.low l = L at *
        clear hL hnv hfin HI hlt HN HBW HRA HRB hbd
        have f0 := (heap_cell (i := 0) HRA1.out rfl : wr.cell? ⟨q, 0, none⟩ = some (.int .i64 a))
        have f1 := (heap_cell (i := 1) HRA1.out rfl : wr.cell? ⟨q, 1, none⟩ = some (.int .i64 90))
        have f2 := (heap_cell (i := 2) HRA1.out rfl : wr.cell? ⟨q, 2, none⟩ = some (.int .i64 0))
        have f3 := (heap_cell (i := 3) HRA1.out rfl : wr.cell? ⟨q, 3, none⟩ = some (.int .i64 0))
        go_wp2_with fail
        refine (protected27 a 90 ha1 (by omega) (by decide) (by decide) V N cv L wr HV.out hNn).mono ?_; rintro e w2 ⟨p, rfl, hp, hb2⟩
        obtain ⟨P, NP, cp, rfl, hNP, hnp⟩ : ∃ P NP cp, p = .slice P NP cp ∧ Hid (NP = (Rl.pr a L N).length) ∧ Nums w2 .i64 w2.heap.size P NP cp (Rl.pr a L N) := by
          obtain ⟨V, cv, hv, hnn⟩ := hp.nums (fun x hx => wf_i64 (by have := Rl.pr_bd x hx; omega))
          exact ⟨V, _, cv, hv, Lib.hid rfl, hnn⟩
        have HP := Lib.hid hnp
        have HV2 := Lib.hid (HV.out.keep hb2 hb2.size)
        have HB2 := Lib.hid (HBR.out.trans (hb2.mono HBR.out.size))
        have HRA2 := Lib.hid ((hb2.block _ (heap_lt HRA1.out)).trans HRA1.out)
        have HRB2 := Lib.hid ((hb2.block _ (heap_lt HRB1.out)).trans HRB1.out)
        clear f0 f1 f2 f3 hp hnp hb2 HRA1 HRB1 HV HBR
        have f0 := (heap_cell (i := 0) HRB2.out rfl : w2.cell? ⟨q + 1, 0, none⟩ = some (.int .i64 b))
        have f1 := (heap_cell (i := 1) HRB2.out rfl : w2.cell? ⟨q + 1, 1, none⟩ = some (.int .i64 90))
        have f2 := (heap_cell (i := 2) HRB2.out rfl : w2.cell? ⟨q + 1, 2, none⟩ = some (.int .i64 0))
        have f3 := (heap_cell (i := 3) HRB2.out rfl : w2.cell? ⟨q + 1, 3, none⟩ = some (.int .i64 0))
        go_wp2_with fail
        refine (protected27 b 90 (by omega) (by omega) (by decide) (by decide) V N cv L w2 HV2.out hNn).mono ?_; rintro e w3 ⟨p, rfl, hp, hb3⟩
        obtain ⟨S, NS, cs, rfl, hNS, _⟩ : ∃ P NP cp, p = .slice P NP cp ∧ Hid (NP = (Rl.pr b L N).length) ∧ Nums w3 .i64 w3.heap.size P NP cp (Rl.pr b L N) := by
          obtain ⟨V, cv, hv, hnn⟩ := hp.nums (fun x hx => wf_i64 (by have := Rl.pr_bd x hx; omega))
          exact ⟨V, _, cv, hv, Lib.hid rfl, hnn⟩
        have HV3 := Lib.hid (HV2.out.keep hb3 hb3.size)
        have HP3 := Lib.hid (HP.out.keep hb3 hb3.size)
        have HB3 := Lib.hid (HB2.out.trans (hb3.mono HB2.out.size))
        have HRA3 := Lib.hid ((hb3.block _ (heap_lt HRA2.out)).trans HRA2.out)
        have HRB3 := Lib.hid ((hb3.block _ (heap_lt HRB2.out)).trans HRB2.out)
        clear f0 f1 f2 f3 hp hb3 HRA2 HRB2 HV2 HP HB2
        have f0 := (heap_cell (i := 0) HRA3.out rfl : w3.cell? ⟨q, 0, none⟩ = some (.int .i64 a))
        have f1 := (heap_cell (i := 1) HRA3.out rfl : w3.cell? ⟨q, 1, none⟩ = some (.int .i64 90))
        have f2 := (heap_cell (i := 2) HRA3.out rfl : w3.cell? ⟨q, 2, none⟩ = some (.int .i64 0))
        have f3 := (heap_cell (i := 3) HRA3.out rfl : w3.cell? ⟨q, 3, none⟩ = some (.int .i64 0))
        have g0 := (heap_cell (i := 0) HRB3.out rfl : w3.cell? ⟨q + 1, 0, none⟩ = some (.int .i64 b))
        have g1 := (heap_cell (i := 1) HRB3.out rfl : w3.cell? ⟨q + 1, 1, none⟩ = some (.int .i64 90))
        have g2 := (heap_cell (i := 2) HRB3.out rfl : w3.cell? ⟨q + 1, 2, none⟩ = some (.int .i64 0))
        have g3 := (heap_cell (i := 3) HRB3.out rfl : w3.cell? ⟨q + 1, 3, none⟩ = some (.int .i64 0))
        have hNP2 : NP ≤ 200 := by have := hNP.out; have := Rl.pr_len a L N; omega
        have hNS2 : NS ≤ 200 := by have := hNS.out; have := Rl.pr_len b L N; omega
        have hNPS : NP ≤ NS := by rw [hNP.out, hNS.out]; exact Rl.pr_mono hb1 L N
        go_wp2_with fail
        go_loop [16, 17, 18, 62] (fun t _ _ i => ∃ k : Nat, k ≤ N ∧ i = .int .i64 k ∧ t = .int .i64 (Rl.pr a L k).length) (fun _ _ _ i => N - (intOf i).toNat)
        case atStart => exact ⟨0, by omega, rfl, by simp [Rl.pr]⟩
        case round =>
          obtain ⟨k, hk, rfl, rfl⟩ := hrel
          by_cases hkt : k < N
          · obtain ⟨ad, v, rfl, _, HX, hx, hwv⟩ := HV3.out.val hkt
            have hvb := bounds_i64 hwv
            have hv1 := hvb.1
            have hv2 := hvb.2
            have kt : (k : Int) < N := by omega
            have hsu := Rl.pr_succ a L k
            have hpa := Rl.pr_at (a := a) (l := L) hkt
            rw [HX.out.1] at hsu hpa
            rw [← hNP.out] at hpa
            have HPA := Lib.hid hpa
            have HSU := Lib.hid hsu
            have hkl := Rl.pr_len a L k
            generalize Rl.pr a L k = R at *
            have hrl : R.length ≤ 200 := by omega
            clear hwv hvb hpa hsu hkl
            by_cases h1 : 1 ≤ v
            · by_cases h2 : v < a
              · have hf : Rl.few a v = true := by simp [Rl.few, h1, h2]
                obtain ⟨hat, hav⟩ := HPA.out hf
                obtain ⟨pd, y, rfl, _, HY, hy, _⟩ := HP3.out.val hat
                obtain rfl : y = k := by rw [← HY.out.1]; exact hav
                have HS2 := Lib.hid (show (Rl.pr a L (k + 1)).length = R.length + 1 by rw [HSU.out, hf]; simp)
                have at1 : (R.length : Int) < NP := by omega
                have at2 : decide ((NP : Int) ≤ R.length) = false := by simp; omega
                clear hav hat hf
                go_wp2_with fail
                go_round
                case rel => exact ⟨k + 1, by omega, by go_num, by rw [HS2.out]; go_num⟩
                case measure => simp [intOf]; omega
              · have hf : Rl.few a v = false := by simp [Rl.few, h1, h2]
                have HS2 := Lib.hid (show (Rl.pr a L (k + 1)).length = R.length by rw [HSU.out, hf]; simp)
                clear hf
                go_wp2_with fail
                go_round
                case rel => exact ⟨k + 1, by omega, by go_num, by rw [HS2.out]⟩
                case measure => simp [intOf]; omega
            · have hf : Rl.few a v = false := by simp [Rl.few]; omega
              have HS2 := Lib.hid (show (Rl.pr a L (k + 1)).length = R.length by rw [HSU.out, hf]; simp)
              clear hf
              go_wp2_with fail
              go_round
              case rel => exact ⟨k + 1, by omega, by go_num, by rw [HS2.out]⟩
              case measure => simp [intOf]; omega
          · obtain rfl : k = N := by omega
            rw [← hNP.out]
            have e1 : ((NP : Int) == NP) = true := by simp
            have e2 : decide ((NP : Int) ≤ NS) = true := by simp; omega
            go_wp2_with fail
            refine (stricter27 a b 90 hb1 ha1 (by omega) (by decide) (by decide) w3).mono ?_; rintro e w4 ⟨rfl, hb4⟩
            have HB4 := Lib.hid (HB3.out.trans (hb4.mono HB3.out.size))
            clear hb4
            go_wp2_with fail
            refine (awake27 _).mono ?_; rintro e w9 ⟨rfl, hb9⟩
            go_wp2_with fail
            go_ret
            exact ⟨rfl, HB4.out.trans (hb9.mono HB4.out.size)⟩
  · have hn2 : (200 : Int) < n := by omega
    have HN := Lib.hid hn2
    go_enter Try.func9, Try.ntmps9
    go_wp2_with fail
    refine (awake27 _).mono ?_; rintro e w9 ⟨rfl, hb9⟩
    go_wp2_with fail
    go_ret
    exact ⟨rfl, hb9⟩
end Go.Proofs.Ytjhdhnefoclccaa
