/- plot.Bins of numbers within the limits. -/
import Derived.Test.YtaalgjeffidedaaBc
namespace Go.Proofs.Ytaalgjeffidedaa
open Go.RowKit
def GivesBins (L : List (Int × Int)) (w : World) (e : Ending) (w' : World) : Prop := ∃ v, e = .returned (.tuple #[v, .int .i64 0]) ∧ Own2 w' w.heap.size 39 v L ∧ Below w.heap.size w w'
theorem bin_info : (Try.prog.info? 39).map (fun i => (i.zero, i.size, i.bytes)) = some (some (.agg #[.int .i64 0, .int .i64 0]), 2, 16) := by kernel_rfl
theorem map_take_succ (f : Int → Int) {l : List Int} {j : Nat} {x : Int} (h : l.getD j 0 = x ∧ j < l.length) : (l.take (j + 1)).map f = (l.take j).map f ++ [f x] := by
  rw [take_succ_getD l j h.2, h.1, List.map_append]; rfl
theorem wf_i64 {x : Int} (h : -9000000000 ≤ x ∧ x ≤ 9000000000) : (Lit.int .i64 x).wf = true := by
  simp [Lit.wf, IntKind.min, IntKind.max, IntKind.signed, IntKind.bits]; omega
theorem out_bd {x : Int} (h : Pb.out x = false) : -1000000 ≤ x ∧ x ≤ 1000000 := by
  simp only [Pb.out, Bool.or_eq_false_iff, decide_eq_false_iff_not] at h; omega
theorem Pb.runs_len {l : List Int} (hs : l.Pairwise (· ≤ ·)) : (Pb.runs l).length ≤ l.length := by rw [(Pb.runs_eq _ l rfl hs).1]; exact Pb.bins_len l
set_option maxHeartbeats 1600000 in
theorem bins21 (A : Option Addr) (n c : Nat) (l : List Int) (wd : Int) (w : World) (h : Nums w .i64 w.heap.size A n c l) (hn : n ≤ 200) (h1 : 1 ≤ wd) (h2 : wd ≤ 1000000) (hr : l.any Pb.out = false) :
    Calls Try.prog 10 #[.slice A n c, .int .i64 wd] w (GivesBins (Pb.bins (l.map (Pb.fl wd))) w) := by
  have H := Lib.hid h
  have HR := Lib.hid hr
  have hrx : ∀ x ∈ l, -1000000 ≤ x ∧ x ≤ 1000000 := fun x hx => out_bd (by
    rcases ho : Pb.out x with _ | _
    · rfl
    · exact absurd (List.any_eq_true.2 ⟨x, hx, ho⟩) (by rw [hr]; simp))
  have HX0 := Lib.hid hrx
  clear h hr hrx
  go_enter Try.func10, Try.ntmps10
  go_wp2_with fail
  refine (contains_out A n c l _ w H.out).mono ?_; rintro e w1 ⟨rfl, rfl⟩
  rw [HR.out]
  go_wp2_with fail
  go_loopw [6, 8, 27] (fun v _ i wr => ∃ j : Nat, j ≤ n ∧ i = .int .i64 j ∧ Hid (Own wr w.heap.size 3 .i64 v ((l.take j).map (Pb.fl wd)) ∧ Below w.heap.size w wr)) (fun _ _ i _ => n - (intOf i).toNat)
  case atStart => exact ⟨0, by omega, rfl, ⟨by simpa using Own.nil _ _ _ _, Below.refl _ _⟩⟩
  case round =>
    obtain ⟨j, hj, rfl, HI⟩ := hrel
    by_cases hlt : j < n
    · obtain ⟨ad, x, rfl, _, HX, hx, _⟩ := (H.out.keep HI.out.2 HI.out.2.size).val hlt
      have hb := HX0.out x (getD_mem HX.out)
      have HS := Lib.hid (map_take_succ (Pb.fl wd) HX.out)
      have hlen := Lib.hid (show ((l.take j).map (Pb.fl wd)).length ≤ 1000 by rw [List.length_map, List.length_take]; omega)
      go_wp2_with (first
        | ((go_at_call 18); refine (floor21 x wd _ h1 h2 hb.1 hb.2).mono ?_; rintro e w1 ⟨rfl, rfl⟩)
        | (at_builtin; refine app_int _ rfl (.tmp 31) (.tmp 35) _ rfl w.heap.size 3 8 .i64 int_info Try.underlying23 u6 _ rfl (HI.out.1.alloc _) (Pb.fl wd x) _ rfl (by simp [go_sem]) (by have := hlen.out; simp only [maxLen]; omega) (by have := hlen.out; omega) (by have := HI.out.2.size; simp; omega) ?_; intro v' w' hown' hgrow)
        | fail)
      go_roundw
      case rel => exact ⟨j + 1, by omega, by go_num, ⟨by rw [HS.out]; exact hown', (HI.out.1.alloc _).grow (HI.out.2.alloc HI.out.2.size _) hgrow (by have := HI.out.2.size; simp; omega) (Nat.le_refl _)⟩⟩
      case measure => simp [intOf]; omega
    · obtain rfl : j = n := by omega
      have hfin := HI.out.1
      rw [take_len H.out.len] at hfin
      have HF := Lib.hid hfin
      have HB := Lib.hid HI.out.2
      clear hfin HI hlt
      have HLN := Lib.hid (show (l.map (Pb.fl wd)).length ≤ 200 by rw [List.length_map, H.out.len]; exact hn)
      have HFB := Lib.hid (show ∀ y ∈ l.map (Pb.fl wd), -9000000000 ≤ y ∧ y ≤ 9000000000 from fun y hy => by
        obtain ⟨x, hx, rfl⟩ := List.mem_map.1 hy
        have := HX0.out x hx
        have := Pb.fl_bd (v := x) h1
        omega)
      generalize l.map (Pb.fl wd) = F at *
      go_wp2_with fail
      refine (sort_own w.heap.size u6 F wr HF.out HB.out.size (by have := HLN.out; omega)).mono ?_
      rintro e w2 ⟨rfl, hown2, hb2⟩
      have HB2 := Lib.hid (HB.out.trans hb2)
      obtain ⟨A1, N1, c1, rfl, hN1, hn1⟩ : ∃ A1 N1 c1, u6 = .slice A1 N1 c1 ∧ Hid (N1 = (Pb.srt F).length) ∧ Nums w2 .i64 w2.heap.size A1 N1 c1 (Pb.srt F) := by
        obtain ⟨A, c, hv, hnn⟩ := Own.nums hown2 (fun x hx => wf_i64 (HFB.out x (Pb.srt_mem.1 hx)))
        exact ⟨A, _, c, hv, Lib.hid rfl, hnn⟩
      have HN := Lib.hid hn1
      have hN2 : N1 ≤ 200 := by have := hN1.out; have := HLN.out; rw [Pb.srt_len] at *; omega
      clear hown2 hb2 hn1 HF HB
      go_wp2_with fail
      go_loopw [9, 10, 11, 42] (fun v _ _ i w3 => ∃ j : Nat, j ≤ N1 ∧ i = .int .i64 j ∧ Hid (Own2 w3 w2.heap.size 39 v (Pb.runs ((Pb.srt F).take j)) ∧ Below w2.heap.size w2 w3)) (fun _ _ _ i _ => N1 - (intOf i).toNat)
      case atStart => exact ⟨0, by omega, rfl, ⟨by simpa [Pb.runs] using Own2.nil _ _ _, Below.refl _ _⟩⟩
      case round =>
        obtain ⟨j, hj, rfl, HI⟩ := hrel
        by_cases hlt : j < N1
        · obtain ⟨ad, x, rfl, _, HX, hx, _⟩ := (HN.out.keep HI.out.2 HI.out.2.size).val hlt
          have hts := take_succ_getD (Pb.srt F) j HX.out.2
          rw [HX.out.1] at hts
          have hsj : ((Pb.srt F).take j).Pairwise (· ≤ ·) := List.Pairwise.sublist (List.take_sublist _ _) (Pb.srt_sorted F)
          have hrl := Lib.hid (show (Pb.runs ((Pb.srt F).take j)).length ≤ 200 by have := Pb.runs_len hsj; rw [List.length_take] at this; omega)
          have HST := Lib.hid (show Pb.runs ((Pb.srt F).take (j + 1)) = Pb.step (Pb.runs ((Pb.srt F).take j)) x by rw [hts, Pb.runs_snoc])
          have hnew : (Pb.runs ((Pb.srt F).take j) = [] ∨ ∃ (R : List (Int × Int)) (y c : Int), Pb.runs ((Pb.srt F).take j) = R ++ [(y, c)] ∧ x ≠ y) → Pb.step (Pb.runs ((Pb.srt F).take j)) x = Pb.runs ((Pb.srt F).take j) ++ [(x, 0 + 1)] := by
            rintro (h | ⟨R, y, c, h, hne⟩)
            · rw [h]; rfl
            · rw [h]; unfold Pb.step; simp [hne]
          have HNEW := Lib.hid hnew
          clear hts hnew
          have hfin : ∀ (R : List (Int × Int)) (k : Int) (v' : Value) (w' : World), 0 ≤ k → k ≤ 1000 → Own2 w' w2.heap.size 39 v' (R ++ [(x, k)]) → R.length ≤ 200 →
              ∃ g N cap, v' = .slice (some ⟨g, 0, none⟩) N cap ∧ 1 ≤ N ∧ N ≤ 201 ∧ (0 : Int) ≤ (N : Int) - 1 ∧ (N : Int) - 1 < N ∧ ((N : Int) - 1).toNat = N - 1 ∧ w'.cell? ⟨g, (N - 1) * 2 + 1, none⟩ = some (.int .i64 k) ∧ w'.frozen? ⟨g, (N - 1) * 2 + 1, none⟩ = false ∧
                Hid (Own2 (w'.setCell ⟨g, (N - 1) * 2 + 1, none⟩ (.int .i64 (k + 1))) w2.heap.size 39 (.slice (some ⟨g, 0, none⟩) N cap) (R ++ [(x, k + 1)]) ∧ w2.heap.size ≤ g) := by
            intro R k v' w' _ _ ho hR
            obtain ⟨g, cap, rfl, hg, _, _⟩ := ho.row (by simp)
            have e1 : (R ++ [(x, k)]).length = R.length + 1 := by simp
            have hs := ho.snd (j := R.length) (by simp)
            rw [e1] at ho
            refine ⟨g, R.length + 1, cap, by rw [e1], by omega, by omega, by omega, by omega, by omega, ?_, ho.thawed _, Lib.hid ⟨?_, hg⟩⟩
            · rw [show R.length + 1 - 1 = R.length from by omega, hs]; simp
            · rw [show R.length + 1 - 1 = R.length from by omega]; exact ho.last _
          have HFIN := Lib.hid hfin
          clear hfin
          by_cases hj0 : j = 0
          · have b0 : ((j : Int) == 0) = true := by simp; omega
            have HS := Lib.hid (HNEW.out (.inl (by rw [hj0]; rfl)))
            clear hj0 HNEW
            go_wp2_with (first
              | (at_builtin; refine app_pair _ rfl (.tmp 58) (.tmp 61) _ rfl w2.heap.size 39 bin_info Try.underlying28 u9 _ rfl (HI.out.1.alloc _) x 0 _ rfl (by simp [go_sem]) (by simp [go_sem]) (by have := hrl.out; omega) (by have := HI.out.2.size; simp; omega) ?_
                 intro v' w' hown' hgrow
                 have HB1 := Lib.hid ((HI.out.1.alloc _).grow (HI.out.2.alloc HI.out.2.size _) hgrow (by have := HI.out.2.size; simp; omega) (Nat.le_refl _))
                 obtain ⟨g, N, cap, rfl, n1, n2, n3, n4, n5, n6, n7, HO⟩ := HFIN.out _ 0 v' w' (by omega) (by omega) hown' hrl.out
                 clear hown' hgrow)
              | fail)
            go_roundw
            case rel => exact ⟨j + 1, by omega, by go_num, ⟨by rw [HST.out, HS.out]; exact HO.out.1, HB1.out.setCell HO.out.2 _⟩⟩
            case measure => simp [intOf]; omega
          · have b0 : ((j : Int) == 0) = false := by simp; omega
            obtain ⟨ad2, y, he, _, HY, hy, _⟩ := (HN.out.keep HI.out.2 HI.out.2.size).val (show j - 1 < N1 by omega)
            injection he with he
            subst he
            have hj1 : 1 ≤ j := by omega
            have i1 : (1 : Int) ≤ j := by omega
            have i3 : ((j : Int) - 1).toNat = j - 1 := by omega
            have i5 : (j : Int) - 1 < N1 := by omega
            have i6 : (0 : Int) ≤ (j : Int) - 1 := by omega
            have hlast : ((Pb.srt F).take j).getLast? = some y := by
              rw [show j = (j - 1) + 1 from by omega, take_succ_getD (Pb.srt F) (j - 1) HY.out.2, HY.out.1]; simp
            obtain ⟨R, k, hR, hk0, hk1⟩ := Pb.runs_last hsj hlast
            have hk2 : k ≤ 200 := by rw [List.length_take] at hk1; omega
            have hRl : R.length ≤ 200 := by have := hrl.out; rw [hR, List.length_append] at this; omega
            by_cases hxy : x = y
            · have b1 : (x != y) = false := by simpa using hxy
              have hs : Pb.step (Pb.runs ((Pb.srt F).take j)) x = R ++ [(x, k + 1)] := by rw [hR]; unfold Pb.step; simp [hxy]
              have HS := Lib.hid hs
              have ho := HI.out.1
              rw [hR, ← hxy] at ho
              obtain ⟨g, N, cap, rfl, n1, n2, n3, n4, n5, n6, n7, HO⟩ := HFIN.out R k _ wr hk0 (by omega) ho hRl
              clear hs ho hR hlast hj0 HNEW hxy hsj
              go_wp2_with fail
              go_roundw
              case rel => exact ⟨j + 1, by omega, by go_num, ⟨by rw [HST.out, HS.out]; exact HO.out.1, HI.out.2.setCell HO.out.2 _⟩⟩
              case measure => simp [intOf]; omega
            · have b1 : (x != y) = true := by simpa using hxy
              have HS := Lib.hid (HNEW.out (.inr ⟨R, y, k, hR, hxy⟩))
              clear hR hlast hj0 HNEW hxy hsj hk0 hk1 hk2 hRl
              go_wp2_with (first
                | (at_builtin; refine app_pair _ rfl (.tmp 58) (.tmp 61) _ rfl w2.heap.size 39 bin_info Try.underlying28 u9 _ rfl (HI.out.1.alloc _) x 0 _ rfl (by simp [go_sem]) (by simp [go_sem]) (by have := hrl.out; omega) (by have := HI.out.2.size; simp; omega) ?_
                   intro v' w' hown' hgrow
                   have HB1 := Lib.hid ((HI.out.1.alloc _).grow (HI.out.2.alloc HI.out.2.size _) hgrow (by have := HI.out.2.size; simp; omega) (Nat.le_refl _))
                   obtain ⟨g, N, cap, rfl, n1, n2, n3, n4, n5, n6, n7, HO⟩ := HFIN.out _ 0 v' w' (by omega) (by omega) hown' hrl.out
                   clear hown' hgrow)
                | fail)
              go_roundw
              case rel => exact ⟨j + 1, by omega, by go_num, ⟨by rw [HST.out, HS.out]; exact HO.out.1, HB1.out.setCell HO.out.2 _⟩⟩
              case measure => simp [intOf]; omega
        · obtain rfl : j = N1 := by omega
          have ho := HI.out.1
          rw [take_len hN1.out.symm, Pb.runs_srt] at ho
          have HO := Lib.hid ho
          clear ho
          go_wp2_with fail
          go_ret2
          exact ⟨_, rfl, HO.out.base_le HB2.out.size, HB2.out.trans (HI.out.2.mono HB2.out.size)⟩
end Go.Proofs.Ytaalgjeffidedaa
