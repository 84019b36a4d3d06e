/- Journals: the walk of what is said of a file that is cut off at any byte. -/
import Derived.Test.YtjhdhnefoclccaaJt0
namespace Go.Proofs.Ytjhdhnefoclccaa
open Go.RowKit
set_option maxRecDepth 100000 in
set_option maxHeartbeats 800000 in
theorem walkTears (W : World) (A : Option Addr) (n c : Nat) (l : List Int) (h : Nums W .u8 W.heap.size A n c l) (B : Option Addr) (m d : Nat) (p : List Int) (hp : Nums W .u8 W.heap.size B m d p) (cutAt : Int) (lo : 0 ≤ cutAt) (hi : cutAt ≤ 65535) :
    Calls Try.prog 5 #[.slice A n c, .slice B m d, .int .u16 cutAt] W fun e w => e = .returned (.bool true) ∧ Below W.heap.size W w := by
  have H := Lib.hid h
  have HP := Lib.hid hp
  have HC := Lib.hid (And.intro lo hi)
  clear h hp lo hi
  rcases Nat.lt_or_ge 300 n with hn | hn
  · have hn' : (300 : Int) < n := by omega
    clear hn
    go_enter Try.func5, Try.ntmps5
    go_wp2_with fail
    refine (awake23 _).mono ?_; rintro e w1 ⟨rfl, hb⟩
    go_wp2
    go_ret
    exact ⟨rfl, hb⟩
  · have hn' : (n : Int) ≤ 300 := by omega
    rcases Nat.lt_or_ge 300 m with hm | hm
    · have hm' : (300 : Int) < m := by omega
      clear hn hm
      go_enter Try.func5, Try.ntmps5
      go_wp2_with fail
      refine (awake23 _).mono ?_; rintro e w1 ⟨rfl, hb⟩
      go_wp2
      go_ret
      exact ⟨rfl, hb⟩
    · have hm' : (m : Int) ≤ 300 := by omega
      have HS := Lib.hid (And.intro hn hm)
      clear hn hm
      go_enter Try.func5, Try.ntmps5
      go_wp2_with fail
      all_goals first | (exfalso; omega) | skip
      refine (frame23 A n c l W H.out (by have := HS.out; omega)).mono ?_
      rintro e w1 ⟨v1, rfl, hown1, hb1⟩
      obtain ⟨A1, N1, c1, rfl, hN1, hn1⟩ := hown1.numsN (Jn.frame_wf H.out.wf)
      have HN1 := Lib.hid hn1
      have HB1 := Lib.hid hb1
      clear hown1 hn1 hb1
      go_wp2_with fail
      refine (frame23 B m d p w1 (HP.out.keep HB1.out HB1.out.size) (by have := HS.out; omega)).mono ?_
      rintro e w2 ⟨v2, rfl, hown2, hb2⟩
      obtain ⟨A2, N2, c2, rfl, hN2, hn2⟩ := hown2.numsN (Jn.frame_wf HP.out.wf)
      have HN2 := Lib.hid hn2
      have HB2 := Lib.hid (HB1.out.trans (hb2.mono HB1.out.size))
      have HNB := Lib.hid (HN1.out.keep hb2 hb2.size)
      have HL1 := Lib.hid (show N1 = n + 8 by rw [hN1.out, Jn.frame_len, H.out.len])
      have HL2 := Lib.hid (show N2 = m + 8 by rw [hN2.out, Jn.frame_len, HP.out.len])
      clear hown2 hn2 hb2 HN1 HB1
      have hE : Below w2.heap.size w2 (w2.alloc (.cells #[] 5)) := (Below.refl _ _).alloc (Nat.le_refl _) _
      have HE := Lib.hid hE
      clear hE
      go_wp2_with (at_builtin; first
        | (refine app_ints _ rfl (.tmp 37) (.tmp 38) _ rfl w2.heap.size 5 1 .u8 byte_info Try.underlying22 (.slice (some ⟨w2.heap.size, 0, none⟩) 0 0) [] rfl (Own.empty w2 _ _) _ A1 N1 c1 (Jn.frame l) rfl (HNB.out.keep HE.out HE.out.size) (by have := HS.out; have := HL1.out; simp only [List.length_nil, maxLen]; omega) (by have := HS.out; have := HL1.out; simp only [List.length_nil]; omega) HE.out.size ?_
           intro v3 w3 hown3 hgrow3
           have HB3 := Lib.hid (Own.grow (Own.empty w2 5 .u8) HE.out hgrow3 HE.out.size (Nat.le_refl _)))
        | (refine app_ints _ rfl (.tmp 39) (.tmp 40) _ rfl w2.heap.size 5 1 .u8 byte_info Try.underlying22 _ _ rfl hown3 _ A2 N2 c2 (Jn.frame p) rfl (HN2.out.keep HB3.out HB3.out.size) (by have := HS.out; have := HL1.out; have := HL2.out; have := HNB.out.len; simp only [List.nil_append, maxLen]; omega) (by have := HS.out; have := HL1.out; have := HL2.out; have := HNB.out.len; simp only [List.nil_append]; omega) HB3.out.size ?_
           intro v4 w4 hown4 hgrow4
           have HB4 := Lib.hid (Own.grow hown3 HB3.out hgrow4 HB3.out.size (Nat.le_refl _))
           rw [List.nil_append] at hown4
           clear hgrow4 hgrow3 hown3
           obtain ⟨A4, N4, c4, rfl, hN4, hn4⟩ := hown4.numsN (fun x hx => (List.mem_append.1 hx).elim (HNB.out.wf x) (HN2.out.wf x))
           have HN4 := Lib.hid hn4
           have hN4' : N4 = n + 8 + (m + 8) := by rw [hN4.out, List.length_append, HNB.out.len, HN2.out.len, HL1.out, HL2.out]
           obtain ⟨K, hK, hKN, hw1, hw2, hw3⟩ := Jn.cutAt cutAt N4 HC.out.1 HC.out.2 (by have := HS.out; omega)
           have hK0 : (0 : Int) ≤ K := by omega
           have hKc : (K : Int) ≤ c4 := by have := HN4.out.cap; omega
           have hNz : ¬ ((N4 : Int) + 1 = 0) := by omega
           have HK := Lib.hid (And.intro hKN hN4')
           have HF4 := Lib.hid hN4'
           clear hN4 hn4 hown4 hKN hN4'))
      have HNK := Lib.hid (HN4.out.pre (k := K) HK.out.1)
      have HBW := Lib.hid (HB2.out.trans (HB4.out.mono HB2.out.size))
      generalize hLK : (Jn.frame l ++ Jn.frame p).take K = LK at *
      have HLK := Lib.hid hLK
      clear hLK
      refine (read23 A4 K c4 LK w4 HNK.out (by have := HK.out; have := HS.out; omega)).mono ?_
      rintro e w5 ⟨v5, rfl, hrows5, hb5⟩
      generalize hR : Jn.read LK = R at *
      have HR := Lib.hid hR
      obtain ⟨A5, c5, rfl, _, hc5⟩ := hrows5.read
      have HC5 := Lib.hid hc5
      have HB5 := Lib.hid hb5
      clear hrows5 hc5 hb5 hR
      generalize hr1 : R.1.length = r1 at *
      generalize hr2 : R.2 = r2 at *
      have HR1 := Lib.hid hr1
      have HR2 := Lib.hid hr2
      clear hr1 hr2
      go_wp2_with fail
      refine (append_code A4 A K c4 n c LK l w5 (HNK.out.keep HB5.out HB5.out.size) (H.out.keep (HBW.out.trans (HB5.out.mono HBW.out.size)) (HBW.out.trans (HB5.out.mono HBW.out.size)).size) (by have := HK.out; have := HS.out; omega) (by have := HS.out; omega)).mono ?_
      rintro e w6 ⟨A6, n6, c6, rfl, hb6⟩
      have HB6 := Lib.hid hb6
      have HCO := Lib.hid (show Jn.code LK K = if r2 = K then 0 else 40 by rw [Jn.code, HR.out, HR2.out])
      generalize Jn.code LK K = code at *
      have HB6a := HB6
      have HB6 := Lib.hid (HBW.out.trans ((HB5.out.trans (HB6a.out.mono HB5.out.size)).mono HBW.out.size))
      clear hb6 HNK HB2 HB3 HB4 HE HN4
      rcases Nat.lt_or_ge K N1 with hk | hk
      · have hR' : R = ([], 0) := by
          rw [← HR.out, ← HLK.out]; exact Jn.cut_one (by rw [H.out.len]; have := HS.out; omega) (by rw [H.out.len, ← HL1.out]; exact hk)
        have h1 : r1 = 0 := by rw [← HR1.out, hR']; rfl
        have h2 : r2 = 0 := by rw [← HR2.out, hR']
        subst h1 h2
        clear hR' HR HR1 HR2 HC5
        have k1 : (K : Int) < N1 := by omega
        have k2 : ((K : Int) == (N4 : Int)) = false := by have := HK.out.2; have := HL1.out; simp; omega
        have k3 : ¬ (K : Int) = (N4 : Int) := by have := HK.out.2; have := HL1.out; omega
        by_cases hz : K = 0
        · have hc : code = 0 := by rw [HCO.out, if_pos hz.symm]
          subst hc hz
          clear HCO
          clear hk
          go_wp2_with fail
          obtain ⟨W7, hW7⟩ : ∃ W7, w6.alloc (.cells #[.slice A4 0 c4, .slice A6 n6 c6] 29) = W7 := ⟨_, rfl⟩
          rw [hW7]
          have hbox : Below w6.heap.size w6 W7 := by rw [← hW7]; exact (Below.refl w6.heap.size w6).alloc (Nat.le_refl _) _
          have HBX := Lib.hid (HB6.out.trans (hbox.mono HB6.out.size))
          clear hbox hW7
          refine wp_region_aft (by kernel_rfl) (by kernel_rfl) ?_
          repeat (go_big_quiet_step (first | with_reducible exact Calls.aft (awake23 _)))
          refine wpQuiet_nil ?_
          rintro _ ⟨⟨w9, hb9⟩, rfl⟩
          go_wp2
          go_ret
          exact ⟨rfl, HBX.out.trans (hb9.mono HBX.out.size)⟩
        · have hc : code = 40 := by rw [HCO.out, if_neg (fun h => hz h.symm)]
          subst hc
          clear HCO
          have z1 : ((0 : Int) == (K : Int)) = false := by simp; omega
          have z2 : ((0 : Int) != (K : Int)) = true := by simp; omega
          have z3 : ¬ (0 : Int) = (K : Int) := by omega
          clear hz
          clear hk
          go_wp2_with fail
          obtain ⟨W7, hW7⟩ : ∃ W7, w6.alloc (.cells #[.slice A4 K c4, .slice A6 n6 c6] 29) = W7 := ⟨_, rfl⟩
          rw [hW7]
          have hbox : Below w6.heap.size w6 W7 := by rw [← hW7]; exact (Below.refl w6.heap.size w6).alloc (Nat.le_refl _) _
          have HBX := Lib.hid (HB6.out.trans (hbox.mono HB6.out.size))
          clear hbox hW7
          refine wp_region_aft (by kernel_rfl) (by kernel_rfl) ?_
          repeat (go_big_quiet_step (first | with_reducible exact Calls.aft (awake23 _)))
          refine wpQuiet_nil ?_
          rintro _ ⟨⟨w9, hb9⟩, rfl⟩
          go_wp2
          go_ret
          exact ⟨rfl, HBX.out.trans (hb9.mono HBX.out.size)⟩
      · rcases Nat.lt_or_ge K N4 with hk4 | hk4
        · have hR' : R = ([l], l.length + 8) := by
            rw [← HR.out, ← HLK.out]
            exact Jn.cut_two (by rw [H.out.len]; have := HS.out; omega) (by rw [HP.out.len]; have := HS.out; omega) (by rw [H.out.len, ← HL1.out]; exact hk) (by rw [H.out.len, HP.out.len, ← HF4.out]; exact hk4)
          have h1 : r1 = 1 := by rw [← HR1.out, hR']; rfl
          have h2 : r2 = N1 := by rw [← HR2.out, hR', HL1.out, H.out.len]
          subst h1 h2
          obtain ⟨g, vi, rfl, hg, hcell, howni⟩ := HC5.out 0 (by omega)
          rw [show R.1.getD 0 [] = l from by rw [hR']; rfl] at howni
          obtain ⟨Ai, Ni, ci, rfl, hNi, hni⟩ := howni.numsN H.out.wf
          clear hR' HR HR1 HR2 HC5 howni hg
          have k1 : (r2 : Int) ≤ K := by omega
          have k2 : ((K : Int) == (N4 : Int)) = false := by simp; omega
          have k3 : ¬ (K : Int) = (N4 : Int) := by omega
          clear hk4
          by_cases hz : K = r2
          · have hc : code = 0 := by rw [HCO.out, if_pos hz.symm]
            subst hc hz
            clear HCO
            clear hk
            go_wp2_with fail
            obtain ⟨W7, hW7⟩ : ∃ W7, w6.alloc (.cells #[.slice A4 K c4, .slice A6 n6 c6] 29) = W7 := ⟨_, rfl⟩
            rw [hW7]
            have hbox : Below w6.heap.size w6 W7 := by rw [← hW7]; exact (Below.refl w6.heap.size w6).alloc (Nat.le_refl _) _
            have HBX := Lib.hid (HB6.out.trans (hbox.mono HB6.out.size))
            have d1 := Aft.cell (below_cell hbox (below_cell HB6a.out hcell))
            have hni' := (hni.keep HB6a.out HB6a.out.size).keep hbox hbox.size
            have hp' := H.out.keep HBX.out HBX.out.size
            have s1 : ∀ x : Aft W7, (convert 22 9 (.slice Ai Ni ci)).run Try.prog x.now = .ok (.string (strOfNums l)) x.now := fun x => (hni'.aft x).str _ _ _ Try.underlying22 Try.underlying5 Try.underlying9
            have s2 : ∀ x : Aft W7, (convert 22 9 (.slice A n c)).run Try.prog x.now = .ok (.string (strOfNums l)) x.now := fun x => (hp'.aft x).str _ _ _ Try.underlying22 Try.underlying5 Try.underlying9
            clear hni' hp' hni hcell
            clear hbox hW7
            refine wp_region_aft (by kernel_rfl) (by kernel_rfl) ?_
            repeat (go_big_quiet_step (first | with_reducible exact Calls.aft (awake23 _)))
            refine wpQuiet_nil ?_
            rintro _ ⟨⟨w9, hb9⟩, rfl⟩
            go_wp2
            go_ret
            exact ⟨rfl, HBX.out.trans (hb9.mono HBX.out.size)⟩
          · have hc : code = 40 := by rw [HCO.out, if_neg (fun h => hz h.symm)]
            subst hc
            clear HCO
            have z1 : ((r2 : Int) == (K : Int)) = false := by simp; omega
            have z2 : ((r2 : Int) != (K : Int)) = true := by simp; omega
            have z3 : ¬ (r2 : Int) = (K : Int) := by omega
            clear hz
            clear hk
            go_wp2_with fail
            obtain ⟨W7, hW7⟩ : ∃ W7, w6.alloc (.cells #[.slice A4 K c4, .slice A6 n6 c6] 29) = W7 := ⟨_, rfl⟩
            rw [hW7]
            have hbox : Below w6.heap.size w6 W7 := by rw [← hW7]; exact (Below.refl w6.heap.size w6).alloc (Nat.le_refl _) _
            have HBX := Lib.hid (HB6.out.trans (hbox.mono HB6.out.size))
            have d1 := Aft.cell (below_cell hbox (below_cell HB6a.out hcell))
            have hni' := (hni.keep HB6a.out HB6a.out.size).keep hbox hbox.size
            have hp' := H.out.keep HBX.out HBX.out.size
            have s1 : ∀ x : Aft W7, (convert 22 9 (.slice Ai Ni ci)).run Try.prog x.now = .ok (.string (strOfNums l)) x.now := fun x => (hni'.aft x).str _ _ _ Try.underlying22 Try.underlying5 Try.underlying9
            have s2 : ∀ x : Aft W7, (convert 22 9 (.slice A n c)).run Try.prog x.now = .ok (.string (strOfNums l)) x.now := fun x => (hp'.aft x).str _ _ _ Try.underlying22 Try.underlying5 Try.underlying9
            clear hni' hp' hni hcell
            clear hbox hW7
            refine wp_region_aft (by kernel_rfl) (by kernel_rfl) ?_
            repeat (go_big_quiet_step (first | with_reducible exact Calls.aft (awake23 _)))
            refine wpQuiet_nil ?_
            rintro _ ⟨⟨w9, hb9⟩, rfl⟩
            go_wp2
            go_ret
            exact ⟨rfl, HBX.out.trans (hb9.mono HBX.out.size)⟩
        · have hR' : R = ([l, p], l.length + 8 + (p.length + 8)) := by
            rw [← HR.out, ← HLK.out]
            exact Jn.cut_all (by rw [H.out.len]; have := HS.out; omega) (by rw [HP.out.len]; have := HS.out; omega) (by rw [H.out.len, HP.out.len, ← HF4.out]; exact hk4)
          have h1 : r1 = 2 := by rw [← HR1.out, hR']; rfl
          have h2 : r2 = K := by rw [← HR2.out, hR', H.out.len, HP.out.len, ← HF4.out]; have := HK.out.1; omega
          have h3 : N4 = K := by have := HK.out.1; omega
          subst h1 h2
          obtain ⟨g, vi, rfl, hg, hcell, howni⟩ := HC5.out 0 (by omega)
          rw [show R.1.getD 0 [] = l from by rw [hR']; rfl] at howni
          obtain ⟨Ai, Ni, ci, rfl, hNi, hni⟩ := howni.numsN H.out.wf
          have hc : code = 0 := by rw [HCO.out, if_pos rfl]
          subst hc h3
          clear hR' HR HR1 HR2 HC5 howni hg HCO
          have k1 : (N1 : Int) ≤ N4 := by omega
          clear hk4
          clear hk
          go_wp2_with fail
          obtain ⟨W7, hW7⟩ : ∃ W7, w6.alloc (.cells #[.slice A4 N4 c4, .slice A6 n6 c6] 29) = W7 := ⟨_, rfl⟩
          rw [hW7]
          have hbox : Below w6.heap.size w6 W7 := by rw [← hW7]; exact (Below.refl w6.heap.size w6).alloc (Nat.le_refl _) _
          have HBX := Lib.hid (HB6.out.trans (hbox.mono HB6.out.size))
          have d1 := Aft.cell (below_cell hbox (below_cell HB6a.out hcell))
          have hni' := (hni.keep HB6a.out HB6a.out.size).keep hbox hbox.size
          have hp' := H.out.keep HBX.out HBX.out.size
          have s1 : ∀ x : Aft W7, (convert 22 9 (.slice Ai Ni ci)).run Try.prog x.now = .ok (.string (strOfNums l)) x.now := fun x => (hni'.aft x).str _ _ _ Try.underlying22 Try.underlying5 Try.underlying9
          have s2 : ∀ x : Aft W7, (convert 22 9 (.slice A n c)).run Try.prog x.now = .ok (.string (strOfNums l)) x.now := fun x => (hp'.aft x).str _ _ _ Try.underlying22 Try.underlying5 Try.underlying9
          clear hni' hp' hni hcell
          clear hbox hW7
          refine wp_region_aft (by kernel_rfl) (by kernel_rfl) ?_
          repeat (go_big_quiet_step (first | with_reducible exact Calls.aft (awake23 _)))
          refine wpQuiet_nil ?_
          rintro _ ⟨⟨w9, hb9⟩, rfl⟩
          go_wp2
          go_ret
          exact ⟨rfl, HBX.out.trans (hb9.mono HBX.out.size)⟩
end Go.Proofs.Ytjhdhnefoclccaa
