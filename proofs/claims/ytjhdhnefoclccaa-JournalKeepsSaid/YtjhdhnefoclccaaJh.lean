/- Journals: what was appended and synced is recovered. -/
import Derived.Test.YtjhdhnefoclccaaJh0
import Derived.Test.YtjhdhnefoclccaaJe
import Derived.Test.YtjhdhnefoclccaaOpm
namespace Go.Proofs.Ytjhdhnefoclccaa
open Go.RowKit
/-- what lies in the box of the file that goes on -/
def Keeps (W : World) (ls : List (List Int)) (k : Nat) (wr : World) : Prop :=
  ∃ Af nf cf, wr.cell? ⟨W.heap.size, 0, none⟩ = some (.slice Af nf cf) ∧ wr.cell? ⟨W.heap.size, 1, none⟩ = some (.slice none 0 0) ∧ wr.frozen? ⟨W.heap.size, 0, none⟩ = false ∧ wr.frozen? ⟨W.heap.size, 1, none⟩ = false ∧
    Nums wr .u8 wr.heap.size Af nf cf (Jn.joins (ls.take k)) ∧ Below W.heap.size W wr ∧ ∀ p ∈ ls.take k, p.length ≤ 300
theorem box4r {w w' : World} {f t : Nat} {v0 v1 : Value} (hb : Below w.heap.size w w') (h : w.heap[f]? = some (.cells #[v0, v1] t (0, 0))) :
    w'.cell? ⟨f, 0, none⟩ = some v0 ∧ w'.cell? ⟨f, 1, none⟩ = some v1 ∧ w'.frozen? ⟨f, 0, none⟩ = false ∧ w'.frozen? ⟨f, 1, none⟩ = false ∧ f < w.heap.size := box4 h hb
theorem after_store {K : Act → World → Prop} {Q : Exit → Act → World → Prop} {a : Act} {wr X : World} {A4 : Option Addr} {N4 c4 : Nat} {L : List Int}
    (hn : Nums X .u8 X.heap.size A4 N4 c4 L) (hB : Below wr.heap.size wr X) (k : Nums X .u8 X.heap.size A4 N4 c4 L → Below wr.heap.size wr X → Exit.then K Q .normal a X) : Exit.then K Q .normal a X := k hn hB
theorem Own.numsAt {w : World} {base : Nat} {e : TypeId} {k : IntKind} {A : Option Addr} {N c : Nat} {l : List Int} (h : Own w base e k (.slice A N c) l) (hw : ∀ x ∈ l, (Lit.int k x).wf = true) : Nums w k w.heap.size A N c l := by
  obtain ⟨A', c', hv, hn⟩ := h.nums hw
  injection hv with h1 h2 h3
  subst h1 h2 h3
  exact hn
set_option maxRecDepth 100000 in
set_option maxHeartbeats 1600000 in
theorem walkKeeps (W : World) (A : Option Addr) (n c : Nat) (ls : List (List Int)) (h : NumRows W .u8 W.heap.size A n c ls) (B : Option Addr) (m d : Nat) (p : List Int) (hp : Nums W .u8 W.heap.size B m d p) (keep : Int) (_ : -9223372036854775808 ≤ keep) (_ : keep ≤ 9223372036854775807) :
    Calls Try.prog 4 #[.slice A n c, .slice B m d, .int .i64 keep] W fun e w => e = .returned (.bool true) ∧ Below W.heap.size W w := by
  have H := Lib.hid h
  have HP := Lib.hid hp
  clear h hp
  go_enter Try.func4, Try.ntmps4
  go_wp2_with fail
  go_loopw [8, 9, 10, 11] (fun a i _ _ wr => ∃ k : Nat, k ≤ n ∧ k ≤ 12 ∧ a = .int .i64 k ∧ i = .int .i64 k ∧ Hid (Keeps W ls k wr)) (fun _ i _ _ _ => n - (intOf i).toNat)
  case atStart =>
    refine ⟨0, by omega, by omega, rfl, rfl, Lib.hid ⟨none, 0, 0, ?_, ?_, ?_, ?_, Nums.nil _ _ _, (Below.refl _ _).alloc (Nat.le_refl _) _, by simp⟩⟩ <;> simp [go_sem]
  case round =>
    obtain ⟨k, hkn, hk12, rfl, rfl, HI⟩ := hrel
    by_cases hk : k < n ∧ k < 12
    · obtain ⟨ad, rfl, hadb, hrow⟩ := H.out.cells (by omega)
      obtain ⟨Aj, nj, cj, hcj, hnj⟩ := hrow k hk.1
      obtain ⟨Af, nf, cf, q0, q1, z0, z1, hnf, hbw, hle⟩ := HI.out
      have hcj' : wr.cell? (ad.add k) = some (.slice Aj nj cj) := by rw [hbw.cell (by rw [add_block]; exact hadb)]; exact hcj
      have HNJ := Lib.hid (hnj.keep hbw hbw.size)
      have HNF := Lib.hid hnf
      have HBW := Lib.hid hbw
      have HLE := Lib.hid hle
      have HQ := Lib.hid (And.intro q0 (And.intro q1 (And.intro z0 z1)))
      have hk1 : (k : Int) < n := by omega
      have hk2 : (k : Int) < 12 := by omega
      have hk0 : (0 : Int) ≤ k := by omega
      have HK := Lib.hid hk
      clear hk hrow hcj hnj hnf hbw hle q0 q1 z0 z1 hkn hk12
      by_cases hj : 300 < nj
      · have hj' : (300 : Int) < nj := by omega
        clear hj
        go_wp2_with fail
        refine (awake23 _).mono ?_; rintro e w1 ⟨rfl, hb⟩
        go_wp2
        go_ret
        exact ⟨rfl, HBW.out.trans (hb.mono HBW.out.size)⟩
      · have hj' : (nj : Int) ≤ 300 := by omega
        have HJ := Lib.hid hj
        clear hj
        have hq0 : ∀ w', Below wr.heap.size wr w' → w'.cell? ⟨W.heap.size, 0, none⟩ = some (.slice Af nf cf) := fun w' hb => below_cell hb HQ.out.1
        have hq1 : ∀ w', Below wr.heap.size wr w' → w'.cell? ⟨W.heap.size, 1, none⟩ = some (.slice none 0 0) := fun w' hb => below_cell hb HQ.out.2.1
        have hqr : ∀ w', Below wr.heap.size wr w' → w'.cell? (ad.add k) = some (.slice Aj nj cj) := fun w' hb => below_cell hb hcj'
        have hpl : ∀ q ∈ ls.take k, q.length ≤ 4096 := fun q hq => by have := HLE.out q hq; omega
        have hrd := Jn.read_joins (ls.take k) hpl []
        rw [List.append_nil] at hrd
        have HRD := Lib.hid (show (Jn.read (Jn.joins (ls.take k))).2 = nf by rw [hrd, ← HNF.out.len]; rfl)
        have hjl := Jn.joins_len 300 (ls.take k) HLE.out
        have HSZ := Lib.hid (show nf ≤ 4000 by have := HNF.out.len; have h12 := HK.out.2; rw [List.length_take] at hjl; have : min k ls.length ≤ 12 := by omega
                                               have := Nat.mul_le_mul_left 308 this; omega)
        have HFW := Lib.hid (Jn.frame_wf HNJ.out.wf)
        clear hpl hrd hjl
        go_wp2_with fail
        go_region_held3 (fun w' => Below wr.heap.size wr w')
          (first | assumption | (exact below_of_drawn 1) | (exact Below.alloc (by assumption) (by first | exact Below.size (by assumption) | (simp; done)) _) | (exact Below.drewN ((Below.refl _ _).alloc (Nat.le_refl _) _) 1) | (exact hbel4) | (exact Below.drewN (by assumption) 1) | (refine Below.setCell (Below.setCell (by assumption) (by first | omega | exact Below.size (by assumption) | (simp; done)) _) (by first | omega | exact Below.size (by assumption) | (simp; done)) _))
          (first
            | ((go_at_call 13)
               (refine (append_ok Af none Aj nf cf 0 0 nj cj (Jn.joins (ls.take k)) [] (ls.getD k []) _ (HNF.out.keep (by assumption) (Below.size (by assumption))) (Nums.nil _ _ _) (HNJ.out.keep (by assumption) (Below.size (by assumption))) HRD.out (by have := HSZ.out; have := HJ.out; omega) (by have := HJ.out; omega)).mono ?_)
               rintro e w4 ⟨v4, rfl, hown4, hb4⟩
               rw [List.nil_append] at hown4
               have hbel4 : Below wr.heap.size wr w4 := Below.trans (by assumption) (hb4.mono (Below.size (by assumption)))
               obtain ⟨A4, N4, c4, rfl, hN4, hn4⟩ := hown4.numsN HFW.out
               first
                 | have hbox := box4r (f := wr.heap.size) (t := 29) (v0 := .slice none 0 0) (v1 := .slice none 0 0) hb4 (heap_alloc_new wr (.cells #[.slice none 0 0, .slice none 0 0] 29))
                 | skip
               try obtain ⟨p0, p1, p2, p3, p4⟩ := hbox))
        all_goals
          refine after_store (wr := wr) (A4 := A4) (N4 := N4) (c4 := c4) (L := Jn.frame (ls.getD k [])) (by first | exact Own.numsAt ((hown4.setCell p4 _).setCell p4 _) HFW.out | exact hn4.keep ((Below.refl _ _).alloc (Nat.le_refl _) _) (by simp)) (by assumption) ?_
          intro hnX hbX
          clear hq0 hq1 hqr hn4 hown4 hbel4 hb4
          go_wp2_with fail
          refine (sync23 Af A4 nf cf N4 c4 (Jn.joins (ls.take k)) (Jn.frame (ls.getD k [])) _ (HNF.out.keep hbX hbX.size) hnX (by have := HSZ.out; have := HJ.out; have := hN4.out; rw [Jn.frame_len, HNJ.out.len] at this; omega)).mono ?_
          rintro e w5 ⟨v5, rfl, hown5, hb5⟩
          have HB5 := Lib.hid (hbX.trans (hb5.mono hbX.size))
          have hwlt : W.heap.size < wr.heap.size := World.block_lt_of_cell? wr _ HQ.out.1
          have HOB := Lib.hid (hown5.base_le hbX.size)
          have g0 := below_cell HB5.out HQ.out.1
          have g1 := below_cell HB5.out HQ.out.2.1
          have f0 := below_frozen HB5.out HQ.out.1 HQ.out.2.2.1
          have f1 := below_frozen HB5.out HQ.out.2.1 HQ.out.2.2.2
          have hwf5 : ∀ x ∈ Jn.joins (ls.take k) ++ Jn.frame (ls.getD k []), (Lit.int .u8 x).wf = true := fun x hx => (List.mem_append.1 hx).elim (HNF.out.wf x) (HFW.out x)
          obtain ⟨A5, N5, c5, rfl, hN5, hn5⟩ := hown5.numsN hwf5
          clear hown5 hnX hbX hb5 hn5
          go_wp2_with fail
          go_roundw
          case rel =>
            have hkl : k < ls.length := by have := H.out.len; have := HK.out.1; omega
            have ht : ls.take (k + 1) = ls.take k ++ [ls.getD k []] := by rw [List.take_succ_eq_append_getElem hkl]; simp [List.getD, List.getElem?_eq_getElem hkl]
            refine ⟨k + 1, by have := HK.out.1; omega, by have := HK.out.2; omega, by go_num, by go_num, Lib.hid ⟨A5, N5, c5, ?_, ?_, ?_, ?_, ?_, ?_, ?_⟩⟩
            · simp [go_sem, *]
            · simp [go_sem, *]
            · simp [go_sem, *]
            · simp [go_sem, *]
            · rw [ht, Jn.joins_snoc]
              exact Own.numsAt ((HOB.out.setCell hwlt _).setCell hwlt _) hwf5
            · exact Below.setCell (Below.setCell (HBW.out.trans (HB5.out.mono HBW.out.size)) (Nat.le_refl _) _) (Nat.le_refl _) _
            · intro q hq
              rw [ht] at hq
              rcases List.mem_append.1 hq with hq | hq
              · exact HLE.out q hq
              · rw [List.mem_singleton.1 hq, HNJ.out.len]; have := HJ.out; omega
          case measure => simp [intOf]; omega
    · obtain ⟨Af, nf, cf, q0, q1, z0, z1, hnf, hbw, hle⟩ := HI.out
      have HNF := Lib.hid hnf
      have HBW := Lib.hid hbw
      have HLE := Lib.hid hle
      have HQ := Lib.hid (And.intro q0 q1)
      have hpl : ∀ q ∈ ls.take k, q.length ≤ 4096 := fun q hq => by have := hle q hq; omega
      have hrd := Jn.read_joins (ls.take k) hpl []
      rw [List.append_nil] at hrd
      have HPL := Lib.hid hpl
      have HRD := Lib.hid (show (Jn.read (Jn.joins (ls.take k))).2 = nf by rw [hrd, ← HNF.out.len]; rfl)
      have hjl := Jn.joins_len 300 (ls.take k) hle
      have HSZ := Lib.hid (show nf ≤ 4000 by have := HNF.out.len; rw [List.length_take] at hjl; have : min k ls.length ≤ 12 := by omega
                                             have := Nat.mul_le_mul_left 308 this; omega)
      have HK := Lib.hid (And.intro hkn hk12)
      have hk0 : (0 : Int) ≤ k := by omega
      have hw1 : IntKind.i64.wrap ((k : Int) + 1) = (k : Int) + 1 := by simp [IntKind.wrap, IntKind.bits, IntKind.signed]; omega
      clear hnf hbw hle hpl hrd hjl hkn hk12 z0 z1
      rcases Nat.lt_or_ge 300 m with hm | hm
      · have hm' : (300 : Int) < m := by omega
        clear hm
        rcases Nat.lt_or_ge k n with hl | hl
        · have k1 : (k : Int) < n := by omega
          have k2 : ¬ (k : Int) < 12 := by omega
          clear hk hl
          go_wp2_with fail
          refine (awake23 _).mono ?_; rintro e w1 ⟨rfl, hb⟩
          go_wp2
          go_ret
          exact ⟨rfl, HBW.out.trans (hb.mono HBW.out.size)⟩
        · have k1 : ¬ (k : Int) < n := by omega
          clear hk hl
          go_wp2_with fail
          refine (awake23 _).mono ?_; rintro e w1 ⟨rfl, hb⟩
          go_wp2
          go_ret
          exact ⟨rfl, HBW.out.trans (hb.mono HBW.out.size)⟩
      · have hm' : (m : Int) ≤ 300 := by omega
        have HM := Lib.hid hm
        clear hm
        have hki : ¬ ((k : Int) < n ∧ (k : Int) < 12) := by omega
        clear hk
        go_wp2_with fail
        all_goals first | (exfalso; omega) | skip
        all_goals
          refine (append_ok Af none B nf cf 0 0 m d (Jn.joins (ls.take k)) [] p wr HNF.out (Nums.nil _ _ _) (HP.out.keep HBW.out HBW.out.size) HRD.out (by have := HSZ.out; have := HM.out; omega) (by have := HM.out; omega)).mono ?_
          rintro e w1 ⟨v1, rfl, hown1, hb1⟩
          rw [List.nil_append] at hown1
          obtain ⟨A1, N1, c1, rfl, hN1, hn1⟩ := hown1.numsN (Jn.frame_wf HP.out.wf)
          have HB1 := Lib.hid (HBW.out.trans (hb1.mono HBW.out.size))
          have HNF1 := Lib.hid (HNF.out.keep hb1 hb1.size)
          have HN1 := Lib.hid hn1
          have HL1 := Lib.hid (show N1 = m + 8 by rw [hN1.out, Jn.frame_len, HP.out.len])
          have HQ1 := Lib.hid (And.intro (below_cell hb1 HQ.out.1) (below_cell hb1 HQ.out.2))
          clear hown1 hn1 hb1 hN1
          go_wp2_with fail
          refine (crash23 Af A1 nf cf N1 c1 (Jn.joins (ls.take k)) (Jn.frame p) keep _ (HNF1.out.box (Below.refl _ _) _) (HN1.out.box (Below.refl _ _) _) (by have := HSZ.out; have := HL1.out; have := HM.out; omega)).mono ?_
          rintro e w2 ⟨v2, rfl, hown2, hb2⟩
          have HB2 := Lib.hid (below_box HB1.out _ hb2)
          have HB12 := Lib.hid (below_box (Below.refl _ _) _ hb2)
          have HRC := Lib.hid (Jn.read_crash HPL.out (q := p) (by rw [HP.out.len]; have := HM.out; omega) (Jn.cl keep N1))
          have hwf2 : ∀ x ∈ Jn.joins (ls.take k) ++ (Jn.frame p).take (Jn.cl keep N1), (Lit.int .u8 x).wf = true := fun x hx => (List.mem_append.1 hx).elim (HNF1.out.wf x) (fun hx => HN1.out.wf x (List.mem_of_mem_take hx))
          have hl2 : (Jn.joins (ls.take k) ++ (Jn.frame p).take (Jn.cl keep N1)).length ≤ 5000 := by
            have := HSZ.out; have := HL1.out; have := HM.out; have := HN1.out.len; have := HNF1.out.len; rw [List.length_append, List.length_take]; omega
          obtain ⟨A2, N2, c2, rfl, hN2, hn2⟩ := hown2.numsN hwf2
          have HN2 := Lib.hid hn2
          have HL2 := Lib.hid hl2
          clear hown2 hb2 hn2 hl2
          go_wp2_with fail
          refine (recover23 A2 none N2 c2 0 0 _ w2 HN2.out (by have := HL2.out; have := hN2.out; omega)).mono ?_
          rintro e w3 ⟨v3, v4, rfl, hown3, hrows3, hb3⟩
          have HB3 := Lib.hid (HB2.out.trans (hb3.mono HB2.out.size))
          have HB13 := Lib.hid (HB12.out.trans (hb3.mono HB12.out.size))
          have hkl : (ls.take k).length = k := by have := H.out.len; have := HK.out.1; rw [List.length_take]; omega
          have hrow : k ≤ (Jn.read (Jn.joins (ls.take k) ++ (Jn.frame p).take (Jn.cl keep N1))).1.length ∧ (Jn.read (Jn.joins (ls.take k) ++ (Jn.frame p).take (Jn.cl keep N1))).1.length ≤ k + 1 ∧ ∀ j, j < k → (Jn.read (Jn.joins (ls.take k) ++ (Jn.frame p).take (Jn.cl keep N1))).1.getD j [] = ls.getD j [] := by
            have hj : ∀ j, j < k → (ls.take k).getD j [] = ls.getD j [] := fun j hj => by simp [List.getD, hj]
            rcases HRC.out with ⟨_, hr⟩ | ⟨_, hr, _⟩
            · rw [hr]; exact ⟨by simp only; omega, by simp only; omega, hj⟩
            · rw [hr]
              refine ⟨by rw [List.length_append, hkl]; omega, by rw [List.length_append, hkl]; simp only [List.length_cons, List.length_nil]; omega, fun j h => ?_⟩
              rw [← hj j h]
              simp only [List.getD, List.getElem?_append_left (show j < (ls.take k).length by omega)]
          obtain ⟨A3, N3, c3, rfl, hN3, hn3⟩ := hown3.numsN (fun x hx => hwf2 x (List.mem_of_mem_take hx))
          have HN3 := Lib.hid hn3
          obtain ⟨A4, c4, rfl, _, hc4⟩ := hrows3.read
          have HC4 := Lib.hid hc4
          have HROW := Lib.hid hrow
          generalize hr : (Jn.read (Jn.joins (ls.take k) ++ (Jn.frame p).take (Jn.cl keep N1))).1.length = r at *
          have HR := Lib.hid hr
          have r1 : (k : Int) ≤ r := by omega
          have r2 : (r : Int) ≤ (k : Int) + 1 := by omega
          clear hown3 hrows3 hb3 hn3 hc4 hrow hr hwf2
          go_wp2_with fail
          all_goals first | (exfalso; omega) | skip
          obtain ⟨W3, hW3⟩ : ∃ W3, w3.alloc (.cells #[.slice A3 N3 c3, .slice none 0 0] 29) = W3 := ⟨_, rfl⟩
          rw [hW3]
          have HX := Lib.hid (show Below w3.heap.size w3 W3 by rw [← hW3]; exact (Below.refl _ _).alloc (Nat.le_refl _) _)
          have HH := Lib.hid (show W3.cell? ⟨w3.heap.size, 0, none⟩ = some (.slice A3 N3 c3) ∧ W3.cell? ⟨w3.heap.size, 1, none⟩ = some (.slice none 0 0) by rw [← hW3]; simp [go_sem])
          clear hW3
          have HY := Lib.hid (HB3.out.trans (HX.out.mono HB3.out.size))
          go_loopw [16] (fun i wr' => ∃ j : Nat, j ≤ k ∧ i = .int .i64 j ∧ Hid (Below W3.heap.size W3 wr')) (fun i _ => k - (intOf i).toNat)
          case atStart => exact ⟨0, by omega, rfl, Lib.hid (Below.refl _ _)⟩
          case round =>
            obtain ⟨j, hjk, rfl, HJ⟩ := hrel
            by_cases hj : j < k
            · obtain ⟨ad, rfl, hadb, hrow⟩ := H.out.cells (by have := HK.out.1; omega)
              obtain ⟨Aj, nj, cj, hcj, hnj⟩ := hrow j (by have := HK.out.1; omega)
              obtain ⟨g, vi, rfl, hg, hcell, howni⟩ := HC4.out j (by have := HROW.out.1; have := HR.out; omega)
              rw [HROW.out.2.2 j hj] at howni
              obtain ⟨Ai, Ni, ci, rfl, hNi, hni⟩ := howni.numsN hnj.wf
              have hb1 := HX.out.trans (HJ.out.mono HX.out.size)
              have hb2 := HY.out.trans (HJ.out.mono HY.out.size)
              have d1 := Aft.cell (below_cell hb1 hcell)
              have d2 := Aft.cell (below_cell hb2 hcj)
              have hni' := hni.keep hb1 hb1.size
              have hnj' := hnj.keep hb2 hb2.size
              have s1 : ∀ x : Aft wr, (convert 22 9 (.slice Ai Ni ci)).run Try.prog x.now = .ok (.string (strOfNums (ls.getD j []))) x.now := fun x => (hni'.aft x).str _ _ _ Try.underlying22 Try.underlying5 Try.underlying9
              have s2 : ∀ x : Aft wr, (convert 22 9 (.slice Aj nj cj)).run Try.prog x.now = .ok (.string (strOfNums (ls.getD j []))) x.now := fun x => (hnj'.aft x).str _ _ _ Try.underlying22 Try.underlying5 Try.underlying9
              have j0 : (0 : Int) ≤ j := by omega
              have j1 : (j : Int) < k := by omega
              have j2 : (j : Int) < r := by have := HROW.out.1; have := HR.out; omega
              have j3 : (j : Int) < n := by have := HK.out.1; omega
              have j4 : (j : Int) < 12 := by have := HK.out.2; omega
              have HJK := Lib.hid hj
              clear hni' hnj' hni hnj hcell hcj hrow hb1 hb2 howni hNi hg hj
              go_wp2_with fail
              refine wp_region_aft (by kernel_rfl) (by kernel_rfl) ?_
              repeat (go_big_quiet_step (fail))
              refine wpQuiet_nil ?_
              rintro _ ⟨⟨w9, hb9⟩, rfl⟩
              go_wp2_with fail
              go_roundw
              case rel => exact ⟨j + 1, by have := HJK.out; omega, by go_num, Lib.hid (HJ.out.trans (hb9.mono HJ.out.size))⟩
              case measure => simp [intOf]; have := HJK.out; omega
            · have hj' : ¬ (j : Int) < k := by omega
              clear hj
              have hbx := HX.out.trans (HJ.out.mono HX.out.size)
              have hby := HY.out.trans (HJ.out.mono HY.out.size)
              have hbz := HB13.out.trans (hbx.mono HB13.out.size)
              have hkl : (ls.take k).length = k := by have := H.out.len; have := HK.out.1; rw [List.length_take]; omega
              rcases Nat.lt_or_ge k r with hkr | hkr
              · have hpk : (Jn.read (Jn.joins (ls.take k) ++ (Jn.frame p).take (Jn.cl keep N1))).1.getD k [] = p := by
                  rcases HRC.out with ⟨_, hr⟩ | ⟨_, hr, _⟩
                  · have := HR.out; rw [hr] at this; simp only at this; omega
                  · rw [hr]; simp [List.getD, hkl]
                obtain ⟨g, vi, rfl, hg, hcell, howni⟩ := HC4.out k (by have := HR.out; omega)
                rw [hpk] at howni
                obtain ⟨Ai, Ni, ci, rfl, hNi, hni⟩ := howni.numsN HP.out.wf
                have d1 := Aft.cell (below_cell hbx hcell)
                have s1 : ∀ x : Aft wr, (convert 22 9 (.slice Ai Ni ci)).run Try.prog x.now = .ok (.string (strOfNums p)) x.now := fun x => ((hni.keep hbx hbx.size).aft x).str _ _ _ Try.underlying22 Try.underlying5 Try.underlying9
                have s2 : ∀ x : Aft wr, (convert 22 9 (.slice B m d)).run Try.prog x.now = .ok (.string (strOfNums p)) x.now := fun x => ((HP.out.keep hby hby.size).aft x).str _ _ _ Try.underlying22 Try.underlying5 Try.underlying9
                have j0 : ((r : Int) == (k : Int) + 1) = true := by simp; omega
                have j2 : (k : Int) < r := by omega
                have HBY := Lib.hid hby
                clear hbx hby hbz hkl hpk hni hcell howni hNi hg hkr
                go_wp2_with fail
                refine wp_region_aft (by kernel_rfl) (by kernel_rfl) ?_
                repeat (go_big_quiet_step (first | with_reducible exact Calls.aft (awake23 _)))
                refine wpQuiet_nil ?_
                rintro _ ⟨⟨w9, hb9⟩, rfl⟩
                go_wp2_with fail
                go_ret
                exact ⟨rfl, HBY.out.trans (hb9.mono HBY.out.size)⟩
              · have hrd : (Jn.joins (ls.take k) ++ (Jn.frame p).take (Jn.cl keep N1)).take (Jn.read (Jn.joins (ls.take k) ++ (Jn.frame p).take (Jn.cl keep N1))).2 = Jn.joins (ls.take k) := by
                  rcases HRC.out with ⟨_, hr⟩ | ⟨_, hr, _⟩
                  · rw [hr]; exact List.take_left' rfl
                  · have := HR.out; rw [hr, List.length_append, hkl] at this; simp at this; omega
                have hn3' := HN3.out
                rw [hrd] at hn3'
                have S1 := Lib.hid (hn3'.keep hbx hbx.size)
                have S2 := Lib.hid (HNF1.out.keep hbz hbz.size)
                have d1 := below_cell (HJ.out) HH.out.1
                have d2 := below_cell (HJ.out) HH.out.2
                have d3 := below_cell hbz HQ1.out.1
                have d4 := below_cell hbz HQ1.out.2
                have j0 : ((r : Int) == (k : Int) + 1) = false := by simp; omega
                have HBY := Lib.hid hby
                clear hbx hby hbz hkl hrd hn3' hkr
                go_wp2_with fail
                refine (same_true A3 none Af none N3 c3 0 0 nf cf 0 0 _ _ _ S1.out (Nums.nil _ _ _) S2.out (Nums.nil _ _ _)).mono ?_
                rintro e w9 ⟨rfl, hb9⟩
                go_wp2_with fail
                refine (awake23 _).mono ?_
                rintro e w10 ⟨rfl, hb10⟩
                go_wp2_with fail
                go_ret
                exact ⟨rfl, HBY.out.trans ((hb9.trans (hb10.mono hb9.size)).mono HBY.out.size)⟩
end Go.Proofs.Ytjhdhnefoclccaa
