/- Samples: the reference's functions, and the law on what is drawn. -/
import Derived.Test.YtjeeobaiibhbaaaSb
import Derived.Deep.RegionHeld3
namespace Go.Proofs.Ytjeeobaiibhbaaa
open Go.RowKit
theorem rcheck11_v (p o s v : Int) (hv : Hid (Sm.code p o s = v)) (w : World) :
    Calls Try.prog 15 #[.agg #[.int .i64 p, .int .i64 o, .int .i64 s]] w fun e w' => e = .returned (.int .i64 v) ∧ Below w.heap.size w w' :=
  (rcheck11 p o s w).mono fun _ _ ⟨he, hw⟩ => ⟨by rw [he, hv.out], by rw [hw]; exact (Below.refl _ _).alloc (Nat.le_refl _) _⟩
theorem rin11 (p o s id : Int) (w : World) :
    Calls Try.prog 17 #[.agg #[.int .i64 p, .int .i64 o, .int .i64 s], .int .i64 id] w fun e w' => e = .returned (.bool (Sm.inS p o s id)) ∧ Below w.heap.size w w' := by
  obtain ⟨W, hW⟩ : ∃ W : World, w.alloc (.cells #[.int .i64 p, .int .i64 o, .int .i64 s] 23) = W := ⟨_, rfl⟩
  have c0 : W.cell? ⟨w.heap.size, 0, none⟩ = some (.int .i64 p) := by rw [← hW]; simp [go_sem]
  have c1 : W.cell? ⟨w.heap.size, 1, none⟩ = some (.int .i64 o) := by rw [← hW]; simp [go_sem]
  have c2 : W.cell? ⟨w.heap.size, 2, none⟩ = some (.int .i64 s) := by rw [← hW]; simp [go_sem]
  have hb : Below w.heap.size w W := by rw [← hW]; exact (Below.refl _ _).alloc (Nat.le_refl _) _
  have d0 := Aft.cell c0
  have d1 := Aft.cell c1
  have d2 := Aft.cell c2
  have HB := Lib.hid hb
  clear hb c0 c1 c2
  by_cases hok : Sm.ok p o s = true
  · have hif : Sm.code p o s = 0 := by unfold Sm.code; rw [if_pos hok]
    have ho : 1 ≤ o ∧ o ≤ 1000 := by simp [Sm.ok] at hok; omega
    have HI := Lib.hid hif
    by_cases h1 : 1 ≤ id
    · by_cases h2 : id ≤ 1048575
      · have hf : Sm.inS p o s id = decide ((Sm.draw s id : Int) % o < p) := by simp [Sm.inS, hok, h1, h2]
        have HF := Lib.hid hf
        have hd := Sm.draw_lt s id
        have o1 := ho.1
        have o2 := ho.2
        clear hf hif hok ho
        go_enter Try.func17, Try.ntmps17
        go_wp2_with fail
        clear hW
        refine wp_region_aft (by kernel_rfl) (by kernel_rfl) ?_
        repeat (go_big_quiet_step (first | exact Calls.aft (rcheck11_v p o s 0 HI _) | exact Calls.aft_same (rdraw11 s id _)))
        refine wpQuiet_nil ?_
        rintro _ ⟨⟨W1, hb1⟩, rfl⟩
        have HB1 := Lib.hid hb1
        clear hb1
        go_wp2
        go_ret
        exact ⟨retb HF.out.symm, HB.out.trans (HB1.out.mono HB.out.size)⟩
      · have hf : Sm.inS p o s id = false := by simp [Sm.inS, h1, h2]
        have HF := Lib.hid hf
        have g1 : decide (1 ≤ id) = true := by simpa using h1
        have g2 : decide (id ≤ 1048575) = false := by simpa using h2
        clear hf hif hok ho h1 h2
        go_enter Try.func17, Try.ntmps17
        go_wp2_with fail
        clear hW
        refine wp_region_aft (by kernel_rfl) (by kernel_rfl) ?_
        repeat (go_big_quiet_step (first | exact Calls.aft (rcheck11_v p o s 0 HI _) | exact Calls.aft_same (rdraw11 s id _)))
        refine wpQuiet_nil ?_
        rintro _ ⟨⟨W1, hb1⟩, rfl⟩
        have HB1 := Lib.hid hb1
        clear hb1
        go_wp2
        go_ret
        exact ⟨retb HF.out.symm, HB.out.trans (HB1.out.mono HB.out.size)⟩
    · have hf : Sm.inS p o s id = false := by simp [Sm.inS, h1]
      have HF := Lib.hid hf
      have g1 : decide (1 ≤ id) = false := by simpa using h1
      clear hf hif hok ho h1
      go_enter Try.func17, Try.ntmps17
      go_wp2_with fail
      clear hW
      refine wp_region_aft (by kernel_rfl) (by kernel_rfl) ?_
      repeat (go_big_quiet_step (first | exact Calls.aft (rcheck11_v p o s 0 HI _) | exact Calls.aft_same (rdraw11 s id _)))
      refine wpQuiet_nil ?_
      rintro _ ⟨⟨W1, hb1⟩, rfl⟩
      have HB1 := Lib.hid hb1
      clear hb1
      go_wp2
      go_ret
      exact ⟨retb HF.out.symm, HB.out.trans (HB1.out.mono HB.out.size)⟩
  · have hif : Sm.code p o s = 2 := by unfold Sm.code; rw [if_neg hok]
    have hf : Sm.inS p o s id = false := by simp [Sm.inS, hok]
    have HF := Lib.hid hf
    have HI := Lib.hid hif
    clear hf hif hok
    go_enter Try.func17, Try.ntmps17
    go_wp2_with fail
    clear hW
    refine wp_region_aft (by kernel_rfl) (by kernel_rfl) ?_
    repeat (go_big_quiet_step (first | exact Calls.aft (rcheck11_v p o s 2 HI _) | exact Calls.aft_same (rdraw11 s id _)))
    refine wpQuiet_nil ?_
    rintro _ ⟨⟨W1, hb1⟩, rfl⟩
    have HB1 := Lib.hid hb1
    clear hb1
    go_wp2
    go_ret
    exact ⟨retb HF.out.symm, HB.out.trans (HB1.out.mono HB.out.size)⟩
set_option maxHeartbeats 400000 in
theorem rchosen11 (p o s : Int) (A : Option Addr) (n c : Nat) (l : List Int) (w : World) (h : Nums w .i64 w.heap.size A n c l) (hn : n ≤ 1000) :
    Calls Try.prog 20 #[.agg #[.int .i64 p, .int .i64 o, .int .i64 s], .slice A n c] w (GivesInts (l.filter (Sm.inS p o s)) w) := by
  obtain ⟨W, hW⟩ : ∃ W : World, w.alloc (.cells #[.int .i64 p, .int .i64 o, .int .i64 s] 23) = W := ⟨_, rfl⟩
  have c0 : W.cell? ⟨w.heap.size, 0, none⟩ = some (.int .i64 p) := by rw [← hW]; simp [go_sem]
  have c1 : W.cell? ⟨w.heap.size, 1, none⟩ = some (.int .i64 o) := by rw [← hW]; simp [go_sem]
  have c2 : W.cell? ⟨w.heap.size, 2, none⟩ = some (.int .i64 s) := by rw [← hW]; simp [go_sem]
  have hsz : W.heap.size = w.heap.size + 1 := by rw [← hW]; simp
  have hbW : Below w.heap.size w W := by rw [← hW]; exact (Below.refl _ _).alloc (Nat.le_refl _) _
  have H := Lib.hid h
  have HB := Lib.hid hbW
  have HC := Lib.hid (And.intro c0 (And.intro c1 c2))
  have HZ := Lib.hid hsz
  clear h hbW c0 c1 c2 hsz
  go_enter Try.func20, Try.ntmps20
  go_wp2_with fail
  have HWE := Lib.hid hW
  clear hW
  go_loopw [5, 6] (fun v i wr => ∃ j : Nat, j ≤ n ∧ i = .int .i64 j ∧ Hid (Own wr W.heap.size 3 .i64 v ((l.take j).filter (Sm.inS p o s)) ∧ Below W.heap.size W wr)) (fun _ i _ => n - (intOf i).toNat)
  case atStart => exact ⟨0, by omega, rfl, ⟨by simpa using Own.nil _ _ _ _, Below.refl _ _⟩⟩
  case round =>
    obtain ⟨j, hj, rfl, HI⟩ := hrel
    by_cases hlt : j < n
    · have hb2 : Below w.heap.size w wr := HB.out.trans (HI.out.2.mono HB.out.size)
      obtain ⟨ad, x, rfl, _, HX, hx, _⟩ := (H.out.keep hb2 hb2.size).val hlt
      have hlen := Lib.hid (show ((l.take j).filter (Sm.inS p o s)).length ≤ 1000 from Nat.le_trans (List.length_filter_le _ _) (by rw [List.length_take]; omega))
      have e0 : wr.cell? ⟨w.heap.size, 0, none⟩ = some (.int .i64 p) := by rw [HI.out.2.cell (by rw [HZ.out]; simp)]; exact HC.out.1
      have e1 : wr.cell? ⟨w.heap.size, 1, none⟩ = some (.int .i64 o) := by rw [HI.out.2.cell (by rw [HZ.out]; simp)]; exact HC.out.2.1
      have e2 : wr.cell? ⟨w.heap.size, 2, none⟩ = some (.int .i64 s) := by rw [HI.out.2.cell (by rw [HZ.out]; simp)]; exact HC.out.2.2
      clear hb2
      go_wp2_with fail
      have q0 := Aft.cell e0
      have q1 := Aft.cell e1
      have q2 := Aft.cell e2
      have q3 := Aft.cell hx
      refine wp_region_aft (by kernel_rfl) (by kernel_rfl) ?_
      repeat (go_big_quiet_step (with_reducible exact Calls.aft (rin11 p o s x _)))
      refine wpQuiet_nil ?_
      rintro w1 ⟨⟨_, hb1⟩, rfl⟩
      have hx1 := q3 ⟨_, hb1⟩
      dsimp only at hx1
      clear q0 q1 q2 q3
      have hown := HI.out.1.below hb1
      have hbel := HI.out.2.trans (hb1.mono HI.out.2.size)
      have HO := Lib.hid hown
      have HBL := Lib.hid hbel
      have HB1 := Lib.hid hb1
      clear hown hbel hb1 e0 e1 e2 hx

      have hsx := filter_take_succ (Sm.inS p o s) HX.out
      cases hf : Sm.inS p o s x
      · rw [hf] at hsx
        have HS := Lib.hid hsx
        clear hf hsx
        go_wp2_with fail
        go_roundw
        case rel => exact ⟨j + 1, by omega, by go_num, ⟨by rw [HS.out]; simpa using HO.out, HBL.out⟩⟩
        case measure => simp [intOf]; omega
      · rw [hf] at hsx
        have HS := Lib.hid hsx
        clear hf hsx
        go_wp2_with (at_builtin; refine app_int _ rfl (.tmp 19) (.tmp 24) _ rfl W.heap.size 3 8 .i64 int_info11 Try.underlying25 u5 _ rfl (HO.out.alloc _) x _ rfl (by simp [go_sem]) (by have := hlen.out; simp only [maxLen]; omega) (by have := hlen.out; omega) (by have := HBL.out.size; simp; omega) ?_; intro v' w' hown' hgrow)
        go_roundw
        case rel =>
          exact ⟨j + 1, by omega, by go_num, ⟨by rw [HS.out]; exact hown', (HO.out.alloc _).grow (HBL.out.alloc HBL.out.size _) hgrow (by have := HBL.out.size; simp; omega) (Nat.le_refl _)⟩⟩
        case measure => simp [intOf]; omega
    · obtain rfl : j = n := by omega
      have hfin := HI.out.1
      rw [take_len H.out.len] at hfin
      have HF := Lib.hid hfin
      clear hfin
      go_wp2_with fail
      go_ret
      exact ⟨_, rfl, HF.out.base_le HB.out.size, HB.out.trans (HI.out.2.mono HB.out.size)⟩
end Go.Proofs.Ytjeeobaiibhbaaa
