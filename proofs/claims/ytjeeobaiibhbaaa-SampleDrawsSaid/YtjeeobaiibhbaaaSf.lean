/- Samples: what is drawn is what the reference draws. -/
import Derived.Test.YtjeeobaiibhbaaaSe
namespace Go.Proofs.Ytjeeobaiibhbaaa
open Go.RowKit
theorem below_next {B : Nat} {W a b : World} (h2 : Below a.heap.size a b) (h1 : Below B W a) (hB : B ≤ a.heap.size) : Below B W b := h1.trans (h2.mono hB)
theorem check11_b (p o s : Int) (w : World) :
    Calls Try.prog 14 #[.agg #[.int .i64 p, .int .i64 o, .int .i64 s]] w fun e w' => e = .returned (.int .i64 (Sm.code p o s)) ∧ Below w.heap.size w w' :=
  check11_v p o s _ (Lib.hid rfl) w
theorem rcheck11_b (p o s : Int) (w : World) :
    Calls Try.prog 15 #[.agg #[.int .i64 p, .int .i64 o, .int .i64 s]] w fun e w' => e = .returned (.int .i64 (Sm.code p o s)) ∧ Below w.heap.size w w' :=
  rcheck11_v p o s _ (Lib.hid rfl) w
theorem ints_same (A A' : Option Addr) (n c n' c' : Nat) (l : List Int) (B B' : Nat) (w : World) (h : Nums w .i64 B A n c l) (h' : Nums w .i64 B' A' n' c' l) :
    Calls Try.prog 18 #[.slice A n c, .slice A' n' c'] w fun e w' => e = .returned (.bool true) ∧ ∃ m, w' = w.drewN m :=
  (ints_any A A' n c n' c' l l B B' w h h').mono fun _ _ ⟨he, hw⟩ => ⟨by rw [he]; simp, hw⟩
theorem filter_wf {f : Int → Bool} {l : List Int} (h : ∀ x ∈ l, (Lit.int .i64 x).wf = true) : ∀ x ∈ l.filter f, (Lit.int .i64 x).wf = true := fun x hx => h x (List.mem_filter.1 hx).1
set_option maxRecDepth 100000 in
set_option maxHeartbeats 1600000 in
theorem walkDraws (w : World) (p : Int) (_ : -9223372036854775808 ≤ p) (_ : p ≤ 9223372036854775807) (o : Int) (_ : -9223372036854775808 ≤ o) (_ : o ≤ 9223372036854775807) (s : Int) (hs : -9223372036854775808 ≤ s) (hs' : s ≤ 9223372036854775807)
    (t : Int) (ht : 0 ≤ t) (ht' : t ≤ 65535) (id : Int) (_ : -9223372036854775808 ≤ id) (_ : id ≤ 9223372036854775807) (A : Option Addr) (n c : Nat) (l : List Int) (h : Nums w .i64 w.heap.size A n c l) :
    Calls Try.prog 3 #[.agg #[.int .i64 p, .int .i64 o, .int .i64 s], .int .u16 t, .int .i64 id, .slice A n c] w fun e w' => e = .returned (.bool true) ∧ Below w.heap.size w w' := by
  have hm : n ≤ 9223372036854775807 := by have := h.cap; have := h.max; unfold maxLen at this; omega
  have H := Lib.hid h
  clear h
  by_cases hn : 300 < n
  · go_enter Try.func3, Try.ntmps3
    go_wp2_with fail
    refine (awake11 _).mono ?_; rintro e w1 ⟨rfl, hb1⟩
    have HB1 := Lib.hid ((Below.refl w.heap.size w).alloc (Nat.le_refl _) (.cells #[.int .i64 p, .int .i64 o, .int .i64 s] 23) |>.trans (hb1.mono (by simp)))
    clear hb1
    go_wp2_with fail
    go_ret
    exact ⟨rfl, HB1.out⟩
  · go_enter Try.func3, Try.ntmps3
    go_wp2_with fail
    refine (limited11 p o s t hs hs' ht ht' _).mono ?_; rintro e w1 ⟨P, O, S, hfit, rfl, hb1⟩
    have HB1 := Lib.hid ((Below.refl w.heap.size w).alloc (Nat.le_refl _) (.cells #[.int .i64 p, .int .i64 o, .int .i64 s] 23) |>.trans (hb1.mono (by simp)))
    have hx0 : w1.cell? ⟨w.heap.size, 0, none⟩ = some (.int .i64 p) := by rw [hb1.cell (by simp)]; simp [go_sem]
    have hx1 : w1.cell? ⟨w.heap.size, 1, none⟩ = some (.int .i64 o) := by rw [hb1.cell (by simp)]; simp [go_sem]
    have hx2 : w1.cell? ⟨w.heap.size, 2, none⟩ = some (.int .i64 s) := by rw [hb1.cell (by simp)]; simp [go_sem]
    have hlt1 : w.heap.size < w1.heap.size := by have := hb1.size; simp at this; omega
    clear hfit hb1
    go_wp2_with fail
    obtain ⟨Z, hZ⟩ : ∃ Z : World, ((w1.alloc (.cells #[.int .i64 P, .int .i64 O, .int .i64 S] 23)).alloc (.cells #[.int .i64 (1 + t * 7 % 1048575), .int .i64 (1 + t * 7 % 1048575 + 1), .int .i64 1, .int .i64 1048575, .int .i64 1048576, .int .i64 0] 3)).alloc (.cells #[.int .i64 p, .int .i64 o, .int .i64 s, .int .i64 P, .int .i64 O, .int .i64 S] 23) = Z := ⟨_, rfl⟩
    have HBZ := Lib.hid (show Below w.heap.size w Z by rw [← hZ]; have := HB1.out.size; exact ((HB1.out.alloc HB1.out.size _).alloc (by simp; omega) _).alloc (by simp; omega) _)
    have z0 : Z.cell? ⟨w1.heap.size + 1 + 1, 0, none⟩ = some (.int .i64 p) := by rw [← hZ]; simp [go_sem]
    have z1 : Z.cell? ⟨w1.heap.size + 1 + 1, 1, none⟩ = some (.int .i64 o) := by rw [← hZ]; simp [go_sem]
    have z2 : Z.cell? ⟨w1.heap.size + 1 + 1, 2, none⟩ = some (.int .i64 s) := by rw [← hZ]; simp [go_sem]
    have z3 : Z.cell? ⟨w1.heap.size + 1 + 1, 3, none⟩ = some (.int .i64 P) := by rw [← hZ]; simp [go_sem]
    have z4 : Z.cell? ⟨w1.heap.size + 1 + 1, 4, none⟩ = some (.int .i64 O) := by rw [← hZ]; simp [go_sem]
    have z5 : Z.cell? ⟨w1.heap.size + 1 + 1, 5, none⟩ = some (.int .i64 S) := by rw [← hZ]; simp [go_sem]
    have y2 : Z.cell? ⟨w1.heap.size, 2, none⟩ = some (.int .i64 S) := by rw [← hZ]; simp [go_sem]
    have HZs := Lib.hid (show w1.heap.size + 1 + 1 < Z.heap.size by rw [← hZ]; simp)
    have HN := Lib.hid (show Nums Z .i64 Z.heap.size (some ⟨w1.heap.size + 1, 0, none⟩) 6 6 [1 + t * 7 % 1048575, 1 + t * 7 % 1048575 + 1, 1, 1048575, 1048576, 0] by
      rw [← hZ]
      refine Nums.lit [1 + t * 7 % 1048575, 1 + t * 7 % 1048575 + 1, 1, 1048575, 1048576, 0] (by simp) (by simp) (fun j hj => ?_) (fun x hx => ?_)
      · match j, hj with
        | 0, _ => simp [go_sem]
        | 1, _ => simp [go_sem]
        | 2, _ => simp [go_sem]
        | 3, _ => simp [go_sem]
        | 4, _ => simp [go_sem]
        | 5, _ => simp [go_sem]
      · simp at hx
        exact WalkArith.wf_i64 (by omega))
    have HL := Lib.hid (H.out.keep HBZ.out HBZ.out.size)
    have HZC := Lib.hid (And.intro z0 (And.intro z1 (And.intro z2 (And.intro z3 (And.intro z4 (And.intro z5 y2))))))
    rw [hZ]
    clear hZ z0 z1 z2 z3 z4 z5 y2 hx0 hx1 hx2
    go_loopw [13, 34] (fun _ i wr => ∃ j : Nat, j ≤ 2 ∧ i = .int .i64 j ∧ Hid (Below Z.heap.size Z wr)) (fun _ i _ => 2 - (intOf i).toNat)
    case atStart => exact ⟨0, by omega, rfl, Below.refl _ _⟩
    case round =>
      obtain ⟨j, hj, rfl, HI⟩ := hrel
      rcases (show j = 0 ∨ j = 1 ∨ j = 2 by omega) with rfl | rfl | rfl
      · have e0 : wr.cell? ⟨w1.heap.size + 1 + 1, 0, none⟩ = some (.int .i64 p) := by rw [HI.out.cell HZs.out]; exact HZC.out.1
        have e1 : wr.cell? ⟨w1.heap.size + 1 + 1, 1, none⟩ = some (.int .i64 o) := by rw [HI.out.cell HZs.out]; exact HZC.out.2.1
        have e2 : wr.cell? ⟨w1.heap.size + 1 + 1, 2, none⟩ = some (.int .i64 s) := by rw [HI.out.cell HZs.out]; exact HZC.out.2.2.1
        go_wp2_with fail
        obtain ⟨W, hW⟩ : ∃ W : World, wr.alloc (.cells #[.int .i64 p, .int .i64 o, .int .i64 s] 23) = W := ⟨_, rfl⟩
        have c0 : ∀ w', Below W.heap.size W w' → w'.cell? ⟨wr.heap.size, 0, none⟩ = some (.int .i64 p) := fun w' hb => by rw [hb.cell (by rw [← hW]; simp), ← hW]; simp [go_sem]
        have c1 : ∀ w', Below W.heap.size W w' → w'.cell? ⟨wr.heap.size, 1, none⟩ = some (.int .i64 o) := fun w' hb => by rw [hb.cell (by rw [← hW]; simp), ← hW]; simp [go_sem]
        have c2 : ∀ w', Below W.heap.size W w' → w'.cell? ⟨wr.heap.size, 2, none⟩ = some (.int .i64 s) := fun w' hb => by rw [hb.cell (by rw [← hW]; simp), ← hW]; simp [go_sem]
        have HWr := Lib.hid (show Below wr.heap.size wr W by rw [← hW]; exact (Below.refl _ _).alloc (Nat.le_refl _) _)
        first | rw [hW] | skip
        clear hW e0 e1 e2
        have HL1 := Lib.hid (HL.out.keep (HI.out.trans (HWr.out.mono HI.out.size)) (Nat.le_trans HI.out.size HWr.out.size))
        have HN1 := Lib.hid (HN.out.keep (HI.out.trans (HWr.out.mono HI.out.size)) (Nat.le_trans HI.out.size HWr.out.size))
        go_region_held3 (fun w' => Below W.heap.size W w')
          (first | (exact below_of_drawn 1) | (exact (Below.refl _ _).drew) | (exact below_drewN (by assumption) _) | (exact below_next (by assumption) (by assumption) (Below.size (by assumption))))
          (first
            | (go_at_call 14; refine (check11_b _ _ _ _).mono ?_; rintro e wz ⟨rfl, hbz⟩)
            | (go_at_call 15; refine (rcheck11_b _ _ _ _).mono ?_; rintro e wz ⟨rfl, hbz⟩)
            | (go_at_call 16; refine (in11 _ _ _ _ _).mono ?_; rintro e wz ⟨rfl, hbz⟩)
            | (go_at_call 17; refine (rin11 _ _ _ _ _).mono ?_; rintro e wz ⟨rfl, hbz⟩)
            | (go_at_call 19; (with_reducible refine (chosen11 _ _ _ A n c l _ (HL1.out.keep (by assumption) (Below.size (by assumption))) (by omega)).mono ?_); rintro e wz ⟨vz, rfl, hown, hbz⟩; obtain ⟨Az, cz, rfl, hnz⟩ := hown.nums (filter_wf HL1.out.wf); clear hown)
            | (go_at_call 19; (with_reducible refine (chosen11 _ _ _ _ 6 6 _ _ (HN1.out.keep (by assumption) (Below.size (by assumption))) (by omega)).mono ?_); rintro e wz ⟨vz, rfl, hown, hbz⟩; obtain ⟨Az, cz, rfl, hnz⟩ := hown.nums (filter_wf HN1.out.wf); clear hown)
            | (go_at_call 20; (with_reducible refine (rchosen11 _ _ _ A n c l _ (HL1.out.keep (by assumption) (Below.size (by assumption))) (by omega)).mono ?_); rintro e wz ⟨vz, rfl, hown, hbz⟩; obtain ⟨Ay, cy, rfl, hny⟩ := hown.nums (filter_wf HL1.out.wf); replace hnz := hnz.keep hbz hbz.size; clear hown)
            | (go_at_call 20; (with_reducible refine (rchosen11 _ _ _ _ 6 6 _ _ (HN1.out.keep (by assumption) (Below.size (by assumption))) (by omega)).mono ?_); rintro e wz ⟨vz, rfl, hown, hbz⟩; obtain ⟨Ay, cy, rfl, hny⟩ := hown.nums (filter_wf HN1.out.wf); replace hnz := hnz.keep hbz hbz.size; clear hown)
            | (go_at_call 18; (with_reducible refine (ints_same _ _ _ _ _ _ _ _ _ _ hnz hny).mono ?_); rintro e wz ⟨rfl, mz, rfl⟩; clear hnz hny))
        go_wp2_with fail
        go_roundw
        case rel => exact ⟨0 + 1, by omega, by go_num, HI.out.trans ((HWr.out.trans (Below.mono (by assumption) HWr.out.size)).mono HI.out.size)⟩
        case measure => simp [intOf]
      · have e0 : wr.cell? ⟨w1.heap.size + 1 + 1, 3, none⟩ = some (.int .i64 P) := by rw [HI.out.cell HZs.out]; exact HZC.out.2.2.2.1
        have e1 : wr.cell? ⟨w1.heap.size + 1 + 1, 4, none⟩ = some (.int .i64 O) := by rw [HI.out.cell HZs.out]; exact HZC.out.2.2.2.2.1
        have e2 : wr.cell? ⟨w1.heap.size + 1 + 1, 5, none⟩ = some (.int .i64 S) := by rw [HI.out.cell HZs.out]; exact HZC.out.2.2.2.2.2.1
        go_wp2_with fail
        obtain ⟨W, hW⟩ : ∃ W : World, wr.alloc (.cells #[.int .i64 P, .int .i64 O, .int .i64 S] 23) = W := ⟨_, rfl⟩
        have c0 : ∀ w', Below W.heap.size W w' → w'.cell? ⟨wr.heap.size, 0, none⟩ = some (.int .i64 P) := fun w' hb => by rw [hb.cell (by rw [← hW]; simp), ← hW]; simp [go_sem]
        have c1 : ∀ w', Below W.heap.size W w' → w'.cell? ⟨wr.heap.size, 1, none⟩ = some (.int .i64 O) := fun w' hb => by rw [hb.cell (by rw [← hW]; simp), ← hW]; simp [go_sem]
        have c2 : ∀ w', Below W.heap.size W w' → w'.cell? ⟨wr.heap.size, 2, none⟩ = some (.int .i64 S) := fun w' hb => by rw [hb.cell (by rw [← hW]; simp), ← hW]; simp [go_sem]
        have HWr := Lib.hid (show Below wr.heap.size wr W by rw [← hW]; exact (Below.refl _ _).alloc (Nat.le_refl _) _)
        first | rw [hW] | skip
        clear hW e0 e1 e2
        have HL1 := Lib.hid (HL.out.keep (HI.out.trans (HWr.out.mono HI.out.size)) (Nat.le_trans HI.out.size HWr.out.size))
        have HN1 := Lib.hid (HN.out.keep (HI.out.trans (HWr.out.mono HI.out.size)) (Nat.le_trans HI.out.size HWr.out.size))
        go_region_held3 (fun w' => Below W.heap.size W w')
          (first | (exact below_of_drawn 1) | (exact (Below.refl _ _).drew) | (exact below_drewN (by assumption) _) | (exact below_next (by assumption) (by assumption) (Below.size (by assumption))))
          (first
            | (go_at_call 14; refine (check11_b _ _ _ _).mono ?_; rintro e wz ⟨rfl, hbz⟩)
            | (go_at_call 15; refine (rcheck11_b _ _ _ _).mono ?_; rintro e wz ⟨rfl, hbz⟩)
            | (go_at_call 16; refine (in11 _ _ _ _ _).mono ?_; rintro e wz ⟨rfl, hbz⟩)
            | (go_at_call 17; refine (rin11 _ _ _ _ _).mono ?_; rintro e wz ⟨rfl, hbz⟩)
            | (go_at_call 19; (with_reducible refine (chosen11 _ _ _ A n c l _ (HL1.out.keep (by assumption) (Below.size (by assumption))) (by omega)).mono ?_); rintro e wz ⟨vz, rfl, hown, hbz⟩; obtain ⟨Az, cz, rfl, hnz⟩ := hown.nums (filter_wf HL1.out.wf); clear hown)
            | (go_at_call 19; (with_reducible refine (chosen11 _ _ _ _ 6 6 _ _ (HN1.out.keep (by assumption) (Below.size (by assumption))) (by omega)).mono ?_); rintro e wz ⟨vz, rfl, hown, hbz⟩; obtain ⟨Az, cz, rfl, hnz⟩ := hown.nums (filter_wf HN1.out.wf); clear hown)
            | (go_at_call 20; (with_reducible refine (rchosen11 _ _ _ A n c l _ (HL1.out.keep (by assumption) (Below.size (by assumption))) (by omega)).mono ?_); rintro e wz ⟨vz, rfl, hown, hbz⟩; obtain ⟨Ay, cy, rfl, hny⟩ := hown.nums (filter_wf HL1.out.wf); replace hnz := hnz.keep hbz hbz.size; clear hown)
            | (go_at_call 20; (with_reducible refine (rchosen11 _ _ _ _ 6 6 _ _ (HN1.out.keep (by assumption) (Below.size (by assumption))) (by omega)).mono ?_); rintro e wz ⟨vz, rfl, hown, hbz⟩; obtain ⟨Ay, cy, rfl, hny⟩ := hown.nums (filter_wf HN1.out.wf); replace hnz := hnz.keep hbz hbz.size; clear hown)
            | (go_at_call 18; (with_reducible refine (ints_same _ _ _ _ _ _ _ _ _ _ hnz hny).mono ?_); rintro e wz ⟨rfl, mz, rfl⟩; clear hnz hny))
        go_wp2_with fail
        go_roundw
        case rel => exact ⟨1 + 1, by omega, by go_num, HI.out.trans ((HWr.out.trans (Below.mono (by assumption) HWr.out.size)).mono HI.out.size)⟩
        case measure => simp [intOf]
      · have hs9 : w1.heap.size < Z.heap.size := by have := HZs.out; omega
        have y2 : wr.cell? ⟨w1.heap.size, 2, none⟩ = some (.int .i64 S) := by rw [HI.out.cell hs9]; exact HZC.out.2.2.2.2.2.2
        have d2 := Aft.cell y2
        clear y2 hs9
        go_wp2_with fail
        refine wp_region_aft (by kernel_rfl) (by kernel_rfl) ?_
        repeat (go_big_quiet_step (first | with_reducible exact Calls.aft_same (draw11 _ _ _) | with_reducible exact Calls.aft_same (rdraw11 _ _ _) | with_reducible exact Calls.aft (awake11 _)))
        refine wpQuiet_nil ?_
        rintro _ ⟨⟨W1, hb⟩, rfl⟩
        have HBE := Lib.hid hb
        clear hb
        go_wp2
        go_ret
        exact ⟨rfl, HBZ.out.trans ((HI.out.trans (HBE.out.mono HI.out.size)).mono HBZ.out.size)⟩
end Go.Proofs.Ytjeeobaiibhbaaa
