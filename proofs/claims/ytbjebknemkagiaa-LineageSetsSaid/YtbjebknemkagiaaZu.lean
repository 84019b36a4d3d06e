/- The statement that all operations of layer 15 agree with the reference, walked. -/
import Derived.Test.YtbjebknemkagiaaZt
import Derived.Test.YtbjebknemkagiaaZx
import Derived.Deep.RegionHeld3
namespace Go.Proofs.Ytbjebknemkagiaa
open Go.RowKit
theorem below_next {B : Nat} {W a b : World} (h2 : Below a.heap.size a b) (h1 : Below B W a) (hB : B ≤ a.heap.size) : Below B W b := h1.trans (h2.mono hB)
theorem ints_same (A A' : Option Addr) (n c n' c' : Nat) (l : List Int) (B B' : Nat) (w : World) (h : Nums w .i64 B A n c l) (h' : Nums w .i64 B' A' n' c' l) :
    Calls Try.prog 14 #[.slice A n c, .slice A' n' c'] w fun e w' => e = .returned (.bool true) ∧ Below w.heap.size w w' :=
  ints_b A A' n c n' c' l l B B' true w h h' (by simp)
/-- two lists that lie in one place each -/
structure Pair (w : World) (g j : Nat) (A : Option Addr) (n c : Nat) (l : List Int) (A' : Option Addr) (n' c' : Nat) (l' : List Int) : Prop where
  c0 : w.cell? ⟨g, j, none⟩ = some (.slice A n c)
  c1 : w.cell? ⟨g, j + 1, none⟩ = some (.slice A' n' c')
  n0 : Nums w .i64 w.heap.size A n c l
  n1 : Nums w .i64 w.heap.size A' n' c' l'
  b0 : n ≤ 100
  b1 : n' ≤ 100
theorem Pair.keep {w w' : World} {g j : Nat} {A : Option Addr} {n c : Nat} {l : List Int} {A' : Option Addr} {n' c' : Nat} {l' : List Int} (h : Pair w g j A n c l A' n' c' l') (hb : Below w.heap.size w w') : Pair w' g j A n c l A' n' c' l' :=
  ⟨below_cell hb h.c0, below_cell hb h.c1, h.n0.keep hb hb.size, h.n1.keep hb hb.size, h.b0, h.b1⟩
set_option maxHeartbeats 3200000 in
set_option maxRecDepth 100000 in
theorem walkSets (W : World) (Ap : Option Addr) (Np cp : Nat) (lp : List Int) (hp : Nums W .i64 W.heap.size Ap Np cp lp) (Aq : Option Addr) (Nq cq : Nat) (lq : List Int) (hq : Nums W .i64 W.heap.size Aq Nq cq lq)
    (Ax : Option Addr) (Nx cx : Nat) (lx : List Int) (hx : Nums W .u8 W.heap.size Ax Nx cx lx) (Ay : Option Addr) (Ny cy : Nat) (ly : List Int) (hy : Nums W .u8 W.heap.size Ay Ny cy ly) (key : Int) (_ : -9223372036854775808 ≤ key) (_ : key ≤ 9223372036854775807) :
    Calls Try.prog 4 #[.slice Ap Np cp, .slice Aq Nq cq, .slice Ax Nx cx, .slice Ay Ny cy, .int .i64 key] W fun e w => e = .returned (.bool true) ∧ Below W.heap.size W w := by
  have Hp_0 := Lib.hid hp
  have Hq_0 := Lib.hid hq
  have Hx_0 := Lib.hid hx
  have Hy_0 := Lib.hid hy
  clear hp hq hx hy
  by_cases h1 : Np ≤ 100 ∧ Nq ≤ 100
  · have h2 : (Np : Int) ≤ 100 := by omega
    have h3 : (Nq : Int) ≤ 100 := by omega
    have HPQ := Lib.hid h1
    have d3 : decide (100 < (Nq : Int)) = false := by simp; omega
    clear h1
    go_enter Try.func4, Try.ntmps4
    go_wp2_with fail
    refine (few15 Ax Nx cx lx W Hx_0.out).mono ?_; rintro e w1 ⟨v, rfl, hown, hb⟩
    have HB1 := Lib.hid hb
    obtain ⟨Aa, Na, ca, rfl, hN, hn⟩ := hown.numsN (Zs.few_wf _)
    have Ha := Lib.hid hn
    have Za := Lib.hid (show Na ≤ 100 by have := hN.out; have := Zs.few_len lx; omega)
    clear hown hb hN hn
    go_wp2_with fail
    refine (few15 Ay Ny cy ly w1 (Hy_0.out.keep HB1.out HB1.out.size)).mono ?_; rintro e w2 ⟨v, rfl, hown, hb⟩
    have HB2 := Lib.hid (HB1.out.trans (hb.mono HB1.out.size))
    have Ha2 := Lib.hid (Ha.out.keep hb hb.size)
    obtain ⟨Ab, Nb, cb, rfl, hN, hn⟩ := hown.numsN (Zs.few_wf _)
    have Hb := Lib.hid hn
    have Zb := Lib.hid (show Nb ≤ 100 by have := hN.out; have := Zs.few_len ly; omega)
    clear hown hb hN hn Ha
    go_wp2_with fail
    refine (few15 Ax Nx cx lx w2 (Hx_0.out.keep HB2.out HB2.out.size)).mono ?_; rintro e w3 ⟨v, rfl, hown, hb⟩
    have HB3 := Lib.hid (HB2.out.trans (hb.mono HB2.out.size))
    have Ha3 := Lib.hid (Ha2.out.keep hb hb.size)
    have Hb3 := Lib.hid (Hb.out.keep hb hb.size)
    obtain ⟨Ac, Nc, cc, rfl, hN, hn⟩ := hown.numsN (Zs.few_wf _)
    have Hc := Lib.hid hn
    have Zc := Lib.hid (show Nc ≤ 100 by have := hN.out; have := Zs.few_len lx; omega)
    clear hown hb hN hn Ha2 Hb
    go_wp2_with fail
    obtain ⟨Z, hZ⟩ : ∃ Z : World, w3.alloc (.cells #[.slice Ap Np cp, .slice Aq Nq cq, .slice Aa Na ca, .slice Ab Nb cb, .slice Ap Np cp, .slice Ac Nc cc] 28) = Z := ⟨_, rfl⟩
    have hbz : Below w3.heap.size w3 Z := by rw [← hZ]; exact (Below.refl _ _).alloc (Nat.le_refl _) _
    have hbW : Below W.heap.size W Z := HB3.out.trans (hbz.mono HB3.out.size)
    have P0 := Lib.hid (show Pair Z w3.heap.size 0 Ap Np cp lp Aq Nq cq lq from ⟨by rw [← hZ]; simp [go_sem], by rw [← hZ]; simp [go_sem], Hp_0.out.keep hbW hbW.size, Hq_0.out.keep hbW hbW.size, HPQ.out.1, HPQ.out.2⟩)
    have P1 := Lib.hid (show Pair Z w3.heap.size 2 Aa Na ca _ Ab Nb cb _ from ⟨by rw [← hZ]; simp [go_sem], by rw [← hZ]; simp [go_sem], Ha3.out.keep hbz hbz.size, Hb3.out.keep hbz hbz.size, Za.out, Zb.out⟩)
    have P2 := Lib.hid (show Pair Z w3.heap.size 4 Ap Np cp lp Ac Nc cc _ from ⟨by rw [← hZ]; simp [go_sem], by rw [← hZ]; simp [go_sem], Hp_0.out.keep hbW hbW.size, Hc.out.keep hbz hbz.size, HPQ.out.1, Zc.out⟩)
    have HBZ := Lib.hid hbW
    rw [hZ]
    clear hZ hbz hbW Ha3 Hb3 Hc Za Zb Zc HB1 HB2 HB3 Hx_0 Hy_0 Hp_0 Hq_0 HPQ d3
    go_loopw [12, 36] (fun _ i wr => ∃ j : Nat, j ≤ 3 ∧ i = .int .i64 j ∧ Hid (Below Z.heap.size Z wr)) (fun _ i _ => 3 - (intOf i).toNat)
    case atStart => exact ⟨0, by omega, rfl, Below.refl _ _⟩
    case round =>
      obtain ⟨j, hj, rfl, HI⟩ := hrel
      by_cases hj3 : j = 3
      · subst hj3
        go_wp2_with fail
        refine (awake15 _).mono ?_; rintro e w9 ⟨rfl, hb9⟩
        go_wp2_with fail
        go_ret
        exact ⟨rfl, HBZ.out.trans ((HI.out.trans (hb9.mono HI.out.size)).mono HBZ.out.size)⟩
      · obtain ⟨B0, n0, c0, l0, B1, n1, c1, l1, hP⟩ : ∃ B0 n0 c0 l0 B1 n1 c1 l1, Pair wr w3.heap.size (j * 2) B0 n0 c0 l0 B1 n1 c1 l1 := by
          rcases (show j = 0 ∨ j = 1 ∨ j = 2 by omega) with rfl | rfl | rfl
          · exact ⟨_, _, _, _, _, _, _, _, P0.out.keep HI.out⟩
          · exact ⟨_, _, _, _, _, _, _, _, P1.out.keep HI.out⟩
          · exact ⟨_, _, _, _, _, _, _, _, P2.out.keep HI.out⟩
        have e0 := hP.c0
        have e1 := hP.c1
        have HP := Lib.hid hP
        clear hP
        have hpair : ∃ W' : World, wr.alloc (.cells #[.slice B0 n0 c0, .slice B1 n1 c1] 28) = W' := ⟨_, rfl⟩
        have j3 : (j : Int) < 3 := by omega
        have j0 : (0 : Int) ≤ j := by omega
        go_wp2_with fail
        obtain ⟨W', hW⟩ := hpair
        have d0 : ∀ w', Below W'.heap.size W' w' → w'.cell? ⟨wr.heap.size, 0, none⟩ = some (.slice B0 n0 c0) := fun w' hb => by rw [hb.cell (by rw [← hW]; simp), ← hW]; simp [go_sem]
        have d1 : ∀ w', Below W'.heap.size W' w' → w'.cell? ⟨wr.heap.size, 1, none⟩ = some (.slice B1 n1 c1) := fun w' hb => by rw [hb.cell (by rw [← hW]; simp), ← hW]; simp [go_sem]
        have HWr := Lib.hid (show Below wr.heap.size wr W' by rw [← hW]; exact (Below.refl _ _).alloc (Nat.le_refl _) _)
        have H0 := Lib.hid (HP.out.n0.keep HWr.out HWr.out.size)
        have H1 := Lib.hid (HP.out.n1.keep HWr.out HWr.out.size)
        first | rw [hW] | skip
        clear hW e0 e1
        simp only [List.append_eq, List.cons_append, List.nil_append]
        go_region_held3 (fun w' => Below W'.heap.size W' w')
          (first | assumption | (exact below_of_drawn 1) | (exact (Below.refl _ _).drew) | (exact below_drewN (by assumption) _) | (exact below_next (by assumption) (by assumption) (Below.size (by assumption))))
          (first
            | (go_at_call 12; (with_reducible refine (valid15 B0 n0 c0 l0 _ _ (H0.out.keep (by assumption) (Nat.le_refl _))).mono ?_); rintro e wz ⟨rfl, hbz⟩)
            | (go_at_call 13; (with_reducible refine (rvalid15 B0 n0 c0 l0 _ _ (H0.out.keep (by assumption) (Nat.le_refl _))).mono ?_); rintro e wz ⟨rfl, hbz⟩)
            | (go_at_call 15; (with_reducible refine (of15 B0 n0 c0 l0 _ (H0.out.keep (by assumption) (Below.size (by assumption))) (by have := HP.out.b0; omega)).mono ?_); rintro e wz ⟨vz, rfl, hown, hbz⟩; obtain ⟨Az, Nz, cz, rfl, -, hnz⟩ := hown.numsN (fun x hx => H0.out.wf x (Zs.mem_of.1 hx)); clear hown)
            | (go_at_call 16; (with_reducible refine (rof15 B0 n0 c0 l0 _ (H0.out.keep (by assumption) (Below.size (by assumption))) (by have := HP.out.b0; omega)).mono ?_); rintro e wz ⟨vz, rfl, hown, hbz⟩; obtain ⟨Ay, Ny, cy, rfl, -, hny⟩ := hown.numsN (fun x hx => H0.out.wf x (Zs.mem_of.1 hx)); replace hnz := hnz.keep hbz hbz.size; clear hown)
            | (go_at_call 17; (with_reducible refine (union15 B0 n0 c0 l0 B1 n1 c1 l1 _ (H0.out.keep (by assumption) (Below.size (by assumption))) (H1.out.keep (by assumption) (Below.size (by assumption))) (by have := HP.out.b0; omega) (by have := HP.out.b1; omega)).mono ?_); rintro e wz ⟨vz, rfl, hown, hbz⟩; obtain ⟨Az, Nz, cz, rfl, -, hnz⟩ := hown.numsN (fun x hx => (List.mem_append.1 (Zs.mem_of.1 hx)).elim (H0.out.wf x) (H1.out.wf x)); clear hown)
            | (go_at_call 18; (with_reducible refine (runion15 B0 n0 c0 l0 B1 n1 c1 l1 _ (H0.out.keep (by assumption) (Below.size (by assumption))) (H1.out.keep (by assumption) (Below.size (by assumption))) (by have := HP.out.b0; omega) (by have := HP.out.b1; omega)).mono ?_); rintro e wz ⟨vz, rfl, hown, hbz⟩; obtain ⟨Ay, Ny, cy, rfl, -, hny⟩ := hown.numsN (fun x hx => (List.mem_append.1 (Zs.mem_of.1 hx)).elim (H0.out.wf x) (H1.out.wf x)); replace hnz := hnz.keep hbz hbz.size; clear hown)
            | (go_at_call 19; (with_reducible refine (both15 B0 n0 c0 l0 B1 n1 c1 l1 _ (H0.out.keep (by assumption) (Below.size (by assumption))) (H1.out.keep (by assumption) (Below.size (by assumption))) (by have := HP.out.b0; omega) (by have := HP.out.b1; omega)).mono ?_); rintro e wz ⟨vz, rfl, hown, hbz⟩; obtain ⟨Az, Nz, cz, rfl, -, hnz⟩ := hown.numsN (fun x hx => H0.out.wf x (Zs.mem_part.1 hx).1); clear hown)
            | (go_at_call 20; (with_reducible refine (rboth15 B0 n0 c0 l0 B1 n1 c1 l1 _ (H0.out.keep (by assumption) (Below.size (by assumption))) (H1.out.keep (by assumption) (Below.size (by assumption))) (by have := HP.out.b0; omega)).mono ?_); rintro e wz ⟨vz, rfl, hown, hbz⟩; obtain ⟨Ay, Ny, cy, rfl, -, hny⟩ := hown.numsN (fun x hx => H0.out.wf x (Zs.mem_part.1 hx).1); replace hnz := hnz.keep hbz hbz.size; clear hown)
            | (go_at_call 21; (with_reducible refine (without15 B0 n0 c0 l0 B1 n1 c1 l1 _ (H0.out.keep (by assumption) (Below.size (by assumption))) (H1.out.keep (by assumption) (Below.size (by assumption))) (by have := HP.out.b0; omega) (by have := HP.out.b1; omega)).mono ?_); rintro e wz ⟨vz, rfl, hown, hbz⟩; obtain ⟨Az, Nz, cz, rfl, -, hnz⟩ := hown.numsN (fun x hx => H0.out.wf x (Zs.mem_part.1 hx).1); clear hown)
            | (go_at_call 22; (with_reducible refine (rwithout15 B0 n0 c0 l0 B1 n1 c1 l1 _ (H0.out.keep (by assumption) (Below.size (by assumption))) (H1.out.keep (by assumption) (Below.size (by assumption))) (by have := HP.out.b0; omega)).mono ?_); rintro e wz ⟨vz, rfl, hown, hbz⟩; obtain ⟨Ay, Ny, cy, rfl, -, hny⟩ := hown.numsN (fun x hx => H0.out.wf x (Zs.mem_part.1 hx).1); replace hnz := hnz.keep hbz hbz.size; clear hown)
            | (go_at_call 23; (with_reducible refine (has15 B0 n0 c0 l0 key _ _ (H0.out.keep (by assumption) (Nat.le_refl _))).mono ?_); rintro e wz ⟨rfl, rfl⟩)
            | (go_at_call 24; (with_reducible refine (rhas15 B0 n0 c0 l0 key _ _ (H0.out.keep (by assumption) (Nat.le_refl _))).mono ?_); rintro e wz ⟨rfl, rfl⟩)
            | (go_at_call 25; (with_reducible refine (within15 B0 n0 c0 l0 B1 n1 c1 l1 _ (H0.out.keep (by assumption) (Below.size (by assumption))) (H1.out.keep (by assumption) (Below.size (by assumption))) (by have := HP.out.b0; omega) (by have := HP.out.b1; omega)).mono ?_); rintro e wz ⟨rfl, hbz⟩)
            | (go_at_call 26; (with_reducible refine (rwithin15 B0 n0 c0 l0 B1 n1 c1 l1 _ (H0.out.keep (by assumption) (Below.size (by assumption))) (H1.out.keep (by assumption) (Below.size (by assumption))) (by have := HP.out.b0; omega)).mono ?_); rintro e wz ⟨rfl, hbz⟩)
            | (go_at_call 14; (with_reducible refine (ints_same _ _ _ _ _ _ _ _ _ _ hnz hny).mono ?_); rintro e wz ⟨rfl, hbz⟩; clear hnz hny))
        go_wp2_with fail
        go_roundw
        case rel => exact ⟨j + 1, by omega, by go_num, HI.out.trans ((HWr.out.trans (Below.mono (by assumption) HWr.out.size)).mono HI.out.size)⟩
        case measure => simp [intOf]; omega
  · have HN := Lib.hid h1
    by_cases h2 : Np ≤ 100
    · have h3 : (100 : Int) < Nq := by omega
      have h4 : (Np : Int) ≤ 100 := by omega
      clear h1 h2
      go_enter Try.func4, Try.ntmps4
      go_wp2_with fail
      refine (awake15 _).mono ?_; rintro e w9 ⟨rfl, hb9⟩
      go_wp2_with fail
      go_ret
      exact ⟨rfl, hb9⟩
    · have h4 : (100 : Int) < Np := by omega
      clear h1 h2
      go_enter Try.func4, Try.ntmps4
      go_wp2_with fail
      refine (awake15 _).mono ?_; rintro e w9 ⟨rfl, hb9⟩
      go_wp2_with fail
      go_ret
      exact ⟨rfl, hb9⟩
end Go.Proofs.Ytbjebknemkagiaa
