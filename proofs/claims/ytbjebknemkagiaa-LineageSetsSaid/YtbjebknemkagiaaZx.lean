/- The laws of layer 15, walked (printed by wip/tools/gen_lineage.py). -/
import Derived.Test.YtbjebknemkagiaaZa
namespace Go.Proofs.Ytbjebknemkagiaa
open Go.RowKit
theorem Zs.few_len (l : List Int) : (Zs.few l).length ≤ 40 := by unfold Zs.few; rw [List.length_map, List.length_take]; omega
theorem Zs.few_wf (l : List Int) : ∀ x ∈ Zs.few l, (Lit.int .i64 x).wf = true := fun x hx => by
  obtain ⟨y, _, rfl⟩ := List.mem_map.1 hx
  simp [Lit.wf, IntKind.min, IntKind.max, IntKind.signed, IntKind.bits]; omega
theorem Zs.in_union {a b : List Int} {k : Int} : decide (k ∈ Zs.of (a ++ b)) = (decide (k ∈ a) || decide (k ∈ b)) := by
  rw [Bool.eq_iff_iff]; simp [Zs.mem_of]
theorem Zs.in_both {a b : List Int} {k : Int} : decide (k ∈ Zs.part a b true) = (decide (k ∈ a) && decide (k ∈ b)) := by
  rw [Bool.eq_iff_iff]; simp [Zs.mem_part]
theorem Zs.in_without {a b : List Int} {k : Int} : decide (k ∈ Zs.part a b false) = (decide (k ∈ a) && !decide (k ∈ b)) := by
  rw [Bool.eq_iff_iff]; simp [Zs.mem_part]
theorem Zs.in_of {a : List Int} {k : Int} : decide (k ∈ Zs.of a) = decide (k ∈ a) := by rw [Bool.eq_iff_iff]; simp [Zs.mem_of]
set_option maxHeartbeats 1600000 in
theorem walkMembers (W : World) (Ax : Option Addr) (Nx cx : Nat) (lx : List Int) (hx : Nums W .u8 W.heap.size Ax Nx cx lx) (Ay : Option Addr) (Ny cy : Nat) (ly : List Int) (hy : Nums W .u8 W.heap.size Ay Ny cy ly) (key : Int) (_ : -9223372036854775808 ≤ key) (_ : key ≤ 9223372036854775807) :
    Calls Try.prog 5 #[.slice Ax Nx cx, .slice Ay Ny cy, .int .i64 key] W fun e w => e = .returned (.bool true) ∧ Below W.heap.size W w := by
  have HB0 := Lib.hid (Below.refl W.heap.size W)
  have Hx_0 := Lib.hid hx
  have Hy_0 := Lib.hid hy
  clear hx hy
  go_enter Try.func5, Try.ntmps5
  go_wp2_with fail
  refine (few15 Ax Nx cx lx W Hx_0.out).mono ?_; rintro e w1 ⟨v, rfl, hown, hb⟩
  have HB1 := Lib.hid (HB0.out.trans (hb.mono HB0.out.size))
  have Hx_1 := Lib.hid (Hx_0.out.keep hb hb.size)
  have Hy_1 := Lib.hid (Hy_0.out.keep hb hb.size)
  obtain ⟨Aa, Na, ca, rfl, hN, hn⟩ := hown.numsN (Zs.few_wf _)
  have Ha_1 := Lib.hid hn
  have Za := Lib.hid (show Na ≤ 40 by have hl := hN.out; have := Zs.few_len lx; omega)
  clear hown hb hn hN HB0 Hx_0 Hy_0
  go_wp2_with fail
  clear Hx_1
  refine (few15 Ay Ny cy ly w1 Hy_1.out).mono ?_; rintro e w2 ⟨v, rfl, hown, hb⟩
  have HB2 := Lib.hid (HB1.out.trans (hb.mono HB1.out.size))
  have Hy_2 := Lib.hid (Hy_1.out.keep hb hb.size)
  have Ha_2 := Lib.hid (Ha_1.out.keep hb hb.size)
  obtain ⟨Ab, Nb, cb, rfl, hN, hn⟩ := hown.numsN (Zs.few_wf _)
  have Hb_2 := Lib.hid hn
  have Zb := Lib.hid (show Nb ≤ 40 by have hl := hN.out; have := Zs.few_len ly; omega)
  clear hown hb hn hN HB1 Hy_1 Ha_1
  go_wp2_with fail
  clear Hy_2
  generalize key.tmod 14 = k at *
  rcases hp : decide (k ∈ Zs.few lx) with _ | _ <;> rcases hq : decide (k ∈ Zs.few ly) with _ | _ <;> have HP := Lib.hid hp <;> have HQ := Lib.hid hq <;> clear hp hq
  · refine (has15 Aa Na ca (Zs.few lx) k _ w2 Ha_2.out).mono ?_; rintro e w9 ⟨rfl, rfl⟩
    rw [show decide (k ∈ Zs.few lx) = false from HP.out]
    go_wp2_with fail
    refine (has15 Ab Nb cb (Zs.few ly) k _ w2 Hb_2.out).mono ?_; rintro e w9 ⟨rfl, rfl⟩
    rw [show decide (k ∈ Zs.few ly) = false from HQ.out]
    go_wp2_with fail
    refine (union15 Aa Na ca (Zs.few lx) Ab Nb cb (Zs.few ly) w2 Ha_2.out Hb_2.out (by have := Za.out; omega) (by have := Zb.out; omega)).mono ?_; rintro e w3 ⟨v, rfl, hown, hb⟩
    have HB3 := Lib.hid (HB2.out.trans (hb.mono HB2.out.size))
    have Ha_3 := Lib.hid (Ha_2.out.keep hb hb.size)
    have Hb_3 := Lib.hid (Hb_2.out.keep hb hb.size)
    obtain ⟨Au, Nu, cu, rfl, hN, hn⟩ := hown.numsN (fun x hx => (List.mem_append.1 (Zs.mem_of.1 hx)).elim (Ha_3.out.wf x) (Hb_3.out.wf x))
    have Hu_3 := Lib.hid hn
    have Zu := Lib.hid (show Nu ≤ 80 by have hl := hN.out; have := Zs.of_len (Zs.few lx ++ Zs.few ly); rw [List.length_append] at this; have := Ha_3.out.len; have := Hb_3.out.len; have := Za.out; have := Zb.out; omega)
    clear hown hb hn hN HB2 Ha_2 Hb_2
    go_wp2_with fail
    refine (has15 Au Nu cu (Zs.of (Zs.few lx ++ Zs.few ly)) k _ w3 Hu_3.out).mono ?_; rintro e w9 ⟨rfl, rfl⟩
    rw [Zs.in_union, show decide (k ∈ Zs.few lx) = false from HP.out, show decide (k ∈ Zs.few ly) = false from HQ.out]
    go_wp2_with fail
    clear Hu_3
    refine (both15 Aa Na ca (Zs.few lx) Ab Nb cb (Zs.few ly) w3 Ha_3.out Hb_3.out (by have := Za.out; omega) (by have := Zb.out; omega)).mono ?_; rintro e w4 ⟨v, rfl, hown, hb⟩
    have HB4 := Lib.hid (HB3.out.trans (hb.mono HB3.out.size))
    have Ha_4 := Lib.hid (Ha_3.out.keep hb hb.size)
    have Hb_4 := Lib.hid (Hb_3.out.keep hb hb.size)
    obtain ⟨Am, Nm, cm, rfl, hN, hn⟩ := hown.numsN (fun x hx => Ha_4.out.wf x (Zs.mem_part.1 hx).1)
    have Hm_4 := Lib.hid hn
    have Zm := Lib.hid (show Nm ≤ 40 by have hl := hN.out; have := Zs.part_len (Zs.few lx) (Zs.few ly) true; have := Ha_4.out.len; have := Za.out; omega)
    clear hown hb hn hN HB3 Ha_3 Hb_3
    go_wp2_with fail
    refine (has15 Am Nm cm (Zs.part (Zs.few lx) (Zs.few ly) true) k _ w4 Hm_4.out).mono ?_; rintro e w9 ⟨rfl, rfl⟩
    rw [Zs.in_both, show decide (k ∈ Zs.few lx) = false from HP.out, show decide (k ∈ Zs.few ly) = false from HQ.out]
    go_wp2_with fail
    clear Hm_4
    refine (without15 Aa Na ca (Zs.few lx) Ab Nb cb (Zs.few ly) w4 Ha_4.out Hb_4.out (by have := Za.out; omega) (by have := Zb.out; omega)).mono ?_; rintro e w5 ⟨v, rfl, hown, hb⟩
    have HB5 := Lib.hid (HB4.out.trans (hb.mono HB4.out.size))
    have Ha_5 := Lib.hid (Ha_4.out.keep hb hb.size)
    have Hb_5 := Lib.hid (Hb_4.out.keep hb hb.size)
    obtain ⟨Ad, Nd, cd, rfl, hN, hn⟩ := hown.numsN (fun x hx => Ha_5.out.wf x (Zs.mem_part.1 hx).1)
    have Hd_5 := Lib.hid hn
    have Zd := Lib.hid (show Nd ≤ 40 by have hl := hN.out; have := Zs.part_len (Zs.few lx) (Zs.few ly) false; have := Ha_5.out.len; have := Za.out; omega)
    clear hown hb hn hN HB4 Ha_4 Hb_4
    go_wp2_with fail
    refine (has15 Ad Nd cd (Zs.part (Zs.few lx) (Zs.few ly) false) k _ w5 Hd_5.out).mono ?_; rintro e w9 ⟨rfl, rfl⟩
    rw [Zs.in_without, show decide (k ∈ Zs.few lx) = false from HP.out, show decide (k ∈ Zs.few ly) = false from HQ.out]
    go_wp2_with fail
    clear Hd_5
    refine (of15 Aa Na ca (Zs.few lx) w5 Ha_5.out (by have := Za.out; omega)).mono ?_; rintro e w6 ⟨v, rfl, hown, hb⟩
    have HB6 := Lib.hid (HB5.out.trans (hb.mono HB5.out.size))
    have Ha_6 := Lib.hid (Ha_5.out.keep hb hb.size)
    have Hb_6 := Lib.hid (Hb_5.out.keep hb hb.size)
    obtain ⟨Ao, No, co, rfl, hN, hn⟩ := hown.numsN (fun x hx => Ha_6.out.wf x (Zs.mem_of.1 hx))
    have Ho_6 := Lib.hid hn
    have Zo := Lib.hid (show No ≤ 40 by have hl := hN.out; have := Zs.of_len (Zs.few lx); have := Ha_6.out.len; have := Za.out; omega)
    clear hown hb hn hN HB5 Ha_5 Hb_5
    go_wp2_with fail
    refine (has15 Ao No co (Zs.of (Zs.few lx)) k _ w6 Ho_6.out).mono ?_; rintro e w9 ⟨rfl, rfl⟩
    rw [Zs.in_of, show decide (k ∈ Zs.few lx) = false from HP.out]
    go_wp2_with fail
    clear Ho_6
    refine (awake15 w6).mono ?_; rintro e w7 ⟨rfl, hb⟩
    have HB7 := Lib.hid (HB6.out.trans (hb.mono HB6.out.size))
    have Ha_7 := Lib.hid (Ha_6.out.keep hb hb.size)
    have Hb_7 := Lib.hid (Hb_6.out.keep hb hb.size)
    clear hb HB6 Ha_6 Hb_6
    go_wp2_with fail
    go_ret
    exact ⟨rfl, HB7.out⟩
  · refine (has15 Aa Na ca (Zs.few lx) k _ w2 Ha_2.out).mono ?_; rintro e w9 ⟨rfl, rfl⟩
    rw [show decide (k ∈ Zs.few lx) = false from HP.out]
    go_wp2_with fail
    refine (has15 Ab Nb cb (Zs.few ly) k _ w2 Hb_2.out).mono ?_; rintro e w9 ⟨rfl, rfl⟩
    rw [show decide (k ∈ Zs.few ly) = true from HQ.out]
    go_wp2_with fail
    refine (union15 Aa Na ca (Zs.few lx) Ab Nb cb (Zs.few ly) w2 Ha_2.out Hb_2.out (by have := Za.out; omega) (by have := Zb.out; omega)).mono ?_; rintro e w3 ⟨v, rfl, hown, hb⟩
    have HB3 := Lib.hid (HB2.out.trans (hb.mono HB2.out.size))
    have Ha_3 := Lib.hid (Ha_2.out.keep hb hb.size)
    have Hb_3 := Lib.hid (Hb_2.out.keep hb hb.size)
    obtain ⟨Au, Nu, cu, rfl, hN, hn⟩ := hown.numsN (fun x hx => (List.mem_append.1 (Zs.mem_of.1 hx)).elim (Ha_3.out.wf x) (Hb_3.out.wf x))
    have Hu_3 := Lib.hid hn
    have Zu := Lib.hid (show Nu ≤ 80 by have hl := hN.out; have := Zs.of_len (Zs.few lx ++ Zs.few ly); rw [List.length_append] at this; have := Ha_3.out.len; have := Hb_3.out.len; have := Za.out; have := Zb.out; omega)
    clear hown hb hn hN HB2 Ha_2 Hb_2
    go_wp2_with fail
    refine (has15 Au Nu cu (Zs.of (Zs.few lx ++ Zs.few ly)) k _ w3 Hu_3.out).mono ?_; rintro e w9 ⟨rfl, rfl⟩
    rw [Zs.in_union, show decide (k ∈ Zs.few lx) = false from HP.out, show decide (k ∈ Zs.few ly) = true from HQ.out]
    go_wp2_with fail
    clear Hu_3
    refine (both15 Aa Na ca (Zs.few lx) Ab Nb cb (Zs.few ly) w3 Ha_3.out Hb_3.out (by have := Za.out; omega) (by have := Zb.out; omega)).mono ?_; rintro e w4 ⟨v, rfl, hown, hb⟩
    have HB4 := Lib.hid (HB3.out.trans (hb.mono HB3.out.size))
    have Ha_4 := Lib.hid (Ha_3.out.keep hb hb.size)
    have Hb_4 := Lib.hid (Hb_3.out.keep hb hb.size)
    obtain ⟨Am, Nm, cm, rfl, hN, hn⟩ := hown.numsN (fun x hx => Ha_4.out.wf x (Zs.mem_part.1 hx).1)
    have Hm_4 := Lib.hid hn
    have Zm := Lib.hid (show Nm ≤ 40 by have hl := hN.out; have := Zs.part_len (Zs.few lx) (Zs.few ly) true; have := Ha_4.out.len; have := Za.out; omega)
    clear hown hb hn hN HB3 Ha_3 Hb_3
    go_wp2_with fail
    refine (has15 Am Nm cm (Zs.part (Zs.few lx) (Zs.few ly) true) k _ w4 Hm_4.out).mono ?_; rintro e w9 ⟨rfl, rfl⟩
    rw [Zs.in_both, show decide (k ∈ Zs.few lx) = false from HP.out, show decide (k ∈ Zs.few ly) = true from HQ.out]
    go_wp2_with fail
    clear Hm_4
    refine (without15 Aa Na ca (Zs.few lx) Ab Nb cb (Zs.few ly) w4 Ha_4.out Hb_4.out (by have := Za.out; omega) (by have := Zb.out; omega)).mono ?_; rintro e w5 ⟨v, rfl, hown, hb⟩
    have HB5 := Lib.hid (HB4.out.trans (hb.mono HB4.out.size))
    have Ha_5 := Lib.hid (Ha_4.out.keep hb hb.size)
    have Hb_5 := Lib.hid (Hb_4.out.keep hb hb.size)
    obtain ⟨Ad, Nd, cd, rfl, hN, hn⟩ := hown.numsN (fun x hx => Ha_5.out.wf x (Zs.mem_part.1 hx).1)
    have Hd_5 := Lib.hid hn
    have Zd := Lib.hid (show Nd ≤ 40 by have hl := hN.out; have := Zs.part_len (Zs.few lx) (Zs.few ly) false; have := Ha_5.out.len; have := Za.out; omega)
    clear hown hb hn hN HB4 Ha_4 Hb_4
    go_wp2_with fail
    refine (has15 Ad Nd cd (Zs.part (Zs.few lx) (Zs.few ly) false) k _ w5 Hd_5.out).mono ?_; rintro e w9 ⟨rfl, rfl⟩
    rw [Zs.in_without, show decide (k ∈ Zs.few lx) = false from HP.out, show decide (k ∈ Zs.few ly) = true from HQ.out]
    go_wp2_with fail
    clear Hd_5
    refine (of15 Aa Na ca (Zs.few lx) w5 Ha_5.out (by have := Za.out; omega)).mono ?_; rintro e w6 ⟨v, rfl, hown, hb⟩
    have HB6 := Lib.hid (HB5.out.trans (hb.mono HB5.out.size))
    have Ha_6 := Lib.hid (Ha_5.out.keep hb hb.size)
    have Hb_6 := Lib.hid (Hb_5.out.keep hb hb.size)
    obtain ⟨Ao, No, co, rfl, hN, hn⟩ := hown.numsN (fun x hx => Ha_6.out.wf x (Zs.mem_of.1 hx))
    have Ho_6 := Lib.hid hn
    have Zo := Lib.hid (show No ≤ 40 by have hl := hN.out; have := Zs.of_len (Zs.few lx); have := Ha_6.out.len; have := Za.out; omega)
    clear hown hb hn hN HB5 Ha_5 Hb_5
    go_wp2_with fail
    refine (has15 Ao No co (Zs.of (Zs.few lx)) k _ w6 Ho_6.out).mono ?_; rintro e w9 ⟨rfl, rfl⟩
    rw [Zs.in_of, show decide (k ∈ Zs.few lx) = false from HP.out]
    go_wp2_with fail
    clear Ho_6
    refine (awake15 w6).mono ?_; rintro e w7 ⟨rfl, hb⟩
    have HB7 := Lib.hid (HB6.out.trans (hb.mono HB6.out.size))
    have Ha_7 := Lib.hid (Ha_6.out.keep hb hb.size)
    have Hb_7 := Lib.hid (Hb_6.out.keep hb hb.size)
    clear hb HB6 Ha_6 Hb_6
    go_wp2_with fail
    go_ret
    exact ⟨rfl, HB7.out⟩
  · refine (has15 Aa Na ca (Zs.few lx) k _ w2 Ha_2.out).mono ?_; rintro e w9 ⟨rfl, rfl⟩
    rw [show decide (k ∈ Zs.few lx) = true from HP.out]
    go_wp2_with fail
    refine (has15 Ab Nb cb (Zs.few ly) k _ w2 Hb_2.out).mono ?_; rintro e w9 ⟨rfl, rfl⟩
    rw [show decide (k ∈ Zs.few ly) = false from HQ.out]
    go_wp2_with fail
    refine (union15 Aa Na ca (Zs.few lx) Ab Nb cb (Zs.few ly) w2 Ha_2.out Hb_2.out (by have := Za.out; omega) (by have := Zb.out; omega)).mono ?_; rintro e w3 ⟨v, rfl, hown, hb⟩
    have HB3 := Lib.hid (HB2.out.trans (hb.mono HB2.out.size))
    have Ha_3 := Lib.hid (Ha_2.out.keep hb hb.size)
    have Hb_3 := Lib.hid (Hb_2.out.keep hb hb.size)
    obtain ⟨Au, Nu, cu, rfl, hN, hn⟩ := hown.numsN (fun x hx => (List.mem_append.1 (Zs.mem_of.1 hx)).elim (Ha_3.out.wf x) (Hb_3.out.wf x))
    have Hu_3 := Lib.hid hn
    have Zu := Lib.hid (show Nu ≤ 80 by have hl := hN.out; have := Zs.of_len (Zs.few lx ++ Zs.few ly); rw [List.length_append] at this; have := Ha_3.out.len; have := Hb_3.out.len; have := Za.out; have := Zb.out; omega)
    clear hown hb hn hN HB2 Ha_2 Hb_2
    go_wp2_with fail
    refine (has15 Au Nu cu (Zs.of (Zs.few lx ++ Zs.few ly)) k _ w3 Hu_3.out).mono ?_; rintro e w9 ⟨rfl, rfl⟩
    rw [Zs.in_union, show decide (k ∈ Zs.few lx) = true from HP.out, show decide (k ∈ Zs.few ly) = false from HQ.out]
    go_wp2_with fail
    clear Hu_3
    refine (both15 Aa Na ca (Zs.few lx) Ab Nb cb (Zs.few ly) w3 Ha_3.out Hb_3.out (by have := Za.out; omega) (by have := Zb.out; omega)).mono ?_; rintro e w4 ⟨v, rfl, hown, hb⟩
    have HB4 := Lib.hid (HB3.out.trans (hb.mono HB3.out.size))
    have Ha_4 := Lib.hid (Ha_3.out.keep hb hb.size)
    have Hb_4 := Lib.hid (Hb_3.out.keep hb hb.size)
    obtain ⟨Am, Nm, cm, rfl, hN, hn⟩ := hown.numsN (fun x hx => Ha_4.out.wf x (Zs.mem_part.1 hx).1)
    have Hm_4 := Lib.hid hn
    have Zm := Lib.hid (show Nm ≤ 40 by have hl := hN.out; have := Zs.part_len (Zs.few lx) (Zs.few ly) true; have := Ha_4.out.len; have := Za.out; omega)
    clear hown hb hn hN HB3 Ha_3 Hb_3
    go_wp2_with fail
    refine (has15 Am Nm cm (Zs.part (Zs.few lx) (Zs.few ly) true) k _ w4 Hm_4.out).mono ?_; rintro e w9 ⟨rfl, rfl⟩
    rw [Zs.in_both, show decide (k ∈ Zs.few lx) = true from HP.out, show decide (k ∈ Zs.few ly) = false from HQ.out]
    go_wp2_with fail
    clear Hm_4
    refine (without15 Aa Na ca (Zs.few lx) Ab Nb cb (Zs.few ly) w4 Ha_4.out Hb_4.out (by have := Za.out; omega) (by have := Zb.out; omega)).mono ?_; rintro e w5 ⟨v, rfl, hown, hb⟩
    have HB5 := Lib.hid (HB4.out.trans (hb.mono HB4.out.size))
    have Ha_5 := Lib.hid (Ha_4.out.keep hb hb.size)
    have Hb_5 := Lib.hid (Hb_4.out.keep hb hb.size)
    obtain ⟨Ad, Nd, cd, rfl, hN, hn⟩ := hown.numsN (fun x hx => Ha_5.out.wf x (Zs.mem_part.1 hx).1)
    have Hd_5 := Lib.hid hn
    have Zd := Lib.hid (show Nd ≤ 40 by have hl := hN.out; have := Zs.part_len (Zs.few lx) (Zs.few ly) false; have := Ha_5.out.len; have := Za.out; omega)
    clear hown hb hn hN HB4 Ha_4 Hb_4
    go_wp2_with fail
    refine (has15 Ad Nd cd (Zs.part (Zs.few lx) (Zs.few ly) false) k _ w5 Hd_5.out).mono ?_; rintro e w9 ⟨rfl, rfl⟩
    rw [Zs.in_without, show decide (k ∈ Zs.few lx) = true from HP.out, show decide (k ∈ Zs.few ly) = false from HQ.out]
    go_wp2_with fail
    clear Hd_5
    refine (of15 Aa Na ca (Zs.few lx) w5 Ha_5.out (by have := Za.out; omega)).mono ?_; rintro e w6 ⟨v, rfl, hown, hb⟩
    have HB6 := Lib.hid (HB5.out.trans (hb.mono HB5.out.size))
    have Ha_6 := Lib.hid (Ha_5.out.keep hb hb.size)
    have Hb_6 := Lib.hid (Hb_5.out.keep hb hb.size)
    obtain ⟨Ao, No, co, rfl, hN, hn⟩ := hown.numsN (fun x hx => Ha_6.out.wf x (Zs.mem_of.1 hx))
    have Ho_6 := Lib.hid hn
    have Zo := Lib.hid (show No ≤ 40 by have hl := hN.out; have := Zs.of_len (Zs.few lx); have := Ha_6.out.len; have := Za.out; omega)
    clear hown hb hn hN HB5 Ha_5 Hb_5
    go_wp2_with fail
    refine (has15 Ao No co (Zs.of (Zs.few lx)) k _ w6 Ho_6.out).mono ?_; rintro e w9 ⟨rfl, rfl⟩
    rw [Zs.in_of, show decide (k ∈ Zs.few lx) = true from HP.out]
    go_wp2_with fail
    clear Ho_6
    refine (awake15 w6).mono ?_; rintro e w7 ⟨rfl, hb⟩
    have HB7 := Lib.hid (HB6.out.trans (hb.mono HB6.out.size))
    have Ha_7 := Lib.hid (Ha_6.out.keep hb hb.size)
    have Hb_7 := Lib.hid (Hb_6.out.keep hb hb.size)
    clear hb HB6 Ha_6 Hb_6
    go_wp2_with fail
    go_ret
    exact ⟨rfl, HB7.out⟩
  · refine (has15 Aa Na ca (Zs.few lx) k _ w2 Ha_2.out).mono ?_; rintro e w9 ⟨rfl, rfl⟩
    rw [show decide (k ∈ Zs.few lx) = true from HP.out]
    go_wp2_with fail
    refine (has15 Ab Nb cb (Zs.few ly) k _ w2 Hb_2.out).mono ?_; rintro e w9 ⟨rfl, rfl⟩
    rw [show decide (k ∈ Zs.few ly) = true from HQ.out]
    go_wp2_with fail
    refine (union15 Aa Na ca (Zs.few lx) Ab Nb cb (Zs.few ly) w2 Ha_2.out Hb_2.out (by have := Za.out; omega) (by have := Zb.out; omega)).mono ?_; rintro e w3 ⟨v, rfl, hown, hb⟩
    have HB3 := Lib.hid (HB2.out.trans (hb.mono HB2.out.size))
    have Ha_3 := Lib.hid (Ha_2.out.keep hb hb.size)
    have Hb_3 := Lib.hid (Hb_2.out.keep hb hb.size)
    obtain ⟨Au, Nu, cu, rfl, hN, hn⟩ := hown.numsN (fun x hx => (List.mem_append.1 (Zs.mem_of.1 hx)).elim (Ha_3.out.wf x) (Hb_3.out.wf x))
    have Hu_3 := Lib.hid hn
    have Zu := Lib.hid (show Nu ≤ 80 by have hl := hN.out; have := Zs.of_len (Zs.few lx ++ Zs.few ly); rw [List.length_append] at this; have := Ha_3.out.len; have := Hb_3.out.len; have := Za.out; have := Zb.out; omega)
    clear hown hb hn hN HB2 Ha_2 Hb_2
    go_wp2_with fail
    refine (has15 Au Nu cu (Zs.of (Zs.few lx ++ Zs.few ly)) k _ w3 Hu_3.out).mono ?_; rintro e w9 ⟨rfl, rfl⟩
    rw [Zs.in_union, show decide (k ∈ Zs.few lx) = true from HP.out, show decide (k ∈ Zs.few ly) = true from HQ.out]
    go_wp2_with fail
    clear Hu_3
    refine (both15 Aa Na ca (Zs.few lx) Ab Nb cb (Zs.few ly) w3 Ha_3.out Hb_3.out (by have := Za.out; omega) (by have := Zb.out; omega)).mono ?_; rintro e w4 ⟨v, rfl, hown, hb⟩
    have HB4 := Lib.hid (HB3.out.trans (hb.mono HB3.out.size))
    have Ha_4 := Lib.hid (Ha_3.out.keep hb hb.size)
    have Hb_4 := Lib.hid (Hb_3.out.keep hb hb.size)
    obtain ⟨Am, Nm, cm, rfl, hN, hn⟩ := hown.numsN (fun x hx => Ha_4.out.wf x (Zs.mem_part.1 hx).1)
    have Hm_4 := Lib.hid hn
    have Zm := Lib.hid (show Nm ≤ 40 by have hl := hN.out; have := Zs.part_len (Zs.few lx) (Zs.few ly) true; have := Ha_4.out.len; have := Za.out; omega)
    clear hown hb hn hN HB3 Ha_3 Hb_3
    go_wp2_with fail
    refine (has15 Am Nm cm (Zs.part (Zs.few lx) (Zs.few ly) true) k _ w4 Hm_4.out).mono ?_; rintro e w9 ⟨rfl, rfl⟩
    rw [Zs.in_both, show decide (k ∈ Zs.few lx) = true from HP.out, show decide (k ∈ Zs.few ly) = true from HQ.out]
    go_wp2_with fail
    clear Hm_4
    refine (without15 Aa Na ca (Zs.few lx) Ab Nb cb (Zs.few ly) w4 Ha_4.out Hb_4.out (by have := Za.out; omega) (by have := Zb.out; omega)).mono ?_; rintro e w5 ⟨v, rfl, hown, hb⟩
    have HB5 := Lib.hid (HB4.out.trans (hb.mono HB4.out.size))
    have Ha_5 := Lib.hid (Ha_4.out.keep hb hb.size)
    have Hb_5 := Lib.hid (Hb_4.out.keep hb hb.size)
    obtain ⟨Ad, Nd, cd, rfl, hN, hn⟩ := hown.numsN (fun x hx => Ha_5.out.wf x (Zs.mem_part.1 hx).1)
    have Hd_5 := Lib.hid hn
    have Zd := Lib.hid (show Nd ≤ 40 by have hl := hN.out; have := Zs.part_len (Zs.few lx) (Zs.few ly) false; have := Ha_5.out.len; have := Za.out; omega)
    clear hown hb hn hN HB4 Ha_4 Hb_4
    go_wp2_with fail
    refine (has15 Ad Nd cd (Zs.part (Zs.few lx) (Zs.few ly) false) k _ w5 Hd_5.out).mono ?_; rintro e w9 ⟨rfl, rfl⟩
    rw [Zs.in_without, show decide (k ∈ Zs.few lx) = true from HP.out, show decide (k ∈ Zs.few ly) = true from HQ.out]
    go_wp2_with fail
    clear Hd_5
    refine (of15 Aa Na ca (Zs.few lx) w5 Ha_5.out (by have := Za.out; omega)).mono ?_; rintro e w6 ⟨v, rfl, hown, hb⟩
    have HB6 := Lib.hid (HB5.out.trans (hb.mono HB5.out.size))
    have Ha_6 := Lib.hid (Ha_5.out.keep hb hb.size)
    have Hb_6 := Lib.hid (Hb_5.out.keep hb hb.size)
    obtain ⟨Ao, No, co, rfl, hN, hn⟩ := hown.numsN (fun x hx => Ha_6.out.wf x (Zs.mem_of.1 hx))
    have Ho_6 := Lib.hid hn
    have Zo := Lib.hid (show No ≤ 40 by have hl := hN.out; have := Zs.of_len (Zs.few lx); have := Ha_6.out.len; have := Za.out; omega)
    clear hown hb hn hN HB5 Ha_5 Hb_5
    go_wp2_with fail
    refine (has15 Ao No co (Zs.of (Zs.few lx)) k _ w6 Ho_6.out).mono ?_; rintro e w9 ⟨rfl, rfl⟩
    rw [Zs.in_of, show decide (k ∈ Zs.few lx) = true from HP.out]
    go_wp2_with fail
    clear Ho_6
    refine (awake15 w6).mono ?_; rintro e w7 ⟨rfl, hb⟩
    have HB7 := Lib.hid (HB6.out.trans (hb.mono HB6.out.size))
    have Ha_7 := Lib.hid (Ha_6.out.keep hb hb.size)
    have Hb_7 := Lib.hid (Hb_6.out.keep hb hb.size)
    clear hb HB6 Ha_6 Hb_6
    go_wp2_with fail
    go_ret
    exact ⟨rfl, HB7.out⟩
set_option maxHeartbeats 1600000 in
theorem walkLaws (W : World) (Ax : Option Addr) (Nx cx : Nat) (lx : List Int) (hx : Nums W .u8 W.heap.size Ax Nx cx lx) (Ay : Option Addr) (Ny cy : Nat) (ly : List Int) (hy : Nums W .u8 W.heap.size Ay Ny cy ly) (Az : Option Addr) (Nz cz : Nat) (lz : List Int) (hz : Nums W .u8 W.heap.size Az Nz cz lz) :
    Calls Try.prog 6 #[.slice Ax Nx cx, .slice Ay Ny cy, .slice Az Nz cz] W fun e w => e = .returned (.bool true) ∧ Below W.heap.size W w := by
  have HB0 := Lib.hid (Below.refl W.heap.size W)
  have Hx_0 := Lib.hid hx
  have Hy_0 := Lib.hid hy
  have Hz_0 := Lib.hid hz
  clear hx hy hz
  go_enter Try.func6, Try.ntmps6
  go_wp2_with fail
  refine (few15 Ax Nx cx lx W Hx_0.out).mono ?_; rintro e w1 ⟨v, rfl, hown, hb⟩
  have HB1 := Lib.hid (HB0.out.trans (hb.mono HB0.out.size))
  have Hx_1 := Lib.hid (Hx_0.out.keep hb hb.size)
  have Hy_1 := Lib.hid (Hy_0.out.keep hb hb.size)
  have Hz_1 := Lib.hid (Hz_0.out.keep hb hb.size)
  obtain ⟨Aa, Na, ca, rfl, hN, hn⟩ := hown.numsN (Zs.few_wf _)
  have Ha_1 := Lib.hid hn
  have Za := Lib.hid (show Na ≤ 40 by have hl := hN.out; have := Zs.few_len lx; omega)
  clear hown hb hn hN HB0 Hx_0 Hy_0 Hz_0
  go_wp2_with fail
  clear Hx_1
  refine (few15 Ay Ny cy ly w1 Hy_1.out).mono ?_; rintro e w2 ⟨v, rfl, hown, hb⟩
  have HB2 := Lib.hid (HB1.out.trans (hb.mono HB1.out.size))
  have Hy_2 := Lib.hid (Hy_1.out.keep hb hb.size)
  have Hz_2 := Lib.hid (Hz_1.out.keep hb hb.size)
  have Ha_2 := Lib.hid (Ha_1.out.keep hb hb.size)
  obtain ⟨Ab, Nb, cb, rfl, hN, hn⟩ := hown.numsN (Zs.few_wf _)
  have Hb_2 := Lib.hid hn
  have Zb := Lib.hid (show Nb ≤ 40 by have hl := hN.out; have := Zs.few_len ly; omega)
  clear hown hb hn hN HB1 Hy_1 Hz_1 Ha_1
  go_wp2_with fail
  clear Hy_2
  refine (few15 Az Nz cz lz w2 Hz_2.out).mono ?_; rintro e w3 ⟨v, rfl, hown, hb⟩
  have HB3 := Lib.hid (HB2.out.trans (hb.mono HB2.out.size))
  have Hz_3 := Lib.hid (Hz_2.out.keep hb hb.size)
  have Ha_3 := Lib.hid (Ha_2.out.keep hb hb.size)
  have Hb_3 := Lib.hid (Hb_2.out.keep hb hb.size)
  obtain ⟨Ac, Nc, cc, rfl, hN, hn⟩ := hown.numsN (Zs.few_wf _)
  have Hc_3 := Lib.hid hn
  have Zc := Lib.hid (show Nc ≤ 40 by have hl := hN.out; have := Zs.few_len lz; omega)
  clear hown hb hn hN HB2 Hz_2 Ha_2 Hb_2
  go_wp2_with fail
  clear Hz_3
  refine (union15 Aa Na ca (Zs.few lx) Ab Nb cb (Zs.few ly) w3 Ha_3.out Hb_3.out (by have := Za.out; omega) (by have := Zb.out; omega)).mono ?_; rintro e w4 ⟨v, rfl, hown, hb⟩
  have HB4 := Lib.hid (HB3.out.trans (hb.mono HB3.out.size))
  have Ha_4 := Lib.hid (Ha_3.out.keep hb hb.size)
  have Hb_4 := Lib.hid (Hb_3.out.keep hb hb.size)
  have Hc_4 := Lib.hid (Hc_3.out.keep hb hb.size)
  obtain ⟨Aab, Nab, cab, rfl, hN, hn⟩ := hown.numsN (fun x hx => (List.mem_append.1 (Zs.mem_of.1 hx)).elim (Ha_4.out.wf x) (Hb_4.out.wf x))
  have Hab_4 := Lib.hid hn
  have Zab := Lib.hid (show Nab ≤ 80 by have hl := hN.out; have := Zs.of_len (Zs.few lx ++ Zs.few ly); rw [List.length_append] at this; have := Ha_4.out.len; have := Hb_4.out.len; have := Za.out; have := Zb.out; omega)
  clear hown hb hn hN HB3 Ha_3 Hb_3 Hc_3
  go_wp2_with fail
  refine (union15 Ab Nb cb (Zs.few ly) Ac Nc cc (Zs.few lz) w4 Hb_4.out Hc_4.out (by have := Zb.out; omega) (by have := Zc.out; omega)).mono ?_; rintro e w5 ⟨v, rfl, hown, hb⟩
  have HB5 := Lib.hid (HB4.out.trans (hb.mono HB4.out.size))
  have Ha_5 := Lib.hid (Ha_4.out.keep hb hb.size)
  have Hb_5 := Lib.hid (Hb_4.out.keep hb hb.size)
  have Hc_5 := Lib.hid (Hc_4.out.keep hb hb.size)
  have Hab_5 := Lib.hid (Hab_4.out.keep hb hb.size)
  obtain ⟨Abc, Nbc, cbc, rfl, hN, hn⟩ := hown.numsN (fun x hx => (List.mem_append.1 (Zs.mem_of.1 hx)).elim (Hb_5.out.wf x) (Hc_5.out.wf x))
  have Hbc_5 := Lib.hid hn
  have Zbc := Lib.hid (show Nbc ≤ 80 by have hl := hN.out; have := Zs.of_len (Zs.few ly ++ Zs.few lz); rw [List.length_append] at this; have := Hb_5.out.len; have := Hc_5.out.len; have := Zb.out; have := Zc.out; omega)
  clear hown hb hn hN HB4 Ha_4 Hb_4 Hc_4 Hab_4
  go_wp2_with fail
  refine (valid15 Aab Nab cab (Zs.of (Zs.few lx ++ Zs.few ly)) _ w5 Hab_5.out).mono ?_; rintro e w6 ⟨rfl, hb⟩
  have HB6 := Lib.hid (HB5.out.trans (hb.mono HB5.out.size))
  have Ha_6 := Lib.hid (Ha_5.out.keep hb hb.size)
  have Hb_6 := Lib.hid (Hb_5.out.keep hb hb.size)
  have Hc_6 := Lib.hid (Hc_5.out.keep hb hb.size)
  have Hab_6 := Lib.hid (Hab_5.out.keep hb hb.size)
  have Hbc_6 := Lib.hid (Hbc_5.out.keep hb hb.size)
  clear hb HB5 Ha_5 Hb_5 Hc_5 Hab_5 Hbc_5
  rw [show decide (Zs.Asc (Zs.of (Zs.few lx ++ Zs.few ly))) = true from decide_eq_true (Zs.asc_of _)]
  go_wp2_with fail
  refine (union15 Ab Nb cb (Zs.few ly) Aa Na ca (Zs.few lx) w6 Hb_6.out Ha_6.out (by have := Zb.out; omega) (by have := Za.out; omega)).mono ?_; rintro e w7 ⟨v, rfl, hown, hb⟩
  have HB7 := Lib.hid (HB6.out.trans (hb.mono HB6.out.size))
  have Ha_7 := Lib.hid (Ha_6.out.keep hb hb.size)
  have Hb_7 := Lib.hid (Hb_6.out.keep hb hb.size)
  have Hc_7 := Lib.hid (Hc_6.out.keep hb hb.size)
  have Hab_7 := Lib.hid (Hab_6.out.keep hb hb.size)
  have Hbc_7 := Lib.hid (Hbc_6.out.keep hb hb.size)
  obtain ⟨Aba, Nba, cba, rfl, hN, hn⟩ := hown.numsN (fun x hx => (List.mem_append.1 (Zs.mem_of.1 hx)).elim (Hb_7.out.wf x) (Ha_7.out.wf x))
  have Hba_7 := Lib.hid hn
  have Zba := Lib.hid (show Nba ≤ 80 by have hl := hN.out; have := Zs.of_len (Zs.few ly ++ Zs.few lx); rw [List.length_append] at this; have := Hb_7.out.len; have := Ha_7.out.len; have := Zb.out; have := Za.out; omega)
  clear hown hb hn hN HB6 Ha_6 Hb_6 Hc_6 Hab_6 Hbc_6
  go_wp2_with fail
  refine (ints_b Aab Aba Nab cab Nba cba (Zs.of (Zs.few lx ++ Zs.few ly)) (Zs.of (Zs.few ly ++ Zs.few lx)) _ _ true w7 Hab_7.out Hba_7.out (decide_eq_true (Zs.Asc.ext (Zs.asc_of _) (Zs.asc_of _) fun x => by grind [Zs.mem_of, Zs.mem_part]))).mono ?_; rintro e w8 ⟨rfl, hb⟩
  have HB8 := Lib.hid (HB7.out.trans (hb.mono HB7.out.size))
  have Ha_8 := Lib.hid (Ha_7.out.keep hb hb.size)
  have Hb_8 := Lib.hid (Hb_7.out.keep hb hb.size)
  have Hc_8 := Lib.hid (Hc_7.out.keep hb hb.size)
  have Hab_8 := Lib.hid (Hab_7.out.keep hb hb.size)
  have Hbc_8 := Lib.hid (Hbc_7.out.keep hb hb.size)
  have Hba_8 := Lib.hid (Hba_7.out.keep hb hb.size)
  clear hb HB7 Ha_7 Hb_7 Hc_7 Hab_7 Hbc_7 Hba_7
  go_wp2_with fail
  clear Hba_8
  refine (union15 Aab Nab cab (Zs.of (Zs.few lx ++ Zs.few ly)) Ac Nc cc (Zs.few lz) w8 Hab_8.out Hc_8.out (by have := Zab.out; omega) (by have := Zc.out; omega)).mono ?_; rintro e w9 ⟨v, rfl, hown, hb⟩
  have HB9 := Lib.hid (HB8.out.trans (hb.mono HB8.out.size))
  have Ha_9 := Lib.hid (Ha_8.out.keep hb hb.size)
  have Hb_9 := Lib.hid (Hb_8.out.keep hb hb.size)
  have Hc_9 := Lib.hid (Hc_8.out.keep hb hb.size)
  have Hab_9 := Lib.hid (Hab_8.out.keep hb hb.size)
  have Hbc_9 := Lib.hid (Hbc_8.out.keep hb hb.size)
  obtain ⟨Au1, Nu1, cu1, rfl, hN, hn⟩ := hown.numsN (fun x hx => (List.mem_append.1 (Zs.mem_of.1 hx)).elim (Hab_9.out.wf x) (Hc_9.out.wf x))
  have Hu1_9 := Lib.hid hn
  have Zu1 := Lib.hid (show Nu1 ≤ 120 by have hl := hN.out; have := Zs.of_len (Zs.of (Zs.few lx ++ Zs.few ly) ++ Zs.few lz); rw [List.length_append] at this; have := Hab_9.out.len; have := Hc_9.out.len; have := Zab.out; have := Zc.out; omega)
  clear hown hb hn hN HB8 Ha_8 Hb_8 Hc_8 Hab_8 Hbc_8
  go_wp2_with fail
  refine (union15 Aa Na ca (Zs.few lx) Abc Nbc cbc (Zs.of (Zs.few ly ++ Zs.few lz)) w9 Ha_9.out Hbc_9.out (by have := Za.out; omega) (by have := Zbc.out; omega)).mono ?_; rintro e w10 ⟨v, rfl, hown, hb⟩
  have HB10 := Lib.hid (HB9.out.trans (hb.mono HB9.out.size))
  have Ha_10 := Lib.hid (Ha_9.out.keep hb hb.size)
  have Hb_10 := Lib.hid (Hb_9.out.keep hb hb.size)
  have Hc_10 := Lib.hid (Hc_9.out.keep hb hb.size)
  have Hab_10 := Lib.hid (Hab_9.out.keep hb hb.size)
  have Hbc_10 := Lib.hid (Hbc_9.out.keep hb hb.size)
  have Hu1_10 := Lib.hid (Hu1_9.out.keep hb hb.size)
  obtain ⟨Au2, Nu2, cu2, rfl, hN, hn⟩ := hown.numsN (fun x hx => (List.mem_append.1 (Zs.mem_of.1 hx)).elim (Ha_10.out.wf x) (Hbc_10.out.wf x))
  have Hu2_10 := Lib.hid hn
  have Zu2 := Lib.hid (show Nu2 ≤ 120 by have hl := hN.out; have := Zs.of_len (Zs.few lx ++ Zs.of (Zs.few ly ++ Zs.few lz)); rw [List.length_append] at this; have := Ha_10.out.len; have := Hbc_10.out.len; have := Za.out; have := Zbc.out; omega)
  clear hown hb hn hN HB9 Ha_9 Hb_9 Hc_9 Hab_9 Hbc_9 Hu1_9
  go_wp2_with fail
  refine (ints_b Au1 Au2 Nu1 cu1 Nu2 cu2 (Zs.of (Zs.of (Zs.few lx ++ Zs.few ly) ++ Zs.few lz)) (Zs.of (Zs.few lx ++ Zs.of (Zs.few ly ++ Zs.few lz))) _ _ true w10 Hu1_10.out Hu2_10.out (decide_eq_true (Zs.Asc.ext (Zs.asc_of _) (Zs.asc_of _) fun x => by grind [Zs.mem_of, Zs.mem_part]))).mono ?_; rintro e w11 ⟨rfl, hb⟩
  have HB11 := Lib.hid (HB10.out.trans (hb.mono HB10.out.size))
  have Ha_11 := Lib.hid (Ha_10.out.keep hb hb.size)
  have Hb_11 := Lib.hid (Hb_10.out.keep hb hb.size)
  have Hc_11 := Lib.hid (Hc_10.out.keep hb hb.size)
  have Hab_11 := Lib.hid (Hab_10.out.keep hb hb.size)
  have Hbc_11 := Lib.hid (Hbc_10.out.keep hb hb.size)
  have Hu1_11 := Lib.hid (Hu1_10.out.keep hb hb.size)
  have Hu2_11 := Lib.hid (Hu2_10.out.keep hb hb.size)
  clear hb HB10 Ha_10 Hb_10 Hc_10 Hab_10 Hbc_10 Hu1_10 Hu2_10
  go_wp2_with fail
  clear Hu1_11 Hu2_11
  refine (both15 Aa Na ca (Zs.few lx) Ab Nb cb (Zs.few ly) w11 Ha_11.out Hb_11.out (by have := Za.out; omega) (by have := Zb.out; omega)).mono ?_; rintro e w12 ⟨v, rfl, hown, hb⟩
  have HB12 := Lib.hid (HB11.out.trans (hb.mono HB11.out.size))
  have Ha_12 := Lib.hid (Ha_11.out.keep hb hb.size)
  have Hb_12 := Lib.hid (Hb_11.out.keep hb hb.size)
  have Hc_12 := Lib.hid (Hc_11.out.keep hb hb.size)
  have Hab_12 := Lib.hid (Hab_11.out.keep hb hb.size)
  have Hbc_12 := Lib.hid (Hbc_11.out.keep hb hb.size)
  obtain ⟨Ap1, Np1, cp1, rfl, hN, hn⟩ := hown.numsN (fun x hx => Ha_12.out.wf x (Zs.mem_part.1 hx).1)
  have Hp1_12 := Lib.hid hn
  have Zp1 := Lib.hid (show Np1 ≤ 40 by have hl := hN.out; have := Zs.part_len (Zs.few lx) (Zs.few ly) true; have := Ha_12.out.len; have := Za.out; omega)
  clear hown hb hn hN HB11 Ha_11 Hb_11 Hc_11 Hab_11 Hbc_11
  go_wp2_with fail
  refine (both15 Ab Nb cb (Zs.few ly) Aa Na ca (Zs.few lx) w12 Hb_12.out Ha_12.out (by have := Zb.out; omega) (by have := Za.out; omega)).mono ?_; rintro e w13 ⟨v, rfl, hown, hb⟩
  have HB13 := Lib.hid (HB12.out.trans (hb.mono HB12.out.size))
  have Ha_13 := Lib.hid (Ha_12.out.keep hb hb.size)
  have Hb_13 := Lib.hid (Hb_12.out.keep hb hb.size)
  have Hc_13 := Lib.hid (Hc_12.out.keep hb hb.size)
  have Hab_13 := Lib.hid (Hab_12.out.keep hb hb.size)
  have Hbc_13 := Lib.hid (Hbc_12.out.keep hb hb.size)
  have Hp1_13 := Lib.hid (Hp1_12.out.keep hb hb.size)
  obtain ⟨Ap2, Np2, cp2, rfl, hN, hn⟩ := hown.numsN (fun x hx => Hb_13.out.wf x (Zs.mem_part.1 hx).1)
  have Hp2_13 := Lib.hid hn
  have Zp2 := Lib.hid (show Np2 ≤ 40 by have hl := hN.out; have := Zs.part_len (Zs.few ly) (Zs.few lx) true; have := Hb_13.out.len; have := Zb.out; omega)
  clear hown hb hn hN HB12 Ha_12 Hb_12 Hc_12 Hab_12 Hbc_12 Hp1_12
  go_wp2_with fail
  refine (ints_b Ap1 Ap2 Np1 cp1 Np2 cp2 (Zs.part (Zs.few lx) (Zs.few ly) true) (Zs.part (Zs.few ly) (Zs.few lx) true) _ _ true w13 Hp1_13.out Hp2_13.out (decide_eq_true (Zs.Asc.ext (Zs.asc_part _ _ _) (Zs.asc_part _ _ _) fun x => by grind [Zs.mem_of, Zs.mem_part]))).mono ?_; rintro e w14 ⟨rfl, hb⟩
  have HB14 := Lib.hid (HB13.out.trans (hb.mono HB13.out.size))
  have Ha_14 := Lib.hid (Ha_13.out.keep hb hb.size)
  have Hb_14 := Lib.hid (Hb_13.out.keep hb hb.size)
  have Hc_14 := Lib.hid (Hc_13.out.keep hb hb.size)
  have Hab_14 := Lib.hid (Hab_13.out.keep hb hb.size)
  have Hbc_14 := Lib.hid (Hbc_13.out.keep hb hb.size)
  have Hp1_14 := Lib.hid (Hp1_13.out.keep hb hb.size)
  have Hp2_14 := Lib.hid (Hp2_13.out.keep hb hb.size)
  clear hb HB13 Ha_13 Hb_13 Hc_13 Hab_13 Hbc_13 Hp1_13 Hp2_13
  go_wp2_with fail
  clear Hp1_14 Hp2_14
  refine (both15 Aa Na ca (Zs.few lx) Abc Nbc cbc (Zs.of (Zs.few ly ++ Zs.few lz)) w14 Ha_14.out Hbc_14.out (by have := Za.out; omega) (by have := Zbc.out; omega)).mono ?_; rintro e w15 ⟨v, rfl, hown, hb⟩
  have HB15 := Lib.hid (HB14.out.trans (hb.mono HB14.out.size))
  have Ha_15 := Lib.hid (Ha_14.out.keep hb hb.size)
  have Hb_15 := Lib.hid (Hb_14.out.keep hb hb.size)
  have Hc_15 := Lib.hid (Hc_14.out.keep hb hb.size)
  have Hab_15 := Lib.hid (Hab_14.out.keep hb hb.size)
  have Hbc_15 := Lib.hid (Hbc_14.out.keep hb hb.size)
  obtain ⟨Aq1, Nq1, cq1, rfl, hN, hn⟩ := hown.numsN (fun x hx => Ha_15.out.wf x (Zs.mem_part.1 hx).1)
  have Hq1_15 := Lib.hid hn
  have Zq1 := Lib.hid (show Nq1 ≤ 40 by have hl := hN.out; have := Zs.part_len (Zs.few lx) (Zs.of (Zs.few ly ++ Zs.few lz)) true; have := Ha_15.out.len; have := Za.out; omega)
  clear hown hb hn hN HB14 Ha_14 Hb_14 Hc_14 Hab_14 Hbc_14
  go_wp2_with fail
  refine (both15 Aa Na ca (Zs.few lx) Ab Nb cb (Zs.few ly) w15 Ha_15.out Hb_15.out (by have := Za.out; omega) (by have := Zb.out; omega)).mono ?_; rintro e w16 ⟨v, rfl, hown, hb⟩
  have HB16 := Lib.hid (HB15.out.trans (hb.mono HB15.out.size))
  have Ha_16 := Lib.hid (Ha_15.out.keep hb hb.size)
  have Hb_16 := Lib.hid (Hb_15.out.keep hb hb.size)
  have Hc_16 := Lib.hid (Hc_15.out.keep hb hb.size)
  have Hab_16 := Lib.hid (Hab_15.out.keep hb hb.size)
  have Hbc_16 := Lib.hid (Hbc_15.out.keep hb hb.size)
  have Hq1_16 := Lib.hid (Hq1_15.out.keep hb hb.size)
  obtain ⟨Aq2, Nq2, cq2, rfl, hN, hn⟩ := hown.numsN (fun x hx => Ha_16.out.wf x (Zs.mem_part.1 hx).1)
  have Hq2_16 := Lib.hid hn
  have Zq2 := Lib.hid (show Nq2 ≤ 40 by have hl := hN.out; have := Zs.part_len (Zs.few lx) (Zs.few ly) true; have := Ha_16.out.len; have := Za.out; omega)
  clear hown hb hn hN HB15 Ha_15 Hb_15 Hc_15 Hab_15 Hbc_15 Hq1_15
  go_wp2_with fail
  refine (both15 Aa Na ca (Zs.few lx) Ac Nc cc (Zs.few lz) w16 Ha_16.out Hc_16.out (by have := Za.out; omega) (by have := Zc.out; omega)).mono ?_; rintro e w17 ⟨v, rfl, hown, hb⟩
  have HB17 := Lib.hid (HB16.out.trans (hb.mono HB16.out.size))
  have Ha_17 := Lib.hid (Ha_16.out.keep hb hb.size)
  have Hb_17 := Lib.hid (Hb_16.out.keep hb hb.size)
  have Hc_17 := Lib.hid (Hc_16.out.keep hb hb.size)
  have Hab_17 := Lib.hid (Hab_16.out.keep hb hb.size)
  have Hbc_17 := Lib.hid (Hbc_16.out.keep hb hb.size)
  have Hq1_17 := Lib.hid (Hq1_16.out.keep hb hb.size)
  have Hq2_17 := Lib.hid (Hq2_16.out.keep hb hb.size)
  obtain ⟨Aq3, Nq3, cq3, rfl, hN, hn⟩ := hown.numsN (fun x hx => Ha_17.out.wf x (Zs.mem_part.1 hx).1)
  have Hq3_17 := Lib.hid hn
  have Zq3 := Lib.hid (show Nq3 ≤ 40 by have hl := hN.out; have := Zs.part_len (Zs.few lx) (Zs.few lz) true; have := Ha_17.out.len; have := Za.out; omega)
  clear hown hb hn hN HB16 Ha_16 Hb_16 Hc_16 Hab_16 Hbc_16 Hq1_16 Hq2_16
  go_wp2_with fail
  refine (union15 Aq2 Nq2 cq2 (Zs.part (Zs.few lx) (Zs.few ly) true) Aq3 Nq3 cq3 (Zs.part (Zs.few lx) (Zs.few lz) true) w17 Hq2_17.out Hq3_17.out (by have := Zq2.out; omega) (by have := Zq3.out; omega)).mono ?_; rintro e w18 ⟨v, rfl, hown, hb⟩
  have HB18 := Lib.hid (HB17.out.trans (hb.mono HB17.out.size))
  have Ha_18 := Lib.hid (Ha_17.out.keep hb hb.size)
  have Hb_18 := Lib.hid (Hb_17.out.keep hb hb.size)
  have Hc_18 := Lib.hid (Hc_17.out.keep hb hb.size)
  have Hab_18 := Lib.hid (Hab_17.out.keep hb hb.size)
  have Hbc_18 := Lib.hid (Hbc_17.out.keep hb hb.size)
  have Hq1_18 := Lib.hid (Hq1_17.out.keep hb hb.size)
  have Hq2_18 := Lib.hid (Hq2_17.out.keep hb hb.size)
  have Hq3_18 := Lib.hid (Hq3_17.out.keep hb hb.size)
  obtain ⟨Aq4, Nq4, cq4, rfl, hN, hn⟩ := hown.numsN (fun x hx => (List.mem_append.1 (Zs.mem_of.1 hx)).elim (Hq2_18.out.wf x) (Hq3_18.out.wf x))
  have Hq4_18 := Lib.hid hn
  have Zq4 := Lib.hid (show Nq4 ≤ 80 by have hl := hN.out; have := Zs.of_len (Zs.part (Zs.few lx) (Zs.few ly) true ++ Zs.part (Zs.few lx) (Zs.few lz) true); rw [List.length_append] at this; have := Hq2_18.out.len; have := Hq3_18.out.len; have := Zq2.out; have := Zq3.out; omega)
  clear hown hb hn hN HB17 Ha_17 Hb_17 Hc_17 Hab_17 Hbc_17 Hq1_17 Hq2_17 Hq3_17
  go_wp2_with fail
  refine (ints_b Aq1 Aq4 Nq1 cq1 Nq4 cq4 (Zs.part (Zs.few lx) (Zs.of (Zs.few ly ++ Zs.few lz)) true) (Zs.of (Zs.part (Zs.few lx) (Zs.few ly) true ++ Zs.part (Zs.few lx) (Zs.few lz) true)) _ _ true w18 Hq1_18.out Hq4_18.out (decide_eq_true (Zs.Asc.ext (Zs.asc_part _ _ _) (Zs.asc_of _) fun x => by grind [Zs.mem_of, Zs.mem_part]))).mono ?_; rintro e w19 ⟨rfl, hb⟩
  have HB19 := Lib.hid (HB18.out.trans (hb.mono HB18.out.size))
  have Ha_19 := Lib.hid (Ha_18.out.keep hb hb.size)
  have Hb_19 := Lib.hid (Hb_18.out.keep hb hb.size)
  have Hc_19 := Lib.hid (Hc_18.out.keep hb hb.size)
  have Hab_19 := Lib.hid (Hab_18.out.keep hb hb.size)
  have Hbc_19 := Lib.hid (Hbc_18.out.keep hb hb.size)
  have Hq1_19 := Lib.hid (Hq1_18.out.keep hb hb.size)
  have Hq2_19 := Lib.hid (Hq2_18.out.keep hb hb.size)
  have Hq3_19 := Lib.hid (Hq3_18.out.keep hb hb.size)
  have Hq4_19 := Lib.hid (Hq4_18.out.keep hb hb.size)
  clear hb HB18 Ha_18 Hb_18 Hc_18 Hab_18 Hbc_18 Hq1_18 Hq2_18 Hq3_18 Hq4_18
  go_wp2_with fail
  clear Hq1_19 Hq2_19 Hq3_19 Hq4_19
  refine (without15 Aa Na ca (Zs.few lx) Abc Nbc cbc (Zs.of (Zs.few ly ++ Zs.few lz)) w19 Ha_19.out Hbc_19.out (by have := Za.out; omega) (by have := Zbc.out; omega)).mono ?_; rintro e w20 ⟨v, rfl, hown, hb⟩
  have HB20 := Lib.hid (HB19.out.trans (hb.mono HB19.out.size))
  have Ha_20 := Lib.hid (Ha_19.out.keep hb hb.size)
  have Hb_20 := Lib.hid (Hb_19.out.keep hb hb.size)
  have Hc_20 := Lib.hid (Hc_19.out.keep hb hb.size)
  have Hab_20 := Lib.hid (Hab_19.out.keep hb hb.size)
  have Hbc_20 := Lib.hid (Hbc_19.out.keep hb hb.size)
  obtain ⟨Ar1, Nr1, cr1, rfl, hN, hn⟩ := hown.numsN (fun x hx => Ha_20.out.wf x (Zs.mem_part.1 hx).1)
  have Hr1_20 := Lib.hid hn
  have Zr1 := Lib.hid (show Nr1 ≤ 40 by have hl := hN.out; have := Zs.part_len (Zs.few lx) (Zs.of (Zs.few ly ++ Zs.few lz)) false; have := Ha_20.out.len; have := Za.out; omega)
  clear hown hb hn hN HB19 Ha_19 Hb_19 Hc_19 Hab_19 Hbc_19
  go_wp2_with fail
  refine (without15 Aa Na ca (Zs.few lx) Ab Nb cb (Zs.few ly) w20 Ha_20.out Hb_20.out (by have := Za.out; omega) (by have := Zb.out; omega)).mono ?_; rintro e w21 ⟨v, rfl, hown, hb⟩
  have HB21 := Lib.hid (HB20.out.trans (hb.mono HB20.out.size))
  have Ha_21 := Lib.hid (Ha_20.out.keep hb hb.size)
  have Hb_21 := Lib.hid (Hb_20.out.keep hb hb.size)
  have Hc_21 := Lib.hid (Hc_20.out.keep hb hb.size)
  have Hab_21 := Lib.hid (Hab_20.out.keep hb hb.size)
  have Hbc_21 := Lib.hid (Hbc_20.out.keep hb hb.size)
  have Hr1_21 := Lib.hid (Hr1_20.out.keep hb hb.size)
  obtain ⟨Ar2, Nr2, cr2, rfl, hN, hn⟩ := hown.numsN (fun x hx => Ha_21.out.wf x (Zs.mem_part.1 hx).1)
  have Hr2_21 := Lib.hid hn
  have Zr2 := Lib.hid (show Nr2 ≤ 40 by have hl := hN.out; have := Zs.part_len (Zs.few lx) (Zs.few ly) false; have := Ha_21.out.len; have := Za.out; omega)
  clear hown hb hn hN HB20 Ha_20 Hb_20 Hc_20 Hab_20 Hbc_20 Hr1_20
  go_wp2_with fail
  refine (without15 Ar2 Nr2 cr2 (Zs.part (Zs.few lx) (Zs.few ly) false) Ac Nc cc (Zs.few lz) w21 Hr2_21.out Hc_21.out (by have := Zr2.out; omega) (by have := Zc.out; omega)).mono ?_; rintro e w22 ⟨v, rfl, hown, hb⟩
  have HB22 := Lib.hid (HB21.out.trans (hb.mono HB21.out.size))
  have Ha_22 := Lib.hid (Ha_21.out.keep hb hb.size)
  have Hb_22 := Lib.hid (Hb_21.out.keep hb hb.size)
  have Hc_22 := Lib.hid (Hc_21.out.keep hb hb.size)
  have Hab_22 := Lib.hid (Hab_21.out.keep hb hb.size)
  have Hbc_22 := Lib.hid (Hbc_21.out.keep hb hb.size)
  have Hr1_22 := Lib.hid (Hr1_21.out.keep hb hb.size)
  have Hr2_22 := Lib.hid (Hr2_21.out.keep hb hb.size)
  obtain ⟨Ar3, Nr3, cr3, rfl, hN, hn⟩ := hown.numsN (fun x hx => Hr2_22.out.wf x (Zs.mem_part.1 hx).1)
  have Hr3_22 := Lib.hid hn
  have Zr3 := Lib.hid (show Nr3 ≤ 40 by have hl := hN.out; have := Zs.part_len (Zs.part (Zs.few lx) (Zs.few ly) false) (Zs.few lz) false; have := Hr2_22.out.len; have := Zr2.out; omega)
  clear hown hb hn hN HB21 Ha_21 Hb_21 Hc_21 Hab_21 Hbc_21 Hr1_21 Hr2_21
  go_wp2_with fail
  refine (ints_b Ar1 Ar3 Nr1 cr1 Nr3 cr3 (Zs.part (Zs.few lx) (Zs.of (Zs.few ly ++ Zs.few lz)) false) (Zs.part (Zs.part (Zs.few lx) (Zs.few ly) false) (Zs.few lz) false) _ _ true w22 Hr1_22.out Hr3_22.out (decide_eq_true (Zs.Asc.ext (Zs.asc_part _ _ _) (Zs.asc_part _ _ _) fun x => by grind [Zs.mem_of, Zs.mem_part]))).mono ?_; rintro e w23 ⟨rfl, hb⟩
  have HB23 := Lib.hid (HB22.out.trans (hb.mono HB22.out.size))
  have Ha_23 := Lib.hid (Ha_22.out.keep hb hb.size)
  have Hb_23 := Lib.hid (Hb_22.out.keep hb hb.size)
  have Hc_23 := Lib.hid (Hc_22.out.keep hb hb.size)
  have Hab_23 := Lib.hid (Hab_22.out.keep hb hb.size)
  have Hbc_23 := Lib.hid (Hbc_22.out.keep hb hb.size)
  have Hr1_23 := Lib.hid (Hr1_22.out.keep hb hb.size)
  have Hr2_23 := Lib.hid (Hr2_22.out.keep hb hb.size)
  have Hr3_23 := Lib.hid (Hr3_22.out.keep hb hb.size)
  clear hb HB22 Ha_22 Hb_22 Hc_22 Hab_22 Hbc_22 Hr1_22 Hr2_22 Hr3_22
  go_wp2_with fail
  clear Hr1_23 Hr2_23 Hr3_23
  refine (both15 Aa Na ca (Zs.few lx) Ab Nb cb (Zs.few ly) w23 Ha_23.out Hb_23.out (by have := Za.out; omega) (by have := Zb.out; omega)).mono ?_; rintro e w24 ⟨v, rfl, hown, hb⟩
  have HB24 := Lib.hid (HB23.out.trans (hb.mono HB23.out.size))
  have Ha_24 := Lib.hid (Ha_23.out.keep hb hb.size)
  have Hb_24 := Lib.hid (Hb_23.out.keep hb hb.size)
  have Hc_24 := Lib.hid (Hc_23.out.keep hb hb.size)
  have Hab_24 := Lib.hid (Hab_23.out.keep hb hb.size)
  have Hbc_24 := Lib.hid (Hbc_23.out.keep hb hb.size)
  obtain ⟨At1, Nt1, ct1, rfl, hN, hn⟩ := hown.numsN (fun x hx => Ha_24.out.wf x (Zs.mem_part.1 hx).1)
  have Ht1_24 := Lib.hid hn
  have Zt1 := Lib.hid (show Nt1 ≤ 40 by have hl := hN.out; have := Zs.part_len (Zs.few lx) (Zs.few ly) true; have := Ha_24.out.len; have := Za.out; omega)
  clear hown hb hn hN HB23 Ha_23 Hb_23 Hc_23 Hab_23 Hbc_23
  go_wp2_with fail
  refine (without15 Aa Na ca (Zs.few lx) Ab Nb cb (Zs.few ly) w24 Ha_24.out Hb_24.out (by have := Za.out; omega) (by have := Zb.out; omega)).mono ?_; rintro e w25 ⟨v, rfl, hown, hb⟩
  have HB25 := Lib.hid (HB24.out.trans (hb.mono HB24.out.size))
  have Ha_25 := Lib.hid (Ha_24.out.keep hb hb.size)
  have Hb_25 := Lib.hid (Hb_24.out.keep hb hb.size)
  have Hc_25 := Lib.hid (Hc_24.out.keep hb hb.size)
  have Hab_25 := Lib.hid (Hab_24.out.keep hb hb.size)
  have Hbc_25 := Lib.hid (Hbc_24.out.keep hb hb.size)
  have Ht1_25 := Lib.hid (Ht1_24.out.keep hb hb.size)
  obtain ⟨At2, Nt2, ct2, rfl, hN, hn⟩ := hown.numsN (fun x hx => Ha_25.out.wf x (Zs.mem_part.1 hx).1)
  have Ht2_25 := Lib.hid hn
  have Zt2 := Lib.hid (show Nt2 ≤ 40 by have hl := hN.out; have := Zs.part_len (Zs.few lx) (Zs.few ly) false; have := Ha_25.out.len; have := Za.out; omega)
  clear hown hb hn hN HB24 Ha_24 Hb_24 Hc_24 Hab_24 Hbc_24 Ht1_24
  go_wp2_with fail
  refine (union15 At1 Nt1 ct1 (Zs.part (Zs.few lx) (Zs.few ly) true) At2 Nt2 ct2 (Zs.part (Zs.few lx) (Zs.few ly) false) w25 Ht1_25.out Ht2_25.out (by have := Zt1.out; omega) (by have := Zt2.out; omega)).mono ?_; rintro e w26 ⟨v, rfl, hown, hb⟩
  have HB26 := Lib.hid (HB25.out.trans (hb.mono HB25.out.size))
  have Ha_26 := Lib.hid (Ha_25.out.keep hb hb.size)
  have Hb_26 := Lib.hid (Hb_25.out.keep hb hb.size)
  have Hc_26 := Lib.hid (Hc_25.out.keep hb hb.size)
  have Hab_26 := Lib.hid (Hab_25.out.keep hb hb.size)
  have Hbc_26 := Lib.hid (Hbc_25.out.keep hb hb.size)
  have Ht1_26 := Lib.hid (Ht1_25.out.keep hb hb.size)
  have Ht2_26 := Lib.hid (Ht2_25.out.keep hb hb.size)
  obtain ⟨At3, Nt3, ct3, rfl, hN, hn⟩ := hown.numsN (fun x hx => (List.mem_append.1 (Zs.mem_of.1 hx)).elim (Ht1_26.out.wf x) (Ht2_26.out.wf x))
  have Ht3_26 := Lib.hid hn
  have Zt3 := Lib.hid (show Nt3 ≤ 80 by have hl := hN.out; have := Zs.of_len (Zs.part (Zs.few lx) (Zs.few ly) true ++ Zs.part (Zs.few lx) (Zs.few ly) false); rw [List.length_append] at this; have := Ht1_26.out.len; have := Ht2_26.out.len; have := Zt1.out; have := Zt2.out; omega)
  clear hown hb hn hN HB25 Ha_25 Hb_25 Hc_25 Hab_25 Hbc_25 Ht1_25 Ht2_25
  go_wp2_with fail
  refine (of15 Aa Na ca (Zs.few lx) w26 Ha_26.out (by have := Za.out; omega)).mono ?_; rintro e w27 ⟨v, rfl, hown, hb⟩
  have HB27 := Lib.hid (HB26.out.trans (hb.mono HB26.out.size))
  have Ha_27 := Lib.hid (Ha_26.out.keep hb hb.size)
  have Hb_27 := Lib.hid (Hb_26.out.keep hb hb.size)
  have Hc_27 := Lib.hid (Hc_26.out.keep hb hb.size)
  have Hab_27 := Lib.hid (Hab_26.out.keep hb hb.size)
  have Hbc_27 := Lib.hid (Hbc_26.out.keep hb hb.size)
  have Ht1_27 := Lib.hid (Ht1_26.out.keep hb hb.size)
  have Ht2_27 := Lib.hid (Ht2_26.out.keep hb hb.size)
  have Ht3_27 := Lib.hid (Ht3_26.out.keep hb hb.size)
  obtain ⟨At4, Nt4, ct4, rfl, hN, hn⟩ := hown.numsN (fun x hx => Ha_27.out.wf x (Zs.mem_of.1 hx))
  have Ht4_27 := Lib.hid hn
  have Zt4 := Lib.hid (show Nt4 ≤ 40 by have hl := hN.out; have := Zs.of_len (Zs.few lx); have := Ha_27.out.len; have := Za.out; omega)
  clear hown hb hn hN HB26 Ha_26 Hb_26 Hc_26 Hab_26 Hbc_26 Ht1_26 Ht2_26 Ht3_26
  go_wp2_with fail
  refine (ints_b At3 At4 Nt3 ct3 Nt4 ct4 (Zs.of (Zs.part (Zs.few lx) (Zs.few ly) true ++ Zs.part (Zs.few lx) (Zs.few ly) false)) (Zs.of (Zs.few lx)) _ _ true w27 Ht3_27.out Ht4_27.out (decide_eq_true (Zs.Asc.ext (Zs.asc_of _) (Zs.asc_of _) fun x => by grind [Zs.mem_of, Zs.mem_part]))).mono ?_; rintro e w28 ⟨rfl, hb⟩
  have HB28 := Lib.hid (HB27.out.trans (hb.mono HB27.out.size))
  have Ha_28 := Lib.hid (Ha_27.out.keep hb hb.size)
  have Hb_28 := Lib.hid (Hb_27.out.keep hb hb.size)
  have Hc_28 := Lib.hid (Hc_27.out.keep hb hb.size)
  have Hab_28 := Lib.hid (Hab_27.out.keep hb hb.size)
  have Hbc_28 := Lib.hid (Hbc_27.out.keep hb hb.size)
  have Ht1_28 := Lib.hid (Ht1_27.out.keep hb hb.size)
  have Ht2_28 := Lib.hid (Ht2_27.out.keep hb hb.size)
  have Ht3_28 := Lib.hid (Ht3_27.out.keep hb hb.size)
  have Ht4_28 := Lib.hid (Ht4_27.out.keep hb hb.size)
  clear hb HB27 Ha_27 Hb_27 Hc_27 Hab_27 Hbc_27 Ht1_27 Ht2_27 Ht3_27 Ht4_27
  go_wp2_with fail
  clear Ht1_28 Ht2_28 Ht3_28 Ht4_28
  refine (without15 Aa Na ca (Zs.few lx) Ab Nb cb (Zs.few ly) w28 Ha_28.out Hb_28.out (by have := Za.out; omega) (by have := Zb.out; omega)).mono ?_; rintro e w29 ⟨v, rfl, hown, hb⟩
  have HB29 := Lib.hid (HB28.out.trans (hb.mono HB28.out.size))
  have Ha_29 := Lib.hid (Ha_28.out.keep hb hb.size)
  have Hb_29 := Lib.hid (Hb_28.out.keep hb hb.size)
  have Hc_29 := Lib.hid (Hc_28.out.keep hb hb.size)
  have Hab_29 := Lib.hid (Hab_28.out.keep hb hb.size)
  have Hbc_29 := Lib.hid (Hbc_28.out.keep hb hb.size)
  obtain ⟨Av1, Nv1, cv1, rfl, hN, hn⟩ := hown.numsN (fun x hx => Ha_29.out.wf x (Zs.mem_part.1 hx).1)
  have Hv1_29 := Lib.hid hn
  have Zv1 := Lib.hid (show Nv1 ≤ 40 by have hl := hN.out; have := Zs.part_len (Zs.few lx) (Zs.few ly) false; have := Ha_29.out.len; have := Za.out; omega)
  clear hown hb hn hN HB28 Ha_28 Hb_28 Hc_28 Hab_28 Hbc_28
  go_wp2_with fail
  refine (both15 Av1 Nv1 cv1 (Zs.part (Zs.few lx) (Zs.few ly) false) Ab Nb cb (Zs.few ly) w29 Hv1_29.out Hb_29.out (by have := Zv1.out; omega) (by have := Zb.out; omega)).mono ?_; rintro e w30 ⟨v, rfl, hown, hb⟩
  have HB30 := Lib.hid (HB29.out.trans (hb.mono HB29.out.size))
  have Ha_30 := Lib.hid (Ha_29.out.keep hb hb.size)
  have Hb_30 := Lib.hid (Hb_29.out.keep hb hb.size)
  have Hc_30 := Lib.hid (Hc_29.out.keep hb hb.size)
  have Hab_30 := Lib.hid (Hab_29.out.keep hb hb.size)
  have Hbc_30 := Lib.hid (Hbc_29.out.keep hb hb.size)
  have Hv1_30 := Lib.hid (Hv1_29.out.keep hb hb.size)
  obtain ⟨Av2, Nv2, cv2, rfl, hN, hn⟩ := hown.numsN (fun x hx => Hv1_30.out.wf x (Zs.mem_part.1 hx).1)
  have Hv2_30 := Lib.hid hn
  have Zv2 := Lib.hid (show Nv2 ≤ 40 by have hl := hN.out; have := Zs.part_len (Zs.part (Zs.few lx) (Zs.few ly) false) (Zs.few ly) true; have := Hv1_30.out.len; have := Zv1.out; omega)
  clear hown hb hn hN HB29 Ha_29 Hb_29 Hc_29 Hab_29 Hbc_29 Hv1_29
  obtain rfl : Nv2 = 0 := by have h := Hv2_30.out.len; rw [← h, List.length_eq_zero_iff]; exact List.eq_nil_iff_forall_not_mem.2 fun x hx => by simp only [Zs.mem_part] at hx; grind
  go_wp2_with fail
  refine (awake15 w30).mono ?_; rintro e w31 ⟨rfl, hb⟩
  have HB31 := Lib.hid (HB30.out.trans (hb.mono HB30.out.size))
  have Ha_31 := Lib.hid (Ha_30.out.keep hb hb.size)
  have Hb_31 := Lib.hid (Hb_30.out.keep hb hb.size)
  have Hc_31 := Lib.hid (Hc_30.out.keep hb hb.size)
  have Hab_31 := Lib.hid (Hab_30.out.keep hb hb.size)
  have Hbc_31 := Lib.hid (Hbc_30.out.keep hb hb.size)
  have Hv1_31 := Lib.hid (Hv1_30.out.keep hb hb.size)
  have Hv2_31 := Lib.hid (Hv2_30.out.keep hb hb.size)
  clear hb HB30 Ha_30 Hb_30 Hc_30 Hab_30 Hbc_30 Hv1_30 Hv2_30
  go_wp2_with fail
  go_ret
  exact ⟨rfl, HB31.out⟩
theorem Zs.order_eq (a b : List Int) : decide (Zs.of (a ++ b) = Zs.of b) = Zs.within a b := by
  rw [Bool.eq_iff_iff, Zs.within_iff]
  simp only [decide_eq_true_eq]
  constructor
  · intro h x hx
    have : x ∈ Zs.of (a ++ b) := Zs.mem_of.2 (by simp [hx])
    rw [h] at this
    exact Zs.mem_of.1 this
  · intro h
    exact Zs.of_ext fun x => by simp only [List.mem_append]; exact ⟨fun h2 => h2.elim (h x) id, .inr⟩
set_option maxHeartbeats 1600000 in
theorem walkOrder (W : World) (Ax : Option Addr) (Nx cx : Nat) (lx : List Int) (hx : Nums W .u8 W.heap.size Ax Nx cx lx) (Ay : Option Addr) (Ny cy : Nat) (ly : List Int) (hy : Nums W .u8 W.heap.size Ay Ny cy ly) :
    Calls Try.prog 7 #[.slice Ax Nx cx, .slice Ay Ny cy] W fun e w => e = .returned (.bool true) ∧ Below W.heap.size W w := by
  have HB0 := Lib.hid (Below.refl W.heap.size W)
  have Hx_0 := Lib.hid hx
  have Hy_0 := Lib.hid hy
  clear hx hy
  rcases hp : Zs.within (Zs.few lx) (Zs.few ly) with _ | _ <;> rcases hq : Zs.within (Zs.few ly) (Zs.few lx) with _ | _ <;> have HP := Lib.hid hp <;> have HQ := Lib.hid hq <;> clear hp hq
  · go_enter Try.func7, Try.ntmps7
    go_wp2_with fail
    refine (few15 Ax Nx cx lx W Hx_0.out).mono ?_; rintro e w1 ⟨v, rfl, hown, hb⟩
    have HB1 := Lib.hid (HB0.out.trans (hb.mono HB0.out.size))
    have Hx_1 := Lib.hid (Hx_0.out.keep hb hb.size)
    have Hy_1 := Lib.hid (Hy_0.out.keep hb hb.size)
    obtain ⟨Aa, Na, ca, rfl, hN, hn⟩ := hown.numsN (Zs.few_wf _)
    have Ha_1 := Lib.hid hn
    have Za := Lib.hid (show Na ≤ 40 by have hl := hN.out; have := Zs.few_len lx; omega)
    clear hown hb hn hN HB0 Hx_0 Hy_0
    go_wp2_with fail
    clear Hx_1
    refine (few15 Ay Ny cy ly w1 Hy_1.out).mono ?_; rintro e w2 ⟨v, rfl, hown, hb⟩
    have HB2 := Lib.hid (HB1.out.trans (hb.mono HB1.out.size))
    have Hy_2 := Lib.hid (Hy_1.out.keep hb hb.size)
    have Ha_2 := Lib.hid (Ha_1.out.keep hb hb.size)
    obtain ⟨Ab, Nb, cb, rfl, hN, hn⟩ := hown.numsN (Zs.few_wf _)
    have Hb_2 := Lib.hid hn
    have Zb := Lib.hid (show Nb ≤ 40 by have hl := hN.out; have := Zs.few_len ly; omega)
    clear hown hb hn hN HB1 Hy_1 Ha_1
    go_wp2_with fail
    clear Hy_2
    refine (union15 Aa Na ca (Zs.few lx) Ab Nb cb (Zs.few ly) w2 Ha_2.out Hb_2.out (by have := Za.out; omega) (by have := Zb.out; omega)).mono ?_; rintro e w3 ⟨v, rfl, hown, hb⟩
    have HB3 := Lib.hid (HB2.out.trans (hb.mono HB2.out.size))
    have Ha_3 := Lib.hid (Ha_2.out.keep hb hb.size)
    have Hb_3 := Lib.hid (Hb_2.out.keep hb hb.size)
    obtain ⟨Au, Nu, cu, rfl, hN, hn⟩ := hown.numsN (fun x hx => (List.mem_append.1 (Zs.mem_of.1 hx)).elim (Ha_3.out.wf x) (Hb_3.out.wf x))
    have Hu_3 := Lib.hid hn
    have Zu := Lib.hid (show Nu ≤ 80 by have hl := hN.out; have := Zs.of_len (Zs.few lx ++ Zs.few ly); rw [List.length_append] at this; have := Ha_3.out.len; have := Hb_3.out.len; have := Za.out; have := Zb.out; omega)
    clear hown hb hn hN HB2 Ha_2 Hb_2
    go_wp2_with fail
    refine (within15 Aa Na ca (Zs.few lx) Au Nu cu (Zs.of (Zs.few lx ++ Zs.few ly)) w3 Ha_3.out Hu_3.out (by have := Za.out; omega) (by have := Zu.out; omega)).mono ?_; rintro e w4 ⟨rfl, hb⟩
    have HB4 := Lib.hid (HB3.out.trans (hb.mono HB3.out.size))
    have Ha_4 := Lib.hid (Ha_3.out.keep hb hb.size)
    have Hb_4 := Lib.hid (Hb_3.out.keep hb hb.size)
    have Hu_4 := Lib.hid (Hu_3.out.keep hb hb.size)
    clear hb HB3 Ha_3 Hb_3 Hu_3
    rw [show Zs.within (Zs.few lx) (Zs.of (Zs.few lx ++ Zs.few ly)) = true from Zs.within_iff.2 fun x hx => by grind [Zs.mem_of, Zs.mem_part]]
    go_wp2_with fail
    refine (within15 Ab Nb cb (Zs.few ly) Au Nu cu (Zs.of (Zs.few lx ++ Zs.few ly)) w4 Hb_4.out Hu_4.out (by have := Zb.out; omega) (by have := Zu.out; omega)).mono ?_; rintro e w5 ⟨rfl, hb⟩
    have HB5 := Lib.hid (HB4.out.trans (hb.mono HB4.out.size))
    have Ha_5 := Lib.hid (Ha_4.out.keep hb hb.size)
    have Hb_5 := Lib.hid (Hb_4.out.keep hb hb.size)
    have Hu_5 := Lib.hid (Hu_4.out.keep hb hb.size)
    clear hb HB4 Ha_4 Hb_4 Hu_4
    rw [show Zs.within (Zs.few ly) (Zs.of (Zs.few lx ++ Zs.few ly)) = true from Zs.within_iff.2 fun x hx => by grind [Zs.mem_of, Zs.mem_part]]
    go_wp2_with fail
    refine (both15 Aa Na ca (Zs.few lx) Ab Nb cb (Zs.few ly) w5 Ha_5.out Hb_5.out (by have := Za.out; omega) (by have := Zb.out; omega)).mono ?_; rintro e w6 ⟨v, rfl, hown, hb⟩
    have HB6 := Lib.hid (HB5.out.trans (hb.mono HB5.out.size))
    have Ha_6 := Lib.hid (Ha_5.out.keep hb hb.size)
    have Hb_6 := Lib.hid (Hb_5.out.keep hb hb.size)
    have Hu_6 := Lib.hid (Hu_5.out.keep hb hb.size)
    obtain ⟨Am, Nm, cm, rfl, hN, hn⟩ := hown.numsN (fun x hx => Ha_6.out.wf x (Zs.mem_part.1 hx).1)
    have Hm_6 := Lib.hid hn
    have Zm := Lib.hid (show Nm ≤ 40 by have hl := hN.out; have := Zs.part_len (Zs.few lx) (Zs.few ly) true; have := Ha_6.out.len; have := Za.out; omega)
    clear hown hb hn hN HB5 Ha_5 Hb_5 Hu_5
    go_wp2_with fail
    refine (within15 Am Nm cm (Zs.part (Zs.few lx) (Zs.few ly) true) Aa Na ca (Zs.few lx) w6 Hm_6.out Ha_6.out (by have := Zm.out; omega) (by have := Za.out; omega)).mono ?_; rintro e w7 ⟨rfl, hb⟩
    have HB7 := Lib.hid (HB6.out.trans (hb.mono HB6.out.size))
    have Ha_7 := Lib.hid (Ha_6.out.keep hb hb.size)
    have Hb_7 := Lib.hid (Hb_6.out.keep hb hb.size)
    have Hu_7 := Lib.hid (Hu_6.out.keep hb hb.size)
    have Hm_7 := Lib.hid (Hm_6.out.keep hb hb.size)
    clear hb HB6 Ha_6 Hb_6 Hu_6 Hm_6
    rw [show Zs.within (Zs.part (Zs.few lx) (Zs.few ly) true) (Zs.few lx) = true from Zs.within_iff.2 fun x hx => by grind [Zs.mem_of, Zs.mem_part]]
    go_wp2_with fail
    clear Hm_7
    refine (within15 none 0 0 [] Aa Na ca (Zs.few lx) w7 (Nums.nil _ _ _) Ha_7.out (by omega) (by have := Za.out; omega)).mono ?_; rintro e w8 ⟨rfl, hb⟩
    have HB8 := Lib.hid (HB7.out.trans (hb.mono HB7.out.size))
    have Ha_8 := Lib.hid (Ha_7.out.keep hb hb.size)
    have Hb_8 := Lib.hid (Hb_7.out.keep hb hb.size)
    have Hu_8 := Lib.hid (Hu_7.out.keep hb hb.size)
    clear hb HB7 Ha_7 Hb_7 Hu_7
    rw [show Zs.within [] (Zs.few lx) = true from rfl]
    go_wp2_with fail
    refine (within15 Aa Na ca (Zs.few lx) Ab Nb cb (Zs.few ly) w8 Ha_8.out Hb_8.out (by have := Za.out; omega) (by have := Zb.out; omega)).mono ?_; rintro e w9 ⟨rfl, hb⟩
    have HB9 := Lib.hid (HB8.out.trans (hb.mono HB8.out.size))
    have Ha_9 := Lib.hid (Ha_8.out.keep hb hb.size)
    have Hb_9 := Lib.hid (Hb_8.out.keep hb hb.size)
    have Hu_9 := Lib.hid (Hu_8.out.keep hb hb.size)
    clear hb HB8 Ha_8 Hb_8 Hu_8
    rw [show Zs.within (Zs.few lx) (Zs.few ly) = false from HP.out]
    go_wp2_with fail
    refine (of15 Ab Nb cb (Zs.few ly) w9 Hb_9.out (by have := Zb.out; omega)).mono ?_; rintro e w10 ⟨v, rfl, hown, hb⟩
    have HB10 := Lib.hid (HB9.out.trans (hb.mono HB9.out.size))
    have Ha_10 := Lib.hid (Ha_9.out.keep hb hb.size)
    have Hb_10 := Lib.hid (Hb_9.out.keep hb hb.size)
    have Hu_10 := Lib.hid (Hu_9.out.keep hb hb.size)
    obtain ⟨Aob, Nob, cob, rfl, hN, hn⟩ := hown.numsN (fun x hx => Hb_10.out.wf x (Zs.mem_of.1 hx))
    have Hob_10 := Lib.hid hn
    have Zob := Lib.hid (show Nob ≤ 40 by have hl := hN.out; have := Zs.of_len (Zs.few ly); have := Hb_10.out.len; have := Zb.out; omega)
    clear hown hb hn hN HB9 Ha_9 Hb_9 Hu_9
    go_wp2_with fail
    refine (ints_b Au Aob Nu cu Nob cob (Zs.of (Zs.few lx ++ Zs.few ly)) (Zs.of (Zs.few ly)) _ _ false w10 Hu_10.out Hob_10.out ((Zs.order_eq _ _).trans HP.out)).mono ?_; rintro e w11 ⟨rfl, hb⟩
    have HB11 := Lib.hid (HB10.out.trans (hb.mono HB10.out.size))
    have Ha_11 := Lib.hid (Ha_10.out.keep hb hb.size)
    have Hb_11 := Lib.hid (Hb_10.out.keep hb hb.size)
    have Hu_11 := Lib.hid (Hu_10.out.keep hb hb.size)
    have Hob_11 := Lib.hid (Hob_10.out.keep hb hb.size)
    clear hb HB10 Ha_10 Hb_10 Hu_10 Hob_10
    go_wp2_with fail
    clear Hob_11
    refine (within15 Aa Na ca (Zs.few lx) Ab Nb cb (Zs.few ly) w11 Ha_11.out Hb_11.out (by have := Za.out; omega) (by have := Zb.out; omega)).mono ?_; rintro e w12 ⟨rfl, hb⟩
    have HB12 := Lib.hid (HB11.out.trans (hb.mono HB11.out.size))
    have Ha_12 := Lib.hid (Ha_11.out.keep hb hb.size)
    have Hb_12 := Lib.hid (Hb_11.out.keep hb hb.size)
    have Hu_12 := Lib.hid (Hu_11.out.keep hb hb.size)
    clear hb HB11 Ha_11 Hb_11 Hu_11
    rw [show Zs.within (Zs.few lx) (Zs.few ly) = false from HP.out]
    go_wp2_with fail
    refine (awake15 w12).mono ?_; rintro e w13 ⟨rfl, hb⟩
    have HB13 := Lib.hid (HB12.out.trans (hb.mono HB12.out.size))
    have Ha_13 := Lib.hid (Ha_12.out.keep hb hb.size)
    have Hb_13 := Lib.hid (Hb_12.out.keep hb hb.size)
    have Hu_13 := Lib.hid (Hu_12.out.keep hb hb.size)
    clear hb HB12 Ha_12 Hb_12 Hu_12
    go_wp2_with fail
    go_ret
    exact ⟨rfl, HB13.out⟩
  · go_enter Try.func7, Try.ntmps7
    go_wp2_with fail
    refine (few15 Ax Nx cx lx W Hx_0.out).mono ?_; rintro e w1 ⟨v, rfl, hown, hb⟩
    have HB1 := Lib.hid (HB0.out.trans (hb.mono HB0.out.size))
    have Hx_1 := Lib.hid (Hx_0.out.keep hb hb.size)
    have Hy_1 := Lib.hid (Hy_0.out.keep hb hb.size)
    obtain ⟨Aa, Na, ca, rfl, hN, hn⟩ := hown.numsN (Zs.few_wf _)
    have Ha_1 := Lib.hid hn
    have Za := Lib.hid (show Na ≤ 40 by have hl := hN.out; have := Zs.few_len lx; omega)
    clear hown hb hn hN HB0 Hx_0 Hy_0
    go_wp2_with fail
    clear Hx_1
    refine (few15 Ay Ny cy ly w1 Hy_1.out).mono ?_; rintro e w2 ⟨v, rfl, hown, hb⟩
    have HB2 := Lib.hid (HB1.out.trans (hb.mono HB1.out.size))
    have Hy_2 := Lib.hid (Hy_1.out.keep hb hb.size)
    have Ha_2 := Lib.hid (Ha_1.out.keep hb hb.size)
    obtain ⟨Ab, Nb, cb, rfl, hN, hn⟩ := hown.numsN (Zs.few_wf _)
    have Hb_2 := Lib.hid hn
    have Zb := Lib.hid (show Nb ≤ 40 by have hl := hN.out; have := Zs.few_len ly; omega)
    clear hown hb hn hN HB1 Hy_1 Ha_1
    go_wp2_with fail
    clear Hy_2
    refine (union15 Aa Na ca (Zs.few lx) Ab Nb cb (Zs.few ly) w2 Ha_2.out Hb_2.out (by have := Za.out; omega) (by have := Zb.out; omega)).mono ?_; rintro e w3 ⟨v, rfl, hown, hb⟩
    have HB3 := Lib.hid (HB2.out.trans (hb.mono HB2.out.size))
    have Ha_3 := Lib.hid (Ha_2.out.keep hb hb.size)
    have Hb_3 := Lib.hid (Hb_2.out.keep hb hb.size)
    obtain ⟨Au, Nu, cu, rfl, hN, hn⟩ := hown.numsN (fun x hx => (List.mem_append.1 (Zs.mem_of.1 hx)).elim (Ha_3.out.wf x) (Hb_3.out.wf x))
    have Hu_3 := Lib.hid hn
    have Zu := Lib.hid (show Nu ≤ 80 by have hl := hN.out; have := Zs.of_len (Zs.few lx ++ Zs.few ly); rw [List.length_append] at this; have := Ha_3.out.len; have := Hb_3.out.len; have := Za.out; have := Zb.out; omega)
    clear hown hb hn hN HB2 Ha_2 Hb_2
    go_wp2_with fail
    refine (within15 Aa Na ca (Zs.few lx) Au Nu cu (Zs.of (Zs.few lx ++ Zs.few ly)) w3 Ha_3.out Hu_3.out (by have := Za.out; omega) (by have := Zu.out; omega)).mono ?_; rintro e w4 ⟨rfl, hb⟩
    have HB4 := Lib.hid (HB3.out.trans (hb.mono HB3.out.size))
    have Ha_4 := Lib.hid (Ha_3.out.keep hb hb.size)
    have Hb_4 := Lib.hid (Hb_3.out.keep hb hb.size)
    have Hu_4 := Lib.hid (Hu_3.out.keep hb hb.size)
    clear hb HB3 Ha_3 Hb_3 Hu_3
    rw [show Zs.within (Zs.few lx) (Zs.of (Zs.few lx ++ Zs.few ly)) = true from Zs.within_iff.2 fun x hx => by grind [Zs.mem_of, Zs.mem_part]]
    go_wp2_with fail
    refine (within15 Ab Nb cb (Zs.few ly) Au Nu cu (Zs.of (Zs.few lx ++ Zs.few ly)) w4 Hb_4.out Hu_4.out (by have := Zb.out; omega) (by have := Zu.out; omega)).mono ?_; rintro e w5 ⟨rfl, hb⟩
    have HB5 := Lib.hid (HB4.out.trans (hb.mono HB4.out.size))
    have Ha_5 := Lib.hid (Ha_4.out.keep hb hb.size)
    have Hb_5 := Lib.hid (Hb_4.out.keep hb hb.size)
    have Hu_5 := Lib.hid (Hu_4.out.keep hb hb.size)
    clear hb HB4 Ha_4 Hb_4 Hu_4
    rw [show Zs.within (Zs.few ly) (Zs.of (Zs.few lx ++ Zs.few ly)) = true from Zs.within_iff.2 fun x hx => by grind [Zs.mem_of, Zs.mem_part]]
    go_wp2_with fail
    refine (both15 Aa Na ca (Zs.few lx) Ab Nb cb (Zs.few ly) w5 Ha_5.out Hb_5.out (by have := Za.out; omega) (by have := Zb.out; omega)).mono ?_; rintro e w6 ⟨v, rfl, hown, hb⟩
    have HB6 := Lib.hid (HB5.out.trans (hb.mono HB5.out.size))
    have Ha_6 := Lib.hid (Ha_5.out.keep hb hb.size)
    have Hb_6 := Lib.hid (Hb_5.out.keep hb hb.size)
    have Hu_6 := Lib.hid (Hu_5.out.keep hb hb.size)
    obtain ⟨Am, Nm, cm, rfl, hN, hn⟩ := hown.numsN (fun x hx => Ha_6.out.wf x (Zs.mem_part.1 hx).1)
    have Hm_6 := Lib.hid hn
    have Zm := Lib.hid (show Nm ≤ 40 by have hl := hN.out; have := Zs.part_len (Zs.few lx) (Zs.few ly) true; have := Ha_6.out.len; have := Za.out; omega)
    clear hown hb hn hN HB5 Ha_5 Hb_5 Hu_5
    go_wp2_with fail
    refine (within15 Am Nm cm (Zs.part (Zs.few lx) (Zs.few ly) true) Aa Na ca (Zs.few lx) w6 Hm_6.out Ha_6.out (by have := Zm.out; omega) (by have := Za.out; omega)).mono ?_; rintro e w7 ⟨rfl, hb⟩
    have HB7 := Lib.hid (HB6.out.trans (hb.mono HB6.out.size))
    have Ha_7 := Lib.hid (Ha_6.out.keep hb hb.size)
    have Hb_7 := Lib.hid (Hb_6.out.keep hb hb.size)
    have Hu_7 := Lib.hid (Hu_6.out.keep hb hb.size)
    have Hm_7 := Lib.hid (Hm_6.out.keep hb hb.size)
    clear hb HB6 Ha_6 Hb_6 Hu_6 Hm_6
    rw [show Zs.within (Zs.part (Zs.few lx) (Zs.few ly) true) (Zs.few lx) = true from Zs.within_iff.2 fun x hx => by grind [Zs.mem_of, Zs.mem_part]]
    go_wp2_with fail
    clear Hm_7
    refine (within15 none 0 0 [] Aa Na ca (Zs.few lx) w7 (Nums.nil _ _ _) Ha_7.out (by omega) (by have := Za.out; omega)).mono ?_; rintro e w8 ⟨rfl, hb⟩
    have HB8 := Lib.hid (HB7.out.trans (hb.mono HB7.out.size))
    have Ha_8 := Lib.hid (Ha_7.out.keep hb hb.size)
    have Hb_8 := Lib.hid (Hb_7.out.keep hb hb.size)
    have Hu_8 := Lib.hid (Hu_7.out.keep hb hb.size)
    clear hb HB7 Ha_7 Hb_7 Hu_7
    rw [show Zs.within [] (Zs.few lx) = true from rfl]
    go_wp2_with fail
    refine (within15 Aa Na ca (Zs.few lx) Ab Nb cb (Zs.few ly) w8 Ha_8.out Hb_8.out (by have := Za.out; omega) (by have := Zb.out; omega)).mono ?_; rintro e w9 ⟨rfl, hb⟩
    have HB9 := Lib.hid (HB8.out.trans (hb.mono HB8.out.size))
    have Ha_9 := Lib.hid (Ha_8.out.keep hb hb.size)
    have Hb_9 := Lib.hid (Hb_8.out.keep hb hb.size)
    have Hu_9 := Lib.hid (Hu_8.out.keep hb hb.size)
    clear hb HB8 Ha_8 Hb_8 Hu_8
    rw [show Zs.within (Zs.few lx) (Zs.few ly) = false from HP.out]
    go_wp2_with fail
    refine (of15 Ab Nb cb (Zs.few ly) w9 Hb_9.out (by have := Zb.out; omega)).mono ?_; rintro e w10 ⟨v, rfl, hown, hb⟩
    have HB10 := Lib.hid (HB9.out.trans (hb.mono HB9.out.size))
    have Ha_10 := Lib.hid (Ha_9.out.keep hb hb.size)
    have Hb_10 := Lib.hid (Hb_9.out.keep hb hb.size)
    have Hu_10 := Lib.hid (Hu_9.out.keep hb hb.size)
    obtain ⟨Aob, Nob, cob, rfl, hN, hn⟩ := hown.numsN (fun x hx => Hb_10.out.wf x (Zs.mem_of.1 hx))
    have Hob_10 := Lib.hid hn
    have Zob := Lib.hid (show Nob ≤ 40 by have hl := hN.out; have := Zs.of_len (Zs.few ly); have := Hb_10.out.len; have := Zb.out; omega)
    clear hown hb hn hN HB9 Ha_9 Hb_9 Hu_9
    go_wp2_with fail
    refine (ints_b Au Aob Nu cu Nob cob (Zs.of (Zs.few lx ++ Zs.few ly)) (Zs.of (Zs.few ly)) _ _ false w10 Hu_10.out Hob_10.out ((Zs.order_eq _ _).trans HP.out)).mono ?_; rintro e w11 ⟨rfl, hb⟩
    have HB11 := Lib.hid (HB10.out.trans (hb.mono HB10.out.size))
    have Ha_11 := Lib.hid (Ha_10.out.keep hb hb.size)
    have Hb_11 := Lib.hid (Hb_10.out.keep hb hb.size)
    have Hu_11 := Lib.hid (Hu_10.out.keep hb hb.size)
    have Hob_11 := Lib.hid (Hob_10.out.keep hb hb.size)
    clear hb HB10 Ha_10 Hb_10 Hu_10 Hob_10
    go_wp2_with fail
    clear Hob_11
    refine (within15 Aa Na ca (Zs.few lx) Ab Nb cb (Zs.few ly) w11 Ha_11.out Hb_11.out (by have := Za.out; omega) (by have := Zb.out; omega)).mono ?_; rintro e w12 ⟨rfl, hb⟩
    have HB12 := Lib.hid (HB11.out.trans (hb.mono HB11.out.size))
    have Ha_12 := Lib.hid (Ha_11.out.keep hb hb.size)
    have Hb_12 := Lib.hid (Hb_11.out.keep hb hb.size)
    have Hu_12 := Lib.hid (Hu_11.out.keep hb hb.size)
    clear hb HB11 Ha_11 Hb_11 Hu_11
    rw [show Zs.within (Zs.few lx) (Zs.few ly) = false from HP.out]
    go_wp2_with fail
    refine (awake15 w12).mono ?_; rintro e w13 ⟨rfl, hb⟩
    have HB13 := Lib.hid (HB12.out.trans (hb.mono HB12.out.size))
    have Ha_13 := Lib.hid (Ha_12.out.keep hb hb.size)
    have Hb_13 := Lib.hid (Hb_12.out.keep hb hb.size)
    have Hu_13 := Lib.hid (Hu_12.out.keep hb hb.size)
    clear hb HB12 Ha_12 Hb_12 Hu_12
    go_wp2_with fail
    go_ret
    exact ⟨rfl, HB13.out⟩
  · go_enter Try.func7, Try.ntmps7
    go_wp2_with fail
    refine (few15 Ax Nx cx lx W Hx_0.out).mono ?_; rintro e w1 ⟨v, rfl, hown, hb⟩
    have HB1 := Lib.hid (HB0.out.trans (hb.mono HB0.out.size))
    have Hx_1 := Lib.hid (Hx_0.out.keep hb hb.size)
    have Hy_1 := Lib.hid (Hy_0.out.keep hb hb.size)
    obtain ⟨Aa, Na, ca, rfl, hN, hn⟩ := hown.numsN (Zs.few_wf _)
    have Ha_1 := Lib.hid hn
    have Za := Lib.hid (show Na ≤ 40 by have hl := hN.out; have := Zs.few_len lx; omega)
    clear hown hb hn hN HB0 Hx_0 Hy_0
    go_wp2_with fail
    clear Hx_1
    refine (few15 Ay Ny cy ly w1 Hy_1.out).mono ?_; rintro e w2 ⟨v, rfl, hown, hb⟩
    have HB2 := Lib.hid (HB1.out.trans (hb.mono HB1.out.size))
    have Hy_2 := Lib.hid (Hy_1.out.keep hb hb.size)
    have Ha_2 := Lib.hid (Ha_1.out.keep hb hb.size)
    obtain ⟨Ab, Nb, cb, rfl, hN, hn⟩ := hown.numsN (Zs.few_wf _)
    have Hb_2 := Lib.hid hn
    have Zb := Lib.hid (show Nb ≤ 40 by have hl := hN.out; have := Zs.few_len ly; omega)
    clear hown hb hn hN HB1 Hy_1 Ha_1
    go_wp2_with fail
    clear Hy_2
    refine (union15 Aa Na ca (Zs.few lx) Ab Nb cb (Zs.few ly) w2 Ha_2.out Hb_2.out (by have := Za.out; omega) (by have := Zb.out; omega)).mono ?_; rintro e w3 ⟨v, rfl, hown, hb⟩
    have HB3 := Lib.hid (HB2.out.trans (hb.mono HB2.out.size))
    have Ha_3 := Lib.hid (Ha_2.out.keep hb hb.size)
    have Hb_3 := Lib.hid (Hb_2.out.keep hb hb.size)
    obtain ⟨Au, Nu, cu, rfl, hN, hn⟩ := hown.numsN (fun x hx => (List.mem_append.1 (Zs.mem_of.1 hx)).elim (Ha_3.out.wf x) (Hb_3.out.wf x))
    have Hu_3 := Lib.hid hn
    have Zu := Lib.hid (show Nu ≤ 80 by have hl := hN.out; have := Zs.of_len (Zs.few lx ++ Zs.few ly); rw [List.length_append] at this; have := Ha_3.out.len; have := Hb_3.out.len; have := Za.out; have := Zb.out; omega)
    clear hown hb hn hN HB2 Ha_2 Hb_2
    go_wp2_with fail
    refine (within15 Aa Na ca (Zs.few lx) Au Nu cu (Zs.of (Zs.few lx ++ Zs.few ly)) w3 Ha_3.out Hu_3.out (by have := Za.out; omega) (by have := Zu.out; omega)).mono ?_; rintro e w4 ⟨rfl, hb⟩
    have HB4 := Lib.hid (HB3.out.trans (hb.mono HB3.out.size))
    have Ha_4 := Lib.hid (Ha_3.out.keep hb hb.size)
    have Hb_4 := Lib.hid (Hb_3.out.keep hb hb.size)
    have Hu_4 := Lib.hid (Hu_3.out.keep hb hb.size)
    clear hb HB3 Ha_3 Hb_3 Hu_3
    rw [show Zs.within (Zs.few lx) (Zs.of (Zs.few lx ++ Zs.few ly)) = true from Zs.within_iff.2 fun x hx => by grind [Zs.mem_of, Zs.mem_part]]
    go_wp2_with fail
    refine (within15 Ab Nb cb (Zs.few ly) Au Nu cu (Zs.of (Zs.few lx ++ Zs.few ly)) w4 Hb_4.out Hu_4.out (by have := Zb.out; omega) (by have := Zu.out; omega)).mono ?_; rintro e w5 ⟨rfl, hb⟩
    have HB5 := Lib.hid (HB4.out.trans (hb.mono HB4.out.size))
    have Ha_5 := Lib.hid (Ha_4.out.keep hb hb.size)
    have Hb_5 := Lib.hid (Hb_4.out.keep hb hb.size)
    have Hu_5 := Lib.hid (Hu_4.out.keep hb hb.size)
    clear hb HB4 Ha_4 Hb_4 Hu_4
    rw [show Zs.within (Zs.few ly) (Zs.of (Zs.few lx ++ Zs.few ly)) = true from Zs.within_iff.2 fun x hx => by grind [Zs.mem_of, Zs.mem_part]]
    go_wp2_with fail
    refine (both15 Aa Na ca (Zs.few lx) Ab Nb cb (Zs.few ly) w5 Ha_5.out Hb_5.out (by have := Za.out; omega) (by have := Zb.out; omega)).mono ?_; rintro e w6 ⟨v, rfl, hown, hb⟩
    have HB6 := Lib.hid (HB5.out.trans (hb.mono HB5.out.size))
    have Ha_6 := Lib.hid (Ha_5.out.keep hb hb.size)
    have Hb_6 := Lib.hid (Hb_5.out.keep hb hb.size)
    have Hu_6 := Lib.hid (Hu_5.out.keep hb hb.size)
    obtain ⟨Am, Nm, cm, rfl, hN, hn⟩ := hown.numsN (fun x hx => Ha_6.out.wf x (Zs.mem_part.1 hx).1)
    have Hm_6 := Lib.hid hn
    have Zm := Lib.hid (show Nm ≤ 40 by have hl := hN.out; have := Zs.part_len (Zs.few lx) (Zs.few ly) true; have := Ha_6.out.len; have := Za.out; omega)
    clear hown hb hn hN HB5 Ha_5 Hb_5 Hu_5
    go_wp2_with fail
    refine (within15 Am Nm cm (Zs.part (Zs.few lx) (Zs.few ly) true) Aa Na ca (Zs.few lx) w6 Hm_6.out Ha_6.out (by have := Zm.out; omega) (by have := Za.out; omega)).mono ?_; rintro e w7 ⟨rfl, hb⟩
    have HB7 := Lib.hid (HB6.out.trans (hb.mono HB6.out.size))
    have Ha_7 := Lib.hid (Ha_6.out.keep hb hb.size)
    have Hb_7 := Lib.hid (Hb_6.out.keep hb hb.size)
    have Hu_7 := Lib.hid (Hu_6.out.keep hb hb.size)
    have Hm_7 := Lib.hid (Hm_6.out.keep hb hb.size)
    clear hb HB6 Ha_6 Hb_6 Hu_6 Hm_6
    rw [show Zs.within (Zs.part (Zs.few lx) (Zs.few ly) true) (Zs.few lx) = true from Zs.within_iff.2 fun x hx => by grind [Zs.mem_of, Zs.mem_part]]
    go_wp2_with fail
    clear Hm_7
    refine (within15 none 0 0 [] Aa Na ca (Zs.few lx) w7 (Nums.nil _ _ _) Ha_7.out (by omega) (by have := Za.out; omega)).mono ?_; rintro e w8 ⟨rfl, hb⟩
    have HB8 := Lib.hid (HB7.out.trans (hb.mono HB7.out.size))
    have Ha_8 := Lib.hid (Ha_7.out.keep hb hb.size)
    have Hb_8 := Lib.hid (Hb_7.out.keep hb hb.size)
    have Hu_8 := Lib.hid (Hu_7.out.keep hb hb.size)
    clear hb HB7 Ha_7 Hb_7 Hu_7
    rw [show Zs.within [] (Zs.few lx) = true from rfl]
    go_wp2_with fail
    refine (within15 Aa Na ca (Zs.few lx) Ab Nb cb (Zs.few ly) w8 Ha_8.out Hb_8.out (by have := Za.out; omega) (by have := Zb.out; omega)).mono ?_; rintro e w9 ⟨rfl, hb⟩
    have HB9 := Lib.hid (HB8.out.trans (hb.mono HB8.out.size))
    have Ha_9 := Lib.hid (Ha_8.out.keep hb hb.size)
    have Hb_9 := Lib.hid (Hb_8.out.keep hb hb.size)
    have Hu_9 := Lib.hid (Hu_8.out.keep hb hb.size)
    clear hb HB8 Ha_8 Hb_8 Hu_8
    rw [show Zs.within (Zs.few lx) (Zs.few ly) = true from HP.out]
    go_wp2_with fail
    refine (of15 Ab Nb cb (Zs.few ly) w9 Hb_9.out (by have := Zb.out; omega)).mono ?_; rintro e w10 ⟨v, rfl, hown, hb⟩
    have HB10 := Lib.hid (HB9.out.trans (hb.mono HB9.out.size))
    have Ha_10 := Lib.hid (Ha_9.out.keep hb hb.size)
    have Hb_10 := Lib.hid (Hb_9.out.keep hb hb.size)
    have Hu_10 := Lib.hid (Hu_9.out.keep hb hb.size)
    obtain ⟨Aob, Nob, cob, rfl, hN, hn⟩ := hown.numsN (fun x hx => Hb_10.out.wf x (Zs.mem_of.1 hx))
    have Hob_10 := Lib.hid hn
    have Zob := Lib.hid (show Nob ≤ 40 by have hl := hN.out; have := Zs.of_len (Zs.few ly); have := Hb_10.out.len; have := Zb.out; omega)
    clear hown hb hn hN HB9 Ha_9 Hb_9 Hu_9
    go_wp2_with fail
    refine (ints_b Au Aob Nu cu Nob cob (Zs.of (Zs.few lx ++ Zs.few ly)) (Zs.of (Zs.few ly)) _ _ true w10 Hu_10.out Hob_10.out ((Zs.order_eq _ _).trans HP.out)).mono ?_; rintro e w11 ⟨rfl, hb⟩
    have HB11 := Lib.hid (HB10.out.trans (hb.mono HB10.out.size))
    have Ha_11 := Lib.hid (Ha_10.out.keep hb hb.size)
    have Hb_11 := Lib.hid (Hb_10.out.keep hb hb.size)
    have Hu_11 := Lib.hid (Hu_10.out.keep hb hb.size)
    have Hob_11 := Lib.hid (Hob_10.out.keep hb hb.size)
    clear hb HB10 Ha_10 Hb_10 Hu_10 Hob_10
    go_wp2_with fail
    clear Hob_11
    refine (within15 Aa Na ca (Zs.few lx) Ab Nb cb (Zs.few ly) w11 Ha_11.out Hb_11.out (by have := Za.out; omega) (by have := Zb.out; omega)).mono ?_; rintro e w12 ⟨rfl, hb⟩
    have HB12 := Lib.hid (HB11.out.trans (hb.mono HB11.out.size))
    have Ha_12 := Lib.hid (Ha_11.out.keep hb hb.size)
    have Hb_12 := Lib.hid (Hb_11.out.keep hb hb.size)
    have Hu_12 := Lib.hid (Hu_11.out.keep hb hb.size)
    clear hb HB11 Ha_11 Hb_11 Hu_11
    rw [show Zs.within (Zs.few lx) (Zs.few ly) = true from HP.out]
    go_wp2_with fail
    refine (within15 Ab Nb cb (Zs.few ly) Aa Na ca (Zs.few lx) w12 Hb_12.out Ha_12.out (by have := Zb.out; omega) (by have := Za.out; omega)).mono ?_; rintro e w13 ⟨rfl, hb⟩
    have HB13 := Lib.hid (HB12.out.trans (hb.mono HB12.out.size))
    have Ha_13 := Lib.hid (Ha_12.out.keep hb hb.size)
    have Hb_13 := Lib.hid (Hb_12.out.keep hb hb.size)
    have Hu_13 := Lib.hid (Hu_12.out.keep hb hb.size)
    clear hb HB12 Ha_12 Hb_12 Hu_12
    rw [show Zs.within (Zs.few ly) (Zs.few lx) = false from HQ.out]
    go_wp2_with fail
    refine (awake15 w13).mono ?_; rintro e w14 ⟨rfl, hb⟩
    have HB14 := Lib.hid (HB13.out.trans (hb.mono HB13.out.size))
    have Ha_14 := Lib.hid (Ha_13.out.keep hb hb.size)
    have Hb_14 := Lib.hid (Hb_13.out.keep hb hb.size)
    have Hu_14 := Lib.hid (Hu_13.out.keep hb hb.size)
    clear hb HB13 Ha_13 Hb_13 Hu_13
    go_wp2_with fail
    go_ret
    exact ⟨rfl, HB14.out⟩
  · go_enter Try.func7, Try.ntmps7
    go_wp2_with fail
    refine (few15 Ax Nx cx lx W Hx_0.out).mono ?_; rintro e w1 ⟨v, rfl, hown, hb⟩
    have HB1 := Lib.hid (HB0.out.trans (hb.mono HB0.out.size))
    have Hx_1 := Lib.hid (Hx_0.out.keep hb hb.size)
    have Hy_1 := Lib.hid (Hy_0.out.keep hb hb.size)
    obtain ⟨Aa, Na, ca, rfl, hN, hn⟩ := hown.numsN (Zs.few_wf _)
    have Ha_1 := Lib.hid hn
    have Za := Lib.hid (show Na ≤ 40 by have hl := hN.out; have := Zs.few_len lx; omega)
    clear hown hb hn hN HB0 Hx_0 Hy_0
    go_wp2_with fail
    clear Hx_1
    refine (few15 Ay Ny cy ly w1 Hy_1.out).mono ?_; rintro e w2 ⟨v, rfl, hown, hb⟩
    have HB2 := Lib.hid (HB1.out.trans (hb.mono HB1.out.size))
    have Hy_2 := Lib.hid (Hy_1.out.keep hb hb.size)
    have Ha_2 := Lib.hid (Ha_1.out.keep hb hb.size)
    obtain ⟨Ab, Nb, cb, rfl, hN, hn⟩ := hown.numsN (Zs.few_wf _)
    have Hb_2 := Lib.hid hn
    have Zb := Lib.hid (show Nb ≤ 40 by have hl := hN.out; have := Zs.few_len ly; omega)
    clear hown hb hn hN HB1 Hy_1 Ha_1
    go_wp2_with fail
    clear Hy_2
    refine (union15 Aa Na ca (Zs.few lx) Ab Nb cb (Zs.few ly) w2 Ha_2.out Hb_2.out (by have := Za.out; omega) (by have := Zb.out; omega)).mono ?_; rintro e w3 ⟨v, rfl, hown, hb⟩
    have HB3 := Lib.hid (HB2.out.trans (hb.mono HB2.out.size))
    have Ha_3 := Lib.hid (Ha_2.out.keep hb hb.size)
    have Hb_3 := Lib.hid (Hb_2.out.keep hb hb.size)
    obtain ⟨Au, Nu, cu, rfl, hN, hn⟩ := hown.numsN (fun x hx => (List.mem_append.1 (Zs.mem_of.1 hx)).elim (Ha_3.out.wf x) (Hb_3.out.wf x))
    have Hu_3 := Lib.hid hn
    have Zu := Lib.hid (show Nu ≤ 80 by have hl := hN.out; have := Zs.of_len (Zs.few lx ++ Zs.few ly); rw [List.length_append] at this; have := Ha_3.out.len; have := Hb_3.out.len; have := Za.out; have := Zb.out; omega)
    clear hown hb hn hN HB2 Ha_2 Hb_2
    go_wp2_with fail
    refine (within15 Aa Na ca (Zs.few lx) Au Nu cu (Zs.of (Zs.few lx ++ Zs.few ly)) w3 Ha_3.out Hu_3.out (by have := Za.out; omega) (by have := Zu.out; omega)).mono ?_; rintro e w4 ⟨rfl, hb⟩
    have HB4 := Lib.hid (HB3.out.trans (hb.mono HB3.out.size))
    have Ha_4 := Lib.hid (Ha_3.out.keep hb hb.size)
    have Hb_4 := Lib.hid (Hb_3.out.keep hb hb.size)
    have Hu_4 := Lib.hid (Hu_3.out.keep hb hb.size)
    clear hb HB3 Ha_3 Hb_3 Hu_3
    rw [show Zs.within (Zs.few lx) (Zs.of (Zs.few lx ++ Zs.few ly)) = true from Zs.within_iff.2 fun x hx => by grind [Zs.mem_of, Zs.mem_part]]
    go_wp2_with fail
    refine (within15 Ab Nb cb (Zs.few ly) Au Nu cu (Zs.of (Zs.few lx ++ Zs.few ly)) w4 Hb_4.out Hu_4.out (by have := Zb.out; omega) (by have := Zu.out; omega)).mono ?_; rintro e w5 ⟨rfl, hb⟩
    have HB5 := Lib.hid (HB4.out.trans (hb.mono HB4.out.size))
    have Ha_5 := Lib.hid (Ha_4.out.keep hb hb.size)
    have Hb_5 := Lib.hid (Hb_4.out.keep hb hb.size)
    have Hu_5 := Lib.hid (Hu_4.out.keep hb hb.size)
    clear hb HB4 Ha_4 Hb_4 Hu_4
    rw [show Zs.within (Zs.few ly) (Zs.of (Zs.few lx ++ Zs.few ly)) = true from Zs.within_iff.2 fun x hx => by grind [Zs.mem_of, Zs.mem_part]]
    go_wp2_with fail
    refine (both15 Aa Na ca (Zs.few lx) Ab Nb cb (Zs.few ly) w5 Ha_5.out Hb_5.out (by have := Za.out; omega) (by have := Zb.out; omega)).mono ?_; rintro e w6 ⟨v, rfl, hown, hb⟩
    have HB6 := Lib.hid (HB5.out.trans (hb.mono HB5.out.size))
    have Ha_6 := Lib.hid (Ha_5.out.keep hb hb.size)
    have Hb_6 := Lib.hid (Hb_5.out.keep hb hb.size)
    have Hu_6 := Lib.hid (Hu_5.out.keep hb hb.size)
    obtain ⟨Am, Nm, cm, rfl, hN, hn⟩ := hown.numsN (fun x hx => Ha_6.out.wf x (Zs.mem_part.1 hx).1)
    have Hm_6 := Lib.hid hn
    have Zm := Lib.hid (show Nm ≤ 40 by have hl := hN.out; have := Zs.part_len (Zs.few lx) (Zs.few ly) true; have := Ha_6.out.len; have := Za.out; omega)
    clear hown hb hn hN HB5 Ha_5 Hb_5 Hu_5
    go_wp2_with fail
    refine (within15 Am Nm cm (Zs.part (Zs.few lx) (Zs.few ly) true) Aa Na ca (Zs.few lx) w6 Hm_6.out Ha_6.out (by have := Zm.out; omega) (by have := Za.out; omega)).mono ?_; rintro e w7 ⟨rfl, hb⟩
    have HB7 := Lib.hid (HB6.out.trans (hb.mono HB6.out.size))
    have Ha_7 := Lib.hid (Ha_6.out.keep hb hb.size)
    have Hb_7 := Lib.hid (Hb_6.out.keep hb hb.size)
    have Hu_7 := Lib.hid (Hu_6.out.keep hb hb.size)
    have Hm_7 := Lib.hid (Hm_6.out.keep hb hb.size)
    clear hb HB6 Ha_6 Hb_6 Hu_6 Hm_6
    rw [show Zs.within (Zs.part (Zs.few lx) (Zs.few ly) true) (Zs.few lx) = true from Zs.within_iff.2 fun x hx => by grind [Zs.mem_of, Zs.mem_part]]
    go_wp2_with fail
    clear Hm_7
    refine (within15 none 0 0 [] Aa Na ca (Zs.few lx) w7 (Nums.nil _ _ _) Ha_7.out (by omega) (by have := Za.out; omega)).mono ?_; rintro e w8 ⟨rfl, hb⟩
    have HB8 := Lib.hid (HB7.out.trans (hb.mono HB7.out.size))
    have Ha_8 := Lib.hid (Ha_7.out.keep hb hb.size)
    have Hb_8 := Lib.hid (Hb_7.out.keep hb hb.size)
    have Hu_8 := Lib.hid (Hu_7.out.keep hb hb.size)
    clear hb HB7 Ha_7 Hb_7 Hu_7
    rw [show Zs.within [] (Zs.few lx) = true from rfl]
    go_wp2_with fail
    refine (within15 Aa Na ca (Zs.few lx) Ab Nb cb (Zs.few ly) w8 Ha_8.out Hb_8.out (by have := Za.out; omega) (by have := Zb.out; omega)).mono ?_; rintro e w9 ⟨rfl, hb⟩
    have HB9 := Lib.hid (HB8.out.trans (hb.mono HB8.out.size))
    have Ha_9 := Lib.hid (Ha_8.out.keep hb hb.size)
    have Hb_9 := Lib.hid (Hb_8.out.keep hb hb.size)
    have Hu_9 := Lib.hid (Hu_8.out.keep hb hb.size)
    clear hb HB8 Ha_8 Hb_8 Hu_8
    rw [show Zs.within (Zs.few lx) (Zs.few ly) = true from HP.out]
    go_wp2_with fail
    refine (of15 Ab Nb cb (Zs.few ly) w9 Hb_9.out (by have := Zb.out; omega)).mono ?_; rintro e w10 ⟨v, rfl, hown, hb⟩
    have HB10 := Lib.hid (HB9.out.trans (hb.mono HB9.out.size))
    have Ha_10 := Lib.hid (Ha_9.out.keep hb hb.size)
    have Hb_10 := Lib.hid (Hb_9.out.keep hb hb.size)
    have Hu_10 := Lib.hid (Hu_9.out.keep hb hb.size)
    obtain ⟨Aob, Nob, cob, rfl, hN, hn⟩ := hown.numsN (fun x hx => Hb_10.out.wf x (Zs.mem_of.1 hx))
    have Hob_10 := Lib.hid hn
    have Zob := Lib.hid (show Nob ≤ 40 by have hl := hN.out; have := Zs.of_len (Zs.few ly); have := Hb_10.out.len; have := Zb.out; omega)
    clear hown hb hn hN HB9 Ha_9 Hb_9 Hu_9
    go_wp2_with fail
    refine (ints_b Au Aob Nu cu Nob cob (Zs.of (Zs.few lx ++ Zs.few ly)) (Zs.of (Zs.few ly)) _ _ true w10 Hu_10.out Hob_10.out ((Zs.order_eq _ _).trans HP.out)).mono ?_; rintro e w11 ⟨rfl, hb⟩
    have HB11 := Lib.hid (HB10.out.trans (hb.mono HB10.out.size))
    have Ha_11 := Lib.hid (Ha_10.out.keep hb hb.size)
    have Hb_11 := Lib.hid (Hb_10.out.keep hb hb.size)
    have Hu_11 := Lib.hid (Hu_10.out.keep hb hb.size)
    have Hob_11 := Lib.hid (Hob_10.out.keep hb hb.size)
    clear hb HB10 Ha_10 Hb_10 Hu_10 Hob_10
    go_wp2_with fail
    clear Hob_11
    refine (within15 Aa Na ca (Zs.few lx) Ab Nb cb (Zs.few ly) w11 Ha_11.out Hb_11.out (by have := Za.out; omega) (by have := Zb.out; omega)).mono ?_; rintro e w12 ⟨rfl, hb⟩
    have HB12 := Lib.hid (HB11.out.trans (hb.mono HB11.out.size))
    have Ha_12 := Lib.hid (Ha_11.out.keep hb hb.size)
    have Hb_12 := Lib.hid (Hb_11.out.keep hb hb.size)
    have Hu_12 := Lib.hid (Hu_11.out.keep hb hb.size)
    clear hb HB11 Ha_11 Hb_11 Hu_11
    rw [show Zs.within (Zs.few lx) (Zs.few ly) = true from HP.out]
    go_wp2_with fail
    refine (within15 Ab Nb cb (Zs.few ly) Aa Na ca (Zs.few lx) w12 Hb_12.out Ha_12.out (by have := Zb.out; omega) (by have := Za.out; omega)).mono ?_; rintro e w13 ⟨rfl, hb⟩
    have HB13 := Lib.hid (HB12.out.trans (hb.mono HB12.out.size))
    have Ha_13 := Lib.hid (Ha_12.out.keep hb hb.size)
    have Hb_13 := Lib.hid (Hb_12.out.keep hb hb.size)
    have Hu_13 := Lib.hid (Hu_12.out.keep hb hb.size)
    clear hb HB12 Ha_12 Hb_12 Hu_12
    rw [show Zs.within (Zs.few ly) (Zs.few lx) = true from HQ.out]
    go_wp2_with fail
    refine (of15 Aa Na ca (Zs.few lx) w13 Ha_13.out (by have := Za.out; omega)).mono ?_; rintro e w14 ⟨v, rfl, hown, hb⟩
    have HB14 := Lib.hid (HB13.out.trans (hb.mono HB13.out.size))
    have Ha_14 := Lib.hid (Ha_13.out.keep hb hb.size)
    have Hb_14 := Lib.hid (Hb_13.out.keep hb hb.size)
    have Hu_14 := Lib.hid (Hu_13.out.keep hb hb.size)
    obtain ⟨Aoa, Noa, coa, rfl, hN, hn⟩ := hown.numsN (fun x hx => Ha_14.out.wf x (Zs.mem_of.1 hx))
    have Hoa_14 := Lib.hid hn
    have Zoa := Lib.hid (show Noa ≤ 40 by have hl := hN.out; have := Zs.of_len (Zs.few lx); have := Ha_14.out.len; have := Za.out; omega)
    clear hown hb hn hN HB13 Ha_13 Hb_13 Hu_13
    go_wp2_with fail
    refine (of15 Ab Nb cb (Zs.few ly) w14 Hb_14.out (by have := Zb.out; omega)).mono ?_; rintro e w15 ⟨v, rfl, hown, hb⟩
    have HB15 := Lib.hid (HB14.out.trans (hb.mono HB14.out.size))
    have Ha_15 := Lib.hid (Ha_14.out.keep hb hb.size)
    have Hb_15 := Lib.hid (Hb_14.out.keep hb hb.size)
    have Hu_15 := Lib.hid (Hu_14.out.keep hb hb.size)
    have Hoa_15 := Lib.hid (Hoa_14.out.keep hb hb.size)
    obtain ⟨Apb, Npb, cpb, rfl, hN, hn⟩ := hown.numsN (fun x hx => Hb_15.out.wf x (Zs.mem_of.1 hx))
    have Hpb_15 := Lib.hid hn
    have Zpb := Lib.hid (show Npb ≤ 40 by have hl := hN.out; have := Zs.of_len (Zs.few ly); have := Hb_15.out.len; have := Zb.out; omega)
    clear hown hb hn hN HB14 Ha_14 Hb_14 Hu_14 Hoa_14
    go_wp2_with fail
    refine (ints_b Aoa Apb Noa coa Npb cpb (Zs.of (Zs.few lx)) (Zs.of (Zs.few ly)) _ _ true w15 Hoa_15.out Hpb_15.out (decide_eq_true (Zs.of_ext fun x => ⟨Zs.within_iff.1 HP.out x, Zs.within_iff.1 HQ.out x⟩))).mono ?_; rintro e w16 ⟨rfl, hb⟩
    have HB16 := Lib.hid (HB15.out.trans (hb.mono HB15.out.size))
    have Ha_16 := Lib.hid (Ha_15.out.keep hb hb.size)
    have Hb_16 := Lib.hid (Hb_15.out.keep hb hb.size)
    have Hu_16 := Lib.hid (Hu_15.out.keep hb hb.size)
    have Hoa_16 := Lib.hid (Hoa_15.out.keep hb hb.size)
    have Hpb_16 := Lib.hid (Hpb_15.out.keep hb hb.size)
    clear hb HB15 Ha_15 Hb_15 Hu_15 Hoa_15 Hpb_15
    go_wp2_with fail
    refine (awake15 w16).mono ?_; rintro e w17 ⟨rfl, hb⟩
    have HB17 := Lib.hid (HB16.out.trans (hb.mono HB16.out.size))
    have Ha_17 := Lib.hid (Ha_16.out.keep hb hb.size)
    have Hb_17 := Lib.hid (Hb_16.out.keep hb hb.size)
    have Hu_17 := Lib.hid (Hu_16.out.keep hb hb.size)
    have Hoa_17 := Lib.hid (Hoa_16.out.keep hb hb.size)
    have Hpb_17 := Lib.hid (Hpb_16.out.keep hb hb.size)
    clear hb HB16 Ha_16 Hb_16 Hu_16 Hoa_16 Hpb_16
    go_wp2_with fail
    go_ret
    exact ⟨rfl, HB17.out⟩
end Go.Proofs.Ytbjebknemkagiaa
