/- Rota: the example of the chapter. -/
import Derived.Test.YtoomgbddfcmjnaaTk
namespace Go.Proofs.Ytoomgbddfcmjnaa
open Go.RowKit
def Sf.ex : List Sf := [⟨⟨#[97, 110, 110]⟩, 0, 10⟩, ⟨⟨#[98, 111, 98]⟩, 5, 15⟩]
theorem Sf.onl_who (L : List Sf) (t : Int) : (Sf.onl L t).length = (Sf.who L t).length := List.length_mergeSort _
theorem Sf.others_who (L : List Sf) (who : ByteArray) (t : Int) : (Sf.others L who t).length = ((Sf.who L t).filter fun x => !decide (x = txOf who)).length := ((List.mergeSort_perm (Sf.who L t) _).filter _).length_eq
theorem Sf.ex_chk : Sf.chk Sf.ex = 0 := by decide +kernel
theorem Sf.ex_pairs : Sf.prs Sf.ex 0 20 = ([0, 1, 5, 2, 10, 1, 15, 0], 0) := by
  unfold Sf.prs Sf.pst
  rw [if_neg (by simpa using Sf.ex_chk), if_neg (by omega)]
  simp only [Sf.onl_who]
  decide +kernel
theorem Sf.ex_cyd : Sf.nxt Sf.ex ⟨#[99, 121, 100]⟩ 0 = (5, true, 0) := by
  unfold Sf.nxt
  rw [if_neg (by simpa using Sf.ex_chk), if_neg (by omega)]
  unfold Sf.fstT
  simp only [Sf.others_who]
  decide +kernel
theorem Sf.ex_bob : Sf.nxt Sf.ex ⟨#[98, 111, 98]⟩ 0 = (0, false, 0) := by
  unfold Sf.nxt
  rw [if_neg (by simpa using Sf.ex_chk), if_neg (by omega)]
  unfold Sf.fstT
  simp only [Sf.others_who]
  decide +kernel
set_option maxRecDepth 100000 in
set_option maxHeartbeats 800000 in
theorem ints36 (A A' : Option Addr) (n c c' : Nat) (l : List Int) (w : World) (h : Nums w .i64 w.heap.size A n c l) (h' : Nums w .i64 w.heap.size A' n c' l) :
    Calls Try.prog 65 #[.slice A n c, .slice A' n c'] w fun e w' => e = .returned (.bool true) ∧ Below w.heap.size w w' := by
  have H := Lib.hid h
  have H' := Lib.hid h'
  have hm : n ≤ 9223372036854775807 := by have := h.cap; have := h.max; unfold maxLen at this; omega
  have g0 : ((n : Int) != (n : Int)) = false := by simp
  clear h h'
  go_enter Try.func65, Try.ntmps65
  go_wp2_with fail
  go_loopw [13] (fun iv wr => ∃ j : Nat, j ≤ n ∧ iv = .int .i64 j ∧ ∃ m, wr = w.drewN m) (fun iv _ => n - (intOf iv).toNat)
  case atStart => exact ⟨0, by omega, rfl, 0, rfl⟩
  case round =>
    obtain ⟨j, hj, rfl, m, rfl⟩ := hrel
    by_cases hlt : j < n
    · obtain ⟨ad, x, rfl, _, HX, c0, _⟩ := H.out.val hlt
      obtain ⟨ad', x', rfl, _, HX', c0', _⟩ := H'.out.val hlt
      obtain rfl : x = x' := by rw [← HX.out.1, ← HX'.out.1]
      have gx : (x != x) = false := by simp
      have i1 : (0 : Int) ≤ (j : Int) := by omega
      have i2 : (j : Int) < (n : Int) := by omega
      go_wp2_with fail
      go_quiet (fail)
      go_wp2_with fail
      go_roundw
      case rel => exact ⟨j + 1, by omega, by go_num, _, rfl⟩
      case measure => simp [intOf]; omega
    · obtain rfl : n = j := by omega
      go_wp2_with fail
      go_ret
      exact ⟨rfl, below_drewN (Below.refl _ _) _⟩
set_option maxHeartbeats 1600000 in
set_option maxRecDepth 100000 in
theorem awake36 (w : World) : Calls Try.prog 16 #[] w fun e w' => e = .returned (.bool true) ∧ Below w.heap.size w w' := by
  obtain ⟨X, hX⟩ : ∃ X : World, w.alloc (.cells #[.string ⟨#[97, 110, 110]⟩, .int .i64 0, .int .i64 10, .string ⟨#[98, 111, 98]⟩, .int .i64 5, .int .i64 15] 31) = X := ⟨_, rfl⟩
  have HB := Lib.hid (show Below w.heap.size w X by rw [← hX]; exact below_one _)
  have HR := Lib.hid (show RRow sfRec X X.heap.size (some ⟨w.heap.size, 0, none⟩) 2 2 Sf.ex from RRow.lit (L := Sf.ex) (by rw [← hX]; exact heap_alloc_new _ _) (by simp [Sf.ex]))
  go_enter Try.func16, Try.ntmps16
  go_wp2_with fail
  first | rw [hX] | skip
  refine (pairs36 _ 2 2 Sf.ex 0 20 X HR.out).mono ?_; rintro e w1 ⟨v1, rfl, ho, hb⟩
  rw [Sf.ex_pairs] at ho ⊢
  obtain ⟨A1, c1, rfl, hn1⟩ := ho.nums (fun x hx => wf_time (by revert x; decide))
  have HN1 := Lib.hid hn1
  have HB1 := Lib.hid (HB.out.trans (hb.mono HB.out.size))
  have HR1 := Lib.hid (HR.out.keep hb hb.size)
  clear ho hn1 hb hX HR HB
  go_wp2_with fail
  refine (next36 _ 2 2 Sf.ex ⟨#[99, 121, 100]⟩ 0 (by decide) (by decide) w1 HR1.out).mono ?_; rintro e w2 ⟨rfl, hb⟩
  rw [Sf.ex_cyd]
  have HN2 := Lib.hid (HN1.out.keep hb hb.size)
  have HB2 := Lib.hid (HB1.out.trans (hb.mono HB1.out.size))
  have HR2 := Lib.hid (HR1.out.keep hb hb.size)
  clear hb HR1 HB1 HN1
  go_wp2_with fail
  refine (next36 _ 2 2 Sf.ex ⟨#[98, 111, 98]⟩ 0 (by decide) (by decide) w2 HR2.out).mono ?_; rintro e w3 ⟨rfl, hb⟩
  rw [Sf.ex_bob]
  have HN3 := Lib.hid (HN2.out.keep hb hb.size)
  have HB3 := Lib.hid (HB2.out.trans (hb.mono HB2.out.size))
  clear hb HR2 HB2 HN2
  obtain ⟨Z, hZ⟩ : ∃ Z : World, w3.alloc (.cells #[.int .i64 0, .int .i64 1, .int .i64 5, .int .i64 2, .int .i64 10, .int .i64 1, .int .i64 15, .int .i64 0] 3) = Z := ⟨_, rfl⟩
  have hbz : Below w3.heap.size w3 Z := by rw [← hZ]; exact below_one _
  have hoz : Own Z w3.heap.size 3 .i64 (.slice (some ⟨w3.heap.size, 0, none⟩) 8 8) [0, 1, 5, 2, 10, 1, 15, 0] :=
    ⟨rfl, .inr ⟨w3.heap.size, 8, #[.int .i64 0, .int .i64 1, .int .i64 5, .int .i64 2, .int .i64 10, .int .i64 1, .int .i64 15, .int .i64 0], rfl, Nat.le_refl _, by rw [← hZ]; exact heap_alloc_new _ _, Nat.le_refl _, by simp [maxLen], rfl, rfl⟩⟩
  obtain ⟨A9, c9, e9, hn9⟩ := hoz.nums (fun x hx => wf_time (by revert x; decide))
  injection e9 with e91 e92 e93
  subst e91 e93
  have HN9 := Lib.hid hn9
  have HN4 := Lib.hid (HN3.out.keep hbz hbz.size)
  have HB4 := Lib.hid (HB3.out.trans (hbz.mono HB3.out.size))
  clear hbz hoz hn9 HN3 HB3 e92
  go_wp2_with fail
  first | rw [hZ] | skip
  clear hZ
  refine (ints36 A1 _ 8 c1 8 [0, 1, 5, 2, 10, 1, 15, 0] Z HN4.out HN9.out).mono ?_; rintro e w5 ⟨rfl, hb⟩
  have HB5 := Lib.hid (HB4.out.trans (hb.mono HB4.out.size))
  clear hb
  go_wp2_with fail
  go_ret
  exact ⟨rfl, HB5.out⟩
end Go.Proofs.Ytoomgbddfcmjnaa
