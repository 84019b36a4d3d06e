/- Cells: product, number, places. -/
import Derived.Test.YtojeendofpallaaMk
import Derived.Test.YtojeendofpallaaCm
namespace Go.Proofs.Ytojeendofpallaa
open Go.RowKit
set_option maxHeartbeats 400000 in
theorem product28 (A : Option Addr) (n c : Nat) (l : List Int) (B : Nat) (w : World) (h : Nums w .i64 B A n c l) (hs : Ce.Space l) :
    Calls Try.prog 57 #[.slice A n c] w fun e w' => e = .returned (.int .i64 (Ce.prodN l l.length)) ∧ w = w' := by
  have hm : n ≤ 9223372036854775807 := by have := h.cap; have := h.max; unfold maxLen at this; omega
  have H := Lib.hid h
  have HS := Lib.hid hs
  have HL := Lib.hid h.len
  clear h hs
  go_enter Try.func57, Try.ntmps57
  go_wp2_with fail
  go_loop [3, 8] (fun s i => ∃ j : Nat, j ≤ n ∧ i = .int .i64 j ∧ s = .int .i64 (Ce.prodN l j)) (fun _ i => n - (intOf i).toNat)
  case atStart => exact ⟨0, by omega, rfl, rfl⟩
  case round =>
    obtain ⟨j, hj, rfl, rfl⟩ := hrel
    by_cases hlt : j < n
    · obtain ⟨ad, x, rfl, _, HX, hx, hwx⟩ := H.out.val hlt
      have b1 := HS.out.bd (j := j) (by have := HL.out; omega)
      have b2 := HS.out.bd (j := j + 1) (by have := HL.out; omega)
      have e2 : Ce.prodN l (j + 1) = Ce.prodN l j * x := by show Ce.prodN l j * l.getD j 0 = _; rw [HX.out.1]
      rw [e2] at b2
      have HE := Lib.hid e2
      clear e2
      generalize Ce.prodN l j = p at *
      go_wp2_with fail
      go_round
      case rel => exact ⟨j + 1, by omega, by go_num, by rw [HE.out]⟩
      case measure => simp [intOf]; omega
    · obtain rfl : j = n := by omega
      go_wp2
      go_ret
      exact ⟨ret_int (by rw [HL.out]), rfl⟩
set_option maxHeartbeats 400000 in
theorem number28 (A A' : Option Addr) (n c c' : Nat) (l l' : List Int) (B B' : Nat) (w : World) (h : Nums w .i64 B A n c l) (h' : Nums w .i64 B' A' n c' l') (hs : Ce.Space l) (hx : ∀ j, j < l.length → 0 ≤ l'.getD j 0 ∧ l'.getD j 0 < l.getD j 0) :
    Calls Try.prog 56 #[.slice A n c, .slice A' n c'] w fun e w' => e = .returned (.int .i64 (Ce.numN l l' l.length)) ∧ w = w' := by
  have hm : n ≤ 9223372036854775807 := by have := h.cap; have := h.max; unfold maxLen at this; omega
  have H := Lib.hid h
  have H' := Lib.hid h'
  have HS := Lib.hid hs
  have HL := Lib.hid h.len
  have HX0 := Lib.hid hx
  clear h hs h' hx
  go_enter Try.func56, Try.ntmps56
  go_wp2_with fail
  go_loop [5, 10] (fun s i => ∃ j : Nat, j ≤ n ∧ i = .int .i64 j ∧ s = .int .i64 (Ce.numN l l' j)) (fun _ i => n - (intOf i).toNat)
  case atStart => exact ⟨0, by omega, rfl, rfl⟩
  case round =>
    obtain ⟨j, hj, rfl, rfl⟩ := hrel
    by_cases hlt : j < n
    · obtain ⟨ad, x, rfl, _, HX, hx, hwx⟩ := H.out.val hlt
      obtain ⟨ad', y, rfl, _, HY, hy, hwy⟩ := H'.out.val hlt
      have hjl : j < l.length := by have := HL.out; omega
      have b0 := Ce.numN_bd HS.out.lo HX0.out j (by omega)
      have b1 := Ce.numN_bd HS.out.lo HX0.out (j + 1) (by omega)
      have p1 := HS.out.bd (j := j) (by omega)
      have p2 := HS.out.bd (j := j + 1) (by omega)
      have x0 := HS.out.lo j hjl
      have x1 := HS.out.hi j hjl
      have y0 := HX0.out j hjl
      rw [HX.out.1] at x0 x1 y0
      rw [HY.out.1] at y0
      have e2 : Ce.numN l l' (j + 1) = Ce.numN l l' j * x + y := by show Ce.numN l l' j * l.getD j 0 + l'.getD j 0 = _; rw [HX.out.1, HY.out.1]
      rw [e2] at b1
      have hmul : 0 ≤ Ce.numN l l' j * x := Int.mul_nonneg b0.1 (by omega)
      have HE := Lib.hid e2
      clear e2
      generalize Ce.numN l l' j = p at *
      generalize Ce.prodN l j = p1' at *
      generalize Ce.prodN l (j + 1) = p2' at *
      go_wp2_with fail
      go_round
      case rel => exact ⟨j + 1, by omega, by go_num, by rw [HE.out]⟩
      case measure => simp [intOf]; omega
    · obtain rfl : j = n := by omega
      go_wp2
      go_ret
      exact ⟨ret_int (by rw [HL.out]), rfl⟩
set_option maxHeartbeats 400000 in
theorem places28 (A : Option Addr) (n c : Nat) (l : List Int) (x : Int) (w : World) (h : Nums w .i64 w.heap.size A n c l) (hs : Ce.Space l) (hq : 0 ≤ x) (hq2 : x ≤ 48) :
    Calls Try.prog 58 #[.slice A n c, .int .i64 x] w (GivesInts (Ce.places l x) w) := by
  have hm : n ≤ 4 := by rw [← h.len]; exact hs.few
  have H := Lib.hid h
  have HS := Lib.hid hs
  have HL := Lib.hid h.len
  clear h hs
  go_enter Try.func58, Try.ntmps58
  go_wp2_with (at_make; refine make_ints _ rfl _ _ _ rfl w.heap.size 3 8 .i64 int_info28 Try.underlying22 n rfl rfl (by simp only [maxLen]; omega) (by omega) (Nat.le_refl _) ?_; intro w1 hown hgrow)
  have HB1 := Lib.hid (Own.below_grown hgrow (Nat.le_refl w.heap.size))
  rw [← HL.out, ← Ce.part_zero l x, HL.out] at hown
  have HO1 := Lib.hid hown
  clear hown hgrow
  go_loopw [1, 6] (fun q i wr => ∃ j k : Nat, j + k = n ∧ i = .int .i64 ((j : Int) - 1) ∧ q = .int .i64 (Ce.quoN l x k) ∧ Hid (Own wr w.heap.size 3 .i64 (.slice (some ⟨w.heap.size, 0, none⟩) n n) (Ce.part l x k) ∧ Below w.heap.size w wr)) (fun _ i _ => (intOf i + 1).toNat)
  case atStart => exact ⟨n, 0, rfl, rfl, rfl, HO1.out, HB1.out⟩
  case round =>
    obtain ⟨j, k, hjk, rfl, rfl, HI⟩ := hrel
    rcases j with _ | j
    · go_wp2_with fail
      go_ret
      obtain rfl : k = n := by omega
      refine ⟨_, rfl, ?_, HI.out.2⟩
      have := HI.out.1
      rw [← HL.out, Ce.part_all] at this
      rw [HL.out] at this
      exact this
    · have hjn : j < n := by omega
      obtain ⟨ad, s, rfl, hlt, HX, hx0, hwx⟩ := H.out.val hjn
      have hx : wr.cell? (ad.add j) = some (.int .i64 s) := by rw [HI.out.2.cell (by rw [add_block]; exact hlt)]; exact hx0
      have c2 : ∀ v, (wr.setCell ⟨w.heap.size, j, none⟩ v).cell? (ad.add j) = some (.int .i64 s) := fun v => by rw [World.cell?_setCell_other _ _ _ _ (fun e => by have e2 := congrArg Addr.block e; rw [add_block] at e2; simp at e2; omega)]; exact hx
      have s0 := HS.out.lo j (by rw [HL.out]; exact hjn)
      have s1 := HS.out.hi j (by rw [HL.out]; exact hjn)
      rw [HX.out.1] at s0 s1
      have q0 := Ce.quoN_nonneg HS.out.lo hq k
      have q1 := Ce.quoN_le HS.out.lo hq k
      have c1 : wr.cell? ⟨w.heap.size, j, none⟩ = some (.int .i64 ((Ce.part l x k).getD j 0)) := HI.out.1.cell (by rw [Ce.part_len, HL.out]; exact hjn)
      have f1 := HI.out.1.thaw j
      have HE := Lib.hid (show Ce.quoN l x (k + 1) = Ce.quoN l x k / s by show Ce.quoN l x k / l.getD (l.length - 1 - k) 0 = _; rw [show l.length - 1 - k = j by have := HL.out; omega, HX.out.1])
      have HP := Lib.hid (show Ce.place l x j = Ce.quoN l x k % s by show Ce.quoN l x (l.length - 1 - j) % l.getD j 0 = _; rw [show l.length - 1 - j = k by have := HL.out; omega, HX.out.1])
      have HJK := Lib.hid hjk
      generalize Ce.quoN l x k = q at *
      clear hjk
      go_wp2_with fail
      go_roundw
      case rel =>
        have q := HI.out.1.store j (q % s)
        refine ⟨j, k + 1, by have := HJK.out; omega, by go_num, by rw [HE.out], ?_, ?_⟩
        · rw [Ce.part_succ l x j k (by have := HL.out; have := HJK.out; omega), HP.out]; exact q.1
        · exact HI.out.1.grow HI.out.2 q.2 HI.out.2.size (Nat.le_refl _)
      case measure => simp [intOf]
end Go.Proofs.Ytojeendofpallaa
