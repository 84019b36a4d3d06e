/- Rounding: Check of a table and another one of its size. -/
import Derived.Test.YtgclljmchdlbeaaNl
namespace Go.Proofs.Ytgclljmchdlbeaa
open Go.RowKit
theorem ints34 (A A' : Option Addr) (n c n' c' : Nat) (l l' : List Int) (B B' : Nat) (w : World) (h : Nums w .i64 B A n c l) (h' : Nums w .i64 B' A' n' c' l') :
    Calls Try.prog 20 #[.slice A n c, .slice A' n' c'] w fun e w' => e = .returned (.bool (decide (l = l'))) ∧ Below w.heap.size w w' := by
  have hm : n ≤ 9223372036854775807 := by have := h.cap; have := h.max; unfold maxLen at this; omega
  have hm' : n' ≤ 9223372036854775807 := by have := h'.cap; have := h'.max; unfold maxLen at this; omega
  have H := Lib.hid h
  have HL := Lib.hid h.len
  have H' := Lib.hid h'
  have HL' := Lib.hid h'.len
  clear h h'
  by_cases hn : n = n'
  · subst hn
    go_enter Try.func20, Try.ntmps20
    go_wp2_with fail
    go_loopw [13] (fun i wr => ∃ j : Nat, j ≤ n ∧ i = .int .i64 j ∧ Hid (l.take j = l'.take j) ∧ ∃ m, wr = w.drewN m) (fun i _ => n - (intOf i).toNat)
    case atStart => exact ⟨0, by omega, rfl, Lib.hid rfl, 0, rfl⟩
    case round =>
      obtain ⟨j, hj, rfl, HN, m, rfl⟩ := hrel
      by_cases hlt : j < n
      · obtain ⟨ad, x, rfl, _, HX, hx, _⟩ := H.out.val hlt
        obtain ⟨ad', x', rfl, _, HX', hx', _⟩ := H'.out.val hlt
        by_cases he : x = x'
        · have hb : (x != x') = false := by simpa using he
          have HE := Lib.hid he
          clear he
          go_wp2_with fail
          go_quiet (fail)
          go_wp2_with fail
          go_roundw
          case rel => exact ⟨j + 1, by omega, by go_num, Lib.hid ((take_succ_eq HX.out HX'.out HN.out).2 HE.out), _, rfl⟩
          case measure => simp [intOf]; omega
        · have hb : (x != x') = true := by simpa using he
          have HE := Lib.hid he
          clear he
          go_wp2_with fail
          go_quiet (fail)
          go_wp2_with fail
          go_ret
          refine ⟨retb ?_, below_drewN (below_drewN (Below.refl _ _) _) _⟩
          have : l ≠ l' := fun e => HE.out ((take_succ_eq HX.out HX'.out HN.out).1 (by rw [e]))
          simp [this]
      · obtain rfl : j = n := by omega
        go_wp2
        go_ret
        refine ⟨retb ?_, below_drewN (Below.refl _ _) _⟩
        have := HN.out
        rw [take_len HL.out, take_len HL'.out] at this
        simp [this]
  · have hb : ((n : Int) != (n' : Int)) = true := by simp; omega
    have HE := Lib.hid hn
    clear hn
    go_enter Try.func20, Try.ntmps20
    go_wp2
    go_ret
    refine ⟨retb ?_, Below.refl _ _⟩
    have : l ≠ l' := fun e => HE.out (by rw [← HL.out, ← HL'.out, e])
    simp [this]
def GivesPlace34 (x : Int) (l : List Int) (w : World) (e : Ending) (w' : World) : Prop := ∃ i : Int, e = .returned (.int .i64 i) ∧ (0 ≤ i ↔ x ∈ l) ∧ w = w'
set_option maxHeartbeats 400000 in
theorem index34c (A : Option Addr) (n c : Nat) (l : List Int) (x : Int) (B : Nat) (w : World) (h : Nums w .i64 B A n c l) :
    Calls Try.prog 68 #[.slice A n c, .int .i64 x] w (GivesPlace34 x l w) := by
  have hm : n ≤ 9223372036854775807 := by have := h.cap; have := h.max; unfold maxLen at this; omega
  have H := Lib.hid h
  have HL := Lib.hid h.len
  clear h
  go_enter Try.func68, Try.ntmps68
  go_wp2_with fail
  go_loop [5, 8] (fun _ i => ∃ j : Nat, j ≤ n ∧ i = .int .i64 j ∧ Hid (x ∉ l.take j)) (fun _ i => n - (intOf i).toNat)
  case atStart => exact ⟨0, by omega, rfl, by show x ∉ l.take 0; simp⟩
  case round =>
    obtain ⟨j, hj, rfl, HI⟩ := hrel
    by_cases hlt : j < n
    · obtain ⟨ad, y, rfl, _, HY, hy, _⟩ := H.out.val hlt
      have HS := Lib.hid (show l.take (j + 1) = l.take j ++ [y] by
        rw [List.take_succ_eq_append_getElem HY.out.2]
        have h9 := HY.out.1
        simp only [List.getD, List.getElem?_eq_getElem HY.out.2, Option.getD_some] at h9
        rw [h9])
      by_cases hxy : x = y
      · subst hxy
        have g1 : (x == x) = true := by simp
        have HM := Lib.hid (show x ∈ l from List.mem_of_mem_take (i := j + 1) (by rw [HS.out]; simp))
        go_wp2_with fail
        go_ret
        exact ⟨j, rfl, ⟨fun _ => HM.out, fun _ => by omega⟩, rfl⟩
      · have g1 : (x == y) = false := by simp [hxy]
        go_wp2_with fail
        go_round
        case rel => exact ⟨j + 1, by omega, by go_num, by
          show x ∉ l.take (j + 1)
          rw [HS.out, List.mem_append]
          rintro (h | h)
          · exact HI.out h
          · exact hxy (by simpa using List.mem_singleton.1 h)⟩
        case measure => simp [intOf]; omega
    · obtain rfl : n = j := by omega
      have HM := Lib.hid (show x ∉ l by have := HI.out; rwa [List.take_of_length_le (by rw [HL.out]; omega)] at this)
      go_wp2_with fail
      go_ret
      exact ⟨-1, rfl, ⟨fun h => absurd h (by omega), fun h => absurd h HM.out⟩, rfl⟩
theorem contains34 (A : Option Addr) (n c : Nat) (l : List Int) (x : Int) (B : Nat) (w : World) (h : Nums w .i64 B A n c l) :
    Calls Try.prog 48 #[.slice A n c, .int .i64 x] w fun e w' => e = .returned (.bool (decide (x ∈ l))) ∧ w = w' := by
  go_enter Try.func48, Try.ntmps48
  go_wp2_with fail
  refine (index34c A n c l x B w h).mono ?_; rintro e w1 ⟨i, rfl, hi, rfl⟩
  have HR := Lib.hid (show decide (x ∈ l) = decide (0 ≤ i) by rw [Bool.eq_iff_iff]; simpa using hi.symm)
  clear hi
  go_wp2_with fail
  go_ret
  exact ⟨congrArg (fun b => Ending.returned (.bool b)) HR.out.symm, rfl⟩

def Rd.ok (b : Int) (t r : List Int) (k : Nat) : Bool := (List.range k).all fun i => decide (r.getD i 0 ∈ Rd.mult (t.getD i 0) b)
set_option maxRecDepth 100000 in
set_option maxHeartbeats 1600000 in
theorem check34 (m n : Nat) (t : List Int) (b : Int) (hT : Rd.Tb m n t b) (A A' : Option Addr) (k c c' : Nat) (r : List Int) (hr : ∀ x ∈ r, -2000000 ≤ x ∧ x ≤ 2000000) (w : World) (h : Nums w .i64 w.heap.size A k c t) (h' : Nums w .i64 w.heap.size A' k c' r) :
    Calls Try.prog 16 #[.int .i64 m, .int .i64 n, .slice A k c, .slice A' k c', .int .i64 b] w fun e w' => e = .returned (.tuple #[.bool (Rd.ok b t r k && Rd.fits n k t r b), .int .i64 0]) ∧ Below w.heap.size w w' := by
  have HK := Lib.hid (show k = m * n by rw [← h.len]; exact hT.len)
  have hk9 : k ≤ 9 := by rw [HK.out]; exact hT.small
  have hmk : (m : Int) * (n : Int) = (k : Int) := by rw [HK.out]; simp
  have H := Lib.hid h
  have H' := Lib.hid h'
  have HT := Lib.hid hT
  have HR := Lib.hid hr
  clear h h' hT hr
  go_enter Try.func16, Try.ntmps16
  go_wp2_with fail
  refine (wrong34 m n HT.out.m1 HT.out.n1 (by have := HT.out.small; omega) A k c HK.out t HT.out.sm b HT.out.b1 HT.out.b2 _ w H.out).mono ?_; rintro e w1 ⟨rfl, rfl⟩
  have g1 : ((k : Int) != (k : Int)) = false := by simp
  go_wp2_with fail
  go_loopw [35] (fun iv wr => ∃ j : Nat, j ≤ k ∧ iv = .int .i64 j ∧ Hid (Rd.ok b t r j = true ∧ Below w.heap.size w wr)) (fun iv _ => k - (intOf iv).toNat)
  case atStart => exact ⟨0, by omega, rfl, rfl, Below.refl _ _⟩
  case round =>
    rename World => X
    obtain ⟨j, hj, rfl, HI⟩ := hrel
    by_cases hlt : j < k
    · have HX1 := Lib.hid (H.out.keep HI.out.2 HI.out.2.size)
      have HX2 := Lib.hid (H'.out.keep HI.out.2 HI.out.2.size)
      obtain ⟨ad, x, rfl, hb1, HX, hx, _⟩ := HX1.out.val hlt
      obtain ⟨ad', y, rfl, hb2, HY, hy, _⟩ := HX2.out.val hlt
      have hyv : ∀ w', Below X.heap.size X w' → w'.cell? (ad'.add j) = some (.int .i64 y) := fun w' h9 => (h9.cell (by rw [add_block]; exact hb2)).trans hy
      have hxm : 0 ≤ x ∧ x ≤ 1000000 := by rw [← HX.out.1]; exact HT.out.sm _ (getD_mem ⟨rfl, HX.out.2⟩)
      have HXM := Lib.hid hxm
      have HMS := Lib.hid (fun z hz => wf64s (Rd.mult_mem hxm ⟨HT.out.b1, HT.out.b2⟩ hz) : ∀ z ∈ Rd.mult x b, (Lit.int .i64 z).wf = true)
      have HS := Lib.hid (show Rd.ok b t r (j + 1) = (Rd.ok b t r j && decide (y ∈ Rd.mult x b)) by unfold Rd.ok; rw [all_range_succ, HX.out.1, HY.out.1])
      have i1 : (0 : Int) ≤ (j : Int) := by omega
      have i2 : (j : Int) < (k : Int) := by omega
      have dm : decide (y ∈ Rd.mult x b) = decide (y ∈ Rd.mult x b) := rfl
      obtain ⟨bl, hbl⟩ : ∃ bl, decide (y ∈ Rd.mult x b) = bl := ⟨_, rfl⟩
      have HBL := Lib.hid hbl
      clear hb1 hb2 hy hxm dm hbl
      go_wp2_with fail
      go_region_held3 (fun w' => Below X.heap.size X w')
        (first | assumption | (exact below_of_drawn 1) | (exact (Below.refl _ _).drew) | (exact below_drewN (by assumption) _) | (exact Below.trans (by assumption) (Below.mono (by assumption) (Below.size (by assumption)))))
        (first
          | (go_at_call 44; (with_reducible refine (mult34 x b _ HXM.out.1 HXM.out.2 HT.out.b1 HT.out.b2).mono ?_); rintro e wz ⟨vz, rfl, hown, hbz⟩; obtain ⟨Az, cz, rfl, hnz⟩ := hown.nums HMS.out; clear hown)
          | (go_at_call 48; (with_reducible refine (contains34 _ _ _ _ _ _ _ hnz).mono ?_); rintro e wy ⟨rfl, rfl⟩; rw [HBL.out])
          | fail)
      all_goals
        have HBX := Lib.hid (HI.out.2.trans ((show Below X.heap.size X wz by assumption).mono HI.out.2.size))
        rcases bl with _ | _
        · have HF := Lib.hid (show (Rd.ok b t r k && Rd.fits n k t r b) = false by
            have : Rd.ok b t r k = false := all_range_bad hlt (by rw [HX.out.1, HY.out.1, HBL.out])
            rw [this]; rfl)
          go_wp2_with fail
          refine bodyPost_ret (v := .tuple #[.bool false, .int .i64 0]) (by simp [results, Try.results16, go_sem]) rfl ?_
          exact ⟨by rw [HF.out], HBX.out⟩
        · go_wp2_with fail
          go_roundw
          case rel => exact ⟨j + 1, by omega, by go_num, by rw [HS.out, HI.out.1, HBL.out]; rfl, HBX.out⟩
          case measure => simp [intOf]; omega
    · obtain rfl : j = k := by omega
      go_wp2_with fail
      refine (fit34 n HT.out.n1 (by have := HT.out.n2; omega) A A' j (by omega) c c' t r (Rd.sm (fun x hx => by have := HT.out.sm x hx; omega)) (Rd.sm HR.out) b X.heap.size X (H.out.keep HI.out.2 HI.out.2.size) (H'.out.keep HI.out.2 HI.out.2.size) (Nat.le_refl _)).mono ?_; rintro e w2 ⟨rfl, hb2⟩
      have HBX := Lib.hid (HI.out.2.trans (hb2.mono HI.out.2.size))
      have HF := Lib.hid (show (Rd.ok b t r j && Rd.fits n j t r b) = Rd.fits n j t r b by rw [HI.out.1]; rfl)
      clear hb2
      go_wp2_with fail
      refine bodyPost_ret (v := .tuple #[.bool (Rd.fits n j t r b), .int .i64 0]) (by simp [results, Try.results16, go_sem]) rfl ?_
      exact ⟨by rw [HF.out], HBX.out⟩
end Go.Proofs.Ytgclljmchdlbeaa
