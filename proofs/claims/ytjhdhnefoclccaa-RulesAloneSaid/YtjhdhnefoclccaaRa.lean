/- rules: what all its functions call; Protected, Stricter. -/
import Derived.Test.YtjhdhnefoclccaaGi
import Derived.Test.YtjhdhnefoclccaaB2
import Derived.Deep.QuietTactic
import Derived.BigQuiet
import Derived.BigGuardPart
namespace Go.Proofs.Ytjhdhnefoclccaa
open Go.RowKit
def Rl.out (x : Int) : Bool := decide (x < -1099511627776) || decide (1099511627776 < x)
theorem out27 (x : Int) (w : World) : Calls Try.prog 43 #[.int .i64 x] w fun e w' => e = .returned (.bool (Rl.out x)) ∧ w = w' := by
  by_cases h : x < -1099511627776
  · have hr : Rl.out x = true := by simp [Rl.out, h]
    have HR := Lib.hid hr
    clear hr
    go_enter Try.func43, Try.ntmps43
    go_wp2
    go_ret
    exact ⟨retb HR.out.symm, rfl⟩
  · by_cases h2 : 1099511627776 < x
    · have hr : Rl.out x = true := by simp [Rl.out, h2]
      have HR := Lib.hid hr
      clear hr
      go_enter Try.func43, Try.ntmps43
      go_wp2
      go_ret
      exact ⟨retb HR.out.symm, rfl⟩
    · have hr : Rl.out x = false := by simp only [Rl.out, Bool.or_eq_false_iff, decide_eq_false_iff_not]; omega
      have HR := Lib.hid hr
      clear hr
      go_enter Try.func43, Try.ntmps43
      go_wp2
      go_ret
      exact ⟨retb HR.out.symm, rfl⟩
def GivesPlaceP (p : Int → Bool) (l : List Int) (w : World) (e : Ending) (w' : World) : Prop := ∃ i : Int, e = .returned (.int .i64 i) ∧ (0 ≤ i ↔ l.any p = true) ∧ w = w'
theorem any_take_succ (p : Int → Bool) {l : List Int} {j : Nat} {x : Int} (h : l.getD j 0 = x ∧ j < l.length) : (l.take (j + 1)).any p = ((l.take j).any p || p x) := by
  rw [take_succ_getD l j h.2, h.1, List.any_append]; simp
theorem index_out (A : Option Addr) (n c : Nat) (l : List Int) (B : Nat) (w : World) (h : Nums w .i64 B A n c l) :
    Calls Try.prog 48 #[.slice A n c, .func (.func 43) #[] #[]] w (GivesPlaceP Rl.out l w) := by
  have hm : n ≤ 9223372036854775807 := by have := h.cap; have := h.max; unfold maxLen at this; omega
  have H := Lib.hid h
  have HL := Lib.hid h.len
  clear h
  go_enter Try.func48, Try.ntmps48
  go_wp2_with fail
  go_loop [5, 8] (fun _ i => ∃ j : Nat, j ≤ n ∧ i = .int .i64 j ∧ Hid ((l.take j).any Rl.out = false)) (fun _ i => n - (intOf i).toNat)
  case atStart => exact ⟨0, by omega, rfl, Lib.hid (by simp)⟩
  case round =>
    obtain ⟨j, hj, rfl, HN⟩ := hrel
    by_cases hlt : j < n
    · obtain ⟨ad, x, rfl, _, HX, hx, _⟩ := H.out.val hlt
      have HS := Lib.hid (any_take_succ Rl.out HX.out)
      rcases ho : Rl.out x with _ | _
      · have HO := Lib.hid ho
        clear ho
        go_wp2_with fail
        refine (out27 x w).mono ?_; rintro e w1 ⟨rfl, rfl⟩
        rw [HO.out]
        go_wp2_with fail
        go_round
        case rel => exact ⟨j + 1, by omega, by go_num, Lib.hid (by rw [HS.out, HN.out, HO.out]; rfl)⟩
        case measure => simp [intOf]; omega
      · have HO := Lib.hid ho
        clear ho
        go_wp2_with fail
        refine (out27 x w).mono ?_; rintro e w1 ⟨rfl, rfl⟩
        rw [HO.out]
        go_wp2_with fail
        go_ret
        exact ⟨j, rfl, ⟨fun _ => List.any_eq_true.2 ⟨x, getD_mem HX.out, HO.out⟩, fun _ => by omega⟩, rfl⟩
    · obtain rfl : j = n := by omega
      go_wp2
      go_ret
      have := HN.out
      rw [take_len HL.out] at this
      exact ⟨-1, rfl, by rw [this]; simp, rfl⟩
theorem contains_out (A : Option Addr) (n c : Nat) (l : List Int) (B : Nat) (w : World) (h : Nums w .i64 B A n c l) :
    Calls Try.prog 41 #[.slice A n c, .func (.func 43) #[] #[]] w fun e w' => e = .returned (.bool (l.any Rl.out)) ∧ w = w' := by
  go_enter Try.func41, Try.ntmps41
  go_wp2_with fail
  refine (index_out A n c l B w h).mono ?_; rintro e w1 ⟨i, rfl, hi, rfl⟩
  have HI := Lib.hid hi
  clear hi h
  go_wp2_with fail
  go_ret
  refine ⟨retb ?_, rfl⟩
  rw [Bool.eq_iff_iff, ← HI.out]
  simp

theorem check27 (a b : Int) (a1 : 1 ≤ a) (a2 : a ≤ 100) (b1 : 1 ≤ b) (b2 : b ≤ 100) (w : World) : Calls Try.prog 39 #[.agg #[.int .i64 a, .int .i64 b, .int .i64 0, .int .i64 0]] w fun e w' => e = .returned (.int .i64 0) ∧ Below w.heap.size w w' := by
  go_enter Try.func39, Try.ntmps39
  go_wp2_with fail
  go_ret
  exact ⟨rfl, (Below.refl _ _).alloc (Nat.le_refl _) _⟩
def Rl.few (a x : Int) : Bool := decide (1 ≤ x) && decide (x < a)
theorem few27 (a b x : Int) (w : World) : Calls Try.prog 46 #[.agg #[.int .i64 a, .int .i64 b, .int .i64 0, .int .i64 0], .int .i64 x] w fun e w' => e = .returned (.bool (Rl.few a x)) ∧ Below w.heap.size w w' := by
  by_cases h : 1 ≤ x
  · by_cases h2 : x < a
    · go_enter Try.func46, Try.ntmps46
      go_wp2_with fail
      go_ret
      exact ⟨retb (by simp [Rl.few, h, h2]), (Below.refl _ _).alloc (Nat.le_refl _) _⟩
    · go_enter Try.func46, Try.ntmps46
      go_wp2_with fail
      go_ret
      exact ⟨retb (by simp [Rl.few, h, h2]), (Below.refl _ _).alloc (Nat.le_refl _) _⟩
  · go_enter Try.func46, Try.ntmps46
    go_wp2_with fail
    go_ret
    exact ⟨retb (by simp [Rl.few]; omega), (Below.refl _ _).alloc (Nat.le_refl _) _⟩
/-- the places below k of what has to be protected -/
def Rl.pr (a : Int) (l : List Int) (k : Nat) : List Int := ((List.range k).filter fun j => Rl.few a (l.getD j 0)).map Int.ofNat
theorem Rl.pr_succ (a : Int) (l : List Int) (k : Nat) : Rl.pr a l (k + 1) = Rl.pr a l k ++ if Rl.few a (l.getD k 0) then [(k : Int)] else [] := by
  unfold Rl.pr
  rw [List.range_succ, List.filter_append, List.map_append]
  by_cases h : Rl.few a (l.getD k 0) = true
  · simp only [List.filter_cons, h, if_true, List.filter_nil]; rfl
  · simp only [List.filter_cons, h, List.filter_nil]; rfl
theorem Rl.pr_len (a : Int) (l : List Int) (k : Nat) : (Rl.pr a l k).length ≤ k := by
  unfold Rl.pr
  rw [List.length_map]
  exact Nat.le_trans (List.length_filter_le _ _) (by simp)
def GivesProt (l : List Int) (w : World) (e : Ending) (w' : World) : Prop := ∃ v, e = .returned (.tuple #[v, .int .i64 0]) ∧ Own w' w.heap.size 3 .i64 v l ∧ Below w.heap.size w w'
set_option maxHeartbeats 400000 in
theorem protected27 (a b : Int) (a1 : 1 ≤ a) (a2 : a ≤ 100) (b1 : 1 ≤ b) (b2 : b ≤ 100) (A : Option Addr) (n c : Nat) (l : List Int) (w : World) (h : Nums w .i64 w.heap.size A n c l) (hn : n ≤ 200) :
    Calls Try.prog 28 #[.agg #[.int .i64 a, .int .i64 b, .int .i64 0, .int .i64 0], .slice A n c] w (GivesProt (Rl.pr a l n) w) := by
  obtain ⟨W, hW⟩ : ∃ W : World, w.alloc (.cells #[.int .i64 a, .int .i64 b, .int .i64 0, .int .i64 0] 49) = W := ⟨_, rfl⟩
  have hbw : Below w.heap.size w W := by rw [← hW]; exact (Below.refl _ _).alloc (Nat.le_refl _) _
  have c0 : W.cell? ⟨w.heap.size, 0, none⟩ = some (.int .i64 a) := by rw [← hW]; simp [go_sem]
  have c1 : W.cell? ⟨w.heap.size, 1, none⟩ = some (.int .i64 b) := by rw [← hW]; simp [go_sem]
  have c2 : W.cell? ⟨w.heap.size, 2, none⟩ = some (.int .i64 0) := by rw [← hW]; simp [go_sem]
  have c3 : W.cell? ⟨w.heap.size, 3, none⟩ = some (.int .i64 0) := by rw [← hW]; simp [go_sem]
  have HBW := Lib.hid hbw
  have HNW := Lib.hid (h.keep hbw hbw.size)
  have HWE := Lib.hid hW
  have hlt : w.heap.size < W.heap.size := by rw [← hW]; simp
  clear hW hbw h
  go_enter Try.func28, Try.ntmps28
  go_wp2_with fail
  rw [HWE.out]
  refine (check27 a b a1 a2 b1 b2 W).mono ?_; rintro e w1 ⟨rfl, hb1⟩
  have HB1 := Lib.hid (HBW.out.trans (hb1.mono HBW.out.size))
  have HN1 := Lib.hid (HNW.out.keep hb1 hb1.size)
  have HC := Lib.hid (And.intro (below_cell hb1 c0) (And.intro (below_cell hb1 c1) (And.intro (below_cell hb1 c2) (below_cell hb1 c3))))
  have hlt1 : w.heap.size < w1.heap.size := Nat.lt_of_lt_of_le hlt hb1.size
  clear hb1 c0 c1 c2 c3
  go_wp2_with fail
  go_loopw [7, 8, 9, 20] (fun s _ _ i wr => ∃ j : Nat, j ≤ n ∧ i = .int .i64 j ∧ Hid (Own wr w1.heap.size 3 .i64 s (Rl.pr a l j) ∧ Below w1.heap.size w1 wr)) (fun _ _ _ i _ => n - (intOf i).toNat)
  case atStart => exact ⟨0, by omega, rfl, ⟨by simpa [Rl.pr] using Own.nil _ _ _ _, Below.refl _ _⟩⟩
  case round =>
    obtain ⟨j, hj, rfl, HI⟩ := hrel
    by_cases hlt : j < n
    · obtain ⟨ad, x, rfl, _, HX, hx, _⟩ := (HN1.out.keep HI.out.2 HI.out.2.size).val hlt
      obtain ⟨c0, c1, c2, c3⟩ := HC.out
      have d0 := below_cell HI.out.2 c0
      have d1 := below_cell HI.out.2 c1
      have d2 := below_cell HI.out.2 c2
      have d3 := below_cell HI.out.2 c3
      have HS := Lib.hid (Rl.pr_succ a l j)
      have hfx : Rl.few a (l.getD j 0) = Rl.few a x := by rw [HX.out.1]
      have hlen := Lib.hid (Rl.pr_len a l j)
      clear c0 c1 c2 c3
      rcases hf : Rl.few a x with _ | _
      · have HS2 := Lib.hid (show Rl.pr a l (j + 1) = Rl.pr a l j by rw [HS.out, hfx, hf]; simp)
        clear hfx
        have HF := Lib.hid hf
        clear hf
        go_wp2_with fail
        refine (few27 a b x _).mono ?_; rintro e w2 ⟨rfl, hb2⟩
        rw [HF.out]
        have HB2 := Lib.hid hb2
        clear hb2
        go_wp2_with fail
        go_roundw
        case rel => exact ⟨j + 1, by omega, by go_num, ⟨by rw [HS2.out]; exact HI.out.1.below HB2.out, HI.out.2.trans (HB2.out.mono HI.out.2.size)⟩⟩
        case measure => simp [intOf]; omega
      · have HS2 := Lib.hid (show Rl.pr a l (j + 1) = Rl.pr a l j ++ [(j : Int)] by rw [HS.out, hfx, hf]; simp)
        clear hfx
        have HF := Lib.hid hf
        clear hf
        go_wp2_with fail
        refine (few27 a b x _).mono ?_; rintro e w2 ⟨rfl, hb2⟩
        rw [HF.out]
        have HB2 := Lib.hid (HI.out.2.trans (hb2.mono HI.out.2.size))
        have HO2 := Lib.hid (HI.out.1.below hb2)
        clear hb2
        go_wp2_with (at_builtin; refine app_int _ rfl (.tmp 28) (.tmp 30) _ rfl w1.heap.size 3 8 .i64 int_info Try.underlying53 _ _ rfl (HO2.out.alloc _) j _ rfl (by simp [go_sem]) (by have := hlen.out; simp only [maxLen]; omega) (by have := hlen.out; omega) (by have := HB2.out.size; simp; omega) ?_; intro v' w' hown' hgrow)
        go_roundw
        case rel => exact ⟨j + 1, by omega, by go_num, ⟨by rw [HS2.out]; exact hown', (HO2.out.alloc _).grow (HB2.out.alloc HB2.out.size _) hgrow (by have := HB2.out.size; simp; omega) (Nat.le_refl _)⟩⟩
        case measure => simp [intOf]; omega
    · obtain rfl : j = n := by omega
      go_wp2_with fail
      go_ret2
      exact ⟨_, rfl, HI.out.1.base_le (by omega), HB1.out.trans (HI.out.2.mono HB1.out.size)⟩
theorem stricter27 (a a' b : Int) (h : a ≤ a') (a1 : 1 ≤ a) (a2 : a' ≤ 100) (b1 : 1 ≤ b) (b2 : b ≤ 100) (w : World) : Calls Try.prog 29 #[.agg #[.int .i64 a', .int .i64 b, .int .i64 0, .int .i64 0], .agg #[.int .i64 a, .int .i64 b, .int .i64 0, .int .i64 0]] w fun e w' => e = .returned (.bool true) ∧ Below w.heap.size w w' := by
  obtain ⟨W, hW⟩ : ∃ W : World, (w.alloc (.cells #[.int .i64 a', .int .i64 b, .int .i64 0, .int .i64 0] 49)).alloc (.cells #[.int .i64 a, .int .i64 b, .int .i64 0, .int .i64 0] 49) = W := ⟨_, rfl⟩
  have hbw : Below w.heap.size w W := by rw [← hW]; exact ((Below.refl _ _).alloc (Nat.le_refl _) _).alloc (by simp) _
  have c0 : W.cell? ⟨w.heap.size, 0, none⟩ = some (.int .i64 a') := by rw [← hW]; simp [go_sem]
  have c1 : W.cell? ⟨w.heap.size, 1, none⟩ = some (.int .i64 b) := by rw [← hW]; simp [go_sem]
  have c2 : W.cell? ⟨w.heap.size, 2, none⟩ = some (.int .i64 0) := by rw [← hW]; simp [go_sem]
  have c3 : W.cell? ⟨w.heap.size, 3, none⟩ = some (.int .i64 0) := by rw [← hW]; simp [go_sem]
  have d0 : W.cell? ⟨w.heap.size + 1, 0, none⟩ = some (.int .i64 a) := by rw [← hW]; simp [go_sem]
  have d1 : W.cell? ⟨w.heap.size + 1, 1, none⟩ = some (.int .i64 b) := by rw [← hW]; simp [go_sem]
  have d2 : W.cell? ⟨w.heap.size + 1, 2, none⟩ = some (.int .i64 0) := by rw [← hW]; simp [go_sem]
  have d3 : W.cell? ⟨w.heap.size + 1, 3, none⟩ = some (.int .i64 0) := by rw [← hW]; simp [go_sem]
  have HBW := Lib.hid hbw
  have HWE := Lib.hid hW
  clear hW hbw
  go_enter Try.func29, Try.ntmps29
  go_wp2_with fail
  rw [HWE.out]
  refine (check27 a' b (by omega) a2 b1 b2 W).mono ?_; rintro e w1 ⟨rfl, hb1⟩
  replace c0 := below_cell hb1 c0
  replace c1 := below_cell hb1 c1
  replace c2 := below_cell hb1 c2
  replace c3 := below_cell hb1 c3
  replace d0 := below_cell hb1 d0
  replace d1 := below_cell hb1 d1
  replace d2 := below_cell hb1 d2
  replace d3 := below_cell hb1 d3
  have HB1 := Lib.hid (HBW.out.trans (hb1.mono HBW.out.size))
  clear hb1
  go_wp2_with fail
  refine (check27 a b a1 (by omega) b1 b2 w1).mono ?_; rintro e w2 ⟨rfl, hb2⟩
  replace c0 := below_cell hb2 c0
  replace c1 := below_cell hb2 c1
  replace c2 := below_cell hb2 c2
  replace c3 := below_cell hb2 c3
  replace d0 := below_cell hb2 d0
  replace d1 := below_cell hb2 d1
  replace d2 := below_cell hb2 d2
  replace d3 := below_cell hb2 d3
  have HB2 := Lib.hid (HB1.out.trans (hb2.mono HB1.out.size))
  clear hb2
  go_wp2_with fail
  go_ret
  exact ⟨rfl, HB2.out⟩
end Go.Proofs.Ytjhdhnefoclccaa
