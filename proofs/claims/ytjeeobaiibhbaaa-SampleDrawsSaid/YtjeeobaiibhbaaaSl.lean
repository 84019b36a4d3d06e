/- Samples: lists, the example that every law asks, and limited samples. -/
import Derived.Test.YtjeeobaiibhbaaaSm
namespace Go.Proofs.Ytjeeobaiibhbaaa
open Go.RowKit
/-- A sample within its limits. -/
def Sm.Fits (p o s : Int) : Prop := 1 ≤ o ∧ o ≤ 9 ∧ 1 ≤ p ∧ p ≤ o ∧ 0 ≤ s ∧ s ≤ 1099511627776
def Sm.Limited (w : World) (e : Ending) (w' : World) : Prop := ∃ p o s : Int, Sm.Fits p o s ∧ e = .returned (.agg #[.int .i64 p, .int .i64 o, .int .i64 s]) ∧ Below w.heap.size w w'
theorem tmod_bounds (a n : Int) (h : 1 ≤ n) : -n < a.tmod n ∧ a.tmod n < n ∧ (0 ≤ a → 0 ≤ a.tmod n) ∧ (a ≤ 0 → a.tmod n ≤ 0) := by
  have hpos : ∀ b : Int, 0 ≤ b → 0 ≤ b.tmod n ∧ b.tmod n < n := fun b hb => by
    rw [Int.tmod_eq_emod_of_nonneg hb]; exact ⟨Int.emod_nonneg _ (by omega), Int.emod_lt_of_pos _ (by omega)⟩
  rcases Int.le_total 0 a with ha | ha
  · have := hpos a ha
    refine ⟨by omega, by omega, fun _ => this.1, fun ha' => ?_⟩
    obtain rfl : a = 0 := by omega
    simp
  · have := hpos (-a) (by omega)
    rw [Int.neg_tmod] at this
    refine ⟨by omega, by omega, fun ha' => ?_, fun _ => by omega⟩
    obtain rfl : a = 0 := by omega
    simp
theorem Sm.part_lo (p n : Int) (hn : 1 ≤ n) (hn' : n ≤ 9) (h : p.tmod n < 0) : 1 ≤ wrap64 (1 + (wrap64 (p.tmod n + n)).tmod n) ∧ wrap64 (1 + (wrap64 (p.tmod n + n)).tmod n) ≤ n := by
  have h1 := tmod_bounds p n hn
  rw [IntWalk.wrap64_in (p.tmod n + n) (by omega)]
  have h2 := tmod_bounds (p.tmod n + n) n hn
  have h3 := h2.2.2.1 (by omega)
  rw [IntWalk.wrap64_in _ (by omega)]
  omega
theorem Sm.part_hi (p n : Int) (hn : 1 ≤ n) (hn' : n ≤ 9) (h : 0 ≤ p.tmod n) : 1 ≤ wrap64 (1 + p.tmod n) ∧ wrap64 (1 + p.tmod n) ≤ n := by
  have h1 := tmod_bounds p n hn
  rw [IntWalk.wrap64_in _ (by omega)]
  omega
set_option maxHeartbeats 400000 in
theorem limited11 (p o s t : Int) (hs : -9223372036854775808 ≤ s) (hs' : s ≤ 9223372036854775807) (ht : 0 ≤ t) (ht' : t ≤ 65535) (w : World) :
    Calls Try.prog 13 #[.agg #[.int .i64 p, .int .i64 o, .int .i64 s], .int .u16 t] w (Sm.Limited w) := by
  have hT : 0 ≤ t % 9 ∧ t % 9 ≤ 8 := by omega
  go_enter Try.func13, Try.ntmps13
  go_wp2
  · have hP := Sm.part_lo p (1 + t % 9) (by omega) (by omega) (by assumption)
    have hS := tmod_bounds (s + 1) 1099511627777 (by omega)
    have hS2 := hS.2.2.2 (by omega)
    exact bodyPost_ret (v := .agg #[.int .i64 (wrap64 (1 + (wrap64 (p.tmod (1 + t % 9) + (1 + t % 9))).tmod (1 + t % 9))), .int .i64 (1 + t % 9), .int .i64 (-(s + 1).tmod 1099511627777)])
      (by simp [results, Try.results13, go_sem]) rfl ⟨_, _, _, ⟨by omega, by omega, hP.1, hP.2, by omega, by omega⟩, rfl, ((Below.refl _ _).alloc (Nat.le_refl _) _).alloc (by simp) _⟩
  · have hP := Sm.part_lo p (1 + t % 9) (by omega) (by omega) (by assumption)
    exact bodyPost_ret (v := .agg #[.int .i64 (wrap64 (1 + (wrap64 (p.tmod (1 + t % 9) + (1 + t % 9))).tmod (1 + t % 9))), .int .i64 (1 + t % 9), .int .i64 (s % 1099511627777)])
      (by simp [results, Try.results13, go_sem]) rfl ⟨_, _, _, ⟨by omega, by omega, hP.1, hP.2, by omega, by omega⟩, rfl, ((Below.refl _ _).alloc (Nat.le_refl _) _).alloc (by simp) _⟩
  · have hP := Sm.part_hi p (1 + t % 9) (by omega) (by omega) (by assumption)
    have hS := tmod_bounds (s + 1) 1099511627777 (by omega)
    have hS2 := hS.2.2.2 (by omega)
    exact bodyPost_ret (v := .agg #[.int .i64 (wrap64 (1 + p.tmod (1 + t % 9))), .int .i64 (1 + t % 9), .int .i64 (-(s + 1).tmod 1099511627777)])
      (by simp [results, Try.results13, go_sem]) rfl ⟨_, _, _, ⟨by omega, by omega, hP.1, hP.2, by omega, by omega⟩, rfl, ((Below.refl _ _).alloc (Nat.le_refl _) _).alloc (by simp) _⟩
  · have hP := Sm.part_hi p (1 + t % 9) (by omega) (by omega) (by assumption)
    exact bodyPost_ret (v := .agg #[.int .i64 (wrap64 (1 + p.tmod (1 + t % 9))), .int .i64 (1 + t % 9), .int .i64 (s % 1099511627777)])
      (by simp [results, Try.results13, go_sem]) rfl ⟨_, _, _, ⟨by omega, by omega, hP.1, hP.2, by omega, by omega⟩, rfl, ((Below.refl _ _).alloc (Nat.le_refl _) _).alloc (by simp) _⟩
/-- The function returns a row of its own that holds the ints l. -/
def GivesInts (l : List Int) (w : World) (e : Ending) (w' : World) : Prop := ∃ v, e = .returned v ∧ Own w' w.heap.size 3 .i64 v l ∧ Below w.heap.size w w'
theorem filter_take_succ (f : Int → Bool) {l : List Int} {j : Nat} {x : Int} (h : l.getD j 0 = x ∧ j < l.length) : (l.take (j + 1)).filter f = (l.take j).filter f ++ if f x then [x] else [] := by
  rw [take_succ_getD l j h.2, h.1, List.filter_append]
  cases hf : f x <;> simp [List.filter, hf]
theorem int_info11 : (Try.prog.info? 3).map (fun i => (i.zero, i.size, i.bytes)) = some (some (.int .i64 0), 1, 8) := by kernel_rfl
set_option maxHeartbeats 400000 in
theorem chosen11 (p o s : Int) (A : Option Addr) (n c : Nat) (l : List Int) (w : World) (h : Nums w .i64 w.heap.size A n c l) (hn : n ≤ 1000) :
    Calls Try.prog 19 #[.agg #[.int .i64 p, .int .i64 o, .int .i64 s], .slice A n c] w (GivesInts (l.filter (Sm.inS p o s)) w) := by
  obtain ⟨W, hW⟩ : ∃ W : World, w.alloc (.cells #[.int .i64 p, .int .i64 o, .int .i64 s] 23) = W := ⟨_, rfl⟩
  have c0 : W.cell? ⟨w.heap.size, 0, none⟩ = some (.int .i64 p) := by rw [← hW]; simp [go_sem]
  have c1 : W.cell? ⟨w.heap.size, 1, none⟩ = some (.int .i64 o) := by rw [← hW]; simp [go_sem]
  have c2 : W.cell? ⟨w.heap.size, 2, none⟩ = some (.int .i64 s) := by rw [← hW]; simp [go_sem]
  have hsz : W.heap.size = w.heap.size + 1 := by rw [← hW]; simp
  have hbW : Below w.heap.size w W := by rw [← hW]; exact (Below.refl _ _).alloc (Nat.le_refl _) _
  have H := Lib.hid h
  have HB := Lib.hid hbW
  have HC := Lib.hid (And.intro c0 (And.intro c1 c2))
  have HZ := Lib.hid hsz
  clear h hbW c0 c1 c2 hsz
  go_enter Try.func19, Try.ntmps19
  go_wp2_with fail
  have HWE := Lib.hid hW
  clear hW
  go_loopw [5, 7, 10] (fun v _ i wr => ∃ j : Nat, j ≤ n ∧ i = .int .i64 j ∧ Hid (Own wr W.heap.size 3 .i64 v ((l.take j).filter (Sm.inS p o s)) ∧ Below W.heap.size W wr)) (fun _ _ i _ => n - (intOf i).toNat)
  case atStart => exact ⟨0, by omega, rfl, ⟨by simpa using Own.nil _ _ _ _, Below.refl _ _⟩⟩
  case round =>
    obtain ⟨j, hj, rfl, HI⟩ := hrel
    by_cases hlt : j < n
    · have hb2 : Below w.heap.size w wr := HB.out.trans (HI.out.2.mono HB.out.size)
      obtain ⟨ad, x, rfl, _, HX, hx, _⟩ := (H.out.keep hb2 hb2.size).val hlt
      have hlen := Lib.hid (show ((l.take j).filter (Sm.inS p o s)).length ≤ 1000 from Nat.le_trans (List.length_filter_le _ _) (by rw [List.length_take]; omega))
      have e0 : wr.cell? ⟨w.heap.size, 0, none⟩ = some (.int .i64 p) := by rw [HI.out.2.cell (by rw [HZ.out]; simp)]; exact HC.out.1
      have e1 : wr.cell? ⟨w.heap.size, 1, none⟩ = some (.int .i64 o) := by rw [HI.out.2.cell (by rw [HZ.out]; simp)]; exact HC.out.2.1
      have e2 : wr.cell? ⟨w.heap.size, 2, none⟩ = some (.int .i64 s) := by rw [HI.out.2.cell (by rw [HZ.out]; simp)]; exact HC.out.2.2
      clear hb2
      go_wp2_with fail
      refine (in11 p o s x _).mono ?_; rintro e w1 ⟨rfl, hb1⟩
      have hown := HI.out.1.below hb1
      have hbel := HI.out.2.trans (hb1.mono HI.out.2.size)
      have HO := Lib.hid hown
      have HBL := Lib.hid hbel
      have HB1 := Lib.hid hb1
      clear hown hbel hb1 e0 e1 e2 hx
      have hsx := filter_take_succ (Sm.inS p o s) HX.out
      cases hf : Sm.inS p o s x
      · rw [hf] at hsx
        have HS := Lib.hid hsx
        clear hf hsx
        go_wp2_with fail
        go_roundw
        case rel => exact ⟨j + 1, by omega, by go_num, ⟨by rw [HS.out]; simpa using HO.out, HBL.out⟩⟩
        case measure => simp [intOf]; omega
      · rw [hf] at hsx
        have HS := Lib.hid hsx
        clear hf hsx
        go_wp2_with (at_builtin; refine app_int _ rfl (.tmp 17) (.tmp 19) _ rfl W.heap.size 3 8 .i64 int_info11 Try.underlying25 u5 _ rfl (HO.out.alloc _) x _ rfl (by simp [go_sem]) (by have := hlen.out; simp only [maxLen]; omega) (by have := hlen.out; omega) (by have := HBL.out.size; simp; omega) ?_; intro v' w' hown' hgrow)
        go_roundw
        case rel =>
          exact ⟨j + 1, by omega, by go_num, ⟨by rw [HS.out]; exact hown', (HO.out.alloc _).grow (HBL.out.alloc HBL.out.size _) hgrow (by have := HBL.out.size; simp; omega) (Nat.le_refl _)⟩⟩
        case measure => simp [intOf]; omega
    · obtain rfl : j = n := by omega
      have hfin := HI.out.1
      rw [take_len H.out.len] at hfin
      have HF := Lib.hid hfin
      clear hfin
      go_wp2_with fail
      go_ret
      exact ⟨_, rfl, HF.out.base_le HB.out.size, HB.out.trans (HI.out.2.mono HB.out.size)⟩
end Go.Proofs.Ytjeeobaiibhbaaa
