/- Rounding: the table that the laws draw. -/
import Derived.Test.YtgclljmchdlbeaaNk
import Derived.Test.YtgclljmchdlbeaaRn
namespace Go.Proofs.Ytgclljmchdlbeaa
open Go.RowKit
def GivesTb (base g : Nat) (w : World) (e : Ending) (w' : World) : Prop :=
  ∃ (m n : Nat) (t : List Int) (b : Int) (v : Value), e = .returned (.tuple #[.int .i64 m, .int .i64 n, v, .int .i64 b]) ∧ Own w' w.heap.size 3 .i64 v t ∧ Hid (Rd.Tb m n t b ∧ b ≤ 10 ∧ ∀ x ∈ t, x ≤ 29) ∧ Cod w' base g ∧ w.grownBy w' (some g)
theorem Cod.belowB {w w' : World} {base g B : Nat} (h : Cod w base g) (hb : Below B w w') (hB : base ≤ B) (hg : g < B) : Cod w' base g := by
  obtain ⟨A, n, c, i, l, h1, h2, h3, h4, h5⟩ := h
  exact ⟨A, n, c, i, l, h1, h2, h3, (hb.block g hg).trans h4, h5.keep (hb.mono hB) (Nat.le_refl _)⟩
theorem grownBy_below {w w3 w4 : World} {g B : Nat} (hg : w.grownBy w3 (some g)) (hb : Below B w3 w4) (hB : w.heap.size ≤ B) : w.grownBy w4 (some g) :=
  ⟨hb.os.trans hg.os, hb.tape.trans hg.tape, hb.output.trans hg.output, Nat.le_trans hg.size hb.size, fun k hk hne => (hb.block k (Nat.lt_of_lt_of_le hk hB)).trans (hg.block k hk hne)⟩
set_option maxRecDepth 100000 in
set_option maxHeartbeats 1600000 in
theorem table34 (base g : Nat) (w : World) (h : Cod w base g) :
    Calls Try.prog 12 #[.pointer (some ⟨g, 0, none⟩)] w (GivesTb base g w) := by
  have HC0 := Lib.hid h
  clear h
  go_enter Try.func12, Try.ntmps12
  go_wp2_with fail
  refine (rangeD 1 3 (by decide) (by decide) (by decide) base g w HC0.out).mono ?_; rintro e w1 ⟨m, rfl, hm0, hm1, hc1, hg1⟩
  obtain ⟨m, rfl⟩ := Int.eq_ofNat_of_zero_le (show 0 ≤ m by omega)
  have HC1 := Lib.hid hc1
  have HG1 := Lib.hid hg1
  clear hc1 hg1
  go_wp2_with fail
  refine (rangeD 1 3 (by decide) (by decide) (by decide) base g w1 HC1.out).mono ?_; rintro e w2 ⟨n, rfl, hn0, hn1, hc2, hg2⟩
  obtain ⟨n, rfl⟩ := Int.eq_ofNat_of_zero_le (show 0 ≤ n by omega)
  have HC2 := Lib.hid hc2
  have HG2 := Lib.hid (HG1.out.trans hg2)
  clear hc2 hg2
  obtain ⟨k, hk⟩ : ∃ k : Nat, m * n = k := ⟨_, rfl⟩
  have hk9 : k ≤ 9 := by rw [← hk]; exact Nat.mul_le_mul (show m ≤ 3 by omega) (show n ≤ 3 by omega)
  have hmk : (m : Int) * (n : Int) = (k : Int) := by rw [← hk]; simp
  have HK := Lib.hid hk
  clear hk
  have HGT := Lib.hid HC2.out.lt
  go_wp2_with fail
  go_loopw [8, 9] (fun v iv wr => ∃ (j : Nat) (t : List Int), j ≤ k ∧ iv = .int .i64 j ∧ Hid (Own wr w2.heap.size 3 .i64 v t ∧ t.length = j ∧ (∀ x ∈ t, 0 ≤ x ∧ x ≤ 29) ∧ Cod wr base g ∧ w.grownBy wr (some g) ∧ w2.heap.size ≤ wr.heap.size)) (fun _ iv _ => k - (intOf iv).toNat)
  case atStart => exact ⟨0, [], by omega, rfl, Own.nil _ _ _ _, rfl, by simp, HC2.out, HG2.out, Nat.le_refl _⟩
  case round =>
    rename World => X
    obtain ⟨j, t, hj, rfl, HI⟩ := hrel
    by_cases hlt : j < k
    · go_wp2_with fail
      refine (next_any 30 (by decide) (by decide) base g X HI.out.2.2.2.1).mono ?_; rintro e w3 ⟨x, rfl, hx0, hx1, _, hc3, hg3⟩
      have hx1 := hx1 (by decide)
      have HO3 := Lib.hid (HI.out.1.cod HI.out.2.2.2.1 hg3 (by decide))
      have HC3 := Lib.hid hc3
      have HG3 := Lib.hid (HI.out.2.2.2.2.1.trans hg3)
      have HZ3 := Lib.hid (Nat.le_trans HI.out.2.2.2.2.2 hg3.size)
      have HLN := Lib.hid HI.out.2.1
      have HX := Lib.hid (And.intro hx0 hx1)
      clear hc3 hg3 hx0 hx1
      go_wp2_with (at_builtin; refine app_int _ rfl _ _ _ rfl w2.heap.size 3 8 .i64 int_info Try.underlying22 _ _ rfl (HO3.out.alloc _) x _ rfl (by simp [go_sem]) (by have := HLN.out; simp only [maxLen]; omega) (by have := HLN.out; omega) (by have := HZ3.out; simp; omega) ?_; intro v' w4 hown4 hgrow4; (have HO4 := Lib.hid hown4); (have HG4 := Lib.hid hgrow4); clear hown4 hgrow4)
      go_roundw
      case rel =>
        have hb4 : Below w2.heap.size w3 w4 := (HO3.out.alloc _).grow ((Below.refl _ _).alloc HZ3.out _) HG4.out (by have := HZ3.out; simp; omega) (Nat.le_refl _)
        refine ⟨j + 1, t ++ [x], by omega, by go_num, HO4.out, by simp [HLN.out], ?_, HC3.out.belowB hb4 (Nat.le_trans HGT.out.2 (Nat.le_of_lt HGT.out.1)) HGT.out.1, grownBy_below HG3.out hb4 HG2.out.size, Nat.le_trans HZ3.out hb4.size⟩
        intro y hy
        rcases List.mem_append.1 hy with hy | hy
        · exact HI.out.2.2.1 y hy
        · rw [List.mem_singleton.1 hy]; have := HX.out; omega
      case measure => simp [intOf]; omega
    · obtain rfl : j = k := by omega
      go_wp2_with fail
      refine (rangeD 1 10 (by decide) (by decide) (by decide) base g X HI.out.2.2.2.1).mono ?_; rintro e w3 ⟨b, rfl, hb0, hb1, hc3, hg3⟩
      have HO3 := Lib.hid (HI.out.1.cod HI.out.2.2.2.1 hg3 (by decide))
      have HC3 := Lib.hid hc3
      have HG3 := Lib.hid (HI.out.2.2.2.2.1.trans hg3)
      have HT := Lib.hid (show Rd.Tb m n t b ∧ b ≤ 10 ∧ ∀ x ∈ t, x ≤ 29 from ⟨⟨by omega, by omega, by omega, by omega, HI.out.2.1.trans HK.out.symm, hb0, by omega, fun x hx => by have := HI.out.2.2.1 x hx; omega⟩, hb1, fun x hx => (HI.out.2.2.1 x hx).2⟩)
      clear hc3 hg3
      go_wp2_with fail
      refine bodyPost_ret (v := .tuple #[.int .i64 m, .int .i64 n, u8, .int .i64 b]) (by simp [results, Try.results12, go_sem]) rfl ?_
      exact ⟨m, n, t, b, u8, rfl, HO3.out.base_le HG2.out.size, HT, HC3.out, HG3.out⟩
end Go.Proofs.Ytgclljmchdlbeaa
