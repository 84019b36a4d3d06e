/- Corrections: what is right, what two lists share. -/
import Derived.Test.YtihgopiocjflcaaYb
import Derived.Test.YtihgopiocjflcaaYv
import Derived.Test.YtihgopiocjflcaaYs
import Derived.Test.YtihgopiocjflcaaMk
namespace Go.Proofs.Ytihgopiocjflcaa
open Go.RowKit
theorem Nums.keepB {w0 w : World} {k : IntKind} {B : Nat} {A : Option Addr} {n c : Nat} {l : List Int} (h : Nums w0 k B A n c l) (hb : Below w0.heap.size w0 w) (hB : B ≤ w0.heap.size) : Nums w k B A n c l := h.keep (hb.mono hB) (Nat.le_refl _)
theorem right40 (A : Option Addr) (n c : Nat) (l : List Int) (B : Nat) (w : World) (h : Nums w .i64 B A n c l) (ha : Zs.Asc l) (hb : ∀ x ∈ l, 0 ≤ x ∧ x ≤ 1000) (hBB : B ≤ w.heap.size) :
    Calls Try.prog 11 #[.slice A n c] w fun e w' => e = .returned (.bool true) ∧ Below w.heap.size w w' := by
  have HAS := Lib.hid (show decide (Zs.Asc l) = true from decide_eq_true ha)
  have HLN := Lib.hid h.len
  have hcp : n ≤ 9223372036854775807 := by have := h.cap; have := h.max; unfold maxLen at this; omega
  have H := Lib.hid h
  have HB := Lib.hid hb
  clear ha hb h
  go_enter Try.func11, Try.ntmps11
  go_wp2_with fail
  refine (valid15 A n c l B w H.out).mono ?_; rintro e w1 ⟨rfl, hb1⟩
  rw [HAS.out]
  have HB1 := Lib.hid hb1
  rcases Nat.eq_zero_or_pos n with h0 | h0
  · subst h0
    clear hb1
    go_wp2_with fail
    go_ret
    exact ⟨rfl, HB1.out⟩
  · obtain ⟨m, rfl⟩ : ∃ m, n = m + 1 := ⟨n - 1, by omega⟩
    obtain ⟨ad, x, rfl, hq1, HX, hx, _⟩ := H.out.val (show 0 < m + 1 by omega)
    obtain ⟨ad', y, had', hq2, HY, hy, _⟩ := H.out.val (show m < m + 1 by omega)
    injection had' with had'
    subst had'
    have hx0 := HB.out x (getD_mem HX.out)
    have hy0 := HB.out y (getD_mem HY.out)
    have e0 : ad.add 0 = ad := by cases ad; rfl
    have hx1 : w1.cell? ad = some (.int .i64 x) := by
      rw [e0] at hx
      exact (hb1.cell (by omega)).trans hx
    have hy1 : w1.cell? (ad.add m) = some (.int .i64 y) := (hb1.cell (by rw [add_block]; omega)).trans hy
    have gg1 : decide ((0 : Int) ≤ x) = true := decide_eq_true (by omega)
    have gg2 : decide (y ≤ 1048575) = true := decide_eq_true (by omega)
    clear hb1 hx hy
    go_wp2_with fail
    go_ret
    exact ⟨rfl, HB1.out⟩
theorem meet40 (A A' : Option Addr) (n c n' c' : Nat) (a b : List Int) (B B' : Nat) (w : World) (h : Nums w .i64 B A n c a) (h' : Nums w .i64 B' A' n' c' b) (ha : Zs.Asc a) (hb : Zs.Asc b) (hn : n ≤ 1000) (hBB : B ≤ w.heap.size) (hBB' : B' ≤ w.heap.size) :
    Calls Try.prog 13 #[.slice A n c, .slice A' n' c'] w (GivesInts (Cn.meet a b) w) := by
  have H := Lib.hid h
  have H' := Lib.hid h'
  have HLN := Lib.hid (And.intro h.len h'.len)
  have hcp : n' ≤ 9223372036854775807 := by have := h'.cap; have := h'.max; unfold maxLen at this; omega
  have HA := Lib.hid (And.intro ha hb)
  clear h h' ha hb
  go_enter Try.func13, Try.ntmps13
  go_wp2_with fail
  go_loopw [5, 6, 7] (fun v iv kv wr => ∃ i k : Nat, i ≤ n ∧ k ≤ n' ∧ iv = .int .i64 i ∧ kv = .int .i64 k ∧ Hid (Cn.Two a b i k ∧ Own wr w.heap.size 3 .i64 v (Cn.meet (a.take i) b) ∧ Below w.heap.size w wr)) (fun _ iv kv _ => (n - (intOf iv).toNat) + (n' - (intOf kv).toNat))
  case atStart => exact ⟨0, 0, by omega, by omega, rfl, rfl, Cn.Two.start a b, by simp [Cn.meet]; exact Own.nil _ _ _ _, Below.refl _ _⟩
  case round =>
    rename World => Z
    obtain ⟨i, k, hi, hk, rfl, rfl, HI⟩ := hrel
    by_cases hlt : i < n
    · by_cases hlt2 : k < n'
      · obtain ⟨ad, x, rfl, _, HX, hx, _⟩ := (H.out.keepB HI.out.2.2 hBB).val hlt
        obtain ⟨ad', y, rfl, _, HY, hy, _⟩ := (H'.out.keepB HI.out.2.2 hBB').val hlt2
        have HXY := Lib.hid (And.intro HX.out.1 HY.out.1)
        have i1 : (0 : Int) ≤ (i : Int) := by omega
        have i2 : (i : Int) < (n : Int) := by omega
        have k1 : (0 : Int) ≤ (k : Int) := by omega
        have k2 : (k : Int) < (n' : Int) := by omega
        rcases Int.lt_trichotomy x y with hxy | hxy | hxy
        · have g1 : decide (x < y) = true := decide_eq_true hxy
          have HT := Lib.hid (HI.out.1.less HA.out.2 HX.out.2 HY.out.2 (by rw [HX.out.1, HY.out.1]; exact hxy))
          clear hxy
          go_wp2_with fail
          go_quiet (fail)
          go_wp2_with fail
          go_roundw
          case rel => exact ⟨i + 1, k, by omega, by omega, by go_num, by go_num, HT.out.1, by rw [HT.out.2]; exact HI.out.2.1.drewN _, below_drewN HI.out.2.2 _⟩
          case measure => simp [intOf]; omega
        · subst hxy
          have g1 : decide (x < x) = false := by simp
          have HT := Lib.hid (HI.out.1.same HA.out.1 HA.out.2 HX.out.2 HY.out.2 (by rw [HX.out.1, HY.out.1]))
          have HLM := Lib.hid (show (Cn.meet (a.take i) b).length ≤ 1000 by
            refine Nat.le_trans (List.length_filter_le _ _) ?_
            rw [List.length_take]; omega)
          go_wp2_with fail
          go_quiet (fail)
          rename Nat => nq0
          go_wp2_with fail
          go_quiet (fail)
          have HOd := Lib.hid (HI.out.2.1.drewN (nq0 + nq))
          have HBd := Lib.hid (below_drewN HI.out.2.2 (nq0 + nq))
          have HZd := Lib.hid (show w.heap.size ≤ (Z.drewN (nq0 + nq)).heap.size from HI.out.2.2.size)
          have hxd : (Z.drewN (nq0 + nq)).cell? (ad.add i) = some (.int .i64 x) := hx
          rw [World.drewN_drewN]
          generalize Z.drewN (nq0 + nq) = Zd at *
          go_wp2_with (at_builtin; refine app_int _ rfl _ _ _ rfl w.heap.size 3 8 .i64 int_info Try.underlying23 _ _ rfl (HOd.out.alloc _) x _ rfl (by simp [go_sem]) (by have := HLM.out; simp only [maxLen]; omega) (by have := HLM.out; omega) (by have := HZd.out; simp; omega) ?_; intro v' w4 hown4 hgrow4; (have HO4 := Lib.hid hown4); (have HG4 := Lib.hid hgrow4); clear hown4 hgrow4)
          go_roundw
          case rel => exact ⟨i + 1, k + 1, by omega, by omega, by go_num, by go_num, HT.out.1, by rw [HT.out.2, HXY.out.1]; exact HO4.out, (HOd.out.alloc _).grow (HBd.out.alloc HZd.out _) HG4.out (by have := HZd.out; simp; omega) (Nat.le_refl _)⟩
          case measure => simp [intOf]; omega
        · have g1 : decide (x < y) = false := decide_eq_false (by omega)
          have g2 : decide (y < x) = true := decide_eq_true hxy
          have HT := Lib.hid (HI.out.1.more HA.out.1 HX.out.2 HY.out.2 (by rw [HX.out.1, HY.out.1]; exact hxy))
          clear hxy
          go_wp2_with fail
          go_quiet (fail)
          go_wp2_with fail
          go_quiet (fail)
          go_wp2_with fail
          go_roundw
          case rel => exact ⟨i, k + 1, by omega, by omega, by go_num, by go_num, HT.out, HI.out.2.1.drewN _, below_drewN HI.out.2.2 _⟩
          case measure => simp [intOf]; omega
      · obtain rfl : n' = k := by omega
        have HD := Lib.hid (HI.out.1.done (.inr (by rw [HLN.out.2]; exact Nat.le_refl _)))
        go_wp2_with fail
        go_ret
        exact ⟨_, rfl, by rw [← HD.out]; exact HI.out.2.1, HI.out.2.2⟩
    · obtain rfl : n = i := by omega
      have HD := Lib.hid (HI.out.1.done (.inl (by rw [HLN.out.1]; exact Nat.le_refl _)))
      go_wp2_with fail
      go_ret
      exact ⟨_, rfl, by rw [← HD.out]; exact HI.out.2.1, HI.out.2.2⟩
end Go.Proofs.Ytihgopiocjflcaa
