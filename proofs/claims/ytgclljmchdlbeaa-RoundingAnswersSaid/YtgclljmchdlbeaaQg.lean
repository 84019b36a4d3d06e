/- Rounding, the reference: Round of all tables. -/
import Derived.Test.YtgclljmchdlbeaaQf
namespace Go.Proofs.Ytgclljmchdlbeaa
open Go.RowKit
theorem ints34q (A A' : Option Addr) (n c n' c' : Nat) (l l' : List Int) (B B' : Nat) (w : World) (h : Nums w .i64 B A n c l) (h' : Nums w .i64 B' A' n' c' l') :
    Calls Try.prog 20 #[.slice A n c, .slice A' n' c'] w fun e w' => e = .returned (.bool (decide (l = l'))) ∧ ∃ m, w' = w.drewN m := by
  have hm : n ≤ 9223372036854775807 := by have := h.cap; have := h.max; unfold maxLen at this; omega
  have hm' : n' ≤ 9223372036854775807 := by have := h'.cap; have := h'.max; unfold maxLen at this; omega
  have H := Lib.hid h
  have HL := Lib.hid h.len
  have H' := Lib.hid h'
  have HL' := Lib.hid h'.len
  clear h h'
  by_cases hn : n = n'
  · subst hn
    go_enter Try.func20, Try.ntmps20
    go_wp2_with fail
    go_loopw [13] (fun i wr => ∃ j : Nat, j ≤ n ∧ i = .int .i64 j ∧ Hid (l.take j = l'.take j) ∧ ∃ m, wr = w.drewN m) (fun i _ => n - (intOf i).toNat)
    case atStart => exact ⟨0, by omega, rfl, Lib.hid rfl, 0, rfl⟩
    case round =>
      obtain ⟨j, hj, rfl, HN, m, rfl⟩ := hrel
      by_cases hlt : j < n
      · obtain ⟨ad, x, rfl, _, HX, hx, _⟩ := H.out.val hlt
        obtain ⟨ad', x', rfl, _, HX', hx', _⟩ := H'.out.val hlt
        by_cases he : x = x'
        · have hb : (x != x') = false := by simpa using he
          have HE := Lib.hid he
          clear he
          go_wp2_with fail
          go_quiet (fail)
          go_wp2_with fail
          go_roundw
          case rel => exact ⟨j + 1, by omega, by go_num, Lib.hid ((take_succ_eq HX.out HX'.out HN.out).2 HE.out), _, rfl⟩
          case measure => simp [intOf]; omega
        · have hb : (x != x') = true := by simpa using he
          have HE := Lib.hid he
          clear he
          go_wp2_with fail
          go_quiet (fail)
          go_wp2_with fail
          go_ret
          refine ⟨retb ?_, m + nq, by simp⟩
          have : l ≠ l' := fun e => HE.out ((take_succ_eq HX.out HX'.out HN.out).1 (by rw [e]))
          simp [this]
      · obtain rfl : j = n := by omega
        go_wp2
        go_ret
        refine ⟨retb ?_, _, rfl⟩
        have := HN.out
        rw [take_len HL.out, take_len HL'.out] at this
        simp [this]
  · have hb : ((n : Int) != (n' : Int)) = true := by simp; omega
    have HE := Lib.hid hn
    clear hn
    go_enter Try.func20, Try.ntmps20
    go_wp2
    go_ret
    refine ⟨retb ?_, 0, rfl⟩
    have : l ≠ l' := fun e => HE.out (by rw [← HL.out, ← HL'.out, e])
    simp [this]
theorem rroundG (R C : Int) (hR : -9223372036854775808 ≤ R ∧ R ≤ 9223372036854775807) (hC : -9223372036854775808 ≤ C ∧ C ≤ 9223372036854775807) (A : Option Addr) (k c : Nat) (t : List Int) (ht : t.length ≤ 9 ∨ 12 < t.length) (b : Int) (w : World) (h : Nums w .i64 w.heap.size A k c t) :
    Calls Try.prog 15 #[.int .i64 R, .int .i64 C, .slice A k c, .int .i64 b] w fun e w' => ∃ v, e = .returned (.tuple #[v, .int .i64 (Rd.err R C t b)]) ∧ Own w' w.heap.size 3 .i64 v (Rd.res R C t b) ∧ Below w.heap.size w w' := by
  by_cases h0 : Rd.err R C t b = 0
  · obtain ⟨m, n, rfl, rfl, hm, hn, hmn, hlen, hb0, hb1, hsm⟩ := Rd.err_ok h0
    have hk : k = m * n := by rw [← h.len]; exact hlen
    refine (rroundV m n hm hn (by omega) t b hb0 hb1 hsm A k c (Lib.hid hk) (Lib.hid h0) w h).mono ?_
    rintro e w' ⟨v, rfl, h2, hb⟩
    have e2 : Rd.res (m : Int) (n : Int) t b = Rd.best n t b := by unfold Rd.res; rw [if_pos h0]; rfl
    exact ⟨v, by rw [h0], by rw [e2]; exact h2, hb⟩
  · have HR := Lib.hid (show Rd.res R C t b = [] by unfold Rd.res; rw [if_neg h0])
    obtain ⟨q, hq⟩ : ∃ q, Rd.err R C t b = q := ⟨_, rfl⟩
    have g2 : (q != 0) = true := by rw [← hq]; simpa using h0
    have HQ := Lib.hid hq
    have H := Lib.hid h
    clear h h0 hq ht
    go_enter Try.func15, Try.ntmps15
    go_wp2_with fail
    refine (rcheck34 R C hR hC A k c t b w.heap.size w H.out).mono ?_; rintro e w4 ⟨rfl, rfl⟩
    rw [HQ.out]
    go_wp2_with fail
    refine bodyPost_ret (v := .tuple #[.slice none 0 0, .int .i64 q]) (by simp [results, Try.results15, go_sem]) rfl ?_
    exact ⟨.slice none 0 0, by rw [HQ.out], by rw [HR.out]; exact Own.nil _ _ _ _, Below.refl _ _⟩
end Go.Proofs.Ytgclljmchdlbeaa
