/- The reference of layer 15: all operations. -/
import Derived.Test.YtbjebknemkagiaaZr
namespace Go.Proofs.Ytbjebknemkagiaa
open Go.RowKit
set_option maxHeartbeats 400000 in
theorem rvalid15 (A : Option Addr) (n c : Nat) (l : List Int) (B : Nat) (w : World) (h : Nums w .i64 B A n c l) :
    Calls Try.prog 13 #[.slice A n c] w fun e w' => e = .returned (.bool (decide (Zs.Asc l))) ∧ Below w.heap.size w w' := by
  have H := Lib.hid h
  have hm : n ≤ 9223372036854775807 := by have := h.cap; have := h.max; unfold maxLen at this; omega
  have HL := Lib.hid h.len
  clear h
  go_enter Try.func13, Try.ntmps13
  go_wp2_with fail
  go_loopw [3] (fun i wr => ∃ k : Nat, 1 ≤ k ∧ (k ≤ n ∨ k = 1) ∧ i = .int .i64 k ∧ Hid (Zs.Asc (l.take k) ∧ ∃ m, wr = w.drewN m)) (fun i _ => n - (intOf i).toNat)
  case atStart =>
    refine ⟨1, by omega, by omega, rfl, ?_, 0, rfl⟩
    rcases l with _ | ⟨x, l⟩ <;> simp [Zs.Asc]
  case round =>
    obtain ⟨k, hk1, hkn, rfl, HI⟩ := hrel
    obtain ⟨m, hm2⟩ := HI.out.2
    have HA := Lib.hid HI.out.1
    clear HI
    subst hm2
    by_cases hlt : k < n
    · have hb := (below_drewN (Below.refl w.heap.size w) m)
      obtain ⟨ad, x, rfl, _, HX, hx, _⟩ := H.out.val (show k - 1 < n by omega)
      obtain ⟨ad', y, he, _, HY, hy, _⟩ := H.out.val hlt
      injection he with he
      subst he
      have hs := Zs.asc_take_succ HX.out HY.out hk1 HA.out
      have i1 : (1 : Int) ≤ k := by omega
      have i2 : (k : Int) < n := by omega
      have i5 : (k : Int) - 1 < n := by omega
      have i6 : (0 : Int) ≤ (k : Int) - 1 := by omega
      have i3 : ((k : Int) - 1).toNat = k - 1 := by omega
      have i4 : IntKind.i64.wrap ((k : Int) - 1) = (k : Int) - 1 := by simp [IntKind.wrap, IntKind.bits, IntKind.signed]; omega
      by_cases hxy : x < y
      · have hb2 : decide (y ≤ x) = false := by simp; omega
        have HS := Lib.hid (hs.2 hxy)
        clear hs hxy hkn
        go_wp2_with fail
        go_quiet (fail)
        go_wp2_with fail
        go_roundw
        case rel => exact ⟨k + 1, by omega, by omega, by go_num, HS.out, _, rfl⟩
        case measure => simp [intOf]; omega
      · have hb2 : decide (y ≤ x) = true := by simp; omega
        have HS := Lib.hid (fun h => hxy (hs.1 h))
        clear hs hxy hkn
        go_wp2_with fail
        go_quiet (fail)
        go_wp2_with fail
        go_ret
        refine ⟨retb ?_, below_drewN (below_drewN (Below.refl _ _) _) _⟩
        have : ¬ Zs.Asc l := fun h => HS.out (List.Pairwise.sublist (List.take_sublist _ _) h)
        simp [this]
    · have hlt' : ¬ (k : Int) < n := by omega
      have hfin : Zs.Asc l := by
        have := HA.out
        rwa [List.take_of_length_le (by have := HL.out; omega)] at this
      have HF := Lib.hid hfin
      clear hfin hlt hkn
      go_wp2_with fail
      go_ret
      exact ⟨retb (by simp [HF.out]), below_drewN (Below.refl _ _) _⟩
set_option maxHeartbeats 400000 in
theorem rof15 (A : Option Addr) (n c : Nat) (l : List Int) (w : World) (h : Nums w .i64 w.heap.size A n c l) (hn : n ≤ 1000) :
    Calls Try.prog 16 #[.slice A n c] w (GivesInts (Zs.of l) w) := by
  have H := Lib.hid h
  clear h
  go_enter Try.func16, Try.ntmps16
  go_wp2_with fail
  go_loopw [3, 4] (fun v i wr => ∃ j : Nat, j ≤ n ∧ i = .int .i64 j ∧ Hid (Own wr w.heap.size 3 .i64 v (Zs.of (l.take j)) ∧ Below w.heap.size w wr)) (fun _ i _ => n - (intOf i).toNat)
  case atStart => exact ⟨0, by omega, rfl, ⟨by simpa [Zs.of] using Own.nil _ _ _ _, Below.refl _ _⟩⟩
  case round =>
    obtain ⟨j, hj, rfl, HI⟩ := hrel
    by_cases hlt : j < n
    · obtain ⟨ad, x, rfl, _, HX, hx, _⟩ := (H.out.keep HI.out.2 HI.out.2.size).val hlt
      have hts := take_succ_getD l j HX.out.2
      rw [HX.out.1] at hts
      have HS := Lib.hid (show Zs.of (l.take (j + 1)) = Zs.put x (Zs.of (l.take j)) by rw [hts, Zs.of_snoc])
      clear hts
      go_wp2_with fail
      refine (put_own w.heap.size u3 (Zs.of (l.take j)) x wr HI.out.1 (Zs.asc_of _) HI.out.2.size (by have := Zs.of_len (l.take j); rw [List.length_take] at this; omega) (fun y hy => H.out.wf y (List.mem_of_mem_take (Zs.mem_of.1 hy)))).mono ?_
      rintro e w1 ⟨v1, rfl, hown1, hb1⟩
      have HO1 := Lib.hid hown1
      have HB1 := Lib.hid (HI.out.2.trans hb1)
      clear hown1 hb1 hx
      go_wp2_with fail
      go_roundw
      case rel => exact ⟨j + 1, by omega, by go_num, by rw [HS.out]; exact HO1.out, HB1.out⟩
      case measure => simp [intOf]; omega
    · obtain rfl : j = n := by omega
      have hfin := HI.out.1
      rw [take_len H.out.len] at hfin
      have HF := Lib.hid hfin
      clear hfin
      go_wp2_with fail
      go_ret
      exact ⟨_, rfl, HF.out, HI.out.2⟩
theorem filter_take_succ (f : Int → Bool) {l : List Int} {j : Nat} {x : Int} (h : l.getD j 0 = x ∧ j < l.length) : (l.take (j + 1)).filter f = (l.take j).filter f ++ if f x then [x] else [] := by
  rw [take_succ_getD l j h.2, h.1, List.filter_append]
  cases hf : f x <;> simp [List.filter, hf]
theorem Zs.part_eq (l l' : List Int) (b : Bool) : Zs.of (l.filter fun y => decide (y ∈ l') == b) = Zs.part l l' b :=
  Zs.Asc.ext (Zs.asc_of _) (Zs.asc_part _ _ _) fun x => by
    rw [Zs.mem_of, Zs.mem_part, List.mem_filter]
    cases b <;> by_cases h : x ∈ l' <;> simp [h]
set_option maxHeartbeats 400000 in
theorem rsome15 (A : Option Addr) (n c : Nat) (l : List Int) (A' : Option Addr) (n' c' : Nat) (l' : List Int) (b : Bool) (w : World) (h : Nums w .i64 w.heap.size A n c l) (h' : Nums w .i64 w.heap.size A' n' c' l') (hn : n ≤ 1000) :
    Calls Try.prog 39 #[.slice A n c, .slice A' n' c', .bool b] w (GivesInts (Zs.part l l' b) w) := by
  have H := Lib.hid h
  have H' := Lib.hid h'
  clear h h'
  go_enter Try.func39, Try.ntmps39
  go_wp2_with fail
  go_loopw [7, 8] (fun v i wr => ∃ j : Nat, j ≤ n ∧ i = .int .i64 j ∧ Hid (Own wr w.heap.size 3 .i64 v (Zs.of ((l.take j).filter fun y => decide (y ∈ l') == b)) ∧ Below w.heap.size w wr)) (fun _ i _ => n - (intOf i).toNat)
  case atStart => exact ⟨0, by omega, rfl, ⟨by simpa [Zs.of] using Own.nil _ _ _ _, Below.refl _ _⟩⟩
  case round =>
    obtain ⟨j, hj, rfl, HI⟩ := hrel
    by_cases hlt : j < n
    · obtain ⟨ad, x, rfl, _, HX, hx, _⟩ := (H.out.keep HI.out.2 HI.out.2.size).val hlt
      have hfs := filter_take_succ (fun y => decide (y ∈ l') == b) HX.out
      have HLN := Lib.hid (show (Zs.of ((l.take j).filter fun y => decide (y ∈ l') == b)).length ≤ 1000 by
        have h1 := Zs.of_len ((l.take j).filter fun y => decide (y ∈ l') == b)
        have h2 := List.length_filter_le (fun y => decide (y ∈ l') == b) (l.take j)
        rw [List.length_take] at h2; omega)
      rcases hd : decide (x ∈ l') == b with _ | _
      · simp only [hd] at hfs
        have HS := Lib.hid (show Zs.of ((l.take (j + 1)).filter fun y => decide (y ∈ l') == b) = Zs.of ((l.take j).filter fun y => decide (y ∈ l') == b) by rw [hfs]; simp)
        have HD := Lib.hid (show decide (x ∈ l') = !b by revert hd; cases decide (x ∈ l') <;> cases b <;> simp)
        clear hfs hd
        go_wp2_with fail
        refine (has_any A' n' c' l' x _ wr (H'.out.keep HI.out.2 HI.out.2.size)).mono ?_; rintro e w1 ⟨rfl, rfl⟩
        rw [HD.out]
        cases b <;>
        · go_wp2_with fail
          go_roundw
          case rel => exact ⟨j + 1, by omega, by go_num, by rw [HS.out]; exact HI.out.1, HI.out.2⟩
          case measure => simp [intOf]; omega
      · simp only [hd] at hfs
        have HS := Lib.hid (show Zs.of ((l.take (j + 1)).filter fun y => decide (y ∈ l') == b) = Zs.put x (Zs.of ((l.take j).filter fun y => decide (y ∈ l') == b)) by rw [hfs]; simp only [if_true]; rw [Zs.of_snoc])
        have HD := Lib.hid (show decide (x ∈ l') = b by revert hd; cases decide (x ∈ l') <;> cases b <;> simp)
        clear hfs hd
        go_wp2_with fail
        refine (has_any A' n' c' l' x _ wr (H'.out.keep HI.out.2 HI.out.2.size)).mono ?_; rintro e w1 ⟨rfl, rfl⟩
        rw [HD.out]
        cases b <;>
        · go_wp2_with fail
          refine (put_own w.heap.size u7 _ x wr HI.out.1 (Zs.asc_of _) HI.out.2.size HLN.out (fun y hy => H.out.wf y (List.mem_of_mem_take (List.mem_filter.1 (Zs.mem_of.1 hy)).1))).mono ?_
          rintro e w1 ⟨v1, rfl, hown1, hb1⟩
          have HO1 := Lib.hid hown1
          have HB1 := Lib.hid (HI.out.2.trans hb1)
          clear hown1 hb1 hx
          go_wp2_with fail
          go_roundw
          case rel => exact ⟨j + 1, by omega, by go_num, by rw [HS.out]; exact HO1.out, HB1.out⟩
          case measure => simp [intOf]; omega
    · obtain rfl : j = n := by omega
      have hfin := HI.out.1
      rw [take_len H.out.len, Zs.part_eq] at hfin
      have HF := Lib.hid hfin
      clear hfin
      go_wp2_with fail
      go_ret
      exact ⟨_, rfl, HF.out, HI.out.2⟩
theorem rboth15 (A : Option Addr) (n c : Nat) (l : List Int) (A' : Option Addr) (n' c' : Nat) (l' : List Int) (w : World) (h : Nums w .i64 w.heap.size A n c l) (h' : Nums w .i64 w.heap.size A' n' c' l') (hn : n ≤ 1000) :
    Calls Try.prog 20 #[.slice A n c, .slice A' n' c'] w (GivesInts (Zs.part l l' true) w) := by
  go_enter Try.func20, Try.ntmps20
  go_wp2_with fail
  refine (rsome15 A n c l A' n' c' l' true w h h' hn).mono ?_; rintro e w1 ⟨v1, rfl, hown1, hb1⟩
  clear h hn h'
  go_wp2_with fail
  go_ret
  exact ⟨_, rfl, hown1, hb1⟩
theorem rwithout15 (A : Option Addr) (n c : Nat) (l : List Int) (A' : Option Addr) (n' c' : Nat) (l' : List Int) (w : World) (h : Nums w .i64 w.heap.size A n c l) (h' : Nums w .i64 w.heap.size A' n' c' l') (hn : n ≤ 1000) :
    Calls Try.prog 22 #[.slice A n c, .slice A' n' c'] w (GivesInts (Zs.part l l' false) w) := by
  go_enter Try.func22, Try.ntmps22
  go_wp2_with fail
  refine (rsome15 A n c l A' n' c' l' false w h h' hn).mono ?_; rintro e w1 ⟨v1, rfl, hown1, hb1⟩
  clear h hn h'
  go_wp2_with fail
  go_ret
  exact ⟨_, rfl, hown1, hb1⟩
theorem rwithin15 (A : Option Addr) (n c : Nat) (l : List Int) (A' : Option Addr) (n' c' : Nat) (l' : List Int) (w : World) (h : Nums w .i64 w.heap.size A n c l) (h' : Nums w .i64 w.heap.size A' n' c' l') (hn : n ≤ 1000) :
    Calls Try.prog 26 #[.slice A n c, .slice A' n' c'] w fun e w' => e = .returned (.bool (Zs.within l l')) ∧ Below w.heap.size w w' := by
  go_enter Try.func26, Try.ntmps26
  go_wp2_with fail
  refine (rwithout15 A n c l A' n' c' l' w h h' hn).mono ?_; rintro e w1 ⟨v1, rfl, hown1, hb1⟩
  obtain ⟨A1, N1, c1, rfl, hN1, -⟩ := hown1.numsN (fun x hx => h.wf x (Zs.mem_part.1 hx).1)
  clear h hn h' hown1
  go_wp2_with fail
  go_ret
  refine ⟨retb ?_, hb1⟩
  rw [Bool.eq_iff_iff, ← Zs.part_nil, ← List.length_eq_zero_iff, ← hN1.out]
  simp
theorem rhas15 (A : Option Addr) (n c : Nat) (l : List Int) (k : Int) (B : Nat) (w : World) (h : Nums w .i64 B A n c l) :
    Calls Try.prog 24 #[.slice A n c, .int .i64 k] w fun e w' => e = .returned (.bool (decide (k ∈ l))) ∧ w = w' := by
  go_enter Try.func24, Try.ntmps24
  go_wp2_with fail
  refine (has_any A n c l k B w h).mono ?_; rintro e w1 ⟨rfl, rfl⟩
  go_wp2_with fail
  go_ret
  exact ⟨rfl, rfl⟩
theorem runion15 (A : Option Addr) (n c : Nat) (l : List Int) (A' : Option Addr) (n' c' : Nat) (l' : List Int) (w : World) (h : Nums w .i64 w.heap.size A n c l) (h' : Nums w .i64 w.heap.size A' n' c' l') (hn : n ≤ 500) (hn' : n' ≤ 500) :
    Calls Try.prog 18 #[.slice A n c, .slice A' n' c'] w (GivesInts (Zs.of (l ++ l')) w) := by
  have H := Lib.hid h
  have H' := Lib.hid h'
  have HN := Lib.hid (And.intro hn hn')
  clear h h' hn hn'
  go_enter Try.func18, Try.ntmps18
  go_wp2_with (first
    | (at_builtin; refine app_ints _ rfl (.const (.slice none 0 0)) (.tmp 5) _ rfl w.heap.size 3 8 .i64 int_info Try.underlying26 (.slice none 0 0) [] rfl (Own.nil _ _ _ _) _ A n c l rfl H.out (by have := HN.out; simp only [List.length_nil, maxLen]; omega) (by have := HN.out; simp only [List.length_nil]; omega) (Nat.le_refl _) ?_; intro v1 w1 hown1 hgrow1
       have HB1 := Lib.hid (Own.grow (Own.nil w w.heap.size 3 .i64) (Below.refl w.heap.size w) hgrow1 (Nat.le_refl _) (Nat.le_refl _))
       have HO1 := Lib.hid hown1
       clear hown1 hgrow1)
    | (at_builtin; refine app_ints _ rfl (.tmp 6) (.tmp 7) _ rfl w.heap.size 3 8 .i64 int_info Try.underlying26 _ _ rfl HO1.out _ A' n' c' l' rfl (H'.out.keep HB1.out HB1.out.size) (by have := HN.out; have := H.out.len; simp only [List.nil_append, maxLen]; omega) (by have := HN.out; have := H.out.len; simp only [List.nil_append]; omega) HB1.out.size ?_; intro v2 w2 hown2 hgrow2
       have HB2 := Lib.hid (HO1.out.grow HB1.out hgrow2 HB1.out.size (Nat.le_refl _))
       rw [List.nil_append] at hown2
       obtain ⟨A2, N2, c2, rfl, hN2, hn2⟩ := hown2.numsN (fun x hx => (List.mem_append.1 hx).elim (H.out.wf x) (H'.out.wf x))
       have HN2 := Lib.hid hn2
       clear hown2 hgrow2 hn2)
    | fail)
  refine (rof15 A2 N2 c2 (l ++ l') w2 HN2.out (by have := hN2.out; have := H.out.len; have := H'.out.len; have := HN.out; rw [List.length_append] at *; omega)).mono ?_; rintro e w3 ⟨v3, rfl, hown3, hb3⟩
  have HO3 := Lib.hid hown3
  have HB3 := Lib.hid hb3
  clear hown3 hb3
  go_wp2_with fail
  go_ret
  exact ⟨_, rfl, HO3.out.base_le HB2.out.size, HB2.out.trans (HB3.out.mono HB2.out.size)⟩
end Go.Proofs.Ytbjebknemkagiaa
