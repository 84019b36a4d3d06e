/- Corrections: the reference's comparison of what is the same; the example of the chapter. -/
import Derived.Test.YtihgopiocjflcaaYe
namespace Go.Proofs.Ytihgopiocjflcaa
open Go.RowKit
set_option maxRecDepth 100000 in
set_option maxHeartbeats 1600000 in
theorem same40 (A A' : Option Addr) (n c c' : Nat) (cs : List (Int × List Int)) (base base' : Nat) (w : World) (h : OwnC w base (.slice A n c) cs) (h' : OwnC w base' (.slice A' n c') cs) (hr : Cn.Sane cs) (hn : n = cs.length) (hn1 : n ≤ 1000) :
    Calls Try.prog 10 #[.slice A n c, .slice A' n c'] w fun e w' => e = .returned (.bool true) ∧ Below w.heap.size w w' := by
  have H := Lib.hid h
  have H' := Lib.hid h'
  have HR := Lib.hid hr
  have HN := Lib.hid hn
  have g0 : ((n : Int) != (n : Int)) = false := by simp
  clear h h' hr hn
  go_enter Try.func10, Try.ntmps10
  go_wp2_with fail
  go_loopw [14] (fun iv wr => ∃ j : Nat, j ≤ n ∧ iv = .int .i64 j ∧ ∃ m, wr = w.drewN m) (fun iv _ => n - (intOf iv).toNat)
  case atStart => exact ⟨0, by omega, rfl, 0, rfl⟩
  case round =>
    obtain ⟨j, hj, rfl, m, rfl⟩ := hrel
    by_cases hlt : j < n
    · obtain ⟨g, q, l, vl, hA, HX, hc0, hc1, hol⟩ := H.out.at_ hlt
      obtain ⟨g', q', l', vl', hA', HX', hc0', hc1', hol'⟩ := H'.out.at_ hlt
      have hpq : (q, l) = (q', l') := by rw [← HX.out.1, ← HX'.out.1]
      injection hpq with hpq hpl
      subst hpq hpl
      have HM := Lib.hid (Cn.mem_at ⟨HX.out.1, HX.out.2.1⟩)
      obtain ⟨Al, cl, rfl, hnl⟩ := hol.nums (fun x hx => Cn.wf (HR.out.bd _ HM.out x hx))
      obtain ⟨Al', cl', rfl, hnl'⟩ := hol'.nums (fun x hx => Cn.wf (HR.out.bd _ HM.out x hx))
      obtain ⟨M, hM⟩ : ∃ M, l.length = M := ⟨_, rfl⟩
      have hM1 : M ≤ 100 := by rw [← hM]; exact HR.out.sm _ HM.out
      rw [hM] at hnl hc1 hnl' hc1'
      have HNL := Lib.hid hnl
      have HNL' := Lib.hid hnl'
      have i1 : (0 : Int) ≤ (j : Int) := by omega
      have i2 : (j : Int) < (n : Int) := by omega
      have gq : (q != q) = false := by simp
      have gm : ((M : Int) != (M : Int)) = false := by simp
      clear hol hnl hM hol' hnl'
      subst hA hA'
      go_wp2_with fail
      go_quiet (fail)
      go_wp2_with fail
      go_loopw [49] (fun iv wr => ∃ i : Nat, i ≤ M ∧ iv = .int .i64 i ∧ ∃ m, wr = w.drewN m) (fun iv _ => M - (intOf iv).toNat)
      case atStart => exact ⟨0, by omega, rfl, _, rfl⟩
      case round =>
        obtain ⟨i, hi, rfl, m, rfl⟩ := hrel
        by_cases hlt2 : i < M
        · obtain ⟨ad, x, rfl, _, HZ, hz, _⟩ := HNL.out.val hlt2
          obtain ⟨ad', x', rfl, _, HZ', hz', _⟩ := HNL'.out.val hlt2
          have hxx : x = x' := by rw [← HZ.out.1, ← HZ'.out.1]
          subst hxx
          have gx : (x != x) = false := by simp
          have k1 : (0 : Int) ≤ (i : Int) := by omega
          have k2 : (i : Int) < (M : Int) := by omega
          go_wp2_with fail
          go_quiet (fail)
          go_wp2_with fail
          go_roundw
          case rel => exact ⟨i + 1, by omega, by go_num, _, rfl⟩
          case measure => simp [intOf]; omega
        · obtain rfl : M = i := by omega
          go_wp2_with fail
          go_roundw
          case rel => exact ⟨j + 1, by omega, by go_num, _, rfl⟩
          case measure => simp [intOf]; omega
    · obtain rfl : n = j := by omega
      go_wp2_with fail
      go_ret
      exact ⟨rfl, below_drewN (Below.refl _ _) _⟩
theorem Own.litC {w : World} {base g : Nat} {e : TypeId} {k : IntKind} {l : List Int} (h : w.heap[g]? = some (.cells (l.map (Value.int k)).toArray e (0, 0))) (hb : base ≤ g) (hl : l.length ≤ 1000) : Own w base e k (.slice (some ⟨g, 0, none⟩) l.length l.length) l :=
  ⟨by simp, .inr ⟨g, l.length, (l.map (Value.int k)).toArray, rfl, hb, h, Nat.le_refl _, by simp only [maxLen]; omega, by simp, by rw [List.take_of_length_le (by simp)]⟩⟩
theorem OwnC.lit {w : World} {base g : Nat} {L : List (Int × Value)} {cs : List (Int × List Int)} (h : w.heap[g]? = some (.cells (flatC L).toArray 30 (0, 0))) (hb : base ≤ g) (hl : L.length ≤ 1000) (h1 : L.map (·.1) = cs.map (·.1)) (h2 : AllOwn w base 3 .i64 (L.map (·.2)) (cs.map (·.2))) : OwnC w base (.slice (some ⟨g, 0, none⟩) L.length L.length) cs :=
  ⟨L, ⟨by rw [flatC_length], .inr ⟨g, L.length, (flatC L).toArray, rfl, hb, h, Nat.le_refl _, by simp only [maxLen]; omega, by simp [flatC_length], by rw [List.take_of_length_le (by simp [flatC_length])]⟩⟩, h1, h2⟩
theorem Cn.awake_conc : Cn.conc [(1, [3, 5]), (2, [4])] (Zs.of [5, 6]) = [(1, [5])] := by decide +kernel
theorem Cn.awake_right : Cn.Right [(1, [3, 5]), (2, [4])] := ⟨by decide, by decide, by decide, by decide, by decide⟩
theorem Cn.awake_sane : Cn.Sane [(1, [5])] := ⟨by decide, by decide⟩
set_option maxRecDepth 100000 in
set_option maxHeartbeats 1600000 in
theorem awake40 (w : World) : Calls Try.prog 4 #[] w fun e w' => e = .returned (.bool true) ∧ Below w.heap.size w w' := by
  obtain ⟨W1, hW1⟩ : ∃ W1, w.alloc (.cells #[.int .i64 3, .int .i64 5] 3 (0, 0)) = W1 := ⟨_, rfl⟩
  have e1 : w.heap.size + 1 = W1.heap.size := by rw [← hW1]; simp
  obtain ⟨W2, hW2⟩ : ∃ W2, W1.alloc (.cells #[.int .i64 4] 3 (0, 0)) = W2 := ⟨_, rfl⟩
  have e2 : W1.heap.size + 1 = W2.heap.size := by rw [← hW2]; simp
  obtain ⟨W3, hW3⟩ : ∃ W3, W2.alloc (.cells #[.int .i64 1, .slice (some ⟨w.heap.size, 0, none⟩) 2 2, .int .i64 2, .slice (some ⟨W1.heap.size, 0, none⟩) 1 1] 30 (0, 0)) = W3 := ⟨_, rfl⟩
  have e3 : W2.heap.size + 1 = W3.heap.size := by rw [← hW3]; simp
  obtain ⟨W4, hW4⟩ : ∃ W4, W3.alloc (.cells #[.int .i64 5, .int .i64 6] 3 (0, 0)) = W4 := ⟨_, rfl⟩
  have b1 : Below w.heap.size w W1 := by rw [← hW1]; exact (Below.refl _ _).alloc (Nat.le_refl _) _
  have b2 : Below W1.heap.size W1 W2 := by rw [← hW2]; exact (Below.refl _ _).alloc (Nat.le_refl _) _
  have b3 : Below W2.heap.size W2 W3 := by rw [← hW3]; exact (Below.refl _ _).alloc (Nat.le_refl _) _
  have b4 : Below W3.heap.size W3 W4 := by rw [← hW4]; exact (Below.refl _ _).alloc (Nat.le_refl _) _
  have q1 : W1.heap[w.heap.size]? = some (.cells (([3, 5] : List Int).map (Value.int .i64)).toArray 3 (0, 0)) := by rw [← hW1]; exact heap_alloc_new _ _
  have q2 : W2.heap[W1.heap.size]? = some (.cells (([4] : List Int).map (Value.int .i64)).toArray 3 (0, 0)) := by rw [← hW2]; exact heap_alloc_new _ _
  have q3 : W3.heap[W2.heap.size]? = some (.cells (flatC [(1, .slice (some ⟨w.heap.size, 0, none⟩) 2 2), (2, .slice (some ⟨W1.heap.size, 0, none⟩) 1 1)]).toArray 30 (0, 0)) := by rw [← hW3]; exact heap_alloc_new _ _
  have q4 : W4.heap[W3.heap.size]? = some (.cells (([5, 6] : List Int).map (Value.int .i64)).toArray 3 (0, 0)) := by rw [← hW4]; exact heap_alloc_new _ _
  have o1 := ((Own.litC (base := 0) q1 (Nat.zero_le _) (by simp)).below b2).below b3
  have o2 := (Own.litC (base := 0) q2 (Nat.zero_le _) (by simp)).below b3
  have HC := Lib.hid ((OwnC.lit (base := 0) (cs := [(1, [3, 5]), (2, [4])]) q3 (Nat.zero_le _) (by simp) rfl ⟨o1, o2, trivial⟩).below b4)
  have HK := Lib.hid ((Own.litC (base := 0) q4 (Nat.zero_le _) (by simp)).numsG (fun x hx => Cn.wf (by revert x; decide)))
  have HB := Lib.hid (((b1.trans (b2.mono (by omega))).trans (b3.mono (by omega))).trans (b4.mono (by omega)))
  clear q1 q2 q3 q4 o1 o2 b1 b2 b3 b4
  go_enter Try.func4, Try.ntmps4
  go_wp2_with fail
  refine (concerned40 _ _ 2 2 2 2 [(1, [3, 5]), (2, [4])] [5, 6] 0 W4 HC.out Cn.awake_right rfl HK.out (by decide)).mono ?_; rintro e w5 ⟨v, rfl, hv, hb5⟩
  rw [Cn.awake_conc] at hv
  obtain ⟨A5, c5, rfl, _⟩ := hv.len
  have HV := Lib.hid hv
  have HB5 := Lib.hid (HB.out.trans (hb5.mono HB.out.size))
  clear hv hb5 hW1 hW2 hW3 hW4 e1 e2 e3
  obtain ⟨X1, hX1⟩ : ∃ X1, w5.alloc (.cells #[.int .i64 5] 3 (0, 0)) = X1 := ⟨_, rfl⟩
  obtain ⟨X2, hX2⟩ : ∃ X2, X1.alloc (.cells #[.int .i64 1, .slice (some ⟨w5.heap.size, 0, none⟩) 1 1] 30 (0, 0)) = X2 := ⟨_, rfl⟩
  have b1 : Below w5.heap.size w5 X1 := by rw [← hX1]; exact (Below.refl _ _).alloc (Nat.le_refl _) _
  have b2 : Below X1.heap.size X1 X2 := by rw [← hX2]; exact (Below.refl _ _).alloc (Nat.le_refl _) _
  have q1 : X1.heap[w5.heap.size]? = some (.cells (([5] : List Int).map (Value.int .i64)).toArray 3 (0, 0)) := by rw [← hX1]; exact heap_alloc_new _ _
  have q2 : X2.heap[X1.heap.size]? = some (.cells (flatC [(1, .slice (some ⟨w5.heap.size, 0, none⟩) 1 1)]).toArray 30 (0, 0)) := by rw [← hX2]; exact heap_alloc_new _ _
  have o1 := (Own.litC (base := 0) q1 (Nat.zero_le _) (by simp)).below b2
  have HC2 := Lib.hid (OwnC.lit (base := 0) (cs := [(1, [5])]) q2 (Nat.zero_le _) (by simp) rfl ⟨o1, trivial⟩)
  have HV2 := Lib.hid ((HV.out.below b1).below b2)
  have HBX := Lib.hid (HB5.out.trans ((b1.trans (b2.mono b1.size)).mono HB5.out.size))
  clear b1 b2 q1 q2 o1
  go_wp2_with fail
  refine (same40 _ _ 1 _ _ [(1, [5])] _ _ X2 HV2.out HC2.out Cn.awake_sane rfl (by decide)).mono ?_; rintro e w6 ⟨rfl, hb6⟩
  have HB6 := Lib.hid (HBX.out.trans (hb6.mono HBX.out.size))
  clear hb6
  go_wp2_with fail
  go_ret
  exact ⟨rfl, HB6.out⟩
end Go.Proofs.Ytihgopiocjflcaa
