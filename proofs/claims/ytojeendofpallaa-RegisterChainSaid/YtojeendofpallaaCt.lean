/- Made: tables of cells. -/
import Derived.Test.YtojeendofpallaaCs
namespace Go.Proofs.Ytojeendofpallaa
open Go.RowKit
/-- a space by value, in a row of one's own -/
structure SpO (w : World) (b : Nat) (v : Value) (ss : List Int) : Prop where
  ex : ∃ u, v = .agg #[u] ∧ Own w b 3 .i64 u ss
  ok : Ce.Space ss
theorem SpO.below {w w' : World} {b : Nat} {v : Value} {ss : List Int} (h : SpO w b v ss) (hb : Below w.heap.size w w') : SpO w' b v ss := by
  obtain ⟨⟨u, rfl, ho⟩, hs⟩ := h
  exact ⟨⟨u, rfl, ho.below hb⟩, hs⟩
theorem SpO.cod {w w' : World} {base b g : Nat} {v : Value} {ss : List Int} (h : SpO w b v ss) (hc : Cod w base g) (hg : w.grownBy w' (some g)) : SpO w' b v ss := by
  obtain ⟨⟨u, rfl, ho⟩, hs⟩ := h
  exact ⟨⟨u, rfl, ho.cod hc hg (by decide)⟩, hs⟩
theorem SpO.sp {w : World} {b : Nat} {v : Value} {ss : List Int} (h : SpO w b v ss) : Sp w v ss := by
  obtain ⟨⟨u, rfl, ho⟩, hs⟩ := h
  obtain ⟨g, cap, rfl, _⟩ := ho.rowg rfl hs.pos
  exact ⟨⟨_, _, _, rfl, ho.numsG (Ce.space_wf hs)⟩, hs⟩
/-- a table of N cells, from 0 to most -/
structure Ce.Table (t : List Int) (N : Nat) (most : Int) : Prop where
  len : t.length = N
  bd : ∀ j, j < t.length → 0 ≤ t.getD j 0 ∧ t.getD j 0 ≤ most
theorem Ce.table_wf {t : List Int} {N : Nat} {most : Int} (h : Ce.Table t N most) (hm : most ≤ 1000000) : ∀ x ∈ t, (Lit.int .i64 x).wf = true := by
  intro x hx
  obtain ⟨j, hj, rfl⟩ := Ce.getD_of_mem hx
  have := h.bd j hj
  exact WalkArith.wf_i64 (by omega)
def GivesTable (N : Nat) (most : Int) (base g : Nat) (w : World) (e : Ending) (w' : World) : Prop := ∃ (v : Value) (t : List Int), e = .returned v ∧ Own w' w.heap.size 3 .i64 v t ∧ Ce.Table t N most ∧ Cod w' base g ∧ w.grownBy w' (some g)
theorem getD_snoc (P : List Int) (x : Int) (i : Nat) : (P ++ [x]).getD i 0 = if i < P.length then P.getD i 0 else if i = P.length then x else 0 := by
  simp only [List.getD, List.getElem?_append]
  by_cases h : i < P.length
  · simp [h]
  · rw [if_neg h, if_neg h]
    by_cases h2 : i = P.length
    · simp [h2]
    · rw [if_neg h2, List.getElem?_eq_none (by simp; omega)]; rfl
theorem snoc_all {p : Int → Prop} {P : List Int} {x : Int} (h : ∀ i, i < P.length → p (P.getD i 0)) (hx : p x) : ∀ i, i < (P ++ [x]).length → p ((P ++ [x]).getD i 0) := by
  intro i hi
  rw [getD_snoc]
  by_cases h2 : i < P.length
  · rw [if_pos h2]; exact h i h2
  · rw [if_neg h2, if_pos (by simp at hi; omega)]; exact hx
theorem set_pad (P : List Int) (N j : Nat) (x : Int) (hP : P.length = j) (hj : j < N) : (P ++ List.replicate (N - j) 0).set j x = (P ++ [x]) ++ List.replicate (N - (j + 1)) 0 := by
  obtain ⟨m, hm⟩ : ∃ m, N - j = m + 1 := ⟨N - j - 1, by omega⟩
  rw [hm, show N - (j + 1) = m by omega, List.replicate_succ, List.set_append_right _ _ (by omega), hP, Nat.sub_self]
  simp
theorem Own.codsome {w w' : World} {base b2 g : Nat} {e : TypeId} {k : IntKind} {v : Value} {l : List Int} (h : Own w b2 e k v l) (hc : Cod w base g) (hg : w.grownBy w' (some g)) (he : e ≠ 77) : Own w' b2 e k v l := h.cod hc hg he
set_option maxHeartbeats 800000 in
theorem cells9 (base g : Nat) (v : Value) (ss : List Int) (N : Nat) (most : Int) (w : World) (hc : Cod w base g) (h : Sp w v ss) (hN : Ce.prodN ss ss.length = (N : Int)) (hm0 : 0 ≤ most) (hm1 : most ≤ 1000) :
    Calls Try.prog 18 #[.pointer (some ⟨g, 0, none⟩), v, .int .i64 most] w (GivesTable N most base g w) := by
  have hNb := h.ok.bd (Nat.le_refl _)
  rw [hN] at hNb
  obtain ⟨⟨A, n, c, rfl, hn⟩, hs⟩ := h
  obtain ⟨W, hW, k0, H, HB, hm, HL, H1, HZ⟩ := sp_box w A n c ss hn hs
  have HC := Lib.hid (hc.below HB.out)
  have HG := Lib.hid hc.lt
  have HS := Lib.hid hs
  have HN := Lib.hid hN
  clear hs hn hc hN
  go_enter Try.func18, Try.ntmps18
  go_wp2_with fail
  clear hW
  refine (rcount28 _ ss W ⟨⟨A, n, c, rfl, H.out.keep (Below.refl _ _) HB.out.size⟩, HS.out⟩).mono ?_; rintro e w1 ⟨rfl, hb1⟩
  rw [HN.out]
  have HC1 := Lib.hid (HC.out.below hb1)
  have HB1 := Lib.hid (HB.out.trans (hb1.mono HB.out.size))
  clear hb1 k0
  go_wp2_with (at_make; refine make_ints _ rfl _ _ _ rfl w1.heap.size 3 8 .i64 int_info28 Try.underlying22 N rfl rfl (by simp only [maxLen]; omega) (by omega) (Nat.le_refl _) ?_; intro w2 hown hgrow)
  have HO2 := Lib.hid hown
  have HG2 := Lib.hid ((grownBy_of_below HB1.out (some g)).trans (grownBy_any hgrow (some g)))
  have HC2 := Lib.hid (HC1.out.grown hgrow (fun r e => by cases e))
  clear hown hgrow
  have HSZ1 := Lib.hid HB1.out.size
  go_loopw [14] (fun i wr => ∃ (j : Nat) (P : List Int), j ≤ N ∧ i = .int .i64 j ∧ Hid (P.length = j ∧ (∀ i, i < P.length → 0 ≤ P.getD i 0 ∧ P.getD i 0 ≤ most) ∧ Own wr w1.heap.size 3 .i64 (.slice (some ⟨w1.heap.size, 0, none⟩) N N) (P ++ List.replicate (N - j) 0) ∧ Cod wr base g ∧ w.grownBy wr (some g))) (fun i _ => N - (intOf i).toNat)
  case atStart => exact ⟨0, [], by omega, rfl, rfl, fun i hi => absurd hi (by simp), by simpa using HO2.out, HC2.out, HG2.out⟩
  case round =>
    rename World => X
    obtain ⟨j, P, hj, rfl, HI⟩ := hrel
    by_cases hlt : j < N
    · have hb1 : -9223372036854775808 ≤ most + 1 := by omega
      have hb2 : most + 1 ≤ 9223372036854775807 := by omega
      go_wp2_with fail
      refine (next_any (most + 1) hb1 hb2 base g X HI.out.2.2.2.1).mono ?_; rintro e w3 ⟨x, rfl, hx0, hx1, _, hc3, hg3⟩
      have hx1 := hx1 (by omega)
      have ho := HI.out.2.2.1.cod HI.out.2.2.2.1 hg3 (by decide)
      have hlen : (P ++ List.replicate (N - j) 0).length = N := by rw [List.length_append, HI.out.1, List.length_replicate]; omega
      have c0 := ho.cell (j := j) (by omega)
      have f0 := ho.thaw j
      have HST := Lib.hid (ho.store j x)
      have HC3 := Lib.hid hc3
      have HG3 := Lib.hid (HI.out.2.2.2.2.trans hg3)
      have HL := Lib.hid HI.out.1
      clear ho hlen hc3 hg3
      go_wp2_with fail
      go_roundw
      case rel =>
        refine ⟨j + 1, P ++ [x], by omega, by go_num, by simp [HL.out], ?_, ?_, HC3.out.grown HST.out.2 (fun r e => ?_), grownBy_set_new HG3.out HSZ1.out⟩
        · exact snoc_all (p := fun y => 0 ≤ y ∧ y ≤ most) HI.out.2.1 ⟨hx0, by omega⟩
        · have := HST.out.1
          rw [set_pad P N j x HL.out hlt] at this
          exact this
        · injection e with e
          have := HG.out
          have := HSZ1.out
          omega
      case measure => simp [intOf]; omega
    · obtain rfl : j = N := by omega
      go_wp2_with fail
      go_ret
      have ho := HI.out.2.2.1
      rw [Nat.sub_self, List.replicate_zero, List.append_nil] at ho
      exact ⟨_, P, rfl, ho.base_le HSZ1.out, ⟨HI.out.1, HI.out.2.1⟩, HI.out.2.2.2.1, HI.out.2.2.2.2⟩
end Go.Proofs.Ytojeendofpallaa
