/- The operations of lineage. -/
import Derived.Test.YtbjebknemkagiaaZp
import Derived.Test.YtbjebknemkagiaaZv
namespace Go.Proofs.Ytbjebknemkagiaa
open Go.RowKit
/-- the members of a list that are in another one, or are not -/
def Zs.part (l l' : List Int) (b : Bool) : List Int := (Zs.of l).filter fun x => !(decide (x ∈ l') != b)
theorem Zs.mem_part {l l' : List Int} {b : Bool} {x : Int} : x ∈ Zs.part l l' b ↔ x ∈ l ∧ (x ∈ l' ↔ b = true) := by
  unfold Zs.part
  rw [List.mem_filter, Zs.mem_of]
  cases b <;> by_cases h : x ∈ l' <;> simp [h]
theorem Zs.asc_part (l l' : List Int) (b : Bool) : Zs.Asc (Zs.part l l' b) := (Zs.asc_of l).filter _
theorem Zs.part_len (l l' : List Int) (b : Bool) : (Zs.part l l' b).length ≤ l.length := Nat.le_trans (List.length_filter_le _ _) (Zs.of_len l)
theorem of15 (A : Option Addr) (n c : Nat) (l : List Int) (w : World) (h : Nums w .i64 w.heap.size A n c l) (hn : n ≤ 1000000) :
    Calls Try.prog 15 #[.slice A n c] w (GivesInts (Zs.of l) w) := by
  go_enter Try.func15, Try.ntmps15
  go_wp2_with fail
  refine (set_own A n c l w h hn).mono ?_; rintro e w1 ⟨v1, rfl, hown1, hb1⟩
  clear h hn
  go_wp2_with fail
  go_ret
  exact ⟨_, rfl, hown1, hb1⟩
set_option maxHeartbeats 400000 in
theorem part15 (A : Option Addr) (n c : Nat) (l : List Int) (A' : Option Addr) (n' c' : Nat) (l' : List Int) (b : Bool) (w : World) (h : Nums w .i64 w.heap.size A n c l) (h' : Nums w .i64 w.heap.size A' n' c' l') (hn : n ≤ 1000000) (hn' : n' ≤ 1000000) :
    Calls Try.prog 38 #[.slice A n c, .slice A' n' c', .bool b] w (GivesInts (Zs.part l l' b) w) := by
  have H := Lib.hid h
  have H' := Lib.hid h'
  have HN := Lib.hid (And.intro hn hn')
  clear h h' hn hn'
  obtain ⟨W, hW⟩ : ∃ W : World, w.alloc (.cells #[.bool b] 4) = W := ⟨_, rfl⟩
  have HBW := Lib.hid (show Below w.heap.size w W by rw [← hW]; exact (Below.refl _ _).alloc (Nat.le_refl _) _)
  have HC := Lib.hid (show W.cell? ⟨w.heap.size, 0, none⟩ = some (.bool b) by rw [← hW]; simp [go_sem])
  have HS := Lib.hid (show W.heap.size = w.heap.size + 1 by rw [← hW]; simp)
  have HW := Lib.hid hW
  clear hW
  go_enter Try.func38, Try.ntmps38
  go_wp2_with fail
  rw [HW.out]
  refine (set_own A' n' c' l' W (H'.out.keep HBW.out HBW.out.size) HN.out.2).mono ?_; rintro e w1 ⟨v1, rfl, hown1, hb1⟩
  have hr1 := hown1.reads
  obtain ⟨A1, N1, c1, rfl, hN1, hn1⟩ := hown1.numsN (fun x hx => H'.out.wf x (Zs.mem_of.1 hx))
  have HR1 := Lib.hid hr1
  have HB1 := Lib.hid hb1
  have HG1 := Lib.hid (show ∀ g, (Value.slice A1 N1 c1).ownBlock = some g → g < w1.heap.size from fun g hg => (World.ownsRow.lt hown1 g hg).2)
  clear hown1 hb1 hr1 hn1 hN1
  go_wp2_with fail
  obtain ⟨W2, hW2⟩ : ∃ W2 : World, w1.alloc (.cells #[.slice A1 N1 c1] 26) = W2 := ⟨_, rfl⟩
  rw [hW2]
  have hb12 : Below w1.heap.size w1 W2 := by rw [← hW2]; exact (Below.refl _ _).alloc (Nat.le_refl _) _
  have HB2 := Lib.hid (HBW.out.trans ((HB1.out.trans (hb12.mono HB1.out.size)).mono HBW.out.size))
  have HF2 := Lib.hid (show W2.cell? ⟨w1.heap.size, 0, none⟩ = some (.slice A1 N1 c1) by rw [← hW2]; simp [go_sem])
  have HI2 := Lib.hid (below_cell hb12 (below_cell HB1.out HC.out))
  have HR2 := Lib.hid (HR1.out.keep HG1.out fun a u ha hu => by rw [hb12.cell ha]; exact hu)
  have HS2 := Lib.hid (show W2.heap.size = w1.heap.size + 1 by rw [← hW2]; simp)
  clear hb12 hW2
  refine (set_own A n c l W2 (H.out.keep HB2.out HB2.out.size) HN.out.1).mono ?_; rintro e w2 ⟨v2, rfl, hown2, hb2⟩
  have HO3 := Lib.hid hown2
  have HB3 := Lib.hid hb2
  clear hown2 hb2
  go_wp2_with fail
  refine (delete_own W2.heap.size v2 (Zs.of l) (fun x => decide (x ∈ Zs.of l') != b) #[.pointer (some ⟨w1.heap.size, 0, none⟩), .pointer (some ⟨w.heap.size, 0, none⟩)] w2 HO3.out HB3.out.size (by have := Zs.of_len l; have := H.out.len; have := HN.out.1; omega) (fun W' x hc => ?_)).mono ?_
  · have hk : ∀ (a : Addr) (u : Value), a.block < W2.heap.size → W2.cell? a = some u → W'.cell? a = some u := fun a u ha hu => hc a u ha (by rw [HB3.out.cell ha]; exact hu)
    exact inOther _ _ b x w1.heap.size w.heap.size W' (HR2.out.keep (fun g hg => by have := HG1.out g hg; have := HS2.out; omega) hk) (Zs.asc_of _) (by have := Zs.of_len l'; have := H'.out.len; have := HN.out.2; omega)
      (hk _ _ (by have := HS2.out; simp; omega) HF2.out) (hk _ _ (by have := HS2.out; have := HS.out; have := HB1.out.size; simp; omega) HI2.out)
  · rintro e w3 ⟨v3, rfl, hown3, hb3⟩
    have HO4 := Lib.hid hown3
    have HB4 := Lib.hid hb3
    clear hown3 hb3
    go_wp2_with fail
    go_ret
    refine ⟨_, rfl, ?_, HB2.out.trans ((HB3.out.trans HB4.out).mono HB2.out.size)⟩
    have := HO4.out.base_le HB2.out.size
    rwa [show ((Zs.of l).filter fun x => !(decide (x ∈ Zs.of l') != b)) = Zs.part l l' b from List.filter_congr fun x _ => by rw [decide_eq_decide.2 Zs.mem_of]] at this
theorem both15 (A : Option Addr) (n c : Nat) (l : List Int) (A' : Option Addr) (n' c' : Nat) (l' : List Int) (w : World) (h : Nums w .i64 w.heap.size A n c l) (h' : Nums w .i64 w.heap.size A' n' c' l') (hn : n ≤ 1000000) (hn' : n' ≤ 1000000) :
    Calls Try.prog 19 #[.slice A n c, .slice A' n' c'] w (GivesInts (Zs.part l l' true) w) := by
  go_enter Try.func19, Try.ntmps19
  go_wp2_with fail
  refine (part15 A n c l A' n' c' l' true w h h' hn hn').mono ?_; rintro e w1 ⟨v1, rfl, hown1, hb1⟩
  clear h hn h' hn'
  go_wp2_with fail
  go_ret
  exact ⟨_, rfl, hown1, hb1⟩
theorem without15 (A : Option Addr) (n c : Nat) (l : List Int) (A' : Option Addr) (n' c' : Nat) (l' : List Int) (w : World) (h : Nums w .i64 w.heap.size A n c l) (h' : Nums w .i64 w.heap.size A' n' c' l') (hn : n ≤ 1000000) (hn' : n' ≤ 1000000) :
    Calls Try.prog 21 #[.slice A n c, .slice A' n' c'] w (GivesInts (Zs.part l l' false) w) := by
  go_enter Try.func21, Try.ntmps21
  go_wp2_with fail
  refine (part15 A n c l A' n' c' l' false w h h' hn hn').mono ?_; rintro e w1 ⟨v1, rfl, hown1, hb1⟩
  clear h hn h' hn'
  go_wp2_with fail
  go_ret
  exact ⟨_, rfl, hown1, hb1⟩
/-- whether each number of a list is in another one -/
def Zs.within (l l' : List Int) : Bool := l.all fun x => decide (x ∈ l')
theorem Zs.within_iff {l l' : List Int} : Zs.within l l' = true ↔ ∀ x ∈ l, x ∈ l' := by simp [Zs.within]
theorem Zs.part_nil {l l' : List Int} : Zs.part l l' false = [] ↔ Zs.within l l' = true := by
  rw [Zs.within_iff]
  constructor
  · intro h x hx
    refine Decidable.byContradiction fun hn => ?_
    have : x ∈ Zs.part l l' false := Zs.mem_part.2 ⟨hx, by simp [hn]⟩
    rw [h] at this; cases this
  · intro h
    refine List.eq_nil_iff_forall_not_mem.2 fun x hx => ?_
    have := Zs.mem_part.1 hx
    simp [h x this.1] at this
theorem within15 (A : Option Addr) (n c : Nat) (l : List Int) (A' : Option Addr) (n' c' : Nat) (l' : List Int) (w : World) (h : Nums w .i64 w.heap.size A n c l) (h' : Nums w .i64 w.heap.size A' n' c' l') (hn : n ≤ 1000000) (hn' : n' ≤ 1000000) :
    Calls Try.prog 25 #[.slice A n c, .slice A' n' c'] w fun e w' => e = .returned (.bool (Zs.within l l')) ∧ Below w.heap.size w w' := by
  go_enter Try.func25, Try.ntmps25
  go_wp2_with fail
  refine (part15 A n c l A' n' c' l' false w h h' hn hn').mono ?_; rintro e w1 ⟨v1, rfl, hown1, hb1⟩
  obtain ⟨A1, N1, c1, rfl, hN1, -⟩ := hown1.numsN (fun x hx => h.wf x (Zs.mem_part.1 hx).1)
  clear h hn h' hn' hown1
  go_wp2_with fail
  go_ret
  refine ⟨retb ?_, hb1⟩
  rw [Bool.eq_iff_iff, ← Zs.part_nil, ← List.length_eq_zero_iff, ← hN1.out]
  simp
theorem union15 (A : Option Addr) (n c : Nat) (l : List Int) (A' : Option Addr) (n' c' : Nat) (l' : List Int) (w : World) (h : Nums w .i64 w.heap.size A n c l) (h' : Nums w .i64 w.heap.size A' n' c' l') (hn : n ≤ 100000) (hn' : n' ≤ 100000) :
    Calls Try.prog 17 #[.slice A n c, .slice A' n' c'] w (GivesInts (Zs.of (l ++ l')) w) := by
  have H := Lib.hid h
  have H' := Lib.hid h'
  have HN := Lib.hid (And.intro hn hn')
  clear h h' hn hn'
  go_enter Try.func17, Try.ntmps17
  go_wp2_with fail
  refine (concat2 w.heap.size A A' n c n' c' l l' _ (by simp [go_sem]) (by simp [go_sem]) (H.out.keep ((Below.refl _ _).alloc (Nat.le_refl _) _) (by simp)) (H'.out.keep ((Below.refl _ _).alloc (Nat.le_refl _) _) (by simp)) (by have := HN.out; omega)).mono ?_
  rintro e w1 ⟨v1, rfl, hown1, hb1⟩
  obtain ⟨A1, N1, c1, rfl, hN1, hn1⟩ := hown1.numsN (fun x hx => (List.mem_append.1 hx).elim (H.out.wf x) (H'.out.wf x))
  have HN1 := Lib.hid hn1
  have HB1 := Lib.hid (((Below.refl w.heap.size w).alloc (Nat.le_refl _) (.cells #[.slice A n c, .slice A' n' c'] 26)).trans (hb1.mono (by simp)))
  clear hown1 hb1 hn1
  go_wp2_with fail
  refine (set_own A1 N1 c1 (l ++ l') w1 HN1.out (by have := hN1.out; have := H.out.len; have := H'.out.len; have := HN.out; rw [List.length_append] at *; omega)).mono ?_; rintro e w2 ⟨v2, rfl, hown2, hb2⟩
  have HO2 := Lib.hid hown2
  have HB2 := Lib.hid hb2
  clear hown2 hb2
  go_wp2_with fail
  go_ret
  exact ⟨_, rfl, HO2.out.base_le HB1.out.size, HB1.out.trans (HB2.out.mono HB1.out.size)⟩
end Go.Proofs.Ytbjebknemkagiaa
