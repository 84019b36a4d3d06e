/- rules: what breaks the rules in a table; rules.Breaches of it. -/
import Derived.Test.YtjhdhnefoclccaaRc
namespace Go.Proofs.Ytjhdhnefoclccaa
open Go.RowKit
/-- what one cell breaks -/
def Rl.one (a b : Int) (j : Nat) (p : Rl.Row) : List (Int × Int) :=
  (if Rl.few a p.1 = true then [(1, (j : Int))] else []) ++ (if decide (b * p.2.1 < 100 * p.2.2.1) = true then [(2, (j : Int))] else []) ++ (if (!decide (p.2.2.1 = 0) && decide (100 * (p.2.1 - p.2.2.1 - p.2.2.2) < 0)) = true then [(3, (j : Int))] else [])
def Rl.br (a b : Int) (L : List Rl.Row) (k : Nat) : List (Int × Int) := (List.range k).flatMap fun j => Rl.one a b j (L.getD j (0, 0, 0, 0))
theorem Rl.br_succ (a b : Int) (L : List Rl.Row) (k : Nat) : Rl.br a b L (k + 1) = Rl.br a b L k ++ Rl.one a b k (L.getD k (0, 0, 0, 0)) := by
  unfold Rl.br
  rw [List.range_succ, List.flatMap_append]
  simp
theorem Rl.one_len (a b : Int) (j : Nat) (p : Rl.Row) : (Rl.one a b j p).length ≤ 3 := by
  unfold Rl.one
  rw [List.length_append, List.length_append]
  have h1 : ∀ (c : Bool) (x : Int × Int), (if c = true then [x] else []).length ≤ 1 := fun c x => by cases c <;> simp
  have := h1 (Rl.few a p.1) (1, (j : Int))
  have := h1 (decide (b * p.2.1 < 100 * p.2.2.1)) (2, (j : Int))
  have := h1 (!decide (p.2.2.1 = 0) && decide (100 * (p.2.1 - p.2.2.1 - p.2.2.2) < 0)) (3, (j : Int))
  omega
theorem Rl.br_len (a b : Int) (L : List Rl.Row) (k : Nat) : (Rl.br a b L k).length ≤ 3 * k := by
  induction k with
  | zero => simp [Rl.br]
  | succ k ih =>
    rw [Rl.br_succ, List.length_append]
    have := Rl.one_len a b k (L.getD k (0, 0, 0, 0))
    omega
theorem ite_len (c : Bool) (x : Int × Int) : (if c = true then [x] else []).length ≤ 1 := by cases c <;> simp
theorem Fd.len {w : World} {g base x m : Nat} {cs : Array Value} {L : List (Int × Int)} {c : Bool} {y : Int × Int} (_ : Fd w g base x cs (L ++ if c = true then [y] else [])) (hl : L.length ≤ m) : (L ++ if c = true then [y] else []).length ≤ m + 1 := by
  rw [List.length_append]
  exact Nat.add_le_add hl (ite_len c y)
/-- the boxes of a round -/
structure Rn (w : World) (q x : Nat) (a b : Int) (p : Rl.Row) (L : List (Int × Int)) : Prop where
  fd : Fd w (q + 2) (q + 3) x (Rl.cell p) L
  r : w.heap[q]? = some (.cells #[.int .i64 a, .int .i64 b, .int .i64 0, .int .i64 0] 49)
  m : w.cell? ⟨q + 1, 4, none⟩ = some (.int .i64 0)
theorem Rn.keep {w w' : World} {q x : Nat} {a b : Int} {p : Rl.Row} {L : List (Int × Int)} (h : Rn w q x a b p L) (hb : Below w.heap.size w w') : Rn w' q x a b p L := by
  obtain ⟨⟨⟨v, hg, ho⟩, hx, h1, h2⟩, hr, hm⟩ := h
  exact ⟨⟨⟨v, (hb.block _ (heap_lt hg)).trans hg, ho.below hb⟩, (hb.block _ (heap_lt hx)).trans hx, h1, Nat.le_trans h2 hb.size⟩, (hb.block _ (heap_lt hr)).trans hr, below_cell hb hm⟩
theorem Rn.said {w w' : World} {q x : Nat} {a b : Int} {p : Rl.Row} {L L' : List (Int × Int)} (h : Rn w q x a b p L) (hf : Fd w' (q + 2) (q + 3) x (Rl.cell p) L') (hb : Below (q + 2) w w') : Rn w' q x a b p L' := by
  obtain ⟨_, hr, hm⟩ := h
  exact ⟨hf, (hb.block _ (by omega)).trans hr, (World.cell?_of_block (hb.block _ (by simp))).trans hm⟩
theorem Rn.cells {w : World} {q x : Nat} {a b q1 q2 q3 q4 : Int} {L : List (Int × Int)} (h : Rn w q x a b (q1, q2, q3, q4) L) :
    (w.cell? ⟨q, 0, none⟩ = some (.int .i64 a) ∧ w.cell? ⟨q, 1, none⟩ = some (.int .i64 b) ∧ w.cell? ⟨q, 2, none⟩ = some (.int .i64 0) ∧ w.cell? ⟨q, 3, none⟩ = some (.int .i64 0)) ∧ w.cell? ⟨q + 1, 4, none⟩ = some (.int .i64 0) ∧
    w.cell? ⟨x, 1, none⟩ = some (.int .i64 q1) ∧ w.cell? ⟨x, 3, none⟩ = some (.int .i64 q2) ∧ w.cell? ⟨x, 4, none⟩ = some (.int .i64 q3) ∧ w.cell? ⟨x, 5, none⟩ = some (.int .i64 q4) :=
  ⟨⟨heap_cell h.r rfl, heap_cell h.r rfl, heap_cell h.r rfl, heap_cell h.r rfl⟩, h.m, heap_cell h.fd.cell rfl, heap_cell h.fd.cell rfl, heap_cell h.fd.cell rfl, heap_cell h.fd.cell rfl⟩
theorem Rn.start {W wr : World} {q : Nat} {a b : Int} {p : Rl.Row} {L : List (Int × Int)} (hr : W.heap[q]? = some (.cells #[.int .i64 a, .int .i64 b, .int .i64 0, .int .i64 0] 49)) (hm : W.cell? ⟨q + 1, 4, none⟩ = some (.int .i64 0)) (hs : W.heap.size = q + 3)
    (hb : Below (q + 2) W wr) (hl : ∃ v, wr.heap[q + 2]? = some (.cells #[v] 97) ∧ Own2 wr (q + 3) 72 v L) : Rn (wr.alloc (.cells (Rl.cell p) 55)) q wr.heap.size a b p L := by
  have hsz := hb.size
  obtain ⟨v, hg, ho⟩ := hl
  refine ⟨⟨⟨v, (heap_alloc_old _ _ (heap_lt hg)).trans hg, ho.alloc _⟩, heap_alloc_new _ _, by omega, by simp; omega⟩, (heap_alloc_old _ _ (by omega)).trans ((hb.block _ (by omega)).trans hr), ?_⟩
  have h1 : wr.cell? ⟨q + 1, 4, none⟩ = some (.int .i64 0) := (World.cell?_of_block (hb.block _ (by simp))).trans hm
  exact below_cell ((Below.refl _ _).alloc (Nat.le_refl _) _) h1
theorem Tcs.keep2 {w W wr : World} {B : Nat} {A : Option Addr} {n : Nat} {L : List Rl.Row} (h : Tcs w A n L) (hbw : Below w.heap.size w W) (hb : Below B W wr) (hB : w.heap.size ≤ B) : Tcs wr A n L :=
  ⟨h.len, by
    obtain ⟨g, hA, hg, hc⟩ := h.cells
    refine ⟨g, hA, Nat.lt_of_lt_of_le hg (Nat.le_trans hbw.size hb.size), fun j hj => ?_⟩
    have k : ∀ i v, w.cell? ⟨g, i, none⟩ = some v → wr.cell? ⟨g, i, none⟩ = some v := fun i v hv => (World.cell?_of_block (hb.block g (by omega))).trans (below_cell hbw hv)
    obtain ⟨a0, a1, a2, a3, a4, a5, a6⟩ := hc j hj
    exact ⟨k _ _ a0, k _ _ a1, k _ _ a2, k _ _ a3, k _ _ a4, k _ _ a5, k _ _ a6⟩⟩
def GivesBrs (L : List (Int × Int)) (w : World) (e : Ending) (w' : World) : Prop := ∃ v, e = .returned v ∧ Own2 w' w.heap.size 72 v L ∧ Below w.heap.size w w'
set_option maxRecDepth 100000 in
set_option maxHeartbeats 1600000 in
theorem breaches27 (a b : Int) (b1 : 1 ≤ b) (b2 : b ≤ 100) (A : Option Addr) (n c : Nat) (L : List Rl.Row) (w : World) (h : Tcs w A n L) (hn : n ≤ 10) (hok : ∀ p ∈ L, Rl.ok p) :
    Calls Try.prog 44 #[.agg #[.int .i64 a, .int .i64 b, .int .i64 0, .int .i64 0], .agg (Rl.tvc A n c)] w (GivesBrs (Rl.br a b L n) w) := by
  unfold Rl.tvc
  obtain ⟨W, hW⟩ : ∃ W : World, ((w.alloc (.cells #[.int .i64 a, .int .i64 b, .int .i64 0, .int .i64 0] 49)).alloc (.cells #[.int .i64 2, .int .i64 0, .int .i64 0, .slice none 0 0, .int .i64 0, .slice A n c, .int .i64 0, .slice none 0 0, .slice none 0 0, .int .i64 0, .int .i64 0, .int .i64 0, .int .i64 0, .int .i64 0, .int .i64 0, .slice none 0 0, .slice none 0 0, .int .i64 0, .int .i64 0, .int .i64 0, .int .i64 0, .int .i64 0, .int .i64 0, .slice none 0 0] 70)).alloc (.cells #[.slice none 0 0] 97) = W := ⟨_, rfl⟩
  obtain ⟨q, hq⟩ : ∃ q, w.heap.size = q := ⟨_, rfl⟩
  have hbw : Below w.heap.size w W := by rw [← hW]; exact (((Below.refl _ _).alloc (Nat.le_refl _) _).alloc (by simp) _).alloc (by simp; omega) _
  have hsz : W.heap.size = q + 3 := by rw [← hW]; simp; omega
  have hk0 : W.cell? ⟨q + 1, 0, none⟩ = some (.int .i64 2) := by rw [← hW, ← hq]; simp [go_sem]
  have hk4 : W.cell? ⟨q + 1, 4, none⟩ = some (.int .i64 0) := by rw [← hW, ← hq]; simp [go_sem]
  have hk5 : W.cell? ⟨q + 1, 5, none⟩ = some (.slice A n c) := by rw [← hW, ← hq]; simp [go_sem]
  have hk17 : W.cell? ⟨q + 1, 17, none⟩ = some (.int .i64 0) := by rw [← hW, ← hq]; simp [go_sem]
  have hr : W.heap[q]? = some (.cells #[.int .i64 a, .int .i64 b, .int .i64 0, .int .i64 0] 49) := by rw [← hW, ← hq]; exact (heap_alloc_old _ _ (by simp; omega)).trans ((heap_alloc_old _ _ (by simp)).trans (heap_alloc_new _ _))
  have hg : W.heap[q + 2]? = some (.cells #[.slice none 0 0] 97) := by
    rw [← hW, show q + 2 = ((w.alloc (.cells #[.int .i64 a, .int .i64 b, .int .i64 0, .int .i64 0] 49)).alloc (.cells #[.int .i64 2, .int .i64 0, .int .i64 0, .slice none 0 0, .int .i64 0, .slice A n c, .int .i64 0, .slice none 0 0, .slice none 0 0, .int .i64 0, .int .i64 0, .int .i64 0, .int .i64 0, .int .i64 0, .int .i64 0, .slice none 0 0, .slice none 0 0, .int .i64 0, .int .i64 0, .int .i64 0, .int .i64 0, .int .i64 0, .int .i64 0, .slice none 0 0] 70)).heap.size from by simp; omega]
    exact heap_alloc_new _ _
  have HK4 := Lib.hid hk4
  have HWE := Lib.hid hW
  have HT := Lib.hid h
  have HBW := Lib.hid hbw
  have HOK := Lib.hid hok
  have HR := Lib.hid hr
  have HG := Lib.hid hg
  have HQ := Lib.hid hq
  clear h hbw hW hok hr hg
  go_enter Try.func44, Try.ntmps44
  go_wp2_with fail
  rw [HWE.out]
  go_loopw [7, 8, 40] (fun _ _ i wr => ∃ j : Nat, j ≤ n ∧ i = .int .i64 j ∧ Hid ((∃ v, wr.heap[q + 2]? = some (.cells #[v] 97) ∧ Own2 wr (q + 3) 72 v (Rl.br a b L j)) ∧ Below (q + 2) W wr)) (fun _ _ i _ => n - (intOf i).toNat)
  case atStart => exact ⟨0, by omega, rfl, ⟨⟨_, HG.out, by simpa [Rl.br] using Own2.nil _ _ _⟩, Below.refl _ _⟩⟩
  case round =>
    obtain ⟨j, hj, rfl, HI⟩ := hrel
    by_cases hlt : j < n
    · have hbz := HI.out.2.size
      obtain ⟨g, rfl, hgl, hc⟩ := (HT.out.keep2 HBW.out HI.out.2 (by have := HQ.out; omega)).cells
      have hjl : j < L.length := by rw [HT.out.len]; exact hlt
      obtain ⟨x0, x1, x2, x3, x4, x5, x6⟩ := hc j hjl
      have HL0 := Lib.hid (Rl.br_len a b L j)
      have hok := HOK.out _ (List.getElem_mem hjl)
      have hgd : L.getD j (0, 0, 0, 0) = L[j] := by simp [List.getD, hjl]
      have hbs := Rl.br_succ a b L j
      rw [hgd] at hbs
      have HN := fun p => Rn.start (p := p) HR.out HK4.out hsz HI.out.2 HI.out.1
      have hHN := HN L[j]
      clear HN hgd
      generalize hp : L[j] = p at *
      obtain ⟨q1, q2, q3, q4⟩ := p
      obtain ⟨⟨l1, l2⟩, ⟨l3, l4⟩, ⟨l5, l6⟩, l7, l8⟩ := hok
      simp only at x1 x3 x4 x5 l1 l2 l3 l4 l5 l6 l7 l8
      have HBS := Lib.hid hbs
      have hjn : (j : Int) < n := by omega
      have hm0 : 0 ≤ b * q2 := Int.mul_nonneg (by omega) l3
      have hm1 : b * q2 ≤ 2000000000 := by
        have := Int.mul_le_mul b2 l4 l3 (by omega); omega
      have HD0 := Lib.hid (HI.out.2.alloc (by omega) (.cells (Rl.cell (q1, q2, q3, q4)) 55))
      have HN0 := Lib.hid hHN
      clear hc hp hbs hHN
      have hqx : q < wr.heap.size := by omega
      have g0 := (World.cell?_of_block (HI.out.2.block q (by omega))).trans (heap_cell (i := 0) HR.out rfl : W.cell? ⟨q, 0, none⟩ = some (.int .i64 a))
      have g1 := (World.cell?_of_block (HI.out.2.block q (by omega))).trans (heap_cell (i := 1) HR.out rfl : W.cell? ⟨q, 1, none⟩ = some (.int .i64 b))
      have g2 := (World.cell?_of_block (HI.out.2.block q (by omega))).trans (heap_cell (i := 2) HR.out rfl : W.cell? ⟨q, 2, none⟩ = some (.int .i64 0))
      have g3 := (World.cell?_of_block (HI.out.2.block q (by omega))).trans (heap_cell (i := 3) HR.out rfl : W.cell? ⟨q, 3, none⟩ = some (.int .i64 0))
      go_wp2_with fail
      obtain ⟨z0, hz0⟩ : ∃ z0 : World, wr.alloc (.cells (Rl.cell (q1, q2, q3, q4)) 55) = z0 := ⟨_, rfl⟩
      rw [show wr.alloc (.cells #[.slice none 0 0, .int .i64 q1, .int .i64 0, .int .i64 q2, .int .i64 q3, .int .i64 q4, .slice none 0 0] 55) = z0 from hz0]
      rw [hz0] at HN0 HD0
      clear hz0 x0 x1 x2 x3 x4 x5 x6 HI g0 g1 g2 g3 hqx hbz
      generalize wr.heap.size = x at *
      by_cases h0 : q3 = 0
      · have hz : (q3 != 0) = false := by simp [h0]
        have hz2 : (!decide (q3 = 0)) = false := by simp [h0]
        refine (few27 a b q1 _).mono ?_; rintro e z1 ⟨rfl, hb1⟩
        have HN1 := Lib.hid (HN0.out.keep hb1)
        have HD1 := Lib.hid (HD0.out.trans (hb1.mono (by have := HN0.out.fd.base_; omega)))
        have HL1 := HL0
        clear hb1
        obtain ⟨⟨f0, f1, f2, f3⟩, fm, fx1, fx3, fx4, fx5⟩ := HN1.out.cells
        go_wp2_with fail
        refine (say27 (q + 2) (q + 3) x (q + 2) _ _ _ HN1.out.fd (Nat.le_refl _) (by have := HL1.out; omega) _ 1 j).mono ?_; rintro e z2 ⟨rfl, hf2, hb2⟩
        have HN2 := Lib.hid (HN1.out.said hf2 hb2)
        have HD2 := Lib.hid (HD1.out.trans hb2)
        have HL2 := Lib.hid (hf2.len HL1.out)
        clear f0 f1 f2 f3 fm fx1 fx3 fx4 fx5 hf2 hb2
        obtain ⟨⟨f0, f1, f2, f3⟩, fm, fx1, fx3, fx4, fx5⟩ := HN2.out.cells
        go_wp2_with fail
        refine (say27 (q + 2) (q + 3) x (q + 2) _ _ _ HN2.out.fd (Nat.le_refl _) (by have := HL2.out; omega) _ 2 j).mono ?_; rintro e z3 ⟨rfl, hf3, hb3⟩
        have HN3 := Lib.hid (HN2.out.said hf3 hb3)
        have HD3 := Lib.hid (HD2.out.trans hb3)
        have HL3 := Lib.hid (hf3.len HL2.out)
        clear f0 f1 f2 f3 fm fx1 fx3 fx4 fx5 hf3 hb3
        obtain ⟨⟨f0, f1, f2, f3⟩, fm, fx1, fx3, fx4, fx5⟩ := HN3.out.cells
        go_wp2_with fail
        refine (say27 (q + 2) (q + 3) x (q + 2) _ _ _ HN3.out.fd (Nat.le_refl _) (by have := HL3.out; omega) _ 3 j).mono ?_; rintro e z4 ⟨rfl, hf4, hb4⟩
        have HN4 := Lib.hid (HN3.out.said hf4 hb4)
        have HD4 := Lib.hid (HD3.out.trans hb4)
        have HL4 := Lib.hid (hf4.len HL3.out)
        clear f0 f1 f2 f3 fm fx1 fx3 fx4 fx5 hf4 hb4
        obtain ⟨⟨f0, f1, f2, f3⟩, fm, fx1, fx3, fx4, fx5⟩ := HN4.out.cells
        go_wp2_with fail
        go_roundw
        case rel => exact ⟨j + 1, by omega, by go_num, ⟨by
          obtain ⟨v, hg2, ho⟩ := HN4.out.fd.list
          refine ⟨v, hg2, ?_⟩
          rw [HBS.out]
          unfold Rl.one
          simpa [h0] using ho, HD4.out⟩⟩
        case measure => simp [intOf]; omega
      · have hz : (q3 != 0) = true := by simp [h0]
        have hz2 : (!decide (q3 = 0)) = true := by simp [h0]
        refine (few27 a b q1 _).mono ?_; rintro e z1 ⟨rfl, hb1⟩
        have HN1 := Lib.hid (HN0.out.keep hb1)
        have HD1 := Lib.hid (HD0.out.trans (hb1.mono (by have := HN0.out.fd.base_; omega)))
        have HL1 := HL0
        clear hb1
        obtain ⟨⟨f0, f1, f2, f3⟩, fm, fx1, fx3, fx4, fx5⟩ := HN1.out.cells
        go_wp2_with fail
        refine (say27 (q + 2) (q + 3) x (q + 2) _ _ _ HN1.out.fd (Nat.le_refl _) (by have := HL1.out; omega) _ 1 j).mono ?_; rintro e z2 ⟨rfl, hf2, hb2⟩
        have HN2 := Lib.hid (HN1.out.said hf2 hb2)
        have HD2 := Lib.hid (HD1.out.trans hb2)
        have HL2 := Lib.hid (hf2.len HL1.out)
        clear f0 f1 f2 f3 fm fx1 fx3 fx4 fx5 hf2 hb2
        obtain ⟨⟨f0, f1, f2, f3⟩, fm, fx1, fx3, fx4, fx5⟩ := HN2.out.cells
        go_wp2_with fail
        refine (say27 (q + 2) (q + 3) x (q + 2) _ _ _ HN2.out.fd (Nat.le_refl _) (by have := HL2.out; omega) _ 2 j).mono ?_; rintro e z3 ⟨rfl, hf3, hb3⟩
        have HN3 := Lib.hid (HN2.out.said hf3 hb3)
        have HD3 := Lib.hid (HD2.out.trans hb3)
        have HL3 := Lib.hid (hf3.len HL2.out)
        clear f0 f1 f2 f3 fm fx1 fx3 fx4 fx5 hf3 hb3
        obtain ⟨⟨f0, f1, f2, f3⟩, fm, fx1, fx3, fx4, fx5⟩ := HN3.out.cells
        go_wp2_with fail
        refine (say27 (q + 2) (q + 3) x (q + 2) _ _ _ HN3.out.fd (Nat.le_refl _) (by have := HL3.out; omega) _ 3 j).mono ?_; rintro e z4 ⟨rfl, hf4, hb4⟩
        have HN4 := Lib.hid (HN3.out.said hf4 hb4)
        have HD4 := Lib.hid (HD3.out.trans hb4)
        have HL4 := Lib.hid (hf4.len HL3.out)
        clear f0 f1 f2 f3 fm fx1 fx3 fx4 fx5 hf4 hb4
        obtain ⟨⟨f0, f1, f2, f3⟩, fm, fx1, fx3, fx4, fx5⟩ := HN4.out.cells
        go_wp2_with fail
        go_roundw
        case rel => exact ⟨j + 1, by omega, by go_num, ⟨by
          obtain ⟨v, hg2, ho⟩ := HN4.out.fd.list
          refine ⟨v, hg2, ?_⟩
          rw [HBS.out]
          unfold Rl.one
          simpa [h0] using ho, HD4.out⟩⟩
        case measure => simp [intOf]; omega
    · obtain rfl : j = n := by omega
      obtain ⟨v, hg2, ho⟩ := HI.out.1
      have hcv := (heap_cell (i := 0) hg2 rfl : wr.cell? ⟨q + 2, 0, none⟩ = some v)
      have HO := Lib.hid ho
      have HE := Lib.hid (HBW.out.trans (HI.out.2.mono (by omega)))
      clear hg2 ho
      go_wp2_with fail
      go_ret
      exact ⟨_, rfl, HO.out.base_le (by have := HQ.out; omega), HE.out⟩
end Go.Proofs.Ytjhdhnefoclccaa
