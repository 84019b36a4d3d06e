/- rules: lists of breaches compared; the example that every law asks. -/
import Derived.Test.YtjhdhnefoclccaaRe
import Derived.Laws.StructEq
namespace Go.Proofs.Ytjhdhnefoclccaa
open Go.RowKit
/-- pairs that lie in a row -/
structure Prs (w : World) (A : Option Addr) (n : Nat) (L : List (Int × Int)) : Prop where
  len : L.length = n
  small : n ≤ 1000000
  cells : 0 < n → ∃ g, A = some ⟨g, 0, none⟩ ∧ ∀ j (h : j < L.length), w.cell? ⟨g, j * 2, none⟩ = some (.int .i64 L[j].1) ∧ w.cell? ⟨g, j * 2 + 1, none⟩ = some (.int .i64 L[j].2)
theorem Prs.keep {w w' : World} {A : Option Addr} {n : Nat} {L : List (Int × Int)} (h : Prs w A n L) (hb : Below w.heap.size w w') : Prs w' A n L :=
  ⟨h.len, h.small, fun hn => by
    obtain ⟨g, hA, hc⟩ := h.cells hn
    exact ⟨g, hA, fun j hj => ⟨below_cell hb (hc j hj).1, below_cell hb (hc j hj).2⟩⟩⟩
theorem Own2.prs {w : World} {base : Nat} {e : TypeId} {v : Value} {L : List (Int × Int)} (h : Own2 w base e v L) (hs : L.length ≤ 1000000) : ∃ A N c, v = .slice A N c ∧ Hid (N = L.length) ∧ Prs w A N L := by
  obtain ⟨A, c, rfl, _, _⟩ := h.slice
  refine ⟨A, _, c, rfl, Lib.hid rfl, rfl, hs, fun hn => ?_⟩
  obtain ⟨g, cap, hv, _, _, _⟩ := h.row (by rintro rfl; cases hn)
  rw [hv] at h
  injection hv with hA
  exact ⟨g, hA, fun j hj => ⟨h.fst hj, h.snd hj⟩⟩
theorem neqBr (a b c d : Int) (w : World) : (binOp .neq 72 (.agg #[.int .i64 a, .int .i64 b]) (.agg #[.int .i64 c, .int .i64 d])).run Try.prog w = .ok (.bool (!(decide (a = c) && decide (b = d)))) w := by
  have u3 := Try.underlying3
  have a3 := Try.isAgg3
  have z3 := Try.sizeOf3
  have hS : Try.prog.underlying 72 = some (.struct (Try.prog.fieldsOf 72)) := by kernel_rfl
  have hp : Try.prog.stoodInHeld 72 = false := by kernel_rfl
  rw [run_neq_struct, show (10000 : Nat) = 9999 + 1 from rfl, run_equalIn_agg w 9999 72 _ _ hS hp]
  simp only [Program.fieldsOf, Try.underlying72]
  go_simp
  by_cases h1 : a = c <;> by_cases h2 : b = d <;> simp [h1, h2]
theorem pair_take_succ {L L' : List (Int × Int)} {j : Nat} (h : j < L.length) (h' : j < L'.length) (e : L.take j = L'.take j) : L.take (j + 1) = L'.take (j + 1) ↔ L[j] = L'[j] := by
  rw [List.take_succ_eq_append_getElem h, List.take_succ_eq_append_getElem h', e]
  exact ⟨fun h => by injection List.append_cancel_left h, fun h => by rw [h]⟩
set_option maxHeartbeats 400000 in
theorem same27 (A A' : Option Addr) (n c n' c' : Nat) (L L' : List (Int × Int)) (w : World) (h : Prs w A n L) (h' : Prs w A' n' L') :
    Calls Try.prog 45 #[.slice A n c, .slice A' n' c'] w fun e w' => e = .returned (.bool (decide (L = L'))) ∧ Below w.heap.size w w' := by
  have hs := h.small
  have hs' := h'.small
  have H := Lib.hid h
  have H' := Lib.hid h'
  clear h h'
  by_cases hn : n = n'
  · subst hn
    go_enter Try.func45, Try.ntmps45
    go_wp2_with fail
    go_loopw [5, 13] (fun _ i wr => ∃ j : Nat, j ≤ n ∧ i = .int .i64 j ∧ Hid (L.take j = L'.take j ∧ ∃ m, wr = w.drewN m)) (fun _ i _ => n - (intOf i).toNat)
    case atStart => exact ⟨0, by omega, rfl, Lib.hid ⟨rfl, 0, rfl⟩⟩
    case round =>
      obtain ⟨j, hj, rfl, HN⟩ := hrel
      obtain ⟨m, hm⟩ := HN.out.2
      have HE := Lib.hid HN.out.1
      clear HN
      subst hm
      by_cases hlt : j < n
      · obtain ⟨g, rfl, hc⟩ := H.out.cells (by omega)
        obtain ⟨g', rfl, hc'⟩ := H'.out.cells (by omega)
        have hjl : j < L.length := by rw [H.out.len]; exact hlt
        have hjl' : j < L'.length := by rw [H'.out.len]; exact hlt
        obtain ⟨x1, x2⟩ := hc j hjl
        obtain ⟨y1, y2⟩ := hc' j hjl'
        have hts := Lib.hid (pair_take_succ hjl hjl' HE.out)
        generalize hp : L[j] = p at *
        generalize hq : L'[j] = q at *
        obtain ⟨a, b⟩ := p
        obtain ⟨c1, d⟩ := q
        have hnb := neqBr a b c1 d
        have i1 : (j : Int) < n := by omega
        have i2 : (0 : Int) ≤ j := by omega
        by_cases hab : a = c1 ∧ b = d
        · have he : (!(decide (a = c1) && decide (b = d))) = false := by simp [hab]
          simp only [he] at hnb
          have HT := Lib.hid (hts.out.2 (by rw [hab.1, hab.2]))
          clear hc hc' hp hq hab he hts
          go_wp2_with fail
          go_quiet (fail)
          go_wp2_with fail
          go_roundw
          case rel => exact ⟨j + 1, by omega, by go_num, HT.out, _, rfl⟩
          case measure => simp [intOf]; omega
        · have he : (!(decide (a = c1) && decide (b = d))) = true := by
            rw [Bool.not_eq_true', Bool.and_eq_false_iff, decide_eq_false_iff_not, decide_eq_false_iff_not]; omega
          simp only [he] at hnb
          have HT := Lib.hid (show L ≠ L' from fun e => hab (by
            have := hts.out.1 (by rw [e])
            injection this with e1 e2
            exact ⟨e1, e2⟩))
          clear hc hc' hp hq hab he hts
          go_wp2_with fail
          go_quiet (fail)
          go_wp2_with fail
          go_ret
          exact ⟨retb (by simp [HT.out]), below_drewN (below_drewN (Below.refl _ _) _) _⟩
      · obtain rfl : j = n := by omega
        have he : L = L' := by
          have := HE.out
          rwa [List.take_of_length_le (by rw [H.out.len]; omega), List.take_of_length_le (by rw [H'.out.len]; omega)] at this
        have HF := Lib.hid he
        clear he
        go_wp2_with fail
        go_ret
        exact ⟨retb (by simp [HF.out]), below_drewN (Below.refl _ _) _⟩
  · have hb : ((n : Int) != (n' : Int)) = true := by simp; omega
    have HE := Lib.hid hn
    clear hn
    go_enter Try.func45, Try.ntmps45
    go_wp2
    go_ret
    refine ⟨retb ?_, Below.refl _ _⟩
    have : L ≠ L' := fun e => HE.out (by rw [← H.out.len, ← H'.out.len, e])
    simp [this]
theorem lit_wf {l : List Int} (h : l.all (fun x => (Lit.int .i64 x).wf) = true) : ∀ x ∈ l, (Lit.int .i64 x).wf = true := fun x hx => List.all_eq_true.1 h x hx
theorem lit_prs (w : World) (L : List (Int × Int)) (hl : L.length ≤ 1000) : Prs (w.alloc (.cells (flat L).toArray 72)) (some ⟨w.heap.size, 0, none⟩) L.length L :=
  ⟨rfl, by omega, fun _ => ⟨_, rfl, fun j hj => by
    unfold World.cell?
    simp only [heap_alloc_new]
    have h1 := flat_fst L j hj
    have h2 := flat_snd L j hj
    simp [h1, h2]⟩⟩
theorem lit_prs2 (w : World) (o : Obj) (L : List (Int × Int)) (hl : L.length ≤ 1000) : Prs ((w.alloc o).alloc (.cells (flat L).toArray 72)) (some ⟨w.heap.size + 1, 0, none⟩) L.length L := by
  have := lit_prs (w.alloc o) L hl
  rwa [show (w.alloc o).heap.size = w.heap.size + 1 from by simp] at this

theorem tcs_of {w : World} {g n : Nat} {cs : Array Value} {L : List Rl.Row} (hl : L.length = n) (h : w.heap[g]? = some (.cells cs 55))
    (hc : ∀ j (h : j < L.length), cs[j * 7]? = some (.slice none 0 0) ∧ cs[j * 7 + 1]? = some (.int .i64 L[j].1) ∧ cs[j * 7 + 2]? = some (.int .i64 0) ∧ cs[j * 7 + 3]? = some (.int .i64 L[j].2.1) ∧ cs[j * 7 + 4]? = some (.int .i64 L[j].2.2.1) ∧ cs[j * 7 + 5]? = some (.int .i64 L[j].2.2.2) ∧ cs[j * 7 + 6]? = some (.slice none 0 0)) : Tcs w (some ⟨g, 0, none⟩) n L :=
  ⟨hl, g, rfl, heap_lt h, fun j hj => by
    obtain ⟨a0, a1, a2, a3, a4, a5, a6⟩ := hc j hj
    exact ⟨heap_cell h a0, heap_cell h a1, heap_cell h a2, heap_cell h a3, heap_cell h a4, heap_cell h a5, heap_cell h a6⟩⟩
theorem Rl.ex_br : Rl.br 3 80 [(2, 0, 0, 0), (3, 100, 90, 5), (0, 0, 0, 0)] 3 = [(1, 0), (2, 1)] := by decide
theorem Rl.ex_pr : Rl.pr 3 [0, 1, 2, 3] 4 = [1, 2] := by decide
set_option maxRecDepth 100000 in
set_option maxHeartbeats 1600000 in
theorem awake27 (w : World) : Calls Try.prog 27 #[] w fun e w' => e = .returned (.bool true) ∧ Below w.heap.size w w' := by
  obtain ⟨q, hq⟩ : ∃ q, w.heap.size = q := ⟨_, rfl⟩
  obtain ⟨W, hW⟩ : ∃ W : World, (w.alloc (.cells #[.int .i64 3, .int .i64 80, .int .i64 0, .int .i64 0] 49)).alloc (.cells #[.slice none 0 0, .int .i64 2, .int .i64 0, .int .i64 0, .int .i64 0, .int .i64 0, .slice none 0 0, .slice none 0 0, .int .i64 3, .int .i64 0, .int .i64 100, .int .i64 90, .int .i64 5, .slice none 0 0, .slice none 0 0, .int .i64 0, .int .i64 0, .int .i64 0, .int .i64 0, .int .i64 0, .slice none 0 0] 55) = W := ⟨_, rfl⟩
  have hbw : Below w.heap.size w W := by rw [← hW]; exact ((Below.refl _ _).alloc (Nat.le_refl _) _).alloc (by simp) _
  have hr : W.heap[q]? = some (.cells #[.int .i64 3, .int .i64 80, .int .i64 0, .int .i64 0] 49) := by
    rw [← hW, ← hq]; exact (heap_alloc_old _ _ (by simp)).trans (heap_alloc_new _ _)
  have ht : Tcs W (some ⟨q + 1, 0, none⟩) 3 [(2, 0, 0, 0), (3, 100, 90, 5), (0, 0, 0, 0)] := by
    refine tcs_of (cs := #[.slice none 0 0, .int .i64 2, .int .i64 0, .int .i64 0, .int .i64 0, .int .i64 0, .slice none 0 0, .slice none 0 0, .int .i64 3, .int .i64 0, .int .i64 100, .int .i64 90, .int .i64 5, .slice none 0 0, .slice none 0 0, .int .i64 0, .int .i64 0, .int .i64 0, .int .i64 0, .int .i64 0, .slice none 0 0]) rfl ?_ ?_
    · rw [← hW, show q + 1 = (w.alloc (.cells #[.int .i64 3, .int .i64 80, .int .i64 0, .int .i64 0] 49)).heap.size from by simp; omega]
      exact heap_alloc_new _ _
    · intro j hj
      match j, hj with
      | 0, _ => exact ⟨rfl, rfl, rfl, rfl, rfl, rfl, rfl⟩
      | 1, _ => exact ⟨rfl, rfl, rfl, rfl, rfl, rfl, rfl⟩
      | 2, _ => exact ⟨rfl, rfl, rfl, rfl, rfl, rfl, rfl⟩
  have hok : ∀ p ∈ ([(2, 0, 0, 0), (3, 100, 90, 5), (0, 0, 0, 0)] : List Rl.Row), Rl.ok p := by
    intro p hp
    simp only [List.mem_cons, List.not_mem_nil, or_false] at hp
    rcases hp with rfl | rfl | rfl <;> simp [Rl.ok]
  have HWE := Lib.hid hW
  have HBW := Lib.hid hbw
  have HR := Lib.hid hr
  have HTM := Lib.hid (bre27 3 80 (by decide) (by decide) (by decide) (by decide) _ 3 3 _ W ht (by decide) hok)
  rw [Rl.ex_br] at HTM
  unfold Rl.tvc at HTM
  have L2 := Lib.hid (fun w => lit_nums w [0, 1, 2, 3] (by decide) (lit_wf (by decide)))
  have L3 := Lib.hid (fun w => lit_prs w [(1, 0), (2, 1)] (by decide))
  have S : ∀ (w : World) (o : Obj), Below w.heap.size w (w.alloc o) := fun w o => (Below.refl _ _).alloc (Nat.le_refl _) o
  have HS := Lib.hid S
  clear S hW hbw hr ht hok
  go_enter Try.func27, Try.ntmps27
  go_wp2_with fail
  rw [HWE.out]
  refine HTM.out.mono ?_; rintro e w1 ⟨v1, rfl, hown1, hb1⟩
  obtain ⟨A1, N1, c1, rfl, hN1, hp1⟩ := hown1.prs (by decide)
  obtain rfl : N1 = 2 := hN1.out
  have HP1 := Lib.hid hp1
  have HB1 := Lib.hid (HBW.out.trans (hb1.mono HBW.out.size))
  have hr1 := (hb1.block _ (heap_lt HR.out)).trans HR.out
  have f0 := (heap_cell (i := 0) hr1 rfl : w1.cell? ⟨q, 0, none⟩ = some (.int .i64 3))
  have f1 := (heap_cell (i := 1) hr1 rfl : w1.cell? ⟨q, 1, none⟩ = some (.int .i64 80))
  have f2 := (heap_cell (i := 2) hr1 rfl : w1.cell? ⟨q, 2, none⟩ = some (.int .i64 0))
  have f3 := (heap_cell (i := 3) hr1 rfl : w1.cell? ⟨q, 3, none⟩ = some (.int .i64 0))
  clear hown1 hb1 hp1 hN1 HTM hr1
  go_wp2_with fail
  refine (protected27 3 80 (by decide) (by decide) (by decide) (by decide) _ 4 4 _ _ (L2.out w1) (by decide)).mono ?_; rintro e w2 ⟨v2, rfl, hown2, hb2⟩
  rw [Rl.ex_pr] at hown2
  have hb02 := (HS.out w1 (.cells #[.int .i64 0, .int .i64 1, .int .i64 2, .int .i64 3] 3)).trans (hb2.mono (by simp))
  have HB2 := Lib.hid (HB1.out.trans (hb02.mono HB1.out.size))
  have HP2 := Lib.hid (HP1.out.keep hb02)
  obtain ⟨g2, c2, rfl⟩ : ∃ g cap, v2 = .slice (some ⟨g, 0, none⟩) 2 cap := by
    obtain ⟨_, ⟨_, hn⟩ | ⟨g, cap, cur, hv, _⟩⟩ := hown2
    · cases hn
    · exact ⟨g, cap, hv⟩
  have k0 : w2.cell? ⟨g2, 0, none⟩ = some (.int .i64 1) := World.ownsRow.cellAt hown2 0 (by decide)
  have k1 : w2.cell? ⟨g2, 1, none⟩ = some (.int .i64 2) := World.ownsRow.cellAt hown2 1 (by decide)
  have HK := Lib.hid (And.intro k0 k1)
  clear hown2 hb2 hb02 f0 f1 f2 f3 k0 k1
  go_wp2_with fail
  refine (same27 A1 _ _ c1 2 2 [(1, 0), (2, 1)] [(1, 0), (2, 1)] _ (HP2.out.keep (HS.out w2 _)) (L3.out w2)).mono ?_; rintro e w3 ⟨rfl, hb3⟩
  rw [show decide ([((1 : Int), (0 : Int)), (2, 1)] = [(1, 0), (2, 1)]) = true from by decide]
  have hb03 := (HS.out w2 (.cells #[.int .i64 1, .int .i64 0, .int .i64 2, .int .i64 1] 72)).trans (hb3.mono (by simp))
  have HB3 := Lib.hid (HB2.out.trans (hb03.mono HB2.out.size))
  have k0 := below_cell hb03 HK.out.1
  have k1 := below_cell hb03 HK.out.2
  clear hb3 hb03 HP2 HB2
  go_wp2_with fail
  go_ret
  exact ⟨rfl, HB3.out⟩
end Go.Proofs.Ytjhdhnefoclccaa
