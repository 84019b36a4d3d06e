/- Layer 21: the example that every law asks. -/
import Derived.Test.YtaalgjeffidedaaBs
namespace Go.Proofs.Ytaalgjeffidedaa
open Go.RowKit
theorem addr_add (g j : Nat) : (⟨g, 0, none⟩ : Addr).add j = ⟨g, j, none⟩ := by unfold Addr.add; by_cases h : j = 0 <;> simp [h]
/-- a literal -/
theorem lit_nums (w : World) (l : List Int) (hl : l.length ≤ 1000) (hw : ∀ x ∈ l, (Lit.int .i64 x).wf = true) :
    Nums (w.alloc (.cells (l.map (Value.int .i64)).toArray 3)) .i64 (w.alloc (.cells (l.map (Value.int .i64)).toArray 3)).heap.size (some ⟨w.heap.size, 0, none⟩) l.length l.length l :=
  ⟨rfl, Nat.le_refl _, by simp only [maxLen]; omega, fun _ => ⟨_, rfl, by simp, fun j hj => by
    rw [addr_add]
    unfold World.cell?
    simp only [heap_alloc_new]
    simp [List.getD, hj]⟩, hw, fun h => by cases h⟩
theorem lit_wf {l : List Int} (h : l.all (fun x => (Lit.int .i64 x).wf) = true) : ∀ x ∈ l, (Lit.int .i64 x).wf = true := fun x hx => List.all_eq_true.1 h x hx
theorem lit_prs (w : World) (L : List (Int × Int)) (hl : L.length ≤ 1000) : Prs (w.alloc (.cells (flat L).toArray 39)) (some ⟨w.heap.size, 0, none⟩) L.length L :=
  ⟨rfl, by omega, fun _ => ⟨_, rfl, fun j hj => by
    unfold World.cell?
    simp only [heap_alloc_new]
    have h1 := flat_fst L j hj
    have h2 := flat_snd L j hj
    simp [h1, h2]⟩⟩
theorem lit_prs2 (w : World) (o : Obj) (L : List (Int × Int)) (hl : L.length ≤ 1000) : Prs ((w.alloc o).alloc (.cells (flat L).toArray 39)) (some ⟨w.heap.size + 1, 0, none⟩) L.length L := by
  have := lit_prs (w.alloc o) L hl
  rwa [show (w.alloc o).heap.size = w.heap.size + 1 from by simp] at this
theorem eqlBox (a b : Value) (w : World) (x0 x1 x2 x3 x4 x5 y0 y1 y2 y3 y4 y5 : Int) (ha : a = .agg #[.int .i64 x0, .int .i64 x1, .int .i64 x2, .int .i64 x3, .int .i64 x4, .int .i64 x5]) (hb : b = .agg #[.int .i64 y0, .int .i64 y1, .int .i64 y2, .int .i64 y3, .int .i64 y4, .int .i64 y5]) (r : Bool)
    (hr : r = (decide (x0 = y0) && (decide (x1 = y1) && (decide (x2 = y2) && (decide (x3 = y3) && (decide (x4 = y4) && decide (x5 = y5))))))) : (binOp .eql 34 a b).run Try.prog w = .ok (.bool r) w := by
  subst ha hb hr
  have u3 := Try.underlying3
  have a3 := Try.isAgg3
  have z3 := Try.sizeOf3
  have hS : Try.prog.underlying 34 = some (.struct (Try.prog.fieldsOf 34)) := by kernel_rfl
  have hp : Try.prog.stoodInHeld 34 = false := by kernel_rfl
  rw [run_eql_struct, show (10000 : Nat) = 9999 + 1 from rfl, run_equalIn_agg w 9999 34 _ _ hS hp]
  simp only [Program.fieldsOf, Try.underlying34]
  go_simp
  by_cases h0 : x0 = y0 <;> by_cases h1 : x1 = y1 <;> by_cases h2 : x2 = y2 <;> by_cases h3 : x3 = y3 <;> by_cases h4 : x4 = y4 <;> by_cases h5 : x5 = y5 <;> simp [h0, h1, h2, h3, h4, h5]
theorem Pb.ex1 : Pb.bins ([1, 4, 5, -1].map (Pb.fl 5)) = [(-5, 1), (0, 2), (5, 1)] := by decide
theorem Pb.ex2 : Pb.quart [5, 1, 9, 3, 7] = .tuple #[.agg #[.int .i64 5, .int .i64 1, .int .i64 3, .int .i64 5, .int .i64 7, .int .i64 9], .int .i64 0] := by
  have h : Pb.srt [5, 1, 9, 3, 7] = [1, 3, 5, 7, 9] := Pb.sorted_perm_eq (Pb.srt_sorted _) (by decide) ((Pb.srt_perm _).trans (by decide))
  unfold Pb.quart
  rw [if_neg (by simp)]
  unfold Pb.box Pb.at
  rw [h]
  rfl
set_option maxHeartbeats 800000 in
theorem awake21 (w : World) : Calls Try.prog 7 #[] w fun e w' => e = .returned (.bool true) ∧ Below w.heap.size w w' := by
  have L1 := Lib.hid (fun w => lit_nums w [1, 4, 5, -1] (by decide) (lit_wf (by decide)))
  have L2 := Lib.hid (fun w => lit_nums w [5, 1, 9, 3, 7] (by decide) (lit_wf (by decide)))
  have L3 := Lib.hid (fun w o => lit_prs2 w o [(-5, 1), (0, 2), (5, 1)] (by decide))
  have S : ∀ (w : World) (o : Obj), Below w.heap.size w (w.alloc o) := fun w o => (Below.refl _ _).alloc (Nat.le_refl _) o
  have HS := Lib.hid S
  clear S
  have hq : ∀ w, (binOp .eql 34 (.agg #[.int .i64 5, .int .i64 1, .int .i64 3, .int .i64 5, .int .i64 7, .int .i64 9]) (.agg #[.int .i64 5, .int .i64 1, .int .i64 3, .int .i64 5, .int .i64 7, .int .i64 9])).run Try.prog w = .ok (.bool true) w :=
    fun w => eqlBox _ _ w 5 1 3 5 7 9 5 1 3 5 7 9 rfl rfl true (by decide)
  go_enter Try.func7, Try.ntmps7
  go_wp2_with fail
  refine (bins21 _ 4 4 [1, 4, 5, -1] 5 _ (L1.out w) (by omega) (by omega) (by omega) (by decide)).mono ?_; rintro e w1 ⟨v1, rfl, hown1, hb1⟩
  have HB1 := Lib.hid ((HS.out w _).trans (hb1.mono (by simp)))
  rw [Pb.ex1] at hown1
  obtain ⟨A1, N1, c1, rfl, hN1, hp1⟩ := hown1.prs (by decide)
  have HP1 := Lib.hid hp1
  clear hown1 hb1 hp1 hN1
  go_wp2_with fail
  refine (quart21 _ 5 5 [5, 1, 9, 3, 7] _ (L2.out w1) (by omega) (by decide)).mono ?_; rintro e w2 ⟨rfl, hb2⟩
  have HB2 := Lib.hid (HB1.out.trans (((HS.out w1 _).trans (hb2.mono (by simp))).mono HB1.out.size))
  have HP2 := Lib.hid ((HP1.out.keep (HS.out w1 _)).keep hb2)
  rw [Pb.ex2]
  clear hb2 HB1 HP1
  go_wp2_with fail
  refine (same21 A1 _ N1 c1 3 3 [(-5, 1), (0, 2), (5, 1)] [(-5, 1), (0, 2), (5, 1)] _ ((HP2.out.keep (HS.out w2 _)).keep (HS.out _ _)) (L3.out w2 _)).mono ?_; rintro e w3 ⟨rfl, hb3⟩
  rw [show decide ([((-5 : Int), (1 : Int)), (0, 2), (5, 1)] = [(-5, 1), (0, 2), (5, 1)]) = true from by decide]
  have HB3 := Lib.hid (HB2.out.trans ((((HS.out w2 _).trans ((HS.out _ _).mono (by simp))).trans (hb3.mono (by simp; omega))).mono HB2.out.size))
  have hbx : ∀ i v, i < 6 → (w2.alloc (.cells #[.int .i64 5, .int .i64 1, .int .i64 3, .int .i64 5, .int .i64 7, .int .i64 9] 34)).cell? ⟨w2.heap.size, i, none⟩ = some v → w3.cell? ⟨w2.heap.size, i, none⟩ = some v := fun i v _ h => below_cell hb3 (below_cell (HS.out _ _) h)
  have e0 := hbx 0 (.int .i64 5) (by omega) (by simp [go_sem])
  have e1 := hbx 1 (.int .i64 1) (by omega) (by simp [go_sem])
  have e2 := hbx 2 (.int .i64 3) (by omega) (by simp [go_sem])
  have e3 := hbx 3 (.int .i64 5) (by omega) (by simp [go_sem])
  have e4 := hbx 4 (.int .i64 7) (by omega) (by simp [go_sem])
  have e5 := hbx 5 (.int .i64 9) (by omega) (by simp [go_sem])
  clear hb3 hbx HP2 HB2
  go_wp2_with fail
  go_ret
  exact ⟨rfl, HB3.out⟩
end Go.Proofs.Ytaalgjeffidedaa
