/- Made: spaces. -/
import Derived.Test.YtojeendofpallaaCg
namespace Go.Proofs.Ytojeendofpallaa
open Go.RowKit
/-- the function returns a valid space of its own, and has turned the choices -/
def GivesSpace (base g : Nat) (w : World) (e : Ending) (w' : World) : Prop := ∃ (v : Value) (ss : List Int), e = .returned (.agg #[v]) ∧ Own w' w.heap.size 3 .i64 v ss ∧ Ce.Space ss ∧ Cod w' base g ∧ w.grownBy w' (some g)
def Ce.nine : List (List Int) := [[2], [3], [2, 2], [2, 3], [4], [2, 2, 2], [3, 2], [6], [1, 3]]
def Ce.nth (i : Nat) : List Int := Ce.nine.getD i []
theorem Ce.nth_space {i : Nat} (hi : i < 9) : Ce.Space (Ce.nth i) := by
  have hd : ∀ l : List Int, 1 ≤ l.length → l.length ≤ 4 → (∀ x ∈ l, 1 ≤ x ∧ x ≤ 8) → Ce.prodN l l.length ≤ 48 → Ce.Space l := fun l h1 h2 h3 h4 =>
    ⟨h1, h2, fun j hj => (h3 _ (by simp [List.getD, hj])).1, fun j hj => (h3 _ (by simp [List.getD, hj])).2, h4⟩
  rcases (show i = 0 ∨ i = 1 ∨ i = 2 ∨ i = 3 ∨ i = 4 ∨ i = 5 ∨ i = 6 ∨ i = 7 ∨ i = 8 by omega) with rfl | rfl | rfl | rfl | rfl | rfl | rfl | rfl | rfl <;> exact hd _ (by decide) (by decide) (by decide) (by decide)
theorem grownBy_any {w w' : World} (h : w.grownBy w' none) (row : Option Nat) : w.grownBy w' row := ⟨h.os, h.tape, h.output, h.size, fun k hk _ => h.block k hk (by simp)⟩
theorem allocs_heap (w : World) : ∀ os : List Obj, (os.foldl World.alloc w).heap = w.heap ++ os.toArray := by
  intro os
  induction os generalizing w with
  | nil => simp
  | cons o os ih => rw [List.foldl_cons, ih]; show w.heap.push o ++ _ = _; simp
theorem alloc_at {w W : World} {os : List Obj} (h : W.heap = w.heap ++ os.toArray) (b k : Nat) (hb : b = w.heap.size + k) : W.heap[b]? = os[k]? := by
  subst hb
  rw [h, Array.getElem?_append_right (by omega)]
  simp
theorem alloc_cell {w W : World} {os : List Obj} (h : W.heap = w.heap ++ os.toArray) (b k : Nat) (hb : b = w.heap.size + k) {i : Nat} (v : Value) (hk : (os[k]?.bind fun o => match o with | .cells cs _ _ => cs[i]? | _ => none) = some v) : W.cell? ⟨b, i, none⟩ = some v := by
  have e := alloc_at h b k hb
  simp only [World.cell?]
  rw [e]
  cases ho : os[k]? with
  | none => rw [ho] at hk; cases hk
  | some o =>
    rw [ho] at hk
    cases o <;> simp_all
theorem grownBy_set (w : World) (b j : Nat) (v : Value) : w.grownBy (w.setCell ⟨b, j, none⟩ v) (some b) := by
  refine ⟨rfl, rfl, rfl, by simp, fun k hk hne => ?_⟩
  simp only [World.setCell, Array.getElem?_modify]
  rw [if_neg (fun e => hne (by rw [← e]))]
theorem grownBy_set_new {w w2 : World} {row : Option Nat} (h : w.grownBy w2 row) {b j : Nat} {v : Value} (hb : w.heap.size ≤ b) : w.grownBy (w2.setCell ⟨b, j, none⟩ v) row := by
  refine ⟨h.os, h.tape, h.output, by simpa using h.size, fun k hk hne => ?_⟩
  rw [← h.block k hk hne]
  simp only [World.setCell, Array.getElem?_modify]
  rw [if_neg (fun e => by omega)]
theorem addr_zero (g j : Nat) : (⟨g, 0, none⟩ : Addr).add j = ⟨g, j, none⟩ := by unfold Addr.add; by_cases h : j = 0 <;> simp [h]
/-- the world in which the nine lists lie -/
theorem nine_world (w : World) : ∃ W : World, ((((((((((w.alloc (.cells #[.slice none 0 0] 24)).alloc (.cells #[.int .i64 2] 3)).alloc (.cells #[.int .i64 3] 3)).alloc (.cells #[.int .i64 2, .int .i64 2] 3)).alloc (.cells #[.int .i64 2, .int .i64 3] 3)).alloc (.cells #[.int .i64 4] 3)).alloc (.cells #[.int .i64 2, .int .i64 2, .int .i64 2] 3)).alloc (.cells #[.int .i64 3, .int .i64 2] 3)).alloc (.cells #[.int .i64 6] 3)).alloc (.cells #[.int .i64 1, .int .i64 3] 3)).alloc (.cells #[.slice (some ⟨w.heap.size + 1, 0, none⟩) 1 1, .slice (some ⟨w.heap.size + 1 + 1, 0, none⟩) 1 1, .slice (some ⟨w.heap.size + 1 + 1 + 1, 0, none⟩) 2 2, .slice (some ⟨w.heap.size + 1 + 1 + 1 + 1, 0, none⟩) 2 2, .slice (some ⟨w.heap.size + 1 + 1 + 1 + 1 + 1, 0, none⟩) 1 1, .slice (some ⟨w.heap.size + 1 + 1 + 1 + 1 + 1 + 1, 0, none⟩) 3 3, .slice (some ⟨w.heap.size + 1 + 1 + 1 + 1 + 1 + 1 + 1, 0, none⟩) 2 2, .slice (some ⟨w.heap.size + 1 + 1 + 1 + 1 + 1 + 1 + 1 + 1, 0, none⟩) 1 1, .slice (some ⟨w.heap.size + 1 + 1 + 1 + 1 + 1 + 1 + 1 + 1 + 1, 0, none⟩) 2 2] 22) = W ∧ w.grownBy W none ∧ W.heap.size = w.heap.size + 11 ∧ W.heap[w.heap.size]? = some (.cells #[.slice none 0 0] 24 (0, 0)) ∧
    (∀ i, i < 9 → W.cell? ⟨w.heap.size + 1 + 1 + 1 + 1 + 1 + 1 + 1 + 1 + 1 + 1, i, none⟩ = some (.slice (some ⟨w.heap.size + 1 + i, 0, none⟩) (Ce.nth i).length (Ce.nth i).length)) ∧
    (∀ i, i < 9 → ∀ j, j < (Ce.nth i).length → W.cell? ⟨w.heap.size + 1 + i, j, none⟩ = some (.int .i64 ((Ce.nth i).getD j 0))) := by
  have hh := allocs_heap w [.cells #[.slice none 0 0] 24, .cells #[.int .i64 2] 3, .cells #[.int .i64 3] 3, .cells #[.int .i64 2, .int .i64 2] 3, .cells #[.int .i64 2, .int .i64 3] 3, .cells #[.int .i64 4] 3, .cells #[.int .i64 2, .int .i64 2, .int .i64 2] 3, .cells #[.int .i64 3, .int .i64 2] 3, .cells #[.int .i64 6] 3, .cells #[.int .i64 1, .int .i64 3] 3, .cells #[.slice (some ⟨w.heap.size + 1, 0, none⟩) 1 1, .slice (some ⟨w.heap.size + 1 + 1, 0, none⟩) 1 1, .slice (some ⟨w.heap.size + 1 + 1 + 1, 0, none⟩) 2 2, .slice (some ⟨w.heap.size + 1 + 1 + 1 + 1, 0, none⟩) 2 2, .slice (some ⟨w.heap.size + 1 + 1 + 1 + 1 + 1, 0, none⟩) 1 1, .slice (some ⟨w.heap.size + 1 + 1 + 1 + 1 + 1 + 1, 0, none⟩) 3 3, .slice (some ⟨w.heap.size + 1 + 1 + 1 + 1 + 1 + 1 + 1, 0, none⟩) 2 2, .slice (some ⟨w.heap.size + 1 + 1 + 1 + 1 + 1 + 1 + 1 + 1, 0, none⟩) 1 1, .slice (some ⟨w.heap.size + 1 + 1 + 1 + 1 + 1 + 1 + 1 + 1 + 1, 0, none⟩) 2 2] 22]
  refine ⟨_, rfl, by repeat (first | exact World.grownBy_alloc _ _ none | refine World.grownBy.trans ?_ (World.grownBy_alloc _ _ none)), by simp, ?_, ?_, ?_⟩
  · exact alloc_at hh _ 0 rfl
  · intro i hi
    rcases (show i = 0 ∨ i = 1 ∨ i = 2 ∨ i = 3 ∨ i = 4 ∨ i = 5 ∨ i = 6 ∨ i = 7 ∨ i = 8 by omega) with rfl | rfl | rfl | rfl | rfl | rfl | rfl | rfl | rfl <;> exact alloc_cell hh _ 10 (by omega) _ rfl
  · intro i hi j hj
    rcases (show i = 0 ∨ i = 1 ∨ i = 2 ∨ i = 3 ∨ i = 4 ∨ i = 5 ∨ i = 6 ∨ i = 7 ∨ i = 8 by omega) with rfl | rfl | rfl | rfl | rfl | rfl | rfl | rfl | rfl
    · rcases j with _ | _ | _ | j <;> first | exact alloc_cell hh _ 1 (by omega) _ rfl | (exfalso; simp [Ce.nth, Ce.nine] at hj; try omega)
    · rcases j with _ | _ | _ | j <;> first | exact alloc_cell hh _ 2 (by omega) _ rfl | (exfalso; simp [Ce.nth, Ce.nine] at hj; try omega)
    · rcases j with _ | _ | _ | j <;> first | exact alloc_cell hh _ 3 (by omega) _ rfl | (exfalso; simp [Ce.nth, Ce.nine] at hj; try omega)
    · rcases j with _ | _ | _ | j <;> first | exact alloc_cell hh _ 4 (by omega) _ rfl | (exfalso; simp [Ce.nth, Ce.nine] at hj; try omega)
    · rcases j with _ | _ | _ | j <;> first | exact alloc_cell hh _ 5 (by omega) _ rfl | (exfalso; simp [Ce.nth, Ce.nine] at hj; try omega)
    · rcases j with _ | _ | _ | j <;> first | exact alloc_cell hh _ 6 (by omega) _ rfl | (exfalso; simp [Ce.nth, Ce.nine] at hj; try omega)
    · rcases j with _ | _ | _ | j <;> first | exact alloc_cell hh _ 7 (by omega) _ rfl | (exfalso; simp [Ce.nth, Ce.nine] at hj; try omega)
    · rcases j with _ | _ | _ | j <;> first | exact alloc_cell hh _ 8 (by omega) _ rfl | (exfalso; simp [Ce.nth, Ce.nine] at hj; try omega)
    · rcases j with _ | _ | _ | j <;> first | exact alloc_cell hh _ 9 (by omega) _ rfl | (exfalso; simp [Ce.nth, Ce.nine] at hj; try omega)
set_option maxHeartbeats 800000 in
theorem space9 (base g : Nat) (w : World) (h : Cod w base g) :
    Calls Try.prog 16 #[.pointer (some ⟨g, 0, none⟩)] w (GivesSpace base g w) := by
  obtain ⟨W, hW, hgW, hsz, hbox, htab, hin⟩ := nine_world w
  have HC := Lib.hid (h.grown hgW (fun r e => by cases e))
  have HG := Lib.hid hgW
  have HGT := Lib.hid h.lt
  have HT := Lib.hid htab
  have HI := Lib.hid hin
  have HX := Lib.hid hbox
  have HZ := Lib.hid hsz
  clear h hgW htab hin hbox hsz
  go_enter Try.func16, Try.ntmps16
  go_wp2_with fail
  clear hW
  refine (next_any 9 (by omega) (by omega) base g W HC.out).mono ?_; rintro e w1 ⟨x, rfl, hx0, hx1, _, hc1, hg1⟩
  have hx1 := hx1 (by omega)
  obtain ⟨i, rfl⟩ := Int.eq_ofNat_of_zero_le hx0
  have hi : i < 9 := by omega
  have ct : w1.cell? ⟨w.heap.size + 1 + 1 + 1 + 1 + 1 + 1 + 1 + 1 + 1 + 1, i, none⟩ = some (.slice (some ⟨w.heap.size + 1 + i, 0, none⟩) (Ce.nth i).length (Ce.nth i).length) := hg1.cell (HT.out i hi) (by have := HGT.out.1; simp; omega)
  have hbx : w1.heap[w.heap.size]? = some (.cells #[.slice none 0 0] 24 (0, 0)) := by rw [hg1.block _ (by rw [HZ.out]; omega) (by have := HGT.out.1; simp; omega)]; exact HX.out
  have HS := Lib.hid (Ce.nth_space hi)
  have HN := Lib.hid (show Nums w1 .i64 w1.heap.size (some ⟨w.heap.size + 1 + i, 0, none⟩) (Ce.nth i).length (Ce.nth i).length (Ce.nth i) from
    ⟨rfl, Nat.le_refl _, by have := HS.out.few; simp only [maxLen]; omega, fun _ => ⟨_, rfl, by have := hg1.size; rw [HZ.out] at this; simp; omega, fun j hj => by rw [addr_zero]; exact hg1.cell (HI.out i hi j hj) (by have := HGT.out.1; simp; omega)⟩, Ce.space_wf HS.out, fun h => by cases h⟩)
  have hlen : (Ce.nth i).length ≤ 4 := HS.out.few
  have HG1 := Lib.hid (((grownBy_any HG.out (some g)).trans hg1 : w.grownBy w1 (some g)))
  have HC1 := Lib.hid hc1
  have HBX := Lib.hid hbx
  generalize Ce.nth i = ss at *
  obtain ⟨N, hN⟩ : ∃ N, ss.length = N := ⟨_, rfl⟩
  rw [hN] at ct HN hlen
  have HWS := Lib.hid hg1.size
  clear hx0 hx1 hc1 hg1 hbx
  have hbe : Below w1.heap.size w1 (w1.alloc (.cells #[] 3)) := (Below.refl _ _).alloc (Nat.le_refl _) _
  have HPE := Lib.hid (HN.out.keep hbe hbe.size)
  have HQ3 := Lib.hid hbe.size
  have HGR := Lib.hid (fun (w2 : World) (h : (w1.alloc (.cells #[] 3)).grownBy w2 (Value.slice (some ⟨w1.heap.size, 0, none⟩) 0 0).ownBlock) => (Own.grow (w0 := w1) (B := w1.heap.size) (Own.empty w1 3 .i64) hbe h hbe.size (Nat.le_refl _) : Below w1.heap.size w1 w2))
  have HSZ := Lib.hid (Nat.lt_of_lt_of_le (show w.heap.size < W.heap.size by rw [HZ.out]; omega) HWS.out)
  have HLN := Lib.hid hN
  have HS1 := Lib.hid (show 1 ≤ N by rw [← hN]; exact HS.out.pos)
  clear hbe hN
  go_wp2_with (at_builtin; refine app_ints _ rfl _ _ _ rfl w1.heap.size 3 8 .i64 int_info28 Try.underlying22 (.slice (some ⟨w1.heap.size, 0, none⟩) 0 0) [] rfl (Own.empty w1 _ _) _ _ _ _ ss rfl HPE.out (by simp only [maxLen, List.length_nil]; omega) (by simp only [List.length_nil]; omega) HQ3.out ?_; intro v2 w2 hown2 hgrow2; (have hb2 : Below w1.heap.size w1 w2 := HGR.out w2 hgrow2); rw [List.nil_append] at hown2; (have hb9 : w2.heap[w.heap.size]? = some (.cells #[.slice none 0 0] 24 (0, 0)) := (hb2.block _ HSZ.out).trans HBX.out); (have q0 : w2.cell? ⟨w.heap.size, 0, none⟩ = some (.slice none 0 0) := by simp [World.cell?, hb9]); (have q1 : w2.frozen? ⟨w.heap.size, 0, none⟩ = false := by simp [World.frozen?, hb9]); obtain ⟨g2, cap2, rfl, hg2, _, _, _⟩ := hown2.rowg HLN.out HS1.out; (have HO2 := Lib.hid hown2); (have HBB := Lib.hid hb2); (have HG2 := Lib.hid hg2); clear hown2 hgrow2 hb2 hb9 hg2)
  have hgg : w.grownBy w2 (some g) := HG1.out.trans (grownBy_of_below HBB.out (some g))
  exact bodyPost_ret (v := .agg #[.slice (some ⟨g2, 0, none⟩) N cap2]) (by simp [results, Try.results16, go_sem, *]) rfl
    ⟨_, ss, rfl, (HO2.out.setCell (by have := HSZ.out; simp; omega) _).base_le (Nat.le_of_lt HSZ.out), HS.out, (HC1.out.below HBB.out).grown (grownBy_set w2 w.heap.size 0 _) (fun r e => by injection e with e; have := HGT.out; omega), grownBy_set_new hgg (Nat.le_refl _)⟩
end Go.Proofs.Ytojeendofpallaa
