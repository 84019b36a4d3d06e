/- Journals: the reference's Copy. -/
import Derived.Test.YtjhdhnefoclccaaK7
namespace Go.Proofs.Ytjhdhnefoclccaa
open Go.RowKit
theorem drew_heap (x : World) : x.drew.heap = x.heap := rfl
theorem heap_at {w : World} {o : Obj} {g : Nat} (h : w.heap.size = g) : (w.alloc o).heap[g]? = some o := by subst h; exact heap_alloc_new _ _
theorem heap_lt9 {w : World} {g : Nat} {o : Obj} (h : w.heap[g]? = some o) : g < w.heap.size := (Array.getElem?_eq_some_iff.1 h).1
def GivesCopy (l l' : List Int) (w : World) (e : Ending) (w' : World) : Prop := ∃ v v', e = .returned (.agg #[v, v']) ∧ Own w' w.heap.size 5 .u8 v l ∧ Own w' w.heap.size 5 .u8 v' l' ∧ Below w.heap.size w w' ∧ v.ownBlock ≠ v'.ownBlock
set_option maxRecDepth 100000 in
set_option maxHeartbeats 3200000 in
theorem rcopy23 (A A' : Option Addr) (n c n' c' : Nat) (l l' : List Int) (w : World) (h : Nums w .u8 w.heap.size A n c l) (h' : Nums w .u8 w.heap.size A' n' c' l') (hs : n + n' ≤ 1000000000) :
    Calls Try.prog 33 #[.agg #[.slice A n c, .slice A' n' c']] w (GivesCopy l l' w) := by
  obtain ⟨W, hW⟩ : ∃ W : World, (w.alloc (.cells #[.slice A n c, .slice A' n' c'] 29)).alloc (.cells #[.slice none 0 0, .slice none 0 0] 29) = W := ⟨_, rfl⟩
  have k0 : W.cell? ⟨w.heap.size, 0, none⟩ = some (.slice A n c) := by rw [← hW]; simp [go_sem]
  have k1 : W.cell? ⟨w.heap.size, 1, none⟩ = some (.slice A' n' c') := by rw [← hW]; simp [go_sem]
  have hsz : W.heap.size = w.heap.size + 2 := by rw [← hW]; simp
  have hbW : Below w.heap.size w W := by rw [← hW]; exact ((Below.refl _ _).alloc (Nat.le_refl _) _).alloc (by simp) _
  have hbx : W.heap[w.heap.size + 1]? = some (.cells #[.slice none 0 0, .slice none 0 0] 29 (0, 0)) := by rw [← hW, show w.heap.size + 1 = (w.alloc (.cells #[.slice A n c, .slice A' n' c'] 29)).heap.size from by simp]; exact heap_alloc_new _ _
  have HN0 := Lib.hid (h.keep (B' := w.heap.size + 1) hbW (by omega))
  have HP0 := Lib.hid (h'.keep (B' := w.heap.size + 1) hbW (by omega))
  have HB := Lib.hid hbW
  have HZ := Lib.hid hsz
  have HS := Lib.hid hs
  have hx0 : (W.drew.alloc (.cells #[] 5)).heap[w.heap.size + 1]? = some (.cells #[.slice none 0 0, .slice none 0 0] 29 (0, 0)) := (heap_alloc_old _ _ (by have := HZ.out; simp; omega)).trans hbx
  have hx00 : ((W.drew.alloc (.cells #[] 5)).alloc (.cells #[] 5)).heap[w.heap.size + 1]? = some (.cells #[.slice none 0 0, .slice none 0 0] 29 (0, 0)) := (heap_alloc_old _ _ (by have := HZ.out; simp; omega)).trans hx0
  have kk0 : ∀ w', Below (w.heap.size + 1) W w' → w'.cell? ⟨w.heap.size, 0, none⟩ = some (.slice A n c) := fun w' hb => (World.cell?_of_block (hb.block _ (by simp))).trans k0
  have kk1 : ∀ w', Below (w.heap.size + 1) W w' → w'.cell? ⟨w.heap.size, 1, none⟩ = some (.slice A' n' c') := fun w' hb => (World.cell?_of_block (hb.block _ (by simp))).trans k1
  have hal1 : Below (w.heap.size + 1) W (W.drew.alloc (.cells #[] 5)) := Below.alloc (Below.drewN (Below.refl _ _) 1) (by have := HZ.out; simp; omega) _
  have hal11 : Below (w.heap.size + 1) W ((W.drew.alloc (.cells #[] 5)).alloc (.cells #[] 5)) := Below.alloc hal1 (by have := HZ.out; simp; omega) _
  clear h h' hs hbW hsz hbx
  go_enter Try.func33, Try.ntmps33
  go_wp2_with fail
  clear hW
  go_region_held3 (fun w' => Below (w.heap.size + 1) W w')
    (first | assumption | (exact Below.drewN (Below.refl _ _) 1) | (exact hbel6) | (exact hbel10) | (refine Below.alloc ?_ ?_ _ <;> first | assumption | exact Below.drewN (Below.refl _ _) 1 | (exact Below.alloc (Below.drewN (Below.refl _ _) 1) (by have := HZ.out; simp; omega) _) | (have := HZ.out; have hsz9 := Below.size (by assumption); simp at *; omega) | (have := HZ.out; simp; omega)) | (exact Below.setCell (Below.setCell (by assumption) (by simp) _) (by simp) _) | (exact Below.drewN (by assumption) 1))
    (first
      | (refine step_copy rfl (.tmp 3) (.tmp 5) _ rfl W.heap.size 5 1 .u8 byte_info Try.underlying22 _ rfl (by (try simp only [drew_heap]); first | exact heap_at rfl | (refine heap_at ?_ <;> (first | rfl | (simp; done) | (simp; omega) | omega)) | (refine (heap_alloc_old _ _ ?_).trans (heap_at ?_) <;> (first | rfl | (simp; done) | (simp; omega) | omega)) | (refine (hgrow10.block _ ?_ ?_).trans (heap_at ?_) <;> (first | rfl | (simp; done) | (simp; omega) | omega)) | (refine (hgrow10.block _ ?_ ?_).trans ((heap_alloc_old _ _ ?_).trans (heap_at ?_)) <;> (first | rfl | (simp; done) | (simp; omega) | omega))) (by first | exact Nat.le_refl _ | (simp; done) | (have hq9 := HZ.out; simp; omega) | exact Below.size hbel10 | (have hq8 := Below.size hbel10; simp; omega)) _ A n c l rfl (HN0.out.keep (by first | assumption | exact hal1 | exact hal11 | exact hbel10 | exact Below.alloc hbel10 (Nat.le_trans (by omega) (Below.size hbel10)) _) (Nat.le_refl _)) (by have := HS.out; simp only [maxLen]; omega) (by have := HS.out; omega) ?_; intro v6 w6 hown6 hgrow6 hblk6; have hbx6 := (hgrow6.block _ (heap_lt9 (by first | exact hx0 | exact hx00 | exact hbx10 | exact (heap_alloc_old _ _ (heap_lt9 hbx10)).trans hbx10)) (by simp)).trans (by first | exact hx0 | exact hx00 | exact hbx10 | exact (heap_alloc_old _ _ (heap_lt9 hbx10)).trans hbx10); have hbel6 : Below (w.heap.size + 1) W w6 := Below.grown (by first | assumption | exact hal1 | exact hal11 | exact hbel10 | exact Below.alloc hbel10 (Nat.le_trans (by omega) (Below.size hbel10)) _) hgrow6 (by have hq9 := HZ.out; first | (simp; omega) | omega | (have hq8 := Below.size hbel10; simp; omega) | (have hq8 := Below.size hbel10; omega)) (fun _ h => by cases h); obtain ⟨q26, q36, q46, q56, _⟩ := box4 hbx6 (Below.refl _ _); obtain ⟨A6, c6, rfl, _⟩ := hown6.nums HN0.out.wf)
      | (refine step_copy rfl (.tmp 7) (.tmp 9) _ rfl W.heap.size 5 1 .u8 byte_info Try.underlying22 _ rfl (by (try simp only [drew_heap]); first | exact heap_at rfl | (refine heap_at ?_ <;> (first | rfl | (simp; done) | (simp; omega) | omega)) | (refine (heap_alloc_old _ _ ?_).trans (heap_at ?_) <;> (first | rfl | (simp; done) | (simp; omega) | omega)) | (refine (hgrow6.block _ ?_ ?_).trans (heap_at ?_) <;> (first | rfl | (simp; done) | (simp; omega) | omega)) | (refine (hgrow6.block _ ?_ ?_).trans ((heap_alloc_old _ _ ?_).trans (heap_at ?_)) <;> (first | rfl | (simp; done) | (simp; omega) | omega))) (by first | exact Nat.le_refl _ | (simp; done) | (have hq9 := HZ.out; simp; omega) | exact Below.size hbel6 | (have hq8 := Below.size hbel6; simp; omega)) _ A' n' c' l' rfl (HP0.out.keep (by first | assumption | exact hal1 | exact hal11 | exact hbel6 | exact Below.alloc hbel6 (Nat.le_trans (by omega) (Below.size hbel6)) _) (Nat.le_refl _)) (by have := HS.out; simp only [maxLen]; omega) (by have := HS.out; omega) ?_; intro v10 w10 hown10 hgrow10 hblk10; have hbx10 := (hgrow10.block _ (heap_lt9 (by first | exact hx0 | exact hx00 | exact hbx6 | exact (heap_alloc_old _ _ (heap_lt9 hbx6)).trans hbx6)) (by simp)).trans (by first | exact hx0 | exact hx00 | exact hbx6 | exact (heap_alloc_old _ _ (heap_lt9 hbx6)).trans hbx6); have hbel10 : Below (w.heap.size + 1) W w10 := Below.grown (by first | assumption | exact hal1 | exact hal11 | exact hbel6 | exact Below.alloc hbel6 (Nat.le_trans (by omega) (Below.size hbel6)) _) hgrow10 (by have hq9 := HZ.out; first | (simp; omega) | omega | (have hq8 := Below.size hbel6; simp; omega) | (have hq8 := Below.size hbel6; omega)) (fun _ h => by cases h); obtain ⟨q210, q310, q410, q510, _⟩ := box4 hbx10 (Below.refl _ _); obtain ⟨A10, c10, rfl, _⟩ := hown10.nums HP0.out.wf)
      | fail)
  all_goals
    go_wp2
    refine bodyPost_ret (v := .agg #[.slice A6 l.length c6, .slice A10 l'.length c10]) (by simp [results, Try.results33, go_sem, *]) rfl ⟨_, _, rfl, ?_, ?_, ?_, ?_⟩
    · refine Own.base_le (base := W.heap.size) (Own.setCell (Own.setCell ?_ ?_ _) ?_ _) HB.out.size
      · first | exact hown6 | exact hown6.keptN hgrow10 | exact (hown6.alloc _).keptN hgrow10
      · have hq9 := HZ.out; simp; omega
      · have hq9 := HZ.out; simp; omega
    · refine Own.base_le (base := W.heap.size) (Own.setCell (Own.setCell ?_ ?_ _) ?_ _) HB.out.size
      · first | exact hown10 | exact hown10.keptN hgrow6 | exact (hown10.alloc _).keptN hgrow6
      · have hq9 := HZ.out; simp; omega
      · have hq9 := HZ.out; simp; omega
    · refine Below.setCell (Below.setCell (HB.out.trans (Below.mono ?_ (Nat.le_succ _))) ?_ _) ?_ _
      · first | exact hbel10 | exact hbel6
      · simp
      · simp
    · obtain ⟨b6, e6, hl6, hq6⟩ := hblk6
      obtain ⟨b10, e10, hl10, hq10⟩ := hblk10
      rw [e6, e10]
      have hs6 := hgrow6.size
      have hs10 := hgrow10.size
      have hq9 := HZ.out
      simp at hs6 hs10 hq6 hq10
      intro e9
      injection e9 with e9
      omega
end Go.Proofs.Ytjhdhnefoclccaa
