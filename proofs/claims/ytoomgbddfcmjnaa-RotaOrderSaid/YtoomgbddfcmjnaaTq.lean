/- Rota: what comparing two shifts leaves behind: new blocks alone. -/
import Derived.Test.YtoomgbddfcmjnaaTc
import Derived.Sort.Grow
namespace Go.Proofs.Ytoomgbddfcmjnaa
open Go.RowKit Go.Sort
/-- draws and new blocks, no more -/
def Grew (W w : World) : Prop := ∃ q os, w = grow (W.drewN q) os
theorem Grew.refl (W : World) : Grew W W := ⟨0, #[], by rw [grow_empty]; rfl⟩
theorem Grew.alloc {W w : World} (h : Grew W w) (o : Obj) : Grew W (w.alloc o) := by
  obtain ⟨q, os, rfl⟩ := h
  exact ⟨q, os ++ #[o], by rw [alloc_eq_grow, grow_grow]⟩
theorem Grew.drewN {W w : World} (h : Grew W w) (n : Nat) : Grew W (w.drewN n) := by
  obtain ⟨q, os, rfl⟩ := h
  exact ⟨q + n, os, by simp [World.drewN, grow, Nat.add_assoc]⟩
theorem Grew.drew {W w : World} (h : Grew W w) : Grew W w.drew := h.drewN 1
theorem Grew.trans {a b c : World} (h : Grew a b) (h' : Grew b c) : Grew a c := by
  obtain ⟨q, os, rfl⟩ := h
  obtain ⟨q', os', rfl⟩ := h'
  exact ⟨q + q', os ++ os', by simp [World.drewN, grow, Nat.add_assoc, Array.append_assoc]⟩
theorem Grew.below {W w : World} (h : Grew W w) : Below W.heap.size W w := by
  obtain ⟨q, os, rfl⟩ := h
  refine ⟨rfl, rfl, rfl, by show W.heap.size ≤ (W.heap ++ os).size; rw [Array.size_append]; omega, fun j hj => ?_⟩
  show (W.heap ++ os)[j]? = _
  rw [Array.getElem?_append_left hj]
theorem or_newX (a b : Int) (w : World) : Calls Try.prog 113 #[.slice (some ⟨w.heap.size, 0, none⟩) 2 2] (w.alloc (.cells #[.int .i64 a, .int .i64 b] 3)).drew fun e w' => e = .returned (.int .i64 (orI a b)) ∧ Grew w w' := by
  refine (cmp_or w.heap.size a b _ (by simp [go_sem]) (by simp [go_sem])).mono ?_
  rintro e w' ⟨rfl, rfl⟩
  exact ⟨rfl, ((Grew.refl w).alloc _).drew⟩
set_option maxHeartbeats 800000 in
theorem compareX36 (p : ByteArray) (f u : Int) (p' : ByteArray) (f' u' : Int) (w : World) :
    Calls Try.prog 64 #[.agg #[.string p, .int .i64 f, .int .i64 u], .agg #[.string p', .int .i64 f', .int .i64 u']] w fun e w' => e = .returned (.int .i64 (Sf.cmp ⟨p, f, u⟩ ⟨p', f', u'⟩)) ∧ Grew w w' := by
  obtain ⟨X, hX, HX⟩ := sf_boxB w p f u
  obtain ⟨W, hW, HW⟩ := sf_boxB X p' f' u'
  have hb : Grew w W := by rw [← hW, ← hX]; exact ((Grew.refl w).alloc _).alloc _
  have hxw := HX.out.2.keep HW.out.1
  have c0 : ∀ w', Grew W w' → w'.cell? ⟨w.heap.size, 0, none⟩ = some (.string p) := fun w' hb => (hb.below.cell hxw.lt).trans hxw.c0
  have c2 : ∀ w', Grew W w' → w'.cell? ⟨w.heap.size, 1, none⟩ = some (.int .i64 f) := fun w' hb => (hb.below.cell hxw.lt).trans hxw.c2
  have d0 : ∀ w', Grew W w' → w'.cell? ⟨X.heap.size, 0, none⟩ = some (.string p') := fun w' hb => (hb.below.cell HW.out.2.lt).trans HW.out.2.c0
  have d2 : ∀ w', Grew W w' → w'.cell? ⟨X.heap.size, 1, none⟩ = some (.int .i64 f') := fun w' hb => (hb.below.cell HW.out.2.lt).trans HW.out.2.c2
  have HB := Lib.hid hb
  clear hb hxw
  go_enter Try.func64, Try.ntmps64
  go_wp2_with fail
  first | rw [hW] | skip
  clear hX hW HX HW
  go_region_held3 (fun w' => Grew W w')
    (first | assumption | (exact Grew.refl _) | (exact (Grew.refl _).drewN 1) | (exact (Grew.refl _).drew) | (exact ((Grew.refl _).alloc _).drew) | (exact (Grew.drewN (by assumption) _)) | (exact Grew.trans (by assumption) (by assumption)))
    (first
      | (go_at_call 114; (with_reducible refine (cmp_int _ _ _).mono ?_); rintro e wz ⟨rfl, rfl⟩)
      | (go_at_call 115; (with_reducible refine (cmp_str _ _ _).mono ?_); rintro e wz ⟨rfl, rfl⟩)
      | (go_at_call 113; (with_reducible refine (or_newX _ _ _).mono ?_); rintro e wz ⟨rfl, hbz⟩))
  go_wp2_with fail
  go_ret
  exact ⟨rfl, HB.out.trans (by assumption)⟩
end Go.Proofs.Ytoomgbddfcmjnaa
