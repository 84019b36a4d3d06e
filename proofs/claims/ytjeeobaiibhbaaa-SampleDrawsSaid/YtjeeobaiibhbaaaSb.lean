/- Samples: the walks of the laws. -/
import Derived.Test.YtjeeobaiibhbaaaSa
namespace Go.Proofs.Ytjeeobaiibhbaaa
open Go.RowKit
theorem Sm.Fits.ok {p o s : Int} (h : Sm.Fits p o s) : Sm.ok p o s = true := by unfold Sm.Fits at h; simp [Sm.ok]; omega
theorem Sm.Fits.inS {p o s id : Int} (h : Sm.Fits p o s) (h1 : 1 ≤ id) (h2 : id ≤ 1048575) : Sm.inS p o s id = decide ((Sm.draw s id : Int) % o < p) := by simp [Sm.inS, h.ok, h1, h2]
theorem Sm.inS_far {p o s id : Int} (h : id < 1 ∨ 1048575 < id) : Sm.inS p o s id = false := by
  unfold Sm.inS
  rw [show decide (1 ≤ id ∧ id ≤ 1048575) = false from by simp; omega]
  simp
set_option maxRecDepth 100000 in
set_option maxHeartbeats 400000 in
theorem walkMeans (w : World) (p : Int) (_ : -9223372036854775808 ≤ p) (_ : p ≤ 9223372036854775807) (o : Int) (_ : -9223372036854775808 ≤ o) (_ : o ≤ 9223372036854775807) (s : Int) (hs : -9223372036854775808 ≤ s) (hs' : s ≤ 9223372036854775807)
    (t : Int) (ht : 0 ≤ t) (ht' : t ≤ 65535) (id : Int) (hi : 0 ≤ id) (hi' : id ≤ 65535) :
    Calls Try.prog 6 #[.agg #[.int .i64 p, .int .i64 o, .int .i64 s], .int .u16 t, .int .u16 id] w fun e w' => e = .returned (.bool true) ∧ Below w.heap.size w w' := by
  go_enter Try.func6, Try.ntmps6
  go_wp2_with fail
  refine (limited11 p o s t hs hs' ht ht' _).mono ?_; rintro e w1 ⟨P, O, S, hfit, rfl, hb1⟩
  have HF := Lib.hid hfit
  have HB1 := Lib.hid ((Below.refl w.heap.size w).alloc (Nat.le_refl _) (.cells #[.int .i64 p, .int .i64 o, .int .i64 s] 23) |>.trans (hb1.mono (by simp)))
  clear hfit hb1
  go_wp2_with fail
  refine (draw11 _ _ _).mono ?_; rintro e w' ⟨rfl, rfl⟩
  go_wp2_with fail
  obtain ⟨W, hW⟩ : ∃ W : World, w1.alloc (.cells #[.int .i64 P, .int .i64 O, .int .i64 S] 23) = W := ⟨_, rfl⟩
  have d0 := Aft.cell (w := W) (p := ⟨w1.heap.size, 0, none⟩) (v := .int .i64 P) (by rw [← hW]; simp [go_sem])
  have d1 := Aft.cell (w := W) (p := ⟨w1.heap.size, 1, none⟩) (v := .int .i64 O) (by rw [← hW]; simp [go_sem])
  have d2 := Aft.cell (w := W) (p := ⟨w1.heap.size, 2, none⟩) (v := .int .i64 S) (by rw [← hW]; simp [go_sem])
  have HBW := Lib.hid (show Below w.heap.size w W by rw [← hW]; exact HB1.out.alloc HB1.out.size _)
  rw [hW]
  clear hW
  have hd := Sm.draw_lt S (1 + id)
  have o1 : 1 ≤ O := by have := HF.out; unfold Sm.Fits at this; omega
  have o2 : O ≤ 9 := by have := HF.out; unfold Sm.Fits at this; omega
  have k1 : Sm.inS P O S (1 + id) = decide ((Sm.draw S (1 + id) : Int) % O < P) := HF.out.inS (by omega) (by omega)
  have k2 : Sm.inS P O S (-(1 + id)) = false := Sm.inS_far (by omega)
  have k3 : Sm.inS P O S (1048575 + (1 + id)) = false := Sm.inS_far (by omega)
  have K1 := Lib.hid k1
  have K2 := Lib.hid k2
  have K3 := Lib.hid k3
  generalize Sm.draw S (1 + id) = d at *
  have f1 : decide (0 ≤ (d : Int)) = true := by simp
  have f2 : decide ((d : Int) < 4294967296) = true := by simp; omega
  clear k1 k2 k3 hd
  refine wp_region_aft (by kernel_rfl) (by kernel_rfl) ?_
  repeat (go_big_quiet_step (first | with_reducible exact Calls.aft (in_lit P O S (1 + id) _ K1.out _) | with_reducible exact Calls.aft (in_lit P O S _ _ K2.out _) | with_reducible exact Calls.aft (in_lit P O S _ _ K3.out _) | with_reducible exact Calls.aft (awake11 _)))
  refine wpQuiet_nil ?_
  rintro _ ⟨⟨W1, hb⟩, rfl⟩
  have HBE := Lib.hid hb
  clear hb
  go_wp2
  go_ret
  exact ⟨rfl, HBW.out.trans (HBE.out.mono HBW.out.size)⟩
end Go.Proofs.Ytjeeobaiibhbaaa
