/- Samples: contracts of the program's functions and the reference's. -/
import Derived.Test.YtjeeobaiibhbaaaBits
import Derived.Test.YtjeeobaiibhbaaaInts
import Derived.Test.YtjeeobaiibhbaaaOwn
import Derived.Test.YtjeeobaiibhbaaaAft
namespace Go.Proofs.Ytjeeobaiibhbaaa
open Go.RowKit
namespace Sm
def mixS (h : Nat) : Nat := ((h * 6364136223846793005 + 1442695040888963407) % 18446744073709551616) ^^^ ((h * 6364136223846793005 + 1442695040888963407) % 18446744073709551616) / 536870912
def mixN : Nat → Nat → Nat
  | 0, x => x
  | n + 1, x => mixS (mixN n x)
def start (s i : Int) : Nat := ((s * 2654435761 + i * 40503 + 97) % 18446744073709551616).toNat
def draw (s i : Int) : Nat := mixN 3 (start s i) / 4294967296
theorem xor_lt (a b : Nat) (ha : a < 18446744073709551616) (hb : b < 18446744073709551616) : a ^^^ b < 18446744073709551616 := Nat.xor_lt_two_pow (n := 64) ha hb
theorem mixS_lt (h : Nat) : mixS h < 18446744073709551616 := by
  unfold mixS; exact xor_lt _ _ (by omega) (by omega)
theorem start_lt (s i : Int) : start s i < 18446744073709551616 := by unfold start; omega
theorem mixN_lt (n x : Nat) (hx : x < 18446744073709551616) : mixN n x < 18446744073709551616 := by
  cases n with
  | zero => exact hx
  | succ n => exact mixS_lt _
theorem draw_lt (s i : Int) : draw s i < 4294967296 := by
  have := mixN_lt 3 _ (start_lt s i); unfold draw; omega
theorem start_wrap (s i : Int) : IntKind.u64.wrap (IntKind.u64.wrap (IntKind.u64.wrap (IntKind.u64.wrap s * 2654435761) + IntKind.u64.wrap (IntKind.u64.wrap i * 40503)) + 97) = ((start s i : Nat) : Int) := by
  simp only [IntKind.wrap_u64]; unfold start; omega
theorem mix_wrap (h : Nat) :
    bits .xor .u64 (IntKind.u64.wrap (IntKind.u64.wrap ((h : Int) * 6364136223846793005) + 1442695040888963407)) (IntKind.u64.wrap (IntKind.u64.wrap ((h : Int) * 6364136223846793005) + 1442695040888963407) / 536870912) = ((mixS h : Nat) : Int) := by
  have e : IntKind.u64.wrap (IntKind.u64.wrap ((h : Int) * 6364136223846793005) + 1442695040888963407) = (((h * 6364136223846793005 + 1442695040888963407) % 18446744073709551616 : Nat) : Int) := by
    simp only [IntKind.wrap_u64]; omega
  rw [e]
  exact xorShift_u64 _ 536870912 (by omega)
def ok (p o s : Int) : Bool := decide (1 ≤ o ∧ o ≤ 1000 ∧ 1 ≤ p ∧ p ≤ o ∧ 0 ≤ s ∧ s ≤ 1099511627776)
def code (p o s : Int) : Int := if ok p o s then 0 else 2
def inS (p o s id : Int) : Bool := ok p o s && decide (1 ≤ id ∧ id ≤ 1048575) && decide ((draw s id : Int) % o < p)
end Sm
theorem draw11 (s i : Int) (w : World) :
    Calls Try.prog 21 #[.int .i64 s, .int .i64 i] w fun e w' => e = .returned (.int .i64 (Sm.draw s i)) ∧ w = w' := by
  go_enter Try.func21, Try.ntmps21
  go_wp2_with fail
  go_loop [5, 14] (fun x k => ∃ n : Nat, n ≤ 3 ∧ k = .int .i64 n ∧ x = .int .u64 (Sm.mixN n (Sm.start s i) : Nat)) (fun _ k => 3 - (intOf k).toNat)
  case atStart => exact ⟨0, by omega, rfl, by rw [Sm.start_wrap]; rfl⟩
  case round =>
    obtain ⟨n, hn, rfl, rfl⟩ := hrel
    by_cases hlt : n < 3
    · go_wp2_with fail
      go_round
      case rel => exact ⟨n + 1, by omega, by go_num, congrArg (Value.int .u64) (Sm.mix_wrap _)⟩
      case measure => simp [intOf]; omega
    · obtain rfl : n = 3 := by omega
      have hx := Sm.mixN_lt 3 _ (Sm.start_lt s i)
      go_wp2
      go_ret
      exact ⟨rfl, rfl⟩
theorem rdraw11 (s i : Int) (w : World) :
    Calls Try.prog 22 #[.int .i64 s, .int .i64 i] w fun e w' => e = .returned (.int .i64 (Sm.draw s i)) ∧ w = w' := by
  go_enter Try.func22, Try.ntmps22
  go_wp2_with fail
  go_loop [5, 6] (fun x k => ∃ n : Nat, n ≤ 3 ∧ k = .int .i64 n ∧ x = .int .u64 (Sm.mixN n (Sm.start s i) : Nat)) (fun _ k => 3 - (intOf k).toNat)
  case atStart => exact ⟨0, by omega, rfl, by rw [Sm.start_wrap]; rfl⟩
  case round =>
    obtain ⟨n, hn, rfl, rfl⟩ := hrel
    by_cases hlt : n < 3
    · go_wp2_with fail
      go_round
      case rel => exact ⟨n + 1, by omega, by go_num, congrArg (Value.int .u64) (Sm.mix_wrap _)⟩
      case measure => simp [intOf]; omega
    · obtain rfl : n = 3 := by omega
      have hx := Sm.mixN_lt 3 _ (Sm.start_lt s i)
      go_wp2
      go_ret
      exact ⟨rfl, rfl⟩
theorem check11 (p o s : Int) (w : World) :
    Calls Try.prog 14 #[.agg #[.int .i64 p, .int .i64 o, .int .i64 s]] w fun e w' => e = .returned (.int .i64 (Sm.code p o s)) ∧ w' = w.alloc (.cells #[.int .i64 p, .int .i64 o, .int .i64 s] 23) := by
  go_enter Try.func14, Try.ntmps14
  go_wp2
  all_goals
    go_ret
    first
      | exact ⟨ret_int (show (0 : Int) = _ by unfold Sm.code; rw [if_pos (by simp [Sm.ok]; omega)]), rfl⟩
      | exact ⟨ret_int (show (2 : Int) = _ by unfold Sm.code; rw [if_neg (by simp [Sm.ok]; omega)]), rfl⟩
theorem rcheck11 (p o s : Int) (w : World) :
    Calls Try.prog 15 #[.agg #[.int .i64 p, .int .i64 o, .int .i64 s]] w fun e w' => e = .returned (.int .i64 (Sm.code p o s)) ∧ w' = w.alloc (.cells #[.int .i64 p, .int .i64 o, .int .i64 s] 23) := by
  go_enter Try.func15, Try.ntmps15
  go_wp2
  all_goals
    go_ret
    first
      | exact ⟨ret_int (show (0 : Int) = _ by unfold Sm.code; rw [if_pos (by simp [Sm.ok]; omega)]), rfl⟩
      | exact ⟨ret_int (show (2 : Int) = _ by unfold Sm.code; rw [if_neg (by simp [Sm.ok]; omega)]), rfl⟩
theorem check11_v (p o s v : Int) (hv : Hid (Sm.code p o s = v)) (w : World) :
    Calls Try.prog 14 #[.agg #[.int .i64 p, .int .i64 o, .int .i64 s]] w fun e w' => e = .returned (.int .i64 v) ∧ Below w.heap.size w w' :=
  (check11 p o s w).mono fun _ _ ⟨he, hw⟩ => ⟨by rw [he, hv.out], by rw [hw]; exact (Below.refl _ _).alloc (Nat.le_refl _) _⟩
theorem in11 (p o s id : Int) (w : World) :
    Calls Try.prog 16 #[.agg #[.int .i64 p, .int .i64 o, .int .i64 s], .int .i64 id] w fun e w' => e = .returned (.bool (Sm.inS p o s id)) ∧ Below w.heap.size w w' := by
  obtain ⟨W, hW⟩ : ∃ W : World, w.alloc (.cells #[.int .i64 p, .int .i64 o, .int .i64 s] 23) = W := ⟨_, rfl⟩
  have c0 : W.cell? ⟨w.heap.size, 0, none⟩ = some (.int .i64 p) := by rw [← hW]; simp [go_sem]
  have c1 : W.cell? ⟨w.heap.size, 1, none⟩ = some (.int .i64 o) := by rw [← hW]; simp [go_sem]
  have c2 : W.cell? ⟨w.heap.size, 2, none⟩ = some (.int .i64 s) := by rw [← hW]; simp [go_sem]
  have hb : Below w.heap.size w W := by rw [← hW]; exact (Below.refl _ _).alloc (Nat.le_refl _) _
  have d0 := Aft.cell c0
  have d1 := Aft.cell c1
  have d2 := Aft.cell c2
  have HB := Lib.hid hb
  clear hb c0 c1 c2
  by_cases hok : Sm.ok p o s = true
  · have hif : Sm.code p o s = 0 := by unfold Sm.code; rw [if_pos hok]
    have ho : 1 ≤ o ∧ o ≤ 1000 := by simp [Sm.ok] at hok; omega
    have HI := Lib.hid hif
    by_cases h1 : 1 ≤ id
    · by_cases h2 : id ≤ 1048575
      · have hf : Sm.inS p o s id = decide ((Sm.draw s id : Int) % o < p) := by simp [Sm.inS, hok, h1, h2]
        have HF := Lib.hid hf
        have hd := Sm.draw_lt s id
        have o1 := ho.1
        have o2 := ho.2
        clear hf hif hok ho
        go_enter Try.func16, Try.ntmps16
        go_wp2_with fail
        clear hW
        refine wp_region_aft (by kernel_rfl) (by kernel_rfl) ?_
        repeat (go_big_quiet_step (first | exact Calls.aft (check11_v p o s 0 HI _) | exact Calls.aft_same (draw11 s id _)))
        refine wpQuiet_nil ?_
        rintro _ ⟨⟨W1, hb1⟩, rfl⟩
        have HB1 := Lib.hid hb1
        clear hb1
        go_wp2
        go_ret
        exact ⟨retb HF.out.symm, HB.out.trans (HB1.out.mono HB.out.size)⟩
      · have hf : Sm.inS p o s id = false := by simp [Sm.inS, h1, h2]
        have HF := Lib.hid hf
        have g1 : decide (1 ≤ id) = true := by simpa using h1
        have g2 : decide (id ≤ 1048575) = false := by simpa using h2
        clear hf hif hok ho h1 h2
        go_enter Try.func16, Try.ntmps16
        go_wp2_with fail
        clear hW
        refine wp_region_aft (by kernel_rfl) (by kernel_rfl) ?_
        repeat (go_big_quiet_step (first | exact Calls.aft (check11_v p o s 0 HI _) | exact Calls.aft_same (draw11 s id _)))
        refine wpQuiet_nil ?_
        rintro _ ⟨⟨W1, hb1⟩, rfl⟩
        have HB1 := Lib.hid hb1
        clear hb1
        go_wp2
        go_ret
        exact ⟨retb HF.out.symm, HB.out.trans (HB1.out.mono HB.out.size)⟩
    · have hf : Sm.inS p o s id = false := by simp [Sm.inS, h1]
      have HF := Lib.hid hf
      have g1 : decide (1 ≤ id) = false := by simpa using h1
      clear hf hif hok ho h1
      go_enter Try.func16, Try.ntmps16
      go_wp2_with fail
      clear hW
      refine wp_region_aft (by kernel_rfl) (by kernel_rfl) ?_
      repeat (go_big_quiet_step (first | exact Calls.aft (check11_v p o s 0 HI _) | exact Calls.aft_same (draw11 s id _)))
      refine wpQuiet_nil ?_
      rintro _ ⟨⟨W1, hb1⟩, rfl⟩
      have HB1 := Lib.hid hb1
      clear hb1
      go_wp2
      go_ret
      exact ⟨retb HF.out.symm, HB.out.trans (HB1.out.mono HB.out.size)⟩
  · have hif : Sm.code p o s = 2 := by unfold Sm.code; rw [if_neg hok]
    have hf : Sm.inS p o s id = false := by simp [Sm.inS, hok]
    have HF := Lib.hid hf
    have HI := Lib.hid hif
    clear hf hif hok
    go_enter Try.func16, Try.ntmps16
    go_wp2_with fail
    clear hW
    refine wp_region_aft (by kernel_rfl) (by kernel_rfl) ?_
    repeat (go_big_quiet_step (first | exact Calls.aft (check11_v p o s 2 HI _) | exact Calls.aft_same (draw11 s id _)))
    refine wpQuiet_nil ?_
    rintro _ ⟨⟨W1, hb1⟩, rfl⟩
    have HB1 := Lib.hid hb1
    clear hb1
    go_wp2
    go_ret
    exact ⟨retb HF.out.symm, HB.out.trans (HB1.out.mono HB.out.size)⟩
end Go.Proofs.Ytjeeobaiibhbaaa
