/- Approvals: names and numbers that are drawn. -/
import Derived.Test.YtoomgbddfcmjnaaAe
import Derived.Test.YtoomgbddfcmjnaaRn
import Derived.Test.YtoomgbddfcmjnaaStr
namespace Go.Proofs.Ytoomgbddfcmjnaa
open Go.RowKit
def Given (n : Nat) (w : World) (e : Ending) (w' : World) : Prop := ∃ s, e = .returned (.string s) ∧ s = strOfNums [48 + (n : Int)] ∧ Below w.heap.size w w'
set_option maxHeartbeats 400000 in
set_option maxRecDepth 100000 in
theorem decimal24 (n : Nat) (hn : n < 10) (w : World) : Calls Try.prog 77 #[.int .i64 n] w (Given n w) := by
  have g0 : decide ((n : Int) < 0) = false := decide_eq_false (by omega)
  have g1 : decide ((n : Int) < 10) = true := decide_eq_true (by omega)
  obtain ⟨X, hX⟩ : ∃ X : World, w.alloc (.cells #[.int .u8 (48 + (n : Int))] 5) = X := ⟨_, rfl⟩
  have HB := Lib.hid (show Below w.heap.size w X by rw [← hX]; exact (Below.refl _ _).alloc (Nat.le_refl _) _)
  have hN : Nums X .u8 X.heap.size (some ⟨w.heap.size, 0, none⟩) 1 1 [48 + (n : Int)] := by
    refine ⟨rfl, Nat.le_refl _, by simp [maxLen], fun _ => ⟨_, rfl, by rw [← hX]; simp, fun j hj => ?_⟩, fun x hx => ?_, fun h => by cases h⟩
    · obtain rfl : j = 0 := by omega
      rw [← hX]; simp [go_sem, Addr.add]
    · rw [List.mem_singleton] at hx
      subst hx
      rcases (show n = 0 ∨ n = 1 ∨ n = 2 ∨ n = 3 ∨ n = 4 ∨ n = 5 ∨ n = 6 ∨ n = 7 ∨ n = 8 ∨ n = 9 by omega) with rfl | rfl | rfl | rfl | rfl | rfl | rfl | rfl | rfl | rfl <;> decide
  have hs := hN.str 22 9 5 Try.underlying22 Try.underlying5 Try.underlying9 (P := Try.prog)
  clear hN
  go_enter Try.func77, Try.ntmps77
  go_wp2_with fail
  all_goals (go_ret; exact ⟨_, rfl, rfl, HB.out⟩)
def GivesStr (base g : Nat) (w : World) (e : Ending) (w' : World) : Prop := ∃ s, e = .returned (.string s) ∧ Cod w' base g ∧ w.grownBy w' (some g)
set_option maxHeartbeats 400000 in
theorem name9 (base g : Nat) (w : World) (h : Cod w base g) : Calls Try.prog 20 #[.pointer (some ⟨g, 0, none⟩)] w (GivesStr base g w) := by
  obtain ⟨X, hX⟩ : ∃ X : World, w.alloc (.cells #[.string ⟨#[97, 110, 110]⟩, .string ⟨#[98, 111, 98]⟩, .string ⟨#[99, 121, 100]⟩, .string ⟨#[100, 97, 110]⟩, .string ⟨#[101, 118, 101]⟩] 9) = X := ⟨_, rfl⟩
  have hb1 : Below w.heap.size w X := by rw [← hX]; exact below_one _
  have hh : X.heap[w.heap.size]? = some (.cells #[.string ⟨#[97, 110, 110]⟩, .string ⟨#[98, 111, 98]⟩, .string ⟨#[99, 121, 100]⟩, .string ⟨#[100, 97, 110]⟩, .string ⟨#[101, 118, 101]⟩] 9 (0, 0)) := by rw [← hX]; exact heap_alloc_new _ _
  have hgl := h.lt.1
  have hc := h.below hb1
  go_enter Try.func20, Try.ntmps20
  go_wp2_with fail
  refine (next_any 5 (by decide) (by decide) base g X hc).mono ?_; rintro e w2 ⟨k, rfl, hk0, hk1, _, hc2, hg2⟩
  have hk1 := hk1 (by decide)
  obtain ⟨k, rfl⟩ := Int.eq_ofNat_of_zero_le hk0
  have HC := Lib.hid hc2
  have HB := Lib.hid ((grownBy_of_below hb1 (some g)).trans hg2)
  have h2 : w2.heap[w.heap.size]? = some (.cells #[.string ⟨#[97, 110, 110]⟩, .string ⟨#[98, 111, 98]⟩, .string ⟨#[99, 121, 100]⟩, .string ⟨#[100, 97, 110]⟩, .string ⟨#[101, 118, 101]⟩] 9 (0, 0)) := by
    rw [hg2.block w.heap.size (Array.getElem?_eq_some_iff.1 hh).1 (fun e => by injection e with e; omega)]
    exact hh
  clear hX hb1 hh hc hc2 hg2 hk0 h
  rcases (show k = 0 ∨ k = 1 ∨ k = 2 ∨ k = 3 ∨ k = 4 by omega) with rfl | rfl | rfl | rfl | rfl
  · have c0 : w2.cell? ⟨w.heap.size, 0, none⟩ = some (.string ⟨#[97, 110, 110]⟩) := by simp [World.cell?, h2]
    go_wp2_with fail
    go_ret
    exact ⟨_, rfl, HC.out, HB.out⟩
  · have c0 : w2.cell? ⟨w.heap.size, 1, none⟩ = some (.string ⟨#[98, 111, 98]⟩) := by simp [World.cell?, h2]
    go_wp2_with fail
    go_ret
    exact ⟨_, rfl, HC.out, HB.out⟩
  · have c0 : w2.cell? ⟨w.heap.size, 2, none⟩ = some (.string ⟨#[99, 121, 100]⟩) := by simp [World.cell?, h2]
    go_wp2_with fail
    go_ret
    exact ⟨_, rfl, HC.out, HB.out⟩
  · have c0 : w2.cell? ⟨w.heap.size, 3, none⟩ = some (.string ⟨#[100, 97, 110]⟩) := by simp [World.cell?, h2]
    go_wp2_with fail
    go_ret
    exact ⟨_, rfl, HC.out, HB.out⟩
  · have c0 : w2.cell? ⟨w.heap.size, 4, none⟩ = some (.string ⟨#[101, 118, 101]⟩) := by simp [World.cell?, h2]
    go_wp2_with fail
    go_ret
    exact ⟨_, rfl, HC.out, HB.out⟩
end Go.Proofs.Ytoomgbddfcmjnaa
