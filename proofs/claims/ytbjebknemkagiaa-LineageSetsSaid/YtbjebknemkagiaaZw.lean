/- Lists of ints: slices.Index, slices.Contains, lineage.Has; few numbers; the reference's Put and Of. -/
import Derived.Test.YtbjebknemkagiaaInts
import Derived.Test.YtbjebknemkagiaaZi
import Derived.Test.YtbjebknemkagiaaZs
namespace Go.Proofs.Ytbjebknemkagiaa
open Go.RowKit
/-- a place of a list, if it has the number -/
def GivesPlace (l : List Int) (k : Int) (w : World) (e : Ending) (w' : World) : Prop := ∃ i : Int, e = .returned (.int .i64 i) ∧ (0 ≤ i ↔ k ∈ l) ∧ w = w'
theorem index_any (A : Option Addr) (n c : Nat) (l : List Int) (k : Int) (B : Nat) (w : World) (h : Nums w .i64 B A n c l) :
    Calls Try.prog 58 #[.slice A n c, .int .i64 k] w (GivesPlace l k w) := by
  have hm : n ≤ 9223372036854775807 := by have := h.cap; have := h.max; unfold maxLen at this; omega
  have H := Lib.hid h
  have HL := Lib.hid h.len
  clear h
  go_enter Try.func58, Try.ntmps58
  go_wp2_with fail
  go_loop [5, 8] (fun _ i => ∃ j : Nat, j ≤ n ∧ i = .int .i64 j ∧ Hid (k ∉ l.take j)) (fun _ i => n - (intOf i).toNat)
  case atStart => exact ⟨0, by omega, rfl, Lib.hid (by simp)⟩
  case round =>
    obtain ⟨j, hj, rfl, HN⟩ := hrel
    by_cases hlt : j < n
    · obtain ⟨ad, x, rfl, _, HX, hx, _⟩ := H.out.val hlt
      by_cases he : k = x
      · have hb : (k == x) = true := by simpa using he
        have HE := Lib.hid he
        clear he
        go_wp2
        go_ret
        refine ⟨j, rfl, ?_, rfl⟩
        have := getD_mem HX.out
        rw [HE.out]
        exact ⟨fun _ => this, fun _ => by omega⟩
      · have hb : (k == x) = false := by simpa using he
        have HE := Lib.hid he
        clear he
        go_wp2
        go_round
        case rel => exact ⟨j + 1, by omega, by go_num, Lib.hid fun e => ((mem_take_succ HX.out).1 e).elim HN.out fun e => HE.out e⟩
        case measure => simp [intOf]; omega
    · obtain rfl : j = n := by omega
      go_wp2
      go_ret
      refine ⟨-1, rfl, ?_, rfl⟩
      have := HN.out
      rw [take_len HL.out] at this
      simp [this]
theorem contains_any (A : Option Addr) (n c : Nat) (l : List Int) (k : Int) (B : Nat) (w : World) (h : Nums w .i64 B A n c l) :
    Calls Try.prog 40 #[.slice A n c, .int .i64 k] w fun e w' => e = .returned (.bool (decide (k ∈ l))) ∧ w = w' := by
  go_enter Try.func40, Try.ntmps40
  go_wp2_with fail
  refine (index_any A n c l k B w h).mono ?_; rintro e w1 ⟨i, rfl, hi, rfl⟩
  have HI := Lib.hid hi
  clear hi h
  go_wp2_with fail
  go_ret
  refine ⟨retb ?_, rfl⟩
  rw [Bool.eq_iff_iff]
  simp [HI.out]
theorem has15 (A : Option Addr) (n c : Nat) (l : List Int) (k : Int) (B : Nat) (w : World) (h : Nums w .i64 B A n c l) :
    Calls Try.prog 23 #[.slice A n c, .int .i64 k] w fun e w' => e = .returned (.bool (decide (k ∈ l))) ∧ w = w' := by
  go_enter Try.func23, Try.ntmps23
  go_wp2_with fail
  refine (contains_any A n c l k B w h).mono ?_; rintro e w1 ⟨rfl, rfl⟩
  go_wp2_with fail
  go_ret
  exact ⟨rfl, rfl⟩
theorem map_take_succ (f : Int → Int) {l : List Int} {j : Nat} {x : Int} (h : l.getD j 0 = x ∧ j < l.length) : (l.take (j + 1)).map f = (l.take j).map f ++ [f x] := by
  rw [take_succ_getD l j h.2, h.1, List.map_append]; rfl
def Zs.few (l : List Int) : List Int := (l.take 40).map (· % 12)
set_option maxHeartbeats 400000 in
theorem few15 (A : Option Addr) (n c : Nat) (l : List Int) (w : World) (h : Nums w .u8 w.heap.size A n c l) :
    Calls Try.prog 11 #[.slice A n c] w (GivesInts (Zs.few l) w) := by
  have H := Lib.hid h
  have hm : n ≤ 9223372036854775807 := by have := h.cap; have := h.max; unfold maxLen at this; omega
  clear h
  go_enter Try.func11, Try.ntmps11
  go_wp2_with fail
  go_loopw [3, 4] (fun v i wr => ∃ j : Nat, j ≤ n ∧ j ≤ 40 ∧ i = .int .i64 j ∧ Hid (Own wr w.heap.size 3 .i64 v ((l.take j).map (· % 12)) ∧ Below w.heap.size w wr)) (fun _ i _ => n - (intOf i).toNat)
  case atStart => exact ⟨0, by omega, by omega, rfl, ⟨by simpa using Own.nil _ _ _ _, Below.refl _ _⟩⟩
  case round =>
    obtain ⟨j, hj, hj40, rfl, HI⟩ := hrel
    by_cases hlt : j < n ∧ j < 40
    · obtain ⟨h1, h2⟩ := hlt
      have h1' : (j : Int) < n := by omega
      have h2' : (j : Int) < 40 := by omega
      obtain ⟨ad, x, rfl, _, HX, hx, hwx⟩ := (H.out.keep HI.out.2 HI.out.2.size).val h1
      have hx0 := bounds_u8 hwx
      have hlen := Lib.hid (show ((l.take j).map (· % 12)).length ≤ 1000 by rw [List.length_map, List.length_take]; omega)
      have HS := Lib.hid (map_take_succ (· % 12) HX.out)
      clear hwx
      go_wp2_with (at_builtin; refine app_int _ rfl (.tmp 15) (.tmp 22) _ rfl w.heap.size 3 8 .i64 int_info Try.underlying26 u3 _ rfl (HI.out.1.alloc _) (x % 12) _ rfl (by simp [go_sem]) (by have := hlen.out; simp only [maxLen]; omega) (by have := hlen.out; omega) (by have := HI.out.2.size; simp; omega) ?_; intro v' w' hown' hgrow)
      go_roundw
      case rel =>
        exact ⟨j + 1, by omega, by omega, by go_num, ⟨by rw [HS.out]; exact hown', (HI.out.1.alloc _).grow (HI.out.2.alloc HI.out.2.size _) hgrow (by have := HI.out.2.size; simp; omega) (Nat.le_refl _)⟩⟩
      case measure => simp [intOf]; omega
    · have hfin := HI.out.1
      have e : (l.take j).map (· % 12) = Zs.few l := by
        unfold Zs.few
        rcases Nat.lt_or_ge j n with h | h
        · obtain rfl : j = 40 := by omega
          rfl
        · have hl := H.out.len
          rw [List.take_of_length_le (show l.length ≤ j by omega), List.take_of_length_le (show l.length ≤ 40 by omega)]
      rw [e] at hfin
      have HF := Lib.hid hfin
      clear hfin e
      by_cases h1 : (j : Int) < n
      · have h2 : ¬ (j : Int) < 40 := by omega
        clear hlt
        go_wp2_with fail
        go_ret
        exact ⟨_, rfl, HF.out, HI.out.2⟩
      · clear hlt
        go_wp2_with fail
        go_ret
        exact ⟨_, rfl, HF.out, HI.out.2⟩
end Go.Proofs.Ytbjebknemkagiaa
