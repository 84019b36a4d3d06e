/- Whether a list ascends: lineage.Valid. -/
import Derived.Test.YtihgopiocjflcaaZs
import Derived.Test.YtihgopiocjflcaaGi
import Derived.Test.YtihgopiocjflcaaAft
import Derived.Deep.QuietTactic
import Derived.BigQuiet
import Derived.BigGuardPart
namespace Go.Proofs.Ytihgopiocjflcaa
open Go.RowKit
instance (l : List Int) : Decidable (Zs.Asc l) := inferInstanceAs (Decidable (l.Pairwise (· < ·)))
theorem Zs.asc_take_succ {l : List Int} {k : Nat} {x y : Int} (hx : l.getD (k - 1) 0 = x ∧ k - 1 < l.length) (hy : l.getD k 0 = y ∧ k < l.length) (hk : 1 ≤ k) (h : Zs.Asc (l.take k)) : Zs.Asc (l.take (k + 1)) ↔ x < y := by
  rw [take_succ_getD l k hy.2, hy.1]
  have hin : x ∈ l.take k := by
    rw [← hx.1]
    refine List.mem_iff_getElem.2 ⟨k - 1, by rw [List.length_take]; omega, ?_⟩
    rw [List.getElem_take]; simp [List.getD, List.getElem?_eq_getElem hx.2]
  have hle : ∀ z ∈ l.take k, z ≤ x := by
    intro z hz
    obtain ⟨i, hi, rfl⟩ := List.mem_iff_getElem.1 hz
    have hi' : i < k := by rw [List.length_take] at hi; omega
    have e : x = (l.take k)[k - 1]'(by rw [List.length_take]; omega) := by
      rw [List.getElem_take, ← hx.1]; simp [List.getD, List.getElem?_eq_getElem hx.2]
    by_cases hik : i = k - 1
    · subst hik; rw [← e]; exact Int.le_refl _
    · have := List.pairwise_iff_getElem.1 h i (k - 1) hi (by rw [List.length_take]; omega) (by omega)
      rw [← e] at this; omega
  constructor
  · intro h2
    exact (List.pairwise_append.1 h2).2.2 x hin y (by simp)
  · intro hxy
    refine List.pairwise_append.2 ⟨h, by simp, fun z hz w hw => ?_⟩
    obtain rfl := List.mem_singleton.1 hw
    have := hle z hz
    omega
set_option maxHeartbeats 400000 in
theorem valid_any (A : Option Addr) (n c : Nat) (l : List Int) (B : Nat) (w : World) (h : Nums w .i64 B A n c l) :
    Calls Try.prog 16 #[.slice A n c] w fun e w' => e = .returned (.bool (decide (Zs.Asc l))) ∧ Below w.heap.size w w' := by
  have H := Lib.hid h
  have hm : n ≤ 9223372036854775807 := by have := h.cap; have := h.max; unfold maxLen at this; omega
  have HL := Lib.hid h.len
  clear h
  go_enter Try.func16, Try.ntmps16
  go_wp2_with fail
  go_loopw [3] (fun i wr => ∃ k : Nat, 1 ≤ k ∧ (k ≤ n ∨ k = 1) ∧ i = .int .i64 k ∧ Hid (Zs.Asc (l.take k) ∧ ∃ m, wr = w.drewN m)) (fun i _ => n - (intOf i).toNat)
  case atStart =>
    refine ⟨1, by omega, by omega, rfl, ?_, 0, rfl⟩
    rcases l with _ | ⟨x, l⟩ <;> simp [Zs.Asc]
  case round =>
    obtain ⟨k, hk1, hkn, rfl, HI⟩ := hrel
    obtain ⟨m, hm2⟩ := HI.out.2
    have HA := Lib.hid HI.out.1
    clear HI
    subst hm2
    by_cases hlt : k < n
    · have hb := (below_drewN (Below.refl w.heap.size w) m)
      obtain ⟨ad, x, rfl, _, HX, hx, _⟩ := H.out.val (show k - 1 < n by omega)
      obtain ⟨ad', y, he, _, HY, hy, _⟩ := H.out.val hlt
      injection he with he
      subst he
      have hs := Zs.asc_take_succ HX.out HY.out hk1 HA.out
      have i1 : (1 : Int) ≤ k := by omega
      have i2 : (k : Int) < n := by omega
      have i5 : (k : Int) - 1 < n := by omega
      have i6 : (0 : Int) ≤ (k : Int) - 1 := by omega
      have i3 : ((k : Int) - 1).toNat = k - 1 := by omega
      have i4 : IntKind.i64.wrap ((k : Int) - 1) = (k : Int) - 1 := by simp [IntKind.wrap, IntKind.bits, IntKind.signed]; omega
      by_cases hxy : x < y
      · have hb2 : decide (y ≤ x) = false := by simp; omega
        have HS := Lib.hid (hs.2 hxy)
        clear hs hxy hkn
        go_wp2_with fail
        go_quiet (fail)
        go_wp2_with fail
        go_roundw
        case rel => exact ⟨k + 1, by omega, by omega, by go_num, HS.out, _, rfl⟩
        case measure => simp [intOf]; omega
      · have hb2 : decide (y ≤ x) = true := by simp; omega
        have HS := Lib.hid (fun h => hxy (hs.1 h))
        clear hs hxy hkn
        go_wp2_with fail
        go_quiet (fail)
        go_wp2_with fail
        go_ret
        refine ⟨retb ?_, below_drewN (below_drewN (Below.refl _ _) _) _⟩
        have : ¬ Zs.Asc l := fun h => HS.out (List.Pairwise.sublist (List.take_sublist _ _) h)
        simp [this]
    · have hlt' : ¬ (k : Int) < n := by omega
      have hfin : Zs.Asc l := by
        have := HA.out
        rwa [List.take_of_length_le (by have := HL.out; omega)] at this
      have HF := Lib.hid hfin
      clear hfin hlt hkn
      go_wp2_with fail
      go_ret
      exact ⟨retb (by simp [HF.out]), below_drewN (Below.refl _ _) _⟩
theorem valid15 (A : Option Addr) (n c : Nat) (l : List Int) (B : Nat) (w : World) (h : Nums w .i64 B A n c l) :
    Calls Try.prog 14 #[.slice A n c] w fun e w' => e = .returned (.bool (decide (Zs.Asc l))) ∧ Below w.heap.size w w' := by
  go_enter Try.func14, Try.ntmps14
  go_wp2_with fail
  refine (valid_any A n c l B w h).mono ?_; rintro e w1 ⟨rfl, hb⟩
  go_wp2_with fail
  go_ret
  exact ⟨rfl, hb⟩
end Go.Proofs.Ytihgopiocjflcaa
