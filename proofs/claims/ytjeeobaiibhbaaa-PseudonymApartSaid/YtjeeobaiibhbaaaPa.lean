/- Pseudonyms: different persons have different keys. -/
import Derived.Test.YtjeeobaiibhbaaaPr
import Derived.Test.YtjeeobaiibhbaaaInts
import Derived.Test.YtjeeobaiibhbaaaOwn
namespace Go.Proofs.Ytjeeobaiibhbaaa
open Go.RowKit
theorem Ps.keyN_inj {s a b : Nat} (ha : a < 1048576) (hb : b < 1048576) (h : Ps.keyN s a = Ps.keyN s b) : a = b := by
  rw [← Ps.id_key s a ha, ← Ps.id_key s b hb, h]
/-- the keys of some persons, each one's number at most m -/
def Ps.KeysUpto (s m : Nat) (keys : List Int) : Prop := ∃ ids : List Nat, keys = ids.map (fun a => (Ps.keyN s a : Int)) ∧ ∀ a ∈ ids, a ≤ m
theorem Ps.KeysUpto.fresh {s m m' : Nat} {keys : List Int} (h : Ps.KeysUpto s m keys) (hm : m < m') (hm' : m' < 1048576) : (Ps.keyN s m' : Int) ∉ keys := by
  obtain ⟨ids, rfl, hi⟩ := h
  intro hx
  obtain ⟨a, ha, e⟩ := List.mem_map.1 hx
  have := hi a ha
  have := Ps.keyN_inj (s := s) (a := a) (b := m') (by omega) hm' (by omega)
  omega
theorem Ps.KeysUpto.more {s m m' : Nat} {keys : List Int} (h : Ps.KeysUpto s m keys) (hm : m ≤ m') : Ps.KeysUpto s m' (keys ++ [(Ps.keyN s m' : Int)]) := by
  obtain ⟨ids, rfl, hi⟩ := h
  refine ⟨ids ++ [m'], by simp, ?_⟩
  intro a ha
  rcases List.mem_append.1 ha with h | h
  · have := hi a h; omega
  · simp at h; omega
theorem Ps.KeysUpto.wf {s m : Nat} {keys : List Int} (h : Ps.KeysUpto s m keys) (hm : m < 1048576) : ∀ x ∈ keys, (Lit.int .i64 x).wf = true := by
  obtain ⟨ids, rfl, hi⟩ := h
  intro x hx
  obtain ⟨a, ha, rfl⟩ := List.mem_map.1 hx
  have := hi a ha
  have := Ps.keyN_lt s a (by omega)
  exact WalkArith.wf_i64 (by omega)
theorem int_info : (Try.prog.info? 3).map (fun i => (i.zero, i.size, i.bytes)) = some (some (.int .i64 0), 1, 8) := by kernel_rfl
set_option maxRecDepth 100000 in
theorem walkApart (w : World) (s : Int) (_ : -9223372036854775808 ≤ s) (_ : s ≤ 9223372036854775807) (k : Int) (hk0 : 0 ≤ k) (hk1 : k ≤ 4294967295) (A : Option Addr) (n c : Nat) (l : List Int) (h : Nums w .u8 w.heap.size A n c l) :
    Calls Try.prog 9 #[.int .i64 s, .int .u32 k, .slice A n c] w fun e w' => e = .returned (.bool true) ∧ Below w.heap.size w w' := by
  have hm : n ≤ 9223372036854775807 := by have := h.cap; have := h.max; unfold maxLen at this; omega
  have H := Lib.hid h
  clear h
  by_cases hn : 100 < n
  · go_enter Try.func9, Try.ntmps9
    go_wp2_with fail
    refine (awake12 _).mono ?_; rintro e w' ⟨rfl, rfl⟩
    go_wp2_with fail
    go_ret
    exact ⟨rfl, Below.refl _ _⟩
  · obtain ⟨k, rfl⟩ := Int.eq_ofNat_of_zero_le hk0
    have hN : ((k : Int) % 524288) = ((k % 524288 : Nat) : Int) := by omega
    have hN' : k % 524288 < 524288 := by omega
    generalize k % 524288 = N at *
    go_enter Try.func9, Try.ntmps9
    go_wp2_with fail
    refine (secret12 _ _).mono ?_; rintro e w' ⟨S, hS, rfl, rfl⟩
    go_wp2_with fail
    simp only [hN]
    have HN := Lib.hid hN'
    clear hk0 hk1 hN hN'
    go_loopw [8, 9, 11, 12, 24] (fun at_ v _ _ i wr => ∃ (j a : Nat) (keys : List Int), j ≤ n ∧ i = .int .i64 j ∧ at_ = .int .i64 a ∧ Hid (a < 524288 + 256 * j ∧ keys.length = j ∧ Ps.KeysUpto S a keys ∧ Own wr w.heap.size 3 .i64 v keys) ∧ Below w.heap.size w wr) (fun _ _ _ _ i _ => n - (intOf i).toNat)
    case atStart => exact ⟨0, N, [], by omega, rfl, rfl, ⟨by have := HN.out; omega, rfl, ⟨[], rfl, by simp⟩, Own.nil _ _ _ _⟩, Below.refl _ _⟩
    case round =>
      obtain ⟨j, a, keys, hj, rfl, rfl, HI, hb⟩ := hrel
      have HB := Lib.hid hb
      clear hb
      by_cases hlt : j < n
      · obtain ⟨ad, x, rfl, _, HX, hx, hwx⟩ := (H.out.keep HB.out HB.out.size).val hlt
        have hx0 := bounds_u8 hwx
        obtain ⟨x, rfl⟩ := Int.eq_ofNat_of_zero_le hx0.1
        have ha : a < 524288 + 25600 := by have := HI.out.1; omega
        go_wp2_with fail
        refine (key_nat _ _ _ (by omega) (by omega) (by omega) (by omega)).mono ?_; rintro e w' ⟨rfl, rfl⟩
        rw [show ((a : Int) + (1 + (x : Int))).toNat = a + (1 + x) from by omega, Int.toNat_natCast]
        obtain ⟨A', c', rfl, hnums⟩ := HI.out.2.2.2.nums (HI.out.2.2.1.wf (by omega))
        have hfresh : decide ((Ps.keyN S (a + (1 + x)) : Int) ∈ keys) = false := by
          have := HI.out.2.2.1.fresh (m' := a + (1 + x)) (by omega) (by omega)
          simpa using this
        have hmore := HI.out.2.2.1.more (m' := a + (1 + x)) (by omega)
        generalize Ps.keyN S (a + (1 + x)) = y at *
        have HF := Lib.hid hfresh
        have HM := Lib.hid hmore
        have HA := Lib.hid ha
        have HX0 := Lib.hid hx0
        clear hfresh hmore ha
        go_wp2_with fail
        refine (has_any _ _ _ _ _ _ _ hnums).mono ?_; rintro e w' ⟨rfl, rfl⟩
        rw [HF.out]
        go_wp2_with (at_builtin; (refine app_int _ rfl (.tmp 39) (.tmp 41) _ rfl w.heap.size 3 8 .i64 int_info Try.underlying25 (.slice A' keys.length c') keys rfl (HI.out.2.2.2.alloc _) y _ rfl (by simp [go_sem]) (by have := HI.out.2.1; simp only [maxLen]; omega) (by have := HI.out.2.1; omega) (by have := HB.out.size; simp; omega) ?_); intro v' w' hown' hgrow)
        go_roundw
        case rel =>
          exact ⟨j + 1, a + (1 + x), keys ++ [(y : Int)], by omega, by go_num, by go_num, ⟨by have := HI.out.1; have := HX0.out; omega, by have := HI.out.2.1; simp; omega, HM.out, hown'⟩,
            (HI.out.2.2.2.alloc _).grow (HB.out.alloc HB.out.size _) hgrow (by have := HB.out.size; simp; omega) (Nat.le_refl _)⟩
        case measure => simp [intOf]; omega
      · obtain rfl : j = n := by omega
        go_wp2_with fail
        refine (awake12 _).mono ?_; rintro e w' ⟨rfl, rfl⟩
        go_wp2_with fail
        go_ret
        exact ⟨rfl, HB.out⟩
end Go.Proofs.Ytjeeobaiibhbaaa
