/- Layer 21: small numbers; whether two lists of bins are the same. -/
import Derived.Test.YtaalgjeffidedaaBq
import Derived.Test.YtaalgjeffidedaaHa
import Derived.Laws.StructEq
namespace Go.Proofs.Ytaalgjeffidedaa
open Go.RowKit
def Pb.vals (l : List Int) : List Int := (l.take 60).map fun x => x % 50 - 10
theorem Pb.vals_bd {l : List Int} : ∀ x ∈ Pb.vals l, -10 ≤ x ∧ x ≤ 39 := fun x hx => by
  obtain ⟨y, _, rfl⟩ := List.mem_map.1 hx
  omega
theorem Pb.vals_len (l : List Int) : (Pb.vals l).length ≤ 60 := by unfold Pb.vals; rw [List.length_map, List.length_take]; omega
set_option maxHeartbeats 400000 in
theorem vals21 (A : Option Addr) (n c : Nat) (l : List Int) (w : World) (h : Nums w .u8 w.heap.size A n c l) :
    Calls Try.prog 8 #[.slice A n c] w (GivesInts (Pb.vals l) w) := by
  have H := Lib.hid h
  have hm : n ≤ 9223372036854775807 := by have := h.cap; have := h.max; unfold maxLen at this; omega
  clear h
  go_enter Try.func8, Try.ntmps8
  go_wp2_with fail
  go_loopw [3, 4] (fun v i wr => ∃ j : Nat, j ≤ n ∧ j ≤ 60 ∧ i = .int .i64 j ∧ Hid (Own wr w.heap.size 3 .i64 v ((l.take j).map fun x => x % 50 - 10) ∧ Below w.heap.size w wr)) (fun _ i _ => n - (intOf i).toNat)
  case atStart => exact ⟨0, by omega, by omega, rfl, ⟨by simpa using Own.nil _ _ _ _, Below.refl _ _⟩⟩
  case round =>
    obtain ⟨j, hj, hj40, rfl, HI⟩ := hrel
    by_cases hlt : j < n ∧ j < 60
    · obtain ⟨h1, h2⟩ := hlt
      have h1' : (j : Int) < n := by omega
      have h2' : (j : Int) < 60 := by omega
      obtain ⟨ad, x, rfl, _, HX, hx, hwx⟩ := (H.out.keep HI.out.2 HI.out.2.size).val h1
      have hx0 := bounds_u8 hwx
      have hlen := Lib.hid (show ((l.take j).map fun x => x % 50 - 10).length ≤ 1000 by rw [List.length_map, List.length_take]; omega)
      have HS := Lib.hid (map_take_succ (fun x => x % 50 - 10) HX.out)
      clear hwx
      go_wp2_with (at_builtin; refine app_int _ rfl (.tmp 15) (.tmp 23) _ rfl w.heap.size 3 8 .i64 int_info Try.underlying23 u3 _ rfl (HI.out.1.alloc _) (x % 50 - 10) _ rfl (by simp [go_sem]) (by have := hlen.out; simp only [maxLen]; omega) (by have := hlen.out; omega) (by have := HI.out.2.size; simp; omega) ?_; intro v' w' hown' hgrow)
      go_roundw
      case rel =>
        exact ⟨j + 1, by omega, by omega, by go_num, ⟨by rw [HS.out]; exact hown', (HI.out.1.alloc _).grow (HI.out.2.alloc HI.out.2.size _) hgrow (by have := HI.out.2.size; simp; omega) (Nat.le_refl _)⟩⟩
      case measure => simp [intOf]; omega
    · have hfin := HI.out.1
      have e : ((l.take j).map fun x => x % 50 - 10) = Pb.vals l := by
        unfold Pb.vals
        rcases Nat.lt_or_ge j n with h | h
        · obtain rfl : j = 60 := by omega
          rfl
        · have hl := H.out.len
          rw [List.take_of_length_le (show l.length ≤ j by omega), List.take_of_length_le (show l.length ≤ 60 by omega)]
      rw [e] at hfin
      have HF := Lib.hid hfin
      clear hfin e
      by_cases h1 : (j : Int) < n
      · have h2 : ¬ (j : Int) < 60 := by omega
        clear hlt
        go_wp2_with fail
        go_ret
        exact ⟨_, rfl, HF.out, HI.out.2⟩
      · clear hlt
        go_wp2_with fail
        go_ret
        exact ⟨_, rfl, HF.out, HI.out.2⟩
/-- pairs that lie in a row -/
structure Prs (w : World) (A : Option Addr) (n : Nat) (L : List (Int × Int)) : Prop where
  len : L.length = n
  small : n ≤ 1000000
  cells : 0 < n → ∃ g, A = some ⟨g, 0, none⟩ ∧ ∀ j (h : j < L.length), w.cell? ⟨g, j * 2, none⟩ = some (.int .i64 L[j].1) ∧ w.cell? ⟨g, j * 2 + 1, none⟩ = some (.int .i64 L[j].2)
theorem Prs.keep {w w' : World} {A : Option Addr} {n : Nat} {L : List (Int × Int)} (h : Prs w A n L) (hb : Below w.heap.size w w') : Prs w' A n L :=
  ⟨h.len, h.small, fun hn => by
    obtain ⟨g, hA, hc⟩ := h.cells hn
    exact ⟨g, hA, fun j hj => ⟨below_cell hb (hc j hj).1, below_cell hb (hc j hj).2⟩⟩⟩
theorem Own2.prs {w : World} {base : Nat} {e : TypeId} {v : Value} {L : List (Int × Int)} (h : Own2 w base e v L) (hs : L.length ≤ 1000000) : ∃ A N c, v = .slice A N c ∧ Hid (N = L.length) ∧ Prs w A N L := by
  obtain ⟨A, c, rfl, _, _⟩ := h.slice
  refine ⟨A, _, c, rfl, Lib.hid rfl, rfl, hs, fun hn => ?_⟩
  obtain ⟨g, cap, hv, _, _, _⟩ := h.row (by rintro rfl; cases hn)
  rw [hv] at h
  injection hv with hA
  exact ⟨g, hA, fun j hj => ⟨h.fst hj, h.snd hj⟩⟩
theorem neqBin (a b c d : Int) (w : World) : (binOp .neq 39 (.agg #[.int .i64 a, .int .i64 b]) (.agg #[.int .i64 c, .int .i64 d])).run Try.prog w = .ok (.bool (!(decide (a = c) && decide (b = d)))) w := by
  have u3 := Try.underlying3
  have a3 := Try.isAgg3
  have z3 := Try.sizeOf3
  have hS : Try.prog.underlying 39 = some (.struct (Try.prog.fieldsOf 39)) := by kernel_rfl
  have hp : Try.prog.stoodInHeld 39 = false := by kernel_rfl
  rw [run_neq_struct, show (10000 : Nat) = 9999 + 1 from rfl, run_equalIn_agg w 9999 39 _ _ hS hp]
  simp only [Program.fieldsOf, Try.underlying39]
  go_simp
  by_cases h1 : a = c <;> by_cases h2 : b = d <;> simp [h1, h2]
theorem pair_take_succ {L L' : List (Int × Int)} {j : Nat} (h : j < L.length) (h' : j < L'.length) (e : L.take j = L'.take j) : L.take (j + 1) = L'.take (j + 1) ↔ L[j] = L'[j] := by
  rw [List.take_succ_eq_append_getElem h, List.take_succ_eq_append_getElem h', e]
  exact ⟨fun h => by injection List.append_cancel_left h, fun h => by rw [h]⟩
set_option maxHeartbeats 400000 in
theorem same21 (A A' : Option Addr) (n c n' c' : Nat) (L L' : List (Int × Int)) (w : World) (h : Prs w A n L) (h' : Prs w A' n' L') :
    Calls Try.prog 12 #[.slice A n c, .slice A' n' c'] w fun e w' => e = .returned (.bool (decide (L = L'))) ∧ Below w.heap.size w w' := by
  have hs := h.small
  have hs' := h'.small
  have H := Lib.hid h
  have H' := Lib.hid h'
  clear h h'
  by_cases hn : n = n'
  · subst hn
    go_enter Try.func12, Try.ntmps12
    go_wp2_with fail
    go_loopw [5] (fun i wr => ∃ j : Nat, j ≤ n ∧ i = .int .i64 j ∧ Hid (L.take j = L'.take j ∧ ∃ m, wr = w.drewN m)) (fun i _ => n - (intOf i).toNat)
    case atStart => exact ⟨0, by omega, rfl, Lib.hid ⟨rfl, 0, rfl⟩⟩
    case round =>
      obtain ⟨j, hj, rfl, HN⟩ := hrel
      obtain ⟨m, hm⟩ := HN.out.2
      have HE := Lib.hid HN.out.1
      clear HN
      subst hm
      by_cases hlt : j < n
      · obtain ⟨g, rfl, hc⟩ := H.out.cells (by omega)
        obtain ⟨g', rfl, hc'⟩ := H'.out.cells (by omega)
        have hjl : j < L.length := by rw [H.out.len]; exact hlt
        have hjl' : j < L'.length := by rw [H'.out.len]; exact hlt
        obtain ⟨x1, x2⟩ := hc j hjl
        obtain ⟨y1, y2⟩ := hc' j hjl'
        have hts := Lib.hid (pair_take_succ hjl hjl' HE.out)
        generalize hp : L[j] = p at *
        generalize hq : L'[j] = q at *
        obtain ⟨a, b⟩ := p
        obtain ⟨c1, d⟩ := q
        have hnb := neqBin a b c1 d
        have i1 : (j : Int) < n := by omega
        have i2 : (0 : Int) ≤ j := by omega
        by_cases hab : a = c1 ∧ b = d
        · have he : (!(decide (a = c1) && decide (b = d))) = false := by simp [hab]
          simp only [he] at hnb
          have HT := Lib.hid (hts.out.2 (by rw [hab.1, hab.2]))
          clear hc hc' hp hq hab he hts
          go_wp2_with fail
          go_quiet (fail)
          go_wp2_with fail
          go_roundw
          case rel => exact ⟨j + 1, by omega, by go_num, HT.out, _, rfl⟩
          case measure => simp [intOf]; omega
        · have he : (!(decide (a = c1) && decide (b = d))) = true := by
            rw [Bool.not_eq_true', Bool.and_eq_false_iff, decide_eq_false_iff_not, decide_eq_false_iff_not]; omega
          simp only [he] at hnb
          have HT := Lib.hid (show L ≠ L' from fun e => hab (by
            have := hts.out.1 (by rw [e])
            injection this with e1 e2
            exact ⟨e1, e2⟩))
          clear hc hc' hp hq hab he hts
          go_wp2_with fail
          go_quiet (fail)
          go_wp2_with fail
          go_ret
          exact ⟨retb (by simp [HT.out]), below_drewN (below_drewN (Below.refl _ _) _) _⟩
      · obtain rfl : j = n := by omega
        have he : L = L' := by
          have := HE.out
          rwa [List.take_of_length_le (by rw [H.out.len]; omega), List.take_of_length_le (by rw [H'.out.len]; omega)] at this
        have HF := Lib.hid he
        clear he
        go_wp2_with fail
        go_ret
        exact ⟨retb (by simp [HF.out]), below_drewN (Below.refl _ _) _⟩
  · have hb : ((n : Int) != (n' : Int)) = true := by simp; omega
    have HE := Lib.hid hn
    clear hn
    go_enter Try.func12, Try.ntmps12
    go_wp2
    go_ret
    refine ⟨retb ?_, Below.refl _ _⟩
    have : L ≠ L' := fun e => HE.out (by rw [← H.out.len, ← H'.out.len, e])
    simp [this]
end Go.Proofs.Ytaalgjeffidedaa
