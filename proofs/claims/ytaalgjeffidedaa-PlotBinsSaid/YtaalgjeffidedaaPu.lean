/- ref01.Put. -/
import Derived.Test.YtaalgjeffidedaaZs
import Derived.Test.YtaalgjeffidedaaSo
import Derived.Test.YtaalgjeffidedaaHa
namespace Go.Proofs.Ytaalgjeffidedaa
open Go.RowKit
namespace Zs
theorem put_mem {x : Int} : ∀ {l : List Int}, Asc l → x ∈ l → put x l = l
  | [], _, h => by cases h
  | y :: l, ha, h => by
    have ha' := List.pairwise_cons.1 ha
    unfold put
    rcases List.mem_cons.1 h with rfl | h
    · rw [if_neg (by omega), if_pos rfl]
    · have := ha'.1 x h
      rw [if_neg (by omega), if_neg (by omega), put_mem ha'.2 h]
theorem put_last {x : Int} : ∀ {a : List Int}, (∀ z ∈ a, z < x) → put x a = a ++ [x]
  | [], _ => rfl
  | y :: a, h => by
    have := h y (by simp)
    unfold put
    rw [if_neg (by omega), if_neg (by omega), put_last fun z hz => h z (List.mem_cons_of_mem _ hz)]
    rfl
theorem put_between {x y : Int} (hy : x < y) : ∀ {a : List Int}, (∀ z ∈ a, z < x) → put x (a ++ [y]) = a ++ [x] ++ [y]
  | [], _ => by simp [put, hy]
  | u :: a, h => by
    have := h u (by simp)
    have e := put_between hy fun z hz => h z (List.mem_cons_of_mem u hz)
    show put x (u :: (a ++ [y])) = _
    unfold put
    rw [if_neg (by omega), if_neg (by omega), e]
    rfl
theorem put_snoc {x : Int} {b : List Int} : ∀ {a : List Int}, (∃ z ∈ a, x < z) → put x (a ++ b) = put x a ++ b
  | [], h => by obtain ⟨z, hz, _⟩ := h; cases hz
  | u :: a, h => by
    show put x (u :: (a ++ b)) = _
    unfold put
    by_cases h1 : x < u
    · rw [if_pos h1, if_pos h1]; rfl
    · rw [if_neg h1, if_neg h1]
      by_cases h2 : x = u
      · rw [if_pos h2, if_pos h2]; rfl
      · rw [if_neg h2, if_neg h2, put_snoc ?_]
        · rfl
        · obtain ⟨z, hz, hx⟩ := h
          rcases List.mem_cons.1 hz with rfl | hz
          · exact absurd hx h1
          · exact ⟨z, hz, hx⟩
def dn (x : Int) (l : List Int) (j : Nat) : Bool := (l.take j).any fun z => decide (x < z)
def st (x : Int) (l : List Int) (j : Nat) : List Int := if dn x l j then put x (l.take j) else l.take j
theorem dn_false {x : Int} {l : List Int} {j : Nat} (h : dn x l j = false) (hx : x ∉ l) : ∀ z ∈ l.take j, z < x := fun z hz => by
  have h1 : ¬ x < z := by
    intro hlt
    have : dn x l j = true := List.any_eq_true.2 ⟨z, hz, by simpa using hlt⟩
    rw [h] at this; cases this
  have h2 : z ≠ x := fun e => hx (e ▸ List.mem_of_mem_take hz)
  omega
theorem dn_true {x : Int} {l : List Int} {j : Nat} (h : dn x l j = true) : ∃ z ∈ l.take j, x < z := by
  obtain ⟨z, hz, h⟩ := List.any_eq_true.1 h
  exact ⟨z, hz, by simpa using h⟩
theorem dn_succ {x y : Int} {l : List Int} {j : Nat} (h : l.getD j 0 = y ∧ j < l.length) : dn x l (j + 1) = (dn x l j || decide (x < y)) := by
  unfold dn
  rw [take_succ_getD l j h.2, h.1, List.any_append]
  simp
theorem st_len (x : Int) (l : List Int) (j : Nat) : (st x l j).length ≤ l.length + 1 := by
  have hp : ∀ (l : List Int), (put x l).length ≤ l.length + 1 := by
    intro l
    induction l with
    | nil => simp [put]
    | cons z l ih => unfold put; split; · simp
                     · split; · simp
                       · simp; exact ih
  unfold st
  split
  · have := hp (l.take j); rw [List.length_take] at this; omega
  · rw [List.length_take]; omega
end Zs
set_option maxHeartbeats 800000 in
theorem put_own (base : Nat) (v : Value) (l : List Int) (x : Int) (w : World) (h : Own w base 3 .i64 v l) (ha : Zs.Asc l) (hb : base ≤ w.heap.size) (hn : l.length ≤ 1000) (hwf : ∀ y ∈ l, (Lit.int .i64 y).wf = true) :
    Calls Try.prog 21 #[v, .int .i64 x] w fun e w' => ∃ v', e = .returned v' ∧ Own w' base 3 .i64 v' (Zs.put x l) ∧ Below base w w' := by
  obtain ⟨A, N, c, rfl, hN, hnum⟩ := h.numsN hwf
  have HO := Lib.hid h
  have H := Lib.hid hnum
  have HA := Lib.hid ha
  have HZ := Lib.hid (And.intro hb hn)
  have hN1 : N ≤ 1000 := by have := hN.out; omega
  clear h hnum ha hb hn hwf
  by_cases hx : x ∈ l
  · have HX := Lib.hid hx
    clear hx
    go_enter Try.func21, Try.ntmps21
    go_wp2_with fail
    refine (has_any A N c l x _ w H.out).mono ?_; rintro e w1 ⟨rfl, rfl⟩
    rw [show decide (x ∈ l) = true from decide_eq_true HX.out]
    go_wp2_with fail
    go_ret
    exact ⟨_, rfl, by rw [Zs.put_mem HA.out HX.out]; exact HO.out, Below.refl _ _⟩
  · have HX := Lib.hid hx
    clear hx
    go_enter Try.func21, Try.ntmps21
    go_wp2_with fail
    refine (has_any A N c l x _ w H.out).mono ?_; rintro e w1 ⟨rfl, rfl⟩
    rw [show decide (x ∈ l) = false from decide_eq_false HX.out]
    go_wp2_with fail
    go_loopw [5, 6, 7] (fun v d i wr => ∃ j : Nat, j ≤ N ∧ i = .int .i64 j ∧ d = .bool (Zs.dn x l j) ∧ Hid (Own wr w.heap.size 3 .i64 v (Zs.st x l j) ∧ Below w.heap.size w wr)) (fun _ _ i _ => N - (intOf i).toNat)
    case atStart => exact ⟨0, by omega, rfl, by simp [Zs.dn], ⟨by simpa [Zs.st, Zs.dn] using Own.nil _ _ _ _, Below.refl _ _⟩⟩
    case round =>
      obtain ⟨j, hj, rfl, rfl, HI⟩ := hrel
      have HL := Lib.hid (Zs.st_len x l j)
      by_cases hlt : j < N
      · obtain ⟨ad, y, rfl, _, HY, hy, _⟩ := (H.out.keep HI.out.2 HI.out.2.size).val hlt
        have hsn := Zs.dn_succ (x := x) HY.out
        have hts := take_succ_getD l j HY.out.2
        rw [HY.out.1] at hts
        have hyx : y ≠ x := fun e => HX.out (e ▸ getD_mem HY.out)
        have h1 : ¬ (j : Int) < 0 := by omega
        rcases hd : Zs.dn x l j with _ | _
        · have hall := Zs.dn_false hd HX.out
          have hst : Zs.st x l j = l.take j := by unfold Zs.st; rw [hd]; rfl
          by_cases hxy : x < y
          · have hdt : decide (x < y) = true := by simpa using hxy
            have hs2 : Zs.st x l (j + 1) = l.take j ++ [x] ++ [y] := by unfold Zs.st; rw [hsn, hdt, Bool.or_true, if_pos rfl, hts, Zs.put_between hxy hall]
            have HS := Lib.hid (And.intro hst (And.intro hs2 (show Zs.dn x l (j + 1) = true by rw [hsn, hdt, Bool.or_true])))
            clear hall hst hs2 hxy hts hsn hyx hd
            rw [HS.out.1] at HI
            have hll := Lib.hid (show (l.take j).length ≤ 1000 by rw [List.length_take]; have := hN.out; omega)
            go_wp2_with (first
              | (at_builtin; refine app_int _ rfl (.tmp 28) (.tmp 30) _ rfl w.heap.size 3 8 .i64 int_info Try.underlying23 u5 _ rfl (HI.out.1.alloc _) x _ rfl (by simp [go_sem]) (by have := hll.out; simp only [maxLen]; omega) (by have := hll.out; omega) (by have := HI.out.2.size; simp; omega) ?_; intro v' w' hown' hgrow
                 have HB1 := Lib.hid ((HI.out.1.alloc _).grow (HI.out.2.alloc HI.out.2.size _) hgrow (by have := HI.out.2.size; simp; omega) (Nat.le_refl _))
                 have HO1 := Lib.hid hown'
                 have hy2 := hgrow.cell (below_cell ((Below.refl wr.heap.size wr).alloc (Nat.le_refl _) (.cells #[.int .i64 x] 3)) hy) (by
                   intro e
                   have := (World.ownsRow.lt (HI.out.1.alloc (.cells #[.int .i64 x] 3)) _ e.symm).1
                   have h2 : (ad.add j).block < w.heap.size := by rw [add_block]; obtain ⟨_, e2, hb2, _⟩ := H.out.cells (by omega); injection e2 with e2; rw [e2]; exact hb2
                   omega)
                 clear hown' hgrow hy)
              | (at_builtin; refine app_int _ rfl (.tmp 32) (.tmp 37) _ rfl w.heap.size 3 8 .i64 int_info Try.underlying23 _ _ rfl (HO1.out.alloc _) y _ rfl (by simp [go_sem]) (by have := hll.out; simp only [maxLen, List.length_append, List.length_cons, List.length_nil]; omega) (by have := hll.out; simp only [List.length_append, List.length_cons, List.length_nil]; omega) (by have := HB1.out.size; simp; omega) ?_; intro v2 w2 hown2 hgrow2)
              | fail)
            go_roundw
            case rel => exact ⟨j + 1, by omega, by go_num, by rw [HS.out.2.2], ⟨by rw [HS.out.2.1]; exact hown2, (HO1.out.alloc _).grow (HB1.out.alloc HB1.out.size _) hgrow2 (by have := HB1.out.size; simp; omega) (Nat.le_refl _)⟩⟩
            case measure => simp [intOf]; omega
          · have hdf : decide (x < y) = false := by simpa using hxy
            have hs2 : Zs.st x l (j + 1) = l.take j ++ [y] := by unfold Zs.st; rw [hsn, hdf, hd, Bool.or_false, if_neg (by simp), hts]
            have HS := Lib.hid (And.intro hst (And.intro hs2 (show Zs.dn x l (j + 1) = false by rw [hsn, hdf, hd, Bool.or_false])))
            clear hall hst hs2 hxy hts hsn hyx hd
            rw [HS.out.1] at HI
            have hll := Lib.hid (show (l.take j).length ≤ 1000 by rw [List.length_take]; have := hN.out; omega)
            go_wp2_with (first
              | (at_builtin; refine app_int _ rfl (.tmp 32) (.tmp 37) _ rfl w.heap.size 3 8 .i64 int_info Try.underlying23 u5 _ rfl (HI.out.1.alloc _) y _ rfl (by simp [go_sem]) (by have := hll.out; simp only [maxLen]; omega) (by have := hll.out; omega) (by have := HI.out.2.size; simp; omega) ?_; intro v' w' hown' hgrow)
              | fail)
            go_roundw
            case rel => exact ⟨j + 1, by omega, by go_num, by rw [HS.out.2.2], ⟨by rw [HS.out.2.1]; exact hown', (HI.out.1.alloc _).grow (HI.out.2.alloc HI.out.2.size _) hgrow (by have := HI.out.2.size; simp; omega) (Nat.le_refl _)⟩⟩
            case measure => simp [intOf]; omega
        · have hex := Zs.dn_true hd
          have hst : Zs.st x l j = Zs.put x (l.take j) := by unfold Zs.st; rw [hd]; rfl
          have hs2 : Zs.st x l (j + 1) = Zs.put x (l.take j) ++ [y] := by unfold Zs.st; rw [hsn, hd, Bool.true_or, if_pos rfl, hts, Zs.put_snoc hex]
          have hxy : x < y := by
            obtain ⟨z, hz, hzx⟩ := hex
            have ha := HA.out
            have hs : Zs.Asc (l.take (j + 1)) := List.Pairwise.sublist (List.take_sublist _ _) ha
            rw [hts] at hs
            have := (List.pairwise_append.1 hs).2.2 z hz y (by simp)
            omega
          have hdt : decide (x < y) = true := by simpa using hxy
          have HS := Lib.hid (And.intro hst (And.intro hs2 (show Zs.dn x l (j + 1) = true by rw [hsn, hd, Bool.true_or])))
          clear hex hst hs2 hxy hts hsn hyx hd
          rw [HS.out.1] at HI
          have hll := Lib.hid (show (Zs.put x (l.take j)).length ≤ 1001 by have := HL.out; rw [HS.out.1] at this; have := hN.out; omega)
          go_wp2_with (first
              | (at_builtin; refine app_int _ rfl (.tmp 32) (.tmp 37) _ rfl w.heap.size 3 8 .i64 int_info Try.underlying23 u5 _ rfl (HI.out.1.alloc _) y _ rfl (by simp [go_sem]) (by have := hll.out; simp only [maxLen]; omega) (by have := hll.out; omega) (by have := HI.out.2.size; simp; omega) ?_; intro v' w' hown' hgrow)
              | fail)
          go_roundw
          case rel => exact ⟨j + 1, by omega, by go_num, by rw [HS.out.2.2], ⟨by rw [HS.out.2.1]; exact hown', (HI.out.1.alloc _).grow (HI.out.2.alloc HI.out.2.size _) hgrow (by have := HI.out.2.size; simp; omega) (Nat.le_refl _)⟩⟩
          case measure => simp [intOf]; omega
      · obtain rfl : j = N := by omega
        have htk : l.take j = l := take_len hN.out.symm
        rcases hd : Zs.dn x l j with _ | _
        · have hall := Zs.dn_false hd HX.out
          have hst : Zs.st x l j = l := by unfold Zs.st; rw [hd, htk]; rfl
          rw [htk] at hall
          have HS := Lib.hid (And.intro hst (Zs.put_last hall))
          clear hall hst hd htk
          rw [HS.out.1] at HI
          go_wp2_with (first
              | (at_builtin; refine app_int _ rfl (.tmp 41) (.tmp 43) _ rfl w.heap.size 3 8 .i64 int_info Try.underlying23 u5 _ rfl (HI.out.1.alloc _) x _ rfl (by simp [go_sem]) (by have := HZ.out; simp only [maxLen]; omega) (by have := HZ.out; omega) (by have := HI.out.2.size; simp; omega) ?_; intro v' w' hown' hgrow)
              | fail)
          go_ret
          exact ⟨_, rfl, by rw [HS.out.2]; exact hown'.base_le HZ.out.1, ((HI.out.1.alloc _).grow (HI.out.2.alloc HI.out.2.size _) hgrow (by have := HI.out.2.size; simp; omega) (Nat.le_refl _)).mono HZ.out.1⟩
        · have hst : Zs.st x l j = Zs.put x l := by unfold Zs.st; rw [hd, htk]; rfl
          have HS := Lib.hid hst
          clear hst hd htk
          rw [HS.out] at HI
          go_wp2_with fail
          go_ret
          exact ⟨_, rfl, HI.out.1.base_le HZ.out.1, HI.out.2.mono HZ.out.1⟩
end Go.Proofs.Ytaalgjeffidedaa
