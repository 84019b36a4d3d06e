/- Rounding: the search's choices of one number. -/
import Derived.Test.YtgclljmchdlbeaaNf
namespace Go.Proofs.Ytgclljmchdlbeaa
open Go.RowKit
theorem findSome_take {l : List Int} {j : Nat} {x : Int} (f : Int → Option (List Int)) (h : l.getD j 0 = x ∧ j < l.length) (h0 : (l.take j).findSome? f = none) : (l.take (j + 1)).findSome? f = f x := by
  rw [take_succ_getD l j h.2, h.1, List.findSome?_append, h0]
  simp
theorem findSome_at {l : List Int} {j : Nat} {x : Int} (f : Int → Option (List Int)) (h : l.getD j 0 = x ∧ j < l.length) (h0 : (l.take j).findSome? f = none) {r : List Int} (hr : f x = some r) : l.findSome? f = some r := by
  have h1 := findSome_take f h h0
  rw [hr] at h1
  rw [← List.take_append_drop (j + 1) l, List.findSome?_append, h1]
  rfl
def Rd.PostI (C : Rd.Cx) (w0 w : World) (p : List Int) (L l : List Int) (i : Nat) (e : Ending) (w' : World) : Prop :=
  ∃ ρ', ρ'.take i = p ∧ K2 C.g C.bf w w' ∧ ((L.findSome? (fun y => Rd.find C.F C.b (p ++ [y]) l) = none ∧ e = .returned (.int .i64 (-1)) ∧ Rd.St C w0 w' ρ' (.slice none 0 0)) ∨
    ∃ (r : List Int) (v : Value) (j : Nat), L.findSome? (fun y => Rd.find C.F C.b (p ++ [y]) l) = some r ∧ e = .returned (.int .i64 j) ∧ Rd.St C w0 w' ρ' v ∧ Own w' C.base 3 .i64 v r)
set_option maxRecDepth 100000 in
set_option maxHeartbeats 1600000 in
theorem index34 (C : Rd.Cx) (w0 : World) (o : C.Ok w0) (i : Nat) (hi : i < C.k) (hT : Rd.Tries C w0 (i + 1)) (bi : Nat) (hbi : bi ≠ C.g ∧ bi ≠ C.bf) (w : World) (ρ : List Int) (h : Rd.St C w0 w ρ (.slice none 0 0)) (hb : w.heap[bi]? = some (.cells #[.int .i64 i] 3 (0, 0)))
    (L : List Int) (hL : ∀ y ∈ L, -2000000 ≤ y ∧ y ≤ 2000000) (q n c base : Nat) (hq : q ≠ C.g ∧ q ≠ C.bf) (hO : Own w base 3 .i64 (.slice (some ⟨q, 0, none⟩) n c) L) :
    Calls Try.prog 67 #[.slice (some ⟨q, 0, none⟩) n c, .func (.func 45) #[] #[.pointer (some ⟨C.br, 0, none⟩), .pointer (some ⟨bi, 0, none⟩), .pointer (some ⟨C.by_, 0, none⟩)]] w (Rd.PostI C w0 w (ρ.take i) L (C.t.drop (i + 1)) i) := by
  have hn := hO.head.1
  have hnl : n ≤ 1000 ∨ True := .inr trivial
  have hwf : ∀ x ∈ L, (Lit.int .i64 x).wf = true := fun x hx => by
    have := hL x hx
    simp [Lit.wf, IntKind.min, IntKind.max, IntKind.bits, IntKind.signed]; omega
  have hN := hO.numsG hwf
  have hm : n ≤ 9223372036854775807 := by have := hN.cap; have := hN.max; unfold maxLen at this; omega
  have HN := Lib.hid hn
  have H := Lib.hid h
  have HB := Lib.hid hb
  have HT := Lib.hid hT
  have HO := Lib.hid hO
  clear h hb hT hO hn hN hnl hwf
  go_enter Try.func67, Try.ntmps67
  go_wp2_with fail
  go_loopw [5, 8] (fun _ jv wr => ∃ (j : Nat) (ρ' : List Int), j ≤ n ∧ jv = .int .i64 j ∧ Hid (ρ'.take i = ρ.take i ∧ K2 C.g C.bf w wr ∧ Rd.St C w0 wr ρ' (.slice none 0 0) ∧ (L.take j).findSome? (fun y => Rd.find C.F C.b (ρ.take i ++ [y]) (C.t.drop (i + 1))) = none)) (fun _ jv _ => n - (intOf jv).toNat)
  case atStart => exact ⟨0, ρ, by omega, rfl, rfl, K2.refl _ _ _, H.out, by simp⟩
  case round =>
    rename World => Z
    obtain ⟨j, ρ', hj, rfl, HI⟩ := hrel
    by_cases hlt : j < n
    · have hO2 := HO.out.k2 HI.out.2.1 hq.1 hq.2
      have cj := hO2.cell (j := j) (by rw [← HN.out]; exact hlt)
      have HX := Lib.hid (show L.getD j 0 = L.getD j 0 ∧ j < L.length from ⟨rfl, by rw [← HN.out]; exact hlt⟩)
      have hx := hL (L.getD j 0) (by rw [List.getD_eq_getElem?_getD, List.getElem?_eq_getElem HX.out.2]; exact List.getElem_mem HX.out.2)
      obtain ⟨x, hxe⟩ : ∃ x, L.getD j 0 = x := ⟨_, rfl⟩
      have HXE := Lib.hid hxe
      rw [hxe] at cj hx
      have i1 : (0 : Int) ≤ (j : Int) := by omega
      have i2 : (j : Int) < (n : Int) := by omega
      have HBZ := Lib.hid (HI.out.2.1.heap HB.out hbi.1 hbi.2)
      clear hxe hO2
      go_wp2_with fail
      refine (inner34 C w0 o i hi HT.out bi hbi Z ρ' HI.out.2.2.1 HBZ.out x hx).mono ?_; rintro e w2 ⟨ρ2, hr, hk, hc⟩
      rw [HI.out.1] at hr hc
      have hr2 : ρ2.take i = ρ.take i := by
        have h9 := congrArg (List.take i) hr
        have hl : (ρ.take i).length = i := by rw [List.length_take, H.out.len]; omega
        rw [List.take_take, List.length_append, hl, List.take_append_of_le_length (by omega), List.take_take] at h9
        rw [show min i (i + [x].length) = i by simp, Nat.min_self] at h9
        exact h9
      have HP := Lib.hid (And.intro hr2 (HI.out.2.1.trans hk))
      clear hr hk hr2
      rcases hc with ⟨hf, rfl, hs⟩ | ⟨r, v, hf, rfl, hs, ho⟩
      · have HF := Lib.hid (And.intro (findSome_take (fun y => Rd.find C.F C.b (ρ.take i ++ [y]) (C.t.drop (i + 1))) ⟨HXE.out, HX.out.2⟩ HI.out.2.2.2) (And.intro hf hs))
        clear hf hs
        go_wp2_with fail
        go_roundw
        case rel => exact ⟨j + 1, ρ2, by omega, by go_num, HP.out.1, HP.out.2, HF.out.2.2, HF.out.1.trans HF.out.2.1⟩
        case measure => simp [intOf]; omega
      · have HF := Lib.hid (And.intro (findSome_at (fun y => Rd.find C.F C.b (ρ.take i ++ [y]) (C.t.drop (i + 1))) ⟨HXE.out, HX.out.2⟩ HI.out.2.2.2 hf) (And.intro hs ho))
        clear hf hs ho
        go_wp2_with fail
        go_ret
        exact ⟨ρ2, HP.out.1, HP.out.2, .inr ⟨r, v, j, HF.out.1, rfl, HF.out.2.1, HF.out.2.2⟩⟩
    · obtain rfl : j = n := by omega
      have HF := Lib.hid (show L.findSome? (fun y => Rd.find C.F C.b (ρ.take i ++ [y]) (C.t.drop (i + 1))) = none by have h9 := HI.out.2.2.2; rwa [take_len HN.out.symm] at h9)
      go_wp2_with fail
      go_ret
      exact ⟨ρ', HI.out.1, HI.out.2.1, .inl ⟨HF.out, rfl, HI.out.2.2.1⟩⟩
/-- the closure finds one -/
def Rd.PostC (C : Rd.Cx) (w0 w : World) (p : List Int) (L l : List Int) (i : Nat) (e : Ending) (w' : World) : Prop :=
  ∃ ρ', ρ'.take i = p ∧ K2 C.g C.bf w w' ∧ ((L.findSome? (fun y => Rd.find C.F C.b (p ++ [y]) l) = none ∧ e = .returned (.bool false) ∧ Rd.St C w0 w' ρ' (.slice none 0 0)) ∨
    ∃ (r : List Int) (v : Value), L.findSome? (fun y => Rd.find C.F C.b (p ++ [y]) l) = some r ∧ e = .returned (.bool true) ∧ Rd.St C w0 w' ρ' v ∧ Own w' C.base 3 .i64 v r)
theorem any34 (C : Rd.Cx) (w0 : World) (o : C.Ok w0) (i : Nat) (hi : i < C.k) (hT : Rd.Tries C w0 (i + 1)) (bi : Nat) (hbi : bi ≠ C.g ∧ bi ≠ C.bf) (w : World) (ρ : List Int) (h : Rd.St C w0 w ρ (.slice none 0 0)) (hb : w.heap[bi]? = some (.cells #[.int .i64 i] 3 (0, 0)))
    (L : List Int) (hL : ∀ y ∈ L, -2000000 ≤ y ∧ y ≤ 2000000) (q n c base : Nat) (hq : q ≠ C.g ∧ q ≠ C.bf) (hO : Own w base 3 .i64 (.slice (some ⟨q, 0, none⟩) n c) L) :
    Calls Try.prog 43 #[.slice (some ⟨q, 0, none⟩) n c, .func (.func 45) #[] #[.pointer (some ⟨C.br, 0, none⟩), .pointer (some ⟨bi, 0, none⟩), .pointer (some ⟨C.by_, 0, none⟩)]] w (Rd.PostC C w0 w (ρ.take i) L (C.t.drop (i + 1)) i) := by
  have H := Lib.hid h
  have HB := Lib.hid hb
  have HT := Lib.hid hT
  have HO := Lib.hid hO
  clear h hb hT hO
  go_enter Try.func43, Try.ntmps43
  go_wp2_with fail
  refine (index34 C w0 o i hi HT.out bi hbi w ρ H.out HB.out L hL q n c base hq HO.out).mono ?_; rintro e w2 ⟨ρ2, hr, hk, hc⟩
  have HP := Lib.hid (And.intro hr hk)
  clear hr hk
  rcases hc with ⟨hf, rfl, hs⟩ | ⟨r, v, j, hf, rfl, hs, ho⟩
  · have HF := Lib.hid (And.intro hf hs)
    clear hf hs
    go_wp2_with fail
    go_ret
    exact ⟨ρ2, HP.out.1, HP.out.2, .inl ⟨HF.out.1, rfl, HF.out.2⟩⟩
  · have HF := Lib.hid (And.intro hf (And.intro hs ho))
    have g1 : decide ((0 : Int) ≤ (j : Int)) = true := decide_eq_true (by omega)
    clear hf hs ho
    go_wp2_with fail
    go_ret
    exact ⟨ρ2, HP.out.1, HP.out.2, .inr ⟨r, v, HF.out.1, rfl, HF.out.2.1, HF.out.2.2⟩⟩
end Go.Proofs.Ytgclljmchdlbeaa
