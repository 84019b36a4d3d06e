/- Codes: comparing lists of ints; Find. -/
import Derived.Test.YtdlgfhegafnmcaaDoorLo
import Derived.Test.YtdlgfhegafnmcaaDoorGen
import Derived.Deep.QuietTactic
import Derived.BigQuiet
namespace Go.Proofs.YtdlgfhegafnmcaaDoor
open Go.RowKit
set_option maxHeartbeats 800000 in
theorem ints_any (A A' : Option Addr) (n c n' c' : Nat) (l l' : List Int) (B B' : Nat) (w : World) (h : Nums w .i64 B A n c l) (h' : Nums w .i64 B' A' n' c' l') :
    Calls Tryd.prog 21 #[.slice A n c, .slice A' n' c'] w fun e w' => e = .returned (.bool (decide (l = l'))) ∧ ∃ m, w' = w.drewN m := by
  have hm : n ≤ 9223372036854775807 := by have := h.cap; have := h.max; unfold maxLen at this; omega
  have hm' : n' ≤ 9223372036854775807 := by have := h'.cap; have := h'.max; unfold maxLen at this; omega
  have H := Lib.hid h
  have HL := Lib.hid h.len
  have H' := Lib.hid h'
  have HL' := Lib.hid h'.len
  clear h h'
  by_cases hn : n = n'
  · subst hn
    go_enter Tryd.func21, Tryd.ntmps21
    go_wp2_with fail
    go_loopw [5] (fun i wr => ∃ j : Nat, j ≤ n ∧ i = .int .i64 j ∧ Hid (l.take j = l'.take j) ∧ ∃ m, wr = w.drewN m) (fun i _ => n - (intOf i).toNat)
    case atStart => exact ⟨0, by omega, rfl, Lib.hid rfl, 0, rfl⟩
    case round =>
      obtain ⟨j, hj, rfl, HN, m, rfl⟩ := hrel
      by_cases hlt : j < n
      · obtain ⟨ad, x, rfl, _, HX, hx, _⟩ := H.out.val hlt
        obtain ⟨ad', x', rfl, _, HX', hx', _⟩ := H'.out.val hlt
        by_cases he : x = x'
        · have hb : (x != x') = false := by simpa using he
          have HE := Lib.hid he
          clear he
          go_wp2_with fail
          go_quiet (fail)
          go_wp2_with fail
          go_roundw
          case rel => exact ⟨j + 1, by omega, by go_num, Lib.hid ((take_succ_eq HX.out HX'.out HN.out).2 HE.out), _, rfl⟩
          case measure => simp [intOf]; omega
        · have hb : (x != x') = true := by simpa using he
          have HE := Lib.hid he
          clear he
          go_wp2_with fail
          go_quiet (fail)
          go_wp2_with fail
          go_ret
          refine ⟨retb ?_, m + nq, by simp⟩
          have : l ≠ l' := fun e => HE.out ((take_succ_eq HX.out HX'.out HN.out).1 (by rw [e]))
          simp [this]
      · obtain rfl : j = n := by omega
        go_wp2
        go_ret
        refine ⟨retb ?_, _, rfl⟩
        have := HN.out
        rw [take_len HL.out, take_len HL'.out] at this
        simp [this]
  · have hb : ((n : Int) != (n' : Int)) = true := by simp; omega
    have HE := Lib.hid hn
    clear hn
    go_enter Tryd.func21, Tryd.ntmps21
    go_wp2
    go_ret
    refine ⟨retb ?_, 0, rfl⟩
    have : l ≠ l' := fun e => HE.out (by rw [← HL.out, ← HL'.out, e])
    simp [this]
theorem isName01 (g : Nat) (nm t : ByteArray) (par : Int) (w : World) (h : w.cell? ⟨g, 0, none⟩ = some (.string t)) (hg : g < w.heap.size) :
    Calls Tryd.prog 41 #[.agg #[.string nm, .int .i64 par], .pointer (some ⟨g, 0, none⟩)] w fun e w' => e = .returned (.bool (nm.toList == t.toList)) ∧ Below w.heap.size w w' := by
  obtain ⟨X, hX⟩ : ∃ X : World, w.alloc (.cells #[.string nm, .int .i64 par] 50) = X := ⟨_, rfl⟩
  have hbx : Below w.heap.size w X := by rw [← hX]; exact (Below.refl _ _).alloc (Nat.le_refl _) _
  have d0 : X.cell? ⟨w.heap.size, 0, none⟩ = some (.string nm) := by rw [← hX]; simp [go_sem]
  have d1 : X.cell? ⟨g, 0, none⟩ = some (.string t) := (hbx.cell hg).trans h
  have HB := Lib.hid hbx
  clear hbx h
  go_enter Tryd.func41, Tryd.ntmps41
  go_wp2_with fail
  go_ret
  exact ⟨rfl, HB.out⟩
def GivesPlaceC (L : List Cd.Co) (t : ByteArray) (w : World) (e : Ending) (w' : World) : Prop := ∃ i : Int, e = .returned (.int .i64 i) ∧ ((i = -1 ∧ ∀ x ∈ L, x.name ≠ t) ∨ ∃ j, j < L.length ∧ i = (j : Int) ∧ (L.getD j Cd.Co0).name = t ∧ ∀ x ∈ L.take j, x.name ≠ t) ∧ Below w.heap.size w w'
set_option maxRecDepth 100000 in
set_option maxHeartbeats 1600000 in
theorem indexC01 (A : Option Addr) (n c : Nat) (L : List Cd.Co) (g : Nat) (t : ByteArray) (w : World) (h : CoRow w w.heap.size A n c L) (hn : n ≤ 1000) (hc : w.cell? ⟨g, 0, none⟩ = some (.string t)) (hg : g < w.heap.size) :
    Calls Tryd.prog 40 #[.slice A n c, .func (.func 41) #[] #[.pointer (some ⟨g, 0, none⟩)]] w (GivesPlaceC L t w) := by
  have H := Lib.hid h
  have HL := Lib.hid h.len
  have HC := Lib.hid hc
  clear h hc
  go_enter Tryd.func40, Tryd.ntmps40
  go_wp2_with fail
  go_loopw [5, 8] (fun _ i wr => ∃ j : Nat, j ≤ n ∧ i = .int .i64 j ∧ Hid (Below w.heap.size w wr ∧ ∀ x ∈ L.take j, x.name ≠ t)) (fun _ i _ => n - (intOf i).toNat)
  case atStart => exact ⟨0, by omega, rfl, Below.refl _ _, by simp⟩
  case round =>
    rename World => Y
    obtain ⟨j, hj, rfl, HI⟩ := hrel
    by_cases hlt : j < n
    · obtain ⟨f, nm, par, rfl, HX, c0, c1⟩ := (H.out.keep HI.out.1 HI.out.1.size).val hlt
      have HS := Lib.hid (show L.take (j + 1) = L.take j ++ [⟨nm, par⟩] by
        rw [List.take_succ_eq_append_getElem HX.out.2.1]
        have h9 := HX.out.1
        simp only [List.getD, List.getElem?_eq_getElem HX.out.2.1, Option.getD_some] at h9
        rw [h9])
      have hcy : Y.cell? ⟨g, 0, none⟩ = some (.string t) := (HI.out.1.cell hg).trans HC.out
      have hgy : g < Y.heap.size := by have := HI.out.1.size; omega
      have HCY := Lib.hid (And.intro hcy hgy)
      clear hcy hgy
      have HQ := Lib.hid (show (nm.toList == t.toList) = decide (nm = t) by
        rw [Bool.eq_iff_iff, beq_iff_eq, decide_eq_true_iff, ByteArray.toList_eq, ByteArray.toList_eq]
        exact ⟨fun e => ByteArray.ext (Array.toList_inj.1 e), fun e => by rw [e]⟩)
      by_cases hoy : nm = t
      · have HM := Lib.hid (show (L.getD j Cd.Co0).name = t by rw [HX.out.1]; exact hoy)
        have HO := Lib.hid hoy
        clear hoy
        go_wp2_with fail
        refine (isName01 g nm t par Y HCY.out.1 HCY.out.2).mono ?_; rintro e w2 ⟨rfl, hb2⟩
        have HB := Lib.hid (HI.out.1.trans (hb2.mono HI.out.1.size))
        rw [HQ.out, decide_eq_true HO.out]
        clear hb2
        go_wp2_with fail
        go_ret
        exact ⟨j, rfl, .inr ⟨j, HX.out.2.1, rfl, HM.out, HI.out.2⟩, HB.out⟩
      · have HO := Lib.hid hoy
        clear hoy
        go_wp2_with fail
        refine (isName01 g nm t par Y HCY.out.1 HCY.out.2).mono ?_; rintro e w2 ⟨rfl, hb2⟩
        have HB := Lib.hid (HI.out.1.trans (hb2.mono HI.out.1.size))
        rw [HQ.out, decide_eq_false HO.out]
        clear hb2
        go_wp2_with fail
        go_roundw
        case rel => exact ⟨j + 1, by omega, by go_num, HB.out, by
          rw [HS.out]
          intro x hx
          rcases List.mem_append.1 hx with h | h
          · exact HI.out.2 x h
          · rw [List.mem_singleton.1 h]; exact HO.out⟩
        case measure => simp [intOf]; omega
    · obtain rfl : n = j := by omega
      have HM := Lib.hid (show ∀ x ∈ L, x.name ≠ t by
        have := HI.out.2
        rwa [List.take_of_length_le (by rw [HL.out]; omega)] at this)
      go_wp2_with fail
      go_ret
      exact ⟨-1, rfl, .inl ⟨rfl, HM.out⟩, HI.out.1⟩
end Go.Proofs.YtdlgfhegafnmcaaDoor
