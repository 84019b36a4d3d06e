/- A slice of approvals as an argument. -/
import Derived.Test.YtoomgbddfcmjnaaAa
import Derived.Test.YtoomgbddfcmjnaaOpen
import Derived.Lib.SmallJoins
namespace Go.Proofs.Ytoomgbddfcmjnaa
open Go.ChangeShapes Go.WideShapes Go.ChangeAt Go.RowKit Go.Joins Go.Deep
section
variable {H : Type} {enc : TypeId × Value → H} {P : Program} {w : World} {held : Bool}
theorem open_string_in {t : TypeId} {fuel : Nat} {v : Value} {x : DataW H × List MemPlace} (ht : P.underlying t = some .string) (h : DataW.trod enc P w 0 (fun _ => true) held fuel t [v] = some x) :
    ∃ s, v = .string s := by
  obtain ⟨s, h, _⟩ := DataW.trod_string ht h
  simp at h
  exact ⟨s, h⟩
theorem open_aps_in {t e : TypeId} {f0 f1 f2 f3 : Field} {fuel : Nat} {v : Value} {x : DataW H × List MemPlace} {B : Nat} (ht : P.underlying t = some (.slice e)) (hs : P.underlying e = some (.struct #[f0, f1, f2, f3])) (hone : oneCellFields P #[f0, f1, f2, f3] = true) (hc : P.cellsOf e = 4)
    (u0 : P.underlying f0.type = some .string) (u1 : P.underlying f1.type = some .string) (u2 : P.underlying f2.type = some (.int .i64)) (u3 : P.underlying f3.type = some (.int .i64))
    (h : DataW.trod enc P w 0 (fun _ => true) held fuel t [v] = some x) (hlt : ∀ p ∈ x.2, p.block < B) :
    ∃ A n c L, v = .slice A n c ∧ RRow apRec w B A n c L := by
  rcases DataW.trod_slice ht h with ⟨h1, _⟩ | ⟨a, len, cap, elems, rest, m, rfl, h1, rfl, hb, hl, hm, hlen, hel, _, _⟩
  · simp at h1; subst h1
    exact ⟨none, 0, 0, [], rfl, RRow.nil _ _⟩
  · simp at h1; subst h1
    have each : ∀ j : Nat, ∃ q : Ap, j < len → ∀ i v, (apRec.cells q)[i]? = some v → w.cell? (a.add (j * 4 + i)) = some v := by
      intro j
      by_cases hj : j < len
      · have hj' : j < elems.length := by omega
        have h2 := hel j hj
        rw [hc, List.getElem?_eq_getElem hj', Option.bind_eq_some_iff] at h2
        obtain ⟨cs', hcs, hy⟩ := h2
        obtain ⟨y0, y1, y2, y3, n, _, hl4, g0, g1, g2, g3⟩ := trod_struct4 hs hy
        rw [hc] at hl4
        obtain ⟨o0, k0⟩ := hone_of hone 0 f0 rfl
        obtain ⟨o1, k1⟩ := hone_of hone 1 f1 rfl
        obtain ⟨o2, k2⟩ := hone_of hone 2 f2 rfl
        obtain ⟨o3, k3⟩ := hone_of hone 3 f3 rfl
        match cs', hl4 with
        | [c0, c1, c2, c3], _ =>
          obtain ⟨s0, e0⟩ := open_string_in u0 (show DataW.trod enc P w 0 (fun _ => true) held n f0.type [c0] = some y0 by simpa [o0, k0] using g0)
          obtain ⟨s1, e1⟩ := open_string_in u1 (show DataW.trod enc P w 0 (fun _ => true) held n f1.type [c1] = some y1 by simpa [o1, k1] using g1)
          obtain ⟨z2, e2, _⟩ := open_int_in u2 (show DataW.trod enc P w 0 (fun _ => true) held n f2.type [c2] = some y2 by simpa [o2, k2] using g2)
          obtain ⟨z3, e3, _⟩ := open_int_in u3 (show DataW.trod enc P w 0 (fun _ => true) held n f3.type [c3] = some y3 by simpa [o3, k3] using g3)
          subst e0 e1 e2 e3
          refine ⟨⟨s0, s1, z2, z3⟩, fun _ i v hv => ?_⟩
          have hi : i < 4 := by
            have := (List.getElem?_eq_some_iff.1 hv).1
            simpa [apRec] using this
          have h9 := (World.cells?_some hcs).2.2 i (by omega)
          rw [add_add] at h9
          rw [h9]
          exact hv
      · exact ⟨Ap0, fun h => absurd h hj⟩
    obtain ⟨f, hf⟩ := Classical.axiomOfChoice each
    refine ⟨some a, len, cap, (List.range len).map f, rfl, by simp, hl, hm, fun hn => ⟨a, rfl, ?_, fun j hj i v hv => ?_⟩, fun h => by cases h⟩
    · refine hlt (.cell a.block (a.off + 0)) (List.mem_append_left _ (MemPlace.mem_row.2 ⟨0, ?_, rfl⟩))
      rw [hc]; omega
    · have e : ((List.range len).map f).getD j apRec.d = f j := by simp [List.getD, hj]
      rw [e] at hv
      exact hf j hj i v hv
theorem open_aps {r : Reach} {b0 : Nat} {t e : TypeId} {f0 f1 f2 f3 : Field} {v : Value} {d : DataW H} {ps : List MemPlace} (ht : P.underlying t = some (.slice e)) (hs : P.underlying e = some (.struct #[f0, f1, f2, f3])) (hone : oneCellFields P #[f0, f1, f2, f3] = true) (hc : P.cellsOf e = 4)
    (u0 : P.underlying f0.type = some .string) (u1 : P.underlying f1.type = some .string) (u2 : P.underlying f2.type = some (.int .i64)) (u3 : P.underlying f3.type = some (.int .i64))
    (hval : Value.okWide P w r b0 t v) (hd : DataW.Trod enc P w 0 (fun _ => true) held t v d ps) (hlt : ∀ p ∈ ps, p.block < w.heap.size) :
    ∃ A n c L, v = .slice A n c ∧ RRow apRec w w.heap.size A n c L := by
  obtain ⟨a, len, cap, rfl⟩ := okWide_slice ht hval
  obtain ⟨fuel, hf⟩ := hd
  exact open_aps_in ht hs hone hc u0 u1 u2 u3 (by simpa [Value.cells] using hf) hlt
end
end Go.Proofs.Ytoomgbddfcmjnaa
