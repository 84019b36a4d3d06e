/- A slice of slices of numbers that reads as a list of lists: [][]byte as an argument. -/
import Derived.Test.YtojeendofpallaaOpen
namespace Go.Proofs.Ytojeendofpallaa
open Go.ChangeShapes Go.WideShapes Go.ChangeAt Go.RowKit
structure NumRows (w : World) (k : IntKind) (B : Nat) (A : Option Addr) (n c : Nat) (ls : List (List Int)) : Prop where
  len : ls.length = n
  cap : n ≤ c
  max : c ≤ maxLen
  cells : 0 < n → ∃ ad, A = some ad ∧ ad.block < B ∧ ∀ j, j < n → ∃ Aj nj cj, w.cell? (ad.add j) = some (.slice Aj nj cj) ∧ Nums w k B Aj nj cj (ls.getD j [])
theorem NumRows.keep {w w' : World} {k : IntKind} {B B' : Nat} {A : Option Addr} {n c : Nat} {ls : List (List Int)} (h : NumRows w k B A n c ls) (hb : Below B w w') (hB : B ≤ B') : NumRows w' k B' A n c ls :=
  ⟨h.len, h.cap, h.max, fun hn => by
    obtain ⟨ad, e, hlt, hc⟩ := h.cells hn
    refine ⟨ad, e, by omega, fun j hj => ?_⟩
    obtain ⟨Aj, nj, cj, h1, h2⟩ := hc j hj
    exact ⟨Aj, nj, cj, by rw [hb.cell (by rw [add_block]; exact hlt)]; exact h1, h2.keep hb hB⟩⟩
section
variable {H : Type} {enc : TypeId × Value → H} {P : Program} {w : World} {held : Bool}
theorem open_rows_in {t e e2 : TypeId} {k : IntKind} {fuel : Nat} {v : Value} {x : DataW H × List MemPlace} {B : Nat} (ht : P.underlying t = some (.slice e)) (he : P.underlying e = some (.slice e2)) (he2 : P.underlying e2 = some (.int k)) (hc : P.cellsOf e = 1) (hc2 : P.cellsOf e2 = 1)
    (h : DataW.trod enc P w 0 (fun _ => true) held fuel t [v] = some x) (hlt : ∀ p ∈ x.2, p.block < B) :
    ∃ A n c ls, v = .slice A n c ∧ NumRows w k B A n c ls := by
  rcases DataW.trod_slice ht h with ⟨h1, _⟩ | ⟨a, len, cap, elems, rest, m, rfl, h1, rfl, hb, hl, hm, hlen, hel, _, _⟩
  · simp at h1; subst h1
    exact ⟨none, 0, 0, [], rfl, rfl, Nat.le_refl _, by simp [maxLen], fun h => absurd h (by omega)⟩
  · simp at h1; subst h1
    have each : ∀ j : Nat, ∃ q : Option Addr × Nat × Nat × List Int, j < len → w.cell? (a.add j) = some (.slice q.1 q.2.1 q.2.2.1) ∧ Nums w k B q.1 q.2.1 q.2.2.1 q.2.2.2 := by
      intro j
      by_cases hj : j < len
      · have hj' : j < elems.length := by omega
        have h2 := hel j hj
        rw [hc, Nat.mul_one, List.getElem?_eq_getElem hj', Option.bind_eq_some_iff] at h2
        obtain ⟨cs', hcs, hy⟩ := h2
        have h3 : ∃ u, cs' = [u] := by
          rcases DataW.trod_slice he hy with ⟨h4, _⟩ | ⟨_, _, _, _, _, _, _, h4, _⟩
          · exact ⟨_, h4⟩
          · exact ⟨_, h4⟩
        obtain ⟨u, rfl⟩ := h3
        obtain ⟨Aj, nj, cj, lj, rfl, hn⟩ := open_nums_in (B := B) he he2 hc2 hy (fun p hp => hlt p (List.mem_append_right _ (List.mem_flatMap.2 ⟨_, List.mem_append_left _ (List.getElem_mem hj'), hp⟩)))
        exact ⟨(Aj, nj, cj, lj), fun _ => ⟨cell_of_cells?_one hcs, hn⟩⟩
      · exact ⟨(none, 0, 0, []), fun h => absurd h hj⟩
    obtain ⟨f, hf⟩ := Classical.axiomOfChoice each
    refine ⟨some a, len, cap, (List.range len).map fun j => (f j).2.2.2, rfl, by simp, hl, hm, fun hn => ⟨a, rfl, ?_, fun j hj => ⟨_, _, _, (hf j hj).1, ?_⟩⟩⟩
    · refine hlt (.cell a.block (a.off + 0)) (List.mem_append_left _ (MemPlace.mem_row.2 ⟨0, ?_, rfl⟩))
      rw [hc]; omega
    · have e : ((List.range len).map fun j => (f j).2.2.2).getD j [] = (f j).2.2.2 := by simp [List.getD, hj]
      rw [e]
      exact (hf j hj).2
theorem open_rows {r : Reach} {b0 : Nat} {t e e2 : TypeId} {k : IntKind} {v : Value} {d : DataW H} {ps : List MemPlace} (ht : P.underlying t = some (.slice e)) (he : P.underlying e = some (.slice e2)) (he2 : P.underlying e2 = some (.int k)) (hc : P.cellsOf e = 1) (hc2 : P.cellsOf e2 = 1)
    (hval : Value.okWide P w r b0 t v) (hd : DataW.Trod enc P w 0 (fun _ => true) held t v d ps) (hlt : ∀ p ∈ ps, p.block < w.heap.size) :
    ∃ A n c ls, v = .slice A n c ∧ NumRows w k w.heap.size A n c ls := by
  obtain ⟨a, len, cap, rfl⟩ := okWide_slice ht hval
  obtain ⟨fuel, hf⟩ := hd
  exact open_rows_in ht he he2 hc hc2 (by simpa [Value.cells] using hf) hlt
end
end Go.Proofs.Ytojeendofpallaa
