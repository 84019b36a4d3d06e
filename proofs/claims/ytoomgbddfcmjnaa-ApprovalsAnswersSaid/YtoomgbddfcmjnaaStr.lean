/- string(b) of a row of bytes. -/
import Derived.Test.YtoomgbddfcmjnaaOwn
import Derived.Laws.BytesArg
namespace Go.Proofs.Ytoomgbddfcmjnaa
open Go.RowKit
theorem Nums.str {P : Program} {w : World} {B : Nat} {A : Option Addr} {n c : Nat} {l : List Int} (h : Nums w .u8 B A n c l) (src dst e : TypeId)
    (hs : P.underlying src = some (.slice e)) (he : P.underlying e = some (.int .u8)) (hd : P.underlying dst = some .string) :
    (convert src dst (.slice A n c)).run P w = .ok (.string (strOfNums l)) w := by
  cases A with
  | none =>
    have hn : n = 0 := by
      rcases Nat.eq_zero_or_pos n with h0 | h0
      · exact h0
      · obtain ⟨a, ha, _⟩ := h.cells h0; cases ha
    have hl : l = [] := List.eq_nil_of_length_eq_zero (by rw [h.len, hn])
    subst hl
    rw [run_convert_bytes_nil w src e hs he n c dst hd]; rfl
  | some a =>
    have hlen := h.len
    have hl : (loadCells a n).run P w = .ok (l.map (Value.int .u8)).toArray w := by
      have := run_loadCells_list (P := P) w a (l.map (Value.int .u8)) (fun j v hj => by
        have hjl : j < l.length := by
          rcases Nat.lt_or_ge j l.length with h | h
          · exact h
          · simp [List.getElem?_eq_none (show (l.map (Value.int .u8)).length ≤ j by simpa using h)] at hj
        obtain ⟨a', ha, _, hc⟩ := h.cells (by omega)
        injection ha with ha; subst ha
        have := hc j (by omega)
        rw [this]
        simp [List.getElem?_eq_getElem hjl] at hj
        subst hj
        simp [List.getD, List.getElem?_eq_getElem hjl])
      simpa [hlen] using this
    rw [run_convert_bytes_string w src dst e _ n c hs he hd, run_bytesToString w _ n c l hl, foldl_push_bytes]
    simp [strOfNums, ByteArray.empty, ByteArray.emptyWithCapacity]
    rfl
/-- the four facts of a box of two cells -/
theorem box2 {w : World} {f t : Nat} {v0 v1 : Value} (h : w.heap[f]? = some (.cells #[v0, v1] t (0, 0))) :
    w.cell? ⟨f, 0, none⟩ = some v0 ∧ w.cell? ⟨f, 1, none⟩ = some v1 ∧ w.frozen? ⟨f, 0, none⟩ = false ∧ w.frozen? ⟨f, 1, none⟩ = false :=
  ⟨by simp [World.cell?, h], by simp [World.cell?, h], by simp [World.frozen?, h], by simp [World.frozen?, h]⟩
theorem box_below {w w' : World} {f t : Nat} {cs : Array Value} {fr : Nat × Nat} (h : w.heap[f]? = some (.cells cs t fr)) (hb : Below w.heap.size w w') : w'.heap[f]? = some (.cells cs t fr) := by
  rw [hb.block f ?_]
  · exact h
  · rcases Nat.lt_or_ge f w.heap.size with h' | h'
    · exact h'
    · rw [Array.getElem?_eq_none h'] at h; cases h
theorem box4 {w w' : World} {f t : Nat} {v0 v1 : Value} (h : w.heap[f]? = some (.cells #[v0, v1] t (0, 0))) (hb : Below w.heap.size w w') :
    w'.cell? ⟨f, 0, none⟩ = some v0 ∧ w'.cell? ⟨f, 1, none⟩ = some v1 ∧ w'.frozen? ⟨f, 0, none⟩ = false ∧ w'.frozen? ⟨f, 1, none⟩ = false ∧ f < w.heap.size := by
  obtain ⟨h1, h2, h3, h4⟩ := box2 (box_below h hb)
  refine ⟨h1, h2, h3, h4, ?_⟩
  rcases Nat.lt_or_ge f w.heap.size with h' | h'
  · exact h'
  · rw [Array.getElem?_eq_none h'] at h; cases h
theorem heap_old (w : World) (o o' : Obj) : ((w.alloc o).alloc o').heap[w.heap.size]? = some o := by
  show ((w.heap.push o).push o')[w.heap.size]? = some o
  rw [Array.getElem?_push_lt (by simp)]
  simp
theorem heap_new2 (w : World) (o o' : Obj) : ((w.alloc o).alloc o').heap[w.heap.size + 1]? = some o' := by
  have h := heap_alloc_new (w.alloc o) o'
  rwa [show (w.alloc o).heap.size = w.heap.size + 1 from by simp] at h
end Go.Proofs.Ytoomgbddfcmjnaa
