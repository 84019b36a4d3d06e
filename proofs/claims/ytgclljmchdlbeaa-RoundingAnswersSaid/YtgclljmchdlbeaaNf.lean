/- Rounding: the search, as mathematics, and what it changes. -/
import Derived.Test.YtgclljmchdlbeaaNe
namespace Go.Proofs.Ytgclljmchdlbeaa
open Go.RowKit
/-- the first choice of multiples that F accepts -/
def Rd.find (F : List Int → Bool) (b : Int) : List Int → List Int → Option (List Int)
  | p, [] => if F p then some p else none
  | p, x :: l => (Rd.mult x b).findSome? fun y => Rd.find F b (p ++ [y]) l
/-- only the blocks g and f may have changed -/
structure K2 (g f : Nat) (w w' : World) : Prop where
  os : w'.os = w.os
  tape : w'.tape = w.tape
  output : w'.output = w.output
  size : w.heap.size ≤ w'.heap.size
  block : ∀ j, j < w.heap.size → j ≠ g → j ≠ f → w'.heap[j]? = w.heap[j]?
theorem K2.refl (g f : Nat) (w : World) : K2 g f w w := ⟨rfl, rfl, rfl, Nat.le_refl _, fun _ _ _ _ => rfl⟩
theorem K2.trans {g f : Nat} {a b c : World} (h : K2 g f a b) (k : K2 g f b c) : K2 g f a c :=
  ⟨k.os.trans h.os, k.tape.trans h.tape, k.output.trans h.output, Nat.le_trans h.size k.size, fun j hj h1 h2 => (k.block j (Nat.lt_of_lt_of_le hj h.size) h1 h2).trans (h.block j hj h1 h2)⟩
theorem K2.below {g f : Nat} {w w' : World} (h : Below w.heap.size w w') : K2 g f w w' := ⟨h.os, h.tape, h.output, h.size, fun j hj _ _ => h.block j hj⟩
theorem K2.grownG {g f : Nat} {w w' : World} (h : w.grownBy w' (some g)) : K2 g f w w' := ⟨h.os, h.tape, h.output, h.size, fun j hj h1 _ => h.block j hj (fun e => h1 (by injection e))⟩
theorem K2.grownF {g f : Nat} {w w' : World} (h : w.grownBy w' (some f)) : K2 g f w w' := ⟨h.os, h.tape, h.output, h.size, fun j hj _ h1 => h.block j hj (fun e => h1 (by injection e))⟩
theorem K2.belowB {g f B : Nat} {w0 w w' : World} (h : K2 g f w w') (hb : Below B w0 w) (hB : B ≤ w.heap.size) (hg : B ≤ g) (hf : B ≤ f) : Below B w0 w' :=
  hb.trans ⟨h.os, h.tape, h.output, h.size, fun j hj => h.block j (by omega) (by omega) (by omega)⟩
theorem K2.heap {g f j : Nat} {w w' : World} (h : K2 g f w w') {o : Obj} (ho : w.heap[j]? = some o) (h1 : j ≠ g) (h2 : j ≠ f) : w'.heap[j]? = some o := (h.block j (Array.getElem?_eq_some_iff.1 ho).1 h1 h2).trans ho
theorem Own.k2 {g f q : Nat} {w w' : World} {base n c : Nat} {e : TypeId} {k : IntKind} {l : List Int} (h : Own w base e k (.slice (some ⟨q, 0, none⟩) n c) l) (hk : K2 g f w w') (h1 : q ≠ g) (h2 : q ≠ f) : Own w' base e k (.slice (some ⟨q, 0, none⟩) n c) l := by
  obtain ⟨hh, ⟨hv, _⟩ | ⟨g', cap, cur, hv, hg, hheap, r⟩⟩ := h
  · cases hv
  · have e1 : g' = q := by injection hv with hv; injection hv with hv; injection hv with hv; exact hv.symm
    subst e1
    exact ⟨hh, .inr ⟨g', cap, cur, hv, hg, hk.heap hheap h1 h2, r⟩⟩
/-- where the search's variables stand -/
structure Rd.Cx where
  bt : Nat
  bc : Nat
  br : Nat
  bb : Nat
  bf : Nat
  by_ : Nat
  g : Nat
  base : Nat
  A : Option Addr
  k : Nat
  c : Nat
  n : Nat
  b : Int
  t : List Int
def Rd.ptr (q : Nat) : Value := .pointer (some ⟨q, 0, none⟩)
def Rd.Cx.fn (C : Rd.Cx) : Value := .func (.func 40) #[] #[.pointer (some ⟨C.bt, 0, none⟩), .pointer (some ⟨C.bc, 0, none⟩), .pointer (some ⟨C.br, 0, none⟩), .pointer (some ⟨C.bb, 0, none⟩), .pointer (some ⟨C.bf, 0, none⟩), .pointer (some ⟨C.by_, 0, none⟩)]
def Rd.Cx.F (C : Rd.Cx) (p : List Int) : Bool := Rd.fits C.n C.k C.t p C.b
structure Rd.Cx.Ok (C : Rd.Cx) (w0 : World) : Prop where
  n1 : 1 ≤ C.n
  n2 : C.n ≤ 12
  k1 : 1 ≤ C.k
  k2 : C.k ≤ 12
  b1 : 1 ≤ C.b
  b2 : C.b ≤ 20
  len : C.t.length = C.k
  sm : ∀ x ∈ C.t, 0 ≤ x ∧ x ≤ 1000000
  nums : Nums w0 .i64 C.base C.A C.k C.c C.t
  hg : C.base ≤ C.g
  hf : C.base ≤ C.bf
  ne : C.bt ≠ C.bf ∧ C.bc ≠ C.bf ∧ C.br ≠ C.bf ∧ C.bb ≠ C.bf ∧ C.by_ ≠ C.bf ∧ C.g ≠ C.bf
  ng : C.bt ≠ C.g ∧ C.bc ≠ C.g ∧ C.br ≠ C.g ∧ C.bb ≠ C.g ∧ C.by_ ≠ C.g
/-- the search's variables -/
structure Rd.St (C : Rd.Cx) (w0 w : World) (ρ : List Int) (φ : Value) : Prop where
  bel : Below C.base w0 w
  sz : C.base ≤ w.heap.size
  ht : w.heap[C.bt]? = some (.cells #[.slice C.A C.k C.c] 22 (0, 0))
  hc : w.heap[C.bc]? = some (.cells #[.int .i64 C.n] 3 (0, 0))
  hr : w.heap[C.br]? = some (.cells #[.slice (some ⟨C.g, 0, none⟩) C.k C.k] 22 (0, 0))
  hb : w.heap[C.bb]? = some (.cells #[.int .i64 C.b] 3 (0, 0))
  hf : w.heap[C.bf]? = some (.cells #[φ] 22 (0, 0))
  hy : w.heap[C.by_]? = some (.cells #[C.fn] 68 (0, 0))
  row : Own w C.base 3 .i64 (.slice (some ⟨C.g, 0, none⟩) C.k C.k) ρ
  len : ρ.length = C.k
  small : ∀ x ∈ ρ, -2000000 ≤ x ∧ x ≤ 2000000
theorem Rd.St.below {C : Rd.Cx} {w0 w w' : World} {ρ : List Int} {φ : Value} (h : Rd.St C w0 w ρ φ) (hb : Below w.heap.size w w') : Rd.St C w0 w' ρ φ := by
  have r : ∀ {j : Nat} {o : Obj}, w.heap[j]? = some o → w'.heap[j]? = some o := fun ho => (hb.block _ (Array.getElem?_eq_some_iff.1 ho).1).trans ho
  exact ⟨h.bel.trans (hb.mono h.sz), Nat.le_trans h.sz hb.size, r h.ht, r h.hc, r h.hr, r h.hb, r h.hf, r h.hy, h.row.below hb, h.len, h.small⟩
theorem heap_cell0 {w : World} {j : Nat} {v : Value} {t : TypeId} {fr : Nat × Nat} (h : w.heap[j]? = some (.cells #[v] t fr)) : w.cell? ⟨j, 0, none⟩ = some v := by simp [World.cell?, h]
theorem heap_thaw0 {w : World} {j : Nat} {v : Value} {t : TypeId} (h : w.heap[j]? = some (.cells #[v] t (0, 0))) : w.frozen? ⟨j, 0, none⟩ = false := by simp [World.frozen?, h]
/-- a store into the row that is being made -/
theorem Rd.St.set {C : Rd.Cx} {w0 w : World} {ρ : List Int} {φ : Value} (h : Rd.St C w0 w ρ φ) (o : C.Ok w0) {i : Nat} (x : Int) (hx : -2000000 ≤ x ∧ x ≤ 2000000) : Rd.St C w0 (w.setCell ⟨C.g, i, none⟩ (.int .i64 x)) (ρ.set i x) φ ∧ K2 C.g C.bf w (w.setCell ⟨C.g, i, none⟩ (.int .i64 x)) := by
  have s := h.row.store i x
  have k : K2 C.g C.bf w (w.setCell ⟨C.g, i, none⟩ (.int .i64 x)) := K2.grownG s.2
  refine ⟨⟨k.belowB h.bel h.sz o.hg o.hf, Nat.le_trans h.sz k.size, k.heap h.ht o.ng.1 o.ne.1, k.heap h.hc o.ng.2.1 o.ne.2.1, k.heap h.hr o.ng.2.2.1 o.ne.2.2.1, k.heap h.hb o.ng.2.2.2.1 o.ne.2.2.2.1, ?_, k.heap h.hy o.ng.2.2.2.2 o.ne.2.2.2.2.1, s.1, by rw [List.length_set]; exact h.len, fun y hy => ?_⟩, k⟩
  · rw [s.2.block _ (Array.getElem?_eq_some_iff.1 h.hf).1 (fun e => o.ne.2.2.2.2.2 (by injection e with e; exact e.symm))]
    exact h.hf
  · rcases List.mem_or_eq_of_mem_set hy with hy | rfl
    · exact h.small y hy
    · exact hx
/-- what a search gives -/
def Rd.Post (C : Rd.Cx) (w0 w : World) (p l : List Int) (e : Ending) (w' : World) : Prop :=
  ∃ ρ', ρ'.take p.length = p ∧ K2 C.g C.bf w w' ∧ ((Rd.find C.F C.b p l = none ∧ e = .returned (.bool false) ∧ Rd.St C w0 w' ρ' (.slice none 0 0)) ∨
    ∃ r v, Rd.find C.F C.b p l = some r ∧ e = .returned (.bool true) ∧ Rd.St C w0 w' ρ' v ∧ Own w' C.base 3 .i64 v r)
def Rd.Tries (C : Rd.Cx) (w0 : World) (i : Nat) : Prop := ∀ w ρ, Rd.St C w0 w ρ (.slice none 0 0) → Calls Try.prog 40 #[.int .i64 i, .pointer (some ⟨C.bt, 0, none⟩), .pointer (some ⟨C.bc, 0, none⟩), .pointer (some ⟨C.br, 0, none⟩), .pointer (some ⟨C.bb, 0, none⟩), .pointer (some ⟨C.bf, 0, none⟩), .pointer (some ⟨C.by_, 0, none⟩)] w (Rd.Post C w0 w (ρ.take i) (C.t.drop i))
set_option maxRecDepth 100000 in
set_option maxHeartbeats 1600000 in
theorem inner34 (C : Rd.Cx) (w0 : World) (o : C.Ok w0) (i : Nat) (hi : i < C.k) (hT : Rd.Tries C w0 (i + 1)) (bi : Nat) (hbi : bi ≠ C.g ∧ bi ≠ C.bf) (w : World) (ρ : List Int) (h : Rd.St C w0 w ρ (.slice none 0 0)) (hb : w.heap[bi]? = some (.cells #[.int .i64 i] 3 (0, 0))) (y : Int) (hy : -2000000 ≤ y ∧ y ≤ 2000000) :
    Calls Try.prog 45 #[.int .i64 y, .pointer (some ⟨C.br, 0, none⟩), .pointer (some ⟨bi, 0, none⟩), .pointer (some ⟨C.by_, 0, none⟩)] w (Rd.Post C w0 w (ρ.take i ++ [y]) (C.t.drop (i + 1))) := by
  have c1 := heap_cell0 h.hr
  have c2 := heap_cell0 hb
  have hk12 := o.k2
  have i1 : (0 : Int) ≤ (i : Int) := by omega
  have i2 : (i : Int) < (C.k : Int) := by omega
  obtain ⟨W2, hW2⟩ : ∃ W2, w.setCell ⟨C.g, i, none⟩ (.int .i64 y) = W2 := ⟨_, rfl⟩
  have hs := h.set (i := i) o y hy
  rw [hW2] at hs
  have c3 : W2.cell? ⟨C.by_, 0, none⟩ = some (.func (.func 40) #[] #[.pointer (some ⟨C.bt, 0, none⟩), .pointer (some ⟨C.bc, 0, none⟩), .pointer (some ⟨C.br, 0, none⟩), .pointer (some ⟨C.bb, 0, none⟩), .pointer (some ⟨C.bf, 0, none⟩), .pointer (some ⟨C.by_, 0, none⟩)]) := heap_cell0 hs.1.hy
  have c4 := heap_cell0 (hs.2.heap hb hbi.1 hbi.2)
  have fz := h.row.thaw i
  have cg := h.row.cell (j := i) (by rw [h.len]; exact hi)
  have HS := Lib.hid hs
  have H := Lib.hid h
  have HT := Lib.hid hT
  clear h hs hb hT
  go_enter Try.func45, Try.ntmps45
  go_wp2_with fail
  refine (HT.out W2 (ρ.set i y) HS.out.1).mono ?_; rintro e w2 ⟨ρ', hr, hk, hc⟩
  have HP := Lib.hid (show ρ'.take (ρ.take i ++ [y]).length = ρ.take i ++ [y] ∧ K2 C.g C.bf w w2 from by
    have e1 : (ρ.set i y).take (i + 1) = ρ.take i ++ [y] := take_set_succ ρ i y (by rw [H.out.len]; exact hi)
    rw [e1] at hr
    exact ⟨hr, HS.out.2.trans hk⟩)
  have e1 : (ρ.set i y).take (i + 1) = ρ.take i ++ [y] := take_set_succ ρ i y (by rw [H.out.len]; exact hi)
  rw [e1] at hc
  clear hr hk e1
  rcases hc with ⟨hf, rfl, hs⟩ | ⟨r, v, hf, rfl, hs, ho⟩
  · have HF := Lib.hid (And.intro hf hs)
    clear hf hs
    go_wp2_with fail
    go_ret
    exact ⟨ρ', HP.out.1, HP.out.2, .inl ⟨HF.out.1, rfl, HF.out.2⟩⟩
  · have HF := Lib.hid (And.intro hf (And.intro hs ho))
    clear hf hs ho
    go_wp2_with fail
    go_ret
    exact ⟨ρ', HP.out.1, HP.out.2, .inr ⟨r, v, HF.out.1, rfl, HF.out.2.1, HF.out.2.2⟩⟩
end Go.Proofs.Ytgclljmchdlbeaa
