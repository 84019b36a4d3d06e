/- Rows of records: slices of structs of k plain cells, read and made by append. -/
import Derived.Test.YtoomgbddfcmjnaaGi
import Derived.Test.YtoomgbddfcmjnaaMat
import Derived.Test.YtoomgbddfcmjnaaDw
import Derived.Lib.Hide
namespace Go.Proofs.Ytoomgbddfcmjnaa
open Go.RowKit
theorem addr_zero9 (g j : Nat) : (⟨g, 0, none⟩ : Addr).add j = ⟨g, j, none⟩ := by unfold Addr.add; by_cases h : j = 0 <;> simp [h]
/-- a kind of records: their element type, and the cells of each -/
structure Rec (α : Type) where
  k : Nat
  d : α
  ty : TypeId
  cells : α → List Value
  len : ∀ x, (cells x).length = k
  pos : 0 < k
  one : ∀ x, ∀ u ∈ cells x, u.oneCell' = true
/-- a slice of records that reads as a list -/
structure RRow {α : Type} (R : Rec α) (w : World) (B : Nat) (A : Option Addr) (n c : Nat) (L : List α) : Prop where
  len : L.length = n
  cap : n ≤ c
  max : c ≤ maxLen
  cells : 0 < n → ∃ ad, A = some ad ∧ ad.block < B ∧ ∀ j, j < n → ∀ i v, (R.cells (L.getD j R.d))[i]? = some v → w.cell? (ad.add (j * R.k + i)) = some v
  zero : A = none → c = 0
section
variable {α : Type} {R : Rec α}
theorem RRow.nil (w : World) (B : Nat) : RRow R w B none 0 0 [] := ⟨rfl, Nat.le_refl _, by simp [maxLen], fun h => by omega, fun _ => rfl⟩
theorem RRow.keep {w w' : World} {B B' : Nat} {A : Option Addr} {n c : Nat} {L : List α} (h : RRow R w B A n c L) (hb : Below B w w') (hB : B ≤ B') : RRow R w' B' A n c L :=
  ⟨h.len, h.cap, h.max, fun hn => by
    obtain ⟨ad, e, hlt, hc⟩ := h.cells hn
    exact ⟨ad, e, by omega, fun j hj i v hv => (hb.cell (by rw [add_block]; exact hlt)).trans (hc j hj i v hv)⟩, h.zero⟩
theorem RRow.first {w : World} {B : Nat} {A : Option Addr} {n c m : Nat} {L : List α} (h : RRow R w B A n c L) (hm : m ≤ n) : RRow R w B A m c (L.take m) :=
  ⟨by rw [List.length_take, h.len]; omega, by have := h.cap; omega, h.max, fun hn => by
    obtain ⟨g, e, hlt, hc⟩ := h.cells (by omega)
    refine ⟨g, e, hlt, fun j hj i v hv => hc j (by omega) i v ?_⟩
    rw [← hv]
    congr 2
    have h1 : j < L.length := by rw [h.len]; omega
    simp [List.getD, hj, h1], h.zero⟩
theorem RRow.cut {w : World} {B : Nat} {A : Option Addr} {n c m : Nat} {L : List α} (h : RRow R w B A n c L) (hm : m ≤ n) : RRow R w B (if c = m then A else A.map (·.add (m * R.k))) (n - m) (c - m) (L.drop m) := by
  have hcap := h.cap
  refine ⟨by rw [List.length_drop, h.len], by omega, by have := h.max; omega, fun hn => ?_, fun hz => ?_⟩
  · obtain ⟨ad, rfl, hb, hc⟩ := h.cells (by omega)
    rw [if_neg (by omega)]
    refine ⟨ad.add (m * R.k), rfl, by rw [add_block]; exact hb, fun j hj i v hv => ?_⟩
    rw [add_add, ← Nat.add_assoc, ← Nat.add_mul]
    refine hc (m + j) (by omega) i v ?_
    rw [← hv]
    congr 2
    simp [List.getD, List.getElem?_drop]
  · by_cases he : c = m
    · omega
    · rw [if_neg he] at hz
      rcases A with _ | ad
      · have := h.zero rfl; omega
      · cases hz
def Rec.flat (R : Rec α) (L : List α) : List Value := L.flatMap R.cells
theorem Rec.flat_len (R : Rec α) (L : List α) : (R.flat L).length = L.length * R.k := by
  induction L with
  | nil => simp [Rec.flat]
  | cons p L ih =>
    simp only [Rec.flat, List.flatMap_cons, List.length_append, List.length_cons] at *
    rw [ih, R.len, Nat.add_mul]; omega
theorem Rec.flat_append (R : Rec α) (L M : List α) : R.flat (L ++ M) = R.flat L ++ R.flat M := by simp [Rec.flat]
theorem Rec.flat_get (R : Rec α) : ∀ (L : List α) (j : Nat) (_ : j < L.length) (i : Nat) (_ : i < R.k), (R.flat L)[j * R.k + i]? = (R.cells (L.getD j R.d))[i]?
  | p :: L, 0, _, i, hi => by
    simp only [Rec.flat, List.flatMap_cons]
    rw [List.getElem?_append_left (by rw [R.len]; omega)]
    simp
  | p :: L, j + 1, h, i, hi => by
    have := Rec.flat_get R L j (by simpa using h) i hi
    simp only [Rec.flat, List.flatMap_cons]
    rw [List.getElem?_append_right (by rw [R.len, Nat.add_mul]; omega), R.len, show (j + 1) * R.k + i - R.k = j * R.k + i by rw [Nat.add_mul]; omega]
    simpa [Rec.flat] using this
/-- v is nil, or a row of the call's own from block base on, that holds the records L -/
def ROwn (R : Rec α) (w : World) (base : Nat) (v : Value) (L : List α) : Prop := w.ownsRow base R.ty R.k v L.length (R.flat L)
theorem ROwn.nil (w : World) (base : Nat) : ROwn R w base (.slice none 0 0) [] := ⟨by simp [Rec.flat], .inl ⟨rfl, rfl⟩⟩
theorem ROwn.alloc {w : World} {base : Nat} {v : Value} {L : List α} (h : ROwn R w base v L) (o : Obj) : ROwn R (w.alloc o) base v L := World.ownsRow.alloc h o
theorem ROwn.base_le {w : World} {base base' : Nat} {v : Value} {L : List α} (h : ROwn R w base v L) (hb : base' ≤ base) : ROwn R w base' v L := by
  obtain ⟨h1, h2 | ⟨g, cap, cur, hv, hg, r⟩⟩ := h
  · exact ⟨h1, .inl h2⟩
  · exact ⟨h1, .inr ⟨g, cap, cur, hv, by omega, r⟩⟩
theorem ROwn.below {w w' : World} {base : Nat} {v : Value} {L : List α} (h : ROwn R w base v L) (hb : Below w.heap.size w w') : ROwn R w' base v L := by
  obtain ⟨h1, h2 | ⟨g, cap, cur, hv, hg, hheap, r⟩⟩ := h
  · exact ⟨h1, .inl h2⟩
  · exact ⟨h1, .inr ⟨g, cap, cur, hv, hg, (hb.block g (Array.getElem?_eq_some_iff.1 hheap).1).trans hheap, r⟩⟩
theorem ROwn.grow {w0 w w' : World} {base B : Nat} {v : Value} {L : List α} (h : ROwn R w base v L) (hb : Below B w0 w) (hg : w.grownBy w' v.ownBlock) (hB : B ≤ w.heap.size) (hB' : B ≤ base) : Below B w0 w' :=
  hb.grown hg hB (fun g hg' => by have := (World.ownsRow.lt h g hg').1; omega)
theorem ROwn.row {w : World} {base : Nat} {v : Value} {L : List α} (h : ROwn R w base v L) : ∃ A n c, v = .slice A n c ∧ n = L.length ∧ RRow R w w.heap.size A n c L := by
  have h0 := h
  obtain ⟨h1, ⟨rfl, hn⟩ | ⟨g, cap, cur, rfl, hb, hh, hle, hmx, _⟩⟩ := h
  · exact ⟨none, 0, 0, rfl, hn.symm, by rw [hn], Nat.le_refl _, by simp [maxLen], fun h9 => by omega, fun _ => rfl⟩
  · refine ⟨_, _, cap, rfl, rfl, rfl, hle, hmx, fun _ => ⟨⟨g, 0, none⟩, rfl, (Array.getElem?_eq_some_iff.1 hh).1, fun j hj i v hv => ?_⟩, fun h9 => by cases h9⟩
    have hi : i < R.k := by
      have := (List.getElem?_eq_some_iff.1 hv).1
      rwa [R.len] at this
    have hlt : j * R.k + i < L.length * R.k := by
      have : (j + 1) * R.k ≤ L.length * R.k := Nat.mul_le_mul_right _ hj
      rw [Nat.add_mul] at this; omega
    have hc := World.ownsRow.cellAt h0 (j * R.k + i) hlt
    rw [addr_zero9, hc, R.flat_get L j hj i hi, hv]
/-- a literal's block is a row of one's own -/
theorem ROwn.lit {w : World} {base g : Nat} {L : List α} (h : w.heap[g]? = some (.cells (R.flat L).toArray R.ty (0, 0))) (hb : base ≤ g) (hl : L.length ≤ 1000) : ROwn R w base (.slice (some ⟨g, 0, none⟩) L.length L.length) L :=
  ⟨R.flat_len L, .inr ⟨g, L.length, (R.flat L).toArray, rfl, hb, h, Nat.le_refl _, by simp only [maxLen]; omega, by rw [← R.flat_len]; simp, by rw [← R.flat_len]; simp⟩⟩
theorem RRow.lit {w : World} {g : Nat} {L : List α} (h : w.heap[g]? = some (.cells (R.flat L).toArray R.ty (0, 0))) (hl : L.length ≤ 1000) : RRow R w w.heap.size (some ⟨g, 0, none⟩) L.length L.length L := by
  obtain ⟨A, n, c, e, _, hr⟩ := (ROwn.lit h (Nat.zero_le _) hl).row
  injection e with e1 e2 e3
  subst e1 e2 e3
  exact hr
/-- rows of records stay when the choices turn -/
theorem ROwn.cod {w w' : World} {base b2 g : Nat} {v : Value} {L : List α} (h : ROwn R w b2 v L) (hc : Cod w base g) (hg : w.grownBy w' (some g)) (hne : R.ty ≠ 91) : ROwn R w' b2 v L := by
  obtain ⟨A, n, c, i, l, _, _, _, h4, _⟩ := hc
  refine World.ownsRow.kept h hg ?_
  obtain ⟨_, ⟨rfl, _⟩ | ⟨g', cap, cur, rfl, _, hh, _⟩⟩ := h
  · exact .inl rfl
  · refine .inr fun e9 => ?_
    simp [Value.ownBlock] at e9
    subst e9
    rw [hh] at h4
    injection h4 with h4
    injection h4 with _ ht
    exact hne ht
end
section
variable {P : Program} (w : World) {α : Type} (R : Rec α)
/-- append(v, x...) of records -/
theorem app_recs {ops : Array Oper} {rest : List Oper} {o : Oper} {a : Act} {Q : Exit → Act → World → Prop} (hgd : o.guard = none) (s x : Operand) (t : TypeId)
    (ho : o.op = .call { callee := .builtin .append, args := #[s, x], argTypes := #[t, t] })
    (base : Nat) (z : Value) (bytes : Nat) (hinfo : (P.info? R.ty).map (fun i => (i.zero, i.size, i.bytes)) = some (some z, R.k, bytes)) (hz9 : z.cells.size = R.k) (hby : bytes ≤ 1000) (ht : P.underlying t = some (.slice R.ty))
    (v : Value) (L : List α) (hs : a.eval s = v) (hown : ROwn R w base v L)
    (B : Nat) (A : Option Addr) (m c : Nat) (M : List α) (hx : a.eval x = .slice A m c) (hn : RRow R w B A m c M)
    (h63 : L.length + m ≤ 1000) (hbase : base ≤ w.heap.size)
    (h : ∀ v' w', ROwn R w' base v' (L ++ M) → w.grownBy w' v.ownBlock → wpList P ops Q rest (a.put o.dst v') w') : wpList P ops Q (o :: rest) a w := by
  obtain ⟨i, hi, hz, hz1, hz2⟩ := info_parts hinfo
  rcases A with _ | ad
  · have hm : m = 0 := by
      rcases Nat.eq_zero_or_pos m with h0 | h0
      · exact h0
      · obtain ⟨ad, h, _⟩ := hn.cells h0; cases h
    subst hm
    have hc := hn.zero rfl
    subst hc
    have hl2 : M = [] := List.eq_nil_of_length_eq_zero hn.len
    subst hl2
    exact wpList_append_own_none hgd s x t ho base R.ty i R.k ht hi v L.length (R.flat L) hs hown hx (h v w (by simpa using hown) (World.grownBy.refl w _))
  · refine wpList_append_own w hgd s x t ho base R.ty i _ R.k bytes ht hi hz hz1 hz2 hz9 R.pos v L.length (R.flat L) hs hown ad m c (R.flat M) hx ?_ ?_ ?_ (by simp only [maxLen]; omega) ?_ hbase ?_
    · rw [R.flat_len, hn.len]
    · intro j u hu
      have hj := (List.getElem?_eq_some_iff.1 hu).1
      rw [R.flat_len] at hj
      have hq : j / R.k < M.length := Nat.div_lt_of_lt_mul (by rw [Nat.mul_comm]; exact hj)
      have hi7 : j % R.k < R.k := Nat.mod_lt _ R.pos
      have hjj : j = j / R.k * R.k + j % R.k := by rw [Nat.mul_comm]; exact (Nat.div_add_mod _ _).symm
      rw [hjj, R.flat_get M _ hq _ hi7] at hu
      obtain ⟨ad', e, _, hc⟩ := hn.cells (by rw [← hn.len]; exact Nat.lt_of_le_of_lt (Nat.zero_le _) hq)
      injection e with e
      subst e
      rw [hjj]
      exact hc _ (by rw [← hn.len]; exact hq) _ _ hu
    · intro u hu
      obtain ⟨x, _, hx2⟩ := List.mem_flatMap.1 hu
      exact R.one x u hx2
    · exact Nat.le_trans (Nat.mul_le_mul h63 hby) (by decide)
    · intro v' w' h2 h3 _
      refine h v' w' ?_ h3
      unfold ROwn
      rw [R.flat_append, List.length_append, hn.len]
      exact h2
end
end Go.Proofs.Ytoomgbddfcmjnaa
