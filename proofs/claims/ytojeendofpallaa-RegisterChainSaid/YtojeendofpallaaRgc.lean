/- Register: rows of entries that a call makes for itself. -/
import Derived.Test.YtojeendofpallaaRgb
import Derived.Test.YtojeendofpallaaDw
import Derived.Test.YtojeendofpallaaIw
namespace Go.Proofs.Ytojeendofpallaa
open Go.RowKit
def Rg.flat (L : List Rg.En) : List Value := L.flatMap Rg.En.cells
theorem Rg.flat_len (L : List Rg.En) : (Rg.flat L).length = L.length * 7 := by
  induction L with
  | nil => rfl
  | cons p L ih => simp only [Rg.flat, List.flatMap_cons, List.length_append, List.length_cons] at *; simp only [Rg.En.cells, List.length_cons, List.length_nil]; omega
theorem Rg.flat_append (L M : List Rg.En) : Rg.flat (L ++ M) = Rg.flat L ++ Rg.flat M := by simp [Rg.flat]
theorem Rg.flat_get : ∀ (L : List Rg.En) (j : Nat) (_ : j < L.length) (i : Nat) (_ : i < 7), (Rg.flat L)[j * 7 + i]? = (Rg.En.cells (L.getD j Rg.En0))[i]?
  | p :: L, 0, _, i, hi => by
    simp only [Rg.flat, List.flatMap_cons]
    rw [List.getElem?_append_left (by simp [Rg.En.cells]; omega)]
    simp
  | p :: L, j + 1, h, i, hi => by
    have := Rg.flat_get L j (by simpa using h) i hi
    simp only [Rg.flat, List.flatMap_cons]
    rw [List.getElem?_append_right (by simp [Rg.En.cells]; omega), show (j + 1) * 7 + i - (Rg.En.cells p).length = j * 7 + i by simp [Rg.En.cells]; omega]
    simpa [Rg.flat] using this
/-- v is nil, or a row of the call's own from block base on, that holds the entries L -/
def EnOwn (w : World) (base : Nat) (v : Value) (L : List Rg.En) : Prop := w.ownsRow base 60 7 v L.length (Rg.flat L)
theorem EnOwn.nil (w : World) (base : Nat) : EnOwn w base (.slice none 0 0) [] := ⟨rfl, .inl ⟨rfl, rfl⟩⟩
theorem EnOwn.lit {w : World} {base g : Nat} (h : w.heap[g]? = some (.cells #[] 60 (0, 0))) (hb : base ≤ g) : EnOwn w base (.slice (some ⟨g, 0, none⟩) 0 0) [] :=
  ⟨rfl, .inr ⟨g, 0, #[], rfl, hb, h, Nat.le_refl _, by simp [maxLen], rfl, rfl⟩⟩
theorem EnOwn.alloc {w : World} {base : Nat} {v : Value} {L : List Rg.En} (h : EnOwn w base v L) (o : Obj) : EnOwn (w.alloc o) base v L := World.ownsRow.alloc h o
theorem EnOwn.base_le {w : World} {base base' : Nat} {v : Value} {L : List Rg.En} (h : EnOwn w base v L) (hb : base' ≤ base) : EnOwn w base' v L := by
  obtain ⟨h1, h2 | ⟨g, cap, cur, hv, hg, r⟩⟩ := h
  · exact ⟨h1, .inl h2⟩
  · exact ⟨h1, .inr ⟨g, cap, cur, hv, by omega, r⟩⟩
theorem EnOwn.below {w w' : World} {base : Nat} {v : Value} {L : List Rg.En} (h : EnOwn w base v L) (hb : Below w.heap.size w w') : EnOwn w' base v L := by
  obtain ⟨h1, h2 | ⟨g, cap, cur, hv, hg, hheap, r⟩⟩ := h
  · exact ⟨h1, .inl h2⟩
  · exact ⟨h1, .inr ⟨g, cap, cur, hv, hg, (hb.block g (Array.getElem?_eq_some_iff.1 hheap).1).trans hheap, r⟩⟩
theorem EnOwn.grow {w0 w w' : World} {base B : Nat} {v : Value} {L : List Rg.En} (h : EnOwn w base v L) (hb : Below B w0 w) (hg : w.grownBy w' v.ownBlock) (hB : B ≤ w.heap.size) (hB' : B ≤ base) : Below B w0 w' :=
  hb.grown hg hB (fun g hg' => by have := (World.ownsRow.lt h g hg').1; omega)
theorem EnOwn.row {w : World} {base : Nat} {v : Value} {L : List Rg.En} (h : EnOwn w base v L) (_ : L.length ≤ 1000) : ∃ A n c, v = .slice A n c ∧ EnRow w w.heap.size A n c L := by
  have h0 := h
  obtain ⟨h1, ⟨rfl, hn⟩ | ⟨g, cap, cur, rfl, hb, hh, hle, hmx, _⟩⟩ := h
  · exact ⟨none, 0, 0, rfl, by rw [hn], Nat.le_refl _, by simp [maxLen], fun h9 => by omega, fun _ => rfl⟩
  · refine ⟨_, _, cap, rfl, rfl, hle, hmx, fun _ => ⟨g, rfl, (Array.getElem?_eq_some_iff.1 hh).1, fun j hj i v hv => ?_⟩, fun h9 => by cases h9⟩
    have hi : i < 7 := by
      have := (List.getElem?_eq_some_iff.1 hv).1
      simpa [Rg.En.cells] using this
    have hc := World.ownsRow.cellAt h0 (j * 7 + i) (by omega)
    rw [hc, Rg.flat_get L j hj i hi, hv]
theorem entry_info : (Try.prog.info? 60).map (fun i => (i.zero, i.size, i.bytes)) = some (some (.agg #[.int .i64 0, .int .u64 0, .int .i64 0, .int .i64 0, .int .i64 0, .string ⟨#[]⟩, .int .u64 0]), 7, 64) := by kernel_rfl
section
variable {P : Program} (w : World)
/-- append(v, u...) of entries -/
theorem app_ents {ops : Array Oper} {rest : List Oper} {o : Oper} {a : Act} {Q : Exit → Act → World → Prop} (hgd : o.guard = none) (s x : Operand) (t : TypeId)
    (ho : o.op = .call { callee := .builtin .append, args := #[s, x], argTypes := #[t, t] })
    (base : Nat) (bytes : Nat) (hinfo : (P.info? 60).map (fun i => (i.zero, i.size, i.bytes)) = some (some (.agg #[.int .i64 0, .int .u64 0, .int .i64 0, .int .i64 0, .int .i64 0, .string ⟨#[]⟩, .int .u64 0]), 7, bytes)) (hby : bytes ≤ 1000) (ht : P.underlying t = some (.slice 60))
    (v : Value) (L : List Rg.En) (hs : a.eval s = v) (hown : EnOwn w base v L)
    (B : Nat) (A : Option Addr) (m c : Nat) (M : List Rg.En) (hx : a.eval x = .slice A m c) (hn : EnRow w B A m c M)
    (h63 : L.length + m ≤ 1000) (hbase : base ≤ w.heap.size)
    (h : ∀ v' w', EnOwn w' base v' (L ++ M) → w.grownBy w' v.ownBlock → wpList P ops Q rest (a.put o.dst v') w') : wpList P ops Q (o :: rest) a w := by
  obtain ⟨i, hi, hz, hz1, hz2⟩ := info_parts hinfo
  rcases A with _ | ad
  · have hm : m = 0 := by
      rcases Nat.eq_zero_or_pos m with h0 | h0
      · exact h0
      · obtain ⟨ad, h, _⟩ := hn.cells h0; cases h
    subst hm
    have hc := hn.zero rfl
    subst hc
    have hl2 : M = [] := List.eq_nil_of_length_eq_zero hn.len
    subst hl2
    exact wpList_append_own_none hgd s x t ho base 60 i 7 ht hi v L.length (Rg.flat L) hs hown hx (h v w (by simpa using hown) (World.grownBy.refl w _))
  · refine wpList_append_own w hgd s x t ho base 60 i _ 7 bytes ht hi hz hz1 hz2 rfl (by decide) v L.length (Rg.flat L) hs hown ad m c (Rg.flat M) hx ?_ ?_ ?_ (by simp only [maxLen]; omega) ?_ hbase ?_
    · rw [Rg.flat_len, hn.len]
    · intro j u hu
      have hj := (List.getElem?_eq_some_iff.1 hu).1
      rw [Rg.flat_len] at hj
      have hq : j / 7 < M.length := by omega
      have hi7 : j % 7 < 7 := by omega
      have hjj : j = j / 7 * 7 + j % 7 := by omega
      rw [hjj, Rg.flat_get M _ hq _ hi7] at hu
      obtain ⟨g', e, _, hc⟩ := hn.cells (by rw [← hn.len]; omega)
      injection e with e
      subst e
      rw [addr_zero, hjj]
      exact hc _ (by rw [← hn.len]; exact hq) _ _ hu
    · intro u hu
      obtain ⟨x, _, hx2⟩ := List.mem_flatMap.1 hu
      simp only [Rg.En.cells, List.mem_cons, List.not_mem_nil, or_false] at hx2
      rcases hx2 with rfl | rfl | rfl | rfl | rfl | rfl | rfl <;> rfl
    · exact Nat.le_trans (Nat.mul_le_mul h63 hby) (by decide)
    · intro v' w' h2 h3 _
      refine h v' w' ?_ h3
      unfold EnOwn
      rw [Rg.flat_append, List.length_append, hn.len]
      exact h2
end
end Go.Proofs.Ytojeendofpallaa
/- Register: the reference's Add. -/
namespace Go.Proofs.Ytojeendofpallaa
open Go.RowKit
def Rg.next (L : List Rg.En) (kind of out : Int) (txt : ByteArray) : Rg.En := ⟨(L.length : Int) + 1, Rg.before L L.length, kind, of, out, txt, Rg.lnk ((L.length : Int) + 1) (Rg.before L L.length) kind of out txt⟩
theorem Rg.Reg.snoc {L : List Rg.En} (h : Rg.Reg L) (hl : L.length < 60) {kind of out : Int} {txt : ByteArray} (ha : Rg.about L (Rg.next L kind of out txt) = 0) : Rg.Reg (L ++ [Rg.next L kind of out txt]) := by
  have hg : ∀ j, j < L.length → (L ++ [Rg.next L kind of out txt]).getD j Rg.En0 = L.getD j Rg.En0 := fun j hj => by simp [List.getD, List.getElem?_append_left hj]
  have hlast : (L ++ [Rg.next L kind of out txt]).getD L.length Rg.En0 = Rg.next L kind of out txt := by simp [List.getD]
  have hb : ∀ j, j ≤ L.length → Rg.before (L ++ [Rg.next L kind of out txt]) j = Rg.before L j := fun j hj => by
    unfold Rg.before
    split
    · rfl
    · rw [hg _ (by omega)]
  have split : ∀ j, j < (L ++ [Rg.next L kind of out txt]).length → j < L.length ∨ j = L.length := fun j hj => by
    rw [List.length_append, List.length_singleton] at hj; omega
  refine ⟨by rw [List.length_append, List.length_singleton]; omega, fun j hj => ?_, fun j hj => ?_, fun j hj => ?_, fun j hj => ?_⟩
  · rcases split j hj with h9 | rfl
    · rw [hg j h9]; exact h.num j h9
    · rw [hlast]; rfl
  · rcases split j hj with h9 | rfl
    · rw [hg j h9, hb j (by omega)]; exact h.bef j h9
    · rw [hlast, hb _ (Nat.le_refl _)]; rfl
  · rcases split j hj with h9 | rfl
    · rw [hg j h9]; exact h.lnk j h9
    · rw [hlast]; simp only [Rg.next]
  · rcases split j hj with h9 | rfl
    · rw [hg j h9, List.take_append_of_le_length (by omega)]; exact h.abt j h9
    · rw [hlast, List.take_left]; exact ha
theorem EnRow.lit {w : World} {g : Nat} {x : Rg.En} (h : w.heap[g]? = some (.cells (Rg.En.cells x).toArray 60 (0, 0))) : EnRow w w.heap.size (some ⟨g, 0, none⟩) 1 1 [x] :=
  ⟨rfl, Nat.le_refl _, by simp [maxLen], fun _ => ⟨g, rfl, (Array.getElem?_eq_some_iff.1 h).1, fun j hj i v hv => by
    obtain rfl : j = 0 := by omega
    simpa [World.cell?, h] using hv⟩, fun h9 => by cases h9⟩
theorem about_small {L : List Rg.En} {kind of out : Int} {txt : ByteArray} (h : Rg.about L (Rg.next L kind of out txt) = 0) (hL : ∀ y ∈ L, 0 ≤ y.num ∧ y.num ≤ 1000) : (0 ≤ kind ∧ kind ≤ 1000) ∧ (0 ≤ of ∧ of ≤ 1000) ∧ (0 ≤ out ∧ out ≤ 1000) := by
  have h1 := Rg.about_ok h hL
  simp only [Rg.next] at h1
  omega
def GivesAdd (L : List Rg.En) (x : Rg.En) (w : World) (e : Ending) (w' : World) : Prop := ∃ v M, e = .returned (.tuple #[v, .int .i64 (Rg.about L x)]) ∧ EnOwn w' w.heap.size v M ∧ (M = L ∨ (M = L ++ [x] ∧ Rg.about L x = 0)) ∧ (Rg.about L x = 0 → M = L ++ [x]) ∧ Below w.heap.size w w'
set_option maxRecDepth 100000 in
set_option maxHeartbeats 1600000 in
theorem radd38 (A : Option Addr) (n c : Nat) (L : List Rg.En) (kind of out : Int) (txt : ByteArray) (w : World) (h : EnRow w w.heap.size A n c L) (hr : Rg.Reg L) (hn : n < 60) (ht : txt.size ≤ 4000) :
    Calls Try.prog 49 #[.slice A n c, .int .i64 kind, .int .i64 of, .int .i64 out, .string txt] w (GivesAdd L (Rg.next L kind of out txt) w) := by
  have H := Lib.hid h
  have HL := Lib.hid h.len
  have HR := Lib.hid hr
  obtain ⟨W, hW⟩ : ∃ W : World, w.alloc (.cells #[] 60) = W := ⟨_, rfl⟩
  have hb : Below w.heap.size w W := by rw [← hW]; exact (Below.refl _ _).alloc (Nat.le_refl _) _
  have HO := Lib.hid (show EnOwn W w.heap.size (.slice (some ⟨w.heap.size, 0, none⟩) 0 0) [] by rw [← hW]; exact EnOwn.lit (heap_alloc_new _ _) (Nat.le_refl _))
  have HB := Lib.hid hb
  have HN := Lib.hid (h.keep hb hb.size)
  clear h hr hb
  go_enter Try.func49, Try.ntmps49
  go_wp2_with (at_builtin; refine app_ents _ rfl (.tmp 16) (.tmp 17) _ rfl w.heap.size 64 entry_info (by omega) Try.underlying61 _ _ rfl HO.out _ _ _ _ _ rfl HN.out (by simp; omega) HB.out.size ?_; intro v2 w2 ho2 hgrow2; (have hb2 := HO.out.grow HB.out hgrow2 HB.out.size (Nat.le_refl _)); (have HO2 := Lib.hid ho2); (have HB2 := Lib.hid hb2); (have HN2 := Lib.hid (H.out.keep hb2 hb2.size)); clear ho2 hgrow2 hb2)
  refine (rcheck38 A n c L _ HN2.out HR.out).mono ?_; rintro e w3 ⟨rfl, hb3⟩
  have HB3 := Lib.hid (HB2.out.trans (hb3.mono HB2.out.size))
  have HN3 := Lib.hid (HN2.out.keep hb3 hb3.size)
  have HO3 := Lib.hid (HO2.out.below hb3)
  clear hb3 hW
  have g60 : ((n : Int) == 60) = false := by simp; omega
  obtain ⟨X0, hX0⟩ : ∃ X : World, w3.alloc (.cells #[.int .i64 ((n : Int) + 1), .int .u64 0, .int .i64 kind, .int .i64 of, .int .i64 out, .string txt, .int .u64 0] 60) = X := ⟨_, rfl⟩
  have hbx : Below w3.heap.size w3 X0 := by rw [← hX0]; exact (Below.refl _ _).alloc (Nat.le_refl _) _
  have hszx : w3.heap.size < X0.heap.size := by rw [← hX0]; simp
  have x0 : X0.cell? ⟨w3.heap.size, 0, none⟩ = some (.int .i64 ((n : Int) + 1)) := by rw [← hX0]; simp [go_sem]
  have x1 : X0.cell? ⟨w3.heap.size, 1, none⟩ = some (.int .u64 0) := by rw [← hX0]; simp [go_sem]
  have x2 : X0.cell? ⟨w3.heap.size, 2, none⟩ = some (.int .i64 kind) := by rw [← hX0]; simp [go_sem]
  have x3 : X0.cell? ⟨w3.heap.size, 3, none⟩ = some (.int .i64 of) := by rw [← hX0]; simp [go_sem]
  have x4 : X0.cell? ⟨w3.heap.size, 4, none⟩ = some (.int .i64 out) := by rw [← hX0]; simp [go_sem]
  have x5 : X0.cell? ⟨w3.heap.size, 5, none⟩ = some (.string txt) := by rw [← hX0]; simp [go_sem]
  have x6 : X0.cell? ⟨w3.heap.size, 6, none⟩ = some (.int .u64 0) := by rw [← hX0]; simp [go_sem]
  have z1 : X0.frozen? ⟨w3.heap.size, 1, none⟩ = false := by rw [← hX0]; simp [go_sem]
  have z6 : X0.frozen? ⟨w3.heap.size, 6, none⟩ = false := by rw [← hX0]; simp [go_sem]
  have s6 : X0.setCell ⟨w3.heap.size, 6, none⟩ (.int .u64 0) = X0 := by rw [← hX0]; simp [go_sem]
  have HNX := Lib.hid (HN3.out.keep hbx hbx.size)
  have HOX := Lib.hid (HO3.out.below hbx)
  have HBX := Lib.hid (HB3.out.trans (hbx.mono HB3.out.size))
  have HEA := Lib.hid (show ∀ a b, Rg.about L ⟨a, b, kind, of, out, txt, 0⟩ = Rg.about L (Rg.next L kind of out txt) from fun _ _ => rfl)
  obtain ⟨code, hcode⟩ : ∃ code, Rg.about L (Rg.next L kind of out txt) = code := ⟨_, rfl⟩
  have HCO := Lib.hid hcode
  have HS3 := Lib.hid HB3.out.size
  have HNB := Lib.hid (show v2.ownBlock = none ∨ v2.ownBlock ≠ some w3.heap.size by
    cases hv : v2.ownBlock with
    | none => exact .inl rfl
    | some g9 => exact .inr (by intro e; injection e with e; have := (World.ownsRow.lt HO3.out g9 hv).2; omega))
  have HBX0 := Lib.hid hbx
  clear hbx hcode
  by_cases hn0 : n = 0
  · have g0 : decide ((0 : Int) < (n : Int)) = false := by simp; omega
    have g0' : decide (0 < n) = false := by simp; omega
    have HN0 := Lib.hid hn0
    clear hn0
    go_wp2_with fail
    clear hX0
    have HBEF := Lib.hid (show Rg.before L n = 0 by unfold Rg.before; rw [if_pos HN0.out])
    have HBB := Lib.hid (show (0 : Int) ≤ 0 ∧ (0 : Int) ≤ 18446744073709551615 by omega)
    have HNEXT := Lib.hid (show Rg.next L kind of out txt = ⟨(n : Int) + 1, 0, kind, of, out, txt, Rg.lnk ((n : Int) + 1) 0 kind of out txt⟩ by
      unfold Rg.next
      rw [HL.out, HBEF.out])
    refine (rabout38 _ n c L _ 0 kind of out 0 txt _ HNX.out (by omega) HR.out.nums (by omega)).mono ?_; rintro e w4 ⟨rfl, hb4⟩
    rw [HEA.out, HCO.out]
    by_cases hc0 : code = 0
    · have hab := about_small (HCO.out.trans hc0) HR.out.nums
      have HSM := Lib.hid (show Rg.Small ⟨(n : Int) + 1, 0, kind, of, out, txt, 0⟩ from ⟨by simp only; omega, hab.1, hab.2.1, hab.2.2, by simp only; omega, HBB.out⟩)
      have HC0 := Lib.hid (HCO.out.trans hc0)
      subst hc0
      have y0 := below_cell hb4 x0
      have y1 := below_cell hb4 x1
      have y2 := below_cell hb4 x2
      have y3 := below_cell hb4 x3
      have y4 := below_cell hb4 x4
      have y5 := below_cell hb4 x5
      have y6 := below_cell hb4 x6
      have z4 := below_frozen hb4 x6 z6
      have HO4 := Lib.hid (HOX.out.below hb4)
      have HB4 := Lib.hid (HBX.out.trans (hb4.mono HBX.out.size))
      have HSX := Lib.hid (Nat.lt_of_lt_of_le hszx hb4.size)
      clear x0 x1 x2 x3 x4 x5 x6 z1 z6 s6 hab hb4
      go_wp2_with fail
      refine (rlink38 _ 0 kind of out 0 txt _ HSM.out).mono ?_; rintro e w5 ⟨rfl, hb5⟩
      obtain ⟨lk, hlk⟩ : ∃ lk, Rg.lnk ((n : Int) + 1) 0 kind of out txt = lk := ⟨_, rfl⟩
      have HLK := Lib.hid hlk
      rw [hlk]
      replace y0 := below_cell hb5 y0
      replace y1 := below_cell hb5 y1
      replace y2 := below_cell hb5 y2
      replace y3 := below_cell hb5 y3
      replace y4 := below_cell hb5 y4
      replace y5 := below_cell hb5 y5
      have z5 := below_frozen hb5 y6 z4
      have y6 := below_cell hb5 y6
      have HO5 := Lib.hid (HO4.out.below hb5)
      have HB5 := Lib.hid (HB4.out.trans (hb5.mono HB4.out.size))
      have HS5 := Lib.hid (Nat.lt_of_lt_of_le HSX.out hb5.size)
      clear hlk hb5 z4
      obtain ⟨U, hU⟩ : ∃ U : World, (w5.setCell ⟨w3.heap.size, 6, none⟩ (.int .u64 lk)).alloc (.cells #[.int .i64 ((n : Int) + 1), .int .u64 0, .int .i64 kind, .int .i64 of, .int .i64 out, .string txt, .int .u64 lk] 60) = U := ⟨_, rfl⟩
      have hlit : U.heap[w5.heap.size]? = some (.cells (Rg.En.cells (Rg.next L kind of out txt)).toArray 60 (0, 0)) := by
        rw [HNEXT.out, HLK.out, ← hU, show w5.heap.size = (w5.setCell ⟨w3.heap.size, 6, none⟩ (.int .u64 lk)).heap.size from by simp]
        exact heap_alloc_new _ _
      have HLIT := Lib.hid (EnRow.lit hlit)
      have hou : EnOwn U w.heap.size v2 ([] ++ L) := by
        rw [← hU]
        exact EnOwn.alloc (World.ownsRow.kept HO5.out (grownBy_set w5 w3.heap.size 6 _) HNB.out) _
      have hbu : Below w.heap.size w U := by
        rw [← hU]
        exact (HB5.out.setCell (by simpa using HS3.out) _).alloc (by simpa using HB5.out.size) _
      have HOU := Lib.hid hou
      have HBU := Lib.hid hbu
      clear hlit hou hbu
      go_wp2_with (at_builtin; refine app_ents _ rfl (.tmp 58) (.tmp 60) _ rfl w.heap.size 64 entry_info (by omega) Try.underlying61 _ _ rfl HOU.out _ _ _ _ _ rfl HLIT.out (by have := HL.out; simp; omega) HBU.out.size ?_; intro v9 w9 ho9 hgrow9)
      have hb9 := HOU.out.grow HBU.out hgrow9 HBU.out.size (Nat.le_refl _)
      go_ret2
      exact ⟨v9, _, congrArg (fun b => Ending.returned (.tuple #[v9, .int .i64 b])) HC0.out.symm, ho9, .inr ⟨rfl, HC0.out⟩, fun _ => rfl, hb9⟩
    · have gc : (code != 0) = true := by simp [hc0]
      have gc' : (code == 0) = false := by simp [hc0]
      have HO4 := HOX.out.below hb4
      have HB4 := HBX.out.trans (hb4.mono HBX.out.size)
      clear x0 x1 x2 x3 x4 x5 x6 z1 z6 s6 hb4
      go_wp2_with fail
      go_ret2
      exact ⟨v2, L, congrArg (fun b => Ending.returned (.tuple #[v2, .int .i64 b])) HCO.out.symm, HO4, .inl rfl, fun h9 => absurd (HCO.out.symm.trans h9) hc0, HB4⟩
  · obtain ⟨k, hk⟩ : ∃ k : Nat, n = k + 1 := ⟨n - 1, by omega⟩
    obtain ⟨g, num2, bef2, kind2, of2, out2, txt2, lk0, rfl, HX, c0, c1, c2, c3, c4, c5, c6⟩ := HNX.out.val (j := k) (by omega)
    have hk1 : (n : Int) - 1 = (k : Int) := by omega
    have g0 : decide ((0 : Int) < (n : Int)) = true := by simp; omega
    have g0' : decide (0 < n) = true := by simp; omega
    have i1 : (0 : Int) ≤ (k : Int) := by omega
    have i2 : (k : Int) < (n : Int) := by omega
    have HBEF := Lib.hid (show Rg.before L n = lk0 by
      unfold Rg.before
      rw [if_neg hn0, show n - 1 = k by omega, HX.out.1])
    have HBB := Lib.hid (show (0 : Int) ≤ lk0 ∧ lk0 ≤ 18446744073709551615 by
      have h9 := HR.out.lnk k HX.out.2.1
      rw [HX.out.1] at h9
      simp only at h9
      rw [h9]
      exact Rg.lnk_bd _ _ _ _ _ _)
    have HK := Lib.hid hk
    clear hk hn0 c0 c1 c2 c3 c4 c5
    obtain ⟨X1, hX1⟩ : ∃ X : World, X0.setCell ⟨w3.heap.size, 1, none⟩ (.int .u64 lk0) = X := ⟨_, rfl⟩
    have hb1 : Below w3.heap.size w3 X1 := by rw [← hX1]; exact HBX0.out.setCell (Nat.le_refl _) _
    have q0 : X1.cell? ⟨w3.heap.size, 0, none⟩ = some (.int .i64 ((n : Int) + 1)) := by rw [← hX1]; simp [go_sem, x0]
    have q1 : X1.cell? ⟨w3.heap.size, 1, none⟩ = some (.int .u64 lk0) := by rw [← hX1]; simp [go_sem, x1]
    have q2 : X1.cell? ⟨w3.heap.size, 2, none⟩ = some (.int .i64 kind) := by rw [← hX1]; simp [go_sem, x2]
    have q3 : X1.cell? ⟨w3.heap.size, 3, none⟩ = some (.int .i64 of) := by rw [← hX1]; simp [go_sem, x3]
    have q4 : X1.cell? ⟨w3.heap.size, 4, none⟩ = some (.int .i64 out) := by rw [← hX1]; simp [go_sem, x4]
    have q5 : X1.cell? ⟨w3.heap.size, 5, none⟩ = some (.string txt) := by rw [← hX1]; simp [go_sem, x5]
    have q6 : X1.cell? ⟨w3.heap.size, 6, none⟩ = some (.int .u64 0) := by rw [← hX1]; simp [go_sem, x6]
    have y6 : X1.frozen? ⟨w3.heap.size, 6, none⟩ = false := by rw [← hX1]; simp [go_sem, z6]
    have hs1 : w3.heap.size < X1.heap.size := by rw [← hX1]; simpa using hszx
    go_wp2_with fail
    clear hX0 hX1 hszx x0 x1 x2 x3 x4 x5 x6 z6 c6 HNX HOX HBX
    have HNX := Lib.hid (HN3.out.keep hb1 hb1.size)
    have HOX := Lib.hid (HO3.out.below hb1)
    have HBX := Lib.hid (HB3.out.trans (hb1.mono HB3.out.size))
    have hszx := hs1
    have x0 := q0
    have x1 := q1
    have x2 := q2
    have x3 := q3
    have x4 := q4
    have x5 := q5
    have x6 := q6
    have z6 := y6
    clear q0 q1 q2 q3 q4 q5 q6 y6 hb1 hs1
    have HNEXT := Lib.hid (show Rg.next L kind of out txt = ⟨(n : Int) + 1, lk0, kind, of, out, txt, Rg.lnk ((n : Int) + 1) lk0 kind of out txt⟩ by
      unfold Rg.next
      rw [HL.out, HBEF.out])
    refine (rabout38 _ n c L _ lk0 kind of out 0 txt _ HNX.out (by omega) HR.out.nums (by omega)).mono ?_; rintro e w4 ⟨rfl, hb4⟩
    rw [HEA.out, HCO.out]
    by_cases hc0 : code = 0
    · have hab := about_small (HCO.out.trans hc0) HR.out.nums
      have HSM := Lib.hid (show Rg.Small ⟨(n : Int) + 1, lk0, kind, of, out, txt, 0⟩ from ⟨by simp only; omega, hab.1, hab.2.1, hab.2.2, by simp only; omega, HBB.out⟩)
      have HC0 := Lib.hid (HCO.out.trans hc0)
      subst hc0
      have y0 := below_cell hb4 x0
      have y1 := below_cell hb4 x1
      have y2 := below_cell hb4 x2
      have y3 := below_cell hb4 x3
      have y4 := below_cell hb4 x4
      have y5 := below_cell hb4 x5
      have y6 := below_cell hb4 x6
      have z4 := below_frozen hb4 x6 z6
      have HO4 := Lib.hid (HOX.out.below hb4)
      have HB4 := Lib.hid (HBX.out.trans (hb4.mono HBX.out.size))
      have HSX := Lib.hid (Nat.lt_of_lt_of_le hszx hb4.size)
      clear x0 x1 x2 x3 x4 x5 x6 z1 z6 s6 hab hb4
      go_wp2_with fail
      refine (rlink38 _ lk0 kind of out 0 txt _ HSM.out).mono ?_; rintro e w5 ⟨rfl, hb5⟩
      obtain ⟨lk, hlk⟩ : ∃ lk, Rg.lnk ((n : Int) + 1) lk0 kind of out txt = lk := ⟨_, rfl⟩
      have HLK := Lib.hid hlk
      rw [hlk]
      replace y0 := below_cell hb5 y0
      replace y1 := below_cell hb5 y1
      replace y2 := below_cell hb5 y2
      replace y3 := below_cell hb5 y3
      replace y4 := below_cell hb5 y4
      replace y5 := below_cell hb5 y5
      have z5 := below_frozen hb5 y6 z4
      have y6 := below_cell hb5 y6
      have HO5 := Lib.hid (HO4.out.below hb5)
      have HB5 := Lib.hid (HB4.out.trans (hb5.mono HB4.out.size))
      have HS5 := Lib.hid (Nat.lt_of_lt_of_le HSX.out hb5.size)
      clear hlk hb5 z4
      obtain ⟨U, hU⟩ : ∃ U : World, (w5.setCell ⟨w3.heap.size, 6, none⟩ (.int .u64 lk)).alloc (.cells #[.int .i64 ((n : Int) + 1), .int .u64 lk0, .int .i64 kind, .int .i64 of, .int .i64 out, .string txt, .int .u64 lk] 60) = U := ⟨_, rfl⟩
      have hlit : U.heap[w5.heap.size]? = some (.cells (Rg.En.cells (Rg.next L kind of out txt)).toArray 60 (0, 0)) := by
        rw [HNEXT.out, HLK.out, ← hU, show w5.heap.size = (w5.setCell ⟨w3.heap.size, 6, none⟩ (.int .u64 lk)).heap.size from by simp]
        exact heap_alloc_new _ _
      have HLIT := Lib.hid (EnRow.lit hlit)
      have hou : EnOwn U w.heap.size v2 ([] ++ L) := by
        rw [← hU]
        exact EnOwn.alloc (World.ownsRow.kept HO5.out (grownBy_set w5 w3.heap.size 6 _) HNB.out) _
      have hbu : Below w.heap.size w U := by
        rw [← hU]
        exact (HB5.out.setCell (by simpa using HS3.out) _).alloc (by simpa using HB5.out.size) _
      have HOU := Lib.hid hou
      have HBU := Lib.hid hbu
      clear hlit hou hbu
      go_wp2_with (at_builtin; refine app_ents _ rfl (.tmp 58) (.tmp 60) _ rfl w.heap.size 64 entry_info (by omega) Try.underlying61 _ _ rfl HOU.out _ _ _ _ _ rfl HLIT.out (by have := HL.out; simp; omega) HBU.out.size ?_; intro v9 w9 ho9 hgrow9)
      have hb9 := HOU.out.grow HBU.out hgrow9 HBU.out.size (Nat.le_refl _)
      go_ret2
      exact ⟨v9, _, congrArg (fun b => Ending.returned (.tuple #[v9, .int .i64 b])) HC0.out.symm, ho9, .inr ⟨rfl, HC0.out⟩, fun _ => rfl, hb9⟩
    · have gc : (code != 0) = true := by simp [hc0]
      have gc' : (code == 0) = false := by simp [hc0]
      have HO4 := HOX.out.below hb4
      have HB4 := HBX.out.trans (hb4.mono HBX.out.size)
      clear x0 x1 x2 x3 x4 x5 x6 z1 z6 s6 hb4
      go_wp2_with fail
      go_ret2
      exact ⟨v2, L, congrArg (fun b => Ending.returned (.tuple #[v2, .int .i64 b])) HCO.out.symm, HO4, .inl rfl, fun h9 => absurd (HCO.out.symm.trans h9) hc0, HB4⟩
end Go.Proofs.Ytojeendofpallaa
/- Drawing: Range. -/
namespace Go.Proofs.Ytojeendofpallaa
open Go.RowKit
def GivesRange (lo hi : Int) (base g : Nat) (w : World) (e : Ending) (w' : World) : Prop := ∃ x : Int, e = .returned (.int .i64 x) ∧ lo ≤ x ∧ x ≤ hi ∧ Cod w' base g ∧ w.grownBy w' (some g)
set_option maxHeartbeats 400000 in
theorem range_any (lo hi : Int) (hl : -1000000 ≤ lo) (hlh : lo ≤ hi) (hh : hi ≤ 1000000) (base g : Nat) (w : World) (h : Cod w base g) :
    Calls Try.prog 72 #[.pointer (some ⟨g, 0, none⟩), .int .i64 lo, .int .i64 hi] w (GivesRange lo hi base g w) := by
  go_enter Try.func72, Try.ntmps72
  go_wp2_with fail
  refine (next_any _ (by omega) (by omega) base g w h).mono ?_; rintro e w1 ⟨x, rfl, h0, h9, _, hc1, hg1⟩
  have h9 := h9 (by omega)
  go_wp2_with fail
  go_ret
  exact ⟨_, rfl, by omega, by omega, hc1, hg1⟩
end Go.Proofs.Ytojeendofpallaa
/- Register: rows of entries through draws. -/
namespace Go.Proofs.Ytojeendofpallaa
open Go.RowKit
theorem EnOwn.cod {w w' : World} {base b2 g : Nat} {v : Value} {L : List Rg.En} (h : EnOwn w b2 v L) (hc : Cod w base g) (hg : w.grownBy w' (some g)) : EnOwn w' b2 v L := by
  obtain ⟨A, n, c, i, l, _, _, _, h4, _⟩ := hc
  refine World.ownsRow.kept h hg ?_
  obtain ⟨_, ⟨rfl, _⟩ | ⟨g', cap, cur, rfl, _, hh, _⟩⟩ := h
  · exact .inl rfl
  · refine .inr fun e9 => ?_
    simp [Value.ownBlock] at e9
    subst e9
    rw [hh] at h4
    injection h4 with h4
    injection h4 with _ ht
    exact absurd ht (by decide)
def GivesReg (base g : Nat) (w : World) (e : Ending) (w' : World) : Prop := ∃ v L, e = .returned v ∧ EnOwn w' w.heap.size v L ∧ Rg.Reg L ∧ L.length ≤ 8 ∧ Cod w' base g ∧ w.grownBy w' (some g)
end Go.Proofs.Ytojeendofpallaa
/- Register: made.Register. -/
namespace Go.Proofs.Ytojeendofpallaa
open Go.RowKit
/-- each operation waits, where orders are mixed, for earlier ones alone -/
def early2 (ops : Array Oper) : Bool := (List.range ops.size).all fun i => match ops[i]? with | some o => o.after.toList.all fun e => !Region.binds .any e || decide (e.on < i) | none => true
theorem all_up2 {ops : Array Oper} {listed : Array Bool} (hr : Region.ready .any ops listed = []) (hz : listed.size = ops.size) (he : early2 ops = true) : ∀ n k, k < n → k < ops.size → up listed k := by
  intro n
  induction n with
  | zero => intro k hk; omega
  | succ n ih =>
    intro k hk hks
    rcases Nat.lt_or_ge k n with h | h
    · exact ih k h hks
    · obtain rfl : k = n := by omega
      cases hb : listed[k] with
      | true => unfold up; simp [Array.getD_eq_getD_getElem?, show k < listed.size by omega, hb]
      | false =>
        exfalso
        have : k ∈ Region.ready .any ops listed := by
          unfold Region.ready
          refine List.mem_filter.2 ⟨List.mem_range.2 hks, ?_⟩
          simp only [Array.getD_eq_getD_getElem?, Array.getElem?_eq_getElem hks, Array.getElem?_eq_getElem (show k < listed.size by omega), hb, Option.map_some, Option.getD_some, Bool.not_false, Bool.true_and, Array.all_eq_true_iff_forall_mem]
          intro e hme
          unfold early2 at he
          have h1 := List.all_eq_true.1 he k (List.mem_range.2 hks)
          simp only [Array.getElem?_eq_getElem hks] at h1
          have h2 := List.all_eq_true.1 h1 e (by simpa using hme)
          cases hbd : Region.binds .any e with
          | false => simp
          | true =>
            rw [hbd] at h2
            have h3 : e.on < k := by simpa using h2
            have h4 := ih e.on h3 (by omega)
            unfold up at h4
            rw [Array.getD_eq_getD_getElem?] at h4
            simp [h4]
        rw [hr] at this
        cases this
/-- the literal's block -/
def Lit3 (w : World) (q : Nat) : Prop := w.heap[q]? = some (.cells #[.string ⟨#[]⟩, .string ⟨#[97]⟩, .string ⟨#[116, 101, 120, 116, 10]⟩] 9 (0, 0))
theorem Lit3.cod {w w' : World} {base g q : Nat} (h : Lit3 w q) (hc : Cod w base g) (hg : w.grownBy w' (some g)) : Lit3 w' q := by
  obtain ⟨A, n, c, i, l, _, _, _, h4, _⟩ := hc
  unfold Lit3 at *
  rw [hg.block q (Array.getElem?_eq_some_iff.1 h).1 ?_]
  · exact h
  · intro e
    injection e with e
    subst e
    rw [h4] at h
    injection h with h
    injection h with _ ht
    exact absurd ht (by decide)
theorem Lit3.below {w w' : World} {q : Nat} (h : Lit3 w q) (hb : Below w.heap.size w w') : Lit3 w' q := by
  unfold Lit3 at *
  rw [hb.block q (Array.getElem?_eq_some_iff.1 h).1]
  exact h
theorem Lit3.cell0 {w : World} {q : Nat} (h : Lit3 w q) : w.cell? ⟨q, 0, none⟩ = some (.string ⟨#[]⟩) := by unfold Lit3 at h; simp [World.cell?, h]
theorem Lit3.cell1 {w : World} {q : Nat} (h : Lit3 w q) : w.cell? ⟨q, 1, none⟩ = some (.string ⟨#[97]⟩) := by unfold Lit3 at h; simp [World.cell?, h]
theorem Lit3.cell2 {w : World} {q : Nat} (h : Lit3 w q) : w.cell? ⟨q, 2, none⟩ = some (.string ⟨#[116, 101, 120, 116, 10]⟩) := by unfold Lit3 at h; simp [World.cell?, h]
/-- what has come up of a kind's draw: the output's number and one of three texts -/
structure Dr (g : Nat) (listed : Array Bool) (x30 x31 x32 x33 x34 x35 x36 x9 x10 : Value) (w : World) : Prop where
  m0 : up listed 0 → x30 = .pointer (some ⟨g, 0, none⟩)
  c1 : up listed 1 → ∃ o : Int, 1 ≤ o ∧ o ≤ 8 ∧ x31 = .int .i64 o
  b2 : up listed 2 → ∃ q, x32 = .slice (some ⟨q, 0, none⟩) 3 3 ∧ Lit3 w q
  m3 : up listed 3 → x33 = .pointer (some ⟨g, 0, none⟩)
  c4 : up listed 4 → ∃ i : Nat, i < 3 ∧ x34 = .int .i64 i
  a5 : up listed 5 → ∃ q i, i < 3 ∧ x35 = .pointer (some ⟨q, i, none⟩) ∧ Lit3 w q
  l6 : up listed 6 → ∃ txt : ByteArray, txt.size ≤ 5 ∧ x36 = .string txt
  s7 : up listed 7 → x9 = x31 ∧ up listed 1
  s8 : up listed 8 → x10 = x36 ∧ up listed 6
theorem Dr.start {g n : Nat} {x30 x31 x32 x33 x34 x35 x36 x9 x10 : Value} {w : World} : Dr g (Array.replicate n false) x30 x31 x32 x33 x34 x35 x36 x9 x10 w :=
  ⟨fun h => absurd h (up_none _ _), fun h => absurd h (up_none _ _), fun h => absurd h (up_none _ _), fun h => absurd h (up_none _ _), fun h => absurd h (up_none _ _), fun h => absurd h (up_none _ _), fun h => absurd h (up_none _ _), fun h => absurd h (up_none _ _), fun h => absurd h (up_none _ _)⟩
theorem Dr.world {g : Nat} {listed : Array Bool} {x30 x31 x32 x33 x34 x35 x36 x9 x10 : Value} {w w' : World} (h : Dr g listed x30 x31 x32 x33 x34 x35 x36 x9 x10 w) (hl : ∀ q, Lit3 w q → Lit3 w' q) : Dr g listed x30 x31 x32 x33 x34 x35 x36 x9 x10 w' :=
  ⟨h.m0, h.c1, fun hu => (h.b2 hu).imp fun q h9 => ⟨h9.1, hl _ h9.2⟩, h.m3, h.c4, fun hu => by obtain ⟨q, i, h1, h2, h3⟩ := h.a5 hu; exact ⟨q, i, h1, h2, hl _ h3⟩, h.l6, h.s7, h.s8⟩
theorem Dr.op0 {g : Nat} {listed : Array Bool} {x30 x31 x32 x33 x34 x35 x36 x9 x10 v : Value} {w : World} (h : Dr g listed x30 x31 x32 x33 x34 x35 x36 x9 x10 w) (hi : 0 < listed.size) (hv : v = .pointer (some ⟨g, 0, none⟩)) : Dr g (listed.setIfInBounds 0 true) v x31 x32 x33 x34 x35 x36 x9 x10 w :=
  ⟨fun _ => hv, fun hu => h.c1 (up_other hi (by omega) hu), fun hu => h.b2 (up_other hi (by omega) hu), fun hu => h.m3 (up_other hi (by omega) hu), fun hu => h.c4 (up_other hi (by omega) hu), fun hu => h.a5 (up_other hi (by omega) hu), fun hu => h.l6 (up_other hi (by omega) hu), fun hu => by have := h.s7 (up_other hi (by omega) hu); exact ⟨this.1, (up_set hi).2 (.inr this.2)⟩, fun hu => by have := h.s8 (up_other hi (by omega) hu); exact ⟨this.1, (up_set hi).2 (.inr this.2)⟩⟩
theorem Dr.op1 {g : Nat} {listed : Array Bool} {x30 x31 x32 x33 x34 x35 x36 x9 x10 v : Value} {w : World} (h : Dr g listed x30 x31 x32 x33 x34 x35 x36 x9 x10 w) (hi : 1 < listed.size) (hnu : ¬ up listed 1) (hv : ∃ o : Int, 1 ≤ o ∧ o ≤ 8 ∧ v = .int .i64 o) : Dr g (listed.setIfInBounds 1 true) x30 v x32 x33 x34 x35 x36 x9 x10 w :=
  ⟨fun hu => h.m0 (up_other hi (by omega) hu), fun _ => hv, fun hu => h.b2 (up_other hi (by omega) hu), fun hu => h.m3 (up_other hi (by omega) hu), fun hu => h.c4 (up_other hi (by omega) hu), fun hu => h.a5 (up_other hi (by omega) hu), fun hu => h.l6 (up_other hi (by omega) hu), fun hu => by have := h.s7 (up_other hi (by omega) hu); exact absurd this.2 hnu, fun hu => by have := h.s8 (up_other hi (by omega) hu); exact ⟨this.1, (up_set hi).2 (.inr this.2)⟩⟩
theorem Dr.op2 {g : Nat} {listed : Array Bool} {x30 x31 x32 x33 x34 x35 x36 x9 x10 v : Value} {w : World} (h : Dr g listed x30 x31 x32 x33 x34 x35 x36 x9 x10 w) (hi : 2 < listed.size) (hv : ∃ q, v = .slice (some ⟨q, 0, none⟩) 3 3 ∧ Lit3 w q) : Dr g (listed.setIfInBounds 2 true) x30 x31 v x33 x34 x35 x36 x9 x10 w :=
  ⟨fun hu => h.m0 (up_other hi (by omega) hu), fun hu => h.c1 (up_other hi (by omega) hu), fun _ => hv, fun hu => h.m3 (up_other hi (by omega) hu), fun hu => h.c4 (up_other hi (by omega) hu), fun hu => h.a5 (up_other hi (by omega) hu), fun hu => h.l6 (up_other hi (by omega) hu), fun hu => by have := h.s7 (up_other hi (by omega) hu); exact ⟨this.1, (up_set hi).2 (.inr this.2)⟩, fun hu => by have := h.s8 (up_other hi (by omega) hu); exact ⟨this.1, (up_set hi).2 (.inr this.2)⟩⟩
theorem Dr.op3 {g : Nat} {listed : Array Bool} {x30 x31 x32 x33 x34 x35 x36 x9 x10 v : Value} {w : World} (h : Dr g listed x30 x31 x32 x33 x34 x35 x36 x9 x10 w) (hi : 3 < listed.size) (hv : v = .pointer (some ⟨g, 0, none⟩)) : Dr g (listed.setIfInBounds 3 true) x30 x31 x32 v x34 x35 x36 x9 x10 w :=
  ⟨fun hu => h.m0 (up_other hi (by omega) hu), fun hu => h.c1 (up_other hi (by omega) hu), fun hu => h.b2 (up_other hi (by omega) hu), fun _ => hv, fun hu => h.c4 (up_other hi (by omega) hu), fun hu => h.a5 (up_other hi (by omega) hu), fun hu => h.l6 (up_other hi (by omega) hu), fun hu => by have := h.s7 (up_other hi (by omega) hu); exact ⟨this.1, (up_set hi).2 (.inr this.2)⟩, fun hu => by have := h.s8 (up_other hi (by omega) hu); exact ⟨this.1, (up_set hi).2 (.inr this.2)⟩⟩
theorem Dr.op4 {g : Nat} {listed : Array Bool} {x30 x31 x32 x33 x34 x35 x36 x9 x10 v : Value} {w : World} (h : Dr g listed x30 x31 x32 x33 x34 x35 x36 x9 x10 w) (hi : 4 < listed.size) (hv : ∃ i : Nat, i < 3 ∧ v = .int .i64 i) : Dr g (listed.setIfInBounds 4 true) x30 x31 x32 x33 v x35 x36 x9 x10 w :=
  ⟨fun hu => h.m0 (up_other hi (by omega) hu), fun hu => h.c1 (up_other hi (by omega) hu), fun hu => h.b2 (up_other hi (by omega) hu), fun hu => h.m3 (up_other hi (by omega) hu), fun _ => hv, fun hu => h.a5 (up_other hi (by omega) hu), fun hu => h.l6 (up_other hi (by omega) hu), fun hu => by have := h.s7 (up_other hi (by omega) hu); exact ⟨this.1, (up_set hi).2 (.inr this.2)⟩, fun hu => by have := h.s8 (up_other hi (by omega) hu); exact ⟨this.1, (up_set hi).2 (.inr this.2)⟩⟩
theorem Dr.op5 {g : Nat} {listed : Array Bool} {x30 x31 x32 x33 x34 x35 x36 x9 x10 v : Value} {w : World} (h : Dr g listed x30 x31 x32 x33 x34 x35 x36 x9 x10 w) (hi : 5 < listed.size) (hv : ∃ q i, i < 3 ∧ v = .pointer (some ⟨q, i, none⟩) ∧ Lit3 w q) : Dr g (listed.setIfInBounds 5 true) x30 x31 x32 x33 x34 v x36 x9 x10 w :=
  ⟨fun hu => h.m0 (up_other hi (by omega) hu), fun hu => h.c1 (up_other hi (by omega) hu), fun hu => h.b2 (up_other hi (by omega) hu), fun hu => h.m3 (up_other hi (by omega) hu), fun hu => h.c4 (up_other hi (by omega) hu), fun _ => hv, fun hu => h.l6 (up_other hi (by omega) hu), fun hu => by have := h.s7 (up_other hi (by omega) hu); exact ⟨this.1, (up_set hi).2 (.inr this.2)⟩, fun hu => by have := h.s8 (up_other hi (by omega) hu); exact ⟨this.1, (up_set hi).2 (.inr this.2)⟩⟩
theorem Dr.op6 {g : Nat} {listed : Array Bool} {x30 x31 x32 x33 x34 x35 x36 x9 x10 v : Value} {w : World} (h : Dr g listed x30 x31 x32 x33 x34 x35 x36 x9 x10 w) (hi : 6 < listed.size) (hnu : ¬ up listed 6) (hv : ∃ txt : ByteArray, txt.size ≤ 5 ∧ v = .string txt) : Dr g (listed.setIfInBounds 6 true) x30 x31 x32 x33 x34 x35 v x9 x10 w :=
  ⟨fun hu => h.m0 (up_other hi (by omega) hu), fun hu => h.c1 (up_other hi (by omega) hu), fun hu => h.b2 (up_other hi (by omega) hu), fun hu => h.m3 (up_other hi (by omega) hu), fun hu => h.c4 (up_other hi (by omega) hu), fun hu => h.a5 (up_other hi (by omega) hu), fun _ => hv, fun hu => by have := h.s7 (up_other hi (by omega) hu); exact ⟨this.1, (up_set hi).2 (.inr this.2)⟩, fun hu => by have := h.s8 (up_other hi (by omega) hu); exact absurd this.2 hnu⟩
theorem Dr.op7 {g : Nat} {listed : Array Bool} {x30 x31 x32 x33 x34 x35 x36 x9 x10 v : Value} {w : World} (h : Dr g listed x30 x31 x32 x33 x34 x35 x36 x9 x10 w) (hi : 7 < listed.size) (hv : v = x31 ∧ up listed 1) : Dr g (listed.setIfInBounds 7 true) x30 x31 x32 x33 x34 x35 x36 v x10 w :=
  ⟨fun hu => h.m0 (up_other hi (by omega) hu), fun hu => h.c1 (up_other hi (by omega) hu), fun hu => h.b2 (up_other hi (by omega) hu), fun hu => h.m3 (up_other hi (by omega) hu), fun hu => h.c4 (up_other hi (by omega) hu), fun hu => h.a5 (up_other hi (by omega) hu), fun hu => h.l6 (up_other hi (by omega) hu), fun _ => ⟨hv.1, (up_set hi).2 (.inr hv.2)⟩, fun hu => by have := h.s8 (up_other hi (by omega) hu); exact ⟨this.1, (up_set hi).2 (.inr this.2)⟩⟩
theorem Dr.op8 {g : Nat} {listed : Array Bool} {x30 x31 x32 x33 x34 x35 x36 x9 x10 v : Value} {w : World} (h : Dr g listed x30 x31 x32 x33 x34 x35 x36 x9 x10 w) (hi : 8 < listed.size) (hv : v = x36 ∧ up listed 6) : Dr g (listed.setIfInBounds 8 true) x30 x31 x32 x33 x34 x35 x36 x9 v w :=
  ⟨fun hu => h.m0 (up_other hi (by omega) hu), fun hu => h.c1 (up_other hi (by omega) hu), fun hu => h.b2 (up_other hi (by omega) hu), fun hu => h.m3 (up_other hi (by omega) hu), fun hu => h.c4 (up_other hi (by omega) hu), fun hu => h.a5 (up_other hi (by omega) hu), fun hu => h.l6 (up_other hi (by omega) hu), fun hu => by have := h.s7 (up_other hi (by omega) hu); exact ⟨this.1, (up_set hi).2 (.inr this.2)⟩, fun _ => ⟨hv.1, (up_set hi).2 (.inr hv.2)⟩⟩
theorem reg_step {L M : List Rg.En} {kind of out : Int} {txt : ByteArray} (hM : M = L ∨ (M = L ++ [Rg.next L kind of out txt] ∧ Rg.about L (Rg.next L kind of out txt) = 0)) (hr : Rg.Reg L) (hl : L.length < 60) : Rg.Reg M ∧ M.length ≤ L.length + 1 := by
  rcases hM with rfl | ⟨rfl, ha⟩
  · exact ⟨hr, by omega⟩
  · exact ⟨hr.snoc hl ha, by simp⟩
set_option maxRecDepth 100000 in
set_option maxHeartbeats 1600000 in
theorem register9 (base g : Nat) (w : World) (h : Cod w base g) :
    Calls Try.prog 39 #[.pointer (some ⟨g, 0, none⟩), .int .i64 8] w (GivesReg base g w) := by
  go_enter Try.func39, Try.ntmps39
  go_wp2_with fail
  refine (next_any 9 (by omega) (by omega) base g w h).mono ?_; rintro e w1 ⟨N, rfl, hN0, hN9, _, hc1, hg1⟩
  have hN := hN9 (by omega)
  obtain ⟨N, rfl⟩ := Int.eq_ofNat_of_zero_le hN0
  clear h hN9 hN0
  have HC1 := Lib.hid hc1
  have HG1 := Lib.hid hg1
  clear hc1 hg1
  go_wp2_with fail
  go_loopw [5, 6] (fun v i wr => ∃ (t : Nat) (L : List Rg.En), i = .int .i64 t ∧ L.length + t ≤ 8 ∧ Hid (EnOwn wr w.heap.size v L ∧ Rg.Reg L ∧ Cod wr base g ∧ w.grownBy wr (some g))) (fun _ i _ => (intOf i).toNat)
  case atStart => exact ⟨N, [], rfl, by simp; omega, EnOwn.nil _ _, ⟨by simp, fun j hj => by simp at hj, fun j hj => by simp at hj, fun j hj => by simp at hj, fun j hj => by simp at hj⟩, HC1.out, HG1.out⟩
  case round =>
    rename World => Y
    obtain ⟨t, L, rfl, hLt, HI⟩ := hrel
    obtain ⟨A, n, c, rfl, hrow⟩ := HI.out.1.row (by omega)
    have HLn := Lib.hid hrow.len
    have HRW := Lib.hid hrow
    clear hrow
    by_cases ht : t = 0
    · subst ht
      go_wp2_with fail
      go_ret
      exact ⟨_, L, rfl, HI.out.1, HI.out.2.1, by omega, HI.out.2.2.1, HI.out.2.2.2⟩
    · have g0 : decide ((0 : Int) < (t : Int)) = true := by simp; omega
      have g0' : decide (0 < t) = true := by simp; omega
      have hn8 : n ≤ 8 := by rw [← HLn.out]; omega
      go_wp2_with fail
      refine (range_any 1 3 (by omega) (by omega) (by omega) base g Y HI.out.2.2.1).mono ?_; rintro e w2 ⟨kind, rfl, hk1, hk3, hc2, hg2⟩
      have HO2 := Lib.hid (HI.out.1.cod HI.out.2.2.1 hg2)
      have HC2 := Lib.hid hc2
      have HG2 := Lib.hid (HI.out.2.2.2.trans hg2)
      clear hc2 hg2
      rcases (show kind = 1 ∨ kind = 2 ∨ kind = 3 by omega) with rfl | rfl | rfl
      · go_wp2_with fail
        refine wp_region_inv (by kernel_rfl) (fun listed a wv => listed.size = 9 ∧ Cod wv base g ∧ w2.grownBy wv (some g) ∧ ∃ x30 x31 x32 x33 x34 x35 x36 x9 x10 : Value, a = ⟨#[Value.pointer (some { block := g, off := 0 }), Value.int IntKind.i64 8, undef, undef, Value.slice none 0 0, Value.slice A n c, Value.int IntKind.i64 ↑t, Value.int IntKind.i64 1, Value.int IntKind.i64 0, x9, x10, Value.pointer (some { block := g, off := 0 }), Value.int IntKind.i64 8, Value.int IntKind.i64 9, Value.int IntKind.i64 ↑N, Value.int IntKind.i64 ↑t, Value.bool true, u17, u18, Value.pointer (some { block := g, off := 0 }), Value.int IntKind.i64 1, Value.int IntKind.i64 1, Value.bool false, u23, u24, u25, u26, u27, Value.int IntKind.i64 1, Value.bool true, x30, x31, x32, x33, x34, x35, x36, u37, u38, u39, u40, u41, u42, u43, u44, u45, undef], []⟩ ∧ Dr g listed x30 x31 x32 x33 x34 x35 x36 x9 x10 wv) (fun _ _ _ h => h.1) ?_ ?_ ?_
        · exact ⟨by simp, HC2.out.below (below_drewN (Below.refl _ _) 1), grownBy_drewN w2 1 _, u30, u31, u32, u33, u34, u35, u36, Value.int IntKind.i64 0, Value.string { data := #[] }, rfl, Dr.start⟩
        · rintro listed a wv i o ⟨hz, hc, hg, x30, x31, x32, x33, x34, x35, x36, x9, x10, rfl, hd⟩ ho hdep hnu
          have hi : i < 9 := by
            rcases Nat.lt_or_ge i 9 with h | h
            · exact h
            · rw [Array.getElem?_eq_none (by simpa using h)] at ho; cases ho
          have hil : i < listed.size := by omega
          rcases (show i = 0 ∨ i = 1 ∨ i = 2 ∨ i = 3 ∨ i = 4 ∨ i = 5 ∨ i = 6 ∨ i = 7 ∨ i = 8 by omega) with rfl | rfl | rfl | rfl | rfl | rfl | rfl | rfl | rfl
          · have ho' := ho
            simp only [List.getElem?_toArray, List.getElem?_cons_zero, Option.some.injEq] at ho'
            subst ho'
            refine wpOp_value ho rfl (v := .pointer (some ⟨g, 0, none⟩)) (w' := wv) (by simp [execOp, Act.eval, go_sem]) ?_
            exact ⟨by simpa using hz, hc, hg, _, _, _, _, _, _, _, _, _, rfl, hd.op0 hil rfl⟩
          · have ho' := ho
            simp only [List.getElem?_toArray, List.getElem?_cons_zero, List.getElem?_cons_succ, Option.some.injEq] at ho'
            subst ho'
            obtain rfl := hd.m0 (hdep { on := 0, ground := .data } (by simp) rfl)
            refine wpOp_call ho rfl (f := 72) (args := #[.pointer (some ⟨g, 0, none⟩), .int .i64 1, .int .i64 8]) (w' := wv) (by simp [Act.eval, go_sem]) ?_
            refine (range_any 1 8 (by omega) (by omega) (by omega) base g wv hc).mono ?_; rintro e9 w9 ⟨o9, rfl, ho1, ho8, hc9, hg9⟩
            refine ⟨_, rfl, ?_⟩
            exact ⟨by simpa using hz, hc9, hg.trans hg9, _, _, _, _, _, _, _, _, _, rfl, (hd.world fun q hq => hq.cod hc hg9).op1 hil hnu ⟨o9, ho1, ho8, rfl⟩⟩
          · have ho' := ho
            simp only [List.getElem?_toArray, List.getElem?_cons_zero, List.getElem?_cons_succ, Option.some.injEq] at ho'
            subst ho'
            have hbx : Below wv.heap.size wv (wv.alloc (.cells #[.string ⟨#[]⟩, .string ⟨#[97]⟩, .string ⟨#[116, 101, 120, 116, 10]⟩] 9 (0, 0))) := (Below.refl _ _).alloc (Nat.le_refl _) _
            refine wpOp_value ho rfl (v := .slice (some ⟨wv.heap.size, 0, none⟩) 3 3) (w' := wv.alloc (.cells #[.string ⟨#[]⟩, .string ⟨#[97]⟩, .string ⟨#[116, 101, 120, 116, 10]⟩] 9 (0, 0))) (by simp [execOp, Act.eval, go_sem]) ?_
            exact ⟨by simpa using hz, hc.below hbx, hg.trans (grownBy_of_below hbx _), _, _, _, _, _, _, _, _, _, rfl, (hd.world fun q hq => hq.below hbx).op2 hil ⟨_, rfl, heap_alloc_new _ _⟩⟩
          · have ho' := ho
            simp only [List.getElem?_toArray, List.getElem?_cons_zero, List.getElem?_cons_succ, Option.some.injEq] at ho'
            subst ho'
            refine wpOp_value ho rfl (v := .pointer (some ⟨g, 0, none⟩)) (w' := wv) (by simp [execOp, Act.eval, go_sem]) ?_
            exact ⟨by simpa using hz, hc, hg, _, _, _, _, _, _, _, _, _, rfl, hd.op3 hil rfl⟩
          · have ho' := ho
            simp only [List.getElem?_toArray, List.getElem?_cons_zero, List.getElem?_cons_succ, Option.some.injEq] at ho'
            subst ho'
            obtain rfl := hd.m3 (hdep { on := 3, ground := .data } (by simp) rfl)
            refine wpOp_call ho rfl (f := 55) (args := #[.pointer (some ⟨g, 0, none⟩), .int .i64 3]) (w' := wv) (by simp [Act.eval, go_sem]) ?_
            refine (next_any 3 (by omega) (by omega) base g wv hc).mono ?_; rintro e9 w9 ⟨o9, rfl, ho1, ho8, _, hc9, hg9⟩
            refine ⟨_, rfl, ?_⟩
            obtain ⟨o9, rfl⟩ := Int.eq_ofNat_of_zero_le ho1
            have ho8 := ho8 (by omega)
            exact ⟨by simpa using hz, hc9, hg.trans hg9, _, _, _, _, _, _, _, _, _, rfl, (hd.world fun q hq => hq.cod hc hg9).op4 hil ⟨o9, by omega, rfl⟩⟩
          · have ho' := ho
            simp only [List.getElem?_toArray, List.getElem?_cons_zero, List.getElem?_cons_succ, Option.some.injEq] at ho'
            subst ho'
            obtain ⟨q, rfl, hq⟩ := hd.b2 (hdep { on := 2, ground := .data } (by simp) rfl)
            obtain ⟨i, hi3, rfl⟩ := hd.c4 (hdep { on := 4, ground := .data } (by simp) rfl)
            refine wpOp_value ho rfl (v := .pointer (some ⟨q, i, none⟩)) (w' := wv) (by rcases (show i = 0 ∨ i = 1 ∨ i = 2 by omega) with rfl | rfl | rfl <;> simp [execOp, Act.eval, go_sem]) ?_
            exact ⟨by simpa using hz, hc, hg, _, _, _, _, _, _, _, _, _, rfl, hd.op5 hil ⟨q, i, hi3, rfl, hq⟩⟩
          · have ho' := ho
            simp only [List.getElem?_toArray, List.getElem?_cons_zero, List.getElem?_cons_succ, Option.some.injEq] at ho'
            subst ho'
            obtain ⟨q, i, hi3, rfl, hq⟩ := hd.a5 (hdep { on := 5, ground := .data } (by simp) rfl)
            rcases (show i = 0 ∨ i = 1 ∨ i = 2 by omega) with rfl | rfl | rfl
            · refine wpOp_value ho rfl (v := .string ⟨#[]⟩) (w' := wv) (by simp [execOp, Act.eval, go_sem, hq.cell0]) ?_
              exact ⟨by simpa using hz, hc, hg, _, _, _, _, _, _, _, _, _, rfl, hd.op6 hil hnu ⟨_, by decide, rfl⟩⟩
            · refine wpOp_value ho rfl (v := .string ⟨#[97]⟩) (w' := wv) (by simp [execOp, Act.eval, go_sem, hq.cell1]) ?_
              exact ⟨by simpa using hz, hc, hg, _, _, _, _, _, _, _, _, _, rfl, hd.op6 hil hnu ⟨_, by decide, rfl⟩⟩
            · refine wpOp_value ho rfl (v := .string ⟨#[116, 101, 120, 116, 10]⟩) (w' := wv) (by simp [execOp, Act.eval, go_sem, hq.cell2]) ?_
              exact ⟨by simpa using hz, hc, hg, _, _, _, _, _, _, _, _, _, rfl, hd.op6 hil hnu ⟨_, by decide, rfl⟩⟩
          · have ho' := ho
            simp only [List.getElem?_toArray, List.getElem?_cons_zero, List.getElem?_cons_succ, Option.some.injEq] at ho'
            subst ho'
            have hu := hdep { on := 1, ground := .data } (by simp) rfl
            refine wpOp_value ho rfl (v := x31) (w' := wv) (by simp [execOp, Act.eval, go_sem]) ?_
            exact ⟨by simpa using hz, hc, hg, _, _, _, _, _, _, _, _, _, rfl, hd.op7 hil ⟨rfl, hu⟩⟩
          · have ho' := ho
            simp only [List.getElem?_toArray, List.getElem?_cons_zero, List.getElem?_cons_succ, Option.some.injEq] at ho'
            subst ho'
            have hu := hdep { on := 6, ground := .data } (by simp) rfl
            refine wpOp_value ho rfl (v := x36) (w' := wv) (by simp [execOp, Act.eval, go_sem]) ?_
            exact ⟨by simpa using hz, hc, hg, _, _, _, _, _, _, _, _, _, rfl, hd.op8 hil ⟨rfl, hu⟩⟩
        · rintro listed a wv ⟨hz, hc, hg, x30, x31, x32, x33, x34, x35, x36, x9, x10, rfl, hd⟩ hr
          have hall := all_up2 hr hz (by decide)
          have U : ∀ k, k < 9 → up listed k := fun k hk => hall (k + 1) k (by omega) hk
          obtain ⟨out, ho1, ho8, rfl⟩ := hd.c1 (U 1 (by omega))
          obtain ⟨txt, ht5, rfl⟩ := hd.l6 (U 6 (by omega))
          obtain ⟨rfl, _⟩ := hd.s7 (U 7 (by omega))
          obtain ⟨rfl, _⟩ := hd.s8 (U 8 (by omega))
          clear hall U hr hd
          have HO4 := Lib.hid (HO2.out.cod HC2.out hg)
          have HC4 := Lib.hid hc
          have HG4 := Lib.hid (HG2.out.trans hg)
          clear hc hg
          go_wp2_with fail
          obtain ⟨A5, n5, c5, e5, hrow5⟩ := HO4.out.row (by omega)
          injection e5 with e51 e52 e53
          subst e51 e52 e53
          refine (radd38 A n c L 1 0 out txt wv hrow5 HI.out.2.1 (by omega) (by omega)).mono ?_; rintro e w5 ⟨v5, M, rfl, ho5, hM, _, hb5⟩
          have HM := Lib.hid (reg_step hM HI.out.2.1 (by omega))
          have HB5 := Lib.hid hb5
          have HO5 := Lib.hid ho5
          clear hM hb5 ho5 hrow5
          go_wp2_with fail
          go_roundw
          case rel =>
            obtain ⟨s, rfl⟩ : ∃ s, t = s + 1 := ⟨t - 1, by omega⟩
            have hm := HM.out.2
            exact ⟨s, M, by go_num, by omega, HO5.out.base_le HG4.out.size, HM.out.1, HC4.out.below HB5.out, HG4.out.trans (grownBy_of_below HB5.out _)⟩
          case measure => simp [intOf]; omega
      · go_wp2_with fail
        refine (range_any 0 _ (by omega) (by omega) (by omega) base g w2 HC2.out).mono ?_; rintro e w3 ⟨of, rfl, hof0, hofn, hc3, hg3⟩
        have HO3 := Lib.hid (HO2.out.cod HC2.out hg3)
        have HC3 := Lib.hid hc3
        have HG3 := Lib.hid (HG2.out.trans hg3)
        clear hc3 hg3
        go_wp2_with fail
        obtain ⟨A5, n5, c5, e5, hrow5⟩ := HO3.out.row (by omega)
        injection e5 with e51 e52 e53
        subst e51 e52 e53
        refine (radd38 A n c L 2 of 0 ⟨#[]⟩ w3 hrow5 HI.out.2.1 (by omega) (by decide)).mono ?_; rintro e w5 ⟨v5, M, rfl, ho5, hM, _, hb5⟩
        have HM := Lib.hid (reg_step hM HI.out.2.1 (by omega))
        have HB5 := Lib.hid hb5
        have HO5 := Lib.hid ho5
        clear hM hb5 ho5 hrow5
        go_wp2_with fail
        go_roundw
        case rel =>
          obtain ⟨s, rfl⟩ : ∃ s, t = s + 1 := ⟨t - 1, by omega⟩
          have hm := HM.out.2
          exact ⟨s, M, by go_num, by omega, HO5.out.base_le HG3.out.size, HM.out.1, HC3.out.below HB5.out, HG3.out.trans (grownBy_of_below HB5.out _)⟩
        case measure => simp [intOf]; omega
      · go_wp2_with fail
        refine (range_any 0 _ (by omega) (by omega) (by omega) base g w2 HC2.out).mono ?_; rintro e w3 ⟨of, rfl, hof0, hofn, hc3, hg3⟩
        have HO3 := Lib.hid (HO2.out.cod HC2.out hg3)
        have HC3 := Lib.hid hc3
        have HG3 := Lib.hid (HG2.out.trans hg3)
        clear hc3 hg3
        go_wp2_with fail
        refine wp_region_inv (by kernel_rfl) (fun listed a wv => listed.size = 9 ∧ Cod wv base g ∧ w3.grownBy wv (some g) ∧ ∃ x30 x31 x32 x33 x34 x35 x36 x9 x10 : Value, a = ⟨#[Value.pointer (some { block := g, off := 0 }), Value.int IntKind.i64 8, undef, undef, Value.slice none 0 0, Value.slice A n c, Value.int IntKind.i64 ↑t, Value.int IntKind.i64 3, Value.int IntKind.i64 of, x9, x10, Value.pointer (some { block := g, off := 0 }), Value.int IntKind.i64 8, Value.int IntKind.i64 9, Value.int IntKind.i64 ↑N, Value.int IntKind.i64 ↑t, Value.bool true, u17, u18, Value.pointer (some { block := g, off := 0 }), Value.int IntKind.i64 3, Value.int IntKind.i64 3, Value.bool true, Value.pointer (some { block := g, off := 0 }), Value.slice A n c, Value.int IntKind.i64 ↑n, Value.int IntKind.i64 (↑n + 1), Value.int IntKind.i64 of, Value.int IntKind.i64 3, Value.bool true, x30, x31, x32, x33, x34, x35, x36, u37, u38, u39, u40, u41, u42, u43, u44, u45, undef], []⟩ ∧ Dr g listed x30 x31 x32 x33 x34 x35 x36 x9 x10 wv) (fun _ _ _ h => h.1) ?_ ?_ ?_
        · exact ⟨by simp, HC3.out.below (below_drewN (Below.refl _ _) 1), grownBy_drewN w3 1 _, u30, u31, u32, u33, u34, u35, u36, Value.int IntKind.i64 0, Value.string { data := #[] }, rfl, Dr.start⟩
        · rintro listed a wv i o ⟨hz, hc, hg, x30, x31, x32, x33, x34, x35, x36, x9, x10, rfl, hd⟩ ho hdep hnu
          have hi : i < 9 := by
            rcases Nat.lt_or_ge i 9 with h | h
            · exact h
            · rw [Array.getElem?_eq_none (by simpa using h)] at ho; cases ho
          have hil : i < listed.size := by omega
          rcases (show i = 0 ∨ i = 1 ∨ i = 2 ∨ i = 3 ∨ i = 4 ∨ i = 5 ∨ i = 6 ∨ i = 7 ∨ i = 8 by omega) with rfl | rfl | rfl | rfl | rfl | rfl | rfl | rfl | rfl
          · have ho' := ho
            simp only [List.getElem?_toArray, List.getElem?_cons_zero, Option.some.injEq] at ho'
            subst ho'
            refine wpOp_value ho rfl (v := .pointer (some ⟨g, 0, none⟩)) (w' := wv) (by simp [execOp, Act.eval, go_sem]) ?_
            exact ⟨by simpa using hz, hc, hg, _, _, _, _, _, _, _, _, _, rfl, hd.op0 hil rfl⟩
          · have ho' := ho
            simp only [List.getElem?_toArray, List.getElem?_cons_zero, List.getElem?_cons_succ, Option.some.injEq] at ho'
            subst ho'
            obtain rfl := hd.m0 (hdep { on := 0, ground := .data } (by simp) rfl)
            refine wpOp_call ho rfl (f := 72) (args := #[.pointer (some ⟨g, 0, none⟩), .int .i64 1, .int .i64 8]) (w' := wv) (by simp [Act.eval, go_sem]) ?_
            refine (range_any 1 8 (by omega) (by omega) (by omega) base g wv hc).mono ?_; rintro e9 w9 ⟨o9, rfl, ho1, ho8, hc9, hg9⟩
            refine ⟨_, rfl, ?_⟩
            exact ⟨by simpa using hz, hc9, hg.trans hg9, _, _, _, _, _, _, _, _, _, rfl, (hd.world fun q hq => hq.cod hc hg9).op1 hil hnu ⟨o9, ho1, ho8, rfl⟩⟩
          · have ho' := ho
            simp only [List.getElem?_toArray, List.getElem?_cons_zero, List.getElem?_cons_succ, Option.some.injEq] at ho'
            subst ho'
            have hbx : Below wv.heap.size wv (wv.alloc (.cells #[.string ⟨#[]⟩, .string ⟨#[97]⟩, .string ⟨#[116, 101, 120, 116, 10]⟩] 9 (0, 0))) := (Below.refl _ _).alloc (Nat.le_refl _) _
            refine wpOp_value ho rfl (v := .slice (some ⟨wv.heap.size, 0, none⟩) 3 3) (w' := wv.alloc (.cells #[.string ⟨#[]⟩, .string ⟨#[97]⟩, .string ⟨#[116, 101, 120, 116, 10]⟩] 9 (0, 0))) (by simp [execOp, Act.eval, go_sem]) ?_
            exact ⟨by simpa using hz, hc.below hbx, hg.trans (grownBy_of_below hbx _), _, _, _, _, _, _, _, _, _, rfl, (hd.world fun q hq => hq.below hbx).op2 hil ⟨_, rfl, heap_alloc_new _ _⟩⟩
          · have ho' := ho
            simp only [List.getElem?_toArray, List.getElem?_cons_zero, List.getElem?_cons_succ, Option.some.injEq] at ho'
            subst ho'
            refine wpOp_value ho rfl (v := .pointer (some ⟨g, 0, none⟩)) (w' := wv) (by simp [execOp, Act.eval, go_sem]) ?_
            exact ⟨by simpa using hz, hc, hg, _, _, _, _, _, _, _, _, _, rfl, hd.op3 hil rfl⟩
          · have ho' := ho
            simp only [List.getElem?_toArray, List.getElem?_cons_zero, List.getElem?_cons_succ, Option.some.injEq] at ho'
            subst ho'
            obtain rfl := hd.m3 (hdep { on := 3, ground := .data } (by simp) rfl)
            refine wpOp_call ho rfl (f := 55) (args := #[.pointer (some ⟨g, 0, none⟩), .int .i64 3]) (w' := wv) (by simp [Act.eval, go_sem]) ?_
            refine (next_any 3 (by omega) (by omega) base g wv hc).mono ?_; rintro e9 w9 ⟨o9, rfl, ho1, ho8, _, hc9, hg9⟩
            refine ⟨_, rfl, ?_⟩
            obtain ⟨o9, rfl⟩ := Int.eq_ofNat_of_zero_le ho1
            have ho8 := ho8 (by omega)
            exact ⟨by simpa using hz, hc9, hg.trans hg9, _, _, _, _, _, _, _, _, _, rfl, (hd.world fun q hq => hq.cod hc hg9).op4 hil ⟨o9, by omega, rfl⟩⟩
          · have ho' := ho
            simp only [List.getElem?_toArray, List.getElem?_cons_zero, List.getElem?_cons_succ, Option.some.injEq] at ho'
            subst ho'
            obtain ⟨q, rfl, hq⟩ := hd.b2 (hdep { on := 2, ground := .data } (by simp) rfl)
            obtain ⟨i, hi3, rfl⟩ := hd.c4 (hdep { on := 4, ground := .data } (by simp) rfl)
            refine wpOp_value ho rfl (v := .pointer (some ⟨q, i, none⟩)) (w' := wv) (by rcases (show i = 0 ∨ i = 1 ∨ i = 2 by omega) with rfl | rfl | rfl <;> simp [execOp, Act.eval, go_sem]) ?_
            exact ⟨by simpa using hz, hc, hg, _, _, _, _, _, _, _, _, _, rfl, hd.op5 hil ⟨q, i, hi3, rfl, hq⟩⟩
          · have ho' := ho
            simp only [List.getElem?_toArray, List.getElem?_cons_zero, List.getElem?_cons_succ, Option.some.injEq] at ho'
            subst ho'
            obtain ⟨q, i, hi3, rfl, hq⟩ := hd.a5 (hdep { on := 5, ground := .data } (by simp) rfl)
            rcases (show i = 0 ∨ i = 1 ∨ i = 2 by omega) with rfl | rfl | rfl
            · refine wpOp_value ho rfl (v := .string ⟨#[]⟩) (w' := wv) (by simp [execOp, Act.eval, go_sem, hq.cell0]) ?_
              exact ⟨by simpa using hz, hc, hg, _, _, _, _, _, _, _, _, _, rfl, hd.op6 hil hnu ⟨_, by decide, rfl⟩⟩
            · refine wpOp_value ho rfl (v := .string ⟨#[97]⟩) (w' := wv) (by simp [execOp, Act.eval, go_sem, hq.cell1]) ?_
              exact ⟨by simpa using hz, hc, hg, _, _, _, _, _, _, _, _, _, rfl, hd.op6 hil hnu ⟨_, by decide, rfl⟩⟩
            · refine wpOp_value ho rfl (v := .string ⟨#[116, 101, 120, 116, 10]⟩) (w' := wv) (by simp [execOp, Act.eval, go_sem, hq.cell2]) ?_
              exact ⟨by simpa using hz, hc, hg, _, _, _, _, _, _, _, _, _, rfl, hd.op6 hil hnu ⟨_, by decide, rfl⟩⟩
          · have ho' := ho
            simp only [List.getElem?_toArray, List.getElem?_cons_zero, List.getElem?_cons_succ, Option.some.injEq] at ho'
            subst ho'
            have hu := hdep { on := 1, ground := .data } (by simp) rfl
            refine wpOp_value ho rfl (v := x31) (w' := wv) (by simp [execOp, Act.eval, go_sem]) ?_
            exact ⟨by simpa using hz, hc, hg, _, _, _, _, _, _, _, _, _, rfl, hd.op7 hil ⟨rfl, hu⟩⟩
          · have ho' := ho
            simp only [List.getElem?_toArray, List.getElem?_cons_zero, List.getElem?_cons_succ, Option.some.injEq] at ho'
            subst ho'
            have hu := hdep { on := 6, ground := .data } (by simp) rfl
            refine wpOp_value ho rfl (v := x36) (w' := wv) (by simp [execOp, Act.eval, go_sem]) ?_
            exact ⟨by simpa using hz, hc, hg, _, _, _, _, _, _, _, _, _, rfl, hd.op8 hil ⟨rfl, hu⟩⟩
        · rintro listed a wv ⟨hz, hc, hg, x30, x31, x32, x33, x34, x35, x36, x9, x10, rfl, hd⟩ hr
          have hall := all_up2 hr hz (by decide)
          have U : ∀ k, k < 9 → up listed k := fun k hk => hall (k + 1) k (by omega) hk
          obtain ⟨out, ho1, ho8, rfl⟩ := hd.c1 (U 1 (by omega))
          obtain ⟨txt, ht5, rfl⟩ := hd.l6 (U 6 (by omega))
          obtain ⟨rfl, _⟩ := hd.s7 (U 7 (by omega))
          obtain ⟨rfl, _⟩ := hd.s8 (U 8 (by omega))
          clear hall U hr hd
          have HO4 := Lib.hid (HO3.out.cod HC3.out hg)
          have HC4 := Lib.hid hc
          have HG4 := Lib.hid (HG3.out.trans hg)
          clear hc hg
          go_wp2_with fail
          obtain ⟨A5, n5, c5, e5, hrow5⟩ := HO4.out.row (by omega)
          injection e5 with e51 e52 e53
          subst e51 e52 e53
          refine (radd38 A n c L 3 of out txt wv hrow5 HI.out.2.1 (by omega) (by omega)).mono ?_; rintro e w5 ⟨v5, M, rfl, ho5, hM, _, hb5⟩
          have HM := Lib.hid (reg_step hM HI.out.2.1 (by omega))
          have HB5 := Lib.hid hb5
          have HO5 := Lib.hid ho5
          clear hM hb5 ho5 hrow5
          go_wp2_with fail
          go_roundw
          case rel =>
            obtain ⟨s, rfl⟩ : ∃ s, t = s + 1 := ⟨t - 1, by omega⟩
            have hm := HM.out.2
            exact ⟨s, M, by go_num, by omega, HO5.out.base_le HG4.out.size, HM.out.1, HC4.out.below HB5.out, HG4.out.trans (grownBy_of_below HB5.out _)⟩
          case measure => simp [intOf]; omega
end Go.Proofs.Ytojeendofpallaa
