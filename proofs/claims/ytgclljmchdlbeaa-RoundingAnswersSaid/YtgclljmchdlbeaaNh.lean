/- Rounding: the search, from a number on. -/
import Derived.Test.YtgclljmchdlbeaaNg
import Derived.Test.YtgclljmchdlbeaaCl
import Derived.Deep.RegionHeld3
import Derived.WalkSpells
namespace Go.Proofs.Ytgclljmchdlbeaa
open Go.RowKit
theorem Rd.St.alloc {C : Rd.Cx} {w0 w : World} {ρ : List Int} {φ : Value} (h : Rd.St C w0 w ρ φ) (o : Obj) : Rd.St C w0 (w.alloc o) ρ φ :=
  h.below ((Below.refl _ _).alloc (Nat.le_refl _) _)
theorem Rd.mult_mem {n b y : Int} (hn : 0 ≤ n ∧ n ≤ 1000000) (hb : 1 ≤ b ∧ b ≤ 20) (h : y ∈ Rd.mult n b) : -2000000 ≤ y ∧ y ≤ 2000000 := by
  have hm0 := Int.emod_nonneg n (show b ≠ 0 by omega)
  have hm1 := Int.emod_lt_of_pos n (show 0 < b by omega)
  unfold Rd.mult at h
  split at h
  · rcases List.mem_cons.1 h with rfl | h
    · omega
    · cases h
  · rcases List.mem_cons.1 h with rfl | h
    · omega
    · rcases List.mem_cons.1 h with rfl | h
      · omega
      · cases h
theorem Rd.mult_ne (n b : Int) : Rd.mult n b ≠ [] := by unfold Rd.mult; split <;> simp
theorem Own.cellsNe {w : World} {base : Nat} {e : TypeId} {k : IntKind} {v : Value} {l : List Int} (h : Own w base e k v l) (hl : l ≠ []) : ∃ q n c, v = .slice (some ⟨q, 0, none⟩) n c ∧ base ≤ q ∧ q < w.heap.size := by
  obtain ⟨_, ⟨_, h⟩ | ⟨g, cap, cur, hv, hg, hheap, _⟩⟩ := h
  · exact absurd (List.eq_nil_of_length_eq_zero h) hl
  · exact ⟨g, _, _, hv, hg, (Array.getElem?_eq_some_iff.1 hheap).1⟩
/-- the choices of one number, as the search asks for them -/
theorem any34b (C : Rd.Cx) (w0 : World) (o : C.Ok w0) (i : Nat) (hi : i < C.k) (hT : Rd.Tries C w0 (i + 1)) (bi : Nat) (hbi : bi ≠ C.g ∧ bi ≠ C.bf) (W w : World) (ρ : List Int) (h : Rd.St C w0 W ρ (.slice none 0 0)) (hb : W.heap[bi]? = some (.cells #[.int .i64 i] 3 (0, 0))) (hW : Below W.heap.size W w)
    (L : List Int) (hL : ∀ y ∈ L, -2000000 ≤ y ∧ y ≤ 2000000) (q n c base : Nat) (hq : W.heap.size ≤ q) (hO : Own w base 3 .i64 (.slice (some ⟨q, 0, none⟩) n c) L) :
    Calls Try.prog 43 #[.slice (some ⟨q, 0, none⟩) n c, .func (.func 45) #[] #[.pointer (some ⟨C.br, 0, none⟩), .pointer (some ⟨bi, 0, none⟩), .pointer (some ⟨C.by_, 0, none⟩)]] w fun e w' => ∃ bl : Bool, e = .returned (.bool bl) ∧ K2 C.g C.bf w w' ∧ Hid (∃ ρ', ρ'.take i = ρ.take i ∧ ((L.findSome? (fun y => Rd.find C.F C.b (ρ.take i ++ [y]) (C.t.drop (i + 1))) = none ∧ bl = false ∧ Rd.St C w0 w' ρ' (.slice none 0 0)) ∨
    ∃ (r : List Int) (v : Value), L.findSome? (fun y => Rd.find C.F C.b (ρ.take i ++ [y]) (C.t.drop (i + 1))) = some r ∧ bl = true ∧ Rd.St C w0 w' ρ' v ∧ Own w' C.base 3 .i64 v r)) := by
  have hg := h.row.head.2.2
  have hf := (Array.getElem?_eq_some_iff.1 h.hf).1
  refine (any34 C w0 o i hi hT bi hbi w ρ (h.below hW) ((hW.block _ (Array.getElem?_eq_some_iff.1 hb).1).trans hb) L hL q n c base ⟨by omega, by omega⟩ hO).mono ?_
  rintro e w' ⟨ρ', hr, hk, ⟨h1, rfl, h3⟩ | ⟨r, v, h1, rfl, h3, h4⟩⟩
  · exact ⟨false, rfl, hk, Lib.hid ⟨ρ', hr, .inl ⟨h1, rfl, h3⟩⟩⟩
  · exact ⟨true, rfl, hk, Lib.hid ⟨ρ', hr, .inr ⟨r, v, h1, rfl, h3, h4⟩⟩⟩
theorem K2.next {g f : Nat} {W w w' : World} (h : K2 g f W w) (hb : Below w.heap.size w w') : K2 g f W w' := h.trans (K2.below hb)
theorem K2.drawn {g f : Nat} (w : World) (n : Nat) : K2 g f w { w with drawn := n } := ⟨rfl, rfl, rfl, Nat.le_refl _, fun _ _ _ _ => rfl⟩
theorem K2.cell {g f : Nat} {w w' : World} (h : K2 g f w w') {j o : Nat} {v : Value} (hv : w.cell? ⟨j, o, none⟩ = some v) (hj : j < w.heap.size) (h1 : j ≠ g) (h2 : j ≠ f) : w'.cell? ⟨j, o, none⟩ = some v := by
  rw [← hv]; simp [World.cell?, h.block j hj h1 h2]
theorem heap_setF {w : World} {f : Nat} {x : Value} {tf : TypeId} {fr : Nat × Nat} (h : w.heap[f]? = some (.cells #[x] tf fr)) (v : Value) : (w.setCell ⟨f, 0, none⟩ v).heap[f]? = some (.cells #[v] tf fr) := by
  simp [World.setCell, Array.getElem?_modify, h]
theorem grownBy_setF (w : World) (q k : Nat) (u : Value) : w.grownBy (w.setCell ⟨q, k, none⟩ u) (some q) := ⟨rfl, rfl, rfl, by simp [World.setCell], fun j hj hne => by
  simp only [World.setCell, Array.getElem?_modify]
  rw [if_neg (fun e => hne (by rw [← e]))]⟩
/-- the choice that was found -/
theorem Rd.St.setF {C : Rd.Cx} {w0 w : World} {ρ : List Int} {φ : Value} (h : Rd.St C w0 w ρ φ) (o : C.Ok w0) (v : Value) : Rd.St C w0 (w.setCell ⟨C.bf, 0, none⟩ v) ρ v ∧ K2 C.g C.bf w (w.setCell ⟨C.bf, 0, none⟩ v) := by
  have k : K2 C.g C.bf w (w.setCell ⟨C.bf, 0, none⟩ v) := K2.grownF (grownBy_setF w C.bf 0 v)
  have hrow := h.row
  refine ⟨⟨k.belowB h.bel h.sz o.hg o.hf, Nat.le_trans h.sz k.size, k.heap h.ht o.ng.1 o.ne.1, k.heap h.hc o.ng.2.1 o.ne.2.1, k.heap h.hr o.ng.2.2.1 o.ne.2.2.1, k.heap h.hb o.ng.2.2.2.1 o.ne.2.2.2.1, heap_setF h.hf v, k.heap h.hy o.ng.2.2.2.2 o.ne.2.2.2.2.1, ?_, h.len, h.small⟩, k⟩
  have hk : K2 C.bf C.bf w (w.setCell ⟨C.bf, 0, none⟩ v) := K2.grownF (grownBy_setF w C.bf 0 v)
  exact hrow.k2 hk o.ne.2.2.2.2.2 o.ne.2.2.2.2.2
theorem Rd.sm {l : List Int} (h : ∀ x ∈ l, -2000000 ≤ x ∧ x ≤ 2000000) : Rd.Sm l := fun j => by
  rw [List.getD_eq_getElem?_getD]
  rcases Nat.lt_or_ge j l.length with hj | hj
  · rw [List.getElem?_eq_getElem hj]; exact h _ (List.getElem_mem hj)
  · rw [List.getElem?_eq_none hj]; exact ⟨by decide, by decide⟩
theorem wf64s {x : Int} (h : -2000000 ≤ x ∧ x ≤ 2000000) : (Lit.int .i64 x).wf = true := by
  simp [Lit.wf, IntKind.min, IntKind.max, IntKind.bits, IntKind.signed]; omega
set_option maxRecDepth 100000 in
set_option maxHeartbeats 1600000 in
theorem try_end (C : Rd.Cx) (w0 : World) (o : C.Ok w0) : Rd.Tries C w0 C.k := by
  have q22 : ∀ (w : World) (a : Option Addr) (n c n' c' : Nat), (binOp .neq 22 (.slice a n c) (.slice none n' c')).run Try.prog w = .ok (.bool !a.isNone) w := fun w a n c n' c' => run_neq_slice_nil_any w _ _ a n c n' c' Try.underlying22
  intro w ρ h
  obtain ⟨W, hW⟩ : ∃ W, w.alloc (.cells #[.int .i64 C.k] 3 (0, 0)) = W := ⟨_, rfl⟩
  have h2 := h.alloc (.cells #[.int .i64 C.k] 3 (0, 0))
  have HK0 := Lib.hid (show K2 C.g C.bf w W by rw [← hW]; exact K2.below ((Below.refl _ _).alloc (Nat.le_refl _) _))
  rw [hW] at h2
  have ci : W.cell? ⟨w.heap.size, 0, none⟩ = some (.int .i64 C.k) := by rw [← hW]; exact heap_cell0 (heap_alloc_new _ _)
  have hk12 := o.k2
  have c1 := heap_cell0 h2.ht
  have c2 := heap_cell0 h2.hr
  have c3 := heap_cell0 h2.hb
  have c4 := heap_cell0 h2.hc
  have g1 : ((C.k : Int) == (C.k : Int)) = true := by simp
  have hsmt : ∀ x ∈ C.t, -2000000 ≤ x ∧ x ≤ 2000000 := fun x hx => by have := o.sm x hx; omega
  have HSm := Lib.hid hsmt
  have hne : C.bt ≠ C.bf := o.ne.1
  have H := Lib.hid h2
  have HLn := Lib.hid h.len
  have HL := Lib.hid (show ρ.take C.k = ρ from List.take_of_length_le (by rw [h.len]; omega))
  clear h h2 hsmt
  go_enter Try.func40, Try.ntmps40
  go_wp2_with fail
  refine (fit34 C.n o.n1 o.n2 C.A (some ⟨C.g, 0, none⟩) C.k o.k2 C.c C.k C.t ρ (Rd.sm HSm.out) (Rd.sm H.out.small) C.b W.heap.size W (o.nums.keep H.out.bel H.out.sz) (H.out.row.numsG (fun x hx => wf64s (H.out.small x hx))) (Nat.le_refl _)).mono ?_; rintro e w2 ⟨rfl, hb2⟩
  have H2 := Lib.hid (H.out.below hb2)
  have HK2 := Lib.hid (HK0.out.trans (K2.below hb2))
  have hdrop : C.t.drop C.k = [] := List.drop_eq_nil_of_le (by rw [o.len]; omega)
  have HD := Lib.hid hdrop
  rcases hfit : Rd.fits C.n C.k C.t ρ C.b with _ | _
  · have HF := Lib.hid (show Rd.find C.F C.b (ρ.take C.k) (C.t.drop C.k) = none by rw [HD.out, HL.out]; unfold Rd.find Rd.Cx.F; rw [hfit]; rfl)
    have c5 := heap_cell0 H2.out.hf
    clear hfit hdrop
    go_wp2_with fail
    go_ret
    exact ⟨ρ, by rw [HL.out, HLn.out, HL.out], HK2.out, .inl ⟨HF.out, rfl, H2.out⟩⟩
  · have HF := Lib.hid (show Rd.find C.F C.b (ρ.take C.k) (C.t.drop C.k) = some ρ by rw [HD.out, HL.out]; unfold Rd.find Rd.Cx.F; rw [hfit]; rfl)
    have c5 := heap_cell0 H2.out.hr
    clear hfit hdrop
    go_wp2_with fail
    refine (clone_any _ _ _ _ w2 (H2.out.row.numsG (fun x hx => wf64s (H2.out.small x hx))) (by omega)).mono ?_; rintro e w3 ⟨v, rfl, hv, hb3⟩
    obtain ⟨q, cap, rfl, hq, hq2, _, _⟩ := hv.rowg (n := C.k) H2.out.len o.k1
    have H3 := Lib.hid (H2.out.below hb3)
    have HV := Lib.hid hv
    have HS := Lib.hid (H3.out.setF o (.slice (some ⟨q, 0, none⟩) C.k cap))
    have HK3 := Lib.hid (HK2.out.trans ((K2.below hb3).trans HS.out.2))
    have fz := heap_thaw0 H3.out.hf
    have c7 := heap_cell0 H3.out.hf
    have hlt : C.bf < w2.heap.size := (Array.getElem?_eq_some_iff.1 H2.out.hf).1
    have HO := Lib.hid (hv.k2 (K2.grownF (g := C.bf) (f := C.bf) (grownBy_setF w3 C.bf 0 (.slice (some ⟨q, 0, none⟩) C.k cap))) (by omega) (by omega))
    obtain ⟨W3, hW3⟩ : ∃ W3, w3.setCell ⟨C.bf, 0, none⟩ (.slice (some ⟨q, 0, none⟩) C.k cap) = W3 := ⟨_, rfl⟩
    have c6 := heap_cell0 HS.out.1.hf
    rw [hW3] at HS HK3 HO c6
    have h2s := H2.out.sz
    clear hv
    go_wp2_with fail
    go_ret
    exact ⟨ρ, by rw [HL.out, HLn.out, HL.out], HK3.out, .inr ⟨ρ, _, HF.out, rfl, HS.out.1, HO.out.base_le (by omega)⟩⟩
theorem below_of_drawn2 {W w' : World} {n : Nat} (h : Below ({ W with drawn := n } : World).heap.size { W with drawn := n } w') : Below W.heap.size W w' := ⟨h.os, h.tape, h.output, h.size, h.block⟩
set_option maxRecDepth 100000 in
set_option maxHeartbeats 1600000 in
theorem try_step (C : Rd.Cx) (w0 : World) (o : C.Ok w0) (i : Nat) (hi : i < C.k) (hT : Rd.Tries C w0 (i + 1)) : Rd.Tries C w0 i := by
  intro w ρ h
  obtain ⟨W, hW⟩ : ∃ W, w.alloc (.cells #[.int .i64 i] 3 (0, 0)) = W := ⟨_, rfl⟩
  have h2 := h.alloc (.cells #[.int .i64 i] 3 (0, 0))
  have HK0 := Lib.hid (show K2 C.g C.bf w W by rw [← hW]; exact K2.below ((Below.refl _ _).alloc (Nat.le_refl _) _))
  rw [hW] at h2
  have hbi : W.heap[w.heap.size]? = some (.cells #[.int .i64 i] 3 (0, 0)) := by rw [← hW]; exact heap_alloc_new _ _
  have ci := heap_cell0 hbi
  have hbil : w.heap.size ≠ C.g ∧ w.heap.size ≠ C.bf := by
    have h1 := h.row.head.2.2
    have h3 := (Array.getElem?_eq_some_iff.1 h.hf).1
    omega
  have HBI := Lib.hid hbil
  have HB := Lib.hid hbi
  have hk12 := o.k2
  have g1 : ((i : Int) == (C.k : Int)) = false := beq_false_of_ne (by omega)
  obtain ⟨ad, x, had, hbl, HX, hx, hwf⟩ := (o.nums.keep h2.bel (Nat.le_refl _)).val hi
  have c1 := heap_cell0 h2.ht
  rw [had] at c1
  have c1v : ∀ w', K2 C.g C.bf W w' → w'.cell? ⟨C.bt, 0, none⟩ = some (.slice (some ad) C.k C.c) := fun w' h9 => h9.cell c1 (Array.getElem?_eq_some_iff.1 h2.ht).1 o.ng.1 o.ne.1
  have civ : ∀ w', K2 C.g C.bf W w' → w'.cell? ⟨w.heap.size, 0, none⟩ = some (.int .i64 i) := fun w' h9 => h9.cell ci (Array.getElem?_eq_some_iff.1 hbi).1 HBI.out.1 HBI.out.2
  have cbv : ∀ w', K2 C.g C.bf W w' → w'.cell? ⟨C.bb, 0, none⟩ = some (.int .i64 C.b) := fun w' h9 => h9.cell (heap_cell0 h2.hb) (Array.getElem?_eq_some_iff.1 h2.hb).1 o.ng.2.2.2.1 o.ne.2.2.2.1
  have cxv : ∀ w', K2 C.g C.bf W w' → w'.cell? (ad.add i) = some (.int .i64 x) := fun w' h9 => by
    have h8 := h9.block ad.block (Nat.lt_of_lt_of_le hbl h2.sz) (by have := o.hg; omega) (by have := o.hf; omega)
    rw [← hx]; simp only [World.cell?, add_block, h8]
  have hxm : 0 ≤ x ∧ x ≤ 1000000 := by
    have := HX.out
    rw [← this.1]
    refine o.sm _ ?_
    rw [List.getD_eq_getElem?_getD, List.getElem?_eq_getElem this.2]; exact List.getElem_mem this.2
  have HXM := Lib.hid hxm
  have HF := Lib.hid (show C.t.drop i = x :: C.t.drop (i + 1) by
    have h9 := HX.out.1
    rw [List.getD_eq_getElem?_getD, List.getElem?_eq_getElem HX.out.2] at h9
    have h8 : C.t[i]'HX.out.2 = x := h9
    exact (List.drop_eq_getElem_cons HX.out.2).trans (by rw [h8]))
  have i1 : (0 : Int) ≤ (i : Int) := by omega
  have i2 : (i : Int) < (C.k : Int) := by omega
  have H := Lib.hid h2
  have HT := Lib.hid hT
  have HLi := Lib.hid (show (ρ.take i).length = i by rw [List.length_take, h.len]; omega)
  clear h h2 hbi hbil had hbl hx hwf hT hxm
  go_enter Try.func40, Try.ntmps40
  go_wp2_with fail
  go_region_held3 (fun w' => K2 C.g C.bf W w')
    (first | assumption | (exact K2.refl _ _ _) | (exact K2.drawn _ _) | (exact K2.below (below_of_drawn 1)) | (exact K2.next (by assumption) (by assumption)) | (exact K2.trans (by assumption) (by assumption)))
    (first
      | (go_at_call 44; (with_reducible refine (mult34 x C.b _ HXM.out.1 HXM.out.2 o.b1 o.b2).mono ?_); rintro e wz ⟨vz, rfl, hown, hbz⟩; obtain ⟨qz, nz, cz, rfl, hqz1, hqz2⟩ := hown.cellsNe (Rd.mult_ne _ _); have HZ := Lib.hid hown; clear hown; have HBW : Below W.heap.size W wz := below_of_drawn2 hbz; have hqz3 : W.heap.size ≤ qz := hqz1; have HZZ := Lib.hid (any34b C w0 o i hi HT.out w.heap.size HBI.out W wz ρ H.out HB.out HBW (Rd.mult x C.b) (fun y hy => Rd.mult_mem HXM.out ⟨o.b1, o.b2⟩ hy) qz nz cz _ hqz3 HZ.out))
      | (go_at_call 43; (with_reducible refine HZZ.out.mono ?_); rintro e wy ⟨bl, rfl, hky, HY⟩)
      | fail)
  all_goals
    have HKY := Lib.hid (HK0.out.trans (show K2 C.g C.bf W wy by assumption))
    have HB2 := Lib.hid (show Rd.find C.F C.b (ρ.take i) (C.t.drop i) = (Rd.mult x C.b).findSome? (fun y => Rd.find C.F C.b (ρ.take i ++ [y]) (C.t.drop (i + 1))) by rw [HF.out]; rfl)
    clear HZZ hky
    go_wp2_with fail
    go_ret
    obtain ⟨ρ', hr, ⟨h1, rfl, h3⟩ | ⟨r, v, h1, rfl, h3, h4⟩⟩ := HY.out
    · exact ⟨ρ', by rw [HLi.out]; exact hr, HKY.out, .inl ⟨HB2.out.trans h1, rfl, h3⟩⟩
    · exact ⟨ρ', by rw [HLi.out]; exact hr, HKY.out, .inr ⟨r, v, HB2.out.trans h1, rfl, h3, h4⟩⟩
theorem try34 (C : Rd.Cx) (w0 : World) (o : C.Ok w0) : ∀ j i : Nat, i + j = C.k → Rd.Tries C w0 i
  | 0, i, h => by obtain rfl : i = C.k := by omega
                  exact try_end C w0 o
  | j + 1, i, h => try_step C w0 o i (by omega) (try34 C w0 o j (i + 1) (by omega))
end Go.Proofs.Ytgclljmchdlbeaa
