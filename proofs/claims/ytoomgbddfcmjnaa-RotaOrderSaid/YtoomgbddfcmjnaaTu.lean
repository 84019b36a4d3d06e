/- Rota: shifts sorted by the library; Add. -/
import Derived.Test.YtoomgbddfcmjnaaTq
import Derived.Test.YtoomgbddfcmjnaaTr
import Derived.Test.YtoomgbddfcmjnaaShelfF
import Derived.Sort.OwnSorted
namespace Go.Proofs.Ytoomgbddfcmjnaa
open Go.RowKit Go.Sort Go.Lib Go.Shelf
instance : Inhabited Sf := ⟨Sf0⟩
theorem Rec.flatK_eq {α : Type} [Inhabited α] (R : Rec α) (L : List α) : flatK R.cells R.k L.toArray = (R.flat L).toArray := by
  apply Array.ext_getElem?
  intro t
  by_cases h : t < L.length * R.k
  · have hq : t / R.k < L.length := Nat.div_lt_of_lt_mul (by rw [Nat.mul_comm]; exact h)
    have hi : t % R.k < R.k := Nat.mod_lt _ R.pos
    have h2 := R.flat_get L (t / R.k) hq (t % R.k) hi
    rw [show t / R.k * R.k + t % R.k = t by rw [Nat.mul_comm]; exact Nat.div_add_mod _ _] at h2
    have h3 : L.toArray[t / R.k]! = L.getD (t / R.k) R.d := by
      rw [getElem!_pos L.toArray _ (by simpa using hq)]
      simp [List.getD, List.getElem?_eq_getElem hq]
    have h4 : t % R.k < (R.cells (L.getD (t / R.k) R.d)).length := by rw [R.len]; exact hi
    have hR : (R.flat L).toArray[t]? = some ((R.cells (L.getD (t / R.k) R.d))[t % R.k]) := by
      rw [List.getElem?_toArray, h2, List.getElem?_eq_getElem h4]
    rw [hR]
    simp only [flatK, Array.getElem?_map, Array.getElem?_range, List.size_toArray, h, if_true, Option.map_some, h3, Option.some.injEq]
    rw [getElem!_pos (R.cells (L.getD (t / R.k) R.d)) (t % R.k) h4]
  · rw [Array.getElem?_eq_none (by simpa using h), List.getElem?_toArray, List.getElem?_eq_none (by rw [R.flat_len]; omega)]
theorem take_putId (cur : Array Value) (F : List Value) (h : F.length ≤ cur.size) : (putCells id 0 F.toArray cur).toList.take F.length = F := by
  apply List.ext_getElem?
  intro j
  by_cases hj : j < F.length
  · rw [List.getElem?_take_of_lt hj, Array.getElem?_toList]
    simp [putCells, hj, show j < cur.size by omega]
  · rw [List.getElem?_take_eq_none (by omega), List.getElem?_eq_none (by omega)]
theorem heap_sortedId {w : World} {g n : Nat} {os : Array Obj} {cur : Array Value} {e : TypeId} {fr : Nat × Nat} (d : Array Value) (hb : w.heap[g]? = some (.cells cur e fr)) :
    (grow (putRow id (Sort.ahead w n) g 0 d) os).heap[g]? = some (.cells (putCells id 0 d cur) e fr) := by
  have hg : g < w.heap.size := (Array.getElem?_eq_some_iff.1 hb).1
  rw [heap_grow_old _ _ (by simpa using hg)]
  simp [putRow, mapBlock, Sort.ahead, Array.getElem?_modify, hb, onCells]
theorem grownBy_sortedId {w : World} {g n : Nat} {os : Array Obj} (d : Array Value) : w.grownBy (grow (putRow id (Sort.ahead w n) g 0 d) os) (some g) := by
  refine ⟨rfl, rfl, rfl, by simp, fun k hk hne => ?_⟩
  rw [heap_grow_old _ _ (by simpa using hk)]
  have : g ≠ k := fun e => hne (by rw [e])
  simp [putRow, mapBlock, Sort.ahead, Array.getElem?_modify, this]
/-- a row of records of one's own, as the sort asks it and leaves it -/
theorem ROwn.rowK {α : Type} [Inhabited α] {R : Rec α} {w : World} {base : Nat} {v : Value} {L : List α} (h : ROwn R w base v L) :
    (v = .slice none 0 0 ∧ L = []) ∨ ∃ g cap, v = .slice (some ⟨g, 0, none⟩) L.length cap ∧ base ≤ g ∧ g < w.heap.size ∧ HoldsK R.cells R.k w g 0 L.toArray ∧
      ∀ (M : List α) (q : Nat) (os : Array Obj), M.length = L.length → ROwn R (Go.Sort.grow (putRow id (Sort.ahead w q) g 0 (R.flat M).toArray) os) base (.slice (some ⟨g, 0, none⟩) L.length cap) M := by
  have h0 := h
  obtain ⟨hl, ⟨rfl, hn⟩ | ⟨g, cap, cur, rfl, hg, hh, hle, hmax, hsz, htake⟩⟩ := h
  · exact .inl ⟨rfl, List.eq_nil_of_length_eq_zero hn⟩
  · have hcs : L.length * R.k ≤ cur.size := by rw [hsz]; exact Nat.mul_le_mul_right _ hle
    refine .inr ⟨g, cap, rfl, hg, (Array.getElem?_eq_some_iff.1 hh).1, ?_, fun M q os hM => ?_⟩
    · unfold HoldsK
      rw [R.flatK_eq]
      intro j hj
      have hj' : j < (R.flat L).length := by simpa using hj
      have hj2 : j < L.length * R.k := by rwa [R.flat_len] at hj'
      refine ⟨?_, by simp [World.frozen?, hh]⟩
      have h1 : (cur.toList.take (L.length * R.k))[j]? = (R.flat L)[j]? := by rw [htake]
      rw [List.getElem?_take_of_lt hj2] at h1
      simp only [World.cell?, hh, Nat.zero_add]
      simp only [Option.isSome_none, Bool.false_eq_true, if_false]
      rw [← Array.getElem?_toList, h1]
      simp [hj']
    · unfold ROwn
      have hMl : (R.flat M).length = L.length * R.k := by rw [R.flat_len, hM]
      refine ⟨by rw [hMl, hM], .inr ⟨g, cap, _, by rw [hM], hg, heap_sortedId _ hh, by rw [hM]; exact hle, hmax, by simp [putCells, hsz], ?_⟩⟩
      rw [hM, ← hMl]
      exact take_putId cur (R.flat M) (by rw [hMl]; exact hcs)
theorem bl_ntr {x y z : List UInt8} (h : Op.bytesLess x z = true) : Op.bytesLess x y = true ∨ Op.bytesLess y z = true := by
  rcases h1 : Op.bytesLess x y with _ | _
  · rcases h2 : Op.bytesLess y x with _ | _
    · rw [bl_tot h1 h2] at h; exact .inr h
    · exact .inr (bl_tr h2 h)
  · exact .inl rfl
theorem Sf.swo : SWO (ltOf Sf.cmp) := by
  have e : ∀ x y, ltOf Sf.cmp x y = Sf.lt x y := Sf.cmp_lt
  refine ⟨fun x => by rw [e]; exact Sf.lt_irr x, fun x y z h1 h2 => by rw [e] at *; exact Sf.lt_tr h1 h2, fun x y z h1 h2 => ?_⟩
  rw [e] at *
  rw [Bool.eq_false_iff, ne_eq, Sf.lt_iff] at h1 h2 ⊢
  rintro (h | ⟨hf, hb⟩)
  · exact h2 (.inl (by rcases Int.lt_or_le x.f y.f with h9 | h9; exact absurd (.inl h9) h1; omega))
  · rcases bl_ntr (y := y.p.toList) hb with h9 | h9
    · rcases (show x.f < y.f ∨ x.f = y.f ∨ y.f < x.f by omega) with h8 | h8 | h8
      · exact h1 (.inl h8)
      · exact h1 (.inr ⟨h8, h9⟩)
      · exact h2 (.inl (by omega))
    · rcases (show y.f < z.f ∨ y.f = z.f ∨ z.f < y.f by omega) with h8 | h8 | h8
      · exact h2 (.inl h8)
      · exact h2 (.inr ⟨h8, h9⟩)
      · exact h1 (.inl (by omega))
theorem cmpLays36 (blk off size : Nat) (w : World) : CmpLays Try.prog 64 #[] sfRec.cells 3 Sf.cmp blk off size w := by
  intro m os dk _ x y
  refine (compareX36 x.p x.f x.u y.p y.f y.u (sortWorldK sfRec.cells 3 w blk off m dk os)).mono ?_
  rintro e w' ⟨rfl, q, os', h⟩
  exact ⟨rfl, q, os', h⟩
theorem sort_sf (base : Nat) (v : Value) (L : List Sf) (w : World) (h : ROwn sfRec w base v L) (hb : base ≤ w.heap.size) (hn : L.length ≤ 1000) (h0 : 0 < L.length) :
    Calls Try.prog 63 #[v, .func (.func 64) #[] #[]] w fun e w' => e = .returned (.tuple #[]) ∧ ∃ M : List Sf, M.Perm L ∧ M.Pairwise (fun a b => Sf.lt b a = false) ∧ ROwn sfRec w' base v M ∧ Below base w w' := by
  rcases h.rowK with ⟨rfl, rfl⟩ | ⟨g, cap, rfl, hg, hgs, hH, hown⟩
  · simp at h0
  · have hsz : L.toArray.size = L.length := by simp
    have hc := AnyQ.slices_SortFunc Try.laysSortF 3 Try.isAgg31 Try.sizeOf31 sfRec.cells sfRec.len sfRec.one Sf.cmp Sf.swo 64 #[] g 0 cap L.toArray w (enters_of Try.func64 (by kernel_rfl) rfl) (cmpLays36 g 0 _ w) hH hgs (by rw [hsz]; omega)
    rw [hsz] at hc
    change Calls Try.prog 63 _ _ _ at hc
    refine hc.mono ?_
    rintro e w' ⟨rfl, d', q, os, hp, hs, rfl⟩
    have hds : d'.size = L.length := by rw [hp.1, hsz]
    have hM : d'.toList.length = L.length := by simpa using hds
    have hw : sortWorldK sfRec.cells 3 w g 0 q d' os = grow (putRow id (Sort.ahead w q) g 0 (sfRec.flat d'.toList).toArray) os := by
      unfold sortWorldK putRowK
      have h9 := sfRec.flatK_eq d'.toList
      rw [Array.toArray_toList] at h9
      rw [show (3 : Nat) = sfRec.k from rfl, h9]
    refine ⟨rfl, d'.toList, ?_, ?_, by rw [hw]; exact hown d'.toList q os hM, ?_⟩
    · have h2 := hp.2.2
      have h3 : (d'.extract 0 L.length).toList = d'.toList := by
        rw [← hds]; simp
      have h4 : (L.toArray.extract 0 L.length).toList = L := by simp
      rw [h3, h4] at h2
      exact h2
    · rw [List.pairwise_iff_getElem]
      intro i j hi hj hij
      have h3 := hs i j (Nat.zero_le _) hij (by rw [← hM]; exact hj)
      rw [getElem!_pos d' j (by simpa using hj), getElem!_pos d' i (by simpa using hi)] at h3
      rw [← Sf.cmp_lt]
      simpa [ltOf] using h3
    · rw [hw]
      exact (Below.refl base w).grown (grownBy_sortedId _) hb (fun k hk => by injection hk with hk; omega)
theorem Sf.ins_perm (L : List Sf) (x : Sf) : (Sf.ins L x).Perm (L ++ [x]) := by
  unfold Sf.ins
  rw [List.append_assoc, List.singleton_append]
  refine List.perm_middle.trans ?_
  rw [List.take_append_drop]
  exact (List.perm_append_singleton x L).symm
theorem Sf.Ok.tot {L : List Sf} (h : Sf.Ok L) {a b : Sf} (ha : a ∈ L) (hb : b ∈ L) (h1 : Sf.lt a b = false) (h2 : Sf.lt b a = false) : a = b := by
  obtain ⟨i, hi, rfl⟩ := List.getElem_of_mem ha
  obtain ⟨j, hj, rfl⟩ := List.getElem_of_mem hb
  rcases Nat.lt_trichotomy i j with h3 | h3 | h3
  · have := (List.pairwise_iff_getElem.1 h.pw i j hi hj h3).1
    rw [h1] at this; cases this
  · subst h3; rfl
  · have := (List.pairwise_iff_getElem.1 h.pw j i hj hi h3).1
    rw [h2] at this; cases this
theorem Sf.sorted_eq {M N : List Sf} (hN : Sf.Ok N) (hp : M.Perm N) (hs : M.Pairwise (fun a b => Sf.lt b a = false)) : M = N := by
  refine List.Perm.eq_of_pairwise (le := fun a b => Sf.lt b a = false) (fun a b ha hb h1 h2 => hN.tot (hp.mem_iff.1 ha) hb h2 h1) hs (hN.pw.imp fun h => Sf.lt_asym h.1) hp
theorem concat_add36 (A : Option Addr) (n c : Nat) (L : List Sf) (p : ByteArray) (f u : Int) (W : World) (h : RRow sfRec W W.heap.size A n c L) (hn : n ≤ 60) :
    Calls Try.prog 62 #[.slice (some ⟨W.heap.size + 1, 0, none⟩) 2 2]
      ((W.alloc (.cells #[.string p, .int .i64 f, .int .i64 u] 31)).alloc (.cells #[.slice A n c, .slice (some ⟨W.heap.size, 0, none⟩) 1 1] 25))
      (GivesSf (L ++ [⟨p, f, u⟩]) W) := by
  obtain ⟨X, hX, HX⟩ := sf_boxB W p f u
  have hl := RRow.lit (R := sfRec) (w := X) (g := W.heap.size) (L := [⟨p, f, u⟩]) (by rw [← hX]; exact heap_alloc_new _ _) (by simp)
  have hxs : X.heap.size = W.heap.size + 1 := by rw [← hX]; simp
  rw [hX]
  have hb : RowKit.Below X.heap.size X (X.alloc (.cells #[.slice A n c, .slice (some ⟨W.heap.size, 0, none⟩) 1 1] 25)) := below_one _
  have h1 := h.keep HX.out.1 HX.out.1.size
  have h2 := h1.keep hb hb.size
  have hl2 := hl.keep hb hb.size
  refine (concatSf2 (W.heap.size + 1) _ _ n c 1 1 L [⟨p, f, u⟩] _ (by rw [← hxs]; simp [go_sem]) (by rw [← hxs]; simp [go_sem]) h2 hl2 (by omega)).mono ?_
  rintro e w' ⟨v, rfl, ho, hbb⟩
  have hs : W.heap.size ≤ X.heap.size := by omega
  have hs2 : W.heap.size ≤ (X.alloc (.cells #[.slice A n c, .slice (some ⟨W.heap.size, 0, none⟩) 1 1] 25)).heap.size := Nat.le_trans hs hb.size
  exact ⟨v, rfl, ho.base_le hs2, (HX.out.1.trans (hb.mono hs)).trans (hbb.mono hs2)⟩
def GivesSfE (R : List Sf × Int) (w : World) (e : Ending) (w' : World) : Prop := ∃ A n c, e = .returned (.tuple #[.slice A n c, .int .i64 R.2]) ∧ RRow sfRec w' w'.heap.size A n c R.1 ∧ Below w.heap.size w w'
set_option maxHeartbeats 1600000 in
set_option maxRecDepth 100000 in
theorem add36 (A : Option Addr) (n c : Nat) (L : List Sf) (p : ByteArray) (f u : Int) (w : World) (h : RRow sfRec w w.heap.size A n c L) :
    Calls Try.prog 13 #[.slice A n c, .agg #[.string p, .int .i64 f, .int .i64 u]] w (GivesSfE (Sf.add L ⟨p, f, u⟩) w) := by
  have hm : n ≤ 9223372036854775807 := by have := h.cap; have := h.max; unfold maxLen at this; omega
  obtain ⟨X, hX, HX⟩ := sf_boxB w p f u
  have H := Lib.hid (h.keep HX.out.1 HX.out.1.size)
  have HL := Lib.hid h.len
  clear h
  obtain ⟨_, e0, e2, e3, _⟩ := HX.out.2
  have HA1 := Lib.hid (fun (h : Sf.chk L ≠ 0) => show Sf.add L ⟨p, f, u⟩ = (L, Sf.chk L) by unfold Sf.add; rw [if_pos h])
  have HA2 := Lib.hid (fun (h : Sf.chk L = 0) => show Sf.add L ⟨p, f, u⟩ = _ by unfold Sf.add; rw [if_neg (by simpa using h)])
  have HOK := Lib.hid (fun (h : Sf.chk L = 0) => Sf.chk_ok.1 h)
  go_enter Try.func13, Try.ntmps13
  go_wp2_with fail
  refine (check36 A n c L X H.out).mono ?_; rintro e w2 ⟨rfl, hb⟩
  have HB2 := Lib.hid (HX.out.1.trans (hb.mono HX.out.1.size))
  have HX2 := Lib.hid (HX.out.2.keep hb)
  have H2 := Lib.hid (H.out.keep hb hb.size)
  clear hb H e0 e2 e3 hX
  obtain ⟨_, e0, e2, e3, _⟩ := HX2.out
  obtain ⟨o, ho⟩ : ∃ o, Sf.chk L = o := ⟨_, rfl⟩
  rw [ho]
  rw [ho] at HA1 HA2 HOK
  clear ho
  by_cases h0 : o = 0
  rotate_left
  · have g1 : (o == 0) = false := by simpa using h0
    have g2 : (o != 0) = true := by simpa using h0
    have HR := Lib.hid (HA1.out h0)
    clear HA1 HA2 h0
    go_wp2_with fail
    exact bodyPost_ret (v := .tuple #[.slice A n c, .int .i64 o]) (by simp [results, Try.results13, go_sem]) rfl ⟨A, n, c, by rw [HR.out], by rw [HR.out]; exact H2.out, HB2.out⟩
  have g1 : (o == 0) = true := by simpa using h0
  have HA := Lib.hid (HA2.out h0)
  have HOK2 := Lib.hid (HOK.out h0)
  clear HA1 HA2 HOK h0
  go_wp2_with fail
  refine (one36 p f u w2).mono ?_; rintro e w3 ⟨rfl, hb⟩
  have HB3 := Lib.hid (HB2.out.trans (hb.mono HB2.out.size))
  have HX3 := Lib.hid (HX2.out.keep hb)
  have H3 := Lib.hid (H2.out.keep hb hb.size)
  clear hb HB2 HX2 H2 e0 e2 e3 g1
  obtain ⟨_, e0, e2, e3, _⟩ := HX3.out
  obtain ⟨o1, ho⟩ : ∃ o, Sf.one ⟨p, f, u⟩ = o := ⟨_, rfl⟩
  rw [ho] at HA ⊢
  have HONE := Lib.hid ho
  clear ho
  by_cases h1 : o1 = 0
  rotate_left
  · have g2 : (o1 != 0) = true := by simpa using h1
    have HR := Lib.hid (show Sf.add L ⟨p, f, u⟩ = (L, o1) by rw [HA.out, if_pos h1])
    clear HA h1 HONE
    go_wp2_with fail
    exact bodyPost_ret (v := .tuple #[.slice A n c, .int .i64 o1]) (by simp [results, Try.results13, go_sem]) rfl ⟨A, n, c, by rw [HR.out], by rw [HR.out]; exact H3.out, HB3.out⟩
  subst h1
  replace HA := Lib.hid (show Sf.add L ⟨p, f, u⟩ = _ by rw [HA.out, if_neg (by decide)])
  go_wp2_with fail
  refine (overlaps36 A n c L p f u w3 H3.out).mono ?_; rintro e w4 ⟨rfl, hb⟩
  have HB4 := Lib.hid (HB3.out.trans (hb.mono HB3.out.size))
  have HX4 := Lib.hid (HX3.out.keep hb)
  have H4 := Lib.hid (H3.out.keep hb hb.size)
  clear hb HB3 HX3 H3 e0 e2 e3
  obtain ⟨_, e0, e2, e3, _⟩ := HX4.out
  rcases hq : Sf.meets L ⟨p, f, u⟩ with _ | _
  rotate_left
  · have HR := Lib.hid (show Sf.add L ⟨p, f, u⟩ = (L, 46) by rw [HA.out, if_pos hq])
    clear HA hq
    go_wp2_with fail
    exact bodyPost_ret (v := .tuple #[.slice A n c, .int .i64 46]) (by simp [results, Try.results13, go_sem]) rfl ⟨A, n, c, by rw [HR.out], by rw [HR.out]; exact H4.out, HB4.out⟩
  have HM := Lib.hid hq
  replace HA := Lib.hid (show Sf.add L ⟨p, f, u⟩ = _ by rw [HA.out, if_neg (by rw [hq]; decide)])
  clear hq
  by_cases h60 : n = 60
  · subst h60
    have HR := Lib.hid (show Sf.add L ⟨p, f, u⟩ = (L, 1) by rw [HA.out, if_pos HL.out])
    clear HA
    go_wp2_with fail
    exact bodyPost_ret (v := .tuple #[.slice A 60 c, .int .i64 1]) (by simp [results, Try.results13, go_sem]) rfl ⟨A, 60, c, by rw [HR.out], by rw [HR.out]; exact H4.out, HB4.out⟩
  replace HA := Lib.hid (show Sf.add L ⟨p, f, u⟩ = (Sf.ins L ⟨p, f, u⟩, 0) by rw [HA.out, if_neg (by rw [HL.out]; exact h60)])
  have g4 : ((n : Int) == 60) = false := beq_false_of_ne (by omega)
  have hn60 : n < 60 := by have := HOK2.out.few; rw [HL.out] at this; omega
  clear h60
  go_wp2_with fail
  refine (concat_add36 A n c L p f u w4 H4.out (by omega)).mono ?_; rintro e w5 ⟨v5, rfl, ho5, hb5⟩
  have HO5 := Lib.hid ho5
  have HS5 := Lib.hid hb5.size
  have HB5 := Lib.hid (HB4.out.trans (hb5.mono HB4.out.size))
  clear hb5 ho5 e0 e2 e3 g4
  go_wp2_with fail
  refine (sort_sf w4.heap.size v5 _ w5 HO5.out HS5.out (by rw [List.length_append, HL.out]; simp; omega) (by simp)).mono ?_; rintro e w6 ⟨rfl, M, hp, hs, ho6, hb6⟩
  have HME := Lib.hid (Sf.sorted_eq (HOK2.out.ins HONE.out HM.out (by rw [HL.out]; exact hn60)) (hp.trans (Sf.ins_perm L ⟨p, f, u⟩).symm) hs)
  rw [HME.out] at ho6
  obtain ⟨A6, n6, c6, rfl, hn6, hr6⟩ := ho6.row
  clear hn6
  have HR6 := Lib.hid hr6
  have HB6 := Lib.hid (HB5.out.trans (hb6.mono HB4.out.size))
  clear ho6 hr6 hb6 hp hs
  go_wp2_with fail
  exact bodyPost_ret (v := .tuple #[.slice A6 n6 c6, .int .i64 0]) (by simp [results, Try.results13, go_sem]) rfl ⟨A6, n6, c6, by rw [HA.out], by rw [HA.out]; exact HR6.out, HB6.out⟩
end Go.Proofs.Ytoomgbddfcmjnaa
