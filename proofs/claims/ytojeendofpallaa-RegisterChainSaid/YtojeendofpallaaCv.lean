/- Made: views. -/
import Derived.Test.YtojeendofpallaaCt
namespace Go.Proofs.Ytojeendofpallaa
open Go.RowKit
/-- a beginning of a list of groups -/
structure Ce.Pref (l : List Int) : Prop where
  lo : ∀ j, j < l.length → -1 ≤ l.getD j 0
  hi : ∀ j, j < l.length → l.getD j 0 ≤ Ce.nextN l j
theorem Ce.nextN_append (l r : List Int) : ∀ j, j ≤ l.length → Ce.nextN (l ++ r) j = Ce.nextN l j
  | 0, _ => rfl
  | j + 1, hj => by
    have h := Ce.nextN_append l r j (by omega)
    simp only [Ce.nextN, h]
    have e : (l ++ r).getD j 0 = l.getD j 0 := by simp [List.getD, List.getElem?_append_left (show j < l.length by omega)]
    rw [e]
theorem Ce.Pref.nil : Ce.Pref [] := ⟨fun j hj => absurd hj (by simp), fun j hj => absurd hj (by simp)⟩
theorem Ce.Pref.snoc {l : List Int} {x : Int} (h : Ce.Pref l) (h0 : -1 ≤ x) (h1 : x ≤ Ce.groups l) : Ce.Pref (l ++ [x]) := by
  refine ⟨snoc_all (p := fun y => -1 ≤ y) h.lo h0, fun j hj => ?_⟩
  simp at hj
  rw [Ce.nextN_append _ _ j (by omega), getD_snoc]
  by_cases hl : j < l.length
  · rw [if_pos hl]; exact h.hi j hl
  · rw [if_neg hl, if_pos (by omega)]
    rw [show j = l.length by omega]
    exact h1
theorem Ce.groups_snoc (l : List Int) (x : Int) : Ce.groups (l ++ [x]) = if x = Ce.groups l then Ce.groups l + 1 else Ce.groups l := by
  unfold Ce.groups
  rw [List.length_append, List.length_singleton]
  show (if (l ++ [x]).getD l.length 0 = Ce.nextN (l ++ [x]) l.length then Ce.nextN (l ++ [x]) l.length + 1 else Ce.nextN (l ++ [x]) l.length) = _
  rw [Ce.nextN_append _ _ _ (Nat.le_refl _), show (l ++ [x]).getD l.length 0 = x by rw [getD_snoc, if_neg (Nat.lt_irrefl _), if_pos rfl]]
theorem Ce.groups_bd (l : List Int) : 0 ≤ Ce.groups l ∧ Ce.groups l ≤ l.length := ⟨Ce.nextN_nonneg _ _, Ce.nextN_le _ _⟩
structure Ce.PView (ss : List Int) (vs : List (List Int)) (k : Nat) : Prop where
  len : vs.length = k
  lens : ∀ j, j < k → ((vs.getD j []).length : Int) = ss.getD j 0
  num : ∀ j, j < k → Ce.Numbered (vs.getD j [])
theorem Ce.PView.snoc {ss : List Int} {vs : List (List Int)} {k : Nat} {l : List Int} (h : Ce.PView ss vs k) (hl : (l.length : Int) = ss.getD k 0) (hn : Ce.Numbered l) : Ce.PView ss (vs ++ [l]) (k + 1) := by
  have e : ∀ j, j < k + 1 → (j < k ∧ (vs ++ [l]).getD j [] = vs.getD j []) ∨ (j = k ∧ (vs ++ [l]).getD j [] = l) := by
    intro j hj
    have := h.len
    by_cases hjk : j < k
    · exact .inl ⟨hjk, by simp [List.getD, List.getElem?_append_left (show j < vs.length by omega)]⟩
    · obtain rfl : j = k := by omega
      exact .inr ⟨rfl, by simp [List.getD, ← this]⟩
  refine ⟨by simp [h.len], fun j hj => ?_, fun j hj => ?_⟩
  · rcases e j hj with ⟨h1, h2⟩ | ⟨rfl, h2⟩
    · rw [h2]; exact h.lens j h1
    · rw [h2]; exact hl
  · rcases e j hj with ⟨h1, h2⟩ | ⟨rfl, h2⟩
    · rw [h2]; exact h.num j h1
    · rw [h2]; exact hn
/-- a view by value, in rows of one's own -/
structure VwO (w : World) (b : Nat) (v : Value) (ss : List Int) (vs : List (List Int)) : Prop where
  ex : ∃ u, v = .agg #[u] ∧ OwnRows w b 22 3 .i64 u vs
  ok : Ce.View ss vs
theorem VwO.below {w w' : World} {b : Nat} {v : Value} {ss : List Int} {vs : List (List Int)} (h : VwO w b v ss vs) (hb : Below w.heap.size w w') : VwO w' b v ss vs := by
  obtain ⟨⟨u, rfl, ho⟩, hs⟩ := h
  exact ⟨⟨u, rfl, ho.below hb⟩, hs⟩
theorem VwO.cod {w w' : World} {base b g : Nat} {v : Value} {ss : List Int} {vs : List (List Int)} (h : VwO w b v ss vs) (hc : Cod w base g) (hg : w.grownBy w' (some g)) : VwO w' b v ss vs := by
  obtain ⟨⟨u, rfl, ho⟩, hs⟩ := h
  exact ⟨⟨u, rfl, ho.cod hc hg (by decide) (by decide)⟩, hs⟩
theorem OwnRows.numRows {w : World} {base : Nat} {e eb : TypeId} {k : IntKind} {v : Value} {ls : List (List Int)} (h : OwnRows w base e eb k v ls) (hs : ls.length ≤ 1000000000) (hw : ∀ l ∈ ls, ∀ x ∈ l, (Lit.int k x).wf = true) :
    ∃ A c, v = .slice A ls.length c ∧ NumRows w k w.heap.size A ls.length ls.length ls := by
  obtain ⟨A, c, hv, _, hr⟩ := h.read
  refine ⟨A, c, hv, rfl, Nat.le_refl _, by simp only [maxLen]; omega, fun hn => ?_⟩
  obtain ⟨g, _, hA, hg, _, _⟩ := hr 0 hn
  refine ⟨⟨g, 0, none⟩, hA, hg, fun j hj => ?_⟩
  obtain ⟨g', vi, hA', _, hc, ho⟩ := hr j hj
  rw [hA] at hA'
  injection hA' with hA'
  injection hA' with hA'
  subst hA'
  obtain ⟨Aj, cj, rfl, hn⟩ := ho.nums (fun x hx => hw _ (by simp [List.getD, List.getElem?_eq_getElem hj]) x hx)
  exact ⟨Aj, _, cj, by rw [addr_zero]; exact hc, hn⟩
theorem Ce.view_wf {ss : List Int} {vs : List (List Int)} (hs : Ce.Space ss) (h : Ce.View ss vs) : ∀ l ∈ vs, ∀ x ∈ l, (Lit.int .i64 x).wf = true := by
  intro l hl x hx
  obtain ⟨j, hj, rfl⟩ := List.getElem_of_mem hl
  have hjs : j < ss.length := by rw [← h.len]; exact hj
  have e : vs.getD j [] = vs[j] := by simp [List.getD, hj]
  obtain ⟨i, hi, rfl⟩ := Ce.getD_of_mem hx
  have hn := h.num j hjs
  rw [e] at hn
  have h1 := hn.lo i hi
  have h2 := hn.lt hi
  have h3 := Ce.groups_bd vs[j]
  have h4 := h.lens j hjs
  rw [e] at h4
  have h5 := hs.hi j hjs
  exact WalkArith.wf_i64 (by omega)
theorem VwO.vw {w : World} {b : Nat} {v : Value} {ss : List Int} {vs : List (List Int)} (h : VwO w b v ss vs) (hs : Ce.Space ss) : Vw w v ss vs := by
  obtain ⟨⟨u, rfl, ho⟩, hv⟩ := h
  obtain ⟨A, c, rfl, hn⟩ := ho.numRows (by rw [hv.len]; have := hs.few; omega) (Ce.view_wf hs hv)
  obtain ⟨ad, h1⟩ : ∃ ad, A = some ad ∧ ad.block < w.heap.size ∧ ∀ j, j < vs.length → _ := hn.cells (by rw [hv.len]; exact hs.pos)
  have hcap : vs.length ≤ c ∧ c ≤ maxLen := by
    obtain ⟨xs, h9, _⟩ := ho
    obtain ⟨_, ⟨h8, h7⟩ | ⟨g, cap, cur, h8, _, _, h6, h5, _⟩⟩ := h9
    · injection h8 with h8 h10 h11; subst h8; cases h1.1
    · injection h8 with h8 h10 h11; rw [h11, h10]; exact ⟨h6, h5⟩
  exact ⟨⟨A, vs.length, c, rfl, rfl, hcap.1, hcap.2, fun _ => ⟨ad, h1⟩⟩, hv⟩
theorem ownsRow_blk {w w' : World} {base size n f : Nat} {e tf : TypeId} {v : Value} {xs : List Value} {cs : Array Value} {fr : Nat × Nat} (h : w.ownsRow base e size v n xs) (hg : w.grownBy w' v.ownBlock) (hf : w.heap[f]? = some (.cells cs tf fr)) (hne : e ≠ tf) : w'.heap[f]? = some (.cells cs tf fr) := by
  rw [hg.block f (Array.getElem?_eq_some_iff.1 hf).1 ?_]
  · exact hf
  · obtain ⟨_, ⟨rfl, _⟩ | ⟨g, cap, cur, rfl, _, hh, _⟩⟩ := h
    · simp [Value.ownBlock]
    · simp [Value.ownBlock]
      rintro rfl
      rw [hf] at hh
      injection hh with hh
      injection hh with _ ht
      exact hne ht.symm
theorem ownsRow_keep {w w' : World} {base b2 size n : Nat} {e e2 : TypeId} {k : IntKind} {v u : Value} {xs : List Value} {l : List Int} (h : w.ownsRow base e size v n xs) (ho : Own w b2 e2 k u l) (hg : w.grownBy w' v.ownBlock) (hne : e2 ≠ e) : Own w' b2 e2 k u l := by
  refine ho.kept hg ?_
  obtain ⟨_, ⟨rfl, _⟩ | ⟨g, cap, cur, rfl, _, hh, _⟩⟩ := ho
  · exact .inl rfl
  · refine .inr fun he => ?_
    obtain ⟨_, ⟨rfl, _⟩ | ⟨g', cap', cur', rfl, _, hh', _⟩⟩ := h
    · simp [Value.ownBlock] at he
    · simp [Value.ownBlock] at he
      subst he
      rw [hh] at hh'
      injection hh' with hh'
      injection hh' with _ ht
      exact hne ht
theorem OwnRows.set {w : World} {base : Nat} {e eb : TypeId} {k : IntKind} {v : Value} {ls : List (List Int)} (h : OwnRows w base e eb k v ls) {a : Addr} (ha : a.block < base) (u : Value) : OwnRows (w.setCell a u) base e eb k v ls := by
  obtain ⟨vs, h1, h2⟩ := h
  exact ⟨vs, ownsRow_setCell_below h1 ha u, h2.imp fun _ _ ho => ho.setCell ha u⟩
theorem OwnRows.alloc {w : World} {base : Nat} {e eb : TypeId} {k : IntKind} {v : Value} {ls : List (List Int)} (h : OwnRows w base e eb k v ls) (o : Obj) : OwnRows (w.alloc o) base e eb k v ls := h.below ((Below.refl _ _).alloc (Nat.le_refl _) _)
theorem heap_set_same {w : World} {f : Nat} {x : Value} {tf : TypeId} {fr : Nat × Nat} (h : w.heap[f]? = some (.cells #[x] tf fr)) (v : Value) : (w.setCell ⟨f, 0, none⟩ v).heap[f]? = some (.cells #[v] tf fr) := by
  simp [World.setCell, Array.getElem?_modify, h]
theorem heap_set_other {w : World} {f a : Nat} (h : f ≠ a) (v : Value) : (w.setCell ⟨a, 0, none⟩ v).heap[f]? = w.heap[f]? := by
  simp only [World.setCell, Array.getElem?_modify]
  rw [if_neg (fun e => h e.symm)]
def VInv (ss : List Int) (base b g n cap gs : Nat) (w : World) (M k : Nat) (vs : List (List Int)) (q : Value) (wr : World) : Prop :=
  Ce.PView ss vs k ∧ OwnRows wr M 22 3 .i64 q vs ∧ wr.heap[w.heap.size + 1 + 1]? = some (.cells #[q] 27 (0, 0)) ∧ wr.heap[w.heap.size + 1]? = some (.cells #[.slice none 0 0] 27 (0, 0)) ∧ Own wr b 3 .i64 (.slice (some ⟨gs, 0, none⟩) n cap) ss ∧ Cod wr base g ∧ w.grownBy wr (some g) ∧ M ≤ wr.heap.size
theorem VInv.turn {ss : List Int} {base b g n cap gs M k : Nat} {w X Y : World} {vs : List (List Int)} {q : Value} (h : VInv ss base b g n cap gs w M k vs q X) (hg : X.grownBy Y (some g)) (hc : Cod Y base g) (hgw : g < w.heap.size) : VInv ss base b g n cap gs w M k vs q Y := by
  obtain ⟨h1, h2, h3, h4, h5, h6, h7, h8⟩ := h
  refine ⟨h1, h2.cod h6 hg (by decide) (by decide), ?_, ?_, h5.cod h6 hg (by decide), hc, h7.trans hg, Nat.le_trans h8 hg.size⟩
  · rw [hg.block _ (Array.getElem?_eq_some_iff.1 h3).1 (by simp; omega)]; exact h3
  · rw [hg.block _ (Array.getElem?_eq_some_iff.1 h4).1 (by simp; omega)]; exact h4
theorem VInv.alloc {ss : List Int} {base b g n cap gs M k : Nat} {w X : World} {vs : List (List Int)} {q : Value} (h : VInv ss base b g n cap gs w M k vs q X) (o : Obj) : VInv ss base b g n cap gs w M k vs q (X.alloc o) := by
  obtain ⟨h1, h2, h3, h4, h5, h6, h7, h8⟩ := h
  have hb : Below X.heap.size X (X.alloc o) := (Below.refl _ _).alloc (Nat.le_refl _) _
  exact ⟨h1, h2.below hb, (heap_alloc_old _ _ (Array.getElem?_eq_some_iff.1 h3).1).trans h3, (heap_alloc_old _ _ (Array.getElem?_eq_some_iff.1 h4).1).trans h4, h5.below hb, h6.below hb, h7.trans (grownBy_of_below hb _), Nat.le_trans h8 hb.size⟩
theorem VInv.grow {ss : List Int} {base b g n cap gs M k : Nat} {w X w' : World} {vs vs' : List (List Int)} {q v' : Value} (h : VInv ss base b g n cap gs w M k vs q X) (hg : X.grownBy w' q.ownBlock) (ho : OwnRows w' M 22 3 .i64 v' vs') (hM : w.heap.size + 2 < M) (hgw : g < w.heap.size ∧ base ≤ g) (hgs : gs < w.heap.size) (hp : Ce.PView ss vs' (k + 1)) :
    w'.heap[w.heap.size + 1 + 1]? = some (.cells #[q] 27 (0, 0)) ∧ VInv ss base b g n cap gs w M (k + 1) vs' v' (w'.setCell ⟨w.heap.size + 1 + 1, 0, none⟩ v') := by
  obtain ⟨h1, ⟨xs, h2, h2'⟩, h3, h4, h5, h6, h7, h8⟩ := h
  have e3 := ownsRow_blk h2 hg h3 (by decide)
  have e4 := ownsRow_blk h2 hg h4 (by decide)
  have e5 := ownsRow_keep h2 h5 hg (by decide)
  have e6 := h6.row h2 hg (by decide) (by omega)
  have e7 : w.grownBy w' (some g) := ⟨hg.os.trans h7.os, hg.tape.trans h7.tape, hg.output.trans h7.output, Nat.le_trans h7.size hg.size, fun i hi hne => by
    rw [hg.block i (Nat.lt_of_lt_of_le hi h7.size) (fun e => by have := (World.ownsRow.lt h2 i e.symm).1; omega)]
    exact h7.block i hi hne⟩
  refine ⟨e3, hp, ho.set (by simp; omega) v', heap_set_same e3 v', ?_, ?_, e6.grown (grownBy_set w' _ 0 v') (fun r e => ?_), grownBy_set_new e7 (by omega), ?_⟩
  · rw [heap_set_other (by omega)]; exact e4
  · exact e5.kept (grownBy_set w' _ 0 v') (.inr (by simp [Value.ownBlock]; omega))
  · injection e with e; omega
  · simp only [World.size_setCell]; exact Nat.le_trans h8 hg.size
theorem ints_info : (Try.prog.info? 22).map (fun i => (i.zero, i.size, i.bytes)) = some (some (.slice none 0 0), 1, 24) := by kernel_rfl
def GivesView (ss : List Int) (base g : Nat) (w : World) (e : Ending) (w' : World) : Prop := ∃ (v : Value) (vs : List (List Int)), e = .returned v ∧ VwO w' w.heap.size v ss vs ∧ Cod w' base g ∧ w.grownBy w' (some g)
set_option maxHeartbeats 1600000 in
theorem view9 (base b g : Nat) (v : Value) (ss : List Int) (w : World) (hc : Cod w base g) (h : SpO w b v ss) :
    Calls Try.prog 17 #[.pointer (some ⟨g, 0, none⟩), v] w (GivesView ss base g w) := by
  obtain ⟨⟨u, rfl, ho⟩, hs⟩ := h
  obtain ⟨n, hn⟩ : ∃ n, ss.length = n := ⟨_, rfl⟩
  have hn1 : 1 ≤ n := by rw [← hn]; exact hs.pos
  have hn4 : n ≤ 4 := by rw [← hn]; exact hs.few
  obtain ⟨gs, cap, rfl, hgs0, hgs1, hcap, hcm⟩ := ho.rowg hn hn1
  obtain ⟨W, hW, hbW, hvb, hrb, hsz⟩ : ∃ W : World, ((w.alloc (.cells #[.slice (some ⟨gs, 0, none⟩) n cap] 24)).alloc (.cells #[.slice none 0 0] 27)).alloc (.cells #[.slice none 0 0] 27) = W ∧ Below w.heap.size w W ∧ W.heap[w.heap.size + 1 + 1]? = some (.cells #[.slice none 0 0] 27 (0, 0)) ∧ W.heap[w.heap.size + 1]? = some (.cells #[.slice none 0 0] 27 (0, 0)) ∧ W.heap.size = w.heap.size + 3 := by
    have hh := allocs_heap w [.cells #[.slice (some ⟨gs, 0, none⟩) n cap] 24, .cells #[.slice none 0 0] 27, .cells #[.slice none 0 0] 27]
    exact ⟨_, rfl, (((Below.refl _ _).alloc (Nat.le_refl _) _).alloc (by simp) _).alloc (by simp; omega) _, alloc_at hh _ 2 rfl, alloc_at hh _ 1 rfl, by simp⟩
  have k0 : W.cell? ⟨w.heap.size, 0, none⟩ = some (.slice (some ⟨gs, 0, none⟩) n cap) := by rw [← hW]; simp [go_sem]
  have HO := Lib.hid (ho.below hbW)
  have HC := Lib.hid (hc.below hbW)
  have HG := Lib.hid hc.lt
  have HB := Lib.hid hbW
  have HV := Lib.hid hvb
  have HR := Lib.hid hrb
  have HZ := Lib.hid hsz
  have HN := Lib.hid hn
  have HS := Lib.hid hs
  have HGS := Lib.hid hgs1
  clear ho hc hbW hvb hrb hsz hn hs hgs0 hgs1
  go_enter Try.func17, Try.ntmps17
  go_wp2_with fail
  clear hW
  go_loopw [15] (fun i wr => ∃ (k : Nat) (vs : List (List Int)) (q : Value), k ≤ n ∧ i = .int .i64 k ∧ Hid (VInv ss base b g n cap gs w W.heap.size k vs q wr)) (fun i _ => n - (intOf i).toNat)
  case atStart => exact ⟨0, [], _, by omega, rfl, ⟨rfl, fun j hj => absurd hj (by omega), fun j hj => absurd hj (by omega)⟩, OwnRows.nil _ _ _ _ _, HV.out, HR.out, HO.out, HC.out, grownBy_of_below HB.out _, Nat.le_refl _⟩
  case round =>
    rename World => X
    obtain ⟨k, vs, q, hk, rfl, HI⟩ := hrel
    by_cases hlt : k < n
    · have hks : k < ss.length := by rw [HN.out]; exact hlt
      have c0 := HI.out.2.2.2.2.1.cell hks
      have s0 := HS.out.lo k hks
      have s1 := HS.out.hi k hks
      obtain ⟨m, hm⟩ : ∃ m : Nat, ss.getD k 0 = (m : Int) := Int.eq_ofNat_of_zero_le (by omega)
      rw [hm] at c0 s0 s1
      have HM := Lib.hid hm
      clear hm
      go_wp2_with (at_make; refine make_ints _ rfl _ _ _ rfl X.heap.size 3 8 .i64 int_info28 Try.underlying22 m rfl rfl (by simp only [maxLen]; omega) (by omega) (Nat.le_refl _) ?_; intro w2 hown hgrow)
      have HO2 := Lib.hid hown
      have HG2 := Lib.hid (grownBy_any hgrow (some g))
      have HC2 := Lib.hid (HI.out.2.2.2.2.2.1.grown hgrow (fun r e => by cases e))
      clear hown hgrow c0
      have HXS := Lib.hid (Nat.le_trans HB.out.size HI.out.2.2.2.2.2.2.2)
      go_loopw [9, 23] (fun q i wr => ∃ (j : Nat) (P : List Int), j ≤ m ∧ i = .int .i64 j ∧ q = .int .i64 (Ce.groups P) ∧ Hid (P.length = j ∧ Ce.Pref P ∧ (1 ≤ j → 1 ≤ Ce.groups P) ∧ Own wr X.heap.size 3 .i64 (.slice (some ⟨X.heap.size, 0, none⟩) m m) (P ++ List.replicate (m - j) 0) ∧ Cod wr base g ∧ X.grownBy wr (some g))) (fun _ i _ => m - (intOf i).toNat)
      case atStart => exact ⟨0, [], by omega, rfl, rfl, rfl, Ce.Pref.nil, fun h => by omega, by simpa using HO2.out, HC2.out, HG2.out⟩
      case round =>
        rename World => Y
        obtain ⟨j, P, hj, rfl, rfl, HJ⟩ := hrel
        have HP := Lib.hid (And.intro HJ.out.1 (And.intro HJ.out.2.1 HJ.out.2.2.1))
        have hpb := Ce.groups_bd P
        rw [HP.out.1] at hpb
        have hp1 := HP.out.2.2
        obtain ⟨p, hp⟩ : ∃ p, Ce.groups P = p := ⟨_, rfl⟩
        rw [hp] at hpb hp1 ⊢
        have HPG := Lib.hid hp
        clear hp
        by_cases hlj : j < m
        · have b1 : -9223372036854775808 ≤ p + 2 := by omega
          have b2 : p + 2 ≤ 9223372036854775807 := by omega
          go_wp2_with fail
          refine (next_any (p + 2) b1 b2 base g Y HJ.out.2.2.2.2.1).mono ?_; rintro e Y3 ⟨x, rfl, hx0, hx1, _, hc3, hg3⟩
          have hx1 := hx1 (by omega)
          have HO3 := Lib.hid (HJ.out.2.2.2.1.cod HJ.out.2.2.2.2.1 hg3 (by decide))
          have HC3 := Lib.hid hc3
          have HG3 := Lib.hid (HJ.out.2.2.2.2.2.trans hg3)
          clear hc3 hg3
          by_cases hxn : p < x
          · have g1 : decide (p < x) = true := by simpa using hxn
            go_wp2_with fail
            refine (next_any 8 (by omega) (by omega) base g Y3 HC3.out).mono ?_; rintro e Y4 ⟨y, rfl, hy0, hy1, _, hc4, hg43⟩
            have ho4 := HO3.out.cod HC3.out hg43 (by decide)
            have hg4 := HG3.out.trans hg43
            have c0 := ho4.cell (j := j) (by rw [List.length_append, HP.out.1, List.length_replicate]; omega)
            have f0 := ho4.thaw j
            clear hg43
            by_cases hy : y = 7
            · have g2 : (y == 7) = true := by simpa using hy
              by_cases hj0 : 0 < j
              · have g3 : decide ((0 : Int) < (j : Int)) = true := by simp; omega
                have g4 : ((-1 : Int) == p) = false := by simp; omega
                clear hy
                have hst := ho4.store j (-1)
                have HST := Lib.hid hst
                have HC5 := Lib.hid (hc4.grown hst.2 (fun r e => by injection e with e; have := HG.out; have := HXS.out; omega))
                have HG5 := Lib.hid (grownBy_set_new (j := j) (v := .int .i64 (-1)) hg4 (Nat.le_refl X.heap.size))
                have HPR := Lib.hid (Ce.Pref.snoc HP.out.2.1 (x := (-1)) (by omega) (by rw [HPG.out]; omega))
                have HGP := Lib.hid (Ce.groups_snoc P (-1))
                clear hst ho4 hc4 hg4
                go_wp2_with fail
                go_roundw
                case rel =>
                  refine ⟨j + 1, P ++ [(-1)], by omega, by go_num, ?_, by simp [HP.out.1], HPR.out, fun _ => ?_, ?_, HC5.out, HG5.out⟩
                  · rw [HGP.out, HPG.out, if_neg (by first | omega | exact HXN.out)]
                  · rw [HGP.out, HPG.out]; have h9 := HP.out.2.2; rw [HPG.out] at h9; split <;> omega
                  · have := HST.out.1; rw [set_pad P m j (-1) HP.out.1 hlj] at this; exact this
                case measure => simp [intOf]; omega
              · have g3 : decide ((0 : Int) < (j : Int)) = false := by simp; omega
                clear hy
                have g4 : (p == p) = true := by simp
                have hst := ho4.store j p
                have HST := Lib.hid hst
                have HC5 := Lib.hid (hc4.grown hst.2 (fun r e => by injection e with e; have := HG.out; have := HXS.out; omega))
                have HG5 := Lib.hid (grownBy_set_new (j := j) (v := .int .i64 p) hg4 (Nat.le_refl X.heap.size))
                have HPR := Lib.hid (Ce.Pref.snoc HP.out.2.1 (x := p) (by omega) (by rw [HPG.out]; omega))
                have HGP := Lib.hid (Ce.groups_snoc P p)
                clear hst ho4 hc4 hg4
                go_wp2_with fail
                go_roundw
                case rel =>
                  refine ⟨j + 1, P ++ [p], by omega, by go_num, ?_, by simp [HP.out.1], HPR.out, fun _ => ?_, ?_, HC5.out, HG5.out⟩
                  · rw [HGP.out, HPG.out, if_pos rfl]
                  · rw [HGP.out, HPG.out]; have h9 := HP.out.2.2; rw [HPG.out] at h9; split <;> omega
                  · have := HST.out.1; rw [set_pad P m j p HP.out.1 hlj] at this; exact this
                case measure => simp [intOf]; omega
            · have g2 : (y == 7) = false := by simpa using hy
              clear hy
              have g4 : (p == p) = true := by simp
              have hst := ho4.store j p
              have HST := Lib.hid hst
              have HC5 := Lib.hid (hc4.grown hst.2 (fun r e => by injection e with e; have := HG.out; have := HXS.out; omega))
              have HG5 := Lib.hid (grownBy_set_new (j := j) (v := .int .i64 p) hg4 (Nat.le_refl X.heap.size))
              have HPR := Lib.hid (Ce.Pref.snoc HP.out.2.1 (x := p) (by omega) (by rw [HPG.out]; omega))
              have HGP := Lib.hid (Ce.groups_snoc P p)
              clear hst ho4 hc4 hg4
              go_wp2_with fail
              go_roundw
              case rel =>
                refine ⟨j + 1, P ++ [p], by omega, by go_num, ?_, by simp [HP.out.1], HPR.out, fun _ => ?_, ?_, HC5.out, HG5.out⟩
                · rw [HGP.out, HPG.out, if_pos rfl]
                · rw [HGP.out, HPG.out]; have h9 := HP.out.2.2; rw [HPG.out] at h9; split <;> omega
                · have := HST.out.1; rw [set_pad P m j p HP.out.1 hlj] at this; exact this
              case measure => simp [intOf]; omega
          · have g1 : decide (p < x) = false := by simpa using hxn
            go_wp2_with fail
            refine (next_any 8 (by omega) (by omega) base g Y3 HC3.out).mono ?_; rintro e Y4 ⟨y, rfl, hy0, hy1, _, hc4, hg43⟩
            have ho4 := HO3.out.cod HC3.out hg43 (by decide)
            have hg4 := HG3.out.trans hg43
            have c0 := ho4.cell (j := j) (by rw [List.length_append, HP.out.1, List.length_replicate]; omega)
            have f0 := ho4.thaw j
            clear hg43
            by_cases hy : y = 7
            · have g2 : (y == 7) = true := by simpa using hy
              by_cases hj0 : 0 < j
              · have g3 : decide ((0 : Int) < (j : Int)) = true := by simp; omega
                have g4 : ((-1 : Int) == p) = false := by simp; omega
                clear hy
                have hst := ho4.store j (-1)
                have HST := Lib.hid hst
                have HC5 := Lib.hid (hc4.grown hst.2 (fun r e => by injection e with e; have := HG.out; have := HXS.out; omega))
                have HG5 := Lib.hid (grownBy_set_new (j := j) (v := .int .i64 (-1)) hg4 (Nat.le_refl X.heap.size))
                have HPR := Lib.hid (Ce.Pref.snoc HP.out.2.1 (x := (-1)) (by omega) (by rw [HPG.out]; omega))
                have HGP := Lib.hid (Ce.groups_snoc P (-1))
                clear hst ho4 hc4 hg4
                go_wp2_with fail
                go_roundw
                case rel =>
                  refine ⟨j + 1, P ++ [(-1)], by omega, by go_num, ?_, by simp [HP.out.1], HPR.out, fun _ => ?_, ?_, HC5.out, HG5.out⟩
                  · rw [HGP.out, HPG.out, if_neg (by first | omega | exact HXN.out)]
                  · rw [HGP.out, HPG.out]; have h9 := HP.out.2.2; rw [HPG.out] at h9; split <;> omega
                  · have := HST.out.1; rw [set_pad P m j (-1) HP.out.1 hlj] at this; exact this
                case measure => simp [intOf]; omega
              · have g3 : decide ((0 : Int) < (j : Int)) = false := by simp; omega
                clear hy
                by_cases hxp : x = p
                · subst hxp
                  have g4 : (x == x) = true := by simp
                  have hst := ho4.store j x
                  have HST := Lib.hid hst
                  have HC5 := Lib.hid (hc4.grown hst.2 (fun r e => by injection e with e; have := HG.out; have := HXS.out; omega))
                  have HG5 := Lib.hid (grownBy_set_new (j := j) (v := .int .i64 x) hg4 (Nat.le_refl X.heap.size))
                  have HPR := Lib.hid (Ce.Pref.snoc HP.out.2.1 (x := x) (by omega) (by rw [HPG.out]; omega))
                  have HGP := Lib.hid (Ce.groups_snoc P x)
                  clear hst ho4 hc4 hg4
                  go_wp2_with fail
                  go_roundw
                  case rel =>
                    refine ⟨j + 1, P ++ [x], by omega, by go_num, ?_, by simp [HP.out.1], HPR.out, fun _ => ?_, ?_, HC5.out, HG5.out⟩
                    · rw [HGP.out, HPG.out, if_pos rfl]
                    · rw [HGP.out, HPG.out]; have h9 := HP.out.2.2; rw [HPG.out] at h9; split <;> omega
                    · have := HST.out.1; rw [set_pad P m j x HP.out.1 hlj] at this; exact this
                  case measure => simp [intOf]; omega
                · have g4 : (x == p) = false := by simpa using hxp
                  have HXN := Lib.hid hxp
                  clear hxp
                  have hst := ho4.store j x
                  have HST := Lib.hid hst
                  have HC5 := Lib.hid (hc4.grown hst.2 (fun r e => by injection e with e; have := HG.out; have := HXS.out; omega))
                  have HG5 := Lib.hid (grownBy_set_new (j := j) (v := .int .i64 x) hg4 (Nat.le_refl X.heap.size))
                  have HPR := Lib.hid (Ce.Pref.snoc HP.out.2.1 (x := x) (by omega) (by rw [HPG.out]; omega))
                  have HGP := Lib.hid (Ce.groups_snoc P x)
                  clear hst ho4 hc4 hg4
                  go_wp2_with fail
                  go_roundw
                  case rel =>
                    refine ⟨j + 1, P ++ [x], by omega, by go_num, ?_, by simp [HP.out.1], HPR.out, fun _ => ?_, ?_, HC5.out, HG5.out⟩
                    · rw [HGP.out, HPG.out, if_neg (by first | omega | exact HXN.out)]
                    · rw [HGP.out, HPG.out]; have h9 := HP.out.2.2; rw [HPG.out] at h9; split <;> omega
                    · have := HST.out.1; rw [set_pad P m j x HP.out.1 hlj] at this; exact this
                  case measure => simp [intOf]; omega
            · have g2 : (y == 7) = false := by simpa using hy
              clear hy
              by_cases hxp : x = p
              · subst hxp
                have g4 : (x == x) = true := by simp
                have hst := ho4.store j x
                have HST := Lib.hid hst
                have HC5 := Lib.hid (hc4.grown hst.2 (fun r e => by injection e with e; have := HG.out; have := HXS.out; omega))
                have HG5 := Lib.hid (grownBy_set_new (j := j) (v := .int .i64 x) hg4 (Nat.le_refl X.heap.size))
                have HPR := Lib.hid (Ce.Pref.snoc HP.out.2.1 (x := x) (by omega) (by rw [HPG.out]; omega))
                have HGP := Lib.hid (Ce.groups_snoc P x)
                clear hst ho4 hc4 hg4
                go_wp2_with fail
                go_roundw
                case rel =>
                  refine ⟨j + 1, P ++ [x], by omega, by go_num, ?_, by simp [HP.out.1], HPR.out, fun _ => ?_, ?_, HC5.out, HG5.out⟩
                  · rw [HGP.out, HPG.out, if_pos rfl]
                  · rw [HGP.out, HPG.out]; have h9 := HP.out.2.2; rw [HPG.out] at h9; split <;> omega
                  · have := HST.out.1; rw [set_pad P m j x HP.out.1 hlj] at this; exact this
                case measure => simp [intOf]; omega
              · have g4 : (x == p) = false := by simpa using hxp
                have HXN := Lib.hid hxp
                clear hxp
                have hst := ho4.store j x
                have HST := Lib.hid hst
                have HC5 := Lib.hid (hc4.grown hst.2 (fun r e => by injection e with e; have := HG.out; have := HXS.out; omega))
                have HG5 := Lib.hid (grownBy_set_new (j := j) (v := .int .i64 x) hg4 (Nat.le_refl X.heap.size))
                have HPR := Lib.hid (Ce.Pref.snoc HP.out.2.1 (x := x) (by omega) (by rw [HPG.out]; omega))
                have HGP := Lib.hid (Ce.groups_snoc P x)
                clear hst ho4 hc4 hg4
                go_wp2_with fail
                go_roundw
                case rel =>
                  refine ⟨j + 1, P ++ [x], by omega, by go_num, ?_, by simp [HP.out.1], HPR.out, fun _ => ?_, ?_, HC5.out, HG5.out⟩
                  · rw [HGP.out, HPG.out, if_neg (by first | omega | exact HXN.out)]
                  · rw [HGP.out, HPG.out]; have h9 := HP.out.2.2; rw [HPG.out] at h9; split <;> omega
                  · have := HST.out.1; rw [set_pad P m j x HP.out.1 hlj] at this; exact this
                case measure => simp [intOf]; omega
        · obtain rfl : j = m := by omega
          have hrow := HJ.out.2.2.2.1
          rw [Nat.sub_self, List.replicate_zero, List.append_nil] at hrow
          have hv1 := HI.out.turn HJ.out.2.2.2.2.2 HJ.out.2.2.2.2.1 HG.out.1
          obtain ⟨Aq, cq, rfl, _, _⟩ := hv1.2.1.read
          have k1 : Y.cell? ⟨w.heap.size + 1 + 1, 0, none⟩ = some (.slice Aq vs.length cq) := by simp [World.cell?, hv1.2.2.1]
          have HROW := Lib.hid (hrow.base_le HI.out.2.2.2.2.2.2.2)
          have HV1 := Lib.hid (hv1.alloc (.cells #[.slice (some ⟨X.heap.size, 0, none⟩) j j] 22))
          have HPV := Lib.hid (Ce.PView.snoc hv1.1 (l := P) (by rw [HM.out, HP.out.1]) ⟨HP.out.2.1.lo, HP.out.2.1.hi, HP.out.2.2 (by omega)⟩)
          have hvl : vs.length ≤ 4 := by rw [hv1.1.len]; omega
          have HMM := Lib.hid (show w.heap.size + 2 < W.heap.size by rw [HZ.out]; omega)
          clear hrow hv1
          go_wp2_with (at_builtin; refine app_row _ rfl _ _ _ rfl W.heap.size 22 3 (by decide) 24 .i64 ints_info Try.underlying25 (.slice Aq vs.length cq) vs rfl HV1.out.2.1 (.slice (some ⟨X.heap.size, 0, none⟩) j j) P (HROW.out.alloc _) Y.heap.size rfl (by simp [go_sem]) rfl (by simp only [maxLen]; omega) (by omega) HV1.out.2.2.2.2.2.2.2 ?_; intro v' w' hown' hgrow; obtain ⟨A9, c9, e9, _, _⟩ := hown'.read; rw [List.length_append, List.length_singleton] at e9; subst e9; (have hvg := HV1.out.grow hgrow hown' HMM.out HG.out HGS.out HPV.out); (have q0 : w'.cell? ⟨w.heap.size + 1 + 1, 0, none⟩ = some (.slice Aq vs.length cq) := by simp [World.cell?, hvg.1]); (have q1 : w'.frozen? ⟨w.heap.size + 1 + 1, 0, none⟩ = false := by simp [World.frozen?, hvg.1]); (have HVG := Lib.hid hvg.2); clear hown' hgrow hvg)
          go_roundw
          case rel => exact ⟨k + 1, vs ++ [P], _, by omega, by go_num, HVG.out⟩
          case measure => simp [intOf]; omega
    · obtain rfl : k = n := by omega
      obtain ⟨Aq, cq, rfl, _, _⟩ := HI.out.2.1.read
      have k1 : X.cell? ⟨w.heap.size + 1 + 1, 0, none⟩ = some (.slice Aq vs.length cq) := by simp [World.cell?, HI.out.2.2.1]
      have k2 : X.cell? ⟨w.heap.size + 1, 0, none⟩ = some (.slice none 0 0) := by simp [World.cell?, HI.out.2.2.2.1]
      have f2 : X.frozen? ⟨w.heap.size + 1, 0, none⟩ = false := by simp [World.frozen?, HI.out.2.2.2.1]
      go_wp2_with fail
      refine bodyPost_ret (v := .agg #[.slice Aq vs.length cq]) (by simp [results, Try.results17, go_sem, *]) rfl
        ⟨_, vs, rfl, ⟨⟨_, rfl, (HI.out.2.1.set (by have := HZ.out; simp; omega) _).base_le (by rw [HZ.out]; omega)⟩, ⟨by rw [HI.out.1.len, HN.out], fun j hj => HI.out.1.lens j (by rw [← HN.out]; exact hj), fun j hj => HI.out.1.num j (by rw [← HN.out]; exact hj)⟩⟩, HI.out.2.2.2.2.2.1.grown (grownBy_set X _ 0 _) (fun r e => ?_), grownBy_set_new HI.out.2.2.2.2.2.2.1 (by omega)⟩
      injection e with e
      have := HG.out
      omega
end Go.Proofs.Ytojeendofpallaa
