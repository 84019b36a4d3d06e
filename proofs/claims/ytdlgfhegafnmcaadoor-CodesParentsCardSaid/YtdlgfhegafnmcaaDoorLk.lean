/- Codes: Open of a right list. -/
import Derived.Test.YtdlgfhegafnmcaaDoorLj
import Derived.Test.YtdlgfhegafnmcaaDoorIz
import Derived.Deep.RegionHeld3
namespace Go.Proofs.YtdlgfhegafnmcaaDoor
open Go.RowKit
theorem below_next01 {W w w' : World} (h : Below W.heap.size W w) (h' : Below w.heap.size w w') (hs : W.heap.size ≤ w.heap.size) : Below W.heap.size W w' := h.trans (h'.mono hs)
def GivesMax (l : List Int) (w : World) (e : Ending) (w' : World) : Prop := ∃ m, e = .returned (.int .i64 m) ∧ m ∈ l ∧ (∀ x ∈ l, x ≤ m) ∧ w = w'
theorem max01 (A : Option Addr) (n c : Nat) (l : List Int) (B : Nat) (w : World) (h : Nums w .i64 B A n c l) (hn : 1 ≤ n) :
    Calls Tryd.prog 48 #[.slice A n c] w (GivesMax l w) := by
  have hm : n ≤ 9223372036854775807 := by have := h.cap; have := h.max; unfold maxLen at this; omega
  have H := Lib.hid h
  have HL := Lib.hid h.len
  obtain ⟨ad, x0, rfl, _, HX0, hx0, _⟩ := h.val (j := 0) (by omega)
  have gm : decide ((n : Int) < 1) = false := decide_eq_false (by omega)
  have i0 : (0 : Int) < (n : Int) := by omega
  have i00 : 0 < n := by omega
  have HM0 := Lib.hid (show x0 ∈ l.take 1 ∧ ∀ y ∈ l.take 1, y ≤ x0 by
    have h9 := HX0.out.1
    have e : l.take 1 = [x0] := by
      have := List.take_succ_eq_append_getElem HX0.out.2
      simp only [List.take_zero, List.nil_append, Nat.zero_add] at this
      rw [this]
      simp only [List.getD, List.getElem?_eq_getElem HX0.out.2, Option.getD_some] at h9
      rw [h9]
    rw [e]; simp)
  have hxa : w.cell? ad = some (.int .i64 x0) := by
    have e : ad.add 0 = ad := by unfold Addr.add; simp
    rwa [e] at hx0
  clear h hx0
  go_enter Tryd.func48, Tryd.ntmps48
  go_wp2_with fail
  go_loop [3, 4] (fun m i => ∃ (j : Nat) (x : Int), i = .int .i64 j ∧ m = .int .i64 x ∧ 1 ≤ j ∧ j ≤ n ∧ Hid (x ∈ l.take j ∧ ∀ y ∈ l.take j, y ≤ x)) (fun _ i => n - (intOf i).toNat)
  case atStart => exact ⟨1, x0, rfl, rfl, Nat.le_refl _, hn, HM0.out⟩
  case round =>
    obtain ⟨j, x, rfl, rfl, hj1, hj, HI⟩ := hrel
    by_cases hlt : j < n
    · obtain ⟨ad', y, e9, _, HY, hy, _⟩ := H.out.val hlt
      injection e9 with e9
      subst e9
      have HS := Lib.hid (show l.take (j + 1) = l.take j ++ [y] by
        rw [List.take_succ_eq_append_getElem HY.out.2]
        have h9 := HY.out.1
        simp only [List.getD, List.getElem?_eq_getElem HY.out.2, Option.getD_some] at h9
        rw [h9])
      go_wp2_with fail
      refine ⟨⟨j + 1, if x < y then y else x, by go_num, rfl, by omega, by omega, ?_⟩, by simp [intOf]; omega⟩
      show (if x < y then y else x) ∈ l.take (j + 1) ∧ ∀ z ∈ l.take (j + 1), z ≤ (if x < y then y else x)
      rw [HS.out]
      have h9 := HI.out
      split
      · refine ⟨by simp, fun z hz => ?_⟩
        rcases List.mem_append.1 hz with h8 | h8
        · have := h9.2 z h8; omega
        · have := List.mem_singleton.1 h8; omega
      · refine ⟨List.mem_append_left _ h9.1, fun z hz => ?_⟩
        rcases List.mem_append.1 hz with h8 | h8
        · exact h9.2 z h8
        · have := List.mem_singleton.1 h8; omega
    · obtain rfl : n = j := by omega
      have HE := Lib.hid (show l.take n = l from List.take_of_length_le (by rw [HL.out]; omega))
      go_wp2_with fail
      go_ret
      have h9 := HI.out
      rw [HE.out] at h9
      exact ⟨x, rfl, h9.1, h9.2, rfl⟩
theorem Cd.foldmax : ∀ (l : List Nat) (a : Nat), a ≤ l.foldl max a ∧ (∀ x ∈ l, x ≤ l.foldl max a) ∧ (l.foldl max a = a ∨ l.foldl max a ∈ l) := by
  intro l
  induction l with
  | nil => intro a; simp
  | cons y l ih =>
    intro a
    simp only [List.foldl_cons]
    obtain ⟨h1, h2, h3⟩ := ih (max a y)
    refine ⟨by omega, ?_, ?_⟩
    · intro x hx
      rcases List.mem_cons.1 hx with rfl | hx
      · omega
      · exact h2 x hx
    · rcases h3 with h3 | h3
      · rw [h3]
        rcases Nat.le_total a y with h9 | h9
        · right; rw [Nat.max_eq_right h9]; simp
        · left; omega
      · exact .inr (List.mem_cons_of_mem _ h3)
/-- the greatest level -/
def Cd.last (P : List Int) : Nat := ((List.range P.length).map (Cd.lev P)).foldl max 0
theorem Cd.last_eq {P : List Int} {m : Int} (h1 : m ∈ Cd.levels P) (h2 : ∀ x ∈ Cd.levels P, x ≤ m) : m = (Cd.last P : Int) := by
  have hl : ∀ x, x ∈ Cd.levels P ↔ ∃ k, k < P.length ∧ x = (Cd.lev P k : Int) := by
    intro x
    simp only [Cd.levels, Cd.levs, List.mem_map, List.mem_range]
    constructor
    · rintro ⟨k, hk, rfl⟩; exact ⟨k, hk, by rw [if_pos hk]⟩
    · rintro ⟨k, hk, rfl⟩; exact ⟨k, hk, by rw [if_pos hk]⟩
  obtain ⟨k, hk, rfl⟩ := (hl m).1 h1
  obtain ⟨_, g2, g3⟩ := Cd.foldmax ((List.range P.length).map (Cd.lev P)) 0
  have g4 := g2 (Cd.lev P k) (List.mem_map.2 ⟨k, List.mem_range.2 hk, rfl⟩)
  have g5 : (Cd.last P : Int) ≤ (Cd.lev P k : Int) := by
    rcases g3 with g3 | g3
    · unfold Cd.last; rw [g3]; omega
    · obtain ⟨q, hq, e⟩ := List.mem_map.1 g3
      have := h2 (Cd.lev P q) ((hl _).2 ⟨q, List.mem_range.1 hq, rfl⟩)
      unfold Cd.last
      rw [← e]; exact this
  unfold Cd.last at g5 ⊢
  omega
def Cd.Even (P : List Int) : Prop := ∀ k, k < P.length → (∀ q, 0 < q → q < P.length → P.getD q (-1) ≠ k) → Cd.lev P k = Cd.last P
/-- a right list whose leaves have one level -/
structure Cd.Right (L : List Cd.Co) : Prop where
  good : Cd.Good L
  even : Cd.Even (Cd.par L)
set_option maxRecDepth 100000 in
set_option maxHeartbeats 1600000 in
theorem even01 (P : List Int) (n : Nat) (hn : P.length = n) (ht : Cd.Tree P) (he : Cd.Even P) (lf : List Int) (hlf : Cd.Lv P 0 lf) (cv : Value) (g1 c1 g2 c2 : Nat) (w : World)
    (h1 : Nums w .i64 w.heap.size (some ⟨g1, 0, none⟩) n c1 (Cd.levels P)) (h2 : Nums w .i64 w.heap.size (some ⟨g2, 0, none⟩) n c2 lf) (A : Option Addr) (m c : Nat) (hcv : cv = .slice A m c) :
    Calls Tryd.prog 49 #[.agg #[cv, .slice (some ⟨g1, 0, none⟩) n c1, .slice (some ⟨g2, 0, none⟩) n c2, .int .i64 (Cd.last P)]] w fun e w' => e = .returned (.bool true) ∧ Below w.heap.size w w' := by
  subst hcv
  have H1 := Lib.hid h1
  have H2 := Lib.hid h2
  have HE := Lib.hid he
  have HT := Lib.hid ht
  have HLF := Lib.hid hlf
  have hn60 : n ≤ 60 := by rw [← hn]; exact ht.few
  have HN := Lib.hid hn
  clear h1 h2 he ht hlf hn
  obtain ⟨W, hW⟩ : ∃ W : World, w.alloc (.cells #[.slice A m c, .slice (some ⟨g1, 0, none⟩) n c1, .slice (some ⟨g2, 0, none⟩) n c2, .int .i64 (Cd.last P)] 54) = W := ⟨_, rfl⟩
  have hb : Below w.heap.size w W := by rw [← hW]; exact (Below.refl _ _).alloc (Nat.le_refl _) _
  have d1 : W.cell? ⟨w.heap.size, 1, none⟩ = some (.slice (some ⟨g1, 0, none⟩) n c1) := by rw [← hW]; simp [go_sem]
  have d3 : W.cell? ⟨w.heap.size, 3, none⟩ = some (.int .i64 (Cd.last P)) := by rw [← hW]; simp [go_sem]
  have d2 : W.cell? ⟨w.heap.size, 2, none⟩ = some (.slice (some ⟨g2, 0, none⟩) n c2) := by rw [← hW]; simp [go_sem]
  have hsz : w.heap.size < W.heap.size := by rw [← hW]; simp
  have HB := Lib.hid hb
  clear hb
  go_enter Tryd.func49, Tryd.ntmps49
  go_wp2_with fail
  clear hW d2
  go_loopw [8] (fun i wr => ∃ j : Nat, i = .int .i64 j ∧ j ≤ n ∧ Hid (Below W.heap.size W wr)) (fun i _ => n - (intOf i).toNat)
  case atStart => exact ⟨0, rfl, by omega, Below.refl _ _⟩
  case round =>
    rename World => Z
    obtain ⟨j, rfl, hj, HI⟩ := hrel
    have d1 := (HI.out.cell hsz).trans d1
    have d3 := (HI.out.cell hsz).trans d3
    by_cases hlt : j < n
    · have hbz := HB.out.trans (HI.out.mono HB.out.size)
      obtain ⟨x, HX, hx, _⟩ := (H2.out.keep hbz hbz.size).valG hlt
      obtain ⟨y, HY, hy, _⟩ := (H1.out.keep hbz hbz.size).valG hlt
      have hown := HLF.out.own j (by rw [HN.out]; exact hlt)
      rw [HX.out.1] at hown
      have hlev : x = (j : Int) → y = (Cd.last P : Int) := fun e => by
        have h9 := HE.out j (by rw [HN.out]; exact hlt) (hown.1 e)
        rw [← HY.out.1]
        unfold Cd.levels
        rw [Cd.levs_get (by rw [HN.out]; exact hlt) (by rw [HN.out]; exact hlt), h9]
      have HBZ := Lib.hid hbz
      have i1 : (0 : Int) ≤ (j : Int) := by omega
      have i2 : (j : Int) < (n : Int) := by omega
      clear hown hbz
      by_cases hxj : x = (j : Int)
      · subst hxj
        obtain rfl := hlev rfl
        have g1 : ((j : Int) == (j : Int)) = true := by simp
        have g2 : ((Cd.last P : Int) != (Cd.last P : Int)) = false := by simp
        clear hlev
        go_wp2_with fail
        go_quiet (fail)
        go_wp2_with fail
        go_roundw
        case rel => exact ⟨j + 1, by go_num, by omega, below_drewN HI.out _⟩
        case measure => simp [intOf]; omega
      · have g1 : ((j : Int) == x) = false := beq_false_of_ne (fun e => hxj e.symm)
        clear hlev hxj
        go_wp2_with fail
        go_quiet (fail)
        go_wp2_with fail
        go_roundw
        case rel => exact ⟨j + 1, by go_num, by omega, below_drewN HI.out _⟩
        case measure => simp [intOf]; omega
    · obtain rfl : n = j := by omega
      have HBZ := Lib.hid (HB.out.trans (HI.out.mono HB.out.size))
      go_wp2_with fail
      go_ret
      exact ⟨rfl, HBZ.out⟩
theorem grownBy_set1 (w : World) (q k : Nat) (u : Value) : w.grownBy (w.setCell ⟨q, k, none⟩ u) (some q) := ⟨rfl, rfl, rfl, by simp [World.setCell], fun j hj hne => by
  simp only [World.setCell, Array.getElem?_modify]
  rw [if_neg (fun e => hne (by rw [← e]))]⟩
theorem grownBy_set4 (w : World) (q : Nat) (a b c d : Value) : w.grownBy ((((w.setCell ⟨q, 0, none⟩ a).setCell ⟨q, 1, none⟩ b).setCell ⟨q, 2, none⟩ c).setCell ⟨q, 3, none⟩ d) (some q) :=
  (((grownBy_set1 w q 0 a).trans (grownBy_set1 _ q 1 b)).trans (grownBy_set1 _ q 2 c)).trans (grownBy_set1 _ q 3 d)
/-- the tree's value under way: the leaves' row, the value, its box -/
structure OpI (B n : Nat) (sA sg : Value) (lst : Int) (P : List Int) (w4 : World) (listed : Array Bool) (x37 x40 x6 : Value) (wv : World) : Prop where
  bel : Below B w4 wv
  lf : up listed 5 → ∃ gf cf l, x37 = .slice (some ⟨gf, 0, none⟩) n cf ∧ Own wv B 3 .i64 x37 l ∧ Cd.Lv P 0 l
  bu : up listed 8 → up listed 5 ∧ x40 = .agg #[sA, sg, x37, .int .i64 lst]
  al : up listed 9 → ∃ q, x6 = .pointer (some ⟨q, 0, none⟩) ∧ B ≤ q ∧ (¬ up listed 10 → wv.heap[q]? = some (.cells #[.slice none 0 0, .slice none 0 0, .slice none 0 0, .int .i64 0] 54 (0, 0))) ∧ (up listed 10 → wv.heap[q]? = some (.cells #[sA, sg, x37, .int .i64 lst] 54 (0, 0)))
  st : up listed 10 → up listed 9 ∧ up listed 5
section
variable {B n : Nat} {sA sg : Value} {lst : Int} {P : List Int} {w4 wv : World} {listed : Array Bool} {x37 x40 x6 : Value}
theorem OpI.start (hB : B = w4.heap.size) {k : Nat} : OpI B n sA sg lst P w4 (Array.replicate k false) x37 x40 x6 (w4.drewN 1) :=
  ⟨by subst hB; exact below_drewN (Below.refl _ _) 1, fun h => absurd h (up_start _ _), fun h => absurd h (up_start _ _), fun h => absurd h (up_start _ _), fun h => absurd h (up_start _ _)⟩
theorem OpI.same (h : OpI B n sA sg lst P w4 listed x37 x40 x6 wv) {i : Nat} (hi : i < listed.size) (hne : i ≠ 5 ∧ i ≠ 8 ∧ i ≠ 9 ∧ i ≠ 10) : OpI B n sA sg lst P w4 (listed.setIfInBounds i true) x37 x40 x6 wv := by
  obtain ⟨h5, h8, h9, h10⟩ := hne
  refine ⟨h.bel, fun hu => h.lf ((up_rest hi h5).1 hu), fun hu => ?_, fun hu => ?_, fun hu => ?_⟩
  · rw [up_rest hi h5]; exact h.bu ((up_rest hi h8).1 hu)
  · rw [up_rest hi h10]; exact h.al ((up_rest hi h9).1 hu)
  · rw [up_rest hi h9, up_rest hi h5]; exact h.st ((up_rest hi h10).1 hu)
theorem OpI.leaves (h : OpI B n sA sg lst P w4 listed x37 x40 x6 wv) (hi : 5 < listed.size) (hn : ¬ up listed 5) {w' : World} (hb : Below wv.heap.size wv w') (hB : B ≤ wv.heap.size) {gf cf : Nat} {l : List Int} (ho : Own w' wv.heap.size 3 .i64 (.slice (some ⟨gf, 0, none⟩) n cf) l) (hl : Cd.Lv P 0 l) :
    OpI B n sA sg lst P w4 (listed.setIfInBounds 5 true) (.slice (some ⟨gf, 0, none⟩) n cf) x40 x6 w' := by
  refine ⟨h.bel.trans (hb.mono hB), fun _ => ⟨gf, cf, l, rfl, ho.base_le hB, hl⟩, fun hu => absurd (h.bu ((up_rest hi (by decide)).1 hu)).1 hn, fun hu => ?_, fun hu => absurd (h.st ((up_rest hi (by decide)).1 hu)).2 hn⟩
  rw [up_rest hi (by decide)] at hu ⊢
  obtain ⟨q, e, hq, h1, _⟩ := h.al hu
  refine ⟨q, e, hq, fun h9 => ?_, fun h9 => absurd (h.st h9).2 hn⟩
  have h8 := h1 h9
  rw [hb.block q (Array.getElem?_eq_some_iff.1 h8).1]
  exact h8
theorem OpI.build (h : OpI B n sA sg lst P w4 listed x37 x40 x6 wv) (hi : 8 < listed.size) (h5 : up listed 5) : OpI B n sA sg lst P w4 (listed.setIfInBounds 8 true) x37 (.agg #[sA, sg, x37, .int .i64 lst]) x6 wv := by
  refine ⟨h.bel, fun hu => h.lf ((up_rest hi (by decide)).1 hu), fun _ => ⟨(up_set hi).2 (.inr h5), rfl⟩, fun hu => ?_, fun hu => ?_⟩
  · rw [up_rest hi (by decide)] at hu ⊢; exact h.al hu
  · rw [up_rest hi (by decide), up_rest hi (by decide)]; exact h.st ((up_rest hi (by decide)).1 hu)
theorem OpI.alloc (h : OpI B n sA sg lst P w4 listed x37 x40 x6 wv) (hi : 9 < listed.size) (hn : ¬ up listed 9) (hB : B ≤ wv.heap.size) : OpI B n sA sg lst P w4 (listed.setIfInBounds 9 true) x37 x40 (.pointer (some ⟨wv.heap.size, 0, none⟩)) (wv.alloc (.cells #[.slice none 0 0, .slice none 0 0, .slice none 0 0, .int .i64 0] 54 (0, 0))) := by
  refine ⟨h.bel.alloc hB _, fun hu => ?_, fun hu => ?_, fun _ => ⟨_, rfl, hB, fun _ => heap_alloc_new _ _, fun h9 => absurd (h.st ((up_rest hi (by decide)).1 h9)).1 hn⟩, fun hu => absurd (h.st ((up_rest hi (by decide)).1 hu)).1 hn⟩
  · obtain ⟨gf, cf, l, e, ho, hl⟩ := h.lf ((up_rest hi (by decide)).1 hu)
    exact ⟨gf, cf, l, e, ho.alloc _, hl⟩
  · rw [up_rest hi (by decide)]; exact h.bu ((up_rest hi (by decide)).1 hu)
theorem OpI.store (h : OpI B n sA sg lst P w4 listed x37 x40 x6 wv) (hi : 10 < listed.size) (h5 : up listed 5) (h9 : up listed 9) {q : Nat} (hq : x6 = .pointer (some ⟨q, 0, none⟩)) (hqB : B ≤ q) {w' : World} (hh : w'.heap[q]? = some (.cells #[sA, sg, x37, .int .i64 lst] 54 (0, 0))) (hz : wv.heap[q]? = some (.cells #[.slice none 0 0, .slice none 0 0, .slice none 0 0, .int .i64 0] 54 (0, 0))) (hg : wv.grownBy w' (some q)) (hB : B ≤ wv.heap.size) :
    OpI B n sA sg lst P w4 (listed.setIfInBounds 10 true) x37 x40 x6 w' := by
  refine ⟨h.bel.grown hg hB (fun k hk => by injection hk with hk; omega), fun hu => ?_, fun hu => ?_, fun hu => ⟨q, hq, hqB, fun h8 => absurd ((up_set hi).2 (.inl rfl)) h8, fun _ => hh⟩, fun _ => ⟨(up_set hi).2 (.inr h9), (up_set hi).2 (.inr h5)⟩⟩
  · obtain ⟨gf, cf, l, e, ho, hl⟩ := h.lf ((up_rest hi (by decide)).1 hu)
    refine ⟨gf, cf, l, e, ho.kept hg ?_, hl⟩
    rw [e]
    refine .inr fun e9 => ?_
    simp [Value.ownBlock] at e9
    subst e9
    rw [e] at ho
    obtain ⟨_, ⟨hv, _⟩ | ⟨g', cap, cur, hv, _, h7, _⟩⟩ := ho
    · cases hv
    · cases hv
      rw [hz] at h7
      injection h7 with h7
      injection h7 with _ ht
      exact absurd ht (by decide)
  · rw [up_rest hi (by decide)]; exact h.bu ((up_rest hi (by decide)).1 hu)
end
def GivesOpen (A : Option Addr) (n c : Nat) (L : List Cd.Co) (w : World) (e : Ending) (w' : World) : Prop := ∃ g1 g2 c1 c2 lf, e = .returned (.tuple #[.agg #[.slice A n c, .slice (some ⟨g1, 0, none⟩) n c1, .slice (some ⟨g2, 0, none⟩) n c2, .int .i64 (Cd.last (Cd.par L))], .int .i64 0]) ∧
  Nums w' .i64 w'.heap.size (some ⟨g1, 0, none⟩) n c1 (Cd.levels (Cd.par L)) ∧ Nums w' .i64 w'.heap.size (some ⟨g2, 0, none⟩) n c2 lf ∧ Cd.Lv (Cd.par L) 0 lf ∧ Below w.heap.size w w'
set_option maxRecDepth 100000 in
set_option maxHeartbeats 1600000 in
theorem open01 (s : ByteArray) (hs : Cd.name s = true) (A : Option Addr) (n c : Nat) (L : List Cd.Co) (w : World) (h : CoRow w w.heap.size A n c L) (hr : Cd.Right L) :
    Calls Tryd.prog 31 #[.agg #[.string s, .slice A n c]] w (GivesOpen A n c L w) := by
  have H := Lib.hid h
  have HR := Lib.hid hr
  have hpl : (Cd.par L).length = n := by rw [← h.len]; simp [Cd.par]
  have HP := Lib.hid hpl
  have hn1 : 1 ≤ n := by rw [← hpl]; exact hr.good.tree.pos
  have hn60 : n ≤ 60 := by rw [← hpl]; exact hr.good.tree.few
  have HS := Lib.hid hs
  clear h hr hpl hs
  obtain ⟨W, hW⟩ : ∃ W : World, w.alloc (.cells #[.string s, .slice A n c] 25) = W := ⟨_, rfl⟩
  have hbw : Below w.heap.size w W := by rw [← hW]; exact (Below.refl _ _).alloc (Nat.le_refl _) _
  have hsw : w.heap.size < W.heap.size := by rw [← hW]; simp
  have d0 : W.cell? ⟨w.heap.size, 0, none⟩ = some (.string s) := by rw [← hW]; simp [go_sem]
  have d1 : W.cell? ⟨w.heap.size, 1, none⟩ = some (.slice A n c) := by rw [← hW]; simp [go_sem]
  obtain ⟨W2, hW2⟩ : ∃ W2 : World, W.alloc (.cells #[.slice none 0 0, .slice none 0 0, .slice none 0 0, .int .i64 0] 54) = W2 := ⟨_, rfl⟩
  have hbw2 : Below W.heap.size W W2 := by rw [← hW2]; exact (Below.refl _ _).alloc (Nat.le_refl _) _
  have hr2 : W2.heap[W.heap.size]? = some (.cells #[.slice none 0 0, .slice none 0 0, .slice none 0 0, .int .i64 0] 54 (0, 0)) := by rw [← hW2]; exact heap_alloc_new _ _
  have e0 := (hbw2.cell hsw).trans d0
  have e1 := (hbw2.cell hsw).trans d1
  have HB2 := Lib.hid (hbw.trans (hbw2.mono hbw.size))
  have HRES := Lib.hid hr2
  have HSW := Lib.hid (Nat.lt_of_lt_of_le hsw hbw2.size)
  have HSW2 := Lib.hid (show W.heap.size < W2.heap.size from (Array.getElem?_eq_some_iff.1 hr2).1)
  have HSW1 := Lib.hid (Nat.le_of_lt hsw)
  have H2 := Lib.hid (H.out.keep (hbw.trans (hbw2.mono hbw.size)) (Nat.le_trans hbw.size hbw2.size))
  clear hbw hbw2 hr2
  go_enter Tryd.func31, Tryd.ntmps31
  go_wp2_with fail
  clear hW hW2 d0 d1
  refine (nameC01 s _).mono ?_; rintro e w3 ⟨rfl, rfl⟩
  rw [HS.out]
  have g1 : ((n : Int) == 0) = false := beq_false_of_ne (by omega)
  have g2 : decide ((60 : Int) < (n : Int)) = false := decide_eq_false (by omega)
  go_wp2_with fail
  refine (checkCodes01 A n c L W2 H2.out HR.out.good).mono ?_; rintro e w3 ⟨rfl, hb3⟩
  have e0 := (hb3.cell HSW.out).trans e0
  have e1 := (hb3.cell HSW.out).trans e1
  have HB3 := Lib.hid hb3
  have H3 := Lib.hid (H2.out.keep hb3 hb3.size)
  clear hb3
  go_wp2_with fail
  refine (levels01 A n c L w3 H3.out HR.out.good.tree).mono ?_; rintro e w4 ⟨v4, rfl, ho4, hb4⟩
  obtain ⟨ga, ca, rfl, _, _, _, _⟩ := ho4.rowg (by rw [Cd.levels, Cd.levs_len, HP.out]) hn1
  have hna := ho4.numsG (Cd.levs_wf (by rw [HP.out]; exact hn60) _)
  have e0 := below_cell hb4 e0
  have e1 := below_cell hb4 e1
  have HB4 := Lib.hid (HB3.out.trans (hb4.mono HB3.out.size))
  have H4 := Lib.hid (H3.out.keep hb4 hb4.size)
  have HNA := Lib.hid hna
  have HO4 := Lib.hid ho4
  have HS3 := Lib.hid HB3.out.size
  clear hb4 ho4 hna
  go_wp2_with fail
  have hB4 : ∀ {w' : World}, Below w4.heap.size w4 w' → w4.heap.size ≤ w'.heap.size := fun h9 => h9.size
  refine wp_region_inv (by kernel_rfl) (fun listed a wv => listed.size = 11 ∧ ∃ x32 x33 x34 x35 x36 x37 x38 x39 x40 x6 : Value, a = ⟨#[Value.agg #[Value.string s, Value.slice A n c], Value.pointer (some { block := w.heap.size, off := 0 }), Value.pointer (some { block := W.heap.size, off := 0 }), Value.int IntKind.i64 0, Value.int IntKind.i64 0, Value.slice (some { block := ga, off := 0 }) n ca, x6, Value.pointer (some { block := w.heap.size, off := 0 }), Value.string s, Value.bool true, Value.bool false, undef, Value.pointer (some { block := w.heap.size, off := 1 }), Value.slice A n c, Value.int IntKind.i64 ↑n, Value.bool false, undef, Value.pointer (some { block := w.heap.size, off := 1 }), Value.slice A n c, Value.int IntKind.i64 ↑n, Value.bool false, undef, Value.pointer (some { block := w.heap.size, off := 1 }), Value.slice A n c, Value.int IntKind.i64 0, Value.int IntKind.i64 0, Value.bool false, undef, undef, Value.pointer (some { block := w.heap.size, off := 1 }), Value.slice A n c, Value.slice (some { block := ga, off := 0 }) n ca, x32, x33, x34, x35, x36, x37, x38, x39, x40, undef, undef, undef, undef, undef], []⟩ ∧ CF listed [(0, x32, .pointer (some ⟨w.heap.size, 1, none⟩)), (1, x33, .slice A n c), (2, x34, .slice (some ⟨ga, 0, none⟩) n ca), (3, x35, .pointer (some ⟨w.heap.size, 1, none⟩)), (4, x36, .slice A n c), (6, x38, .slice (some ⟨ga, 0, none⟩) n ca), (7, x39, .int .i64 (Cd.last (Cd.par L) : Int))] ∧ OpI w4.heap.size n (.slice A n c) (.slice (some ⟨ga, 0, none⟩) n ca) (Cd.last (Cd.par L) : Int) (Cd.par L) w4 listed x37 x40 x6 wv) (fun _ _ _ h => h.1) ?_ ?_ ?_
  · exact ⟨by simp, undef, undef, undef, undef, undef, undef, undef, undef, undef, undef, rfl, CF.start, OpI.start rfl⟩
  · rintro listed a wv i o ⟨hz, x32, x33, x34, x35, x36, x37, x38, x39, x40, x6, rfl, hd, hp⟩ ho hdep hnu
    have hi : i < 11 := by
      rcases Nat.lt_or_ge i 11 with h | h
      · exact h
      · rw [Array.getElem?_eq_none (by simpa using h)] at ho; cases ho
    have hil : i < listed.size := by omega
    have hBv := hB4 hp.bel
    rcases (show i = 0 ∨ i = 1 ∨ i = 2 ∨ i = 3 ∨ i = 4 ∨ i = 5 ∨ i = 6 ∨ i = 7 ∨ i = 8 ∨ i = 9 ∨ i = 10 by omega) with rfl | rfl | rfl | rfl | rfl | rfl | rfl | rfl | rfl | rfl | rfl
    · have ho' := ho
      simp only [List.getElem?_toArray, List.getElem?_cons_zero, Option.some.injEq] at ho'
      subst ho'
      refine wpOp_value ho rfl (v := .pointer (some ⟨w.heap.size, 1, none⟩)) (w' := wv) (by simp [execOp, Act.eval, go_sem]) ?_
      exact ⟨by simpa using hz, _, _, _, _, _, _, _, _, _, _, rfl, hd.step hil (by intro p hp; simp only [List.mem_cons, List.not_mem_nil, or_false] at hp ⊢; rcases hp with rfl | rfl | rfl | rfl | rfl | rfl | rfl <;> first | exact .inl rfl | exact .inr ⟨by simp, by simp⟩), hp.same hil ⟨by decide, by decide, by decide, by decide⟩⟩
    · have ho' := ho
      simp only [List.getElem?_toArray, List.getElem?_cons_zero, List.getElem?_cons_succ, Option.some.injEq] at ho'
      subst ho'
      have f0 := hd (0, x32, .pointer (some ⟨w.heap.size, 1, none⟩)) (by simp) (hdep { on := 0, ground := .data } (by simp) rfl)
      simp only at f0
      have c9 := below_cell hp.bel e1
      refine wpOp_value ho rfl (v := .slice A n c) (w' := wv) (by simp [execOp, Act.eval, go_sem, f0, c9]) ?_
      exact ⟨by simpa using hz, _, _, _, _, _, _, _, _, _, _, rfl, hd.step hil (by intro p hp; simp only [List.mem_cons, List.not_mem_nil, or_false] at hp ⊢; rcases hp with rfl | rfl | rfl | rfl | rfl | rfl | rfl <;> first | exact .inl rfl | exact .inr ⟨by simp, by simp⟩), hp.same hil ⟨by decide, by decide, by decide, by decide⟩⟩
    · have ho' := ho
      simp only [List.getElem?_toArray, List.getElem?_cons_zero, List.getElem?_cons_succ, Option.some.injEq] at ho'
      subst ho'
      refine wpOp_value ho rfl (v := .slice (some ⟨ga, 0, none⟩) n ca) (w' := wv) (by simp [execOp, Act.eval, go_sem]) ?_
      exact ⟨by simpa using hz, _, _, _, _, _, _, _, _, _, _, rfl, hd.step hil (by intro p hp; simp only [List.mem_cons, List.not_mem_nil, or_false] at hp ⊢; rcases hp with rfl | rfl | rfl | rfl | rfl | rfl | rfl <;> first | exact .inl rfl | exact .inr ⟨by simp, by simp⟩), hp.same hil ⟨by decide, by decide, by decide, by decide⟩⟩
    · have ho' := ho
      simp only [List.getElem?_toArray, List.getElem?_cons_zero, List.getElem?_cons_succ, Option.some.injEq] at ho'
      subst ho'
      refine wpOp_value ho rfl (v := .pointer (some ⟨w.heap.size, 1, none⟩)) (w' := wv) (by simp [execOp, Act.eval, go_sem]) ?_
      exact ⟨by simpa using hz, _, _, _, _, _, _, _, _, _, _, rfl, hd.step hil (by intro p hp; simp only [List.mem_cons, List.not_mem_nil, or_false] at hp ⊢; rcases hp with rfl | rfl | rfl | rfl | rfl | rfl | rfl <;> first | exact .inl rfl | exact .inr ⟨by simp, by simp⟩), hp.same hil ⟨by decide, by decide, by decide, by decide⟩⟩
    · have ho' := ho
      simp only [List.getElem?_toArray, List.getElem?_cons_zero, List.getElem?_cons_succ, Option.some.injEq] at ho'
      subst ho'
      have f3 := hd (3, x35, .pointer (some ⟨w.heap.size, 1, none⟩)) (by simp) (hdep { on := 3, ground := .data } (by simp) rfl)
      simp only at f3
      have c9 := below_cell hp.bel e1
      refine wpOp_value ho rfl (v := .slice A n c) (w' := wv) (by simp [execOp, Act.eval, go_sem, f3, c9]) ?_
      exact ⟨by simpa using hz, _, _, _, _, _, _, _, _, _, _, rfl, hd.step hil (by intro p hp; simp only [List.mem_cons, List.not_mem_nil, or_false] at hp ⊢; rcases hp with rfl | rfl | rfl | rfl | rfl | rfl | rfl <;> first | exact .inl rfl | exact .inr ⟨by simp, by simp⟩), hp.same hil ⟨by decide, by decide, by decide, by decide⟩⟩
    · have ho' := ho
      simp only [List.getElem?_toArray, List.getElem?_cons_zero, List.getElem?_cons_succ, Option.some.injEq] at ho'
      subst ho'
      have f4 := hd (4, x36, .slice A n c) (by simp) (hdep { on := 4, ground := .data } (by simp) rfl)
      simp only at f4
      refine wpOp_call ho rfl (f := 47) (args := #[.slice A n c]) (w' := wv) (by simp [Act.eval, go_sem, f4]) ?_
      refine (leaves01 A n c L wv (H4.out.keep hp.bel hBv) HR.out.good.tree).mono ?_; rintro e9 w9 ⟨vz, lz, rfl, hoz, hlz, hbz⟩
      obtain ⟨gz, cz, rfl, _, _, _, _⟩ := hoz.rowg (hlz.len.trans HP.out) hn1
      refine ⟨_, rfl, ?_⟩
      exact ⟨by simpa using hz, _, _, _, _, _, _, _, _, _, _, rfl, hd.step hil (by intro p hp; simp only [List.mem_cons, List.not_mem_nil, or_false] at hp ⊢; rcases hp with rfl | rfl | rfl | rfl | rfl | rfl | rfl <;> first | exact .inl rfl | exact .inr ⟨by simp, by simp⟩), hp.leaves hil hnu hbz hBv hoz hlz⟩
    · have ho' := ho
      simp only [List.getElem?_toArray, List.getElem?_cons_zero, List.getElem?_cons_succ, Option.some.injEq] at ho'
      subst ho'
      refine wpOp_value ho rfl (v := .slice (some ⟨ga, 0, none⟩) n ca) (w' := wv) (by simp [execOp, Act.eval, go_sem]) ?_
      exact ⟨by simpa using hz, _, _, _, _, _, _, _, _, _, _, rfl, hd.step hil (by intro p hp; simp only [List.mem_cons, List.not_mem_nil, or_false] at hp ⊢; rcases hp with rfl | rfl | rfl | rfl | rfl | rfl | rfl <;> first | exact .inl rfl | exact .inr ⟨by simp, by simp⟩), hp.same hil ⟨by decide, by decide, by decide, by decide⟩⟩
    · have ho' := ho
      simp only [List.getElem?_toArray, List.getElem?_cons_zero, List.getElem?_cons_succ, Option.some.injEq] at ho'
      subst ho'
      have f6 := hd (6, x38, .slice (some ⟨ga, 0, none⟩) n ca) (by simp) (hdep { on := 6, ground := .data } (by simp) rfl)
      simp only at f6
      refine wpOp_call ho rfl (f := 48) (args := #[.slice (some ⟨ga, 0, none⟩) n ca]) (w' := wv) (by simp [Act.eval, go_sem, f6]) ?_
      refine (max01 _ n ca _ _ wv (HNA.out.keep hp.bel hBv) hn1).mono ?_; rintro e9 w9 ⟨my, rfl, hm1, hm2, rfl⟩
      obtain rfl := Cd.last_eq hm1 hm2
      refine ⟨_, rfl, ?_⟩
      exact ⟨by simpa using hz, _, _, _, _, _, _, _, _, _, _, rfl, hd.step hil (by intro p hp; simp only [List.mem_cons, List.not_mem_nil, or_false] at hp ⊢; rcases hp with rfl | rfl | rfl | rfl | rfl | rfl | rfl <;> first | exact .inl rfl | exact .inr ⟨by simp, by simp⟩), hp.same hil ⟨by decide, by decide, by decide, by decide⟩⟩
    · have ho' := ho
      simp only [List.getElem?_toArray, List.getElem?_cons_zero, List.getElem?_cons_succ, Option.some.injEq] at ho'
      subst ho'
      have f1 := hd (1, x33, .slice A n c) (by simp) (hdep { on := 1, ground := .data } (by simp) rfl)
      simp only at f1
      have f2 := hd (2, x34, .slice (some ⟨ga, 0, none⟩) n ca) (by simp) (hdep { on := 2, ground := .data } (by simp) rfl)
      simp only at f2
      have f7 := hd (7, x39, .int .i64 (Cd.last (Cd.par L) : Int)) (by simp) (hdep { on := 7, ground := .data } (by simp) rfl)
      simp only at f7
      have hu5 := hdep { on := 5, ground := .data } (by simp) rfl
      obtain ⟨gf, cf, lf, rfl, _, _⟩ := hp.lf hu5
      refine wpOp_value ho rfl (v := .agg #[.slice A n c, .slice (some ⟨ga, 0, none⟩) n ca, .slice (some ⟨gf, 0, none⟩) n cf, .int .i64 (Cd.last (Cd.par L) : Int)]) (w' := wv) (by simp [execOp, Act.eval, go_sem, f1, f2, f7]) ?_
      exact ⟨by simpa using hz, _, _, _, _, _, _, _, _, _, _, rfl, hd.step hil (by intro p hp; simp only [List.mem_cons, List.not_mem_nil, or_false] at hp ⊢; rcases hp with rfl | rfl | rfl | rfl | rfl | rfl | rfl <;> first | exact .inl rfl | exact .inr ⟨by simp, by simp⟩), hp.build hil hu5⟩
    · have ho' := ho
      simp only [List.getElem?_toArray, List.getElem?_cons_zero, List.getElem?_cons_succ, Option.some.injEq] at ho'
      subst ho'
      refine wpOp_value ho rfl (v := .pointer (some ⟨wv.heap.size, 0, none⟩)) (w' := wv.alloc (.cells #[.slice none 0 0, .slice none 0 0, .slice none 0 0, .int .i64 0] 54 (0, 0))) (by simp [execOp, go_sem]) ?_
      exact ⟨by simpa using hz, _, _, _, _, _, _, _, _, _, _, rfl, hd.step hil (by intro p hp; simp only [List.mem_cons, List.not_mem_nil, or_false] at hp ⊢; rcases hp with rfl | rfl | rfl | rfl | rfl | rfl | rfl <;> first | exact .inl rfl | exact .inr ⟨by simp, by simp⟩), hp.alloc hil hnu hBv⟩
    · have ho' := ho
      simp only [List.getElem?_toArray, List.getElem?_cons_zero, List.getElem?_cons_succ, Option.some.injEq] at ho'
      subst ho'
      have hu9 := hdep { on := 9, ground := .data } (by simp) rfl
      have hu8 := hdep { on := 8, ground := .data } (by simp) rfl
      obtain ⟨q, rfl, hqB, hq0, _⟩ := hp.al hu9
      obtain ⟨hu5, rfl⟩ := hp.bu hu8
      obtain ⟨gf, cf, lf, rfl, _, _⟩ := hp.lf hu5
      have hq0 := hq0 hnu
      have q0 : wv.cell? ⟨q, 0, none⟩ = some (.slice none 0 0) := by simp [World.cell?, hq0]
      have q1 : wv.cell? ⟨q, 1, none⟩ = some (.slice none 0 0) := by simp [World.cell?, hq0]
      have q2 : wv.cell? ⟨q, 2, none⟩ = some (.slice none 0 0) := by simp [World.cell?, hq0]
      have q3 : wv.cell? ⟨q, 3, none⟩ = some (.int .i64 0) := by simp [World.cell?, hq0]
      have z9 : ∀ k, wv.frozen? ⟨q, k, none⟩ = false := fun k => by simp [World.frozen?, hq0]
      refine wpOp_skip ho rfl (w' := (((wv.setCell ⟨q, 0, none⟩ (.slice A n c)).setCell ⟨q, 1, none⟩ (.slice (some ⟨ga, 0, none⟩) n ca)).setCell ⟨q, 2, none⟩ (.slice (some ⟨gf, 0, none⟩) n cf)).setCell ⟨q, 3, none⟩ (.int .i64 (Cd.last (Cd.par L) : Int))) (by simp [execOp, Act.eval, go_sem, q0, q1, q2, q3, z9]) ?_
      exact ⟨by simpa using hz, _, _, _, _, _, _, _, _, _, _, rfl, hd.step hil (by intro p hp; simp only [List.mem_cons, List.not_mem_nil, or_false] at hp ⊢; rcases hp with rfl | rfl | rfl | rfl | rfl | rfl | rfl <;> exact .inr ⟨by simp, by simp⟩), hp.store hil hu5 hu9 rfl hqB (by simp [World.setCell, Array.getElem?_modify, hq0]) hq0 (grownBy_set4 wv q _ _ _ _) hBv⟩
  · rintro listed a wv ⟨hz, x32, x33, x34, x35, x36, x37, x38, x39, x40, x6, rfl, hd, hp⟩ hr
    have hall := all_up2 hr hz (by decide)
    have U : ∀ k, k < 11 → up listed k := fun k hk => hall (k + 1) k (by omega) hk
    obtain ⟨gf, cf, lf, rfl, hof, hlf⟩ := hp.lf (U 5 (by omega))
    obtain ⟨q, rfl, hqB, _, hq⟩ := hp.al (U 9 (by omega))
    have hq := hq (U 10 (by omega))
    have hbel := hp.bel
    have q0 : wv.cell? ⟨q, 0, none⟩ = some (.slice A n c) := by simp [World.cell?, hq]
    have q1 : wv.cell? ⟨q, 1, none⟩ = some (.slice (some ⟨ga, 0, none⟩) n ca) := by simp [World.cell?, hq]
    have q2 : wv.cell? ⟨q, 2, none⟩ = some (.slice (some ⟨gf, 0, none⟩) n cf) := by simp [World.cell?, hq]
    have q3 : wv.cell? ⟨q, 3, none⟩ = some (.int .i64 (Cd.last (Cd.par L))) := by simp [World.cell?, hq]
    have HLF := Lib.hid hlf
    have hnf := hof.numsG (hlf.wf (by rw [HP.out]; exact hn60))
    have HNF := Lib.hid hnf
    have HOF := Lib.hid hof
    have HBEL := Lib.hid hbel
    have HAB := Lib.hid (HNA.out.keep hbel hbel.size)
    have HQ := Lib.hid (And.intro hq hqB)
    clear hall U hr hd hp hz hlf hof hnf hbel hq hqB
    go_wp2_with fail
    refine (even01 (Cd.par L) n HP.out HR.out.good.tree HR.out.even lf HLF.out _ ga ca gf cf wv HAB.out HNF.out A n c rfl).mono ?_; rintro e w6 ⟨rfl, hb6⟩
    have q0 := below_cell hb6 q0
    have q1 := below_cell hb6 q1
    have q2 := below_cell hb6 q2
    have q3 := below_cell hb6 q3
    have HRZ := Lib.hid (show w6.heap[W.heap.size]? = some (.cells #[.slice none 0 0, .slice none 0 0, .slice none 0 0, .int .i64 0] 54 (0, 0)) by
      have h1 := HRES.out
      have hlt := (Array.getElem?_eq_some_iff.1 h1).1
      have h24 : Below W2.heap.size W2 w4 := HB4.out
      have h2 := (h24.block _ hlt).trans h1
      have h3 := (HBEL.out.block _ (Array.getElem?_eq_some_iff.1 h2).1).trans h2
      exact (hb6.block _ (Array.getElem?_eq_some_iff.1 h3).1).trans h3)
    have r0 : w6.cell? ⟨W.heap.size, 0, none⟩ = some (.slice none 0 0) := by simp [World.cell?, HRZ.out]
    have r1 : w6.cell? ⟨W.heap.size, 1, none⟩ = some (.slice none 0 0) := by simp [World.cell?, HRZ.out]
    have r2 : w6.cell? ⟨W.heap.size, 2, none⟩ = some (.slice none 0 0) := by simp [World.cell?, HRZ.out]
    have r3 : w6.cell? ⟨W.heap.size, 3, none⟩ = some (.int .i64 0) := by simp [World.cell?, HRZ.out]
    have rz0 : w6.frozen? ⟨W.heap.size, 0, none⟩ = false := by simp [World.frozen?, HRZ.out]
    have rz1 : w6.frozen? ⟨W.heap.size, 1, none⟩ = false := by simp [World.frozen?, HRZ.out]
    have rz2 : w6.frozen? ⟨W.heap.size, 2, none⟩ = false := by simp [World.frozen?, HRZ.out]
    have rz3 : w6.frozen? ⟨W.heap.size, 3, none⟩ = false := by simp [World.frozen?, HRZ.out]
    have HB6 := Lib.hid hb6
    clear hb6
    go_wp2_with fail
    obtain ⟨Z, hZ⟩ : ∃ Z : World, (((w6.setCell ⟨W.heap.size, 0, none⟩ (.slice A n c)).setCell ⟨W.heap.size, 1, none⟩ (.slice (some ⟨ga, 0, none⟩) n ca)).setCell ⟨W.heap.size, 2, none⟩ (.slice (some ⟨gf, 0, none⟩) n cf)).setCell ⟨W.heap.size, 3, none⟩ (.int .i64 (Cd.last (Cd.par L))) = Z := ⟨_, rfl⟩
    have hzh : Z.heap[W.heap.size]? = some (.cells #[.slice A n c, .slice (some ⟨ga, 0, none⟩) n ca, .slice (some ⟨gf, 0, none⟩) n cf, .int .i64 (Cd.last (Cd.par L))] 54 (0, 0)) := by rw [← hZ]; simp [World.setCell, Array.getElem?_modify, HRZ.out]
    have hgz : w6.grownBy Z (some W.heap.size) := by rw [← hZ]; exact grownBy_set4 w6 _ _ _ _ _
    have oa : Own Z w3.heap.size 3 .i64 (.slice (some ⟨ga, 0, none⟩) n ca) (Cd.levels (Cd.par L)) := by
      rw [← hZ]
      have hl : W.heap.size < w3.heap.size := Nat.lt_of_lt_of_le HSW2.out HS3.out
      exact (((((HO4.out.below HBEL.out).below HB6.out).setCell (a := ⟨W.heap.size, 0, none⟩) hl _).setCell (a := ⟨W.heap.size, 1, none⟩) hl _).setCell (a := ⟨W.heap.size, 2, none⟩) hl _).setCell (a := ⟨W.heap.size, 3, none⟩) hl _
    have of : Own Z w4.heap.size 3 .i64 (.slice (some ⟨gf, 0, none⟩) n cf) lf := by
      rw [← hZ]
      have hl : W.heap.size < w4.heap.size := Nat.lt_of_lt_of_le HSW2.out HB4.out.size
      exact ((((HOF.out.below HB6.out).setCell (a := ⟨W.heap.size, 0, none⟩) hl _).setCell (a := ⟨W.heap.size, 1, none⟩) hl _).setCell (a := ⟨W.heap.size, 2, none⟩) hl _).setCell (a := ⟨W.heap.size, 3, none⟩) hl _
    have hbz : Below w.heap.size w Z := by
      have h1 : Below w.heap.size w w4 := HB2.out.trans (HB4.out.mono HB2.out.size)
      have h2 : Below w.heap.size w wv := h1.trans (HBEL.out.mono h1.size)
      have h3 : Below w.heap.size w w6 := h2.trans (HB6.out.mono h2.size)
      exact h3.grown hgz h3.size (fun k hk => by injection hk with hk; have := HSW1.out; omega)
    have z0 : Z.cell? ⟨W.heap.size, 0, none⟩ = some (.slice A n c) := by simp [World.cell?, hzh]
    have z1 : Z.cell? ⟨W.heap.size, 1, none⟩ = some (.slice (some ⟨ga, 0, none⟩) n ca) := by simp [World.cell?, hzh]
    have z2 : Z.cell? ⟨W.heap.size, 2, none⟩ = some (.slice (some ⟨gf, 0, none⟩) n cf) := by simp [World.cell?, hzh]
    have z3 : Z.cell? ⟨W.heap.size, 3, none⟩ = some (.int .i64 (Cd.last (Cd.par L))) := by simp [World.cell?, hzh]
    rw [hZ]
    refine bodyPost_ret (v := .tuple #[.agg #[.slice A n c, .slice (some ⟨ga, 0, none⟩) n ca, .slice (some ⟨gf, 0, none⟩) n cf, .int .i64 (Cd.last (Cd.par L))], .int .i64 0]) (by simp [results, Tryd.results31, go_sem, z0, z1, z2, z3]) rfl ?_
    exact ⟨ga, gf, ca, cf, lf, rfl, oa.numsG (Cd.levs_wf (by rw [HP.out]; exact hn60) _), of.numsG (HLF.out.wf (by rw [HP.out]; exact hn60)), HLF.out, hbz⟩
end Go.Proofs.YtdlgfhegafnmcaaDoor
