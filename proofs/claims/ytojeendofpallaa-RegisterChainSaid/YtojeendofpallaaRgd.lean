/- Register: the program's closures; isNew. -/
import Derived.Test.YtojeendofpallaaRgc
import Derived.Test.YtojeendofpallaaShelf
import Derived.Sort.OwnSortedInts
namespace Go.Proofs.Ytojeendofpallaa
open Go.RowKit
set_option maxRecDepth 100000 in
set_option maxHeartbeats 1600000 in
theorem isOf38 (f : Nat) (x of : Int) (w : World) (h : w.cell? ⟨f, 3, none⟩ = some (.int .i64 of)) :
    Calls Try.prog 87 #[.int .i64 x, .pointer (some ⟨f, 0, none⟩)] w fun e w' => e = .returned (.bool (x == of)) ∧ ∃ q, w' = w.drewN q := by
  go_enter Try.func87, Try.ntmps87
  go_wp2_with fail
  go_ret
  exact ⟨rfl, 0, rfl⟩
set_option maxRecDepth 100000 in
set_option maxHeartbeats 1600000 in
theorem isOut38 (g : Nat) (num bef kind of out link y : Int) (txt : ByteArray) (w : World) (h : w.cell? ⟨g, 0, none⟩ = some (.int .i64 y)) (hg : g < w.heap.size) :
    Calls Try.prog 91 #[.agg #[.int .i64 num, .int .u64 bef, .int .i64 kind, .int .i64 of, .int .i64 out, .string txt, .int .u64 link], .pointer (some ⟨g, 0, none⟩)] w fun e w' => e = .returned (.bool (out == y)) ∧ Below w.heap.size w w' := by
  obtain ⟨X, hX⟩ : ∃ X : World, w.alloc (.cells #[.int .i64 num, .int .u64 bef, .int .i64 kind, .int .i64 of, .int .i64 out, .string txt, .int .u64 link] 60) = X := ⟨_, rfl⟩
  have hbx : Below w.heap.size w X := by rw [← hX]; exact (Below.refl _ _).alloc (Nat.le_refl _) _
  have d4 : X.cell? ⟨w.heap.size, 4, none⟩ = some (.int .i64 out) := by rw [← hX]; simp [go_sem]
  have d0 : X.cell? ⟨g, 0, none⟩ = some (.int .i64 y) := (hbx.cell hg).trans h
  have HB := Lib.hid hbx
  clear hbx h
  go_enter Try.func91, Try.ntmps91
  go_wp2_with fail
  go_ret
  exact ⟨rfl, HB.out⟩
def GivesFirst (L : List Rg.En) (y : Int) (w : World) (e : Ending) (w' : World) : Prop := ∃ i : Int, e = .returned (.int .i64 i) ∧ (0 ≤ i ↔ ∃ x ∈ L, x.out = y) ∧ Below w.heap.size w w'
set_option maxRecDepth 100000 in
set_option maxHeartbeats 1600000 in
theorem indexEnt38 (A : Option Addr) (n c : Nat) (L : List Rg.En) (g : Nat) (y : Int) (w : World) (h : EnRow w w.heap.size A n c L) (hn : n ≤ 1000) (hc : w.cell? ⟨g, 0, none⟩ = some (.int .i64 y)) (hg : g < w.heap.size) :
    Calls Try.prog 92 #[.slice A n c, .func (.func 91) #[] #[.pointer (some ⟨g, 0, none⟩)]] w (GivesFirst L y w) := by
  have H := Lib.hid h
  have HL := Lib.hid h.len
  have HC := Lib.hid hc
  clear h hc
  go_enter Try.func92, Try.ntmps92
  go_wp2_with fail
  go_loopw [5, 8] (fun _ i wr => ∃ j : Nat, j ≤ n ∧ i = .int .i64 j ∧ Hid (Below w.heap.size w wr ∧ ∀ x ∈ L.take j, x.out ≠ y)) (fun _ i _ => n - (intOf i).toNat)
  case atStart => exact ⟨0, by omega, rfl, Below.refl _ _, by simp⟩
  case round =>
    rename World => Y
    obtain ⟨j, hj, rfl, HI⟩ := hrel
    by_cases hlt : j < n
    · obtain ⟨f, num, bef, kind, of, out, txt, link, rfl, HX, c0, c1, c2, c3, c4, c5, c6⟩ := (H.out.keep HI.out.1 HI.out.1.size).val hlt
      have HS := Lib.hid (show L.take (j + 1) = L.take j ++ [⟨num, bef, kind, of, out, txt, link⟩] by
        rw [List.take_succ_eq_append_getElem HX.out.2.1]
        have h9 := HX.out.1
        simp only [List.getD, List.getElem?_eq_getElem HX.out.2.1, Option.getD_some] at h9
        rw [h9])
      have hcy : Y.cell? ⟨g, 0, none⟩ = some (.int .i64 y) := (HI.out.1.cell hg).trans HC.out
      have hgy : g < Y.heap.size := by have := HI.out.1.size; omega
      have HCY := Lib.hid (And.intro hcy hgy)
      clear hcy hgy
      by_cases hoy : out = y
      · subst hoy
        have HM := Lib.hid (show ∃ x ∈ L, x.out = out from ⟨_, List.mem_of_mem_take (i := j + 1) (by rw [HS.out]; simp; exact .inr rfl), rfl⟩)
        go_wp2_with fail
        refine (isOut38 g num bef kind of out link out txt Y HCY.out.1 HCY.out.2).mono ?_; rintro e w2 ⟨rfl, hb2⟩
        have HB := Lib.hid (HI.out.1.trans (hb2.mono HI.out.1.size))
        have g1 : (out == out) = true := by simp
        rw [g1]
        go_wp2_with fail
        go_ret
        exact ⟨j, rfl, ⟨fun _ => HM.out, fun _ => by omega⟩, HB.out⟩
      · go_wp2_with fail
        refine (isOut38 g num bef kind of out link y txt Y HCY.out.1 HCY.out.2).mono ?_; rintro e w2 ⟨rfl, hb2⟩
        have HB := Lib.hid (HI.out.1.trans (hb2.mono HI.out.1.size))
        have g1 : (out == y) = false := by simp [hoy]
        rw [g1]
        go_wp2_with fail
        go_roundw
        case rel => exact ⟨j + 1, by omega, by go_num, HB.out, by
          rw [HS.out]
          intro x hx
          rcases List.mem_append.1 hx with h | h
          · exact HI.out.2 x h
          · rw [List.mem_singleton.1 h]; exact hoy⟩
        case measure => simp [intOf]; omega
    · obtain rfl : n = j := by omega
      have HM := Lib.hid (show ¬ ∃ x ∈ L, x.out = y by
        rintro ⟨x, hx, e⟩
        exact HI.out.2 x (by rw [List.take_of_length_le (by rw [HL.out]; omega)]; exact hx) e)
      go_wp2_with fail
      go_ret
      exact ⟨-1, rfl, ⟨fun h => absurd h (by omega), fun h => absurd h HM.out⟩, HI.out.1⟩
def Rg.any (L : List Rg.En) (y : Int) : Bool := L.any fun x => decide (x.out = y)
theorem Rg.any_iff {L : List Rg.En} {y : Int} : Rg.any L y = true ↔ ∃ x ∈ L, x.out = y := by simp [Rg.any]
set_option maxRecDepth 100000 in
set_option maxHeartbeats 1600000 in
theorem hasEnt38 (A : Option Addr) (n c : Nat) (L : List Rg.En) (g : Nat) (y : Int) (w : World) (h : EnRow w w.heap.size A n c L) (hn : n ≤ 1000) (hc : w.cell? ⟨g, 0, none⟩ = some (.int .i64 y)) (hg : g < w.heap.size) :
    Calls Try.prog 90 #[.slice A n c, .func (.func 91) #[] #[.pointer (some ⟨g, 0, none⟩)]] w fun e w' => e = .returned (.bool (Rg.any L y)) ∧ Below w.heap.size w w' := by
  go_enter Try.func90, Try.ntmps90
  go_wp2_with fail
  refine (indexEnt38 A n c L g y w h hn hc hg).mono ?_; rintro e w1 ⟨i, rfl, hi, hb⟩
  have HB := Lib.hid hb
  have HR := Lib.hid (show Rg.any L y = decide (0 ≤ i) by rw [Bool.eq_iff_iff, Rg.any_iff]; simpa using hi.symm)
  clear hb hi
  go_wp2_with fail
  go_ret
  exact ⟨congrArg (fun b => Ending.returned (.bool b)) HR.out.symm, HB.out⟩
set_option maxRecDepth 100000 in
set_option maxHeartbeats 1600000 in
theorem isNew38 (A : Option Addr) (n c : Nat) (L : List Rg.En) (y : Int) (w : World) (h : EnRow w w.heap.size A n c L) (hn : n ≤ 1000) :
    Calls Try.prog 84 #[.slice A n c, .int .i64 y] w fun e w' => e = .returned (.bool (decide (Rg.news L y = 0))) ∧ Below w.heap.size w w' := by
  obtain ⟨X, hX⟩ : ∃ X : World, w.alloc (.cells #[.int .i64 y] 3) = X := ⟨_, rfl⟩
  have hbx : Below w.heap.size w X := by rw [← hX]; exact (Below.refl _ _).alloc (Nat.le_refl _) _
  have d0 : X.cell? ⟨w.heap.size, 0, none⟩ = some (.int .i64 y) := by rw [← hX]; simp [go_sem]
  have hlx : w.heap.size < X.heap.size := by rw [← hX]; simp
  have HN := Lib.hid (h.keep hbx hbx.size)
  have HB := Lib.hid hbx
  clear hbx h
  by_cases h1 : y < 1
  · have HR := Lib.hid (show decide (Rg.news L y = 0) = false by unfold Rg.news; rw [if_pos (.inl h1)]; simp)
    have g1 : decide ((1 : Int) ≤ y) = false := by simp; omega
    go_enter Try.func84, Try.ntmps84
    go_wp2_with fail
    go_ret
    exact ⟨congrArg (fun b => Ending.returned (.bool b)) HR.out.symm, HB.out⟩
  by_cases h2 : 40 < y
  · have HR := Lib.hid (show decide (Rg.news L y = 0) = false by unfold Rg.news; rw [if_pos (.inr h2)]; simp)
    have g1 : decide ((1 : Int) ≤ y) = true := by simp; omega
    have g2 : decide (y ≤ (40 : Int)) = false := by simp; omega
    go_enter Try.func84, Try.ntmps84
    go_wp2_with fail
    go_ret
    exact ⟨congrArg (fun b => Ending.returned (.bool b)) HR.out.symm, HB.out⟩
  have g1 : decide ((1 : Int) ≤ y) = true := by simp; omega
  have g2 : decide (y ≤ (40 : Int)) = true := by simp; omega
  have HR := Lib.hid (show decide (Rg.news L y = 0) = !(Rg.any L y) by
    unfold Rg.news
    rw [if_neg (by omega)]
    by_cases ha : ∃ x ∈ L, x.out = y
    · rw [if_pos ha, Rg.any_iff.2 ha]; simp
    · rw [if_neg ha]
      have : Rg.any L y = false := by rw [Bool.eq_false_iff, ne_eq, Rg.any_iff]; exact ha
      rw [this]; simp)
  have HG := Lib.hid (And.intro h1 h2)
  clear h1 h2
  go_enter Try.func84, Try.ntmps84
  go_wp2_with fail
  refine (hasEnt38 A n c L w.heap.size y X HN.out hn d0 hlx).mono ?_; rintro e w1 ⟨rfl, hb1⟩
  have HB1 := Lib.hid (HB.out.trans (hb1.mono HB.out.size))
  clear hb1
  generalize Rg.any L y = b at HR
  cases b
  all_goals
    go_wp2_with fail
    go_ret
    exact ⟨congrArg (fun b => Ending.returned (.bool b)) HR.out.symm, HB1.out⟩
end Go.Proofs.Ytojeendofpallaa
/- Register: the program's inForce. -/
namespace Go.Proofs.Ytojeendofpallaa
open Go.RowKit Go.Sort Go.Lib
theorem below_putRow {w : World} {B g q : Nat} {os : Array Obj} (d : Array Int) (hg : B ≤ g) (hB : B ≤ w.heap.size) : Below B w (grow (putRow (Value.int .i64) (Sort.ahead w q) g 0 d) os) :=
  (Below.refl B w).grown (grownBy_sortedI d) hB (fun k hk => by injection hk with hk; omega)
/-- what a row of ints of the function's own is good for -/
theorem Own.rowI {w : World} {base : Nat} {e : TypeId} {v : Value} {l : List Int} (h : Own w base e .i64 v l) :
    (v = .slice none 0 0 ∧ l = []) ∨ ∃ g cap, v = .slice (some ⟨g, 0, none⟩) l.length cap ∧ base ≤ g ∧ g < w.heap.size ∧ l.length ≤ cap ∧ cap ≤ maxLen ∧ Holds (Value.int .i64) w g 0 l.toArray ∧ (∃ cs fr, w.heap[g]? = some (.cells cs e fr)) ∧
      ∀ (ts : List Int) (q : Nat) (os : Array Obj), ts.length = l.length → Own (Go.Sort.grow (putRow (Value.int .i64) (Sort.ahead w q) g 0 ts.toArray) os) base e .i64 (.slice (some ⟨g, 0, none⟩) ts.length cap) ts := by
  have h0 := h
  obtain ⟨hl, ⟨rfl, hn⟩ | ⟨g, cap, cur, rfl, hg, hh, hle, hmax, hsz, htake⟩⟩ := h
  · exact .inl ⟨rfl, List.eq_nil_of_length_eq_zero hn⟩
  · refine .inr ⟨g, cap, rfl, hg, (World.ownsRow.lt h0 g rfl).2, hle, hmax, holds_of_blockI hh (by simpa using htake), ⟨_, _, hh⟩, fun ts q os ht => ?_⟩
    have := ownsRow_sortedI (n := q) (os := os) ht hg hh hle hmax hsz
    rw [← ht] at this
    exact this
/-- the same row, shorter -/
theorem Own.cutI {w : World} {base g n cap m : Nat} {e : TypeId} {k : IntKind} {l : List Int} (h : Own w base e k (.slice (some ⟨g, 0, none⟩) n cap) l) (hm : m ≤ n) : Own w base e k (.slice (some ⟨g, 0, none⟩) m cap) (l.take m) := by
  obtain ⟨hl, ⟨hv, hn⟩ | ⟨g', cap', cur, hv, hg, hh, hle, hmax, hsz, htake⟩⟩ := h
  · cases hv
  · cases hv
    have e1 : (l.take m).length = m := by rw [List.length_take]; omega
    refine ⟨by simp, .inr ⟨g, cap, cur, by rw [e1], hg, hh, by rw [e1]; omega, hmax, hsz, ?_⟩⟩
    rw [e1, List.map_take, ← htake, List.take_take]
    congr 1
    rw [Nat.mul_one, Nat.mul_one]; omega
theorem putRow_grow0 (w : World) (q g : Nat) (d : Array Int) : putRow (Value.int .i64) (Sort.ahead w q) g 0 d = grow (putRow (Value.int .i64) (Sort.ahead w q) g 0 d) #[] := by simp
theorem dropOf38 (base f : Nat) (of : Int) (v : Value) (l : List Int) (w : World) (h : Own w base 3 .i64 v l) (hb : base ≤ w.heap.size) (hn : l.length ≤ 1000000) (cs : Array Value) (fr : Nat × Nat) (hf : w.heap[f]? = some (.cells cs 60 fr)) (hc : w.cell? ⟨f, 3, none⟩ = some (.int .i64 of)) :
    Calls Try.prog 86 #[v, .func (.func 87) #[] #[.pointer (some ⟨f, 0, none⟩)]] w fun e w' => ∃ v', e = .returned v' ∧ Own w' base 3 .i64 v' (l.filter fun x => x != of) ∧ Below base w w' ∧ ∀ k u, w.cell? ⟨f, k, none⟩ = some u → w'.cell? ⟨f, k, none⟩ = some u := by
  have hfs : f < w.heap.size := (Array.getElem?_eq_some_iff.1 hf).1
  rcases h.rowI with ⟨rfl, rfl⟩ | ⟨g, cap, rfl, hg, hgs, hle, hmax, hH, ⟨cs2, fr2, hh⟩, hown⟩
  · go_enter Try.func86, Try.ntmps86
    go_wp2_with fail
    refine (Try.slices_IndexFunc_empty (α := Int) none 0 _ w).mono ?_; rintro e w1 ⟨rfl, rfl⟩
    go_wp2_with fail
    go_ret
    exact ⟨_, rfl, Own.nil _ _ _ _, Below.refl _ _, fun _ _ h => h⟩
  · have hne : f ≠ g := by
      intro e
      rw [e, hh] at hf
      injection hf with hf
      injection hf with _ ht
      exact absurd ht (by decide)
    have hc := Try.slices_DeleteFunc (Value.int .i64) (fun _ => rfl) (fun x => x == of) 87 #[.pointer (some ⟨f, 0, none⟩)] (enters_of Try.func87 (by kernel_rfl) rfl) 0 Try.zeroValue3 g 0 cap l.toArray w
      (fun W x hW => isOf38 f x of W ((hW.cell hfs).trans hc))
      (fun n os dk x hdk => isOf38 f x of _ (by
        unfold sortWorld
        rw [cell?_grow _ _ _ (by show f < (putRow _ _ _ _ _).heap.size; rw [size_putRow]; exact hfs), cell?_putRow_other _ _ g 0 _ _ (Or.inl (by simpa using hne))]
        exact hc))
      hH (by simp; omega) (by simpa using hle)
    have hsz : l.toArray.size = l.length := by simp
    rw [hsz] at hc
    refine hc.mono fun e w' ⟨he, q, hw⟩ => ?_
    have hbn : (l.filter fun x => !(x == of)) = l.filter fun x => x != of := rfl
    have hcl : (l.filter fun x => x != of).length ≤ l.length := List.length_filter_le _ _
    have hlt : l.toArray.toList = l := by simp
    rw [hlt, hbn] at he hw
    subst hw
    rw [putRow_grow0]
    have h1 := hown ((l.filter fun x => x != of) ++ List.replicate (l.length - (l.filter fun x => x != of).length) 0) q #[] (by rw [List.length_append, List.length_replicate]; omega)
    have h2 := h1.cutI (m := (l.filter fun x => x != of).length) (by rw [List.length_append]; omega)
    rw [List.take_left' rfl] at h2
    refine ⟨_, he, h2, below_putRow _ hg hb, fun k u hu => ?_⟩
    rw [cell?_grow _ _ _ (by show f < (putRow _ _ _ _ _).heap.size; rw [size_putRow]; exact hfs), cell?_putRow_other _ _ g 0 _ _ (Or.inl (by simpa using hne))]
    exact hu
end Go.Proofs.Ytojeendofpallaa
/- Register: the program's inForce. -/
namespace Go.Proofs.Ytojeendofpallaa
open Go.RowKit
set_option maxRecDepth 100000 in
set_option maxHeartbeats 1600000 in
theorem pinf38 (A : Option Addr) (n c : Nat) (L : List Rg.En) (w : World) (h : EnRow w w.heap.size A n c L) (hn : n ≤ 100) (hw : ∀ x ∈ L, 0 ≤ x.num ∧ x.num ≤ 1000) :
    Calls Try.prog 76 #[.slice A n c] w fun e w' => ∃ v, e = .returned v ∧ Own w' w.heap.size 3 .i64 v (Rg.inf L) ∧ Below w.heap.size w w' := by
  have H := Lib.hid h
  have HL := Lib.hid h.len
  have HW := Lib.hid hw
  clear h hw
  go_enter Try.func76, Try.ntmps76
  go_wp2_with fail
  go_loopw [3, 8] (fun q i wr => ∃ j : Nat, j ≤ n ∧ i = .int .i64 j ∧ Hid (Own wr w.heap.size 3 .i64 q (Rg.inf (L.take j)) ∧ Below w.heap.size w wr)) (fun _ i _ => n - (intOf i).toNat)
  case atStart => exact ⟨0, by omega, rfl, Own.nil _ _ _ _, Below.refl _ _⟩
  case round =>
    rename World => Y
    obtain ⟨j, hj, rfl, HI⟩ := hrel
    by_cases hlt : j < n
    · obtain ⟨g, num, bef, kind, of, out, txt, link, rfl, HX, c0, c1, c2, c3, c4, c5, c6⟩ := (H.out.keep HI.out.2 HI.out.2.size).val hlt
      obtain ⟨l, hl⟩ : ∃ l, Rg.inf (L.take j) = l := ⟨_, rfl⟩
      have HE := Lib.hid (show Rg.inf (L.take (j + 1)) = (if kind = 1 then l else l.filter (fun n => n != of)) ++ (if kind = 2 then [] else [num]) by
        rw [Rg.inf_take HX.out.2.1, HX.out.1, hl]; rfl)
      have HLEN := Lib.hid (show l.length ≤ 100 by
        have := Rg.inf_len (L.take j) []
        rw [← hl]
        unfold Rg.inf
        rw [List.length_take] at this
        simp only [List.length_nil] at this
        omega)
      have HWF := Lib.hid (show ∀ x ∈ l, (Lit.int .i64 x).wf = true by
        rw [← hl]
        exact Rg.inf_wf (fun x hx => HW.out x (List.mem_of_mem_take hx)))
      rw [hl] at HI
      obtain ⟨Aq, Nq, cq, rfl, hNq, hnq⟩ := HI.out.1.nums9 HWF.out
      obtain ⟨Z, hZ⟩ : ∃ Z : World, Y.alloc (.cells #[.int .i64 num, .int .u64 bef, .int .i64 kind, .int .i64 of, .int .i64 out, .string txt, .int .u64 link] 60) = Z := ⟨_, rfl⟩
      have hbz : Below Y.heap.size Y Z := by rw [← hZ]; exact (Below.refl _ _).alloc (Nat.le_refl _) _
      have d0 : Z.cell? ⟨Y.heap.size, 0, none⟩ = some (.int .i64 num) := by rw [← hZ]; simp [go_sem]
      have d2 : Z.cell? ⟨Y.heap.size, 2, none⟩ = some (.int .i64 kind) := by rw [← hZ]; simp [go_sem]
      have d3 : Z.cell? ⟨Y.heap.size, 3, none⟩ = some (.int .i64 of) := by rw [← hZ]; simp [go_sem]
      have hsz : Y.heap.size < Z.heap.size := by rw [← hZ]; simp
      have HOZ := Lib.hid (HI.out.1.below hbz)
      have HBZ := Lib.hid (HI.out.2.trans (hbz.mono HI.out.2.size))
      have HNQ := Lib.hid (hnq.keep hbz hbz.size)
      clear hl hbz hnq
      have hzh : Z.heap[Y.heap.size]? = some (.cells #[.int .i64 num, .int .u64 bef, .int .i64 kind, .int .i64 of, .int .i64 out, .string txt, .int .u64 link] 60 (0, 0)) := by rw [← hZ]; exact heap_alloc_new _ _
      have HZH := Lib.hid (And.intro hzh d3)
      clear hzh d3
      by_cases hk : kind = 1
      · subst hk
        have g1 : ((1 : Int) != 1) = false := by simp
        have g2 : ((1 : Int) != 2) = true := by simp
        go_wp2_with (at_builtin; refine app_int _ rfl (.tmp 21) (.tmp 24) _ rfl w.heap.size 3 8 .i64 int_info28 Try.underlying22 _ _ rfl (HOZ.out.alloc _) num Z.heap.size rfl (by simp [go_sem]) (by have := HLEN.out; simp only [maxLen]; omega) (by have := HLEN.out; omega) (by have := HBZ.out.size; simp; omega) ?_; intro v' w' hown' hgrow)
        have hb2 : Below w.heap.size w w' := (HOZ.out.alloc _).grow (HBZ.out.alloc HBZ.out.size _) hgrow (by have := HBZ.out.size; simp; omega) (Nat.le_refl _)
        go_roundw
        case rel => exact ⟨j + 1, by omega, by go_num, by rw [HE.out]; exact hown', hb2⟩
        case measure => simp [intOf]; omega
      · have g1 : (kind != 1) = true := by simp [hk]
        go_wp2_with fail
        refine (dropOf38 w.heap.size Y.heap.size of _ l Z HOZ.out HBZ.out.size (by have := HLEN.out; omega) _ _ HZH.out.1 HZH.out.2).mono ?_; rintro e V ⟨v2, rfl, ho2, hb2, hk2⟩
        have d0 : V.cell? ⟨Y.heap.size, 0, none⟩ = some (.int .i64 num) := hk2 _ _ d0
        have d2 : V.cell? ⟨Y.heap.size, 2, none⟩ = some (.int .i64 kind) := hk2 _ _ d2
        have HLL := Lib.hid (show (l.filter (fun n => n != of)).length ≤ 100 by
          have h1 := List.length_filter_le (fun n => n != of) l
          have := HLEN.out
          omega)
        have HOV := Lib.hid ho2
        have HBV := Lib.hid (HBZ.out.trans hb2)
        clear ho2 hb2 hk2
        by_cases hk2 : kind = 2
        · subst hk2
          go_wp2_with fail
          go_roundw
          case rel => exact ⟨j + 1, by omega, by go_num, by rw [HE.out]; simpa using HOV.out, HBV.out⟩
          case measure => simp [intOf]; omega
        · have g3 : (kind != 2) = true := by simp [hk2]
          go_wp2_with (at_builtin; refine app_int _ rfl (.tmp 21) (.tmp 24) _ rfl w.heap.size 3 8 .i64 int_info28 Try.underlying22 _ _ rfl (HOV.out.alloc _) num V.heap.size rfl (by simp [go_sem]) (by have := HLL.out; simp only [maxLen]; omega) (by have := HLL.out; omega) (by have := HBV.out.size; simp; omega) ?_; intro v' w' hown' hgrow)
          have hb2 : Below w.heap.size w w' := (HOV.out.alloc _).grow (HBV.out.alloc HBV.out.size _) hgrow (by have := HBV.out.size; simp; omega) (Nat.le_refl _)
          go_roundw
          case rel => exact ⟨j + 1, by omega, by go_num, by rw [HE.out, if_neg hk, if_neg hk2]; exact hown', hb2⟩
          case measure => simp [intOf]; omega
    · obtain rfl : n = j := by omega
      have HE := Lib.hid (show Rg.inf (L.take n) = Rg.inf L by rw [List.take_of_length_le (by rw [HL.out]; omega)])
      go_wp2_with fail
      go_ret
      exact ⟨_, rfl, by rw [← HE.out]; exact HI.out.1, HI.out.2⟩
end Go.Proofs.Ytojeendofpallaa
/- Register: the program's checkEntry. -/
namespace Go.Proofs.Ytojeendofpallaa
open Go.RowKit
def GivesPlace9 (x : Int) (l : List Int) (w : World) (e : Ending) (w' : World) : Prop := ∃ i : Int, e = .returned (.int .i64 i) ∧ (0 ≤ i ↔ x ∈ l) ∧ w = w'
set_option maxHeartbeats 400000 in
theorem index38 (A : Option Addr) (n c : Nat) (l : List Int) (x : Int) (B : Nat) (w : World) (h : Nums w .i64 B A n c l) :
    Calls Try.prog 89 #[.slice A n c, .int .i64 x] w (GivesPlace9 x l w) := by
  have hm : n ≤ 9223372036854775807 := by have := h.cap; have := h.max; unfold maxLen at this; omega
  have H := Lib.hid h
  have HL := Lib.hid h.len
  clear h
  go_enter Try.func89, Try.ntmps89
  go_wp2_with fail
  go_loop [5, 8] (fun _ i => ∃ j : Nat, j ≤ n ∧ i = .int .i64 j ∧ Hid (x ∉ l.take j)) (fun _ i => n - (intOf i).toNat)
  case atStart => exact ⟨0, by omega, rfl, by show x ∉ l.take 0; simp⟩
  case round =>
    obtain ⟨j, hj, rfl, HI⟩ := hrel
    by_cases hlt : j < n
    · obtain ⟨ad, y, rfl, _, HY, hy, _⟩ := H.out.val hlt
      have HS := Lib.hid (show l.take (j + 1) = l.take j ++ [y] by
        rw [List.take_succ_eq_append_getElem HY.out.2]
        have h9 := HY.out.1
        simp only [List.getD, List.getElem?_eq_getElem HY.out.2, Option.getD_some] at h9
        rw [h9])
      by_cases hxy : x = y
      · subst hxy
        have g1 : (x == x) = true := by simp
        have HM := Lib.hid (show x ∈ l from List.mem_of_mem_take (i := j + 1) (by rw [HS.out]; simp))
        go_wp2_with fail
        go_ret
        exact ⟨j, rfl, ⟨fun _ => HM.out, fun _ => by omega⟩, rfl⟩
      · have g1 : (x == y) = false := by simp [hxy]
        go_wp2_with fail
        go_round
        case rel => exact ⟨j + 1, by omega, by go_num, by
          show x ∉ l.take (j + 1)
          rw [HS.out, List.mem_append]
          rintro (h | h)
          · exact HI.out h
          · exact hxy (by simpa using List.mem_singleton.1 h)⟩
        case measure => simp [intOf]; omega
    · obtain rfl : n = j := by omega
      have HM := Lib.hid (show x ∉ l by have := HI.out; rwa [List.take_of_length_le (by rw [HL.out]; omega)] at this)
      go_wp2_with fail
      go_ret
      exact ⟨-1, rfl, ⟨fun h => absurd h (by omega), fun h => absurd h HM.out⟩, rfl⟩
theorem contains38 (A : Option Addr) (n c : Nat) (l : List Int) (x : Int) (B : Nat) (w : World) (h : Nums w .i64 B A n c l) :
    Calls Try.prog 80 #[.slice A n c, .int .i64 x] w fun e w' => e = .returned (.bool (decide (x ∈ l))) ∧ w = w' := by
  go_enter Try.func80, Try.ntmps80
  go_wp2_with fail
  refine (index38 A n c l x B w h).mono ?_; rintro e w1 ⟨i, rfl, hi, rfl⟩
  have HR := Lib.hid (show decide (x ∈ l) = decide (0 ≤ i) by rw [Bool.eq_iff_iff]; simpa using hi.symm)
  clear hi
  go_wp2_with fail
  go_ret
  exact ⟨congrArg (fun b => Ending.returned (.bool b)) HR.out.symm, rfl⟩
theorem Rg.news_two (L : List Rg.En) (y : Int) : Rg.news L y = if Rg.news L y = 0 then 0 else 11 := by
  unfold Rg.news
  split
  · simp
  · split <;> simp
theorem Rg.about_wd {L : List Rg.En} {x : Rg.En} (h4 : ¬ 4096 < x.txt.size) (hk : ¬ (x.kind < 1 ∨ 3 < x.kind)) (h1 : x.kind ≠ 1) (hi : x.of ∉ Rg.inf L) : Rg.about L x = 56 := by
  unfold Rg.about
  rw [if_neg h4, if_neg hk, if_pos ⟨h1, hi⟩]
theorem Rg.about_two {L : List Rg.En} {x : Rg.En} (h4 : ¬ 4096 < x.txt.size) (h1 : x.kind = 2) (hi : x.of ∈ Rg.inf L) : Rg.about L x = if x.out = 0 ∧ x.txt.toList.isEmpty = true then 0 else 11 := by
  unfold Rg.about
  rw [if_neg h4, if_neg (by omega), if_neg (fun h => h.2 hi), if_neg (by omega), if_pos h1]
theorem Rg.about_three {L : List Rg.En} {x : Rg.En} (h4 : ¬ 4096 < x.txt.size) (h1 : x.kind = 3) (hi : x.of ∈ Rg.inf L) : Rg.about L x = Rg.news L x.out := by
  unfold Rg.about
  rw [if_neg h4, if_neg (by omega), if_neg (fun h => h.2 hi), if_neg (by omega), if_neg (by omega)]
theorem Rg.about_one {L : List Rg.En} {x : Rg.En} (h4 : ¬ 4096 < x.txt.size) (h1 : x.kind = 1) : Rg.about L x = if x.of ≠ 0 then 11 else Rg.news L x.out := by
  unfold Rg.about
  rw [if_neg h4, if_neg (by omega), if_neg (fun h => h.1 h1)]
  by_cases h0 : x.of = 0
  · rw [if_neg (fun h => h.2 h0), if_neg (by omega), if_neg (fun h => h h0)]
  · rw [if_pos ⟨h1, h0⟩, if_pos h0]
set_option maxRecDepth 100000 in
set_option maxHeartbeats 3200000 in
theorem about38 (A : Option Addr) (n c : Nat) (L : List Rg.En) (num bef kind of out link : Int) (txt : ByteArray) (w : World) (h : EnRow w w.heap.size A n c L) (hn : n ≤ 100) (hw : ∀ x ∈ L, 0 ≤ x.num ∧ x.num ≤ 1000) (ht : txt.size ≤ 1000000) :
    Calls Try.prog 74 #[.slice A n c, .agg #[.int .i64 num, .int .u64 bef, .int .i64 kind, .int .i64 of, .int .i64 out, .string txt, .int .u64 link]] w fun e w' => e = .returned (.int .i64 (Rg.about L ⟨num, bef, kind, of, out, txt, link⟩)) ∧ Below w.heap.size w w' := by
  obtain ⟨W, hW⟩ : ∃ W : World, w.alloc (.cells #[.int .i64 num, .int .u64 bef, .int .i64 kind, .int .i64 of, .int .i64 out, .string txt, .int .u64 link] 60) = W := ⟨_, rfl⟩
  have hb : Below w.heap.size w W := by rw [← hW]; exact (Below.refl _ _).alloc (Nat.le_refl _) _
  have hlt : w.heap.size < W.heap.size := by rw [← hW]; simp
  have k2 : W.cell? ⟨w.heap.size, 2, none⟩ = some (.int .i64 kind) := by rw [← hW]; simp [go_sem]
  have k3 : W.cell? ⟨w.heap.size, 3, none⟩ = some (.int .i64 of) := by rw [← hW]; simp [go_sem]
  have k4 : W.cell? ⟨w.heap.size, 4, none⟩ = some (.int .i64 out) := by rw [← hW]; simp [go_sem]
  have k5 : W.cell? ⟨w.heap.size, 5, none⟩ = some (.string txt) := by rw [← hW]; simp [go_sem]
  have H := Lib.hid (h.keep hb hb.size)
  have HB := Lib.hid hb
  have HW := Lib.hid hw
  clear h hb hw
  by_cases ht4 : 4096 < txt.size
  · have HR := Lib.hid (show Rg.about L ⟨num, bef, kind, of, out, txt, link⟩ = 1 by
      unfold Rg.about
      simp only
      rw [if_pos ht4])
    go_enter Try.func74, Try.ntmps74
    go_wp2_with fail
    go_ret
    exact ⟨congrArg (fun b => Ending.returned (.int .i64 b)) HR.out.symm, HB.out⟩
  by_cases hk : kind < 1 ∨ 3 < kind
  · have HR := Lib.hid (show Rg.about L ⟨num, bef, kind, of, out, txt, link⟩ = 4 by
      unfold Rg.about
      simp only
      rw [if_neg ht4, if_pos hk])
    have g1 : (kind == 1) = false := by simp; omega
    have g2 : (kind == 2) = false := by simp; omega
    have g3 : (kind == 3) = false := by simp; omega
    have t4 : decide (4096 < (txt.size : Int)) = false := by simp; omega
    have HK := Lib.hid hk
    clear hk
    go_enter Try.func74, Try.ntmps74
    go_wp2_with fail
    go_ret
    exact ⟨congrArg (fun b => Ending.returned (.int .i64 b)) HR.out.symm, HB.out⟩
  have t4 : decide (4096 < (txt.size : Int)) = false := by simp; omega
  have HK := Lib.hid hk
  have HT4 := Lib.hid ht4
  have HT := Lib.hid ht
  have HKK := Lib.hid (show kind = 1 ∨ kind = 2 ∨ kind = 3 by omega)
  clear hk ht4 ht
  go_enter Try.func74, Try.ntmps74
  rcases HKK.out with rfl | rfl | rfl
  · by_cases hof : of = 0
    · subst hof
      have HR := Lib.hid (show Rg.about L ⟨num, bef, 1, 0, out, txt, link⟩ = Rg.news L out by rw [Rg.about_one HT4.out rfl]; simp)
      go_wp2_with fail
      refine (isNew38 A n c L out W H.out (by omega)).mono ?_; rintro e w1 ⟨rfl, hb1⟩
      have k2 := (hb1.cell hlt).trans k2
      have HBW := Lib.hid (HB.out.trans (hb1.mono HB.out.size))
      rcases hb : decide (Rg.news L out = 0) with _ | _
      · have HN := Lib.hid (show Rg.news L out = 11 by rw [Rg.news_two, if_neg (by simpa using hb)])
        clear hb hb1
        go_wp2_with fail
        go_quiet (fail)
        go_wp2_with fail
        go_ret
        exact ⟨congrArg (fun b => Ending.returned (.int .i64 b)) (HR.out.trans HN.out).symm, below_drewN HBW.out _⟩
      · have HN := Lib.hid (show Rg.news L out = 0 by simpa using hb)
        clear hb hb1
        go_wp2_with fail
        go_quiet (fail)
        go_wp2_with fail
        go_ret
        exact ⟨congrArg (fun b => Ending.returned (.int .i64 b)) (HR.out.trans HN.out).symm, below_drewN HBW.out _⟩
    · have HR := Lib.hid (show Rg.about L ⟨num, bef, 1, of, out, txt, link⟩ = 11 by rw [Rg.about_one HT4.out rfl, if_pos hof])
      have g3 : (of == 0) = false := by simp [hof]
      go_wp2_with fail
      go_quiet (fail)
      go_wp2_with fail
      go_ret
      exact ⟨congrArg (fun b => Ending.returned (.int .i64 b)) HR.out.symm, below_drewN HB.out _⟩
  · by_cases ho : out = 0
    · subst ho
      by_cases htx : txt.toList.isEmpty = true
      · go_wp2_with fail
        have k2v : ∀ w', Below W.heap.size W w' → w'.cell? ⟨w.heap.size, 2, none⟩ = some (.int .i64 2) := fun w' h9 => (h9.cell hlt).trans k2
        have k3v : ∀ w', Below W.heap.size W w' → w'.cell? ⟨w.heap.size, 3, none⟩ = some (.int .i64 of) := fun w' h9 => (h9.cell hlt).trans k3
        clear k2 k3
        by_cases hof : of ∈ Rg.inf L
        · have dm : decide (of ∈ Rg.inf L) = true := decide_eq_true hof
          have HR := Lib.hid (show Rg.about L ⟨num, bef, 2, of, 0, txt, link⟩ = _ from (Rg.about_two HT4.out rfl hof).trans (if_pos ⟨rfl, htx⟩))
          go_region_held3 (fun w' => Below W.heap.size W w')
            (first | assumption | (exact below_of_drawn 1) | (exact (Below.refl _ _).drew) | (exact below_drewN (by assumption) _) | (exact below_next28 (by assumption) (by assumption) (Below.size (by assumption))))
            (first
              | (go_at_call 76; (with_reducible refine (pinf38 A n c L _ (H.out.keep (by assumption) (Below.size (by assumption))) hn HW.out).mono ?_); rintro e wz ⟨vz, rfl, hown, hbz⟩; obtain ⟨Az, Nz, cz, rfl, -, hnz⟩ := hown.nums9 (Rg.inf_wf HW.out); clear hown)
              | (go_at_call 80; (with_reducible refine (contains38 _ _ _ _ _ _ _ hnz).mono ?_); rintro e wz ⟨rfl, rfl⟩; rw [dm])
              | fail)
          have hb9 : Below W.heap.size W wz := by assumption
          have HBW := Lib.hid (HB.out.trans (hb9.mono HB.out.size))
          go_wp2_with fail
          go_ret
          exact ⟨congrArg (fun b => Ending.returned (.int .i64 b)) HR.out.symm, HBW.out⟩
        · have dm : decide (of ∈ Rg.inf L) = false := decide_eq_false hof
          have HR := Lib.hid (show Rg.about L ⟨num, bef, 2, of, 0, txt, link⟩ = 56 from Rg.about_wd HT4.out (by simp) (by simp) hof)
          go_region_held3 (fun w' => Below W.heap.size W w')
            (first | assumption | (exact below_of_drawn 1) | (exact (Below.refl _ _).drew) | (exact below_drewN (by assumption) _) | (exact below_next28 (by assumption) (by assumption) (Below.size (by assumption))))
            (first
              | (go_at_call 76; (with_reducible refine (pinf38 A n c L _ (H.out.keep (by assumption) (Below.size (by assumption))) hn HW.out).mono ?_); rintro e wz ⟨vz, rfl, hown, hbz⟩; obtain ⟨Az, Nz, cz, rfl, -, hnz⟩ := hown.nums9 (Rg.inf_wf HW.out); clear hown)
              | (go_at_call 80; (with_reducible refine (contains38 _ _ _ _ _ _ _ hnz).mono ?_); rintro e wz ⟨rfl, rfl⟩; rw [dm])
              | fail)
          have hb9 : Below W.heap.size W wz := by assumption
          have HBW := Lib.hid (HB.out.trans (hb9.mono HB.out.size))
          go_wp2_with fail
          go_ret
          exact ⟨congrArg (fun b => Ending.returned (.int .i64 b)) HR.out.symm, HBW.out⟩
      · have g7 : txt.toList.isEmpty = false := by simpa using htx
        go_wp2_with fail
        have k2v : ∀ w', Below W.heap.size W w' → w'.cell? ⟨w.heap.size, 2, none⟩ = some (.int .i64 2) := fun w' h9 => (h9.cell hlt).trans k2
        have k3v : ∀ w', Below W.heap.size W w' → w'.cell? ⟨w.heap.size, 3, none⟩ = some (.int .i64 of) := fun w' h9 => (h9.cell hlt).trans k3
        clear k2 k3
        by_cases hof : of ∈ Rg.inf L
        · have dm : decide (of ∈ Rg.inf L) = true := decide_eq_true hof
          have HR := Lib.hid (show Rg.about L ⟨num, bef, 2, of, 0, txt, link⟩ = _ from (Rg.about_two HT4.out rfl hof).trans (if_neg (fun h => htx h.2)))
          go_region_held3 (fun w' => Below W.heap.size W w')
            (first | assumption | (exact below_of_drawn 1) | (exact (Below.refl _ _).drew) | (exact below_drewN (by assumption) _) | (exact below_next28 (by assumption) (by assumption) (Below.size (by assumption))))
            (first
              | (go_at_call 76; (with_reducible refine (pinf38 A n c L _ (H.out.keep (by assumption) (Below.size (by assumption))) hn HW.out).mono ?_); rintro e wz ⟨vz, rfl, hown, hbz⟩; obtain ⟨Az, Nz, cz, rfl, -, hnz⟩ := hown.nums9 (Rg.inf_wf HW.out); clear hown)
              | (go_at_call 80; (with_reducible refine (contains38 _ _ _ _ _ _ _ hnz).mono ?_); rintro e wz ⟨rfl, rfl⟩; rw [dm])
              | fail)
          have hb9 : Below W.heap.size W wz := by assumption
          have HBW := Lib.hid (HB.out.trans (hb9.mono HB.out.size))
          go_wp2_with fail
          go_ret
          exact ⟨congrArg (fun b => Ending.returned (.int .i64 b)) HR.out.symm, HBW.out⟩
        · have dm : decide (of ∈ Rg.inf L) = false := decide_eq_false hof
          have HR := Lib.hid (show Rg.about L ⟨num, bef, 2, of, 0, txt, link⟩ = 56 from Rg.about_wd HT4.out (by simp) (by simp) hof)
          go_region_held3 (fun w' => Below W.heap.size W w')
            (first | assumption | (exact below_of_drawn 1) | (exact (Below.refl _ _).drew) | (exact below_drewN (by assumption) _) | (exact below_next28 (by assumption) (by assumption) (Below.size (by assumption))))
            (first
              | (go_at_call 76; (with_reducible refine (pinf38 A n c L _ (H.out.keep (by assumption) (Below.size (by assumption))) hn HW.out).mono ?_); rintro e wz ⟨vz, rfl, hown, hbz⟩; obtain ⟨Az, Nz, cz, rfl, -, hnz⟩ := hown.nums9 (Rg.inf_wf HW.out); clear hown)
              | (go_at_call 80; (with_reducible refine (contains38 _ _ _ _ _ _ _ hnz).mono ?_); rintro e wz ⟨rfl, rfl⟩; rw [dm])
              | fail)
          have hb9 : Below W.heap.size W wz := by assumption
          have HBW := Lib.hid (HB.out.trans (hb9.mono HB.out.size))
          go_wp2_with fail
          go_ret
          exact ⟨congrArg (fun b => Ending.returned (.int .i64 b)) HR.out.symm, HBW.out⟩
    · have g7 : (out == 0) = false := by simp [ho]
      go_wp2_with fail
      have k2v : ∀ w', Below W.heap.size W w' → w'.cell? ⟨w.heap.size, 2, none⟩ = some (.int .i64 2) := fun w' h9 => (h9.cell hlt).trans k2
      have k3v : ∀ w', Below W.heap.size W w' → w'.cell? ⟨w.heap.size, 3, none⟩ = some (.int .i64 of) := fun w' h9 => (h9.cell hlt).trans k3
      clear k2 k3
      by_cases hof : of ∈ Rg.inf L
      · have dm : decide (of ∈ Rg.inf L) = true := decide_eq_true hof
        have HR := Lib.hid (show Rg.about L ⟨num, bef, 2, of, out, txt, link⟩ = _ from (Rg.about_two HT4.out rfl hof).trans (if_neg (fun h => ho h.1)))
        go_region_held3 (fun w' => Below W.heap.size W w')
          (first | assumption | (exact below_of_drawn 1) | (exact (Below.refl _ _).drew) | (exact below_drewN (by assumption) _) | (exact below_next28 (by assumption) (by assumption) (Below.size (by assumption))))
          (first
            | (go_at_call 76; (with_reducible refine (pinf38 A n c L _ (H.out.keep (by assumption) (Below.size (by assumption))) hn HW.out).mono ?_); rintro e wz ⟨vz, rfl, hown, hbz⟩; obtain ⟨Az, Nz, cz, rfl, -, hnz⟩ := hown.nums9 (Rg.inf_wf HW.out); clear hown)
            | (go_at_call 80; (with_reducible refine (contains38 _ _ _ _ _ _ _ hnz).mono ?_); rintro e wz ⟨rfl, rfl⟩; rw [dm])
            | fail)
        have hb9 : Below W.heap.size W wz := by assumption
        have HBW := Lib.hid (HB.out.trans (hb9.mono HB.out.size))
        go_wp2_with fail
        go_ret
        exact ⟨congrArg (fun b => Ending.returned (.int .i64 b)) HR.out.symm, HBW.out⟩
      · have dm : decide (of ∈ Rg.inf L) = false := decide_eq_false hof
        have HR := Lib.hid (show Rg.about L ⟨num, bef, 2, of, out, txt, link⟩ = 56 from Rg.about_wd HT4.out (by simp) (by simp) hof)
        go_region_held3 (fun w' => Below W.heap.size W w')
          (first | assumption | (exact below_of_drawn 1) | (exact (Below.refl _ _).drew) | (exact below_drewN (by assumption) _) | (exact below_next28 (by assumption) (by assumption) (Below.size (by assumption))))
          (first
            | (go_at_call 76; (with_reducible refine (pinf38 A n c L _ (H.out.keep (by assumption) (Below.size (by assumption))) hn HW.out).mono ?_); rintro e wz ⟨vz, rfl, hown, hbz⟩; obtain ⟨Az, Nz, cz, rfl, -, hnz⟩ := hown.nums9 (Rg.inf_wf HW.out); clear hown)
            | (go_at_call 80; (with_reducible refine (contains38 _ _ _ _ _ _ _ hnz).mono ?_); rintro e wz ⟨rfl, rfl⟩; rw [dm])
            | fail)
        have hb9 : Below W.heap.size W wz := by assumption
        have HBW := Lib.hid (HB.out.trans (hb9.mono HB.out.size))
        go_wp2_with fail
        go_ret
        exact ⟨congrArg (fun b => Ending.returned (.int .i64 b)) HR.out.symm, HBW.out⟩
  · go_wp2_with fail
    refine (isNew38 A n c L out W H.out (by omega)).mono ?_; rintro e w1 ⟨rfl, hb1⟩
    have k2 := (hb1.cell hlt).trans k2
    have k3 := (hb1.cell hlt).trans k3
    have hlt1 := Nat.lt_of_lt_of_le hlt hb1.size
    have HBW := Lib.hid (HB.out.trans (hb1.mono HB.out.size))
    have H1 := Lib.hid (H.out.keep hb1 hb1.size)
    rcases hb : decide (Rg.news L out = 0) with _ | _
    · have HN := Lib.hid (show Rg.news L out = 11 by rw [Rg.news_two, if_neg (by simpa using hb)])
      clear hb hb1
      go_wp2_with fail
      have k2v : ∀ w', Below w1.heap.size w1 w' → w'.cell? ⟨w.heap.size, 2, none⟩ = some (.int .i64 3) := fun w' h9 => (h9.cell hlt1).trans k2
      have k3v : ∀ w', Below w1.heap.size w1 w' → w'.cell? ⟨w.heap.size, 3, none⟩ = some (.int .i64 of) := fun w' h9 => (h9.cell hlt1).trans k3
      clear k2 k3
      by_cases hof : of ∈ Rg.inf L
      · have dm : decide (of ∈ Rg.inf L) = true := decide_eq_true hof
        have HR := Lib.hid (show Rg.about L ⟨num, bef, 3, of, out, txt, link⟩ = _ from (Rg.about_three HT4.out rfl hof).trans HN.out)
        go_region_held3 (fun w' => Below w1.heap.size w1 w')
          (first | assumption | (exact below_of_drawn 1) | (exact (Below.refl _ _).drew) | (exact below_drewN (by assumption) _) | (exact below_next28 (by assumption) (by assumption) (Below.size (by assumption))))
          (first
            | (go_at_call 76; (with_reducible refine (pinf38 A n c L _ (H1.out.keep (by assumption) (Below.size (by assumption))) hn HW.out).mono ?_); rintro e wz ⟨vz, rfl, hown, hbz⟩; obtain ⟨Az, Nz, cz, rfl, -, hnz⟩ := hown.nums9 (Rg.inf_wf HW.out); clear hown)
            | (go_at_call 80; (with_reducible refine (contains38 _ _ _ _ _ _ _ hnz).mono ?_); rintro e wz ⟨rfl, rfl⟩; rw [dm])
            | fail)
        have hb9 : Below w1.heap.size w1 wz := by assumption
        have HBW := Lib.hid (HBW.out.trans (hb9.mono HBW.out.size))
        go_wp2_with fail
        go_ret
        exact ⟨congrArg (fun b => Ending.returned (.int .i64 b)) HR.out.symm, HBW.out⟩
      · have dm : decide (of ∈ Rg.inf L) = false := decide_eq_false hof
        have HR := Lib.hid (show Rg.about L ⟨num, bef, 3, of, out, txt, link⟩ = 56 from Rg.about_wd HT4.out (by simp) (by simp) hof)
        go_region_held3 (fun w' => Below w1.heap.size w1 w')
          (first | assumption | (exact below_of_drawn 1) | (exact (Below.refl _ _).drew) | (exact below_drewN (by assumption) _) | (exact below_next28 (by assumption) (by assumption) (Below.size (by assumption))))
          (first
            | (go_at_call 76; (with_reducible refine (pinf38 A n c L _ (H1.out.keep (by assumption) (Below.size (by assumption))) hn HW.out).mono ?_); rintro e wz ⟨vz, rfl, hown, hbz⟩; obtain ⟨Az, Nz, cz, rfl, -, hnz⟩ := hown.nums9 (Rg.inf_wf HW.out); clear hown)
            | (go_at_call 80; (with_reducible refine (contains38 _ _ _ _ _ _ _ hnz).mono ?_); rintro e wz ⟨rfl, rfl⟩; rw [dm])
            | fail)
        have hb9 : Below w1.heap.size w1 wz := by assumption
        have HBW := Lib.hid (HBW.out.trans (hb9.mono HBW.out.size))
        go_wp2_with fail
        go_ret
        exact ⟨congrArg (fun b => Ending.returned (.int .i64 b)) HR.out.symm, HBW.out⟩
    · have HN := Lib.hid (show Rg.news L out = 0 by simpa using hb)
      clear hb hb1
      go_wp2_with fail
      have k2v : ∀ w', Below w1.heap.size w1 w' → w'.cell? ⟨w.heap.size, 2, none⟩ = some (.int .i64 3) := fun w' h9 => (h9.cell hlt1).trans k2
      have k3v : ∀ w', Below w1.heap.size w1 w' → w'.cell? ⟨w.heap.size, 3, none⟩ = some (.int .i64 of) := fun w' h9 => (h9.cell hlt1).trans k3
      clear k2 k3
      by_cases hof : of ∈ Rg.inf L
      · have dm : decide (of ∈ Rg.inf L) = true := decide_eq_true hof
        have HR := Lib.hid (show Rg.about L ⟨num, bef, 3, of, out, txt, link⟩ = _ from (Rg.about_three HT4.out rfl hof).trans HN.out)
        go_region_held3 (fun w' => Below w1.heap.size w1 w')
          (first | assumption | (exact below_of_drawn 1) | (exact (Below.refl _ _).drew) | (exact below_drewN (by assumption) _) | (exact below_next28 (by assumption) (by assumption) (Below.size (by assumption))))
          (first
            | (go_at_call 76; (with_reducible refine (pinf38 A n c L _ (H1.out.keep (by assumption) (Below.size (by assumption))) hn HW.out).mono ?_); rintro e wz ⟨vz, rfl, hown, hbz⟩; obtain ⟨Az, Nz, cz, rfl, -, hnz⟩ := hown.nums9 (Rg.inf_wf HW.out); clear hown)
            | (go_at_call 80; (with_reducible refine (contains38 _ _ _ _ _ _ _ hnz).mono ?_); rintro e wz ⟨rfl, rfl⟩; rw [dm])
            | fail)
        have hb9 : Below w1.heap.size w1 wz := by assumption
        have HBW := Lib.hid (HBW.out.trans (hb9.mono HBW.out.size))
        go_wp2_with fail
        go_ret
        exact ⟨congrArg (fun b => Ending.returned (.int .i64 b)) HR.out.symm, HBW.out⟩
      · have dm : decide (of ∈ Rg.inf L) = false := decide_eq_false hof
        have HR := Lib.hid (show Rg.about L ⟨num, bef, 3, of, out, txt, link⟩ = 56 from Rg.about_wd HT4.out (by simp) (by simp) hof)
        go_region_held3 (fun w' => Below w1.heap.size w1 w')
          (first | assumption | (exact below_of_drawn 1) | (exact (Below.refl _ _).drew) | (exact below_drewN (by assumption) _) | (exact below_next28 (by assumption) (by assumption) (Below.size (by assumption))))
          (first
            | (go_at_call 76; (with_reducible refine (pinf38 A n c L _ (H1.out.keep (by assumption) (Below.size (by assumption))) hn HW.out).mono ?_); rintro e wz ⟨vz, rfl, hown, hbz⟩; obtain ⟨Az, Nz, cz, rfl, -, hnz⟩ := hown.nums9 (Rg.inf_wf HW.out); clear hown)
            | (go_at_call 80; (with_reducible refine (contains38 _ _ _ _ _ _ _ hnz).mono ?_); rintro e wz ⟨rfl, rfl⟩; rw [dm])
            | fail)
        have hb9 : Below w1.heap.size w1 wz := by assumption
        have HBW := Lib.hid (HBW.out.trans (hb9.mono HBW.out.size))
        go_wp2_with fail
        go_ret
        exact ⟨congrArg (fun b => Ending.returned (.int .i64 b)) HR.out.symm, HBW.out⟩
end Go.Proofs.Ytojeendofpallaa
