/- Register: rows of entries; what is in force; the reference's inForce and has. -/
import Derived.Test.YtojeendofpallaaRga
import Derived.Deep.RegionHeld3
namespace Go.Proofs.Ytojeendofpallaa
open Go.RowKit
def Rg.En0 : Rg.En := ⟨0, 0, 0, 0, 0, ⟨#[]⟩, 0⟩
def Rg.infStep (ns : List Int) (x : Rg.En) : List Int := (if x.kind = 1 then ns else ns.filter (fun n => n != x.of)) ++ (if x.kind = 2 then [] else [x.num])
def Rg.inf (L : List Rg.En) : List Int := L.foldl Rg.infStep []
theorem Rg.inf_take {L : List Rg.En} {j : Nat} (hj : j < L.length) : Rg.inf (L.take (j + 1)) = Rg.infStep (Rg.inf (L.take j)) (L.getD j Rg.En0) := by
  unfold Rg.inf
  rw [List.take_succ_eq_append_getElem hj, List.foldl_append]
  simp [List.getD, hj]
theorem Rg.inf_snoc (L : List Rg.En) (x : Rg.En) : Rg.inf (L ++ [x]) = Rg.infStep (Rg.inf L) x := by simp [Rg.inf]
theorem Rg.inf_mem {n : Int} : ∀ (L : List Rg.En) (ns : List Int), n ∈ L.foldl Rg.infStep ns → n ∈ ns ∨ ∃ x ∈ L, n = x.num
  | [], _, h => .inl h
  | x :: L, ns, h => by
    rcases Rg.inf_mem L _ h with h | ⟨y, hy, e⟩
    · simp only [Rg.infStep, List.mem_append] at h
      rcases h with h | h
      · split at h
        · exact .inl h
        · exact .inl (List.mem_filter.1 h).1
      · split at h
        · simp at h
        · exact .inr ⟨x, by simp, by simpa using h⟩
    · exact .inr ⟨y, by simp [hy], e⟩
theorem Rg.inf_len : ∀ (L : List Rg.En) (ns : List Int), (L.foldl Rg.infStep ns).length ≤ ns.length + L.length
  | [], _ => by simp
  | x :: L, ns => by
    have h := Rg.inf_len L (Rg.infStep ns x)
    have h2 : (Rg.infStep ns x).length ≤ ns.length + 1 := by
      unfold Rg.infStep
      rw [List.length_append]
      have := List.length_filter_le (fun n => n != x.of) ns
      split <;> split <;> simp <;> omega
    simp only [List.foldl_cons, List.length_cons]
    omega
theorem Rg.inf_wf {L : List Rg.En} (h : ∀ x ∈ L, 0 ≤ x.num ∧ x.num ≤ 1000) : ∀ n ∈ Rg.inf L, (Lit.int .i64 n).wf = true := by
  intro n hn
  rcases Rg.inf_mem L [] hn with h1 | ⟨x, hx, rfl⟩
  · simp at h1
  · have := h x hx
    simp [Lit.wf, IntKind.min, IntKind.max, IntKind.bits, IntKind.signed]; omega
theorem Own.nums9 {w : World} {base : Nat} {e : TypeId} {k : IntKind} {v : Value} {l : List Int} (h : Own w base e k v l) (hw : ∀ x ∈ l, (Lit.int k x).wf = true) :
    ∃ A N c, v = .slice A N c ∧ Hid (N = l.length) ∧ Nums w k w.heap.size A N c l := by
  obtain ⟨A, c, hv, hn⟩ := h.nums hw
  exact ⟨A, _, c, hv, Lib.hid rfl, hn⟩
/-- a slice of entries that reads as a list -/
structure EnRow (w : World) (B : Nat) (A : Option Addr) (n c : Nat) (L : List Rg.En) : Prop where
  len : L.length = n
  cap : n ≤ c
  max : c ≤ maxLen
  cells : 0 < n → ∃ g, A = some ⟨g, 0, none⟩ ∧ g < B ∧ ∀ j, j < n → ∀ i v, (Rg.En.cells (L.getD j Rg.En0))[i]? = some v → w.cell? ⟨g, j * 7 + i, none⟩ = some v
  zero : A = none → c = 0
theorem EnRow.keep {w w' : World} {B B' : Nat} {A : Option Addr} {n c : Nat} {L : List Rg.En} (h : EnRow w B A n c L) (hb : Below B w w') (hB : B ≤ B') : EnRow w' B' A n c L :=
  ⟨h.len, h.cap, h.max, fun hn => by
    obtain ⟨g, e, hlt, hc⟩ := h.cells hn
    exact ⟨g, e, by omega, fun j hj i v hv => (hb.cell hlt).trans (hc j hj i v hv)⟩, h.zero⟩
theorem EnRow.val {w : World} {B : Nat} {A : Option Addr} {n c : Nat} {L : List Rg.En} (h : EnRow w B A n c L) {j : Nat} (hj : j < n) :
    ∃ (g : Nat) (num bef kind of out : Int) (txt : ByteArray) (link : Int), A = some ⟨g, 0, none⟩ ∧ Hid (L.getD j Rg.En0 = ⟨num, bef, kind, of, out, txt, link⟩ ∧ j < L.length ∧ g < B) ∧ w.cell? ⟨g, j * 7, none⟩ = some (.int .i64 num) ∧ w.cell? ⟨g, j * 7 + 1, none⟩ = some (.int .u64 bef) ∧ w.cell? ⟨g, j * 7 + 2, none⟩ = some (.int .i64 kind) ∧ w.cell? ⟨g, j * 7 + 3, none⟩ = some (.int .i64 of) ∧ w.cell? ⟨g, j * 7 + 4, none⟩ = some (.int .i64 out) ∧ w.cell? ⟨g, j * 7 + 5, none⟩ = some (.string txt) ∧ w.cell? ⟨g, j * 7 + 6, none⟩ = some (.int .u64 link) := by
  obtain ⟨g, e, hlt, hc⟩ := h.cells (by omega)
  exact ⟨g, _, _, _, _, _, _, _, e, ⟨rfl, by rw [h.len]; exact hj, hlt⟩, hc j hj 0 _ rfl, hc j hj 1 _ rfl, hc j hj 2 _ rfl, hc j hj 3 _ rfl, hc j hj 4 _ rfl, hc j hj 5 _ rfl, hc j hj 6 _ rfl⟩
theorem EnRow.first {w : World} {B : Nat} {A : Option Addr} {n c m : Nat} {L : List Rg.En} (h : EnRow w B A n c L) (hm : m ≤ n) : EnRow w B A m c (L.take m) :=
  ⟨by rw [List.length_take, h.len]; omega, by have := h.cap; omega, h.max, fun hn => by
    obtain ⟨g, e, hlt, hc⟩ := h.cells (by omega)
    refine ⟨g, e, hlt, fun j hj i v hv => hc j (by omega) i v ?_⟩
    rw [← hv]
    congr 2
    have h1 : j < L.length := by rw [h.len]; omega
    simp [List.getD, hj, h1], h.zero⟩
set_option maxRecDepth 100000 in
set_option maxHeartbeats 1600000 in
theorem rinf38 (A : Option Addr) (n c : Nat) (L : List Rg.En) (w : World) (h : EnRow w w.heap.size A n c L) (hn : n ≤ 100) (hw : ∀ x ∈ L, 0 ≤ x.num ∧ x.num ≤ 1000) :
    Calls Try.prog 77 #[.slice A n c] w fun e w' => ∃ v, e = .returned v ∧ Own w' w.heap.size 3 .i64 v (Rg.inf L) ∧ Below w.heap.size w w' := by
  have H := Lib.hid h
  have HL := Lib.hid h.len
  have HW := Lib.hid hw
  clear h hw
  go_enter Try.func77, Try.ntmps77
  go_wp2_with fail
  go_loopw [3, 11] (fun q i wr => ∃ j : Nat, j ≤ n ∧ i = .int .i64 j ∧ Hid (Own wr w.heap.size 3 .i64 q (Rg.inf (L.take j)) ∧ Below w.heap.size w wr)) (fun _ i _ => n - (intOf i).toNat)
  case atStart => exact ⟨0, by omega, rfl, Own.nil _ _ _ _, Below.refl _ _⟩
  case round =>
    rename World => Y
    obtain ⟨j, hj, rfl, HI⟩ := hrel
    by_cases hlt : j < n
    · obtain ⟨g, num, bef, kind, of, out, txt, link, rfl, HX, c0, c1, c2, c3, c4, c5, c6⟩ := (H.out.keep HI.out.2 HI.out.2.size).val hlt
      obtain ⟨l, hl⟩ : ∃ l, Rg.inf (L.take j) = l := ⟨_, rfl⟩
      have HE := Lib.hid (show Rg.inf (L.take (j + 1)) = (if kind = 1 then l else l.filter (fun n => n != of)) ++ (if kind = 2 then [] else [num]) by
        rw [Rg.inf_take HX.out.2.1, HX.out.1, hl]; rfl)
      have HLEN := Lib.hid (show l.length ≤ 100 by
        have := Rg.inf_len (L.take j) []
        rw [← hl]
        unfold Rg.inf
        rw [List.length_take] at this
        simp only [List.length_nil] at this
        omega)
      have HWF := Lib.hid (show ∀ x ∈ l, (Lit.int .i64 x).wf = true by
        rw [← hl]
        exact Rg.inf_wf (fun x hx => HW.out x (List.mem_of_mem_take hx)))
      rw [hl] at HI
      obtain ⟨Aq, Nq, cq, rfl, hNq, hnq⟩ := HI.out.1.nums9 HWF.out
      obtain ⟨Z, hZ⟩ : ∃ Z : World, Y.alloc (.cells #[.int .i64 num, .int .u64 bef, .int .i64 kind, .int .i64 of, .int .i64 out, .string txt, .int .u64 link] 60) = Z := ⟨_, rfl⟩
      have hbz : Below Y.heap.size Y Z := by rw [← hZ]; exact (Below.refl _ _).alloc (Nat.le_refl _) _
      have d0 : Z.cell? ⟨Y.heap.size, 0, none⟩ = some (.int .i64 num) := by rw [← hZ]; simp [go_sem]
      have d2 : Z.cell? ⟨Y.heap.size, 2, none⟩ = some (.int .i64 kind) := by rw [← hZ]; simp [go_sem]
      have d3 : Z.cell? ⟨Y.heap.size, 3, none⟩ = some (.int .i64 of) := by rw [← hZ]; simp [go_sem]
      have hsz : Y.heap.size < Z.heap.size := by rw [← hZ]; simp
      have HOZ := Lib.hid (HI.out.1.below hbz)
      have HBZ := Lib.hid (HI.out.2.trans (hbz.mono HI.out.2.size))
      have HNQ := Lib.hid (hnq.keep hbz hbz.size)
      clear hl hbz hnq
      by_cases hk : kind = 1
      · subst hk
        go_wp2_with (at_builtin; refine app_int _ rfl (.tmp 37) (.tmp 40) _ rfl w.heap.size 3 8 .i64 int_info28 Try.underlying22 _ _ rfl (HOZ.out.alloc _) num Z.heap.size rfl (by simp [go_sem]) (by have := HLEN.out; simp only [maxLen]; omega) (by have := HLEN.out; omega) (by have := HBZ.out.size; simp; omega) ?_; intro v' w' hown' hgrow)
        have hb2 : Below w.heap.size w w' := (HOZ.out.alloc _).grow (HBZ.out.alloc HBZ.out.size _) hgrow (by have := HBZ.out.size; simp; omega) (Nat.le_refl _)
        go_roundw
        case rel => exact ⟨j + 1, by omega, by go_num, by rw [HE.out]; exact hown', hb2⟩
        case measure => simp [intOf]; omega
      · have g1 : (kind != 1) = true := by simp [hk]
        have hN9 : Nq ≤ 100 := by rw [hNq.out]; exact HLEN.out
        go_wp2_with fail
        clear hZ
        go_loopw [6, 20] (fun q i wr => ∃ t : Nat, t ≤ Nq ∧ i = .int .i64 t ∧ Hid (Own wr Z.heap.size 3 .i64 q ((l.take t).filter (fun n => n != of)) ∧ Below Z.heap.size Z wr)) (fun _ i _ => Nq - (intOf i).toNat)
        case atStart => exact ⟨0, by omega, rfl, Own.nil _ _ _ _, Below.refl _ _⟩
        case round =>
          rename World => V
          obtain ⟨t, ht, rfl, HJ⟩ := hrel
          by_cases hlt2 : t < Nq
          · obtain ⟨ad, x, rfl, _, HX2, hx, _⟩ := (HNQ.out.keep HJ.out.2 HJ.out.2.size).val hlt2
            have d3 := (HJ.out.2.cell hsz).trans d3
            have HLL := Lib.hid (show ((l.take t).filter (fun n => n != of)).length ≤ 100 by
              have h1 := List.length_filter_le (fun n => n != of) (l.take t)
              rw [List.length_take] at h1
              have := HLEN.out
              omega)
            have HS := Lib.hid (show (l.take (t + 1)).filter (fun n => n != of) = (l.take t).filter (fun n => n != of) ++ (if x = of then [] else [x]) by
              rw [List.take_succ_eq_append_getElem HX2.out.2, List.filter_append]
              have e : l[t]'HX2.out.2 = x := by
                have h9 := HX2.out.1
                simp only [List.getD, List.getElem?_eq_getElem HX2.out.2, Option.getD_some] at h9
                exact h9
              rw [e]
              by_cases hxo : x = of <;> simp [hxo])
            by_cases hxo : x = of
            · subst hxo
              have g2 : (x != x) = false := by simp
              go_wp2_with fail
              go_roundw
              case rel => exact ⟨t + 1, by omega, by go_num, by rw [HS.out]; simpa using HJ.out.1, HJ.out.2⟩
              case measure => simp [intOf]; omega
            · have g2 : (x != of) = true := by simp [hxo]
              go_wp2_with (at_builtin; refine app_int _ rfl (.tmp 28) (.tmp 30) _ rfl Z.heap.size 3 8 .i64 int_info28 Try.underlying22 _ _ rfl (HJ.out.1.alloc _) x V.heap.size rfl (by simp [go_sem]) (by have := HLL.out; simp only [maxLen]; omega) (by have := HLL.out; omega) (by have := HJ.out.2.size; simp; omega) ?_; intro v' w' hown' hgrow)
              have hb2 : Below Z.heap.size Z w' := (HJ.out.1.alloc _).grow (HJ.out.2.alloc HJ.out.2.size _) hgrow (by have := HJ.out.2.size; simp; omega) (Nat.le_refl _)
              go_roundw
              case rel => exact ⟨t + 1, by omega, by go_num, by rw [HS.out, if_neg hxo]; exact hown', hb2⟩
              case measure => simp [intOf]; omega
          · obtain rfl : Nq = t := by omega
            have d0 := (HJ.out.2.cell hsz).trans d0
            have d2 := (HJ.out.2.cell hsz).trans d2
            have HF := Lib.hid (show (l.take Nq).filter (fun n => n != of) = l.filter (fun n => n != of) by rw [hNq.out, List.take_length])
            have HLL := Lib.hid (show (l.filter (fun n => n != of)).length ≤ 100 by
              have h1 := List.length_filter_le (fun n => n != of) l
              have := HLEN.out
              omega)
            have HOV := Lib.hid (show Own V w.heap.size 3 .i64 _ (l.filter (fun n => n != of)) by rw [← HF.out]; exact HJ.out.1.base_le HBZ.out.size)
            have HBV := Lib.hid (HBZ.out.trans (HJ.out.2.mono HBZ.out.size))
            by_cases hk2 : kind = 2
            · subst hk2
              go_wp2_with fail
              go_roundw
              case rel => exact ⟨j + 1, by omega, by go_num, by rw [HE.out]; simpa using HOV.out, HBV.out⟩
              case measure => simp [intOf]; omega
            · have g3 : (kind != 2) = true := by simp [hk2]
              go_wp2_with (at_builtin; refine app_int _ rfl (.tmp 37) (.tmp 40) _ rfl w.heap.size 3 8 .i64 int_info28 Try.underlying22 _ _ rfl (HOV.out.alloc _) num V.heap.size rfl (by simp [go_sem]) (by have := HLL.out; simp only [maxLen]; omega) (by have := HLL.out; omega) (by have := HBV.out.size; simp; omega) ?_; intro v' w' hown' hgrow)
              have hb2 : Below w.heap.size w w' := (HOV.out.alloc _).grow (HBV.out.alloc HBV.out.size _) hgrow (by have := HBV.out.size; simp; omega) (Nat.le_refl _)
              go_roundw
              case rel => exact ⟨j + 1, by omega, by go_num, by rw [HE.out, if_neg hk, if_neg hk2]; exact hown', hb2⟩
              case measure => simp [intOf]; omega
    · obtain rfl : n = j := by omega
      have HE := Lib.hid (show Rg.inf (L.take n) = Rg.inf L by rw [List.take_of_length_le (by rw [HL.out]; omega)])
      go_wp2_with fail
      go_ret
      exact ⟨_, rfl, by rw [← HE.out]; exact HI.out.1, HI.out.2⟩
end Go.Proofs.Ytojeendofpallaa
/- Register: the reference's has and about. -/
namespace Go.Proofs.Ytojeendofpallaa
open Go.RowKit
theorem below_next28 {W w w' : World} (h : Below W.heap.size W w) (h' : Below w.heap.size w w') (hs : W.heap.size ≤ w.heap.size) : Below W.heap.size W w' := h.trans (h'.mono hs)
set_option maxHeartbeats 400000 in
theorem rhas38 (A : Option Addr) (n c : Nat) (l : List Int) (x : Int) (B : Nat) (w : World) (h : Nums w .i64 B A n c l) :
    Calls Try.prog 85 #[.slice A n c, .int .i64 x] w fun e w' => e = .returned (.bool (decide (x ∈ l))) ∧ w = w' := by
  have hm : n ≤ 9223372036854775807 := by have := h.cap; have := h.max; unfold maxLen at this; omega
  have H := Lib.hid h
  have HL := Lib.hid h.len
  clear h
  go_enter Try.func85, Try.ntmps85
  go_wp2_with fail
  go_loop [9] (fun i => ∃ j : Nat, j ≤ n ∧ i = .int .i64 j ∧ Hid (x ∉ l.take j)) (fun i => n - (intOf i).toNat)
  case atStart => exact ⟨0, by omega, rfl, by show x ∉ l.take 0; simp⟩
  case round =>
    obtain ⟨j, hj, rfl, HI⟩ := hrel
    by_cases hlt : j < n
    · obtain ⟨ad, y, rfl, _, HY, hy, _⟩ := H.out.val hlt
      have HS := Lib.hid (show l.take (j + 1) = l.take j ++ [y] by
        rw [List.take_succ_eq_append_getElem HY.out.2]
        have h9 := HY.out.1
        simp only [List.getD, List.getElem?_eq_getElem HY.out.2, Option.getD_some] at h9
        rw [h9])
      by_cases hxy : y = x
      · subst hxy
        have g1 : (y == y) = true := by simp
        have HM := Lib.hid (show decide (y ∈ l) = true from decide_eq_true (List.mem_of_mem_take (i := j + 1) (by rw [HS.out]; simp)))
        go_wp2_with fail
        go_ret
        exact ⟨congrArg (fun b => Ending.returned (.bool b)) HM.out.symm, rfl⟩
      · have g1 : (y == x) = false := by simp [hxy]
        go_wp2_with fail
        go_round
        case rel => exact ⟨j + 1, by omega, by go_num, by
          show x ∉ l.take (j + 1)
          rw [HS.out, List.mem_append]
          rintro (h | h)
          · exact HI.out h
          · exact hxy (by simpa using (List.mem_singleton.1 h).symm)⟩
        case measure => simp [intOf]; omega
    · obtain rfl : n = j := by omega
      have HM := Lib.hid (show decide (x ∈ l) = false from decide_eq_false (by have := HI.out; rwa [List.take_of_length_le (by rw [HL.out]; omega)] at this))
      go_wp2_with fail
      go_ret
      exact ⟨congrArg (fun b => Ending.returned (.bool b)) HM.out.symm, rfl⟩
def Rg.news (L : List Rg.En) (o : Int) : Int := if o < 1 ∨ 40 < o then 11 else if ∃ y ∈ L, y.out = o then 11 else 0
/-- the first error of an entry behind others -/
def Rg.about (L : List Rg.En) (x : Rg.En) : Int :=
  if 4096 < x.txt.size then 1
  else if x.kind < 1 ∨ 3 < x.kind then 4
  else if x.kind ≠ 1 ∧ x.of ∉ Rg.inf L then 56
  else if x.kind = 1 ∧ x.of ≠ 0 then 11
  else if x.kind = 2 then (if x.out = 0 ∧ x.txt.toList.isEmpty = true then 0 else 11)
  else Rg.news L x.out
set_option maxRecDepth 100000 in
set_option maxHeartbeats 3200000 in
theorem rabout38 (A : Option Addr) (n c : Nat) (L : List Rg.En) (num bef kind of out link : Int) (txt : ByteArray) (w : World) (h : EnRow w w.heap.size A n c L) (hn : n ≤ 100) (hw : ∀ x ∈ L, 0 ≤ x.num ∧ x.num ≤ 1000) (ht : txt.size ≤ 1000000) :
    Calls Try.prog 75 #[.slice A n c, .agg #[.int .i64 num, .int .u64 bef, .int .i64 kind, .int .i64 of, .int .i64 out, .string txt, .int .u64 link]] w fun e w' => e = .returned (.int .i64 (Rg.about L ⟨num, bef, kind, of, out, txt, link⟩)) ∧ Below w.heap.size w w' := by
  obtain ⟨W, hW⟩ : ∃ W : World, w.alloc (.cells #[.int .i64 num, .int .u64 bef, .int .i64 kind, .int .i64 of, .int .i64 out, .string txt, .int .u64 link] 60) = W := ⟨_, rfl⟩
  have hb : Below w.heap.size w W := by rw [← hW]; exact (Below.refl _ _).alloc (Nat.le_refl _) _
  have hlt : w.heap.size < W.heap.size := by rw [← hW]; simp
  have k2 : W.cell? ⟨w.heap.size, 2, none⟩ = some (.int .i64 kind) := by rw [← hW]; simp [go_sem]
  have k3 : W.cell? ⟨w.heap.size, 3, none⟩ = some (.int .i64 of) := by rw [← hW]; simp [go_sem]
  have k4 : W.cell? ⟨w.heap.size, 4, none⟩ = some (.int .i64 out) := by rw [← hW]; simp [go_sem]
  have k5 : W.cell? ⟨w.heap.size, 5, none⟩ = some (.string txt) := by rw [← hW]; simp [go_sem]
  have H := Lib.hid (h.keep hb hb.size)
  have HB := Lib.hid hb
  have HW := Lib.hid hw
  clear h hb hw
  by_cases ht4 : 4096 < txt.size
  · have HR := Lib.hid (show Rg.about L ⟨num, bef, kind, of, out, txt, link⟩ = 1 by
      unfold Rg.about
      simp only
      rw [if_pos ht4])
    go_enter Try.func75, Try.ntmps75
    go_wp2_with fail
    go_ret
    exact ⟨congrArg (fun b => Ending.returned (.int .i64 b)) HR.out.symm, HB.out⟩
  by_cases hk : kind < 1 ∨ 3 < kind
  · have HR := Lib.hid (show Rg.about L ⟨num, bef, kind, of, out, txt, link⟩ = 4 by
      unfold Rg.about
      simp only
      rw [if_neg ht4, if_pos hk])
    go_enter Try.func75, Try.ntmps75
    rcases hk with hk | hk
    · go_wp2_with fail
      go_ret
      exact ⟨congrArg (fun b => Ending.returned (.int .i64 b)) HR.out.symm, HB.out⟩
    · have g1 : decide (kind < 1) = false := by simp; omega
      go_wp2_with fail
      go_ret
      exact ⟨congrArg (fun b => Ending.returned (.int .i64 b)) HR.out.symm, HB.out⟩
  have t4 : decide (4096 < (txt.size : Int)) = false := by simp; omega
  have g1 : decide (kind < 1) = false := by simp; omega
  have g2 : decide (3 < kind) = false := by simp; omega
  have HK := Lib.hid hk
  have HT4 := Lib.hid ht4
  have HT := Lib.hid ht
  clear hk ht4 ht
  go_enter Try.func75, Try.ntmps75
  by_cases hk1 : kind = 1
  · subst hk1
    by_cases hof : of = 0
    · subst hof
      have HR := Lib.hid (show Rg.about L ⟨num, bef, 1, 0, out, txt, link⟩ = Rg.news L out by
        unfold Rg.about
        simp only
        rw [if_neg HT4.out, if_neg (by omega), if_neg (by simp), if_neg (by simp), if_neg (by omega)])
      by_cases ho1 : out < 1
      · have HN := Lib.hid (show Rg.news L out = 11 by unfold Rg.news; rw [if_pos (.inl ho1)])
        go_wp2_with fail
        go_quiet (fail)
        go_wp2_with fail
        go_ret
        exact ⟨congrArg (fun b => Ending.returned (.int .i64 b)) (HR.out.trans HN.out).symm, below_drewN HB.out _⟩
      have o1 : decide (out < 1) = false := by simp; omega
      by_cases ho2 : 40 < out
      · have HN := Lib.hid (show Rg.news L out = 11 by unfold Rg.news; rw [if_pos (.inr ho2)])
        go_wp2_with fail
        go_quiet (fail)
        go_wp2_with fail
        go_ret
        exact ⟨congrArg (fun b => Ending.returned (.int .i64 b)) (HR.out.trans HN.out).symm, below_drewN HB.out _⟩
      have o2 : decide (40 < out) = false := by simp; omega
      go_wp2_with fail
      go_quiet (fail)
      go_wp2_with fail
      go_loopw [62] (fun i wr => ∃ j : Nat, j ≤ n ∧ i = .int .i64 j ∧ Hid (Below W.heap.size W wr ∧ ∀ y ∈ L.take j, y.out ≠ out)) (fun i _ => n - (intOf i).toNat)
      case atStart => exact ⟨0, by omega, rfl, below_drewN (Below.refl _ _) _, by simp⟩
      case round =>
        rename World => Y
        obtain ⟨j, hj, rfl, HI⟩ := hrel
        by_cases hlt2 : j < n
        · obtain ⟨g, num2, bef2, kind2, of2, out2, txt2, link2, rfl, HX, c0, c1, c2, c3, c4, c5, c6⟩ := (H.out.keep HI.out.1 HI.out.1.size).val hlt2
          have k4 := (HI.out.1.cell hlt).trans k4
          have HS := Lib.hid (show L.take (j + 1) = L.take j ++ [⟨num2, bef2, kind2, of2, out2, txt2, link2⟩] by
            rw [List.take_succ_eq_append_getElem HX.out.2.1]
            have h9 := HX.out.1
            simp only [List.getD, List.getElem?_eq_getElem HX.out.2.1, Option.getD_some] at h9
            rw [h9])
          obtain ⟨Z, hZ⟩ : ∃ Z : World, Y.alloc (.cells #[.int .i64 num2, .int .u64 bef2, .int .i64 kind2, .int .i64 of2, .int .i64 out2, .string txt2, .int .u64 link2] 60) = Z := ⟨_, rfl⟩
          have d4 : Z.cell? ⟨Y.heap.size, 4, none⟩ = some (.int .i64 out2) := by rw [← hZ]; simp [go_sem]
          have hbz : Below Y.heap.size Y Z := by rw [← hZ]; exact (Below.refl _ _).alloc (Nat.le_refl _) _
          have k4z := (hbz.cell (Nat.lt_of_lt_of_le hlt HI.out.1.size)).trans k4
          have HBZ := Lib.hid (HI.out.1.trans (hbz.mono HI.out.1.size))
          clear hbz
          by_cases hoo : out2 = out
          · subst hoo
            have g9 : (out2 == out2) = true := by simp
            have HN := Lib.hid (show Rg.news L out2 = 11 by
              unfold Rg.news
              rw [if_neg (by omega), if_pos ⟨⟨num2, bef2, kind2, of2, out2, txt2, link2⟩, List.mem_of_mem_take (i := j + 1) (by rw [HS.out]; simp), rfl⟩])
            go_wp2_with fail
            go_ret
            exact ⟨congrArg (fun b => Ending.returned (.int .i64 b)) (HR.out.trans HN.out).symm, HB.out.trans (HBZ.out.mono HB.out.size)⟩
          · have g9 : (out2 == out) = false := by simp [hoo]
            go_wp2_with fail
            go_roundw
            case rel => exact ⟨j + 1, by omega, by go_num, HBZ.out, by
              rw [HS.out]
              intro y hy
              rcases List.mem_append.1 hy with h | h
              · exact HI.out.2 y h
              · rw [List.mem_singleton.1 h]; exact hoo⟩
            case measure => simp [intOf]; omega
        · obtain rfl : n = j := by omega
          have HN := Lib.hid (show Rg.news L out = 0 by
            unfold Rg.news
            rw [if_neg (by omega), if_neg]
            rintro ⟨y, hy, e⟩
            exact HI.out.2 y (by rw [List.take_of_length_le (by rw [H.out.len]; omega)]; exact hy) e)
          go_wp2_with fail
          go_ret
          exact ⟨congrArg (fun b => Ending.returned (.int .i64 b)) (HR.out.trans HN.out).symm, HB.out.trans (HI.out.1.mono HB.out.size)⟩
    · have HR := Lib.hid (show Rg.about L ⟨num, bef, 1, of, out, txt, link⟩ = 11 by
        unfold Rg.about
        simp only
        rw [if_neg HT4.out, if_neg (by omega), if_neg (by simp), if_pos (by simpa using hof)])
      have g3 : (of != 0) = true := by simp [hof]
      go_wp2_with fail
      go_quiet (fail)
      go_wp2_with fail
      go_ret
      exact ⟨congrArg (fun b => Ending.returned (.int .i64 b)) HR.out.symm, below_drewN HB.out _⟩
  · have g4 : (kind == 1) = false := by simp [hk1]
    have g5 : (kind != 1) = true := by simp [hk1]
    have k2v : ∀ w', Below W.heap.size W w' → w'.cell? ⟨w.heap.size, 2, none⟩ = some (.int .i64 kind) := fun w' h9 => (h9.cell hlt).trans k2
    have k3v : ∀ w', Below W.heap.size W w' → w'.cell? ⟨w.heap.size, 3, none⟩ = some (.int .i64 of) := fun w' h9 => (h9.cell hlt).trans k3
    have HK4 := Lib.hid (And.intro k2 (And.intro k3 (And.intro k4 k5)))
    go_wp2_with fail
    clear k2 k3 k4 k5
    by_cases hof : of ∈ Rg.inf L
    · have dm : decide (of ∈ Rg.inf L) = true := decide_eq_true hof
      go_region_held3 (fun w' => Below W.heap.size W w')
        (first | assumption | (exact below_of_drawn 1) | (exact (Below.refl _ _).drew) | (exact below_drewN (by assumption) _) | (exact below_next28 (by assumption) (by assumption) (Below.size (by assumption))))
        (first
          | (go_at_call 77; (with_reducible refine (rinf38 A n c L _ (H.out.keep (by assumption) (Below.size (by assumption))) hn HW.out).mono ?_); rintro e wz ⟨vz, rfl, hown, hbz⟩; obtain ⟨Az, Nz, cz, rfl, -, hnz⟩ := hown.nums9 (Rg.inf_wf HW.out); clear hown)
          | (go_at_call 85; (with_reducible refine (rhas38 _ _ _ _ _ _ _ hnz).mono ?_); rintro e wz ⟨rfl, rfl⟩; rw [dm])
          | fail)
      have hb9 : Below W.heap.size W wz := by assumption
      have k2 := k2v wz hb9
      have k3 := k3v wz hb9
      have k4 := (hb9.cell hlt).trans HK4.out.2.2.1
      have k5 := (hb9.cell hlt).trans HK4.out.2.2.2
      have HBW := Lib.hid (HB.out.trans (hb9.mono HB.out.size))
      have H0 := Lib.hid (H.out.keep hb9 hb9.size)
      have hlt0 := hlt
      replace hlt := Nat.lt_of_lt_of_le hlt hb9.size
      clear k2v k3v hb9
      by_cases hk2 : kind = 2
      · subst hk2
        by_cases ho : out = 0
        · subst ho
          by_cases htx : txt.toList.isEmpty = true
          · have HR := Lib.hid (show Rg.about L ⟨num, bef, 2, of, 0, txt, link⟩ = 0 by
              unfold Rg.about
              simp only
              rw [if_neg HT4.out, if_neg (by omega), if_neg (by simpa using hof), if_neg (by omega), if_pos trivial, if_pos ⟨trivial, htx⟩])
            go_wp2_with fail
            go_ret
            exact ⟨congrArg (fun b => Ending.returned (.int .i64 b)) HR.out.symm, HBW.out⟩
          · have g7 : txt.toList.isEmpty = false := by simpa using htx
            have HR := Lib.hid (show Rg.about L ⟨num, bef, 2, of, 0, txt, link⟩ = 11 by
              unfold Rg.about
              simp only
              rw [if_neg HT4.out, if_neg (by omega), if_neg (by simpa using hof), if_neg (by omega), if_pos trivial, if_neg (fun h => htx h.2)])
            go_wp2_with fail
            go_ret
            exact ⟨congrArg (fun b => Ending.returned (.int .i64 b)) HR.out.symm, HBW.out⟩
        · have g7 : (out != 0) = true := by simp [ho]
          have HR := Lib.hid (show Rg.about L ⟨num, bef, 2, of, out, txt, link⟩ = 11 by
            unfold Rg.about
            simp only
            rw [if_neg HT4.out, if_neg (by omega), if_neg (by simpa using hof), if_neg (by omega), if_pos trivial, if_neg (fun h => ho h.1)])
          go_wp2_with fail
          go_ret
          exact ⟨congrArg (fun b => Ending.returned (.int .i64 b)) HR.out.symm, HBW.out⟩
      · obtain rfl : kind = 3 := by have := HK.out; omega
        have HR := Lib.hid (show Rg.about L ⟨num, bef, 3, of, out, txt, link⟩ = Rg.news L out by
          unfold Rg.about
          simp only
          rw [if_neg HT4.out, if_neg (by omega), if_neg (by simpa using hof), if_neg (by omega), if_neg (by omega)])
        by_cases ho1 : out < 1
        · have HN := Lib.hid (show Rg.news L out = 11 by unfold Rg.news; rw [if_pos (.inl ho1)])
          go_wp2_with fail
          go_ret
          exact ⟨congrArg (fun b => Ending.returned (.int .i64 b)) (HR.out.trans HN.out).symm, HBW.out⟩
        have o1 : decide (out < 1) = false := by simp; omega
        by_cases ho2 : 40 < out
        · have HN := Lib.hid (show Rg.news L out = 11 by unfold Rg.news; rw [if_pos (.inr ho2)])
          go_wp2_with fail
          go_ret
          exact ⟨congrArg (fun b => Ending.returned (.int .i64 b)) (HR.out.trans HN.out).symm, HBW.out⟩
        have o2 : decide (40 < out) = false := by simp; omega
        go_wp2_with fail
        go_loopw [62] (fun i wr => ∃ j : Nat, j ≤ n ∧ i = .int .i64 j ∧ Hid (Below wz.heap.size wz wr ∧ ∀ y ∈ L.take j, y.out ≠ out)) (fun i _ => n - (intOf i).toNat)
        case atStart => exact ⟨0, by omega, rfl, Below.refl _ _, by simp⟩
        case round =>
          rename World => Y
          obtain ⟨j, hj, rfl, HI⟩ := hrel
          by_cases hlt2 : j < n
          · obtain ⟨g, num2, bef2, kind2, of2, out2, txt2, link2, rfl, HX, c0, c1, c2, c3, c4, c5, c6⟩ := (H0.out.keep HI.out.1 HI.out.1.size).val hlt2
            have k4 := (HI.out.1.cell hlt).trans k4
            have HS := Lib.hid (show L.take (j + 1) = L.take j ++ [⟨num2, bef2, kind2, of2, out2, txt2, link2⟩] by
              rw [List.take_succ_eq_append_getElem HX.out.2.1]
              have h9 := HX.out.1
              simp only [List.getD, List.getElem?_eq_getElem HX.out.2.1, Option.getD_some] at h9
              rw [h9])
            obtain ⟨Z, hZ⟩ : ∃ Z : World, Y.alloc (.cells #[.int .i64 num2, .int .u64 bef2, .int .i64 kind2, .int .i64 of2, .int .i64 out2, .string txt2, .int .u64 link2] 60) = Z := ⟨_, rfl⟩
            have d4 : Z.cell? ⟨Y.heap.size, 4, none⟩ = some (.int .i64 out2) := by rw [← hZ]; simp [go_sem]
            have hbz : Below Y.heap.size Y Z := by rw [← hZ]; exact (Below.refl _ _).alloc (Nat.le_refl _) _
            have k4z := (hbz.cell (Nat.lt_of_lt_of_le hlt HI.out.1.size)).trans k4
            have HBZ := Lib.hid (HI.out.1.trans (hbz.mono HI.out.1.size))
            clear hbz
            by_cases hoo : out2 = out
            · subst hoo
              have g9 : (out2 == out2) = true := by simp
              have HN := Lib.hid (show Rg.news L out2 = 11 by
                unfold Rg.news
                rw [if_neg (by omega), if_pos ⟨⟨num2, bef2, kind2, of2, out2, txt2, link2⟩, List.mem_of_mem_take (i := j + 1) (by rw [HS.out]; simp), rfl⟩])
              go_wp2_with fail
              go_ret
              exact ⟨congrArg (fun b => Ending.returned (.int .i64 b)) (HR.out.trans HN.out).symm, HBW.out.trans (HBZ.out.mono HBW.out.size)⟩
            · have g9 : (out2 == out) = false := by simp [hoo]
              go_wp2_with fail
              go_roundw
              case rel => exact ⟨j + 1, by omega, by go_num, HBZ.out, by
                rw [HS.out]
                intro y hy
                rcases List.mem_append.1 hy with h | h
                · exact HI.out.2 y h
                · rw [List.mem_singleton.1 h]; exact hoo⟩
              case measure => simp [intOf]; omega
          · obtain rfl : n = j := by omega
            have HN := Lib.hid (show Rg.news L out = 0 by
              unfold Rg.news
              rw [if_neg (by omega), if_neg]
              rintro ⟨y, hy, e⟩
              exact HI.out.2 y (by rw [List.take_of_length_le (by rw [H0.out.len]; omega)]; exact hy) e)
            go_wp2_with fail
            go_ret
            exact ⟨congrArg (fun b => Ending.returned (.int .i64 b)) (HR.out.trans HN.out).symm, HBW.out.trans (HI.out.1.mono HBW.out.size)⟩
    · have HR := Lib.hid (show Rg.about L ⟨num, bef, kind, of, out, txt, link⟩ = 56 by
        unfold Rg.about
        simp only
        rw [if_neg HT4.out, if_neg HK.out, if_pos ⟨hk1, hof⟩])
      have dm : decide (of ∈ Rg.inf L) = false := decide_eq_false hof
      go_region_held3 (fun w' => Below W.heap.size W w')
        (first | assumption | (exact below_of_drawn 1) | (exact (Below.refl _ _).drew) | (exact below_drewN (by assumption) _) | (exact below_next28 (by assumption) (by assumption) (Below.size (by assumption))))
        (first
          | (go_at_call 77; (with_reducible refine (rinf38 A n c L _ (H.out.keep (by assumption) (Below.size (by assumption))) hn HW.out).mono ?_); rintro e wz ⟨vz, rfl, hown, hbz⟩; obtain ⟨Az, Nz, cz, rfl, -, hnz⟩ := hown.nums9 (Rg.inf_wf HW.out); clear hown)
          | (go_at_call 85; (with_reducible refine (rhas38 _ _ _ _ _ _ _ hnz).mono ?_); rintro e wz ⟨rfl, rfl⟩; rw [dm])
          | fail)
      all_goals
        have hb9 : Below W.heap.size W wz := by assumption
        go_wp2_with fail
        go_ret
        exact ⟨congrArg (fun b => Ending.returned (.int .i64 b)) HR.out.symm, HB.out.trans (hb9.mono HB.out.size)⟩
end Go.Proofs.Ytojeendofpallaa
/- Register: what is a register; the reference's Check. -/
namespace Go.Proofs.Ytojeendofpallaa
open Go.RowKit
namespace Rg
def before (L : List En) (j : Nat) : Int := if j = 0 then 0 else (L.getD (j - 1) En0).link
structure Reg (L : List En) : Prop where
  few : L.length ≤ 60
  num : ∀ j, j < L.length → (L.getD j En0).num = j + 1
  bef : ∀ j, j < L.length → (L.getD j En0).bef = before L j
  lnk : ∀ j, j < L.length → (L.getD j En0).link = Rg.lnk (L.getD j En0).num (L.getD j En0).bef (L.getD j En0).kind (L.getD j En0).of (L.getD j En0).out (L.getD j En0).txt
  abt : ∀ j, j < L.length → about (L.take j) (L.getD j En0) = 0
theorem fnv_bd (l : List Int) : 0 ≤ fnv l ∧ fnv l ≤ 18446744073709551615 := by
  unfold fnv
  rcases List.eq_nil_or_concat l with rfl | ⟨l', x, rfl⟩
  · simp
  · rw [List.concat_eq_append, List.foldl_append]
    simp only [List.foldl_cons, List.foldl_nil, step, IntKind.wrap, IntKind.bits, IntKind.signed]
    simp
    omega
theorem lnk_bd (a b c d e : Int) (t : ByteArray) : 0 ≤ Rg.lnk a b c d e t ∧ Rg.lnk a b c d e t ≤ 18446744073709551615 := fnv_bd _
theorem mem_getD {L : List En} {x : En} (h : x ∈ L) : ∃ j, j < L.length ∧ L.getD j En0 = x := by
  obtain ⟨j, hj, rfl⟩ := List.mem_iff_getElem.1 h
  exact ⟨j, hj, by simp [List.getD, hj]⟩
theorem Reg.nums {L : List En} (h : Reg L) : ∀ x ∈ L, 0 ≤ x.num ∧ x.num ≤ 1000 := fun x hx => by
  obtain ⟨j, hj, rfl⟩ := mem_getD hx
  have := h.num j hj
  have := h.few
  omega
theorem about_ok {L : List En} {x : En} (h : about L x = 0) (hL : ∀ y ∈ L, 0 ≤ y.num ∧ y.num ≤ 1000) : x.txt.size ≤ 4096 ∧ (1 ≤ x.kind ∧ x.kind ≤ 3) ∧ (0 ≤ x.of ∧ x.of ≤ 1000) ∧ (0 ≤ x.out ∧ x.out ≤ 40) := by
  unfold about at h
  split at h
  · omega
  · split at h
    · omega
    · split at h
      · omega
      · rename_i h1 h2 h3
        have hof : x.kind ≠ 1 → x.of ∈ inf L := fun hk => Decidable.byContradiction fun hn => h3 ⟨hk, hn⟩
        have hofb : x.kind ≠ 1 → 0 ≤ x.of ∧ x.of ≤ 1000 := fun hk => by
          rcases inf_mem L [] (hof hk) with h9 | ⟨y, hy, e⟩
          · simp at h9
          · rw [e]; exact hL y hy
        split at h
        · omega
        · rename_i h4
          split at h
          · split at h
            · rename_i h5 h6
              have := hofb (by omega)
              omega
            · omega
          · rename_i h5
            unfold news at h
            split at h
            · omega
            · rename_i h6
              by_cases hk : x.kind = 1
              · have : x.of = 0 := Decidable.byContradiction fun hn => h4 ⟨hk, hn⟩
                omega
              · have := hofb hk
                omega
theorem before_bd {L : List En} (h : Reg L) {j : Nat} (hj : j < L.length) : 0 ≤ before L j ∧ before L j ≤ 18446744073709551615 := by
  unfold before
  split
  · omega
  · rw [h.lnk (j - 1) (by omega)]
    exact lnk_bd _ _ _ _ _ _
theorem Reg.small {L : List En} (h : Reg L) {j : Nat} (hj : j < L.length) : Small (L.getD j En0) := by
  have h1 := about_ok (h.abt j hj) (fun y hy => h.nums y (List.mem_of_mem_take hy))
  have h2 := h.num j hj
  have h3 := h.few
  have h4 := before_bd h hj
  rw [← h.bef j hj] at h4
  exact ⟨by omega, by omega, by omega, by omega, by omega, h4⟩
end Rg
set_option maxRecDepth 100000 in
set_option maxHeartbeats 1600000 in
theorem rcheck38 (A : Option Addr) (n c : Nat) (L : List Rg.En) (w : World) (h : EnRow w w.heap.size A n c L) (hr : Rg.Reg L) :
    Calls Try.prog 45 #[.slice A n c] w fun e w' => e = .returned (.int .i64 0) ∧ Below w.heap.size w w' := by
  have hn : n ≤ 60 := by rw [← h.len]; exact hr.few
  have H := Lib.hid h
  have HL := Lib.hid h.len
  have HR := Lib.hid hr
  clear h hr
  go_enter Try.func45, Try.ntmps45
  have g60 : decide (60 < (n : Int)) = false := by simp; omega
  go_wp2_with fail
  go_loopw [3, 12] (fun b i wr => ∃ j : Nat, j ≤ n ∧ i = .int .i64 j ∧ b = .int .u64 (Rg.before L j) ∧ Hid (Below w.heap.size w wr)) (fun _ i _ => n - (intOf i).toNat)
  case atStart => exact ⟨0, by omega, rfl, rfl, Below.refl _ _⟩
  case round =>
    rename World => Y
    obtain ⟨j, hj, rfl, rfl, HI⟩ := hrel
    by_cases hlt : j < n
    · obtain ⟨g, num, bef, kind, of, out, txt, link, rfl, HX, c0, c1, c2, c3, c4, c5, c6⟩ := (H.out.keep HI.out HI.out.size).val hlt
      have hjl : j < L.length := by rw [HL.out]; exact hlt
      have r1 := HR.out.num j hjl
      have r2 := HR.out.bef j hjl
      have r3 := HR.out.lnk j hjl
      have r4 := HR.out.abt j hjl
      have r5 := HR.out.small hjl
      rw [HX.out.1] at r1 r2 r3 r4 r5
      simp only at r1 r2 r3 r4
      have HE := Lib.hid (show Rg.before L (j + 1) = link by
        unfold Rg.before
        rw [if_neg (by omega), show j + 1 - 1 = j by omega, HX.out.1])
      have HA := Lib.hid r4
      have HSM := Lib.hid r5
      have HF := Lib.hid ((H.out.keep HI.out HI.out.size).first (m := j) (by omega))
      have HNM := Lib.hid (show ∀ x ∈ L.take j, 0 ≤ x.num ∧ x.num ≤ 1000 from fun x hx => HR.out.nums x (List.mem_of_mem_take hx))
      rw [← r2]
      clear r2 r4 r5
      subst r3
      subst r1
      obtain ⟨lk, hlk⟩ : ∃ lk, Rg.lnk ((j : Int) + 1) bef kind of out txt = lk := ⟨_, rfl⟩
      have HLK := Lib.hid hlk
      rw [hlk] at c6 HE HA HSM
      obtain ⟨Z, hZ⟩ : ∃ Z : World, Y.alloc (.cells #[.int .i64 ((j : Int) + 1), .int .u64 bef, .int .i64 kind, .int .i64 of, .int .i64 out, .string txt, .int .u64 lk] 60) = Z := ⟨_, rfl⟩
      have hbz : Below Y.heap.size Y Z := by rw [← hZ]; exact (Below.refl _ _).alloc (Nat.le_refl _) _
      have hsz : Y.heap.size < Z.heap.size := by rw [← hZ]; simp
      have d0 : Z.cell? ⟨Y.heap.size, 0, none⟩ = some (.int .i64 ((j : Int) + 1)) := by rw [← hZ]; simp [go_sem]
      have d1 : Z.cell? ⟨Y.heap.size, 1, none⟩ = some (.int .u64 bef) := by rw [← hZ]; simp [go_sem]
      have d2 : Z.cell? ⟨Y.heap.size, 2, none⟩ = some (.int .i64 kind) := by rw [← hZ]; simp [go_sem]
      have d3 : Z.cell? ⟨Y.heap.size, 3, none⟩ = some (.int .i64 of) := by rw [← hZ]; simp [go_sem]
      have d4 : Z.cell? ⟨Y.heap.size, 4, none⟩ = some (.int .i64 out) := by rw [← hZ]; simp [go_sem]
      have d5 : Z.cell? ⟨Y.heap.size, 5, none⟩ = some (.string txt) := by rw [← hZ]; simp [go_sem]
      have d6 : Z.cell? ⟨Y.heap.size, 6, none⟩ = some (.int .u64 lk) := by rw [← hZ]; simp [go_sem]
      have HFZ := Lib.hid (HF.out.keep hbz hbz.size)
      have HBZ := Lib.hid (HI.out.trans (hbz.mono HI.out.size))
      clear hbz hlk
      go_wp2_with fail
      clear hZ c0 c1 c2 c3 c4 c5 c6
      have v0 : ∀ w', Below Z.heap.size Z w' → w'.cell? ⟨Y.heap.size, 0, none⟩ = some (.int .i64 ((j : Int) + 1)) := fun w' h9 => (h9.cell hsz).trans d0
      have v1 : ∀ w', Below Z.heap.size Z w' → w'.cell? ⟨Y.heap.size, 1, none⟩ = some (.int .u64 bef) := fun w' h9 => (h9.cell hsz).trans d1
      have v2 : ∀ w', Below Z.heap.size Z w' → w'.cell? ⟨Y.heap.size, 2, none⟩ = some (.int .i64 kind) := fun w' h9 => (h9.cell hsz).trans d2
      have v3 : ∀ w', Below Z.heap.size Z w' → w'.cell? ⟨Y.heap.size, 3, none⟩ = some (.int .i64 of) := fun w' h9 => (h9.cell hsz).trans d3
      have v4 : ∀ w', Below Z.heap.size Z w' → w'.cell? ⟨Y.heap.size, 4, none⟩ = some (.int .i64 out) := fun w' h9 => (h9.cell hsz).trans d4
      have v5 : ∀ w', Below Z.heap.size Z w' → w'.cell? ⟨Y.heap.size, 5, none⟩ = some (.string txt) := fun w' h9 => (h9.cell hsz).trans d5
      have v6 : ∀ w', Below Z.heap.size Z w' → w'.cell? ⟨Y.heap.size, 6, none⟩ = some (.int .u64 lk) := fun w' h9 => (h9.cell hsz).trans d6
      clear d0 d1 d2 d3 d4 d5 d6
      go_region_held3 (fun w' => Below Z.heap.size Z w')
        (first | assumption | (exact below_of_drawn 1) | (exact (Below.refl _ _).drew) | (exact below_drewN (by assumption) _) | (exact below_next28 (by assumption) (by assumption) (Below.size (by assumption))))
        (first
          | (go_at_call 40; (with_reducible refine (rlink38 ((j : Int) + 1) bef kind of out lk txt _ HSM.out).mono ?_); rintro e wz ⟨rfl, hbz⟩; rw [HLK.out])
          | fail)
      have hbv : Below Z.heap.size Z wz := by assumption
      have hcap := H.out.cap
      have hmax := H.out.max
      simp only [maxLen] at hmax
      have i1 : (0 : Int) ≤ (j : Int) := by omega
      have i2 : (j : Int) ≤ (c : Int) := by omega
      have i3 : (c : Int) ≤ 9223372036854775807 := by omega
      have i4 : (j : Int) ≤ (n : Int) := by omega
      go_wp2_with fail
      go_region_held3 (fun w' => Below Z.heap.size Z w')
        (first | assumption | (exact hbv.drew) | (exact below_drewN hbv _) | (exact below_next28 (by assumption) (by assumption) (Below.size (by assumption))))
        (first
          | (go_at_call 75; (with_reducible refine (rabout38 (some ⟨g, 0, none⟩) j c (L.take j) ((j : Int) + 1) bef kind of out lk txt _ (HFZ.out.keep (by assumption) (Below.size (by assumption))) (by omega) HNM.out (by have h9 := HSM.out.txt; simp only at h9; omega)).mono ?_); rintro e wy ⟨rfl, hby⟩; rw [HA.out])
          | fail)
      have hbw : Below Z.heap.size Z wy := by assumption
      have k6 := v6 wy hbw
      go_wp2_with fail
      go_roundw
      case rel => exact ⟨j + 1, by omega, by go_num, by rw [HE.out], HBZ.out.trans (hbw.mono HBZ.out.size)⟩
      case measure => simp [intOf]; omega
    · obtain rfl : n = j := by omega
      go_wp2_with fail
      go_ret
      exact ⟨rfl, HI.out⟩
end Go.Proofs.Ytojeendofpallaa
