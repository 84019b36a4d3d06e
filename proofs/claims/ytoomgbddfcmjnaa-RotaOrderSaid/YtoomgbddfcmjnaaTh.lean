/- Rota: the times at which something can change. -/
import Derived.Test.YtoomgbddfcmjnaaTe
import Derived.Test.YtoomgbddfcmjnaaKo
namespace Go.Proofs.Ytoomgbddfcmjnaa
open Go.RowKit
def Sf.tms (L : List Sf) (a b : Int) : List Int := a :: L.flatMap fun x => [x.f, x.u].filter fun t => decide (a < t) && decide (t < b)
theorem tms_take {L : List Sf} {j : Nat} {x : Sf} (a b : Int) (h : L.getD j Sf0 = x ∧ j < L.length) : Sf.tms (L.take (j + 1)) a b = Sf.tms (L.take j) a b ++ [x.f, x.u].filter fun t => decide (a < t) && decide (t < b) := by
  have h9 := h.1
  rw [getD_getElem h.2] at h9
  unfold Sf.tms
  rw [List.take_succ_eq_append_getElem h.2, h9, List.flatMap_append, List.cons_append]
  simp
theorem tms_len (L : List Sf) (a b : Int) : (Sf.tms L a b).length ≤ 2 * L.length + 1 := by
  unfold Sf.tms
  rw [List.length_cons]
  have : (L.flatMap fun x => [x.f, x.u].filter fun t => decide (a < t) && decide (t < b)).length ≤ 2 * L.length := by
    induction L with
    | nil => simp
    | cons x L ih =>
      rw [List.flatMap_cons, List.length_append, List.length_cons]
      have := List.length_filter_le (fun t => decide (a < t) && decide (t < b)) [x.f, x.u]
      simp only [List.length_cons, List.length_nil] at this
      omega
  omega
/-- a block of two numbers of which number i is still to be read, while a row grows -/
def TwoI (w : World) (b i : Nat) (v : Value) (f u : Int) : Prop := (i = 0 → (∀ q, v.ownBlock = some q → q < b) ∧ w.cell? ⟨b, 0, none⟩ = some (.int .i64 f)) ∧ (i < 2 → w.cell? ⟨b, 1, none⟩ = some (.int .i64 u))
theorem TwoI.start {X : World} {b : Nat} {f u : Int} {T : TypeId} {v : Value} (h : X.heap[b]? = some (.cells #[.int .i64 f, .int .i64 u] T (0, 0))) (hv : ∀ q, v.ownBlock = some q → q < b) : TwoI X b 0 v f u :=
  ⟨fun _ => ⟨hv, by simp [World.cell?, h]⟩, fun _ => by simp [World.cell?, h]⟩
theorem TwoI.val {w : World} {b i : Nat} {v : Value} {f u : Int} (h : TwoI w b i v f u) (hi : i < 2) : ∃ tv, [f, u].getD i 0 = tv ∧ w.cell? ⟨b, i, none⟩ = some (.int .i64 tv) := by
  rcases (show i = 0 ∨ i = 1 by omega) with rfl | rfl
  · exact ⟨f, rfl, (h.1 rfl).2⟩
  · exact ⟨u, rfl, h.2 (by omega)⟩
theorem TwoI.same {w : World} {b i : Nat} {v : Value} {f u : Int} (h : TwoI w b i v f u) (hi : i < 2) : TwoI w b (i + 1) v f u :=
  ⟨fun h9 => by omega, fun _ => h.2 hi⟩
theorem TwoI.grow {w w' : World} {b i : Nat} {v v' : Value} {f u : Int} (h : TwoI w b i v f u) (hi : i < 2) (hg : w.grownBy w' v.ownBlock) : TwoI w' b (i + 1) v' f u :=
  ⟨fun h9 => by omega, fun h9 => by
    obtain rfl : i = 0 := by omega
    exact hg.cell (h.2 (by omega)) (fun e => by have := (h.1 rfl).1 b e.symm; omega)⟩
theorem TwoI.alloc {w : World} {b i : Nat} {v : Value} {f u : Int} (h : TwoI w b i v f u) (hb : b < w.heap.size) (o : Obj) : TwoI (w.alloc o) b i v f u :=
  ⟨fun h9 => ⟨(h.1 h9).1, ((below_one o).cell hb).trans (h.1 h9).2⟩, fun h9 => ((below_one o).cell hb).trans (h.2 h9)⟩
theorem filt_take {l : List Int} {i : Nat} {tv : Int} (p : Int → Bool) (h : l.getD i 0 = tv) (hi : i < l.length) : (l.take (i + 1)).filter p = (l.take i).filter p ++ if p tv = true then [tv] else [] := by
  rw [take_succ_getD l i hi, h, List.filter_append]
  congr 1
  by_cases hp : p tv = true
  · rw [if_pos hp, List.filter_cons, if_pos hp]; rfl
  · rw [if_neg hp, List.filter_cons, if_neg hp]; rfl
theorem Own.lit9 {w : World} (x : Int) : Own (w.alloc (.cells #[.int .i64 x] 3)) w.heap.size 3 .i64 (.slice (some ⟨w.heap.size, 0, none⟩) 1 1) [x] :=
  ⟨rfl, .inr ⟨w.heap.size, 1, #[.int .i64 x], rfl, Nat.le_refl _, heap_alloc_new w _, Nat.le_refl _, by simp [maxLen], rfl, rfl⟩⟩
set_option maxHeartbeats 1600000 in
set_option maxRecDepth 100000 in
theorem turns36 (A : Option Addr) (n c : Nat) (L : List Sf) (a b : Int) (w : World) (h : RRow sfRec w w.heap.size A n c L) (hn : n ≤ 100) :
    Calls Try.prog 66 #[.slice A n c, .int .i64 a, .int .i64 b] w (GivesInts (Zs.of (Sf.tms L a b)) w) := by
  have hm : n ≤ 9223372036854775807 := by have := h.cap; have := h.max; unfold maxLen at this; omega
  have H := Lib.hid h
  have HL := Lib.hid h.len
  have HN := Lib.hid hn
  clear h
  go_enter Try.func66, Try.ntmps66
  go_wp2_with fail
  have HB0 := Lib.hid (show Below w.heap.size w (w.alloc (.cells #[.int .i64 a] 3)) from below_one _)
  have HO0 := Lib.hid (Own.lit9 (w := w) a)
  go_loopw [7, 16] (fun v iv wr => ∃ j : Nat, j ≤ n ∧ iv = .int .i64 j ∧ Hid (Below w.heap.size w wr ∧ Own wr w.heap.size 3 .i64 v (Sf.tms (L.take j) a b))) (fun _ iv _ => n - (intOf iv).toNat)
  case atStart => exact ⟨0, by omega, rfl, HB0.out, HO0.out⟩
  case round =>
    rename World => Y
    obtain ⟨j, hj, rfl, HI⟩ := hrel
    by_cases hlt : j < n
    · obtain ⟨ad, yp, yf, yu, rfl, HX, c0, c1, c2⟩ := (H.out.keep HI.out.1 HI.out.1.size).sf hlt
      obtain ⟨X, hX, HX8⟩ := sf_boxB Y yp yf yu
      obtain ⟨_, e0, e1, e2, _⟩ := HX8.out.2
      have HT := Lib.hid (tms_take a b ⟨HX.out.1, HX.out.2.1⟩)
      obtain ⟨Z, hZ⟩ : ∃ Z : World, X.alloc (.cells #[.int .i64 yf, .int .i64 yu] 3) = Z := ⟨_, rfl⟩
      have hbz : Below X.heap.size X Z := by rw [← hZ]; exact below_one _
      have H2 := Lib.hid (fun (v : Value) (hv : ∀ q, v.ownBlock = some q → q < X.heap.size) => TwoI.start (v := v) (show Z.heap[X.heap.size]? = some (.cells #[.int .i64 yf, .int .i64 yu] 3 (0, 0)) by rw [← hZ]; exact heap_alloc_new _ _) hv)
      have HVB := Lib.hid (fun q hq => Nat.lt_of_lt_of_le (World.ownsRow.lt HI.out.2 q hq).2 HX8.out.1.size)
      have HBS := Lib.hid (show X.heap.size < Z.heap.size by rw [← hZ]; simp)
      have HXB := Lib.hid (HI.out.1.trans (HX8.out.1.mono HI.out.1.size))
      have HZB := Lib.hid (HXB.out.trans (hbz.mono HXB.out.size))
      have HZO := Lib.hid ((HI.out.2.below HX8.out.1).below hbz)
      have HLT := Lib.hid (show (Sf.tms (L.take j) a b).length ≤ 300 by
        have h1 := tms_len (L.take j) a b
        have h2 := List.length_take_le j L
        have := HN.out
        omega)
      clear hbz HX8 HXB HI
      go_wp2_with fail
      clear hX hZ e0 e1 e2 c0 c1 c2
      generalize X.heap.size = b2 at *
      go_loopw [7, 26] (fun v iv wr => ∃ i : Nat, i ≤ 2 ∧ iv = .int .i64 i ∧ Hid (Below w.heap.size w wr ∧ TwoI wr b2 i v yf yu ∧ b2 < wr.heap.size ∧ Own wr w.heap.size 3 .i64 v (Sf.tms (L.take j) a b ++ ([yf, yu].take i).filter fun t => decide (a < t) && decide (t < b)))) (fun _ iv _ => 2 - (intOf iv).toNat)
      case atStart => exact ⟨0, by omega, rfl, HZB.out, H2.out _ HVB.out, HBS.out, by simpa using HZO.out⟩
      case round =>
        rename World => V
        obtain ⟨i, hi, rfl, HJ⟩ := hrel
        by_cases hi2 : i < 2
        · obtain ⟨tv, htv, c0⟩ := HJ.out.2.1.val hi2
          have i1 : (0 : Int) ≤ (i : Int) := by omega
          have i2 : (i : Int) < 2 := by omega
          have gi : decide ((i : Int) < 2) = true := decide_eq_true (by omega)
          have HF := Lib.hid (filt_take (fun t => decide (a < t) && decide (t < b)) htv (show i < [yf, yu].length from hi2))
          have HLF := Lib.hid (show (Sf.tms (L.take j) a b ++ ([yf, yu].take i).filter fun t => decide (a < t) && decide (t < b)).length ≤ 310 by
            rw [List.length_append]
            have h1 := List.length_filter_le (fun t => decide (a < t) && decide (t < b)) ([yf, yu].take i)
            have h2 := List.length_take_le i [yf, yu]
            have := HLT.out
            omega)
          clear htv
          rcases g1 : decide (a < tv) with _ | _
          · have HS := Lib.hid (show ([yf, yu].take (i + 1)).filter (fun t => decide (a < t) && decide (t < b)) = ([yf, yu].take i).filter (fun t => decide (a < t) && decide (t < b)) by rw [HF.out, g1]; simp)
            go_wp2_with fail
            go_roundw
            case rel => exact ⟨i + 1, by omega, by go_num, HJ.out.1, HJ.out.2.1.same hi2, HJ.out.2.2.1, by rw [HS.out]; exact HJ.out.2.2.2⟩
            case measure => simp [intOf]; omega
          rcases g2 : decide (tv < b) with _ | _
          · have HS := Lib.hid (show ([yf, yu].take (i + 1)).filter (fun t => decide (a < t) && decide (t < b)) = ([yf, yu].take i).filter (fun t => decide (a < t) && decide (t < b)) by rw [HF.out, g1, g2]; simp)
            go_wp2_with fail
            go_roundw
            case rel => exact ⟨i + 1, by omega, by go_num, HJ.out.1, HJ.out.2.1.same hi2, HJ.out.2.2.1, by rw [HS.out]; exact HJ.out.2.2.2⟩
            case measure => simp [intOf]; omega
          · have HS := Lib.hid (show Sf.tms (L.take j) a b ++ ([yf, yu].take (i + 1)).filter (fun t => decide (a < t) && decide (t < b)) = (Sf.tms (L.take j) a b ++ ([yf, yu].take i).filter (fun t => decide (a < t) && decide (t < b))) ++ [tv] by rw [HF.out, g1, g2]; simp)
            obtain ⟨G, hG⟩ : ∃ G : World, V.alloc (.cells #[.int .i64 tv] 3) = G := ⟨_, rfl⟩
            have hbg : Below V.heap.size V G := by rw [← hG]; exact below_one _
            have HGB := Lib.hid (HJ.out.1.trans (hbg.mono HJ.out.1.size))
            have HGO := Lib.hid (HJ.out.2.2.2.below hbg)
            have HGT := Lib.hid (show TwoI G b2 i _ yf yu by rw [← hG]; exact HJ.out.2.1.alloc HJ.out.2.2.1 _)
            have HGS := Lib.hid (show b2 < G.heap.size from Nat.lt_of_lt_of_le HJ.out.2.2.1 hbg.size)
            have d0 : G.cell? ⟨V.heap.size, 0, none⟩ = some (.int .i64 tv) := by rw [← hG]; simp [go_sem]
            have HD0 := Lib.hid d0
            have HZ1 := Lib.hid HGB.out.size
            have HL1 := Lib.hid (show (Sf.tms (L.take j) a b ++ ([yf, yu].take i).filter fun t => decide (a < t) && decide (t < b)).length + 1 ≤ maxLen by have := HLF.out; simp only [maxLen]; omega)
            have HL2 := Lib.hid (show ((Sf.tms (L.take j) a b ++ ([yf, yu].take i).filter fun t => decide (a < t) && decide (t < b)).length + 1) * 8 ≤ 140737488355328 by have := HLF.out; omega)
            clear hbg
            go_wp2_with (at_builtin; refine app_int _ rfl (.tmp 38) (.tmp 40) _ rfl w.heap.size 3 8 .i64 int_info Try.underlying36 _ _ rfl HGO.out tv V.heap.size rfl HD0.out HL1.out HL2.out HZ1.out ?_; intro v' w' hown' hgrow)
            go_roundw
            case rel => exact ⟨i + 1, by omega, by go_num, HGO.out.grow HGB.out hgrow HGB.out.size (Nat.le_refl _), HGT.out.grow hi2 hgrow, Nat.lt_of_lt_of_le HGS.out hgrow.size, by rw [HS.out]; exact hown'⟩
            case measure => simp [intOf]; omega
        · obtain rfl : i = 2 := by omega
          have HS := Lib.hid (show Sf.tms (L.take (j + 1)) a b = Sf.tms (L.take j) a b ++ ([yf, yu].take 2).filter (fun t => decide (a < t) && decide (t < b)) by rw [HT.out]; rfl)
          go_wp2_with fail
          go_roundw
          case rel => exact ⟨j + 1, by omega, by go_num, HJ.out.1, by rw [HS.out]; exact HJ.out.2.2.2⟩
          case measure => simp [intOf]; omega
    · obtain rfl : n = j := by omega
      have HW := Lib.hid (show Sf.tms (L.take n) a b = Sf.tms L a b by rw [List.take_of_length_le (by rw [HL.out]; exact Nat.le_refl _)])
      have HTL := Lib.hid (show (Sf.tms L a b).length ≤ 1000000 by have h1 := tms_len L a b; have := HL.out; have := HN.out; omega)
      have HO := Lib.hid (show Own Y w.heap.size 3 .i64 _ (Sf.tms L a b) by rw [← HW.out]; exact HI.out.2)
      have HB := Lib.hid HI.out.1
      clear HI
      go_wp2_with fail
      refine (sort_own w.heap.size _ _ Y HO.out HB.out.size HTL.out).mono ?_; rintro e w2 ⟨rfl, ho, hb⟩
      have HO2 := Lib.hid ho
      have HB2 := Lib.hid (HB.out.trans hb)
      clear ho hb HO HB
      go_wp2_with fail
      refine (compact_own w.heap.size _ _ w2 HO2.out HB2.out.size (by rw [List.length_mergeSort]; exact HTL.out)).mono ?_; rintro e w3 ⟨v3, rfl, ho, hb⟩
      rw [List.length_mergeSort, Zs.compact_sort] at ho
      have HO3 := Lib.hid ho
      have HB3 := Lib.hid (HB2.out.trans hb)
      clear ho hb
      go_wp2_with fail
      go_ret
      exact ⟨_, rfl, HO3.out, HB3.out⟩
end Go.Proofs.Ytoomgbddfcmjnaa
