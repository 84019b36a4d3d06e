/- Approvals: find, and Active, both. -/
import Derived.Test.YtoomgbddfcmjnaaAe
namespace Go.Proofs.Ytoomgbddfcmjnaa
open Go.RowKit
theorem fnd_at {α : Type} {p : α → Bool} {L : List α} {j : Nat} {d x : α} (hj : j < L.length) (hn : ∀ y ∈ L.take j, p y = false) (h : L.getD j d = x) (hp : p x = true) : L.find? p = some x := by
  rw [← List.take_append_drop j L, List.find?_append, List.find?_eq_none.2 (by intro y hy; rw [hn y hy]; decide), List.drop_eq_getElem_cons hj, getD_get hj h, List.find?_cons, hp]
  rfl
theorem fnd_none {α : Type} {p : α → Bool} {L : List α} (hn : ∀ y ∈ L, p y = false) : L.find? p = none := List.find?_eq_none.2 (by intro y hy; rw [hn y hy]; decide)
/-- what the place of the first tells -/
theorem fstI_cases {α : Type} (p : α → Bool) (L : List α) (d : α) : (fstI p L = -1 ∧ L.find? p = none) ∨ ∃ j : Nat, fstI p L = j ∧ j < L.length ∧ L.find? p = some (L.getD j d) ∧ p (L.getD j d) = true ∧ ∀ y ∈ L.take j, p y = false := by
  by_cases h : L.findIdx p < L.length
  · have hn : ∀ y ∈ L.take (L.findIdx p), p y = false := by
      intro y hy
      obtain ⟨i, hi, rfl⟩ := List.mem_take_iff_getElem.1 hy
      have := List.not_of_lt_findIdx (show i < L.findIdx p by omega)
      simpa using this
    have hp : p (L.getD (L.findIdx p) d) = true := by
      have := List.findIdx_getElem (w := h)
      rw [List.getD_eq_getElem?_getD, List.getElem?_eq_getElem h]
      exact this
    exact .inr ⟨L.findIdx p, by unfold fstI; rw [if_pos h], h, fnd_at h hn rfl hp, hp, hn⟩
  · have hn : ∀ y ∈ L, p y = false := List.findIdx_eq_length.1 (by have := List.findIdx_le_length (p := p) (xs := L); omega)
    exact .inl ⟨fstI_none hn, fnd_none hn⟩
def apV (x : Ap) : Value := .agg #[.string x.p, .string x.r, .int .i64 x.f, .int .i64 x.u]
def actV : Option Ap → Value
  | none => .tuple #[apV Ap0, .bool false]
  | some x => .tuple #[apV x, .bool true]
def Ap.act (L : List Ap) (p : ByteArray) (t : Int) : Option Ap := if Ap.chk L ≠ 0 then none else L.find? fun x => x.has p t
theorem ApB.thaw {w : World} {g : Nat} {p r : ByteArray} {f u : Int} (h : ApB w g p r f u) (i : Nat) : w.frozen? ⟨g, i, none⟩ = false := by
  obtain ⟨cs, _, h0⟩ := h.blk
  simp [World.frozen?, h0]
theorem cell_farA {w : World} {B i j : Nat} {u v : Value} (h : w.cell? ⟨B, i, none⟩ = some u) (hij : i ≠ j) : (w.setCell ⟨B, j, none⟩ v).cell? ⟨B, i, none⟩ = some u := by
  rw [World.cell?_setCell_other _ _ _ _ (by intro e; injection e with _ e; exact hij e.symm)]; exact h
theorem cell_hereA {w : World} {B i : Nat} {u v : Value} (h : w.cell? ⟨B, i, none⟩ = some u) : (w.setCell ⟨B, i, none⟩ v).cell? ⟨B, i, none⟩ = some v := World.cell?_setCell_same _ _ _ h
theorem heap_hereA {w : World} {g i : Nat} {cs : Array Value} {ty : TypeId} (h : w.heap[g]? = some (.cells cs ty (0, 0))) (v : Value) : (w.setCell ⟨g, i, none⟩ v).heap[g]? = some (.cells (cs.setIfInBounds i v) ty (0, 0)) := by
  simp only [World.setCell]
  rw [Array.getElem?_modify, if_pos rfl, h]
  rfl
theorem ApB.set {w : World} {g : Nat} {p r : ByteArray} {f u : Int} (h : ApB w g p r f u) (p' r' : ByteArray) (f' u' : Int) :
    ∃ X : World, ((((w.setCell ⟨g, 0, none⟩ (.string p')).setCell ⟨g, 1, none⟩ (.string r')).setCell ⟨g, 2, none⟩ (.int .i64 f')).setCell ⟨g, 3, none⟩ (.int .i64 u')) = X ∧ Hid (ApB X g p' r' f' u' ∧ ∀ B w0, Below B w0 w → B ≤ g → Below B w0 X) := by
  obtain ⟨cs, hs, hh⟩ := h.blk
  exact ⟨_, rfl, ⟨by simpa using h.lt, cell_farA (cell_farA (cell_farA (cell_hereA h.c0) (by decide)) (by decide)) (by decide), cell_farA (cell_farA (cell_hereA (cell_farA h.c1 (by decide))) (by decide)) (by decide),
    cell_farA (cell_hereA (cell_farA (cell_farA h.c2 (by decide)) (by decide))) (by decide), cell_hereA (cell_farA (cell_farA (cell_farA h.c3 (by decide)) (by decide)) (by decide)), _, by simp [hs], heap_hereA (heap_hereA (heap_hereA (heap_hereA hh _) _) _) _⟩,
    fun B w0 hb hB => (((hb.setCell hB _).setCell hB _).setCell hB _).setCell hB _⟩
/-- the arguments project and time, each in a box of its own -/
theorem two_box (w : World) (p : ByteArray) (t : Int) : ∃ X : World, (w.alloc (.cells #[.string p] 9)).alloc (.cells #[.int .i64 t] 3) = X ∧ Hid (Below w.heap.size w X ∧ X.cell? ⟨w.heap.size, 0, none⟩ = some (.string p) ∧ X.cell? ⟨w.heap.size + 1, 0, none⟩ = some (.int .i64 t)) :=
  ⟨_, rfl, below_two _ _, by simp [go_sem], by simp [go_sem]⟩
set_option maxHeartbeats 400000 in
theorem find39 (A : Option Addr) (n c : Nat) (L : List Ap) (p : ByteArray) (t : Int) (w : World) (h : RRow apRec w w.heap.size A n c L) :
    Calls Try.prog 97 #[.slice A n c, .string p, .int .i64 t] w fun e w' => e = .returned (.int .i64 (fstI (fun x : Ap => x.has p t) L)) ∧ Below w.heap.size w w' := by
  obtain ⟨X, hX, HX⟩ := two_box w p t
  have H := Lib.hid (h.keep HX.out.1 HX.out.1.size)
  clear h
  go_enter Try.func97, Try.ntmps97
  go_wp2_with fail
  first | rw [hX] | skip
  refine (index39f A n c L w.heap.size (w.heap.size + 1) p t X H.out HX.out.2).mono ?_; rintro e w1 ⟨rfl, hb⟩
  have HB := Lib.hid (HX.out.1.trans (hb.mono HX.out.1.size))
  clear hb hX
  go_wp2_with fail
  go_ret
  exact ⟨rfl, HB.out⟩
set_option maxHeartbeats 800000 in
theorem active39 (A : Option Addr) (n c : Nat) (L : List Ap) (p : ByteArray) (t : Int) (w : World) (h : RRow apRec w w.heap.size A n c L) :
    Calls Try.prog 49 #[.slice A n c, .string p, .int .i64 t] w fun e w' => e = .returned (actV (Ap.act L p t)) ∧ Below w.heap.size w w' := by
  have hm : n ≤ 9223372036854775807 := by have := h.cap; have := h.max; unfold maxLen at this; omega
  obtain ⟨Z, hZ, HZ⟩ := ap_boxB w ⟨#[]⟩ ⟨#[]⟩ 0 0
  have H := Lib.hid (h.keep HZ.out.1 HZ.out.1.size)
  have HL := Lib.hid h.len
  clear h
  go_enter Try.func49, Try.ntmps49
  go_wp2_with fail
  refine (find39 A n c L p t Z (H.out)).mono ?_; rintro e w1 ⟨rfl, hb⟩
  have HB := Lib.hid hb
  have HX1 := Lib.hid (HZ.out.2.keep hb)
  clear hb
  obtain ⟨_, e0, e1, e2, e3, _⟩ := HX1.out
  rcases fstI_cases (fun x : Ap => x.has p t) L Ap0 with ⟨h1, h2⟩ | ⟨j, h1, hj, h2, _, _⟩
  · have HR := Lib.hid (show Ap.act L p t = none by unfold Ap.act; rw [h2]; split <;> rfl)
    rw [h1]
    clear h1 h2
    obtain ⟨X2, hX2, HX2⟩ := HX1.out.set ⟨#[]⟩ ⟨#[]⟩ 0 0
    have t0 := HX1.out.thaw 0
    have t1 := HX1.out.thaw 1
    have t2 := HX1.out.thaw 2
    have t3 := HX1.out.thaw 3
    go_wp2_with fail
    first | rw [hX2] | skip
    obtain ⟨_, e0, e1, e2, e3, _⟩ := HX2.out.1
    exact bodyPost_ret (v := .tuple #[apV Ap0, .bool false]) (by simp [results, Try.results49, go_sem, apV, Ap0, *]) rfl ⟨by rw [HR.out]; rfl, HX2.out.2 _ _ (HZ.out.1.trans (HB.out.mono HZ.out.1.size)) (Nat.le_refl _)⟩
  · have HR1 := Lib.hid (fun (h : Ap.chk L ≠ 0) => show Ap.act L p t = none by unfold Ap.act; rw [if_pos h])
    have HR2 := Lib.hid (fun (h : Ap.chk L = 0) => show Ap.act L p t = some (L.getD j Ap0) by unfold Ap.act; rw [if_neg (by simpa using h), h2])
    rw [h1]
    clear h1 h2
    have hjn : j < n := by rw [← HL.out]; exact hj
    clear hj
    go_wp2_with fail
    refine (check39 A n c L w1 (H.out.keep HB.out HB.out.size)).mono ?_; rintro e w2 ⟨rfl, hb⟩
    have HB2 := Lib.hid (HB.out.trans (hb.mono HB.out.size))
    have HX2 := Lib.hid (HX1.out.keep hb)
    clear hb e0 e1 e2 e3
    obtain ⟨_, e0, e1, e2, e3, _⟩ := HX2.out
    obtain ⟨o, ho⟩ : ∃ o, Ap.chk L = o := ⟨_, rfl⟩
    rw [ho]
    rw [ho] at HR1 HR2
    clear ho
    by_cases ho0 : o = 0
    · have g1 : (o != 0) = false := by simpa using ho0
      have HR := Lib.hid (HR2.out ho0)
      clear ho0 HR1 HR2
      obtain ⟨ad, yp, yr, yf, yu, rfl, HX, c0, c1, c2, c3⟩ := (H.out.keep HB2.out HB2.out.size).ap hjn
      rw [HX.out.1] at HR
      obtain ⟨X2, hX2, HXX⟩ := HX2.out.set yp yr yf yu
      have t0 := HX2.out.thaw 0
      have t1 := HX2.out.thaw 1
      have t2 := HX2.out.thaw 2
      have t3 := HX2.out.thaw 3
      go_wp2_with fail
      first | rw [hX2] | skip
      obtain ⟨_, e0, e1, e2, e3, _⟩ := HXX.out.1
      exact bodyPost_ret (v := .tuple #[apV ⟨yp, yr, yf, yu⟩, .bool true]) (by simp [results, Try.results49, go_sem, apV, *]) rfl ⟨by rw [HR.out]; rfl, HXX.out.2 _ _ (HZ.out.1.trans (HB2.out.mono HZ.out.1.size)) (Nat.le_refl _)⟩
    · have g1 : (o != 0) = true := by simpa using ho0
      have HR := Lib.hid (HR1.out ho0)
      clear ho0 HR1 HR2
      obtain ⟨X2, hX2, HXX⟩ := HX2.out.set ⟨#[]⟩ ⟨#[]⟩ 0 0
      have t0 := HX2.out.thaw 0
      have t1 := HX2.out.thaw 1
      have t2 := HX2.out.thaw 2
      have t3 := HX2.out.thaw 3
      go_wp2_with fail
      first | rw [hX2] | skip
      obtain ⟨_, e0, e1, e2, e3, _⟩ := HXX.out.1
      exact bodyPost_ret (v := .tuple #[apV Ap0, .bool false]) (by simp [results, Try.results49, go_sem, apV, Ap0, *]) rfl ⟨by rw [HR.out]; rfl, HXX.out.2 _ _ (HZ.out.1.trans (HB2.out.mono HZ.out.1.size)) (Nat.le_refl _)⟩
end Go.Proofs.Ytoomgbddfcmjnaa
