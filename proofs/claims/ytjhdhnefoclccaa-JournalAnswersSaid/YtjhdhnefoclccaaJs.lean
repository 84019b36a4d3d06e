/- Journals: Sync, Recover, Append. -/
import Derived.Test.YtjhdhnefoclccaaJk
namespace Go.Proofs.Ytjhdhnefoclccaa
open Go.RowKit
set_option maxRecDepth 100000 in
set_option maxHeartbeats 800000 in
theorem sync23 (A A' : Option Addr) (n c n' c' : Nat) (l l' : List Int) (w : World) (h : Nums w .u8 w.heap.size A n c l) (h' : Nums w .u8 w.heap.size A' n' c' l') (hs : n + n' ≤ 1000000000) :
    Calls Try.prog 21 #[.agg #[.slice A n c, .slice A' n' c']] w (GivesSafe (l ++ l') w) := by
  obtain ⟨W, hW⟩ : ∃ W : World, (w.alloc (.cells #[.slice A n c, .slice A' n' c'] 29)).alloc (.cells #[.slice none 0 0, .slice none 0 0] 29) = W := ⟨_, rfl⟩
  have k0 : W.cell? ⟨w.heap.size, 0, none⟩ = some (.slice A n c) := by rw [← hW]; simp [go_sem]
  have k1 : W.cell? ⟨w.heap.size, 1, none⟩ = some (.slice A' n' c') := by rw [← hW]; simp [go_sem]
  have r0 : W.cell? ⟨w.heap.size + 1, 0, none⟩ = some (.slice none 0 0) := by rw [← hW]; simp [go_sem]
  have r1 : W.cell? ⟨w.heap.size + 1, 1, none⟩ = some (.slice none 0 0) := by rw [← hW]; simp [go_sem]
  have z0 : W.frozen? ⟨w.heap.size + 1, 0, none⟩ = false := by rw [← hW]; simp [go_sem]
  have z1 : W.frozen? ⟨w.heap.size + 1, 1, none⟩ = false := by rw [← hW]; simp [go_sem]
  have hsz : W.heap.size = w.heap.size + 2 := by rw [← hW]; simp
  have hbW : Below w.heap.size w W := by rw [← hW]; exact ((Below.refl _ _).alloc (Nat.le_refl _) _).alloc (by simp) _
  have H := Lib.hid (h.keep hbW hbW.size)
  have H' := Lib.hid (h'.keep hbW hbW.size)
  have HB := Lib.hid hbW
  have HZ := Lib.hid hsz
  have HR := Lib.hid (And.intro r0 (And.intro r1 (And.intro z0 z1)))
  have hl : l ++ l'.take (Jn.cl n' n') = l ++ l' := by rw [show Jn.cl n' n' = n' from by unfold Jn.cl; omega, take_len h'.len]
  have HL := Lib.hid hl
  have HWF := Lib.hid (show ∀ x ∈ l ++ l', (Lit.int .u8 x).wf = true from fun x hx => (List.mem_append.1 hx).elim (h.wf x) (h'.wf x))
  generalize hlr : l ++ l' = lr at *
  clear h h' hbW hsz r0 r1 z0 z1 hl hlr
  go_enter Try.func21, Try.ntmps21
  go_wp2_with fail
  clear hW
  refine (crash23 A A' n c n' c' l l' n' W H.out H'.out hs).mono ?_; rintro e w1 ⟨v1, rfl, hown, hb⟩
  rw [HL.out] at hown
  obtain ⟨A1, c1, rfl, _⟩ := hown.nums HWF.out
  have q2 := below_cell hb HR.out.1
  have q3 := below_cell hb HR.out.2.1
  have q4 := below_frozen hb HR.out.1 HR.out.2.2.1
  have q5 := below_frozen hb HR.out.2.1 HR.out.2.2.2
  go_wp2
  exact bodyPost_ret (v := .agg #[.slice A1 lr.length c1, .slice none 0 0]) (by simp [results, Try.results21, go_sem, *]) rfl
      ⟨_, rfl, ((hown.setCell (by rw [HZ.out]; simp) _).setCell (by rw [HZ.out]; simp) _).base_le HB.out.size,
        ((HB.out.trans (hb.mono HB.out.size)).setCell (by simp) _).setCell (by simp) _⟩
/-- The function returns a file with these bytes of its own and nothing pending, and a row of rows. -/
def GivesRecover (l : List Int) (ls : List (List Int)) (w : World) (e : Ending) (w' : World) : Prop :=
  ∃ v v2, e = .returned (.tuple #[.agg #[v, .slice none 0 0], v2]) ∧ Own w' w.heap.size 5 .u8 v l ∧ OwnRows w' w.heap.size 22 5 .u8 v2 ls ∧ Below w.heap.size w w'
theorem OwnRows.setCell {w : World} {base : Nat} {e eb : TypeId} {k : IntKind} {v : Value} {ls : List (List Int)} (h : OwnRows w base e eb k v ls) {a : Addr} (ha : a.block < base) (u : Value) : OwnRows (w.setCell a u) base e eb k v ls := by
  obtain ⟨vs, h1, h2⟩ := h
  exact ⟨vs, ownsRow_setCell_below h1 ha u, h2.imp fun _ _ ho => ho.setCell ha u⟩
theorem OwnRows.form {w : World} {base : Nat} {e eb : TypeId} {k : IntKind} {v : Value} {ls : List (List Int)} (h : OwnRows w base e eb k v ls) : ∃ A c, v = .slice A ls.length c := by
  obtain ⟨A, c, hv, _⟩ := h.read
  exact ⟨A, c, hv⟩
set_option maxRecDepth 100000 in
set_option maxHeartbeats 800000 in
theorem recover23 (A A' : Option Addr) (n c n' c' : Nat) (l : List Int) (w : World) (h : Nums w .u8 w.heap.size A n c l) (hs : n ≤ 1000000) :
    Calls Try.prog 15 #[.agg #[.slice A n c, .slice A' n' c']] w (GivesRecover (l.take (Jn.read l).2) (Jn.read l).1 w) := by
  obtain ⟨W, hW⟩ : ∃ W : World, (w.alloc (.cells #[.slice A n c, .slice A' n' c'] 29)).alloc (.cells #[.slice none 0 0, .slice none 0 0] 29) = W := ⟨_, rfl⟩
  have k0 : W.cell? ⟨w.heap.size, 0, none⟩ = some (.slice A n c) := by rw [← hW]; simp [go_sem]
  have r0 : W.cell? ⟨w.heap.size + 1, 0, none⟩ = some (.slice none 0 0) := by rw [← hW]; simp [go_sem]
  have r1 : W.cell? ⟨w.heap.size + 1, 1, none⟩ = some (.slice none 0 0) := by rw [← hW]; simp [go_sem]
  have z0 : W.frozen? ⟨w.heap.size + 1, 0, none⟩ = false := by rw [← hW]; simp [go_sem]
  have z1 : W.frozen? ⟨w.heap.size + 1, 1, none⟩ = false := by rw [← hW]; simp [go_sem]
  have hsz : W.heap.size = w.heap.size + 2 := by rw [← hW]; simp
  have hbW : Below w.heap.size w W := by rw [← hW]; exact ((Below.refl _ _).alloc (Nat.le_refl _) _).alloc (by simp) _
  have H := Lib.hid (h.keep hbW hbW.size)
  have HB := Lib.hid hbW
  have HZ := Lib.hid hsz
  have HS := Lib.hid hs
  have HK := Lib.hid k0
  have HR := Lib.hid (And.intro r0 (And.intro r1 (And.intro z0 z1)))
  have hle := (Jn.read_le (l.length + 1) l).1
  have hlen := h.len
  have hcap := h.cap
  have hmx : c ≤ 9223372036854775807 := by have := h.max; unfold maxLen at this; exact this
  have hr2 : (Jn.read l).2 ≤ n := by rw [← hlen]; exact hle
  obtain ⟨k, hk⟩ : ∃ k, (Jn.read l).2 = k := ⟨_, rfl⟩
  rw [hk] at hr2 ⊢
  have HKK := Lib.hid hk
  have hkc : (k : Int) ≤ c := by omega
  have hkn : k ≤ n := hr2
  clear h hbW hsz r0 r1 z0 z1 hs hle hlen k0 hk hr2
  go_enter Try.func15, Try.ntmps15
  have k0 := HK.out
  go_wp2_with fail
  clear hW
  refine (read23 A n c l W H.out HS.out).mono ?_; rintro e w1 ⟨v1, rfl, hrows, hb⟩
  rw [HKK.out]
  have HO := Lib.hid hrows
  have HB1 := Lib.hid hb
  have p0 := below_cell hb k0
  have HN := Lib.hid ((H.out.keep hb hb.size).pre hkn)
  obtain ⟨A1, c1, rfl⟩ := hrows.form
  clear hrows hb
  go_wp2_with fail
  refine (clone_any _ _ _ _ _ HN.out (by have := HS.out; omega)).mono ?_; rintro e w2 ⟨v2, rfl, hown, hb2⟩
  obtain ⟨A2, c2, rfl, _⟩ := hown.nums HN.out.wf
  have hlk : (l.take k).length = k := by rw [List.length_take, H.out.len]; omega
  rw [hlk] at hown
  rw [hlk]
  have HB2 := Lib.hid (HB1.out.trans (hb2.mono HB1.out.size))
  have q2 := below_cell HB2.out HR.out.1
  have q3 := below_cell HB2.out HR.out.2.1
  have q4 := below_frozen HB2.out HR.out.1 HR.out.2.2.1
  have q5 := below_frozen HB2.out HR.out.2.1 HR.out.2.2.2
  have HO2 := Lib.hid (HO.out.below hb2)
  have HOW := Lib.hid hown
  clear hown hb2 p0
  generalize (Jn.read l).1 = ls at *
  go_wp2
  exact bodyPost_ret (v := .tuple #[.agg #[.slice A2 k c2, .slice none 0 0], .slice A1 ls.length c1]) (by simp [results, Try.results15, go_sem, *]) rfl
      ⟨_, _, rfl, ((HOW.out.setCell (by have := HB1.out.size; rw [HZ.out] at this; simp; omega) _).setCell (by have := HB1.out.size; rw [HZ.out] at this; simp; omega) _).base_le (Nat.le_trans HB.out.size HB1.out.size),
        ((HO2.out.setCell (by rw [HZ.out]; simp) _).setCell (by rw [HZ.out]; simp) _).base_le HB.out.size,
        ((HB.out.trans (HB2.out.mono HB.out.size)).setCell (by simp) _).setCell (by simp) _⟩
end Go.Proofs.Ytjhdhnefoclccaa
