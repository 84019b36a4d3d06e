/- Journals: Crash, Sync, Recover, Append. -/
import Derived.Test.YtjhdhnefoclccaaJr
import Derived.Deep.RegionHeld3
namespace Go.Proofs.Ytjhdhnefoclccaa
open Go.RowKit
theorem Nums.drew {w : World} {k : IntKind} {B : Nat} {A : Option Addr} {n c : Nat} {l : List Int} (h : Nums w k B A n c l) : Nums w.drew k B A n c l := h.keep (below_of_drawn 1) (Nat.le_refl _)
/-- Concat of two that a literal names. -/
theorem concat_new (A A' : Option Addr) (n c n' c' : Nat) (l l' : List Int) (w : World) (h : Nums w .u8 w.heap.size A n c l) (h' : Nums w .u8 w.heap.size A' n' c' l') (hs : n + n' ≤ 1000000000) :
    Calls Try.prog 32 #[.slice (some ⟨w.heap.size, 0, none⟩) 2 2] (w.alloc (.cells #[.slice A n c, .slice A' n' c'] 22)) (GivesBytes (l ++ l') w) := by
  have hb : Below w.heap.size w (w.alloc (.cells #[.slice A n c, .slice A' n' c'] 22)) := (Below.refl _ _).alloc (Nat.le_refl _) _
  refine (concat2 _ A A' n c n' c' l l' _ (by simp [go_sem]) (by simp [go_sem]) (h.keep hb hb.size) (h'.keep hb hb.size) hs).mono ?_
  rintro e w' ⟨v, rfl, hown, hbl⟩
  exact ⟨v, rfl, hown.base_le hb.size, hb.trans (hbl.mono hb.size)⟩
/-- how many pending bytes are made safe -/
def Jn.cl (keep : Int) (n : Nat) : Nat := (min (max keep 0) n).toNat
theorem Jn.cl_le (keep : Int) (n : Nat) : Jn.cl keep n ≤ n := by unfold Jn.cl; omega
/-- The function returns a file with these bytes of its own, and nothing pending. -/
def GivesSafe (l : List Int) (w : World) (e : Ending) (w' : World) : Prop := ∃ v, e = .returned (.agg #[v, .slice none 0 0]) ∧ Own w' w.heap.size 5 .u8 v l ∧ Below w.heap.size w w'
set_option maxRecDepth 100000 in
set_option maxHeartbeats 1600000 in
theorem crash23 (A A' : Option Addr) (n c n' c' : Nat) (l l' : List Int) (keep : Int) (w : World) (h : Nums w .u8 w.heap.size A n c l) (h' : Nums w .u8 w.heap.size A' n' c' l') (hs : n + n' ≤ 1000000000) :
    Calls Try.prog 23 #[.agg #[.slice A n c, .slice A' n' c'], .int .i64 keep] w (GivesSafe (l ++ l'.take (Jn.cl keep n')) w) := by
  obtain ⟨W, hW⟩ : ∃ W : World, (w.alloc (.cells #[.slice A n c, .slice A' n' c'] 29)).alloc (.cells #[.slice none 0 0, .slice none 0 0] 29) = W := ⟨_, rfl⟩
  have k0 : W.cell? ⟨w.heap.size, 0, none⟩ = some (.slice A n c) := by rw [← hW]; simp [go_sem]
  have k1 : W.cell? ⟨w.heap.size, 1, none⟩ = some (.slice A' n' c') := by rw [← hW]; simp [go_sem]
  have r0 : W.cell? ⟨w.heap.size + 1, 0, none⟩ = some (.slice none 0 0) := by rw [← hW]; simp [go_sem]
  have r1 : W.cell? ⟨w.heap.size + 1, 1, none⟩ = some (.slice none 0 0) := by rw [← hW]; simp [go_sem]
  have z0 : W.frozen? ⟨w.heap.size + 1, 0, none⟩ = false := by rw [← hW]; simp [go_sem]
  have z1 : W.frozen? ⟨w.heap.size + 1, 1, none⟩ = false := by rw [← hW]; simp [go_sem]
  have hsz : W.heap.size = w.heap.size + 2 := by rw [← hW]; simp
  have hbW : Below w.heap.size w W := by rw [← hW]; exact ((Below.refl _ _).alloc (Nat.le_refl _) _).alloc (by simp) _
  have H := Lib.hid (h.keep hbW hbW.size)
  have H' := Lib.hid (h'.keep hbW hbW.size)
  have HB := Lib.hid hbW
  have HZ := Lib.hid hsz
  have HS := Lib.hid hs
  have HR := Lib.hid (And.intro r0 (And.intro r1 (And.intro z0 z1)))
  have hcap := h'.cap
  have hmx : c' ≤ 9223372036854775807 := by have := h'.max; unfold maxLen at this; exact this
  clear h h' hs hbW hsz r0 r1 z0 z1
  have hway : (keep < 0 ∧ Jn.cl keep n' = 0) ∨ (∃ K : Nat, K ≤ n' ∧ keep = K ∧ Jn.cl keep n' = K) ∨ ((n' : Int) < keep ∧ Jn.cl keep n' = n') := by
    unfold Jn.cl
    rcases Int.lt_or_le keep 0 with h | h
    · exact .inl ⟨h, by omega⟩
    · rcases Int.lt_or_le (n' : Int) keep with h2 | h2
      · exact .inr (.inr ⟨h2, by omega⟩)
      · exact .inr (.inl ⟨keep.toNat, by omega, by omega, by omega⟩)
  rcases hway with ⟨hk, hK⟩ | ⟨K, hk, rfl, hK⟩ | ⟨hk, hK⟩
  · rw [hK]
    clear hK
    go_enter Try.func23, Try.ntmps23
    go_wp2_with fail
    clear hW
    have HP := Lib.hid (H'.out.pre (k := 0) (by omega)).drew
    have HWF := Lib.hid (show ∀ x ∈ l ++ l'.take 0, (Lit.int .u8 x).wf = true from fun x hx => (List.mem_append.1 hx).elim (H.out.wf x) (HP.out.wf x))
    generalize hlr : l ++ l'.take 0 = lr at *
    have HLR := Lib.hid hlr
    clear hlr
    have HN := Lib.hid H.out.drew
    have HQ := Lib.hid (And.intro k0 k1)
    go_region_held3 (fun w' => w'.cell? ⟨w.heap.size, 0, none⟩ = some (.slice A n c) ∧ w'.cell? ⟨w.heap.size, 1, none⟩ = some (.slice A' n' c'))
      (first | go_keep | (simp [go_sem, *]))
      (first
        | (go_at_call 32; (refine (concat_new A A' n c 0 c' l (l'.take 0) _ HN.out HP.out (by have := HS.out; omega)).mono ?_); rintro e w1 ⟨v1, rfl, hown, hb⟩; rw [HLR.out] at hown; obtain ⟨A1, c1, rfl, _⟩ := hown.nums HWF.out; replace hb := below_drew hb; have q0 := below_cell hb HQ.out.1; have q1 := below_cell hb HQ.out.2; have q2 := below_cell hb HR.out.1; have q3 := below_cell hb HR.out.2.1; have q4 := below_frozen hb HR.out.1 HR.out.2.2.1; have q5 := below_frozen hb HR.out.2.1 HR.out.2.2.2))
    go_wp2
    exact bodyPost_ret (v := .agg #[.slice A1 lr.length c1, .slice none 0 0]) (by simp [results, Try.results23, go_sem, *]) rfl
      ⟨_, rfl, ((hown.setCell (by rw [show W.drew.heap.size = W.heap.size from rfl, HZ.out]; simp) _).setCell (by rw [show W.drew.heap.size = W.heap.size from rfl, HZ.out]; simp) _).base_le HB.out.size,
        ((HB.out.trans (hb.mono HB.out.size)).setCell (by simp) _).setCell (by simp) _⟩
  · have hk1 : (K : Int) ≤ c' := by omega
    rw [hK]
    clear hK
    go_enter Try.func23, Try.ntmps23
    go_wp2_with fail
    clear hW
    have HP := Lib.hid (H'.out.pre (k := K) (by omega)).drew
    have HWF := Lib.hid (show ∀ x ∈ l ++ l'.take K, (Lit.int .u8 x).wf = true from fun x hx => (List.mem_append.1 hx).elim (H.out.wf x) (HP.out.wf x))
    generalize hlr : l ++ l'.take K = lr at *
    have HLR := Lib.hid hlr
    clear hlr
    have HN := Lib.hid H.out.drew
    have HQ := Lib.hid (And.intro k0 k1)
    go_region_held3 (fun w' => w'.cell? ⟨w.heap.size, 0, none⟩ = some (.slice A n c) ∧ w'.cell? ⟨w.heap.size, 1, none⟩ = some (.slice A' n' c'))
      (first | go_keep | (simp [go_sem, *]))
      (first
        | (go_at_call 32; (refine (concat_new A A' n c K c' l (l'.take K) _ HN.out HP.out (by have := HS.out; omega)).mono ?_); rintro e w1 ⟨v1, rfl, hown, hb⟩; rw [HLR.out] at hown; obtain ⟨A1, c1, rfl, _⟩ := hown.nums HWF.out; replace hb := below_drew hb; have q0 := below_cell hb HQ.out.1; have q1 := below_cell hb HQ.out.2; have q2 := below_cell hb HR.out.1; have q3 := below_cell hb HR.out.2.1; have q4 := below_frozen hb HR.out.1 HR.out.2.2.1; have q5 := below_frozen hb HR.out.2.1 HR.out.2.2.2))
    go_wp2
    exact bodyPost_ret (v := .agg #[.slice A1 lr.length c1, .slice none 0 0]) (by simp [results, Try.results23, go_sem, *]) rfl
      ⟨_, rfl, ((hown.setCell (by rw [show W.drew.heap.size = W.heap.size from rfl, HZ.out]; simp) _).setCell (by rw [show W.drew.heap.size = W.heap.size from rfl, HZ.out]; simp) _).base_le HB.out.size,
        ((HB.out.trans (hb.mono HB.out.size)).setCell (by simp) _).setCell (by simp) _⟩
  · rw [hK]
    clear hK
    go_enter Try.func23, Try.ntmps23
    go_wp2_with fail
    clear hW
    have HP := Lib.hid (H'.out.pre (k := n') (by omega)).drew
    have HWF := Lib.hid (show ∀ x ∈ l ++ l'.take n', (Lit.int .u8 x).wf = true from fun x hx => (List.mem_append.1 hx).elim (H.out.wf x) (HP.out.wf x))
    generalize hlr : l ++ l'.take n' = lr at *
    have HLR := Lib.hid hlr
    clear hlr
    have HN := Lib.hid H.out.drew
    have HQ := Lib.hid (And.intro k0 k1)
    go_region_held3 (fun w' => w'.cell? ⟨w.heap.size, 0, none⟩ = some (.slice A n c) ∧ w'.cell? ⟨w.heap.size, 1, none⟩ = some (.slice A' n' c'))
      (first | go_keep | (simp [go_sem, *]))
      (first
        | (go_at_call 32; (refine (concat_new A A' n c n' c' l (l'.take n') _ HN.out HP.out (by have := HS.out; omega)).mono ?_); rintro e w1 ⟨v1, rfl, hown, hb⟩; rw [HLR.out] at hown; obtain ⟨A1, c1, rfl, _⟩ := hown.nums HWF.out; replace hb := below_drew hb; have q0 := below_cell hb HQ.out.1; have q1 := below_cell hb HQ.out.2; have q2 := below_cell hb HR.out.1; have q3 := below_cell hb HR.out.2.1; have q4 := below_frozen hb HR.out.1 HR.out.2.2.1; have q5 := below_frozen hb HR.out.2.1 HR.out.2.2.2))
    go_wp2
    exact bodyPost_ret (v := .agg #[.slice A1 lr.length c1, .slice none 0 0]) (by simp [results, Try.results23, go_sem, *]) rfl
      ⟨_, rfl, ((hown.setCell (by rw [show W.drew.heap.size = W.heap.size from rfl, HZ.out]; simp) _).setCell (by rw [show W.drew.heap.size = W.heap.size from rfl, HZ.out]; simp) _).base_le HB.out.size,
        ((HB.out.trans (hb.mono HB.out.size)).setCell (by simp) _).setCell (by simp) _⟩
end Go.Proofs.Ytjhdhnefoclccaa
