/- Approvals: the program's Add and End. -/
import Derived.Test.YtoomgbddfcmjnaaAg
import Derived.Test.YtoomgbddfcmjnaaGs
namespace Go.Proofs.Ytoomgbddfcmjnaa
open Go.RowKit
def Ap.ins (L : List Ap) (x : Ap) : List Ap := L.take (L.findIdx (Ap.lt x)) ++ [x] ++ L.drop (L.findIdx (Ap.lt x))
def Ap.add (L : List Ap) (x : Ap) : List Ap × Int :=
  if Ap.chk L ≠ 0 then (L, Ap.chk L) else if Ap.one x ≠ 0 then (L, Ap.one x) else if Ap.meets L x = true then (L, 10) else if L.length = 60 then (L, 1) else (Ap.ins L x, 0)
/-- a slice of approvals and an error -/
def GivesApE (R : List Ap × Int) (w : World) (e : Ending) (w' : World) : Prop := ∃ A n c, e = .returned (.tuple #[.slice A n c, .int .i64 R.2]) ∧ RRow apRec w' w'.heap.size A n c R.1 ∧ Below w.heap.size w w'
theorem concat_add39 (A : Option Addr) (n c k : Nat) (L : List Ap) (p r : ByteArray) (f u : Int) (W : World) (h : RRow apRec W W.heap.size A n c L) (hk : k ≤ n) (hn : n ≤ 60) :
    Calls Try.prog 98 #[.slice (some ⟨W.heap.size + 1, 0, none⟩) 3 3]
      ((W.alloc (.cells #[.string p, .string r, .int .i64 f, .int .i64 u] 74)).alloc (.cells #[.slice A k c, .slice (some ⟨W.heap.size, 0, none⟩) 1 1, .slice (if c = k then A else A.map (·.add (k * 4))) (n - k) (c - k)] 72)).drew
      (GivesAp (L.take k ++ [⟨p, r, f, u⟩] ++ L.drop k) W) := by
  obtain ⟨X, hX, HX⟩ := ap_boxB W p r f u
  have hl := RRow.lit (R := apRec) (w := X) (g := W.heap.size) (L := [⟨p, r, f, u⟩]) (by rw [← hX]; exact heap_alloc_new _ _) (by simp)
  have hxs : X.heap.size = W.heap.size + 1 := by rw [← hX]; simp
  rw [hX]
  have hb : Below X.heap.size X (X.alloc (.cells #[.slice A k c, .slice (some ⟨W.heap.size, 0, none⟩) 1 1, .slice (if c = k then A else A.map (·.add (k * 4))) (n - k) (c - k)] 72)).drew := (below_one _).drew
  have h1 := h.keep HX.out.1 HX.out.1.size
  have h2 := h1.keep hb hb.size
  have hl2 := hl.keep hb hb.size
  refine (concatAp3 (W.heap.size + 1) _ _ _ k c 1 1 (n - k) (c - k) (L.take k) [⟨p, r, f, u⟩] (L.drop k) _ (by rw [← hxs]; simp [go_sem]) (by rw [← hxs]; simp [go_sem]) (by rw [← hxs]; simp [go_sem, apRec]) (h2.first hk) hl2 (h2.cut hk) (by omega)).mono ?_
  rintro e w' ⟨v, rfl, ho, hbb⟩
  have hs : W.heap.size ≤ X.heap.size := by omega
  have hs2 : W.heap.size ≤ (X.alloc (.cells #[.slice A k c, .slice (some ⟨W.heap.size, 0, none⟩) 1 1, .slice (if c = k then A else A.map (·.add (k * 4))) (n - k) (c - k)] 72)).drew.heap.size := Nat.le_trans hs hb.size
  exact ⟨v, rfl, ho.base_le hs2, (HX.out.1.trans (hb.mono hs)).trans (hbb.mono hs2)⟩
set_option maxHeartbeats 1600000 in
theorem add39 (A : Option Addr) (n c : Nat) (L : List Ap) (p r : ByteArray) (f u : Int) (w : World) (h : RRow apRec w w.heap.size A n c L) :
    Calls Try.prog 54 #[.slice A n c, .agg #[.string p, .string r, .int .i64 f, .int .i64 u]] w (GivesApE (Ap.add L ⟨p, r, f, u⟩) w) := by
  have hm : n ≤ 9223372036854775807 := by have := h.cap; have := h.max; unfold maxLen at this; omega
  have hcc := h.cap
  have hcm : c ≤ 9223372036854775807 := h.max
  obtain ⟨X, hX, HX⟩ := ap_boxB w p r f u
  have H := Lib.hid (h.keep HX.out.1 HX.out.1.size)
  have HL := Lib.hid h.len
  have HCHK := Lib.hid (fun (h0 : Ap.chk L = 0) => show n ≤ 60 by
    unfold Ap.chk at h0
    by_cases hh : 60 < L.length
    · rw [if_pos hh] at h0; cases h0
    · rw [h.len] at hh; omega)
  have HA := Lib.hid (show Ap.add L ⟨p, r, f, u⟩ = _ from rfl)
  clear h
  obtain ⟨_, e0, e1, e2, e3, _⟩ := HX.out.2
  go_enter Try.func54, Try.ntmps54
  go_wp2_with fail
  refine (check39 A n c L X H.out).mono ?_; rintro e w1 ⟨rfl, hb⟩
  have HB1 := Lib.hid (HX.out.1.trans (hb.mono HX.out.1.size))
  have HX1 := Lib.hid (HX.out.2.keep hb)
  have H1 := Lib.hid (H.out.keep hb hb.size)
  clear hb e0 e1 e2 e3
  obtain ⟨_, e0, e1, e2, e3, _⟩ := HX1.out
  have HA1 := Lib.hid (fun (h : Ap.chk L ≠ 0) => show Ap.add L ⟨p, r, f, u⟩ = (L, Ap.chk L) by unfold Ap.add; rw [if_pos h])
  have HA2 := Lib.hid (fun (h : Ap.chk L = 0) => show Ap.add L ⟨p, r, f, u⟩ = _ by unfold Ap.add; rw [if_neg (by simpa using h)])
  obtain ⟨o, ho⟩ : ∃ o, Ap.chk L = o := ⟨_, rfl⟩
  rw [ho]
  rw [ho] at HA1 HA2 HCHK
  clear ho HA
  by_cases ho : o = 0
  rotate_left
  · have g1 : (o != 0) = true := by simpa using ho
    have HR := Lib.hid (HA1.out ho)
    clear HA1 HA2 ho
    go_wp2_with fail
    exact bodyPost_ret (v := .tuple #[.slice A n c, .int .i64 o]) (by simp [results, Try.results54, go_sem]) rfl (by rw [HR.out]; exact ⟨A, n, c, rfl, H1.out, HB1.out⟩)
  have HA := Lib.hid (HA2.out ho)
  have HN60 := Lib.hid (HCHK.out ho)
  clear HA1 HA2
  have g1 : (o != 0) = false := by simpa using ho
  clear ho
  go_wp2_with fail
  refine (one39 p r f u w1).mono ?_; rintro e w2 ⟨rfl, hb⟩
  have HB2 := Lib.hid (HB1.out.trans (hb.mono HB1.out.size))
  have HX2 := Lib.hid (HX1.out.keep hb)
  have H2 := Lib.hid (H1.out.keep hb hb.size)
  clear hb e0 e1 e2 e3 HB1 HX1 H1 g1
  obtain ⟨_, e0, e1, e2, e3, _⟩ := HX2.out
  obtain ⟨q, hq⟩ : ∃ q, Ap.one ⟨p, r, f, u⟩ = q := ⟨_, rfl⟩
  rw [hq]
  rw [hq] at HA
  clear hq
  by_cases ho : q = 0
  rotate_left
  · have g1 : (q != 0) = true := by simpa using ho
    have HR := Lib.hid (show Ap.add L ⟨p, r, f, u⟩ = (L, q) by rw [HA.out, if_pos ho])
    clear HA ho
    go_wp2_with fail
    exact bodyPost_ret (v := .tuple #[.slice A n c, .int .i64 q]) (by simp [results, Try.results54, go_sem]) rfl (by rw [HR.out]; exact ⟨A, n, c, rfl, H2.out, HB2.out⟩)
  replace HA := Lib.hid (show Ap.add L ⟨p, r, f, u⟩ = _ by rw [HA.out, if_neg (by simpa using ho)])
  have g1 : (q != 0) = false := by simpa using ho
  clear ho
  go_wp2_with fail
  refine (overlaps39 A n c L p r f u w2 H2.out).mono ?_; rintro e w3 ⟨rfl, hb⟩
  have HB3 := Lib.hid (HB2.out.trans (hb.mono HB2.out.size))
  have HX3 := Lib.hid (HX2.out.keep hb)
  have H3 := Lib.hid (H2.out.keep hb hb.size)
  clear hb e0 e1 e2 e3 HB2 HX2 H2 g1
  obtain ⟨_, e0, e1, e2, e3, _⟩ := HX3.out
  rcases hq : Ap.meets L ⟨p, r, f, u⟩ with _ | _
  rotate_left
  · have HR := Lib.hid (show Ap.add L ⟨p, r, f, u⟩ = (L, 10) by rw [HA.out, if_pos hq])
    clear HA hq
    go_wp2_with fail
    exact bodyPost_ret (v := .tuple #[.slice A n c, .int .i64 10]) (by simp [results, Try.results54, go_sem]) rfl (by rw [HR.out]; exact ⟨A, n, c, rfl, H3.out, HB3.out⟩)
  replace HA := Lib.hid (show Ap.add L ⟨p, r, f, u⟩ = _ by rw [HA.out, if_neg (by rw [hq]; decide)])
  clear hq
  by_cases h60 : n = 60
  · subst h60
    have HR := Lib.hid (show Ap.add L ⟨p, r, f, u⟩ = (L, 1) by rw [HA.out, if_pos HL.out])
    clear HA
    go_wp2_with fail
    exact bodyPost_ret (v := .tuple #[.slice A 60 c, .int .i64 1]) (by simp [results, Try.results54, go_sem]) rfl (by rw [HR.out]; exact ⟨A, 60, c, rfl, H3.out, HB3.out⟩)
  replace HA := Lib.hid (show Ap.add L ⟨p, r, f, u⟩ = (Ap.ins L ⟨p, r, f, u⟩, 0) by rw [HA.out, if_neg (by rw [HL.out]; exact h60)])
  have g1 : ((n : Int) == 60) = false := beq_false_of_ne (by omega)
  clear h60
  go_wp2_with fail
  refine (index39a A n c L w.heap.size p r f u w3 H3.out HX3.out).mono ?_; rintro e w4 ⟨rfl, hb⟩
  have HB4 := Lib.hid (HB3.out.trans (hb.mono HB3.out.size))
  have HX4 := Lib.hid (HX3.out.keep hb)
  have H4 := Lib.hid (H3.out.keep hb hb.size)
  clear hb e0 e1 e2 e3 HB3 HX3 H3 g1
  obtain ⟨_, e0, e1, e2, e3, _⟩ := HX4.out
  obtain ⟨k, hk⟩ : ∃ k, L.findIdx (Ap.lt ⟨p, r, f, u⟩) = k := ⟨_, rfl⟩
  have HI := Lib.hid (show Ap.ins L ⟨p, r, f, u⟩ = L.take k ++ [⟨p, r, f, u⟩] ++ L.drop k by unfold Ap.ins; rw [hk])
  have hkn : k ≤ n := by rw [← HL.out, ← hk]; exact List.findIdx_le_length
  have HF := Lib.hid (show fstI (fun y : Ap => Ap.lt ⟨p, r, f, u⟩ y) L = if k < n then (k : Int) else -1 by unfold fstI; rw [hk, HL.out])
  rw [HF.out]
  clear hk HF
  have hn60 : n ≤ 60 := HN60.out
  have HKN := Lib.hid (And.intro hkn hn60)
  have f0 : ∀ w', Below w4.heap.size w4 w' → w'.cell? ⟨w.heap.size, 0, none⟩ = some (.string p) := fun w' hb => (hb.cell HX4.out.lt).trans HX4.out.c0
  have f1 : ∀ w', Below w4.heap.size w4 w' → w'.cell? ⟨w.heap.size, 1, none⟩ = some (.string r) := fun w' hb => (hb.cell HX4.out.lt).trans HX4.out.c1
  have f2 : ∀ w', Below w4.heap.size w4 w' → w'.cell? ⟨w.heap.size, 2, none⟩ = some (.int .i64 f) := fun w' hb => (hb.cell HX4.out.lt).trans HX4.out.c2
  have f3 : ∀ w', Below w4.heap.size w4 w' → w'.cell? ⟨w.heap.size, 3, none⟩ = some (.int .i64 u) := fun w' hb => (hb.cell HX4.out.lt).trans HX4.out.c3
  have s1 : (0 : Int) ≤ (k : Int) := by omega
  have s2 : k ≤ c := by omega
  clear e0 e1 e2 e3
  have kp1 : Below w4.drew.heap.size w4.drew (w4.alloc (.cells #[.string p, .string r, .int .i64 f, .int .i64 u] 74)).drew := below_alloc_drew _ _
  have kp2 : Below (w4.alloc (.cells #[.string p, .string r, .int .i64 f, .int .i64 u] 74)).drew.heap.size (w4.alloc (.cells #[.string p, .string r, .int .i64 f, .int .i64 u] 74)).drew ((w4.alloc (.cells #[.string p, .string r, .int .i64 f, .int .i64 u] 74)).alloc (.cells #[.slice A k c, .slice (some ⟨w4.heap.size, 0, none⟩) 1 1, .slice (if c = k then A else A.map (·.add (k * 4))) (n - k) (c - k)] 72)).drew := below_alloc_drew _ _
  by_cases hlt : k < n
  · rw [if_pos hlt]
    have g1 : decide ((k : Int) < 0) = false := decide_eq_false (by omega)
    go_wp2_with fail
    go_region_held3 (fun w' => Below w4.heap.size w4 w')
      (first | assumption | (exact below_alloc_drew _ _) | (exact Below.refl _ _) | (exact below_of_drawn 1) | (exact (Below.refl _ _).drew) | (exact below_drewN (by assumption) _) | (exact below_nextR (by assumption) (by assumption) (Below.size (by assumption))))
      (first
        | (go_at_call 98; (with_reducible refine (concat_add39 A n c k L p r f u w4 H4.out HKN.out.1 HKN.out.2).mono ?_); rintro e wz ⟨v, rfl, hown, hbz⟩))
    go_wp2_with fail
    obtain ⟨A9, n9, c9, rfl, _, hr9⟩ := hown.row
    exact bodyPost_ret (v := .tuple #[.slice A9 n9 c9, .int .i64 0]) (by simp [results, Try.results54, go_sem]) rfl (by rw [HA.out, HI.out]; exact ⟨A9, n9, c9, rfl, hr9, HB4.out.trans (hbz.mono HB4.out.size)⟩)
  · rw [if_neg hlt]
    obtain rfl : n = k := by omega
    go_wp2_with fail
    by_cases hcn : c = n
    · subst hcn
      have HC := concat_add39 A c c c L p r f u w4 H4.out HKN.out.1 HKN.out.2
      rw [Nat.sub_self] at HC kp2
      simp only [if_true] at HC kp2
      replace HC := Lib.hid HC
      go_region_held3 (fun w' => Below w4.heap.size w4 w')
        (first | assumption | (exact below_alloc_drew _ _) | (exact Below.refl _ _) | (exact below_of_drawn 1) | (exact (Below.refl _ _).drew) | (exact below_drewN (by assumption) _) | (exact below_nextR (by assumption) (by assumption) (Below.size (by assumption))))
        (first
          | (go_at_call 98; (with_reducible refine HC.out.mono ?_); rintro e wz ⟨v, rfl, hown, hbz⟩))
      go_wp2_with fail
      obtain ⟨A9, n9, c9, rfl, _, hr9⟩ := hown.row
      exact bodyPost_ret (v := .tuple #[.slice A9 n9 c9, .int .i64 0]) (by simp [results, Try.results54, go_sem]) rfl (by rw [HA.out, HI.out]; exact ⟨A9, n9, c9, rfl, hr9, HB4.out.trans (hbz.mono HB4.out.size)⟩)
    · have HC := concat_add39 A n c n L p r f u w4 H4.out HKN.out.1 HKN.out.2
      rw [Nat.sub_self, if_neg hcn] at HC kp2
      replace HC := Lib.hid HC
      go_region_held3 (fun w' => Below w4.heap.size w4 w')
        (first | assumption | (exact below_alloc_drew _ _) | (exact Below.refl _ _) | (exact below_of_drawn 1) | (exact (Below.refl _ _).drew) | (exact below_drewN (by assumption) _) | (exact below_nextR (by assumption) (by assumption) (Below.size (by assumption))))
        (first
          | (go_at_call 98; (with_reducible refine HC.out.mono ?_); rintro e wz ⟨v, rfl, hown, hbz⟩))
      go_wp2_with fail
      obtain ⟨A9, n9, c9, rfl, _, hr9⟩ := hown.row
      exact bodyPost_ret (v := .tuple #[.slice A9 n9 c9, .int .i64 0]) (by simp [results, Try.results54, go_sem]) rfl (by rw [HA.out, HI.out]; exact ⟨A9, n9, c9, rfl, hr9, HB4.out.trans (hbz.mono HB4.out.size)⟩)
end Go.Proofs.Ytoomgbddfcmjnaa
