/- Rounding: the law that rounding to 1, and rounding what is rounded, changes nothing. -/
import Derived.Test.YtgclljmchdlbeaaNn
namespace Go.Proofs.Ytgclljmchdlbeaa
open Go.RowKit
theorem below_cod34 {w0 w w' : World} {g : Nat} (h : Below w0.heap.size w0 w) (hg : w.grownBy w' (some g)) (hgg : w0.heap.size ≤ g) : Below w0.heap.size w0 w' :=
  h.trans ⟨hg.os, hg.tape, hg.output, hg.size, fun j hj => hg.block j (Nat.lt_of_lt_of_le hj h.size) (fun e => by injection e with e; omega)⟩
theorem Rd.one (m n : Nat) (t : List Int) (b : Int) (h : Rd.Tb m n t b) : Rd.Tb m n t 1 ∧ Rd.best n t 1 = t := by
  have h1 : Rd.Tb m n t 1 := ⟨h.m1, h.m2, h.n1, h.n2, h.len, by decide, by decide, h.sm⟩
  refine ⟨h1, ?_⟩
  have := Rd.find_id (F := fun p => Rd.fits n t.length t p 1) (b := 1) (l := t) (p := []) (fun x _ => Rd.mult_self (Int.one_dvd x)) (by simpa using Rd.fits_self n t.length t 1 (by decide))
  unfold Rd.best
  rw [this]; rfl
theorem Rd.best_sm (m n : Nat) (t : List Int) (b : Int) (h : Rd.Tb m n t b) (hb : b ≤ 10) (ht : ∀ x ∈ t, x ≤ 29) : (Rd.best n t b).length = t.length ∧ ∀ i, i < t.length → b ∣ (Rd.best n t b).getD i 0 ∧ 0 ≤ (Rd.best n t b).getD i 0 ∧ (Rd.best n t b).getD i 0 ≤ 1000 ∧ (Rd.best n t b).getD i 0 - t.getD i 0 < b ∧ t.getD i 0 - (Rd.best n t b).getD i 0 < b := by
  have hin := h.find.2.1
  refine ⟨hin.len, fun i hi => ?_⟩
  have h1 := hin.at i hi
  have h2 := Rd.of_mult h.b1 h1
  have hm : t.getD i 0 ∈ t := getD_mem ⟨rfl, hi⟩
  have h3 := h.sm _ hm
  have h4 := ht _ hm
  refine ⟨h2.1, ?_, by omega, h2.2.1, h2.2.2⟩
  have h5 := h1
  unfold Rd.mult at h5
  have hle : 0 ≤ t.getD i 0 - t.getD i 0 % b := by
    have e1 := Int.mul_ediv_add_emod (t.getD i 0) b
    have e2 := Int.mul_nonneg (show 0 ≤ b by have := h.b1; omega) (Int.ediv_nonneg h3.1 (show 0 ≤ b by have := h.b1; omega))
    omega
  have := h.b1
  split at h5
  · have : (Rd.best n t b).getD i 0 = t.getD i 0 := by simpa using h5
    omega
  · have : (Rd.best n t b).getD i 0 = t.getD i 0 - t.getD i 0 % b ∨ (Rd.best n t b).getD i 0 = t.getD i 0 - t.getD i 0 % b + b := by simpa using h5
    omega
theorem mem_getD {l : List Int} {x : Int} (h : x ∈ l) : ∃ i, i < l.length ∧ l.getD i 0 = x := by
  obtain ⟨i, hi, rfl⟩ := List.getElem_of_mem h
  exact ⟨i, hi, by rw [List.getD_eq_getElem?_getD, List.getElem?_eq_getElem hi]; rfl⟩
theorem Rd.best_mem (m n : Nat) (t : List Int) (b : Int) (h : Rd.Tb m n t b) (hb : b ≤ 10) (ht : ∀ x ∈ t, x ≤ 29) : ∀ x ∈ Rd.best n t b, 0 ≤ x ∧ x ≤ 1000 ∧ b ∣ x := fun x hx => by
  obtain ⟨i, hi, rfl⟩ := mem_getD hx
  have h1 := Rd.best_sm m n t b h hb ht
  have h2 := h1.2 i (by rw [← h1.1]; exact hi)
  exact ⟨h2.2.1, h2.2.2.1, h2.1⟩
theorem Rd.again (m n : Nat) (t : List Int) (b : Int) (h : Rd.Tb m n t b) (hb : b ≤ 10) (ht : ∀ x ∈ t, x ≤ 29) : Rd.Tb m n (Rd.best n t b) b ∧ Rd.best n (Rd.best n t b) b = Rd.best n t b := by
  have hm := Rd.best_mem m n t b h hb ht
  have h1 : Rd.Tb m n (Rd.best n t b) b := ⟨h.m1, h.m2, h.n1, h.n2, by rw [(Rd.best_sm m n t b h hb ht).1]; exact h.len, h.b1, h.b2, fun x hx => by have := hm x hx; omega⟩
  refine ⟨h1, ?_⟩
  generalize Rd.best n t b = r at *
  have := Rd.find_id (F := fun p => Rd.fits n r.length r p b) (b := b) (l := r) (p := []) (fun x hx => Rd.mult_self (hm x hx).2.2) (by simpa using Rd.fits_self n r.length r b h.b1)
  unfold Rd.best
  rw [this]; rfl
theorem walkStays (W : World) (A : Option Addr) (n c : Nat) (l : List Int) (h : Nums W .u8 W.heap.size A n c l) :
    Calls Try.prog 5 #[.slice A n c] W fun e w => e = .returned (.bool true) ∧ Below W.heap.size W w := by
  go_enter Try.func5, Try.ntmps5
  go_wp2_with fail
  refine (new_any A n c l W h).mono ?_; rintro e w1 ⟨rfl, hc1, hb1⟩
  have HB1 := Lib.hid hb1
  clear hb1
  go_wp2_with fail
  refine (table34 _ _ w1 hc1).mono ?_; rintro e w2 ⟨p, q, t, b, v, rfl, ho, HT, hc2, hg2⟩
  obtain ⟨A2, c2, rfl, hn⟩ := ho.nums (fun x hx => wf64s (by have := HT.out.1.sm x hx; omega))
  have HN := Lib.hid hn
  have HB2 := Lib.hid (below_cod34 HB1.out hg2 hc1.lt.2)
  have H1 := Lib.hid (Rd.one p q t b HT.out.1)
  clear hc1 hc2 hg2 ho hn
  go_wp2_with fail
  refine (H1.out.1.round A2 _ c2 w2 HN.out).mono ?_; rintro e w3 ⟨v, rfl, hv, hb3⟩
  rw [H1.out.2] at hv
  obtain ⟨A3, c3, rfl, hn⟩ := hv.nums (fun x hx => wf64s (by have := HT.out.1.sm x hx; omega))
  have HN2 := Lib.hid (HN.out.keep hb3 hb3.size)
  have HO := Lib.hid hn
  have HB3 := Lib.hid (HB2.out.trans (hb3.mono HB2.out.size))
  clear hv hn hb3
  go_wp2_with fail
  refine (HT.out.1.round A2 _ c2 w3 HN2.out).mono ?_; rintro e w4 ⟨v, rfl, hv, hb4⟩
  have HS := Lib.hid (Rd.again p q t b HT.out.1 HT.out.2.1 HT.out.2.2)
  have HM := Lib.hid (Rd.best_mem p q t b HT.out.1 HT.out.2.1 HT.out.2.2)
  obtain ⟨r, hr⟩ : ∃ r, Rd.best q t b = r := ⟨_, rfl⟩
  rw [hr] at hv HS HM
  obtain ⟨A4, c4, rfl, hn⟩ := hv.nums (fun x hx => wf64s (by have := HM.out x hx; omega))
  have HN3 := Lib.hid (HN2.out.keep hb4 hb4.size)
  have HO2 := Lib.hid (HO.out.keep hb4 hb4.size)
  have HR := Lib.hid hn
  have HB4 := Lib.hid (HB3.out.trans (hb4.mono HB3.out.size))
  clear hv hn hb4 hr
  go_wp2_with fail
  refine (HS.out.1.round A4 _ c4 w4 HR.out).mono ?_; rintro e w5 ⟨v, rfl, hv, hb5⟩
  rw [HS.out.2] at hv
  obtain ⟨A5, c5, rfl, hn⟩ := hv.nums (fun x hx => wf64s (by have := HM.out x hx; omega))
  have HN4 := Lib.hid (HN3.out.keep hb5 hb5.size)
  have HO3 := Lib.hid (HO2.out.keep hb5 hb5.size)
  have HR2 := Lib.hid (HR.out.keep hb5 hb5.size)
  have HR3 := Lib.hid hn
  have HB5 := Lib.hid (HB4.out.trans (hb5.mono HB4.out.size))
  clear hv hn hb5
  go_wp2_with fail
  refine (ints34 _ _ _ _ _ _ _ _ _ _ w5 HO3.out HN4.out).mono ?_; rintro e w6 ⟨rfl, hb6⟩
  rw [show decide (t = t) = true by simp]
  have HR4 := Lib.hid (HR2.out.keep hb6 hb6.size)
  have HR5 := Lib.hid (HR3.out.keep hb6 hb6.size)
  have HB6 := Lib.hid (HB5.out.trans (hb6.mono HB5.out.size))
  clear hb6
  go_wp2_with fail
  refine (ints34 _ _ _ _ _ _ _ _ _ _ w6 HR5.out HR4.out).mono ?_; rintro e w7 ⟨rfl, hb7⟩
  rw [show decide (r = r) = true by simp]
  have HB7 := Lib.hid (HB6.out.trans (hb7.mono HB6.out.size))
  clear hb7
  go_wp2_with fail
  refine (awake34 w7).mono ?_; rintro e w8 ⟨rfl, hb8⟩
  have HB8 := Lib.hid (HB7.out.trans (hb8.mono HB7.out.size))
  clear hb8
  go_wp2_with fail
  go_ret
  exact ⟨rfl, HB8.out⟩
end Go.Proofs.Ytgclljmchdlbeaa
