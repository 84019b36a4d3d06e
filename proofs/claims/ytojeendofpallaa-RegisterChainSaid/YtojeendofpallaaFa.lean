/- Register: the chain. -/
import Derived.Test.YtojeendofpallaaEz
namespace Go.Proofs.Ytojeendofpallaa
open Go.RowKit
/-- the entry with another text -/
def Rg.retext (x : Rg.En) (t : ByteArray) : Rg.En := ⟨x.num, x.bef, x.kind, x.of, x.out, t, x.link⟩
theorem Rg.flat_set {L : List Rg.En} : ∀ {k : Nat} (_ : k < L.length) (t : ByteArray), (Rg.flat L).set (k * 7 + 5) (.string t) = Rg.flat (L.set k (Rg.retext (L.getD k Rg.En0) t)) := by
  intro k hk t
  refine List.ext_getElem? fun i => ?_
  have hl : (Rg.flat (L.set k (Rg.retext (L.getD k Rg.En0) t))).length = L.length * 7 := by rw [Rg.flat_len, List.length_set]
  rcases Nat.lt_or_ge i (L.length * 7) with hi | hi
  · have hq : i / 7 < L.length := by omega
    have hi7 : i % 7 < 7 := by omega
    have hii : i = i / 7 * 7 + i % 7 := by omega
    have e1 := Rg.flat_get L (i / 7) hq (i % 7) hi7
    have e2 := Rg.flat_get (L.set k (Rg.retext (L.getD k Rg.En0) t)) (i / 7) (by rw [List.length_set]; exact hq) (i % 7) hi7
    rw [← hii] at e1 e2
    rw [e2, List.getElem?_set]
    by_cases hik : i / 7 = k
    · subst hik
      have e3 : (L.set (i / 7) (Rg.retext (L.getD (i / 7) Rg.En0) t)).getD (i / 7) Rg.En0 = Rg.retext (L.getD (i / 7) Rg.En0) t := by simp [List.getD, hq]
      rw [e3]
      by_cases h5 : i / 7 * 7 + 5 = i
      · rw [if_pos h5, if_pos (by rw [Rg.flat_len]; omega), show i % 7 = 5 by omega]
        rfl
      · rw [if_neg h5, e1]
        have : i % 7 ≠ 5 := by omega
        rcases (show i % 7 = 0 ∨ i % 7 = 1 ∨ i % 7 = 2 ∨ i % 7 = 3 ∨ i % 7 = 4 ∨ i % 7 = 6 by omega) with h | h | h | h | h | h <;> rw [h] <;> rfl
    · have e3 : (L.set k (Rg.retext (L.getD k Rg.En0) t)).getD (i / 7) Rg.En0 = L.getD (i / 7) Rg.En0 := by
        simp only [List.getD_eq_getElem?_getD, List.getElem?_set]
        rw [if_neg (fun h => hik h.symm)]
      rw [e3, if_neg (by omega), e1]
  · rw [List.getElem?_eq_none (by rw [List.length_set, Rg.flat_len]; exact hi), List.getElem?_eq_none (by rw [hl]; exact hi)]
theorem EnOwn.retext {w : World} {base g n cap k : Nat} {L : List Rg.En} (h : EnOwn w base (.slice (some ⟨g, 0, none⟩) n cap) L) (hk : k < L.length) (t : ByteArray) :
    EnOwn (w.setCell ⟨g, k * 7 + 5, none⟩ (.string t)) base (.slice (some ⟨g, 0, none⟩) n cap) (L.set k (Rg.retext (L.getD k Rg.En0) t)) ∧ w.grownBy (w.setCell ⟨g, k * 7 + 5, none⟩ (.string t)) (some g) := by
  have hn : n = L.length := by
    obtain ⟨_, ⟨hv, _⟩ | ⟨g', cap', cur, hv, _⟩⟩ := h
    · cases hv
    · injection hv
  subst hn
  have q := World.ownsRow.stored h (k * 7 + 5) (.string t)
  refine ⟨?_, q.2⟩
  have := q.1
  rw [Rg.flat_set hk] at this
  unfold EnOwn
  rw [List.length_set]
  exact this
theorem Rg.before_take {L M : List Rg.En} {k j : Nat} (h : L.take k = M.take k) (hj : j ≤ k) : Rg.before L j = Rg.before M j := by
  unfold Rg.before
  split
  · rfl
  · have e : ∀ N : List Rg.En, N.getD (j - 1) Rg.En0 = (N.take k).getD (j - 1) Rg.En0 := fun N => by
      simp only [List.getD_eq_getElem?_getD, List.getElem?_take]
      rw [if_pos (by omega)]
    rw [e L, e M, h]
theorem Rg.chkUp_take {L M : List Rg.En} {k : Nat} (h : L.take k = M.take k) : ∀ j, j ≤ k → Rg.chkUp L j = Rg.chkUp M j := by
  intro j
  induction j with
  | zero => intro _; rfl
  | succ j ih =>
    intro hj
    have e : ∀ N : List Rg.En, N.getD j Rg.En0 = (N.take k).getD j Rg.En0 := fun N => by
      simp only [List.getD_eq_getElem?_getD, List.getElem?_take]
      rw [if_pos (by omega)]
    have e2 : L.take j = M.take j := by
      have := congrArg (List.take j) h
      rwa [List.take_take, List.take_take, Nat.min_eq_left (by omega)] at this
    simp only [Rg.chkUp]
    rw [ih (by omega)]
    unfold Rg.at
    rw [e L, h, ← e M, Rg.before_take h (by omega), e2]
theorem Rg.Reg.up {L : List Rg.En} (h : Rg.Reg L) : ∀ j, j ≤ L.length → Rg.chkUp L j = 0 := by
  intro j
  induction j with
  | zero => intro _; rfl
  | succ j ih =>
    intro hj
    have h1 := ih (by omega)
    simp only [Rg.chkUp]
    rw [if_pos h1]
    unfold Rg.at
    rw [if_neg (by rw [h.num j hj]; simp), if_neg (by rw [h.bef j hj, ← h.bef j hj, ← h.lnk j hj]; simp), h.abt j hj]
/-- an entry with another text and the same link is noticed -/
theorem Rg.Reg.noticed {L : List Rg.En} (h : Rg.Reg L) {k : Nat} (hk : k < L.length) {t : ByteArray} (hl : Rg.lnk (L.getD k Rg.En0).num (L.getD k Rg.En0).bef (L.getD k Rg.En0).kind (L.getD k Rg.En0).of (L.getD k Rg.En0).out t ≠ (L.getD k Rg.En0).link) : Rg.chk (L.set k (Rg.retext (L.getD k Rg.En0) t)) = 47 := by
  have hlen : (L.set k (Rg.retext (L.getD k Rg.En0) t)).length = L.length := List.length_set
  have htk : L.take k = (L.set k (Rg.retext (L.getD k Rg.En0) t)).take k := by rw [List.take_set_of_le (Nat.le_refl _)]
  have hget : (L.set k (Rg.retext (L.getD k Rg.En0) t)).getD k Rg.En0 = Rg.retext (L.getD k Rg.En0) t := by simp [List.getD, hk]
  have hat : Rg.at (L.set k (Rg.retext (L.getD k Rg.En0) t)) k = 47 := by
    unfold Rg.at
    rw [hget]
    have hc1 : ¬ ((Rg.retext (L.getD k Rg.En0) t).num ≠ (k : Int) + 1) := by
      show ¬ ((L.getD k Rg.En0).num ≠ (k : Int) + 1)
      rw [h.num k hk]; simp
    rw [if_neg hc1]
    exact if_pos (.inr (fun e => hl e.symm))
  rw [Rg.chk_at (j := k) (by rw [hlen]; exact h.few) (by rw [← Rg.chkUp_take htk k (Nat.le_refl _)]; exact h.up k (by omega)) (by rw [hlen]; exact hk) (by rw [hat]; decide), hat]
theorem Rg.retext_same {L : List Rg.En} {k : Nat} (hk : k < L.length) : L.set k (Rg.retext (L.getD k Rg.En0) (L.getD k Rg.En0).txt) = L := by
  have e : Rg.retext (L.getD k Rg.En0) (L.getD k Rg.En0).txt = L[k] := by simp [Rg.retext, List.getD, hk]
  rw [e, List.set_getElem_self]
theorem Rg.Reg.take {L : List Rg.En} (h : Rg.Reg L) {m : Nat} (hm : m ≤ L.length) : Rg.Reg (L.take m) := by
  have hl : (L.take m).length = m := by rw [List.length_take]; omega
  have hg : ∀ j, j < m → (L.take m).getD j Rg.En0 = L.getD j Rg.En0 := fun j hj => by
    simp only [List.getD_eq_getElem?_getD, List.getElem?_take]
    rw [if_pos hj]
  have hb : ∀ j, j ≤ m → Rg.before (L.take m) j = Rg.before L j := fun j hj => Rg.before_take (k := m) (by rw [List.take_take, Nat.min_self]) hj
  refine ⟨by rw [hl]; have := h.few; omega, fun j hj => ?_, fun j hj => ?_, fun j hj => ?_, fun j hj => ?_⟩
  · rw [hl] at hj; rw [hg j hj]; exact h.num j (by omega)
  · rw [hl] at hj; rw [hg j hj, hb j (by omega)]; exact h.bef j (by omega)
  · rw [hl] at hj; rw [hg j hj]; exact h.lnk j (by omega)
  · rw [hl] at hj; rw [hg j hj, List.take_take, Nat.min_eq_left (by omega)]; exact h.abt j (by omega)
theorem empty_text {s : ByteArray} (h : s.toList.isEmpty = true) (t : ByteArray) : t ++ s = t := by
  rw [ByteArray.toList_eq] at h
  have h2 : s.data = #[] := by
    have h3 : s.data.toList = [] := List.isEmpty_iff.1 h
    exact Array.toList_eq_nil_iff.1 h3
  have h4 : s = ByteArray.empty := ByteArray.ext h2
  rw [h4]; simp
theorem EnOwn.form {w : World} {base n : Nat} {v : Value} {L : List Rg.En} (h : EnOwn w base v L) (hn : L.length = n) (h1 : 1 ≤ n) : ∃ g cap, v = .slice (some ⟨g, 0, none⟩) n cap ∧ base ≤ g ∧ g < w.heap.size := by
  have h0 := h
  obtain ⟨_, ⟨hv, hl⟩ | ⟨g', cap', cur, hv, hb, _, hle, hmx, _⟩⟩ := h
  · omega
  · subst hv
    exact ⟨g', cap', by rw [hn], hb, (World.ownsRow.lt h0 g' rfl).2⟩
theorem EnOwn.thaw {w : World} {base g n cap : Nat} {L : List Rg.En} (h : EnOwn w base (.slice (some ⟨g, 0, none⟩) n cap) L) (j : Nat) : w.frozen? ⟨g, j, none⟩ = false := by
  obtain ⟨_, ⟨hv, _⟩ | ⟨g', cap', cur, hv, _, hh, _⟩⟩ := h
  · cases hv
  · cases hv
    simp [World.frozen?, hh]
set_option maxHeartbeats 1600000 in
set_option maxRecDepth 100000 in
theorem walkChain (W : World) (A : Option Addr) (n c : Nat) (l : List Int) (h : Nums W .u8 W.heap.size A n c l) (a : Int) (ha0 : 0 ≤ a) (ha1 : a ≤ 255) (s : ByteArray) (_hs : s.size ≤ maxLen) :
    Calls Try.prog 10 #[.slice A n c, .int .u8 a, .string s] W fun e w => e = .returned (.bool true) ∧ Below W.heap.size W w := by
  go_enter Try.func10, Try.ntmps10
  by_cases hs2 : 200 < s.size
  · go_wp2_with fail
    refine (awake38 W).mono ?_; rintro e wz ⟨rfl, hbz⟩
    go_wp2_with fail
    go_ret
    exact ⟨rfl, hbz⟩
  have g2 : decide (200 < (s.size : Int)) = false := by simp; omega
  have HS2 := Lib.hid hs2
  clear hs2
  go_wp2_with fail
  refine (new_any A n c l W h).mono ?_; rintro e w1 ⟨rfl, hc1, hb1⟩
  have HB1 := Lib.hid hb1
  clear hb1
  go_wp2_with fail
  refine (register9 _ _ w1 hc1).mono ?_; rintro e w2 ⟨v, L, rfl, ho, hr, hl8, hc2, hg2⟩
  obtain ⟨Ar, nr, cr, rfl, hrow⟩ := ho.row (by omega)
  have hnr : nr ≤ 8 := by rw [← hrow.len]; exact hl8
  have HRW := Lib.hid hrow
  have HR := Lib.hid hr
  have HB2 := Lib.hid (below_cod HB1.out hg2)
  clear hc1 hg2 ho hrow hc2 hr hl8 h
  go_wp2_with fail
  have hcap := HRW.out.cap
  have hmax := HRW.out.max
  simp only [maxLen] at hmax
  have HLR := Lib.hid HRW.out.len
  go_loopw [21] (fun i wr => ∃ j : Nat, j ≤ nr ∧ i = .int .i64 j ∧ Hid (Below w2.heap.size w2 wr)) (fun i _ => nr - (intOf i).toNat)
  case atStart => exact ⟨0, by omega, rfl, Below.refl _ _⟩
  case round =>
    rename World => Y
    obtain ⟨j, hj, rfl, HIY⟩ := hrel
    by_cases hlt : j < nr
    · obtain ⟨j1, hj1⟩ : ∃ j1 : Nat, j + 1 = j1 := ⟨_, rfl⟩
      have ej : (j : Int) + 1 = (j1 : Int) := by omega
      have i1 : (0 : Int) ≤ (j1 : Int) := by omega
      have i2 : (j1 : Int) ≤ (cr : Int) := by omega
      have i3 : (cr : Int) ≤ 9223372036854775807 := by omega
      have i4 : (j1 : Int) ≤ (nr : Int) := by omega
      have HJ1 := Lib.hid hj1
      clear hj1
      go_wp2_with fail
      refine (check_ok Ar j1 cr (L.take j1) Y ((HRW.out.keep HIY.out HIY.out.size).first (by have := HJ1.out; omega)) (HR.out.take (by rw [HLR.out]; have := HJ1.out; omega))).mono ?_; rintro e w3 ⟨rfl, hb3⟩
      have HB3 := Lib.hid (HIY.out.trans (hb3.mono HIY.out.size))
      go_wp2_with fail
      go_roundw
      case rel => exact ⟨j + 1, by omega, by go_num, HB3.out⟩
      case measure => simp [intOf]; omega
    · obtain rfl : nr = j := by omega
      have HBY := Lib.hid (HB2.out.trans (HIY.out.mono HB2.out.size))
      have HRY := Lib.hid (HRW.out.keep HIY.out HIY.out.size)
      clear hlt hj
      by_cases hn0 : nr = 0
      · subst hn0
        go_wp2_with fail
        refine (awake38 Y).mono ?_; rintro e wz ⟨rfl, hbz⟩
        have HBZ := Lib.hid (HBY.out.trans (hbz.mono HBY.out.size))
        go_wp2_with fail
        go_ret
        exact ⟨rfl, HBZ.out⟩
      · have hnr0 : ((nr : Int) == 0) = false := by simp; omega
        have HN0 := Lib.hid hn0
        have hpos : 1 ≤ nr := by omega
        clear hn0
        obtain ⟨k, hk⟩ : ∃ k : Nat, a % (nr : Int) = (k : Int) := Int.eq_ofNat_of_zero_le (Int.emod_nonneg _ (by omega))
        have hkn : k < nr := by have := Int.emod_lt_of_pos a (show (0 : Int) < nr by omega); omega
        obtain ⟨X, hX⟩ : ∃ X : World, Y.alloc (.cells #[] 60) = X := ⟨_, rfl⟩
        have hbx : Below Y.heap.size Y X := by rw [← hX]; exact (Below.refl _ _).alloc (Nat.le_refl _) _
        have HO := Lib.hid (show EnOwn X Y.heap.size (.slice (some ⟨Y.heap.size, 0, none⟩) 0 0) [] by rw [← hX]; exact EnOwn.lit (heap_alloc_new _ _) (Nat.le_refl _))
        have HRX := Lib.hid (HRY.out.keep hbx hbx.size)
        have HBX := Lib.hid (HBY.out.trans (hbx.mono HBY.out.size))
        have HBX0 := Lib.hid hbx
        clear hbx
        go_wp2_with (at_builtin; refine app_ents _ rfl (.tmp 40) (.tmp 41) _ rfl Y.heap.size 64 entry_info (by omega) Try.underlying61 _ _ rfl HO.out _ _ _ _ _ rfl HRX.out (by simp; omega) HBX0.out.size ?_; intro v2 w3 ho2 hgrow2; (have hb2 := HO.out.grow HBX0.out hgrow2 HBX0.out.size (Nat.le_refl _)); (have HO2 := Lib.hid (show EnOwn w3 Y.heap.size v2 L from ho2)); (have HB2Y := Lib.hid hb2); (obtain ⟨g9, c9, rfl, hg9, hg9b⟩ := HO2.out.form HLR.out hpos); (obtain ⟨A5, n5, c5, e5, hrow5⟩ := HO2.out.row (by rw [HLR.out]; omega)); (injection e5 with e51 e52 e53; subst e51 e52 e53); (have HR5 := Lib.hid hrow5); (obtain ⟨g', num, bef, kind, of, out, txt, link, e9, HX, c0, c1, c2, c3, c4, c5, c6⟩ := hrow5.val hkn); (injection e9 with e9; injection e9 with e9; subst e9); (have f5 := HO2.out.thaw (k * 7 + 5)); (have hszb : (txt.size : Int) + (s.size : Int) ≤ 9223372036854775807 := by have htx := (Rg.about_ok (HR.out.abt k (by rw [HLR.out]; exact hkn)) (fun x hx => HR.out.nums x (List.mem_of_mem_take hx))).1; rw [HX.out.1] at htx; simp only at htx; have := HS2.out; omega); clear ho2 hgrow2 hb2 hrow5)
        obtain ⟨Z, hZ⟩ : ∃ Z : World, w3.setCell ⟨g9, k * 7 + 5, none⟩ (.string (txt ++ s)) = Z := ⟨_, rfl⟩
        have hrt := HO2.out.retext (k := k) (by rw [HLR.out]; exact hkn) (txt ++ s)
        rw [hZ, HX.out.1] at hrt
        have hgz := hrt.2
        have HOZ := Lib.hid hrt.1
        have HBZ := Lib.hid (HBY.out.trans ((HB2Y.out.setCell (B := Y.heap.size) (by simpa using hg9) (.string (txt ++ s)) : Below Y.heap.size Y (w3.setCell ⟨g9, k * 7 + 5, none⟩ (.string (txt ++ s)))).mono HBY.out.size))
        rw [hZ] at HBZ
        have b0 : Z.cell? ⟨g9, k * 7, none⟩ = some (.int .i64 num) := by rw [← hZ]; simp [go_sem, c0]
        have b1 : Z.cell? ⟨g9, k * 7 + 1, none⟩ = some (.int .u64 bef) := by rw [← hZ]; simp [go_sem, c1]
        have b2 : Z.cell? ⟨g9, k * 7 + 2, none⟩ = some (.int .i64 kind) := by rw [← hZ]; simp [go_sem, c2]
        have b3 : Z.cell? ⟨g9, k * 7 + 3, none⟩ = some (.int .i64 of) := by rw [← hZ]; simp [go_sem, c3]
        have b4 : Z.cell? ⟨g9, k * 7 + 4, none⟩ = some (.int .i64 out) := by rw [← hZ]; simp [go_sem, c4]
        have b5 : Z.cell? ⟨g9, k * 7 + 5, none⟩ = some (.string (txt ++ s)) := by rw [← hZ]; simp [go_sem, c5]
        have b6 : Z.cell? ⟨g9, k * 7 + 6, none⟩ = some (.int .u64 link) := by rw [← hZ]; simp [go_sem, c6]
        have hg9z : g9 < Z.heap.size := Nat.lt_of_lt_of_le hg9b hgz.size
        have hsm := HR.out.small (j := k) (by rw [HLR.out]; exact hkn)
        have htx := (Rg.about_ok (HR.out.abt k (by rw [HLR.out]; exact hkn)) (fun x hx => HR.out.nums x (List.mem_of_mem_take hx))).1
        have hnot := fun h9 => HR.out.noticed (k := k) (by rw [HLR.out]; exact hkn) (t := txt ++ s) h9
        have hsame := Rg.retext_same (L := L) (k := k) (by rw [HLR.out]; exact hkn)
        rw [HX.out.1] at hsm htx hnot hsame
        simp only at htx hnot hsame
        have hsz2 : (txt ++ s).size ≤ 5000 := by
          rw [ByteArray.size_append]
          have := HS2.out
          omega
        have HSM := Lib.hid (show Rg.Small ⟨num, bef, kind, of, out, txt ++ s, link⟩ from ⟨hsm.num, hsm.kind, hsm.of, hsm.out, by simp only; omega, hsm.bef⟩)
        have HNOT := Lib.hid hnot
        have HSAME := Lib.hid hsame
        obtain ⟨L2, hL2⟩ : ∃ L2, L.set k (Rg.retext ⟨num, bef, kind, of, out, txt, link⟩ (txt ++ s)) = L2 := ⟨_, rfl⟩
        have hsm2 : ∀ x ∈ L2, Rg.Small x := by
          intro x hx
          rw [← hL2] at hx
          rcases List.mem_or_eq_of_mem_set hx with h9 | h9
          · exact HR.out.smalls x h9
          · rw [h9]; exact HSM.out
        have HSM2 := Lib.hid hsm2
        have HL2 := Lib.hid hL2
        rw [hL2] at HOZ HNOT
        have hlen2 : L2.length = nr := by rw [← hL2, List.length_set, HLR.out]
        obtain ⟨A6, n6, c6', e6, hrow6⟩ := HOZ.out.row (by rw [hlen2]; omega)
        injection e6 with e61 e62 e63
        subst e61 e62 e63
        have HR6 := Lib.hid hrow6
        clear hsm htx hnot hsame hsm2 hL2 hrow6 hrt c0 c1 c2 c3 c4 c5 c6 f5 hgz
        rw [hZ]
        clear hZ
        by_cases hem : s.toList.isEmpty = true
        · have HCHK := Lib.hid (show Rg.chk L2 = 0 by
            rw [← HL2.out, empty_text hem, HSAME.out]
            exact HR.out.chk)
          go_quiet (fail)
          go_wp2_with fail
          have HBQ := Lib.hid (below_drewN (Below.refl Z.heap.size Z) nq)
          refine (check38 _ nr c9 L2 _ (HR6.out.keep HBQ.out (HBQ.out).size) HSM2.out (by omega)).mono ?_; rintro e w7 ⟨rfl, hb7⟩
          have HB7 := Lib.hid (HBZ.out.trans (((HBQ.out).trans (hb7.mono (HBQ.out).size)).mono HBZ.out.size))
          clear hb7
          rw [HCHK.out]
          go_wp2_with fail
          refine (awake38 w7).mono ?_; rintro e w8 ⟨rfl, hb8⟩
          have HB8 := Lib.hid (HB7.out.trans (hb8.mono HB7.out.size))
          go_wp2_with fail
          go_ret
          exact ⟨rfl, HB8.out⟩
        · have gem : s.toList.isEmpty = false := by simpa using hem
          have v0 : ∀ w', Below Z.heap.size Z w' → w'.cell? ⟨g9, k * 7, none⟩ = some (.int .i64 num) := fun w' h9 => (h9.cell hg9z).trans b0
          have v1 : ∀ w', Below Z.heap.size Z w' → w'.cell? ⟨g9, k * 7 + 1, none⟩ = some (.int .u64 bef) := fun w' h9 => (h9.cell hg9z).trans b1
          have v2 : ∀ w', Below Z.heap.size Z w' → w'.cell? ⟨g9, k * 7 + 2, none⟩ = some (.int .i64 kind) := fun w' h9 => (h9.cell hg9z).trans b2
          have v3 : ∀ w', Below Z.heap.size Z w' → w'.cell? ⟨g9, k * 7 + 3, none⟩ = some (.int .i64 of) := fun w' h9 => (h9.cell hg9z).trans b3
          have v4 : ∀ w', Below Z.heap.size Z w' → w'.cell? ⟨g9, k * 7 + 4, none⟩ = some (.int .i64 out) := fun w' h9 => (h9.cell hg9z).trans b4
          have v5 : ∀ w', Below Z.heap.size Z w' → w'.cell? ⟨g9, k * 7 + 5, none⟩ = some (.string (txt ++ s)) := fun w' h9 => (h9.cell hg9z).trans b5
          have v6 : ∀ w', Below Z.heap.size Z w' → w'.cell? ⟨g9, k * 7 + 6, none⟩ = some (.int .u64 link) := fun w' h9 => (h9.cell hg9z).trans b6
          clear b0 b1 b2 b3 b4 b5 b6 hem
          obtain ⟨lk, hlk⟩ : ∃ lk, Rg.lnk num bef kind of out (txt ++ s) = lk := ⟨_, rfl⟩
          have HLK := Lib.hid hlk
          rw [hlk] at HNOT
          clear hlk
          go_region_held3 (fun w' => Below Z.heap.size Z w')
            (first | assumption | (exact below_of_drawn 1) | (exact (Below.refl _ _).drew) | (exact below_drewN (by assumption) _) | (exact below_next28 (by assumption) (by assumption) (Below.size (by assumption))))
            (first
              | (go_at_call 40; (with_reducible refine (rlink38 num bef kind of out link (txt ++ s) _ HSM.out).mono ?_); rintro e wz ⟨rfl, hbz⟩; rw [HLK.out])
              | fail)
          have hbw : Below Z.heap.size Z wz := by assumption
          have HBW := Lib.hid hbw
          clear v0 v1 v2 v3 v4 v5 v6 hbw
          by_cases hll : lk = link
          · subst hll
            have g9 : (lk == lk) = true := by simp
            obtain ⟨ck, hck⟩ : ∃ ck, Rg.chk L2 = ck := ⟨_, rfl⟩
            have HCK := Lib.hid hck
            clear hck
            go_wp2_with fail
            refine (check38 _ nr c9 L2 _ (HR6.out.keep HBW.out (HBW.out).size) HSM2.out (by omega)).mono ?_; rintro e w7 ⟨rfl, hb7⟩
            have HB7 := Lib.hid (HBZ.out.trans (((HBW.out).trans (hb7.mono (HBW.out).size)).mono HBZ.out.size))
            clear hb7
            rw [HCK.out]
            go_wp2_with fail
            all_goals
              refine (awake38 w7).mono ?_
              rintro e w8 ⟨rfl, hb8⟩
              have HB8 := Lib.hid (HB7.out.trans (hb8.mono HB7.out.size))
              go_wp2_with fail
              go_ret
              exact ⟨rfl, HB8.out⟩
          · have g9 : (lk == link) = false := by simp [hll]
            have HCHK := Lib.hid (HNOT.out hll)
            clear hll
            go_wp2_with fail
            refine (check38 _ nr c9 L2 _ (HR6.out.keep HBW.out (HBW.out).size) HSM2.out (by omega)).mono ?_; rintro e w7 ⟨rfl, hb7⟩
            have HB7 := Lib.hid (HBZ.out.trans (((HBW.out).trans (hb7.mono (HBW.out).size)).mono HBZ.out.size))
            clear hb7
            rw [HCHK.out]
            go_wp2_with fail
            refine (awake38 w7).mono ?_; rintro e w8 ⟨rfl, hb8⟩
            have HB8 := Lib.hid (HB7.out.trans (hb8.mono HB7.out.size))
            go_wp2_with fail
            go_ret
            exact ⟨rfl, HB8.out⟩
end Go.Proofs.Ytojeendofpallaa
