/- Journals: the law that all functions do what the reference does, walked. -/
import Derived.Test.YtjhdhnefoclccaaKa
import Derived.Test.YtjhdhnefoclccaaJe
import Derived.Test.YtjhdhnefoclccaaJw
namespace Go.Proofs.Ytjhdhnefoclccaa
open Go.RowKit
theorem below_next {W w w' : World} (h : Below W.heap.size W w) (h' : Below w.heap.size w w') (hs : W.heap.size ≤ w.heap.size) : Below W.heap.size W w' := h.trans (h'.mono hs)
/-- a file of which both parts read as lists -/
def GivesTwo (L L' : List Int) (x : Int) (w : World) (e : Ending) (w' : World) : Prop := ∃ A n c A' n' c', e = .returned (.tuple #[.agg #[.slice A n c, .slice A' n' c'], .int .i64 x]) ∧ Nums w' .u8 w'.heap.size A n c L ∧ Nums w' .u8 w'.heap.size A' n' c' L' ∧ Below w.heap.size w w'
def Jn.app (l l' p : List Int) : List Int × Int := if (Jn.read l).2 = l.length then (l' ++ Jn.frame p, 0) else (l', 40)
theorem append_two (A A' B : Option Addr) (n c n' c' m d : Nat) (l l' p : List Int) (w : World) (h : Nums w .u8 w.heap.size A n c l) (h' : Nums w .u8 w.heap.size A' n' c' l') (hp : Nums w .u8 w.heap.size B m d p) (hs : n + n' + m ≤ 200000) (hm : m ≤ 4096) :
    Calls Try.prog 13 #[.agg #[.slice A n c, .slice A' n' c'], .slice B m d] w (GivesTwo l (Jn.app l l' p).1 (Jn.app l l' p).2 w) := by
  by_cases hr : (Jn.read l).2 = n
  · have e : Jn.app l l' p = (l' ++ Jn.frame p, 0) := by unfold Jn.app; rw [if_pos (by rw [hr, h.len])]
    rw [e]
    refine (append23 A A' B n c n' c' m d l l' p w h h' hp (by omega) hm (GivesPending (.slice A n c) (l' ++ Jn.frame p) w) (fun hx => absurd hr hx) (fun _ hx => absurd hx (by omega)) (fun _ _ => rfl)).mono ?_
    rintro e w1 ⟨v, rfl, hown, hb⟩
    obtain ⟨A2, n2, c2, rfl, _, hn⟩ := hown.numsN (fun x hx => (List.mem_append.1 hx).elim (h'.wf x) (Jn.frame_wf hp.wf x))
    exact ⟨_, _, _, _, _, _, rfl, h.keep hb hb.size, hn, hb⟩
  · have e : Jn.app l l' p = (l', 40) := by unfold Jn.app; rw [if_neg (by rw [h.len]; exact hr)]
    rw [e]
    refine (append23 A A' B n c n' c' m d l l' p w h h' hp (by omega) hm (GivesError (.slice A n c) (.slice A' n' c') 40 w) (fun _ => rfl) (fun hx => absurd hx hr) (fun hx => absurd hx hr)).mono ?_
    rintro e w1 ⟨rfl, hb⟩
    exact ⟨_, _, _, _, _, _, rfl, h.keep hb hb.size, h'.keep hb hb.size, hb⟩
theorem rappend_two (A A' B : Option Addr) (n c n' c' m d : Nat) (l l' p : List Int) (w : World) (h : Nums w .u8 w.heap.size A n c l) (h' : Nums w .u8 w.heap.size A' n' c' l') (hp : Nums w .u8 w.heap.size B m d p) (hs : n + n' + m ≤ 200000) (hm : m ≤ 4096) :
    Calls Try.prog 14 #[.agg #[.slice A n c, .slice A' n' c'], .slice B m d] w (GivesTwo l (Jn.app l l' p).1 (Jn.app l l' p).2 w) := by
  by_cases hr : (Jn.read l).2 = n
  · have e : Jn.app l l' p = (l' ++ Jn.frame p, 0) := by unfold Jn.app; rw [if_pos (by rw [hr, h.len])]
    rw [e]
    refine (rappend_ok A A' B n c n' c' m d l l' p w h h' hp hm hr (by omega)).mono ?_
    rintro e w1 ⟨v, v', rfl, ho, ho', hb⟩
    obtain ⟨A1, n1, c1, rfl, _, hn1⟩ := ho.numsN h.wf
    obtain ⟨A2, n2, c2, rfl, _, hn⟩ := ho'.numsN (fun x hx => (List.mem_append.1 hx).elim (h'.wf x) (Jn.frame_wf hp.wf x))
    exact ⟨_, _, _, _, _, _, rfl, hn1, hn, hb⟩
  · have e : Jn.app l l' p = (l', 40) := by unfold Jn.app; rw [if_neg (by rw [h.len]; exact hr)]
    rw [e]
    refine (rappend_err A A' B n c n' c' m d l l' p 40 w h h' hp (by omega) (.inr (.inl ⟨hm, hr, rfl⟩))).mono ?_
    rintro e w1 ⟨v, v', rfl, ho, ho', hb⟩
    obtain ⟨A1, n1, c1, rfl, _, hn1⟩ := ho.numsN h.wf
    obtain ⟨A2, n2, c2, rfl, _, hn⟩ := ho'.numsN h'.wf
    exact ⟨_, _, _, _, _, _, rfl, hn1, hn, hb⟩
theorem Jn.readF_all {P : Int → Prop} : ∀ (f : Nat) (b : List Int), (∀ x ∈ b, P x) → ∀ l ∈ (Jn.readF f b).1, ∀ x ∈ l, P x
  | 0, _, _ => by simp [Jn.readF]
  | f + 1, b, h => by
    intro l hl x hx
    simp only [Jn.readF] at hl
    split at hl
    · simp at hl
    · rcases List.mem_cons.1 hl with rfl | hl
      · exact h x (List.mem_of_mem_drop (List.mem_of_mem_take hx))
      · exact Jn.readF_all f _ (fun y hy => h y (List.mem_of_mem_drop hy)) l hl x hx
/-- what Recover answers, and what Read answers, with all its rows read as lists -/
theorem rows_of {w : World} {base : Nat} {v : Value} {b : List Int} (hw : ∀ x ∈ b, (Lit.int .u8 x).wf = true) (hb : b.length ≤ 1000000) (h : OwnRows w base 22 5 .u8 v (Jn.read b).1) :
    ∃ A N c, v = .slice A N c ∧ Hid (N = (Jn.read b).1.length) ∧ NumRows w .u8 w.heap.size A N N (Jn.read b).1 :=
  OwnRows.numRows h (by have := Jn.read_le (b.length + 1) b; unfold Jn.read; omega) (fun l hl x hx => Jn.readF_all _ b hw l hl x hx)
set_option maxRecDepth 100000 in
set_option maxHeartbeats 1600000 in
theorem walkAnswers (W : World) (A : Option Addr) (n c : Nat) (l : List Int) (h : Nums W .u8 W.heap.size A n c l) (A' : Option Addr) (n' c' : Nat) (l' : List Int) (h' : Nums W .u8 W.heap.size A' n' c' l') (B : Option Addr) (m d : Nat) (p : List Int) (hp : Nums W .u8 W.heap.size B m d p) (keep : Int) (hk0 : -9223372036854775808 ≤ keep) (hk1 : keep ≤ 9223372036854775807) :
    Calls Try.prog 3 #[.slice A n c, .slice A' n' c', .slice B m d, .int .i64 keep] W fun e w => e = .returned (.bool true) ∧ Below W.heap.size W w := by
  obtain ⟨W1, hW1⟩ : ∃ X : World, W.alloc (.cells #[.slice A n c, .slice A' n' c', .slice B m d] 22) = X := ⟨_, rfl⟩
  have hb1 : Below W.heap.size W W1 := by rw [← hW1]; exact (Below.refl _ _).alloc (Nat.le_refl _) _
  have c0 : ∀ j, j < 3 → W1.cell? ⟨W.heap.size, j, none⟩ = some (.slice ((fun j : Nat => match j with | 0 => (A, n, c) | 1 => (A', n', c') | _ => (B, m, d)) j).1 ((fun j : Nat => match j with | 0 => (A, n, c) | 1 => (A', n', c') | _ => (B, m, d)) j).2.1 ((fun j : Nat => match j with | 0 => (A, n, c) | 1 => (A', n', c') | _ => (B, m, d)) j).2.2) := fun j hj => by
    rw [← hW1]
    rcases (show j = 0 ∨ j = 1 ∨ j = 2 by omega) with rfl | rfl | rfl <;> simp [go_sem]
  have H := Lib.hid (h.keep hb1 hb1.size)
  have H' := Lib.hid (h'.keep hb1 hb1.size)
  have HP := Lib.hid (hp.keep hb1 hb1.size)
  have HB := Lib.hid hb1
  have HK := Lib.hid (And.intro hk0 hk1)
  have C0 := Lib.hid c0
  clear h h' hp hk0 hk1 hb1 c0
  go_enter Try.func3, Try.ntmps3
  go_wp2_with fail
  clear hW1
  refine (size23 _ _ _ C0.out).mono ?_; rintro e w1 ⟨r, rfl, hr, rfl⟩
  cases r with
  | false =>
    go_wp2_with fail
    refine (awake23 _).mono ?_; rintro e w5 ⟨rfl, hb5⟩
    go_wp2
    go_ret
    exact ⟨rfl, HB.out.trans (hb5.mono HB.out.size)⟩
  | true =>
    replace hr := hr.1 rfl
    have hn : n ≤ 4000 := hr 0 (by omega)
    have hn' : n' ≤ 4000 := hr 1 (by omega)
    have hm : m ≤ 4000 := hr 2 (by omega)
    have HN := Lib.hid (And.intro hn (And.intro hn' hm))
    clear hr hn hn' hm
    go_wp2_with fail
    refine (rframe23 B m d p _ HP.out (by have := HN.out; omega)).mono ?_; rintro e w2 ⟨v, rfl, hown, hb2⟩
    obtain ⟨Aw, nw, cw, rfl, hnw, hf⟩ := hown.numsN (Jn.frame_wf HP.out.wf)
    have HNW := Lib.hid (show nw = m + 8 by rw [hnw.out, Jn.frame_len, HP.out.len])
    have HF := Lib.hid hf
    have HB2 := Lib.hid (HB.out.trans (hb2.mono HB.out.size))
    have H2 := Lib.hid (H.out.keep hb2 hb2.size)
    have H2' := Lib.hid (H'.out.keep hb2 hb2.size)
    have HP2 := Lib.hid (HP.out.keep hb2 hb2.size)
    clear hown hb2 hnw hf
    have hbe : Below w2.heap.size w2 (w2.alloc (.cells #[] 5)) := (Below.refl _ _).alloc (Nat.le_refl _) _
    have HBE := Lib.hid hbe
    have HOE := Lib.hid (show Own (w2.alloc (.cells #[] 5)) w2.heap.size 5 .u8 (.slice (some ⟨w2.heap.size, 0, none⟩) 0 0) [] from Own.litE (heap_alloc_new _ _) (Nat.le_refl _))
    have HFE := Lib.hid (HF.out.keep hbe hbe.size)
    have HLF := Lib.hid (show (Jn.frame p).length = m + 8 by rw [Jn.frame_len, HP.out.len])
    have HLA := Lib.hid (show l.length = n from H.out.len)
    clear hbe
    go_wp2_with (first
      | (at_builtin; refine app_ints _ rfl (.tmp 45) (.tmp 46) _ rfl w2.heap.size 5 1 .u8 byte_info Try.underlying22 _ _ rfl HOE.out _ _ _ _ (Jn.frame p) rfl HFE.out (by have := HNW.out; have := HN.out; simp only [maxLen, List.length_nil]; omega) (by have := HNW.out; have := HN.out; simp only [List.length_nil]; omega) HBE.out.size ?_; intro v3 w3 hown3 hgrow3; (have hb3 := HOE.out.grow HBE.out hgrow3 HBE.out.size (Nat.le_refl _)); (have HO3 := Lib.hid hown3); (have HB3 := Lib.hid hb3); (have H3 := Lib.hid (H2.out.keep hb3 hb3.size)); clear hown3 hgrow3 hb3)
      | (at_builtin; refine app_ints _ rfl (.tmp 47) (.tmp 48) _ rfl w2.heap.size 5 1 .u8 byte_info Try.underlying22 _ _ rfl HO3.out _ _ _ _ l rfl H3.out (by have := HLF.out; have := HN.out; simp only [maxLen, List.length_nil, List.length_append]; omega) (by have := HLF.out; have := HN.out; simp only [List.length_nil, List.length_append]; omega) HB3.out.size ?_; intro v4 w4 hown4 hgrow4; (have hb4 := HO3.out.grow HB3.out hgrow4 HB3.out.size (Nat.le_refl _)); (obtain ⟨A4, N4, c4, rfl, hN4, hn4⟩ := hown4.numsN (fun x hx => (List.mem_append.1 hx).elim (fun h9 => HF.out.wf x (by simpa using h9)) (H.out.wf x))); (have HN4 := Lib.hid hn4); (have HB4 := Lib.hid hb4); clear hown4 hgrow4 hb4 hn4))
    generalize hW5 : w4.alloc _ = W5
    have hb5 : Below w4.heap.size w4 W5 := by rw [← hW5]; exact (Below.refl _ _).alloc (Nat.le_refl _) _
    have HFS := Lib.hid (show ∀ j, j < 3 → ∃ Ab nb cb lb Ap np cp lp, W5.cell? ⟨w4.heap.size, j * 2, none⟩ = some (.slice Ab nb cb) ∧ W5.cell? ⟨w4.heap.size, j * 2 + 1, none⟩ = some (.slice Ap np cp) ∧ Nums W5 .u8 W5.heap.size Ab nb cb lb ∧ Nums W5 .u8 W5.heap.size Ap np cp lp ∧ nb ≤ 9000 ∧ np ≤ 9000 from fun j hj => by
      have h5 := HN.out
      have h6 := HNW.out
      have h7 := (HB4.out.mono (Nat.le_refl _)).trans (hb5.mono HB4.out.size)
      have ha := (H2.out.keep h7 h7.size)
      have hb := (H2'.out.keep h7 h7.size)
      have hc := (HF.out.keep h7 h7.size)
      have hd := (HN4.out.keep hb5 hb5.size)
      have hl4 := HN4.out.len
      rw [List.length_append, List.length_append, HLF.out, HLA.out, List.length_nil] at hl4
      rcases (show j = 0 ∨ j = 1 ∨ j = 2 by omega) with rfl | rfl | rfl
      · exact ⟨_, _, _, _, _, _, _, _, by rw [← hW5]; simp [go_sem], by rw [← hW5]; simp [go_sem], ha, hb, by omega, by omega⟩
      · exact ⟨_, _, _, _, _, _, _, _, by rw [← hW5]; simp [go_sem], by rw [← hW5]; simp [go_sem], hc, hb, by omega, by omega⟩
      · exact ⟨_, _, _, _, _, _, _, _, by rw [← hW5]; simp [go_sem], by rw [← hW5]; simp [go_sem], hd, hc, by omega, by omega⟩)
    have HP5 := Lib.hid (HP2.out.keep ((HB4.out.mono (Nat.le_refl _)).trans (hb5.mono HB4.out.size)) ((HB4.out.mono (Nat.le_refl _)).trans (hb5.mono HB4.out.size)).size)
    have HB5 := Lib.hid (HB2.out.trans (((HB4.out.mono (Nat.le_refl _)).trans (hb5.mono HB4.out.size)).mono HB2.out.size))
    have HF5 := Lib.hid (HF.out.keep ((HB4.out.mono (Nat.le_refl _)).trans (hb5.mono HB4.out.size)) ((HB4.out.mono (Nat.le_refl _)).trans (hb5.mono HB4.out.size)).size)
    generalize w4.heap.size = g5 at *
    clear hb5 hW5 H2 H2' HP2 HF HB2 HN4 HB4 HOE HFE HBE HB3 HO3 H3 H H' HP C0 HB HLA
    go_loopw [54] (fun i wr => ∃ j : Nat, j ≤ 3 ∧ i = .int .i64 j ∧ Hid (Below W5.heap.size W5 wr)) (fun i _ => 3 - (intOf i).toNat)
    case atStart => exact ⟨0, by omega, rfl, Below.refl _ _⟩
    case round =>
      rename World => Y
      obtain ⟨j, hj, rfl, HI⟩ := hrel
      by_cases hlt : j < 3
      · obtain ⟨Ab, nb, cb, lb, Ap, np, cp, lp, k0, k1, hb, hp, sb, sp⟩ := HFS.out j hlt
        replace k0 := below_cell HI.out k0
        replace k1 := below_cell HI.out k1
        replace hb := hb.keep HI.out HI.out.size
        replace hp := hp.keep HI.out HI.out.size
        have hpay := HP5.out.keep HI.out HI.out.size
        obtain ⟨Z, hZ⟩ : ∃ Z : World, Y.alloc (.cells #[.slice Ab nb cb, .slice Ap np cp] 29) = Z := ⟨_, rfl⟩
        have kb0 : Z.cell? ⟨Y.heap.size, 0, none⟩ = some (.slice Ab nb cb) := by rw [← hZ]; simp [go_sem]
        have kb1 : Z.cell? ⟨Y.heap.size, 1, none⟩ = some (.slice Ap np cp) := by rw [← hZ]; simp [go_sem]
        have hbz : Below Y.heap.size Y Z := by rw [← hZ]; exact (Below.refl _ _).alloc (Nat.le_refl _) _
        have hI := HI.out.trans (hbz.mono HI.out.size)
        replace hb := hb.keep hbz hbz.size
        replace hp := hp.keep hbz hbz.size
        replace hpay := hpay.keep hbz hbz.size
        clear hbz
        have hm4 := HN.out.2.2
        go_wp2_with fail
        clear hZ k0 k1
        refine (append_two _ _ _ _ _ _ _ _ _ _ _ _ _ hb hp hpay (by omega) (by omega)).mono ?_; rintro e w10 ⟨X1, x1, y1, X2, x2, y2, rfl, hx1, hx2, hb10⟩
        replace hI := hI.trans (hb10.mono hI.size)
        replace hb := hb.keep hb10 hb10.size
        replace hp := hp.keep hb10 hb10.size
        replace hpay := hpay.keep hb10 hb10.size
        replace kb0 := below_cell hb10 kb0
        replace kb1 := below_cell hb10 kb1
        obtain ⟨code, hcode⟩ : ∃ code, (Jn.app lb lp p).2 = code := ⟨_, rfl⟩
        obtain ⟨pend, hpend⟩ : ∃ pend, (Jn.app lb lp p).1 = pend := ⟨_, rfl⟩
        rw [hpend] at hx2
        rw [hcode]
        clear hb10
        have HCD := Lib.hid hcode
        have HPD := Lib.hid hpend
        clear hcode hpend
        obtain ⟨Zx, hZx⟩ : ∃ Z : World, w10.alloc (.cells #[.slice X1 x1 y1, .slice X2 x2 y2] 29) = Z := ⟨_, rfl⟩
        have kx0 : Zx.cell? ⟨w10.heap.size, 0, none⟩ = some (.slice X1 x1 y1) := by rw [← hZx]; simp [go_sem]
        have kx1 : Zx.cell? ⟨w10.heap.size, 1, none⟩ = some (.slice X2 x2 y2) := by rw [← hZx]; simp [go_sem]
        have hbzx : Below w10.heap.size w10 Zx := by rw [← hZx]; exact (Below.refl _ _).alloc (Nat.le_refl _) _
        replace hI := hI.trans (hbzx.mono hI.size)
        replace hb := hb.keep hbzx hbzx.size
        replace hp := hp.keep hbzx hbzx.size
        replace hpay := hpay.keep hbzx hbzx.size
        replace hx1 := hx1.keep hbzx hbzx.size
        replace hx2 := hx2.keep hbzx hbzx.size
        replace kb0 := below_cell hbzx kb0
        replace kb1 := below_cell hbzx kb1
        clear hbzx
        go_wp2_with fail
        clear hZx
        refine (rappend_two _ _ _ _ _ _ _ _ _ _ _ _ _ hb hp hpay (by omega) (by omega)).mono ?_; rintro e w11 ⟨Y1, z1, d1, Y2, z2, d2, rfl, hy1, hy2, hb11⟩
        rw [HPD.out] at hy2
        rw [HCD.out]
        replace hI := hI.trans (hb11.mono hI.size)
        replace hb := hb.keep hb11 hb11.size
        replace hp := hp.keep hb11 hb11.size
        replace hpay := hpay.keep hb11 hb11.size
        replace hx1 := hx1.keep hb11 hb11.size
        replace hx2 := hx2.keep hb11 hb11.size
        replace kb0 := below_cell hb11 kb0
        replace kb1 := below_cell hb11 kb1
        replace kx0 := below_cell hb11 kx0
        replace kx1 := below_cell hb11 kx1
        clear hb11
        obtain ⟨Zy, hZy⟩ : ∃ Z : World, w11.alloc (.cells #[.slice Y1 z1 d1, .slice Y2 z2 d2] 29) = Z := ⟨_, rfl⟩
        have ky0 : Zy.cell? ⟨w11.heap.size, 0, none⟩ = some (.slice Y1 z1 d1) := by rw [← hZy]; simp [go_sem]
        have ky1 : Zy.cell? ⟨w11.heap.size, 1, none⟩ = some (.slice Y2 z2 d2) := by rw [← hZy]; simp [go_sem]
        have hbzy : Below w11.heap.size w11 Zy := by rw [← hZy]; exact (Below.refl _ _).alloc (Nat.le_refl _) _
        replace hI := hI.trans (hbzy.mono hI.size)
        replace hb := hb.keep hbzy hbzy.size
        replace hp := hp.keep hbzy hbzy.size
        replace hpay := hpay.keep hbzy hbzy.size
        replace hx1 := hx1.keep hbzy hbzy.size
        replace hx2 := hx2.keep hbzy hbzy.size
        replace hy1 := hy1.keep hbzy hbzy.size
        replace hy2 := hy2.keep hbzy hbzy.size
        replace kb0 := below_cell hbzy kb0
        replace kb1 := below_cell hbzy kb1
        replace kx0 := below_cell hbzy kx0
        replace kx1 := below_cell hbzy kx1
        clear hbzy
        go_wp2_with fail
        clear hZy
        obtain ⟨cut, hcut⟩ : ∃ cut, lb.take (Jn.read lb).2 = cut := ⟨_, rfl⟩
        have HCUT := Lib.hid hcut
        have HCW := Lib.hid (show ∀ x ∈ cut, (Lit.int .u8 x).wf = true from fun x hx => hb.wf x (List.mem_of_mem_take (by rw [hcut]; exact hx)))
        clear hcut
        refine (recover23 _ _ _ _ _ _ lb _ hb (by omega)).mono ?_; rintro e w12 ⟨v12, r12, rfl, ho12, hr12, hb12⟩
        rw [HCUT.out] at ho12
        obtain ⟨P1, p1, q1, rfl, _, hp1⟩ := ho12.numsN HCW.out
        obtain ⟨R1, N1, c1, rfl, hN1, hr1⟩ := rows_of hb.wf (by have := hb.len; omega) hr12
        replace hI := hI.trans (hb12.mono hI.size)
        replace hb := hb.keep hb12 hb12.size
        replace hp := hp.keep hb12 hb12.size
        replace hpay := hpay.keep hb12 hb12.size
        replace hx1 := hx1.keep hb12 hb12.size
        replace hx2 := hx2.keep hb12 hb12.size
        replace hy1 := hy1.keep hb12 hb12.size
        replace hy2 := hy2.keep hb12 hb12.size
        replace kb0 := below_cell hb12 kb0
        replace kb1 := below_cell hb12 kb1
        replace kx0 := below_cell hb12 kx0
        replace kx1 := below_cell hb12 kx1
        replace ky0 := below_cell hb12 ky0
        replace ky1 := below_cell hb12 ky1
        clear hb12 ho12 hr12
        obtain ⟨Zp, hZp⟩ : ∃ Z : World, w12.alloc (.cells #[.slice P1 p1 q1, .slice none 0 0] 29) = Z := ⟨_, rfl⟩
        have kp0 : Zp.cell? ⟨w12.heap.size, 0, none⟩ = some (.slice P1 p1 q1) := by rw [← hZp]; simp [go_sem]
        have kp1 : Zp.cell? ⟨w12.heap.size, 1, none⟩ = some (.slice none 0 0) := by rw [← hZp]; simp [go_sem]
        have hbzp : Below w12.heap.size w12 Zp := by rw [← hZp]; exact (Below.refl _ _).alloc (Nat.le_refl _) _
        replace hI := hI.trans (hbzp.mono hI.size)
        replace hb := hb.keep hbzp hbzp.size
        replace hp := hp.keep hbzp hbzp.size
        replace hpay := hpay.keep hbzp hbzp.size
        replace hx1 := hx1.keep hbzp hbzp.size
        replace hx2 := hx2.keep hbzp hbzp.size
        replace hy1 := hy1.keep hbzp hbzp.size
        replace hy2 := hy2.keep hbzp hbzp.size
        replace hp1 := hp1.keep hbzp hbzp.size
        replace hr1 := hr1.keep hbzp hbzp.size
        replace kb0 := below_cell hbzp kb0
        replace kb1 := below_cell hbzp kb1
        replace kx0 := below_cell hbzp kx0
        replace kx1 := below_cell hbzp kx1
        replace ky0 := below_cell hbzp ky0
        replace ky1 := below_cell hbzp ky1
        clear hbzp
        have fp1 : Zp.frozen? ⟨w12.heap.size, 1, none⟩ = false := by rw [← hZp]; simp [go_sem]
        have sp1 : Zp.setCell ⟨w12.heap.size, 1, none⟩ (.slice none 0 0) = Zp := by rw [← hZp]; simp [go_sem]
        go_wp2_with fail
        clear hZp fp1 sp1
        refine (rrecover23 _ _ _ _ _ _ lb _ hb (by omega)).mono ?_; rintro e w13 ⟨v13, r13, rfl, ho13, hr13, hb13⟩
        rw [HCUT.out] at ho13
        obtain ⟨P2, p2, q2, rfl, _, hp2⟩ := ho13.numsN HCW.out
        obtain ⟨R2, N2, c2, rfl, hN2, hr2⟩ := rows_of hb.wf (by have := hb.len; omega) hr13
        obtain rfl : N1 = N2 := by rw [hN1.out, hN2.out]
        replace hI := hI.trans (hb13.mono hI.size)
        replace hb := hb.keep hb13 hb13.size
        replace hp := hp.keep hb13 hb13.size
        replace hpay := hpay.keep hb13 hb13.size
        replace hx1 := hx1.keep hb13 hb13.size
        replace hx2 := hx2.keep hb13 hb13.size
        replace hy1 := hy1.keep hb13 hb13.size
        replace hy2 := hy2.keep hb13 hb13.size
        replace hp1 := hp1.keep hb13 hb13.size
        replace hr1 := hr1.keep hb13 hb13.size
        replace kb0 := below_cell hb13 kb0
        replace kb1 := below_cell hb13 kb1
        replace kx0 := below_cell hb13 kx0
        replace kx1 := below_cell hb13 kx1
        replace ky0 := below_cell hb13 ky0
        replace ky1 := below_cell hb13 ky1
        replace kp0 := below_cell hb13 kp0
        replace kp1 := below_cell hb13 kp1
        clear hb13 ho13 hr13
        obtain ⟨Zq, hZq⟩ : ∃ Z : World, w13.alloc (.cells #[.slice P2 p2 q2, .slice none 0 0] 29) = Z := ⟨_, rfl⟩
        have kq0 : Zq.cell? ⟨w13.heap.size, 0, none⟩ = some (.slice P2 p2 q2) := by rw [← hZq]; simp [go_sem]
        have kq1 : Zq.cell? ⟨w13.heap.size, 1, none⟩ = some (.slice none 0 0) := by rw [← hZq]; simp [go_sem]
        have hbzq : Below w13.heap.size w13 Zq := by rw [← hZq]; exact (Below.refl _ _).alloc (Nat.le_refl _) _
        replace hI := hI.trans (hbzq.mono hI.size)
        replace hb := hb.keep hbzq hbzq.size
        replace hp := hp.keep hbzq hbzq.size
        replace hpay := hpay.keep hbzq hbzq.size
        replace hx1 := hx1.keep hbzq hbzq.size
        replace hx2 := hx2.keep hbzq hbzq.size
        replace hy1 := hy1.keep hbzq hbzq.size
        replace hy2 := hy2.keep hbzq hbzq.size
        replace hp1 := hp1.keep hbzq hbzq.size
        replace hr1 := hr1.keep hbzq hbzq.size
        replace hp2 := hp2.keep hbzq hbzq.size
        replace hr2 := hr2.keep hbzq hbzq.size
        replace kb0 := below_cell hbzq kb0
        replace kb1 := below_cell hbzq kb1
        replace kx0 := below_cell hbzq kx0
        replace kx1 := below_cell hbzq kx1
        replace ky0 := below_cell hbzq ky0
        replace ky1 := below_cell hbzq ky1
        replace kp0 := below_cell hbzq kp0
        replace kp1 := below_cell hbzq kp1
        clear hbzq
        have fq1 : Zq.frozen? ⟨w13.heap.size, 1, none⟩ = false := by rw [← hZq]; simp [go_sem]
        have sq1 : Zq.setCell ⟨w13.heap.size, 1, none⟩ (.slice none 0 0) = Zq := by rw [← hZq]; simp [go_sem]
        go_wp2_with fail
        clear hZq fq1 sq1
        refine (read23 _ _ _ lb _ hb (by omega)).mono ?_; rintro e w14 ⟨r14, rfl, hr14, hb14⟩
        obtain ⟨R3, N3, c3, rfl, hN3, hr3⟩ := rows_of hb.wf (by have := hb.len; omega) hr14
        obtain rfl : N1 = N3 := by rw [hN1.out, hN3.out]
        replace hI := hI.trans (hb14.mono hI.size)
        replace hb := hb.keep hb14 hb14.size
        replace hp := hp.keep hb14 hb14.size
        replace hpay := hpay.keep hb14 hb14.size
        replace hx1 := hx1.keep hb14 hb14.size
        replace hx2 := hx2.keep hb14 hb14.size
        replace hy1 := hy1.keep hb14 hb14.size
        replace hy2 := hy2.keep hb14 hb14.size
        replace hp1 := hp1.keep hb14 hb14.size
        replace hr1 := hr1.keep hb14 hb14.size
        replace hp2 := hp2.keep hb14 hb14.size
        replace hr2 := hr2.keep hb14 hb14.size
        replace kb0 := below_cell hb14 kb0
        replace kb1 := below_cell hb14 kb1
        replace kx0 := below_cell hb14 kx0
        replace kx1 := below_cell hb14 kx1
        replace ky0 := below_cell hb14 ky0
        replace ky1 := below_cell hb14 ky1
        replace kp0 := below_cell hb14 kp0
        replace kp1 := below_cell hb14 kp1
        replace kq0 := below_cell hb14 kq0
        replace kq1 := below_cell hb14 kq1
        clear hb14 hr14
        go_wp2_with fail
        refine (rread23 _ _ _ lb _ hb (by omega)).mono ?_; rintro e w15 ⟨r15, rfl, hr15, hb15⟩
        obtain ⟨R4, N4, c4, rfl, hN4, hr4⟩ := rows_of hb.wf (by have := hb.len; omega) hr15
        obtain rfl : N1 = N4 := by rw [hN1.out, hN4.out]
        replace hI := hI.trans (hb15.mono hI.size)
        replace hb := hb.keep hb15 hb15.size
        replace hp := hp.keep hb15 hb15.size
        replace hpay := hpay.keep hb15 hb15.size
        replace hx1 := hx1.keep hb15 hb15.size
        replace hx2 := hx2.keep hb15 hb15.size
        replace hy1 := hy1.keep hb15 hb15.size
        replace hy2 := hy2.keep hb15 hb15.size
        replace hp1 := hp1.keep hb15 hb15.size
        replace hr1 := hr1.keep hb15 hb15.size
        replace hp2 := hp2.keep hb15 hb15.size
        replace hr2 := hr2.keep hb15 hb15.size
        replace hr3 := hr3.keep hb15 hb15.size
        replace kb0 := below_cell hb15 kb0
        replace kb1 := below_cell hb15 kb1
        replace kx0 := below_cell hb15 kx0
        replace kx1 := below_cell hb15 kx1
        replace ky0 := below_cell hb15 ky0
        replace ky1 := below_cell hb15 ky1
        replace kp0 := below_cell hb15 kp0
        replace kp1 := below_cell hb15 kp1
        replace kq0 := below_cell hb15 kq0
        replace kq1 := below_cell hb15 kq1
        clear hb15 hr15
        go_wp2_with fail
        have HB9 := Lib.hid hb
        have HP9 := Lib.hid hp
        have HPAY9 := Lib.hid hpay
        have HX19 := Lib.hid hx1
        have HX29 := Lib.hid hx2
        have HY19 := Lib.hid hy1
        have HY29 := Lib.hid hy2
        have HP19 := Lib.hid hp1
        have HP29 := Lib.hid hp2
        have HR19 := Lib.hid hr1
        have HR29 := Lib.hid hr2
        have HR39 := Lib.hid hr3
        have HR49 := Lib.hid hr4
        have kb0v : ∀ w', Below w15.heap.size w15 w' → w'.cell? ⟨Y.heap.size, 0, none⟩ = some (.slice Ab nb cb) := fun w' hw' => below_cell hw' kb0
        have kb1v : ∀ w', Below w15.heap.size w15 w' → w'.cell? ⟨Y.heap.size, 1, none⟩ = some (.slice Ap np cp) := fun w' hw' => below_cell hw' kb1
        have kx0v : ∀ w', Below w15.heap.size w15 w' → w'.cell? ⟨w10.heap.size, 0, none⟩ = some (.slice X1 x1 y1) := fun w' hw' => below_cell hw' kx0
        have kx1v : ∀ w', Below w15.heap.size w15 w' → w'.cell? ⟨w10.heap.size, 1, none⟩ = some (.slice X2 x2 y2) := fun w' hw' => below_cell hw' kx1
        have ky0v : ∀ w', Below w15.heap.size w15 w' → w'.cell? ⟨w11.heap.size, 0, none⟩ = some (.slice Y1 z1 d1) := fun w' hw' => below_cell hw' ky0
        have ky1v : ∀ w', Below w15.heap.size w15 w' → w'.cell? ⟨w11.heap.size, 1, none⟩ = some (.slice Y2 z2 d2) := fun w' hw' => below_cell hw' ky1
        have kp0v : ∀ w', Below w15.heap.size w15 w' → w'.cell? ⟨w12.heap.size, 0, none⟩ = some (.slice P1 p1 q1) := fun w' hw' => below_cell hw' kp0
        have kp1v : ∀ w', Below w15.heap.size w15 w' → w'.cell? ⟨w12.heap.size, 1, none⟩ = some (.slice none 0 0) := fun w' hw' => below_cell hw' kp1
        have kq0v : ∀ w', Below w15.heap.size w15 w' → w'.cell? ⟨w13.heap.size, 0, none⟩ = some (.slice P2 p2 q2) := fun w' hw' => below_cell hw' kq0
        have kq1v : ∀ w', Below w15.heap.size w15 w' → w'.cell? ⟨w13.heap.size, 1, none⟩ = some (.slice none 0 0) := fun w' hw' => below_cell hw' kq1
        have HI9 := Lib.hid hI
        have HLW := Lib.hid (show ∀ x ∈ lb ++ lp, (Lit.int .u8 x).wf = true from fun x hx => (List.mem_append.1 hx).elim (hb.wf x) (hp.wf x))
        have HLT := Lib.hid (show ∀ x ∈ lb ++ lp.take (Jn.cl keep np), (Lit.int .u8 x).wf = true from fun x hx => (List.mem_append.1 hx).elim (hb.wf x) (fun h9 => hp.wf x (List.mem_of_mem_take h9)))
        have HSB := Lib.hid (show nb + np ≤ 1000000000 by omega)
        clear hb hp hpay hx1 hx2 hy1 hy2 hp1 hp2 hr1 hr2 hr3 hr4 kb0 kb1 kx0 kx1 ky0 ky1 kp0 kp1 kq0 kq1 hI
        go_region_held3 (fun w' => Below w15.heap.size w15 w')
          (first | assumption | (exact below_of_drawn 1) | (exact (Below.refl _ _).drew) | (exact below_drewN (by assumption) _) | (exact below_next (by assumption) (by assumption) (Below.size (by assumption))))
          (first
            | (go_at_call 19; (with_reducible refine (same_true _ _ _ _ _ _ _ _ _ _ _ _ _ _ _ (HX19.out.keep (by assumption) (Below.size (by assumption))) (HX29.out.keep (by assumption) (Below.size (by assumption))) (HY19.out.keep (by assumption) (Below.size (by assumption))) (HY29.out.keep (by assumption) (Below.size (by assumption)))).mono ?_); rintro e wz ⟨rfl, hbz⟩)
            | (go_at_call 19; (with_reducible refine (same_true _ _ _ _ _ _ _ _ _ _ _ _ _ _ _ (HP19.out.keep (by assumption) (Below.size (by assumption))) (Nums.nil _ _ _) (HP29.out.keep (by assumption) (Below.size (by assumption))) (Nums.nil _ _ _)).mono ?_); rintro e wz ⟨rfl, hbz⟩)
            | (go_at_call 19; (with_reducible refine (same_true _ _ _ _ _ _ _ _ _ _ _ _ _ _ _ hnz (Nums.nil _ _ _) hny (Nums.nil _ _ _)).mono ?_); rintro e wz ⟨rfl, hbz⟩; clear hnz hny)
            | (go_at_call 20; (with_reducible refine (lists_true _ _ _ _ _ _ _ _ _ (HR19.out.keep (by assumption) (Below.size (by assumption))) (HR29.out.keep (by assumption) (Below.size (by assumption)))).mono ?_); rintro e wz ⟨rfl, hbz⟩)
            | (go_at_call 20; (with_reducible refine (lists_true _ _ _ _ _ _ _ _ _ (HR39.out.keep (by assumption) (Below.size (by assumption))) (HR49.out.keep (by assumption) (Below.size (by assumption)))).mono ?_); rintro e wz ⟨rfl, hbz⟩)
            | (go_at_call 21; (with_reducible refine (sync23 Ab Ap nb cb np cp lb lp _ (HB9.out.keep (by assumption) (Below.size (by assumption))) (HP9.out.keep (by assumption) (Below.size (by assumption))) HSB.out).mono ?_); rintro e wz ⟨vz, rfl, hown, hbz⟩; obtain ⟨Az, Nz, cz, rfl, -, hnz⟩ := hown.numsN HLW.out; clear hown)
            | (go_at_call 22; (with_reducible refine (rsync23 Ab Ap nb cb np cp lb lp _ (HB9.out.keep (by assumption) (Below.size (by assumption))) (HP9.out.keep (by assumption) (Below.size (by assumption))) HSB.out).mono ?_); rintro e wz ⟨vz, rfl, hown, hbz⟩; obtain ⟨Ay, Ny, cy, rfl, -, hny⟩ := hown.numsN HLW.out; replace hnz := hnz.keep hbz hbz.size; clear hown)
            | (go_at_call 23; (with_reducible refine (crash23 Ab Ap nb cb np cp lb lp keep _ (HB9.out.keep (by assumption) (Below.size (by assumption))) (HP9.out.keep (by assumption) (Below.size (by assumption))) HSB.out).mono ?_); rintro e wz ⟨vz, rfl, hown, hbz⟩; obtain ⟨Az, Nz, cz, rfl, -, hnz⟩ := hown.numsN HLT.out; clear hown)
            | (go_at_call 24; (with_reducible refine (rcrash23 Ab Ap nb cb np cp lb lp keep _ (HB9.out.keep (by assumption) (Below.size (by assumption))) (HP9.out.keep (by assumption) (Below.size (by assumption))) HSB.out).mono ?_); rintro e wz ⟨vz, rfl, hown, hbz⟩; obtain ⟨Ay, Ny, cy, rfl, -, hny⟩ := hown.numsN HLT.out; replace hnz := hnz.keep hbz hbz.size; clear hown)
            | fail)
        all_goals
          go_wp2_with fail
          go_roundw
          case rel => exact ⟨j + 1, by omega, by go_num, below_next HI9.out (by assumption) HI9.out.size⟩
          case measure => simp [intOf]; omega
      · obtain rfl : j = 3 := by omega
        go_wp2_with fail
        refine (frame23 B m d p _ (HP5.out.keep HI.out HI.out.size) (by have := HN.out; omega)).mono ?_; rintro e w6 ⟨v6, rfl, hown6, hb6⟩
        obtain ⟨A6, N6, c6, rfl, hN6, hn6⟩ := hown6.numsN (Jn.frame_wf HP5.out.wf)
        have hF6 := HF5.out.keep (HI.out.trans (hb6.mono HI.out.size)) (Nat.le_trans HI.out.size hb6.size)
        have hB6 := HB5.out.trans ((HI.out.trans (hb6.mono HI.out.size)).mono HB5.out.size)
        have s0 := hn6.str 22 9 5 Try.underlying22 Try.underlying5 Try.underlying9
        have s1 := hF6.str 22 9 5 Try.underlying22 Try.underlying5 Try.underlying9
        clear hown6 hb6 hn6 hF6
        go_wp2_with fail
        refine (awake23 _).mono ?_; rintro e w9 ⟨rfl, hb9⟩
        go_wp2_with fail
        go_ret
        exact ⟨rfl, hB6.trans (hb9.mono hB6.size)⟩
end Go.Proofs.Ytjhdhnefoclccaa
