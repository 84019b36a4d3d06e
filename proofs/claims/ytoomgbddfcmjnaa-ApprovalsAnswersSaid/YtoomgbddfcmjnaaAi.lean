/- Approvals: the program's End. -/
import Derived.Test.YtoomgbddfcmjnaaAh
namespace Go.Proofs.Ytoomgbddfcmjnaa
open Go.RowKit
def Ap.cutAt (x : Ap) (t : Int) : Ap := ⟨x.p, x.r, x.f, t⟩
def Ap.fin (L : List Ap) (p : ByteArray) (t : Int) : List Ap × Int :=
  if Ap.chk L ≠ 0 then (L, Ap.chk L) else
  if L.find? (fun x => x.has p t) = none then (L, 54) else
  if (L.getD (L.findIdx fun x => x.has p t) Ap0).f = t then (L.take (L.findIdx fun x => x.has p t) ++ L.drop (L.findIdx (fun x => x.has p t) + 1), 0)
  else (L.set (L.findIdx fun x => x.has p t) ((L.getD (L.findIdx fun x => x.has p t) Ap0).cutAt t), 0)
theorem fstI_idx {α : Type} {p : α → Bool} {L : List α} {j : Nat} (h : fstI p L = j) : L.findIdx p = j := by
  unfold fstI at h
  by_cases hh : L.findIdx p < L.length
  · rw [if_pos hh] at h; omega
  · rw [if_neg hh] at h; omega
theorem concat_fin39 (A : Option Addr) (n c k : Nat) (L : List Ap) (W : World) (h : RRow apRec W W.heap.size A n c L) (hk : k + 1 ≤ n) (hn : n ≤ 60) :
    Calls Try.prog 98 #[.slice (some ⟨W.heap.size, 0, none⟩) 2 2]
      (W.alloc (.cells #[.slice A k c, .slice (if c = k + 1 then A else A.map (·.add ((k + 1) * 4))) (n - (k + 1)) (c - (k + 1))] 72)).drew
      (GivesAp (L.take k ++ L.drop (k + 1)) W) := by
  have hb : Below W.heap.size W (W.alloc (.cells #[.slice A k c, .slice (if c = k + 1 then A else A.map (·.add ((k + 1) * 4))) (n - (k + 1)) (c - (k + 1))] 72)).drew := (below_one _).drew
  have h2 := h.keep hb hb.size
  refine (concatAp2 W.heap.size _ _ k c (n - (k + 1)) (c - (k + 1)) (L.take k) (L.drop (k + 1)) _ (by simp [go_sem]) (by simp [go_sem, apRec]) (h2.first (by omega)) (h2.cut hk) (by omega)).mono ?_
  rintro e w' ⟨v, rfl, ho, hbb⟩
  exact ⟨v, rfl, ho.base_le hb.size, hb.trans (hbb.mono hb.size)⟩
set_option maxHeartbeats 1600000 in
theorem end39 (A : Option Addr) (n c : Nat) (L : List Ap) (p : ByteArray) (t : Int) (w : World) (h : RRow apRec w w.heap.size A n c L) :
    Calls Try.prog 51 #[.slice A n c, .string p, .int .i64 t] w (GivesApE (Ap.fin L p t) w) := by
  have hm : n ≤ 9223372036854775807 := by have := h.cap; have := h.max; unfold maxLen at this; omega
  have hcc := h.cap
  have hcm : c ≤ 9223372036854775807 := h.max
  have H := Lib.hid h
  have HL := Lib.hid h.len
  have HCHK := Lib.hid (fun (h0 : Ap.chk L = 0) => show n ≤ 60 by
    unfold Ap.chk at h0
    by_cases hh : 60 < L.length
    · rw [if_pos hh] at h0; cases h0
    · rw [h.len] at hh; omega)
  clear h
  have HA1 := Lib.hid (fun (h : Ap.chk L ≠ 0) => show Ap.fin L p t = (L, Ap.chk L) by unfold Ap.fin; rw [if_pos h])
  have HA2 := Lib.hid (fun (h : Ap.chk L = 0) => show Ap.fin L p t = _ by unfold Ap.fin; rw [if_neg (by simpa using h)])
  go_enter Try.func51, Try.ntmps51
  go_wp2_with fail
  refine (check39 A n c L w H.out).mono ?_; rintro e w1 ⟨rfl, hb⟩
  have HB1 := Lib.hid hb
  have H1 := Lib.hid (H.out.keep hb hb.size)
  clear hb
  obtain ⟨o, ho⟩ : ∃ o, Ap.chk L = o := ⟨_, rfl⟩
  rw [ho]
  rw [ho] at HA1 HA2 HCHK
  clear ho
  by_cases ho : o = 0
  rotate_left
  · have g1 : (o != 0) = true := by simpa using ho
    have HR := Lib.hid (HA1.out ho)
    clear HA1 HA2 ho
    go_wp2_with fail
    exact bodyPost_ret (v := .tuple #[.slice A n c, .int .i64 o]) (by simp [results, Try.results51, go_sem]) rfl (by rw [HR.out]; exact ⟨A, n, c, rfl, H1.out, HB1.out⟩)
  have HA := Lib.hid (HA2.out ho)
  have HN60 := Lib.hid (HCHK.out ho)
  clear HA1 HA2 HCHK
  have g1 : (o != 0) = false := by simpa using ho
  clear ho
  go_wp2_with fail
  refine (find39 A n c L p t w1 H1.out).mono ?_; rintro e w2 ⟨rfl, hb⟩
  have HB2 := Lib.hid (HB1.out.trans (hb.mono HB1.out.size))
  have H2 := Lib.hid (H1.out.keep hb hb.size)
  clear hb HB1 H1 g1
  rcases fstI_cases (fun x : Ap => x.has p t) L Ap0 with ⟨h1, h2⟩ | ⟨j, h1, hj, h2, _, _⟩
  · have HR := Lib.hid (show Ap.fin L p t = (L, 54) by rw [HA.out, if_pos h2])
    rw [h1]
    clear h1 h2 HA
    go_wp2_with fail
    exact bodyPost_ret (v := .tuple #[.slice A n c, .int .i64 54]) (by simp [results, Try.results51, go_sem]) rfl (by rw [HR.out]; exact ⟨A, n, c, rfl, H2.out, HB2.out⟩)
  replace HA := Lib.hid (show Ap.fin L p t = if (L.getD j Ap0).f = t then (L.take j ++ L.drop (j + 1), 0) else (L.set j ((L.getD j Ap0).cutAt t), 0) by rw [HA.out, if_neg (by rw [h2]; simp), fstI_idx h1])
  rw [h1]
  clear h1 h2
  have hjn : j < n := by rw [← HL.out]; exact hj
  clear hj
  obtain ⟨ad, yp, yr, yf, yu, rfl, HX, c0, c1, c2, c3⟩ := H2.out.ap hjn
  rw [HX.out.1] at HA
  by_cases hf : yf = t
  · have g1 : (yf == t) = true := by simp [hf]
    replace HA := Lib.hid (show Ap.fin L p t = _ by rw [HA.out, if_pos hf])
    clear hf
    have s1 : (0 : Int) ≤ (j : Int) := by omega
    have s2 : j ≤ c := by omega
    have s3 : j + 1 ≤ n := by omega
    have s5 : j + 1 ≤ c := by omega
    have s4 : (0 : Int) ≤ (j : Int) + 1 := by omega
    have s6 : IntKind.i64.wrap ((j : Int) + 1) = (j : Int) + 1 := by have := HN60.out; simp [IntKind.wrap, IntKind.bits, IntKind.signed]; omega
    have s7 : ((j : Int) + 1).toNat = j + 1 := by omega
    have s8 : (j : Int) ≤ (n : Int) := by omega
    have s9 : (j : Int) + 1 ≤ (n : Int) := by omega
    have s10 : (j : Int) ≤ (c : Int) := by omega
    have s11 : (j : Int) + 1 ≤ (c : Int) := by omega
    have s12 : (n : Int) ≤ (c : Int) := by omega
    have gj : decide ((j : Int) < 0) = false := decide_eq_false (by omega)
    have HC := concat_fin39 (some ad) n c j L w2 H2.out (by omega) HN60.out
    have kp : Below w2.drew.heap.size w2.drew (w2.alloc (.cells #[.slice (some ad) j c, .slice (if c = j + 1 then some ad else (some ad).map (·.add ((j + 1) * 4))) (n - (j + 1)) (c - (j + 1))] 72)).drew := below_alloc_drew _ _
    go_wp2_with fail
    by_cases hcn : c = j + 1
    · obtain rfl : n = j + 1 := by omega
      subst hcn
      simp only [if_true, Nat.sub_self] at HC kp
      have r1 : (j : Int) ≤ (j : Int) + 1 := by omega
      have r2 : j ≤ j + 1 := by omega
      have r3 : ((j : Int) + 1 - j).toNat = 1 := by omega
      have r4 : (j : Int) + 1 ≤ 9223372036854775807 := by omega
      replace HC := Lib.hid HC
      go_region_held3 (fun w' => Below w2.heap.size w2 w')
        (first | assumption | (exact below_alloc_drew _ _) | (exact Below.refl _ _) | (exact below_of_drawn 1) | (exact (Below.refl _ _).drew) | (exact below_drewN (by assumption) _) | (exact below_nextR (by assumption) (by assumption) (Below.size (by assumption))))
        (first
          | (go_at_call 98; (with_reducible refine HC.out.mono ?_); rintro e wz ⟨v, rfl, hown, hbz⟩))
      go_wp2_with fail
      obtain ⟨A9, n9, c9, rfl, _, hr9⟩ := hown.row
      exact bodyPost_ret (v := .tuple #[.slice A9 n9 c9, .int .i64 0]) (by simp [results, Try.results51, go_sem]) rfl (by rw [HA.out]; exact ⟨A9, n9, c9, rfl, hr9, HB2.out.trans (hbz.mono HB2.out.size)⟩)
    · rw [if_neg hcn] at HC kp
      simp only [Option.map_some] at HC kp
      replace HC := Lib.hid HC
      go_region_held3 (fun w' => Below w2.heap.size w2 w')
        (first | assumption | (exact below_alloc_drew _ _) | (exact Below.refl _ _) | (exact below_of_drawn 1) | (exact (Below.refl _ _).drew) | (exact below_drewN (by assumption) _) | (exact below_nextR (by assumption) (by assumption) (Below.size (by assumption))))
        (first
          | (go_at_call 98; (with_reducible refine HC.out.mono ?_); rintro e wz ⟨v, rfl, hown, hbz⟩))
      go_wp2_with fail
      obtain ⟨A9, n9, c9, rfl, _, hr9⟩ := hown.row
      exact bodyPost_ret (v := .tuple #[.slice A9 n9 c9, .int .i64 0]) (by simp [results, Try.results51, go_sem]) rfl (by rw [HA.out]; exact ⟨A9, n9, c9, rfl, hr9, HB2.out.trans (hbz.mono HB2.out.size)⟩)
  · have g1 : (yf == t) = false := by simp [hf]
    replace HA := Lib.hid (show Ap.fin L p t = _ by rw [HA.out, if_neg hf])
    clear hf
    have gj : decide ((j : Int) < 0) = false := decide_eq_false (by omega)
    go_wp2_with fail
    refine (cloneAp (some ad) n c L w2 H2.out (by have := HN60.out; omega)).mono ?_; rintro e w3 ⟨v, rfl, ho3, hb⟩
    have HB3 := Lib.hid (HB2.out.trans (hb.mono HB2.out.size))
    have hlen : 0 < L.length := by rw [HL.out]; omega
    obtain ⟨g, c9, rfl, hg, _, hc9, hm9, hcell⟩ := ho3.fat hlen
    have hq := hcell j (by rw [HL.out]; exact hjn) 3
    rw [show L.getD j apRec.d = ⟨yp, yr, yf, yu⟩ from HX.out.1] at hq
    have q0 : w3.cell? ⟨g, j * 4 + 3, none⟩ = some (.int .i64 yu) := hq.1 _ rfl
    have q1 : w3.frozen? ⟨g, j * 4 + 3, none⟩ = false := hq.2
    have HST := Lib.hid (ho3.stored (k := j) (i := 3) (by rw [HL.out]; exact hjn) (by decide) (.int .i64 t) ((L.getD j Ap0).cutAt t) (by rw [show L.getD j Ap0 = ⟨yp, yr, yf, yu⟩ from HX.out.1, show L.getD j apRec.d = ⟨yp, yr, yf, yu⟩ from HX.out.1]; rfl))
    have HG := Lib.hid hg
    have s1 : j < L.length := by rw [HL.out]; exact hjn
    have HS3 := Lib.hid (show w.heap.size ≤ w2.heap.size from HB2.out.size)
    clear hb ho3 hcell hq hg c0 c1 c2 c3
    go_wp2_with fail
    obtain ⟨A9, n9, c8, e9, _, hr9⟩ := HST.out.1.row
    have hb9 : Below w.heap.size w (w3.setCell ⟨g, j * 4 + 3, none⟩ (.int .i64 t)) := HB3.out.setCell (show w.heap.size ≤ g by have := HG.out; have := HS3.out; omega) _
    exact bodyPost_ret (v := .tuple #[.slice A9 n9 c8, .int .i64 0]) (by rw [← e9]; simp [results, Try.results51, go_sem]) rfl (by rw [HA.out]; exact ⟨A9, n9, c8, rfl, by rw [HX.out.1] at hr9; exact hr9, hb9⟩)
end Go.Proofs.Ytoomgbddfcmjnaa
