/- Approvals: the law that they may be added in any order. -/
import Derived.Test.YtgclljmchdlbeaaAq
namespace Go.Proofs.Ytgclljmchdlbeaa
open Go.RowKit
theorem any_take {L : List Ap} {f : Ap → Bool} {j : Nat} {x : Ap} (hx : L.getD j Ap0 = x ∧ j < L.length) : (L.take (j + 1)).any f = ((L.take j).any f || f x) := by
  have h9 := hx.1
  rw [getD_getElem hx.2] at h9
  rw [List.take_succ_eq_append_getElem hx.2, List.any_append, h9]
  simp
theorem Ap.has_split (p q r : ByteArray) (f u t : Int) : Ap.has ⟨p, r, f, u⟩ q t = ((p.toList == q.toList) && (decide (f ≤ t) && decide (t < u))) := by
  unfold Ap.has; rw [Bool.and_assoc]
theorem Ap.add_drop {L : List Ap} (h : Ap.Ok L) {j : Nat} {x : Ap} (hx : L.getD j Ap0 = x ∧ j < L.length) : Ap.add (L.drop (j + 1)) x = (L.drop j, 0) := by
  have e : L.drop j = x :: L.drop (j + 1) := by
    have h9 := hx.1
    rw [getD_getElem hx.2] at h9
    rw [List.drop_eq_getElem_cons hx.2, h9]
  rw [e]
  exact Ap.add_cons (by rw [← e]; exact h.sub (List.drop_sublist j L))
set_option maxHeartbeats 3200000 in
set_option maxRecDepth 100000 in
theorem walkOrder (W : World) (A : Option Addr) (n c : Nat) (l : List Int) (h : Nums W .u8 W.heap.size A n c l) :
    Calls Try.prog 10 #[.slice A n c] W fun e w => e = .returned (.bool true) ∧ Below W.heap.size W w := by
  go_enter Try.func10, Try.ntmps10
  go_wp2_with fail
  refine (new_any A n c l W h).mono ?_; rintro e w1 ⟨rfl, hc1, hb1⟩
  have HB1 := Lib.hid hb1
  have HC1 := Lib.hid hc1
  clear hb1 hc1
  go_wp2_with fail
  refine (approvals9 _ _ w1 HC1.out).mono ?_; rintro e X ⟨v, L, rfl, ho, hok, h6, hc2, hg2⟩
  obtain ⟨Av, nv, cv, rfl, hnv, hr⟩ := ho.row
  have HOK := Lib.hid hok
  have HR := Lib.hid hr
  have HL := Lib.hid hnv
  have hn6 : nv ≤ 6 := by omega
  have HB := Lib.hid (show Below W.heap.size W X from HB1.out.trans ⟨hg2.os, hg2.tape, hg2.output, hg2.size, fun j hj => hg2.block j (Nat.lt_of_lt_of_le hj HB1.out.size) (fun e => by injection e with e; omega)⟩)
  clear ho hr hnv hok hc2 hg2 HB1 HC1 h6 h
  go_wp2_with fail
  go_loopw [4, 5] (fun v iv wr => ∃ (k : Nat) (Ab : Option Addr) (nb cb : Nat), k ≤ nv ∧ v = .slice Ab nb cb ∧ iv = .int .i64 ((k : Int) - 1) ∧ Hid (RRow apRec wr wr.heap.size Ab nb cb (L.drop k) ∧ Below X.heap.size X wr)) (fun _ iv _ => (intOf iv + 1).toNat)
  case atStart => exact ⟨nv, none, 0, 0, Nat.le_refl _, rfl, rfl, by rw [List.drop_of_length_le (by rw [HL.out]; exact Nat.le_refl _)]; exact RRow.nil _ _, Below.refl _ _⟩
  case round =>
    rename World => Y
    obtain ⟨k, Ab, nb, cb, hk, rfl, rfl, HI⟩ := hrel
    rcases Nat.eq_zero_or_pos k with h0 | h0
    · subst h0
      have HRB := Lib.hid (show RRow apRec Y Y.heap.size Ab nb cb L from HI.out.1)
      have HBY := Lib.hid (HB.out.trans (HI.out.2.mono HB.out.size))
      have HRY := Lib.hid (HR.out.keep HI.out.2 HI.out.2.size)
      clear HI hk
      go_wp2_with fail
      go_loopw [7] (fun iv wr => ∃ u : Nat, u ≤ 55 ∧ iv = .int .i64 u ∧ Hid (Below Y.heap.size Y wr)) (fun iv _ => 55 - (intOf iv).toNat)
      case atStart => exact ⟨0, by omega, rfl, Below.refl _ _⟩
      case round =>
        rename World => Z
        obtain ⟨u, hu, rfl, HZ⟩ := hrel
        by_cases hu5 : u < 55
        · have gu : decide ((u : Int) < 55) = true := decide_eq_true (by omega)
          obtain ⟨X7, hX7⟩ : ∃ X : World, Z.alloc (.cells #[.string ⟨#[112, 48]⟩, .string ⟨#[112, 49]⟩, .string ⟨#[112, 50]⟩] 9) = X := ⟨_, rfl⟩
          have hbx : Below Z.heap.size Z X7 := by rw [← hX7]; exact below_one _
          have HS7 := Lib.hid (three_at (show X7.heap[Z.heap.size]? = some (.cells #[.string ⟨#[112, 48]⟩, .string ⟨#[112, 49]⟩, .string ⟨#[112, 50]⟩] 9 (0, 0)) by rw [← hX7]; exact heap_alloc_new _ _))
          have HZ7 := Lib.hid (HZ.out.trans (hbx.mono HZ.out.size))
          clear hbx
          go_wp2_with fail
          clear hX7 HZ
          generalize Z.heap.size = b7 at *
          go_loopw [42] (fun iv wr => ∃ k : Nat, k ≤ 3 ∧ iv = .int .i64 k ∧ Hid (Below X7.heap.size X7 wr)) (fun iv _ => 3 - (intOf iv).toNat)
          case atStart => exact ⟨0, by omega, rfl, Below.refl _ _⟩
          case round =>
            rename World => V
            obtain ⟨k, hk, rfl, HV⟩ := hrel
            by_cases hk3 : k < 3
            · have gk : decide ((k : Int) < 3) = true := decide_eq_true (by omega)
              have k1 : (0 : Int) ≤ (k : Int) := by omega
              have k2 : (k : Int) < 3 := by omega
              obtain ⟨q, hq⟩ := HS7.out.2 k hk3
              have hq := (HV.out.cell HS7.out.1).trans hq
              have HVY := Lib.hid (HZ7.out.trans (HV.out.mono HZ7.out.size))
              go_wp2_with fail
              clear hq
              go_loopw [48, 10] (fun iv bv wr => ∃ (m : Nat) (wt : Bool), m ≤ nv ∧ iv = .int .i64 m ∧ bv = .bool wt ∧ Hid (Below V.heap.size V wr ∧ (L.take m).any (fun x => x.has q u) = wt)) (fun iv _ _ => nv - (intOf iv).toNat)
              case atStart => exact ⟨0, false, by omega, rfl, rfl, Below.refl _ _, rfl⟩
              case round =>
                rename World => G
                obtain ⟨m, wt, hm, rfl, rfl, HG⟩ := hrel
                have HGY := Lib.hid (HVY.out.trans (HG.out.1.mono HVY.out.size))
                by_cases hmn : m < nv
                · have i1 : (0 : Int) ≤ (m : Int) := by omega
                  have i2 : (m : Int) < (nv : Int) := by omega
                  obtain ⟨ad, yp, yr, yf, yu, rfl, HX, c0, c1, c2, c3⟩ := (HRY.out.keep HGY.out HGY.out.size).ap hmn
                  obtain ⟨X8, hX8, HX8⟩ := ap_boxB G yp yr yf yu
                  have HG8 := Lib.hid (HG.out.1.trans (HX8.out.1.mono HG.out.1.size))
                  obtain ⟨_, e0, e1, e2, e3, _⟩ := HX8.out.2
                  have HT := Lib.hid (fun (b : Bool) (hb : Ap.has ⟨yp, yr, yf, yu⟩ q u = b) => show (L.take (m + 1)).any (fun x => x.has q u) = (wt || b) by rw [any_take ⟨HX.out.1, HX.out.2.1⟩, HG.out.2, hb])
                  rcases wt with _ | _
                  · rcases g1 : (yp.toList == q.toList) with _ | _
                    · have HN := Lib.hid (HT.out false (by rw [Ap.has_split, g1]; rfl))
                      go_wp2_with fail
                      go_roundw
                      case rel => exact ⟨m + 1, false, by omega, by go_num, rfl, HG8.out, HN.out⟩
                      case measure => simp [intOf]; omega
                    rcases g2 : decide (yf ≤ (u : Int)) with _ | _
                    · have HN := Lib.hid (HT.out false (by rw [Ap.has_split, g1, g2]; rfl))
                      go_wp2_with fail
                      go_roundw
                      case rel => exact ⟨m + 1, false, by omega, by go_num, rfl, HG8.out, HN.out⟩
                      case measure => simp [intOf]; omega
                    rcases g3 : decide ((u : Int) < yu) with _ | _
                    · have HN := Lib.hid (HT.out false (by rw [Ap.has_split, g1, g2, g3]; rfl))
                      go_wp2_with fail
                      go_roundw
                      case rel => exact ⟨m + 1, false, by omega, by go_num, rfl, HG8.out, HN.out⟩
                      case measure => simp [intOf]; omega
                    · have HN := Lib.hid (HT.out true (by rw [Ap.has_split, g1, g2, g3]; rfl))
                      go_wp2_with fail
                      go_roundw
                      case rel => exact ⟨m + 1, true, by omega, by go_num, rfl, HG8.out, HN.out⟩
                      case measure => simp [intOf]; omega
                  · have HN := Lib.hid (HT.out _ rfl)
                    go_wp2_with fail
                    go_roundw
                    case rel => exact ⟨m + 1, true, by omega, by go_num, rfl, HG8.out, by simpa using HN.out⟩
                    case measure => simp [intOf]; omega
                · obtain rfl : m = nv := by omega
                  have HW := Lib.hid (show (Ap.act L q u).isSome = wt by
                    rw [Ap.act_some HOK.out]
                    have := HG.out.2
                    rwa [List.take_of_length_le (by rw [HL.out]; exact Nat.le_refl _)] at this)
                  go_wp2_with fail
                  refine (active39 Ab nb cb L q u G (HRB.out.keep HGY.out HGY.out.size)).mono ?_; rintro e w8 ⟨rfl, hb8⟩
                  rw [actV_eq, HW.out]
                  obtain ⟨⟨xp, xr, xf, xu⟩, hxv⟩ : ∃ x, (Ap.act L q u).getD Ap0 = x := ⟨_, rfl⟩
                  rw [hxv]
                  obtain ⟨X8, hX8, HX8⟩ := ap_boxB w8 xp xr xf xu
                  have HG8 := Lib.hid ((HG.out.1.trans (hb8.mono HG.out.1.size)).trans (HX8.out.1.mono (HG.out.1.trans (hb8.mono HG.out.1.size)).size))
                  have HV8 := Lib.hid (HV.out.trans (HG8.out.mono HV.out.size))
                  clear hb8 HX8 HW hxv
                  simp only [apV]
                  have g9 : (wt != wt) = false := by simp
                  go_wp2_with fail
                  go_roundw
                  case rel => exact ⟨k + 1, by omega, by go_num, HV8.out⟩
                  case measure => simp [intOf]; omega
            · obtain rfl : k = 3 := by omega
              go_wp2_with fail
              go_roundw
              case rel => exact ⟨u + 1, by omega, by go_num, HZ7.out.trans (HV.out.mono HZ7.out.size)⟩
              case measure => simp [intOf]; omega
        · obtain rfl : u = 55 := by omega
          obtain rfl : nb = nv := by rw [← HRB.out.len, HL.out]
          go_wp2_with fail
          refine (same39 Ab Av nb cb cv L Z (HRB.out.keep HZ.out HZ.out.size) (HRY.out.keep HZ.out HZ.out.size)).mono ?_; rintro e w8 ⟨rfl, hb8⟩
          have HB8 := Lib.hid ((HBY.out.trans (HZ.out.mono HBY.out.size)).trans (hb8.mono (HBY.out.trans (HZ.out.mono HBY.out.size)).size))
          clear hb8
          go_wp2_with fail
          refine (awake39 w8).mono ?_; rintro e w9 ⟨rfl, hb9⟩
          have HB9 := Lib.hid (HB8.out.trans (hb9.mono HB8.out.size))
          clear hb9
          go_wp2_with fail
          go_ret
          exact ⟨rfl, HB9.out⟩
    · obtain ⟨j, rfl⟩ : ∃ j, k = j + 1 := ⟨k - 1, by omega⟩
      have ej : ((j + 1 : Nat) : Int) - 1 = (j : Int) := by omega
      have gj : decide ((0 : Int) ≤ (j : Int)) = true := decide_eq_true (by omega)
      have i1 : (0 : Int) ≤ (j : Int) := by omega
      have i2 : (j : Int) < (nv : Int) := by omega
      obtain ⟨ad, yp, yr, yf, yu, rfl, HX, c0, c1, c2, c3⟩ := (HR.out.keep HI.out.2 HI.out.2.size).ap (show j < nv by omega)
      have HADD := Lib.hid (Ap.add_drop HOK.out ⟨HX.out.1, HX.out.2.1⟩)
      rw [ej]
      go_wp2_with fail
      refine (add39 Ab nb cb _ yp yr yf yu Y HI.out.1).mono ?_; rintro e w4 ⟨A4, n4, c4, rfl, hr4, hb4⟩
      rw [HADD.out] at hr4 ⊢
      have HR4 := Lib.hid hr4
      have HB4 := Lib.hid (HI.out.2.trans (hb4.mono HI.out.2.size))
      clear hr4 hb4 HI c0 c1 c2 c3
      go_wp2_with fail
      go_roundw
      case rel => exact ⟨j, A4, n4, c4, by omega, rfl, rfl, HR4.out, HB4.out⟩
      case measure => simp [intOf]
end Go.Proofs.Ytgclljmchdlbeaa
