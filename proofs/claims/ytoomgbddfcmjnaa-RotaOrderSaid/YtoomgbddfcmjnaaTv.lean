/- Rota: the reference's comparison of what is the same; the law of the order. -/
import Derived.Test.YtoomgbddfcmjnaaTu
import Derived.Test.YtoomgbddfcmjnaaTl
import Derived.Test.YtoomgbddfcmjnaaTg
namespace Go.Proofs.Ytoomgbddfcmjnaa
open Go.RowKit
theorem neqSf (p : ByteArray) (f u : Int) (w : World) : (binOp .neq 31 (.agg #[.string p, .int .i64 f, .int .i64 u]) (.agg #[.string p, .int .i64 f, .int .i64 u])).run Try.prog w = .ok (.bool false) w := by
  have u3 := Try.underlying3
  have a3 := Try.isAgg3
  have z3 := Try.sizeOf3
  have u9 := Try.underlying9
  have a9 := Try.isAgg9
  have z9 := Try.sizeOf9
  have hS : Try.prog.underlying 31 = some (.struct (Try.prog.fieldsOf 31)) := by kernel_rfl
  have hp : Try.prog.stoodInHeld 31 = false := by kernel_rfl
  rw [run_neq_struct, show (10000 : Nat) = 9999 + 1 from rfl, run_equalIn_agg w 9999 31 _ _ hS hp]
  simp only [Program.fieldsOf, Try.underlying31]
  go_simp
set_option maxRecDepth 100000 in
set_option maxHeartbeats 800000 in
theorem same36 (A A' : Option Addr) (n c c' : Nat) (L : List Sf) (w : World) (h : RRow sfRec w w.heap.size A n c L) (h' : RRow sfRec w w.heap.size A' n c' L) :
    Calls Try.prog 14 #[.slice A n c, .slice A' n c'] w fun e w' => e = .returned (.bool true) ∧ Below w.heap.size w w' := by
  have H := Lib.hid h
  have H' := Lib.hid h'
  have hm : n ≤ 9223372036854775807 := by have := h.cap; have := h.max; unfold maxLen at this; omega
  have g0 : ((n : Int) != (n : Int)) = false := by simp
  clear h h'
  go_enter Try.func14, Try.ntmps14
  go_wp2_with fail
  go_loopw [13] (fun iv wr => ∃ j : Nat, j ≤ n ∧ iv = .int .i64 j ∧ ∃ m, wr = w.drewN m) (fun iv _ => n - (intOf iv).toNat)
  case atStart => exact ⟨0, by omega, rfl, 0, rfl⟩
  case round =>
    obtain ⟨j, hj, rfl, m, rfl⟩ := hrel
    by_cases hlt : j < n
    · obtain ⟨ad, yp, yf, yu, rfl, HX, c0, c2, c3⟩ := H.out.sf hlt
      obtain ⟨ad', yp', yf', yu', rfl, HX', d0, d2, d3⟩ := H'.out.sf hlt
      obtain ⟨rfl, rfl, rfl⟩ : yp = yp' ∧ yf = yf' ∧ yu = yu' := by
        have h1 := HX.out.1.symm.trans HX'.out.1
        simpa using h1
      have i1 : (0 : Int) ≤ (j : Int) := by omega
      have i2 : (j : Int) < (n : Int) := by omega
      have hneq := neqSf yp yf yu
      go_wp2_with fail
      go_quiet (fail)
      go_wp2_with fail
      go_roundw
      case rel => exact ⟨j + 1, by omega, by go_num, _, rfl⟩
      case measure => simp [intOf]; omega
    · obtain rfl : n = j := by omega
      go_wp2_with fail
      go_ret
      exact ⟨rfl, below_drewN (Below.refl _ _) _⟩
/-- the places that the law takes, one after another -/
def Sf.idx (n t j : Nat) : Nat := (j * 5 + t) % n
def Sf.pick (L : List Sf) (t j : Nat) : Sf := L.getD (Sf.idx L.length t j) Sf0
theorem Sf.idx_inj {n t i j : Nat} (hn : n ≤ 6) (h5 : n % 5 ≠ 0) (hi : i < n) (hj : j < n) (h : Sf.idx n t i = Sf.idx n t j) : i = j := by
  unfold Sf.idx at h
  rcases (show n = 1 ∨ n = 2 ∨ n = 3 ∨ n = 4 ∨ n = 6 by omega) with rfl | rfl | rfl | rfl | rfl <;> omega
theorem Sf.idx_all : ∀ n, n < 7 → n % 5 ≠ 0 → ∀ t, t < n → ((List.range n).map fun j => (j * 5 + t) % n).Perm (List.range n) := by decide
theorem Sf.idx_perm {n : Nat} (t : Nat) (hn : n ≤ 6) (h5 : n % 5 ≠ 0) : ((List.range n).map (Sf.idx n t)).Perm (List.range n) := by
  have h := Sf.idx_all n (by omega) h5 (t % n) (Nat.mod_lt _ (by omega))
  have e : (fun j => (j * 5 + t % n) % n) = Sf.idx n t := by
    funext j
    unfold Sf.idx
    rw [Nat.add_mod, Nat.mod_mod, ← Nat.add_mod]
  rw [e] at h
  exact h
theorem Sf.pick_perm {L : List Sf} (t : Nat) (hn : L.length ≤ 6) (h5 : L.length % 5 ≠ 0) : ((List.range L.length).map (Sf.pick L t)).Perm L := by
  have h := (Sf.idx_perm t hn h5).map fun k => L.getD k Sf0
  rw [List.map_map] at h
  have e : (List.range L.length).map (fun k => L.getD k Sf0) = L := by
    apply List.ext_getElem (by simp)
    intro i h1 h2
    simp [List.getD, List.getElem?_eq_getElem h2]
  rw [e] at h
  exact h
theorem Sf.Ok.apart {L : List Sf} (h : Sf.Ok L) {i j : Nat} (hi : i < L.length) (hj : j < L.length) (hij : i ≠ j) : Sf.meet L[i] L[j] = false := by
  rcases Nat.lt_or_gt_of_ne hij with h1 | h1
  · exact (List.pairwise_iff_getElem.1 h.pw i j hi hj h1).2
  · rw [Sf.meet_symm]; exact (List.pairwise_iff_getElem.1 h.pw j i hj hi h1).2
theorem Sf.idx_lt {n t j : Nat} (h : 0 < n) : Sf.idx n t j < n := Nat.mod_lt _ h
/-- a step of the law -/
theorem Sf.pick_step {L G : List Sf} (hL : Sf.Ok L) (hn : L.length ≤ 6) {t i : Nat} (hi : i < L.length) (hG : Sf.Ok G) (hp : L.length % 5 ≠ 0 → G.Perm ((List.range i).map (Sf.pick L t))) :
    Sf.Ok (Sf.add G (Sf.pick L t i)).1 ∧ (L.length % 5 ≠ 0 → (Sf.add G (Sf.pick L t i)).2 = 0 ∧ (Sf.add G (Sf.pick L t i)).1.Perm ((List.range (i + 1)).map (Sf.pick L t))) := by
  refine ⟨(hG.add _).1, fun h5 => ?_⟩
  have hpp := hp h5
  have hlt : Sf.idx L.length t i < L.length := Sf.idx_lt (by omega)
  have hx : Sf.pick L t i = L[Sf.idx L.length t i] := getD_getElem hlt
  have hone : Sf.one (Sf.pick L t i) = 0 := hL.one _ (by rw [hx]; exact List.getElem_mem _)
  have hmeet : Sf.meets G (Sf.pick L t i) = false := by
    unfold Sf.meets
    rw [List.any_eq_false]
    intro y hy
    obtain ⟨j, hj, rfl⟩ := List.mem_map.1 (hpp.mem_iff.1 hy)
    have hj' : j < i := List.mem_range.1 hj
    have hlt2 : Sf.idx L.length t j < L.length := Sf.idx_lt (by omega)
    have e : Sf.pick L t j = L[Sf.idx L.length t j] := getD_getElem hlt2
    rw [e, hx, hL.apart hlt2 hlt (fun h => by have := Sf.idx_inj hn h5 (by omega) hi h; omega)]
    decide
  have hlen : G.length = i := by rw [hpp.length_eq]; simp
  have ha : Sf.add G (Sf.pick L t i) = (Sf.ins G (Sf.pick L t i), 0) := by
    unfold Sf.add
    rw [if_neg (by simpa using Sf.chk_ok.2 hG), if_neg (by simpa using hone), if_neg (by rw [hmeet]; decide), if_neg (by omega)]
  rw [ha]
  refine ⟨rfl, (Sf.ins_perm G _).trans ?_⟩
  rw [List.range_succ, List.map_append]
  exact hpp.append_right _
set_option maxHeartbeats 3200000 in
set_option maxRecDepth 100000 in
theorem walkOrderR (W : World) (A : Option Addr) (n c : Nat) (l : List Int) (h : Nums W .u8 W.heap.size A n c l) (a : Int) (ha0 : 0 ≤ a) (ha1 : a ≤ 255) :
    Calls Try.prog 3 #[.slice A n c, .int .u8 a] W fun e w => e = .returned (.bool true) ∧ Below W.heap.size W w := by
  go_enter Try.func3, Try.ntmps3
  go_wp2_with fail
  refine (new_any A n c l W h).mono ?_; rintro e w1 ⟨rfl, hc1, hb1⟩
  have HB1 := Lib.hid hb1
  have HC1 := Lib.hid hc1
  clear hb1 hc1
  go_wp2_with fail
  refine (rota9 _ _ w1 HC1.out).mono ?_; rintro e w2 ⟨v, L, rfl, ho, hok, h6, hc2, hg2⟩
  obtain ⟨Av, nv, cv, rfl, hnv, hr⟩ := ho.row
  have HOK := Lib.hid hok
  have HNV := Lib.hid (show nv ≤ 6 by omega)
  have HL := Lib.hid hnv
  have HR := Lib.hid hr
  have HB2 := Lib.hid (below_growD HB1.out hg2 (Nat.le_refl _))
  have hn6 : nv ≤ 6 := by omega
  clear ho hnv hok hc2 hg2 HB1 HC1 h6 h hr
  go_wp2_with fail
  obtain ⟨t, rfl⟩ := Int.eq_ofNat_of_zero_le ha0
  go_loopw [7, 19] (fun gv iv wr => ∃ (i : Nat) (G : List Sf) (Ag : Option Addr) (ng cg : Nat), i ≤ nv ∧ iv = .int .i64 i ∧ gv = .slice Ag ng cg ∧ Hid (Below w2.heap.size w2 wr ∧ RRow sfRec wr wr.heap.size Ag ng cg G ∧ Sf.Ok G ∧ (L.length % 5 ≠ 0 → G.Perm ((List.range i).map (Sf.pick L t))))) (fun _ iv _ => nv - (intOf iv).toNat)
  case atStart => exact ⟨0, [], none, 0, 0, by omega, rfl, rfl, Below.refl _ _, RRow.nil _ _, Sf.nil_ok, fun _ => by simp⟩
  case round =>
    rename World => Y
    obtain ⟨i, G, Ag, ng, cg, hi, rfl, rfl, HI⟩ := hrel
    by_cases hlt : i < nv
    · have HSTEP := Lib.hid (Sf.pick_step HOK.out (by rw [← HL.out]; exact hn6) (t := t) (i := i) (by rw [← HL.out]; exact hlt) HI.out.2.2.1 HI.out.2.2.2)
      obtain ⟨k, hk⟩ : ∃ k, Sf.idx nv t i = k := ⟨_, rfl⟩
      have hkn : k < nv := by rw [← hk]; exact Sf.idx_lt (by omega)
      have hki : ((i : Int) * 5 + (t : Int)) % (nv : Int) = (k : Int) := by rw [← hk]; unfold Sf.idx; rw [Int.natCast_emod]; simp
      have hmx : max (1 : Int) (nv : Int) = (nv : Int) := by omega
      have k1 : (0 : Int) ≤ (k : Int) := by omega
      have k2 : (k : Int) < (nv : Int) := by omega
      have n0 : (nv : Int) ≠ 0 := by omega
      obtain ⟨ad, yp, yf, yu, rfl, HX, c0, c2, c3⟩ := (HR.out.keep HI.out.1 HI.out.1.size).sf hkn
      have HPK := Lib.hid (show Sf.pick L t i = ⟨yp, yf, yu⟩ by unfold Sf.pick; rw [← HL.out, hk]; exact HX.out.1)
      go_wp2_with fail
      refine (add36 Ag ng cg G yp yf yu Y HI.out.2.1).mono ?_; rintro e w4 ⟨A4, n4, c4, rfl, hr4, hb4⟩
      obtain ⟨⟨G4, E4⟩, hG4⟩ : ∃ x, Sf.add G ⟨yp, yf, yu⟩ = x := ⟨_, rfl⟩
      have HSTEP2 := Lib.hid (show Sf.Ok G4 ∧ (L.length % 5 ≠ 0 → E4 = 0 ∧ G4.Perm ((List.range (i + 1)).map (Sf.pick L t))) by
        have := HSTEP.out
        rw [HPK.out, hG4] at this
        exact this)
      rw [hG4] at hr4 ⊢
      have HR4 := Lib.hid hr4
      have HB4 := Lib.hid (HI.out.1.trans (hb4.mono HI.out.1.size))
      clear hr4 hb4 hG4 c0 c2 c3 HI hki hmx HSTEP HPK n0
      by_cases h5 : L.length % 5 = 0
      · have hm5 : (nv : Int) % 5 = 0 := by have := HL.out; omega
        have hm5' : ((nv : Int) % 5 != 0) = false := by rw [hm5]; rfl
        have hm6 : (nv : Int).tmod 5 = 0 := by rw [Int.tmod_eq_emod_of_nonneg (by omega)]; exact hm5
        have HH5 := Lib.hid h5
        clear h5
        by_cases hE : E4 = 0
        · have gE : (E4 != 0) = false := by simpa using hE
          clear hE
          go_wp2_with fail
          go_roundw
          case rel => exact ⟨i + 1, G4, A4, n4, c4, by omega, by go_num, rfl, HB4.out, HR4.out, HSTEP2.out.1, fun h => absurd HH5.out h⟩
          case measure => simp [intOf]; omega
        · have gE : (E4 != 0) = true := by simpa using hE
          clear hE
          go_wp2_with fail
          go_roundw
          case rel => exact ⟨i + 1, G4, A4, n4, c4, by omega, by go_num, rfl, HB4.out, HR4.out, HSTEP2.out.1, fun h => absurd HH5.out h⟩
          case measure => simp [intOf]; omega
      · have HH5 := Lib.hid h5
        obtain ⟨rfl, _⟩ := HSTEP2.out.2 h5
        clear h5
        go_wp2_with fail
        go_roundw
        case rel => exact ⟨i + 1, G4, A4, n4, c4, by omega, by go_num, rfl, HB4.out, HR4.out, HSTEP2.out.1, fun h => (HSTEP2.out.2 h).2⟩
        case measure => simp [intOf]; omega
    · obtain rfl : i = nv := by omega
      have HBY := Lib.hid (HB2.out.trans (HI.out.1.mono HB2.out.size))
      have HCG := Lib.hid (Sf.chk_ok.2 HI.out.2.2.1)
      have HRG := Lib.hid HI.out.2.1
      have HRY := Lib.hid (HR.out.keep HI.out.1 HI.out.1.size)
      have HGL := Lib.hid (fun (h5 : L.length % 5 ≠ 0) => show G = L from by
        have hp := HI.out.2.2.2 h5
        rw [HL.out] at hp
        exact Sf.sorted_eq HOK.out (hp.trans (Sf.pick_perm t (by rw [← HL.out]; exact hn6) h5)) (HI.out.2.2.1.pw.imp fun h => Sf.lt_asym h.1))
      clear HI
      by_cases h5 : L.length % 5 = 0
      · have hm5 : (i : Int) % 5 = 0 := by have := HL.out; omega
        have hm6 : (i : Int).tmod 5 = 0 := by rw [Int.tmod_eq_emod_of_nonneg (by omega)]; exact hm5
        clear h5
        go_wp2_with fail
        refine (check36 Ag ng cg G Y HRG.out).mono ?_; rintro e w8 ⟨rfl, hb8⟩
        rw [HCG.out]
        have HB8 := Lib.hid (HBY.out.trans (hb8.mono HBY.out.size))
        clear hb8
        go_wp2_with fail
        refine (awake36 w8).mono ?_; rintro e w9 ⟨rfl, hb9⟩
        have HB9 := Lib.hid (HB8.out.trans (hb9.mono HB8.out.size))
        clear hb9
        go_wp2_with fail
        go_ret
        exact ⟨rfl, HB9.out⟩
      · have hm5 : ((i : Int) % 5 == 0) = false := by rw [beq_eq_false_iff_ne]; have := HL.out; omega
        have hm6 : ((i : Int).tmod 5 == 0) = false := by rw [Int.tmod_eq_emod_of_nonneg (by omega)]; exact hm5
        obtain rfl := HGL.out h5
        clear h5
        go_wp2_with fail
        obtain rfl : ng = i := by rw [← HRG.out.len, HL.out]
        refine (same36 Ag Av ng cg cv G Y HRG.out HRY.out).mono ?_; rintro e w7 ⟨rfl, hb7⟩
        have HB7 := Lib.hid (HBY.out.trans (hb7.mono HBY.out.size))
        have HR7 := Lib.hid (HRG.out.keep hb7 hb7.size)
        clear hb7
        go_wp2_with fail
        refine (check36 Ag ng cg G w7 HR7.out).mono ?_; rintro e w8 ⟨rfl, hb8⟩
        rw [HCG.out]
        have HB8 := Lib.hid (HB7.out.trans (hb8.mono HB7.out.size))
        clear hb8
        go_wp2_with fail
        refine (awake36 w8).mono ?_; rintro e w9 ⟨rfl, hb9⟩
        have HB9 := Lib.hid (HB8.out.trans (hb9.mono HB8.out.size))
        clear hb9
        go_wp2_with fail
        go_ret
        exact ⟨rfl, HB9.out⟩
end Go.Proofs.Ytoomgbddfcmjnaa
