/- Rota: the law of the minutes. -/
import Derived.Test.YtoomgbddfcmjnaaTo
import Derived.Test.YtoomgbddfcmjnaaTg
namespace Go.Proofs.Ytoomgbddfcmjnaa
open Go.RowKit
theorem Sf.chg_mem {c : Int → Int} : ∀ {T : List Int} {b x : Int}, x ∈ Sf.chg c T b → x ∈ T ∨ ∃ t, x = c t
  | [], b, x, h => by simp [Sf.chg] at h
  | t :: T, b, x, h => by
    rw [Sf.chg_cons] at h
    split at h
    · rcases List.mem_cons.1 h with h | h
      · exact .inl (by rw [h]; simp)
      · rcases List.mem_cons.1 h with h | h
        · exact .inr ⟨t, h⟩
        · exact (Sf.chg_mem h).imp (fun h => List.mem_cons_of_mem _ h) id
    · exact (Sf.chg_mem h).imp (fun h => List.mem_cons_of_mem _ h) id
theorem Sf.rest_bd {L : List Sf} (h : Sf.Ok L) {a b t now : Int} {P : List Int} (h0 : 0 ≤ a ∧ a ≤ 1073741824) (hr : Sf.rest L a b t now P) : ∀ x ∈ P, 0 ≤ x ∧ x ≤ 1073741824 := by
  intro x hx
  unfold Sf.rest at hr
  rw [hr] at hx
  rcases Sf.chg_mem hx with h1 | ⟨y, rfl⟩
  · have h2 := Zs.mem_of.1 (List.mem_filter.1 h1).1
    rcases Sf.tms_bd h h2 with rfl | h3
    · exact h0
    · exact ⟨h3.1, h3.2.1⟩
  · have h1 := Sf.onl_len L y
    have h2 := h.few
    unfold Sf.cnt
    omega
theorem Sf.rest_even {L : List Sf} {a b t now : Int} {P : List Int} (hr : Sf.rest L a b t now P) : P.length % 2 = 0 := by
  unfold Sf.rest at hr
  rw [hr]; exact Sf.chg_even _ _ _
theorem Sf.rest_few {L : List Sf} {a b t now : Int} {P : List Int} (hr : Sf.rest L a b t now P) : P.length ≤ 4 * L.length + 2 := by
  unfold Sf.rest at hr
  rw [hr]
  have h1 : ∀ (T : List Int) (b : Int), (Sf.chg (Sf.cnt L) T b).length ≤ 2 * T.length := by
    intro T
    induction T with
    | nil => intro b; simp [Sf.chg]
    | cons t T ih =>
      intro b
      rw [Sf.chg_cons]
      split
      · have := ih (Sf.cnt L t); simp only [List.length_cons]; omega
      · have := ih b; simp only [List.length_cons]; omega
  have h2 := h1 (Sf.from (Zs.of (Sf.tms L a b)) t) now
  have h3 : (Sf.from (Zs.of (Sf.tms L a b)) t).length ≤ (Zs.of (Sf.tms L a b)).length := List.length_filter_le _ _
  have h4 := Zs.of_len (Sf.tms L a b)
  have h5 := tms_len L a b
  omega
theorem Nums.cut9 {w : World} {kd : IntKind} {B : Nat} {A : Option Addr} {n c : Nat} {l : List Int} (h : Nums w kd B A n c l) {k : Nat} (hk : k ≤ n) :
    Nums w kd B (if c = k then A else A.map (·.add k)) (n - k) (c - k) (l.drop k) := by
  have hcap := h.cap
  refine ⟨by rw [List.length_drop, h.len], by omega, by have := h.max; omega, fun hn => ?_, fun x hx => h.wf x (List.mem_of_mem_drop hx), fun hz => ?_⟩
  · obtain ⟨ad, rfl, hb, hc⟩ := h.cells (by omega)
    rw [if_neg (by omega)]
    refine ⟨ad.add k, rfl, by rw [add_block]; exact hb, fun j hj => ?_⟩
    rw [add_add, hc (k + j) (by omega)]
    congr 2
    simp [List.getD, List.getElem?_drop]
  · by_cases he : c = k
    · omega
    · rw [if_neg he] at hz
      cases A with
      | none => have := h.zero rfl; omega
      | some a => cases hz
theorem filt_takeS {L : List Sf} {p : Sf → Bool} {j : Nat} {x : Sf} (h : L.getD j Sf0 = x ∧ j < L.length) : (L.take (j + 1)).filter p = (L.take j).filter p ++ (if p x = true then [x] else []) := by
  have h9 := h.1
  rw [getD_getElem h.2] at h9
  rw [List.take_succ_eq_append_getElem h.2, h9, List.filter_append]
  congr 1
  by_cases hp : p x = true
  · rw [if_pos hp, List.filter_cons, if_pos hp]; rfl
  · rw [if_neg hp, List.filter_cons, if_neg hp]; rfl
def lenOf9 : Value → Nat
  | .slice _ n _ => n
  | _ => 0
set_option maxHeartbeats 3200000 in
set_option maxRecDepth 100000 in
theorem walkMinutes (W : World) (A : Option Addr) (n c : Nat) (l : List Int) (h : Nums W .u8 W.heap.size A n c l) (a : Int) (ha0 : 0 ≤ a) (ha1 : a ≤ 255) (u : Int) (hu0 : 0 ≤ u) (hu1 : u ≤ 255) :
    Calls Try.prog 4 #[.slice A n c, .int .u8 a, .int .u8 u] W fun e w => e = .returned (.bool true) ∧ Below W.heap.size W w := by
  go_enter Try.func4, Try.ntmps4
  go_wp2_with fail
  refine (new_any A n c l W h).mono ?_; rintro e w1 ⟨rfl, hc1, hb1⟩
  have HB1 := Lib.hid hb1
  have HC1 := Lib.hid hc1
  clear hb1 hc1
  go_wp2_with fail
  refine (rota9 _ _ w1 HC1.out).mono ?_; rintro e w2 ⟨v, L, rfl, ho, hok, h6, hc2, hg2⟩
  obtain ⟨Av, nv, cv, rfl, hnv, hr⟩ := ho.row
  have HOK := Lib.hid hok
  have HNV := Lib.hid (show nv ≤ 6 by omega)
  have HL := Lib.hid hnv
  have HR := Lib.hid hr
  have HB2 := Lib.hid (below_growD HB1.out hg2 (Nat.le_refl _))
  clear ho hnv hok hc2 hg2 HB1 HC1 h6 h hr
  have HA := Lib.hid (show 0 ≤ a % 40 ∧ a % 40 < a % 40 + 1 + u % 30 ∧ a % 40 + 1 + u % 30 ≤ 100 by omega)
  go_wp2_with fail
  generalize a % 40 = t0 at *
  generalize t0 + 1 + u % 30 = t1 at *
  obtain ⟨he, hrs⟩ := Sf.rest_start L t0 t1 (by have := HA.out; omega) HOK.out
  refine (pairs36 Av nv cv L t0 t1 w2 HR.out).mono ?_; rintro e w3 ⟨v3, rfl, ho3, hb3⟩
  rw [he]
  obtain ⟨P, hP⟩ : ∃ P, (Sf.prs L t0 t1).1 = P := ⟨_, rfl⟩
  rw [hP] at hrs ho3
  obtain ⟨A3, n3, c3, rfl, hn3, hr3⟩ := ho3.numsN (fun x hx => wf_time (Sf.rest_bd HOK.out (by have := HA.out; omega) hrs x hx))
  have HN3 := Lib.hid hn3
  have HRS := Lib.hid hrs
  have HP := Lib.hid (hr3.keep (Below.refl _ _) (Nat.le_refl _))
  have HR3 := Lib.hid (HR.out.keep hb3 hb3.size)
  have HB3 := Lib.hid (HB2.out.trans (hb3.mono HB2.out.size))
  have HCHK := Lib.hid (Sf.chk_ok.2 HOK.out)
  have hev : (n3 : Int) % 2 = 0 := by have h1 := Sf.rest_even hrs; have h2 : n3 = P.length := hn3.out; omega
  clear he hP hrs ho3 hn3 hr3 hb3 HR HB2
  have hev2 : (n3 : Int).tmod 2 = 0 := by rw [Int.tmod_eq_emod_of_nonneg (by omega)]; exact hev
  go_wp2_with fail
  clear hev hev2
  go_loopw [11, 13, 14] (fun pv nv iv wr => ∃ (t now : Int) (P' : List Int) (Ap : Option Addr) (np cp : Nat), t0 ≤ t ∧ t ≤ t1 ∧ iv = .int .i64 t ∧ nv = .int .i64 now ∧ pv = .slice Ap np cp ∧ Hid (Below w3.heap.size w3 wr ∧ Nums w3 .i64 w3.heap.size Ap np cp P' ∧ Sf.rest L t0 t1 t now P' ∧ ((t = t0 ∧ now = 0) ∨ (t0 < t ∧ now = Sf.cnt L (t - 1))))) (fun _ _ iv _ => (t1 - intOf iv).toNat)
  case atStart => exact ⟨t0, 0, P, A3, n3, c3, Int.le_refl _, by have := HA.out; omega, rfl, rfl, rfl, Below.refl _ _, HP.out, HRS.out, .inl ⟨rfl, rfl⟩⟩
  case round =>
    rename World => Y
    obtain ⟨t, now, P', Ap, np, cp, ht0, ht1, rfl, rfl, rfl, HI⟩ := hrel
    have HBY := Lib.hid (HB3.out.trans (HI.out.1.mono HB3.out.size))
    by_cases hlt : t < t1
    · have gt : decide (t < t1) = true := decide_eq_true hlt
      have HST := Lib.hid (Sf.rest_step HI.out.2.2.1 ht0 hlt HI.out.2.2.2)
      have HT := Lib.hid (show 0 ≤ t0 ∧ t0 ≤ t ∧ t < t1 ∧ t1 ≤ 100 by have := HA.out; omega)
      have htb : 0 ≤ t ∧ t < 100 := by have := HA.out; omega
      go_wp2_with fail
      go_loopw [11, 13] (fun pv nv wr => ∃ (now2 : Int) (P2 : List Int) (A2 : Option Addr) (n2 c2 : Nat), nv = .int .i64 now2 ∧ pv = .slice A2 n2 c2 ∧ Hid (Below w3.heap.size w3 wr ∧ Nums w3 .i64 w3.heap.size A2 n2 c2 P2 ∧ ((∃ Q, P2 = t :: Sf.cnt L t :: Q ∧ Sf.cnt L t ≠ now2 ∧ Sf.rest L t0 t1 (t + 1) (Sf.cnt L t) Q) ∨ (now2 = Sf.cnt L t ∧ Sf.rest L t0 t1 (t + 1) (Sf.cnt L t) P2)))) (fun pv _ _ => lenOf9 pv)
      case atStart => exact ⟨now, P', Ap, np, cp, rfl, rfl, HI.out.1, HI.out.2.1, HST.out⟩
      case round =>
        rename World => V
        obtain ⟨now2, P2, A2, n2, c2, rfl, rfl, HJ⟩ := hrel
        obtain ⟨hbv, hnp, hd⟩ := HJ.out
        have HBV := Lib.hid hbv
        have HNP := Lib.hid (hnp.keep hbv hbv.size)
        clear hbv
        have HNP3 := Lib.hid hnp
        rcases hd with ⟨Q, hP2, hne, hQ⟩ | ⟨hnow, hQ⟩
        · have HQ := Lib.hid hQ
          have HE := Lib.hid hP2
          have h2 : 2 ≤ n2 := by rw [← hnp.len, hP2]; simp
          clear hQ hnp
          obtain ⟨ad, x, rfl, _, HX, c0, _⟩ := HNP.out.val (show 0 < n2 by omega)
          obtain ⟨ad', y, e9, _, HY, c1, _⟩ := HNP.out.val (show 1 < n2 by omega)
          injection e9 with e9
          subst e9
          obtain rfl : x = t := by rw [← HX.out.1, HE.out]; rfl
          obtain rfl : y = Sf.cnt L x := by rw [← HY.out.1, HE.out]; rfl
          have g1 : decide ((0 : Int) < (n2 : Int)) = true := decide_eq_true (by omega)
          have g1' : decide (0 < n2) = true := decide_eq_true (by omega)
          have i0 : (0 : Int) < (n2 : Int) := by omega
          have i1 : (1 : Int) < (n2 : Int) := by omega
          have i2 : ¬ ((n2 : Int) < 2) := by omega
          have i3 : ¬ (n2 < 2) := by omega
          have hc2 := HNP.out.cap
          have g2 : (Sf.cnt L x == now2) = false := by rw [beq_eq_false_iff_ne]; exact hne
          have HCUT := Lib.hid (HNP3.out.cut9 h2)
          have HQD := Lib.hid (show P2.drop 2 = Q by rw [HE.out]; rfl)
          have e0 : ad.add 0 = ad := by simp [Addr.add]
          rw [e0] at c0
          have c1' : V.cell? ⟨ad.block, ad.off + 1, none⟩ = some (.int .i64 (Sf.cnt L x)) := c1
          have gx : (x == x) = true := by simp
          clear hne hP2
          have HCUT2 := Lib.hid (show Nums w3 .i64 w3.heap.size (if c2 = 2 then some ad else some ⟨ad.block, ad.off + 2, none⟩) (n2 - 2) (c2 - 2) Q by rw [← HQD.out]; exact HCUT.out)
          clear HJ HCUT
          go_wp2_with fail
          go_quiet (fail)
          go_wp2_with fail
          go_roundw
          case rel => exact ⟨_, Q, _, _, _, rfl, rfl, below_drewN HBV.out _, HCUT2.out, .inr ⟨rfl, HQ.out⟩⟩
          case measure => simp [lenOf9]; omega
        · have HQ := Lib.hid hQ
          clear hQ HJ
          have hg : ∃ g : Bool, ((decide ((0 : Int) < (n2 : Int)) = false ∧ decide (0 < n2) = false) ∧ g = false) ∨ (0 < n2 ∧ ∃ (ad : Addr) (x : Int), A2 = some ad ∧ V.cell? ad = some (.int .i64 x) ∧ (x == t) = false) := by
            cases hP : P2 with
            | nil =>
              have : n2 = 0 := by rw [← hnp.len, hP]; rfl
              exact ⟨false, .inl ⟨⟨decide_eq_false (by omega), decide_eq_false (by omega)⟩, rfl⟩⟩
            | cons y P3 =>
              have hn0 : 0 < n2 := by rw [← hnp.len, hP]; simp
              obtain ⟨ad, x, e, _, HX, c0, _⟩ := HNP.out.val hn0
              have hxy : x = y := by rw [← HX.out.1, hP]; rfl
              subst hxy
              have hh := Sf.rest_head (show Sf.rest L t0 t1 (t + 1) (Sf.cnt L t) (x :: P3) by rw [← hP]; exact HQ.out)
              refine ⟨true, .inr ⟨hn0, ad, x, e, by simpa [Addr.add] using c0, ?_⟩⟩
              rw [beq_eq_false_iff_ne]
              have := HT.out
              omega
          subst hnow
          clear hnp
          obtain ⟨_, ⟨⟨g1, g2⟩, _⟩ | ⟨hn0, ad, x, rfl, c0, gx⟩⟩ := hg
          rotate_left
          have g1 : decide ((0 : Int) < (n2 : Int)) = true := decide_eq_true (by omega)
          have g2 : decide (0 < n2) = true := decide_eq_true hn0
          have i0 : (0 : Int) < (n2 : Int) := by omega
          rotate_left
          all_goals
            have HC9 := Lib.hid g1
            go_wp2_with fail
            refine (On36 Av nv cv L t V (HR3.out.keep HBV.out HBV.out.size) (by have := HNV.out; omega)).mono ?_; rintro e w5 ⟨v5, rfl, ho5, hb5⟩
            have HOE := Lib.hid (show Sf.On L t = Sf.onl L t by unfold Sf.On; rw [if_neg (by simpa using HCHK.out)])
            rw [HOE.out] at ho5
            obtain ⟨A5, n5, c5, rfl, hn5, hr5⟩ := ho5.row
            have HL5 := Lib.hid hn5
            have HR5 := Lib.hid hr5
            have hm5 : n5 ≤ 9223372036854775807 := by have := hr5.cap; have := hr5.max; unfold maxLen at this; omega
            have HV5 := Lib.hid (HBV.out.trans (hb5.mono HBV.out.size))
            have HRV := Lib.hid (HR3.out.keep HV5.out HV5.out.size)
            clear hn5 hr5 ho5 hb5 g1 g2
            try clear i0 gx c0
            go_wp2_with fail
            go_loopw [81] (fun iv wr => ∃ j : Nat, j ≤ n5 ∧ iv = .int .i64 j ∧ Hid (Below w5.heap.size w5 wr)) (fun iv _ => n5 - (intOf iv).toNat)
            case atStart => exact ⟨0, by omega, rfl, Below.refl _ _⟩
            case round =>
              rename World => U
              obtain ⟨j, hj, rfl, HU⟩ := hrel
              by_cases hj5 : j < n5
              · obtain ⟨ad5, s, rfl, HX5, d0⟩ := (HR5.out.keep HU.out HU.out.size).tx hj5
                have j1 : (0 : Int) ≤ (j : Int) := by omega
                have j2 : (j : Int) < (n5 : Int) := by omega
                have KD := Lib.hid (fun x : Aft U => Calls.aft (show Calls Try.prog 19 #[.slice Av nv cv, .string s, .int .i64 t] x.now fun e w' => e = .returned (.bool true) ∧ Below x.now.heap.size x.now w' from by
                  have hq := duty36 Av nv cv L s t x.now (HRV.out.keep ((HU.out.trans (x.below.mono HU.out.size))) ((HU.out.trans (x.below.mono HU.out.size))).size) (by have := HNV.out; omega)
                  rw [HOE.out, decide_eq_true (show txOf s ∈ Sf.onl L t by rw [← HX5.out.1, getD_getElem HX5.out.2.1]; exact List.getElem_mem _)] at hq
                  exact hq))
                by_cases h0 : j = 0
                rotate_left
                have gj : decide ((0 : Int) < (j : Int)) = true := decide_eq_true (by omega)
                obtain ⟨k, rfl⟩ : ∃ k, j = k + 1 := ⟨j - 1, by omega⟩
                obtain ⟨ad6, s6, e6, HX6, d1⟩ := (HR5.out.keep HU.out HU.out.size).tx (show k < n5 by omega)
                obtain rfl : ad5 = ad6 := by injection e6
                have y0 := Aft.cell d0
                have y1 := Aft.cell (show U.cell? ⟨ad5.block, ad5.off + (k + 1), none⟩ = some (.string s) by rw [← d0]; simp [Addr.add])
                have z0 := Aft.cell d1
                have hlt9 : txOf s6 < txOf s := by
                  have hp := List.pairwise_iff_getElem.1 (Sf.onl_asc HOK.out t) k (k + 1) HX6.out.2.1 HX5.out.2.1 (by omega)
                  rw [← getD_getElem HX6.out.2.1 (d := []), ← getD_getElem HX5.out.2.1 (d := []), HX6.out.1, HX5.out.1] at hp
                  exact hp
                have b1 : Op.bytesLess s.toList s6.toList = false := by
                  rw [bytesLess_eq, tx_list, tx_list, decide_eq_false_iff_not]
                  exact fun h => List.lt_asymm h hlt9
                have b2 : (s.toList == s6.toList) = false := by
                  rw [tx_beq, decide_eq_false_iff_not]
                  intro h
                  rw [h] at hlt9
                  exact List.lt_irrefl _ hlt9
                have HLT9 := Lib.hid hlt9
                clear h0 hlt9 d0 d1 e6
                rotate_left
                subst h0
                have gj : decide ((0 : Int) < ((0 : Nat) : Int)) = false := decide_eq_false (by omega)
                have y0 := Aft.cell d0
                have y1 := Aft.cell (show U.cell? ad5 = some (.string s) by rw [← d0]; simp [Addr.add])
                clear d0
                all_goals
                  go_wp2_with fail
                  refine wp_region_aft (by kernel_rfl) (by kernel_rfl) ?_
                  repeat (go_big_quiet_step (first | with_reducible exact KD.out _))
                  try refine wpQuiet_nil ?_
                  rintro w7 ⟨⟨_, hb7⟩, rfl⟩
                  have HB7 := Lib.hid (HU.out.trans (hb7.mono HU.out.size))
                  clear hb7
                  try clear y0
                  try clear z0
                  try clear y1
                  go_wp2_with fail
                  go_roundw
                  case rel => exact ⟨_, hj5, by go_num, HB7.out⟩
                  case measure => simp [intOf]; try omega
              · obtain rfl : n5 = j := by omega
                have HUW := Lib.hid (HV5.out.trans (HU.out.mono HV5.out.size))
                go_wp2_with fail
                go_loopw [17, 111] (fun mv iv wr => ∃ (j m : Nat), j ≤ nv ∧ iv = .int .i64 j ∧ mv = .int .i64 m ∧ Hid (Below w3.heap.size w3 wr ∧ m = ((L.take j).filter fun x => x.has t).length)) (fun _ iv _ => nv - (intOf iv).toNat)
                case atStart => exact ⟨0, 0, by omega, rfl, rfl, HUW.out, by simp⟩
                case round =>
                  rename World => G
                  obtain ⟨j, m, hj, rfl, rfl, HG⟩ := hrel
                  have hmj : m ≤ j := by
                    have h1 := List.length_filter_le (fun x : Sf => x.has t) (L.take j)
                    have h2 := List.length_take_le j L
                    have := HG.out.2
                    omega
                  by_cases hjn : j < nv
                  · obtain ⟨ad8, yp, yf, yu, rfl, HX8, c0, c1, c2⟩ := (HR3.out.keep HG.out.1 HG.out.1.size).sf hjn
                    obtain ⟨X8, hX8, HB8⟩ := sf_boxB G yp yf yu
                    obtain ⟨_, e0, e1, e2, _⟩ := HB8.out.2
                    have HG8 := Lib.hid (HG.out.1.trans (HB8.out.1.mono HG.out.1.size))
                    have HF := Lib.hid (filt_takeS (p := fun x : Sf => x.has t) ⟨HX8.out.1, HX8.out.2.1⟩)
                    have hnv6 : nv ≤ 6 := HNV.out
                    rcases g1 : decide (yf ≤ t) with _ | _
                    · have HM := Lib.hid (show m = ((L.take (j + 1)).filter fun x => x.has t).length by rw [HF.out, show Sf.has ⟨yp, yf, yu⟩ t = false by unfold Sf.has; rw [g1]; rfl]; simpa using HG.out.2)
                      go_wp2_with fail
                      go_roundw
                      case rel => exact ⟨j + 1, m, by omega, by go_num, rfl, HG8.out, HM.out⟩
                      case measure => simp [intOf]; omega
                    rcases g2 : decide (t < yu) with _ | _
                    · have HM := Lib.hid (show m = ((L.take (j + 1)).filter fun x => x.has t).length by rw [HF.out, show Sf.has ⟨yp, yf, yu⟩ t = false by unfold Sf.has; rw [g1, g2]; rfl]; simpa using HG.out.2)
                      go_wp2_with fail
                      go_roundw
                      case rel => exact ⟨j + 1, m, by omega, by go_num, rfl, HG8.out, HM.out⟩
                      case measure => simp [intOf]; omega
                    · have HM := Lib.hid (show m + 1 = ((L.take (j + 1)).filter fun x => x.has t).length by rw [HF.out, show Sf.has ⟨yp, yf, yu⟩ t = true by unfold Sf.has; rw [g1, g2]; rfl]; simp; exact HG.out.2)
                      go_wp2_with fail
                      go_roundw
                      case rel => exact ⟨j + 1, m + 1, by omega, by go_num, by go_num, HG8.out, HM.out⟩
                      case measure => simp [intOf]; omega
                  · obtain rfl : j = nv := by omega
                    have hmw : m = (Sf.who L t).length := by
                      have := HG.out.2
                      rw [List.take_of_length_le (by rw [HL.out]; exact Nat.le_refl _)] at this
                      unfold Sf.who
                      rw [List.length_map]; exact this
                    have hc9 : Sf.cnt L t = (m : Int) := by unfold Sf.cnt; rw [Sf.onl_who, hmw]
                    have h59 : n5 = m := by rw [HL5.out, Sf.onl_who, hmw]
                    have g8 : ((m : Int) != Sf.cnt L t) = false := by rw [hc9]; simp
                    have g9 : ((m : Int) != (n5 : Int)) = false := by rw [h59]; simp
                    have HGG := Lib.hid HG.out.1
                    clear hc9 h59 hmw
                    go_wp2_with fail
                    go_roundw
                    case rel => exact ⟨t + 1, Sf.cnt L t, P2, _, n2, c2, by omega, by omega, by go_num, rfl, rfl, HGG.out, HNP3.out, HQ.out, .inr ⟨by omega, by rw [show t + 1 - 1 = t by omega]⟩⟩
                    case measure => simp [intOf]; omega
    · obtain rfl : t = t1 := by omega
      have HPE := Lib.hid (Sf.rest_end (by have := HA.out; omega) HI.out.2.2.1)
      obtain rfl : np = 0 := by rw [← HI.out.2.1.len, HPE.out]; rfl
      go_wp2_with fail
      refine (awake36 Y).mono ?_; rintro e w9 ⟨rfl, hb9⟩
      have HB9 := Lib.hid (HBY.out.trans (hb9.mono HBY.out.size))
      clear hb9
      go_wp2_with fail
      go_ret
      exact ⟨rfl, HB9.out⟩
end Go.Proofs.Ytoomgbddfcmjnaa
