/- Register: what is in force, and what is found. -/
import Derived.Test.YtojeendofpallaaRge
namespace Go.Proofs.Ytojeendofpallaa
open Go.RowKit
theorem Rg.infStep_mem (ns : List Int) (y : Rg.En) (n : Int) : n ∈ Rg.infStep ns y ↔ (n ∈ ns ∧ (y.kind = 1 ∨ y.of ≠ n)) ∨ (y.kind ≠ 2 ∧ n = y.num) := by
  unfold Rg.infStep
  rw [List.mem_append]
  have e1 : (n ∈ if y.kind = 1 then ns else ns.filter fun n => n != y.of) ↔ (n ∈ ns ∧ (y.kind = 1 ∨ y.of ≠ n)) := by
    by_cases h1 : y.kind = 1
    · rw [if_pos h1]; exact ⟨fun h => ⟨h, .inl h1⟩, fun h => h.1⟩
    · rw [if_neg h1, List.mem_filter]
      constructor
      · rintro ⟨h2, h3⟩
        exact ⟨h2, .inr (by have : n ≠ y.of := by simpa using h3
                            exact fun e => this e.symm)⟩
      · rintro ⟨h2, h3 | h3⟩
        · exact absurd h3 h1
        · exact ⟨h2, by simpa using fun e => h3 e.symm⟩
  have e2 : (n ∈ if y.kind = 2 then [] else [y.num]) ↔ (y.kind ≠ 2 ∧ n = y.num) := by
    by_cases h1 : y.kind = 2
    · rw [if_pos h1]; simp [h1]
    · rw [if_neg h1]; simp [h1]
  rw [e1, e2]
theorem Rg.Reg.inf_iff {L : List Rg.En} (h : Rg.Reg L) : ∀ j, j ≤ L.length → ∀ i, i < j → ((((i : Int) + 1) ∈ Rg.inf (L.take j)) ↔ ((L.getD i Rg.En0).kind ≠ 2 ∧ ∀ k, k < j → (L.getD k Rg.En0).kind = 1 ∨ (L.getD k Rg.En0).of ≠ (i : Int) + 1)) := by
  intro j
  induction j with
  | zero => intro _ i hi; omega
  | succ j ih =>
    intro hj i hi
    have hjl : j < L.length := by omega
    have hnum := h.num j hjl
    rw [Rg.inf_take hjl, Rg.infStep_mem]
    rcases Nat.lt_or_ge i j with hij | hij
    · rw [ih (by omega) i hij]
      constructor
      · rintro (⟨⟨h1, h2⟩, h3⟩ | ⟨_, h3⟩)
        · refine ⟨h1, fun k hk => ?_⟩
          rcases Nat.lt_or_ge k j with h9 | h9
          · exact h2 k h9
          · obtain rfl : k = j := by omega
            exact h3
        · rw [hnum] at h3; omega
      · rintro ⟨h1, h2⟩
        exact .inl ⟨⟨h1, fun k hk => h2 k (by omega)⟩, h2 j (by omega)⟩
    · obtain rfl : i = j := by omega
      constructor
      · rintro (⟨h1, _⟩ | ⟨h1, _⟩)
        · obtain ⟨q, hq, e⟩ := h.inf_of (by omega) h1
          omega
        · refine ⟨h1, fun k hk => .inr ?_⟩
          have := h.of_le (j := k) (by omega)
          omega
      · rintro ⟨h1, _⟩
        exact .inr ⟨h1, hnum.symm⟩
theorem Rg.Reg.inf_all {L : List Rg.En} (h : Rg.Reg L) {i : Nat} (hi : i < L.length) : (((i : Int) + 1) ∈ Rg.inf L) ↔ ((L.getD i Rg.En0).kind ≠ 2 ∧ ∀ k, k < L.length → (L.getD k Rg.En0).kind = 1 ∨ (L.getD k Rg.En0).of ≠ (i : Int) + 1) := by
  have := h.inf_iff L.length (Nat.le_refl _) i hi
  rwa [List.take_length] at this
theorem Rg.Reg.inf_asc {L : List Rg.En} (h : Rg.Reg L) : ∀ j, j ≤ L.length → (Rg.inf (L.take j)).Pairwise (fun a b => a < b) := by
  intro j
  induction j with
  | zero => intro _; simp [Rg.inf]
  | succ j ih =>
    intro hj
    have hjl : j < L.length := by omega
    have hnum := h.num j hjl
    have h1 := ih (by omega)
    have h2 : ∀ n ∈ Rg.inf (L.take j), n ≤ j := fun n hn => by
      obtain ⟨i, hi, e⟩ := h.inf_of (by omega) hn
      omega
    rw [Rg.inf_take hjl]
    unfold Rg.infStep
    have h3 : (if (L.getD j Rg.En0).kind = 1 then Rg.inf (L.take j) else (Rg.inf (L.take j)).filter fun n => n != (L.getD j Rg.En0).of).Pairwise (fun a b => a < b) := by
      split
      · exact h1
      · exact h1.filter _
    have h4 : ∀ n ∈ (if (L.getD j Rg.En0).kind = 1 then Rg.inf (L.take j) else (Rg.inf (L.take j)).filter fun n => n != (L.getD j Rg.En0).of), n ≤ j := by
      intro n hn
      split at hn
      · exact h2 n hn
      · exact h2 n (List.mem_filter.1 hn).1
    by_cases hk2 : (L.getD j Rg.En0).kind = 2
    · rw [if_pos hk2, List.append_nil]; exact h3
    · rw [if_neg hk2, List.pairwise_append]
      refine ⟨h3, by simp, fun a ha b hb => ?_⟩
      have := h4 a ha
      rw [List.mem_singleton.1 hb, hnum]
      omega
theorem Rg.Reg.asc {L : List Rg.En} (h : Rg.Reg L) : (Rg.inf L).Pairwise (fun a b => a < b) := by
  have := h.inf_asc L.length (Nat.le_refl _)
  rwa [List.take_length] at this
theorem Rg.about_out {L : List Rg.En} {x : Rg.En} (h : Rg.about L x = 0) (ho : x.out ≠ 0) : x.kind ≠ 2 ∧ Rg.news L x.out = 0 := by
  unfold Rg.about at h
  split at h
  · simp at h
  · split at h
    · simp at h
    · split at h
      · simp at h
      · split at h
        · simp at h
        · split at h
          · split at h
            · rename_i h9; exact absurd h9.1 ho
            · simp at h
          · rename_i h9; exact ⟨h9, h⟩
theorem Rg.news_none {L : List Rg.En} {y : Int} (h : Rg.news L y = 0) : ∀ x ∈ L, x.out ≠ y := by
  unfold Rg.news at h
  split at h
  · simp at h
  · split at h
    · simp at h
    · rename_i h9
      exact fun x hx e => h9 ⟨x, hx, e⟩
/-- an output is found at the entry that has it -/
theorem Rg.Reg.found {L : List Rg.En} (h : Rg.Reg L) {i : Nat} (hi : i < L.length) (ho : (L.getD i Rg.En0).out ≠ 0) {r : Int}
    (hr : (r = 0 ∧ ∀ x ∈ L, ¬ Rg.hits (L.getD i Rg.En0).out x) ∨ ∃ j, j < L.length ∧ Rg.hits (L.getD i Rg.En0).out (L.getD j Rg.En0) ∧ r = (L.getD j Rg.En0).num ∧ ∀ x ∈ L.take j, ¬ Rg.hits (L.getD i Rg.En0).out x) : r = (L.getD i Rg.En0).num := by
  have hmem : ∀ j, j < L.length → L.getD j Rg.En0 ∈ L := fun j hj => by
    rw [List.getD_eq_getElem?_getD, List.getElem?_eq_getElem hj]; exact List.getElem_mem hj
  have htake : ∀ i j, i < j → j ≤ L.length → L.getD i Rg.En0 ∈ L.take j := fun i j hij hj => by
    rw [List.getD_eq_getElem?_getD, List.getElem?_eq_getElem (by omega)]
    exact List.mem_take_iff_getElem.2 ⟨i, by omega, rfl⟩
  have hk := Rg.about_out (h.abt i hi) ho
  rcases hr with ⟨_, h9⟩ | ⟨j, hj, hh, e, h9⟩
  · exact absurd ⟨hk.1, rfl⟩ (h9 _ (hmem i hi))
  · rcases Nat.lt_trichotomy j i with h1 | h1 | h1
    · exact absurd hh.2 (Rg.news_none hk.2 _ (htake j i h1 (by omega)))
    · subst h1; exact e
    · exact absurd ⟨hk.1, rfl⟩ (h9 _ (htake i j h1 (by omega)))
theorem find_at (A : Option Addr) (n c : Nat) (L : List Rg.En) (j : Nat) (num bef kind of out link : Int) (txt : ByteArray) (w : World) (h : EnRow w w.heap.size A n c L) (hr : Rg.Reg L) (hj : j < L.length) (hx : L.getD j Rg.En0 = ⟨num, bef, kind, of, out, txt, link⟩) (ho : out ≠ 0) :
    Calls Try.prog 53 #[.slice A n c, .int .i64 out] w fun e w' => e = .returned (.int .i64 num) ∧ Below w.heap.size w w' := by
  refine (find38 A n c L out w h hr).mono ?_
  rintro e w' ⟨r, rfl, hr9, hb⟩
  have h1 := hr.found hj (r := r) (by rw [hx]; exact ho) (by rw [hx]; exact hr9)
  rw [hx] at h1
  simp only at h1
  subst h1
  exact ⟨rfl, hb⟩
def Rg.wt (L : List Rg.En) (num kind : Int) (k : Nat) : Bool := (kind != 2) && (L.take k).all fun y => y.kind == 1 || y.of != num
theorem Rg.wt_succ {L : List Rg.En} {num kind : Int} {k : Nat} (hk : k < L.length) : Rg.wt L num kind (k + 1) = (Rg.wt L num kind k && ((L.getD k Rg.En0).kind == 1 || (L.getD k Rg.En0).of != num)) := by
  unfold Rg.wt
  rw [List.take_succ_eq_append_getElem hk, List.all_append, Bool.and_assoc]
  simp [List.getD, hk]
def Rg.is (l : List Int) (num : Int) (k : Nat) : Bool := (l.take k).any fun x => x == num
theorem Rg.is_succ {l : List Int} {num : Int} {k : Nat} (hk : k < l.length) : Rg.is l num (k + 1) = (Rg.is l num k || (l.getD k 0 == num)) := by
  unfold Rg.is
  rw [take_succ_getD l k hk, List.any_append]
  simp
theorem Rg.Reg.is_wt {L : List Rg.En} (h : Rg.Reg L) {j : Nat} (hj : j < L.length) : Rg.is (Rg.inf L) (L.getD j Rg.En0).num (Rg.inf L).length = Rg.wt L (L.getD j Rg.En0).num (L.getD j Rg.En0).kind L.length := by
  unfold Rg.is Rg.wt
  rw [List.take_length, List.take_length, Bool.eq_iff_iff, h.num j hj]
  have e1 : ((Rg.inf L).any fun x => x == (j : Int) + 1) = true ↔ ((j : Int) + 1) ∈ Rg.inf L := by simp
  rw [e1, h.inf_all hj]
  simp only [Bool.and_eq_true, bne_iff_ne, ne_eq, List.all_eq_true, Bool.or_eq_true, beq_iff_eq]
  constructor
  · rintro ⟨h1, h2⟩
    refine ⟨h1, fun y hy => ?_⟩
    obtain ⟨k, hk, e⟩ := Rg.mem_getD hy
    rw [← e]
    exact h2 k hk
  · rintro ⟨h1, h2⟩
    refine ⟨h1, fun k hk => ?_⟩
    have hm : L.getD k Rg.En0 ∈ L := by rw [List.getD_eq_getElem?_getD, List.getElem?_eq_getElem hk]; exact List.getElem_mem hk
    exact h2 _ hm
set_option maxHeartbeats 1600000 in
set_option maxRecDepth 100000 in
theorem walkForce (W : World) (A : Option Addr) (n c : Nat) (l : List Int) (h : Nums W .u8 W.heap.size A n c l) :
    Calls Try.prog 11 #[.slice A n c] W fun e w => e = .returned (.bool true) ∧ Below W.heap.size W w := by
  go_enter Try.func11, Try.ntmps11
  go_wp2_with fail
  refine (new_any A n c l W h).mono ?_; rintro e w1 ⟨rfl, hc1, hb1⟩
  have HB1 := Lib.hid hb1
  clear hb1
  go_wp2_with fail
  refine (register9 _ _ w1 hc1).mono ?_; rintro e w2 ⟨v, L, rfl, ho, hr, hl8, hc2, hg2⟩
  obtain ⟨Ar, nr, cr, rfl, hrow⟩ := ho.row (by omega)
  have hnr : nr ≤ 8 := by rw [← hrow.len]; exact hl8
  have HRW := Lib.hid hrow
  have HR := Lib.hid hr
  have HB2 := Lib.hid (below_cod HB1.out hg2)
  clear hc1 hg2 ho hrow hc2 hr hl8 h
  go_wp2_with fail
  refine (force38 Ar nr cr L w2 HRW.out HR.out).mono ?_; rintro e w3 ⟨vi, rfl, hoi, hb3⟩
  obtain ⟨Ai, ni, ci, rfl, HNI, hni⟩ := hoi.nums9 (Rg.inf_wf HR.out.nums)
  have hni9 : ni ≤ 100 := by
    have := Rg.inf_len L []
    rw [HNI.out]
    have h2 := HR.out.few
    unfold Rg.inf
    simp only [List.length_nil] at this
    omega
  have HRW3 := Lib.hid (HRW.out.keep hb3 hb3.size)
  have HB3 := Lib.hid (HB2.out.trans (hb3.mono HB2.out.size))
  have HI := Lib.hid hni
  have HLR := Lib.hid HRW.out.len
  clear hoi hb3 hni
  go_wp2_with fail
  go_loopw [21] (fun i wr => ∃ j : Nat, j ≤ nr ∧ i = .int .i64 j ∧ Hid (Below w3.heap.size w3 wr)) (fun i _ => nr - (intOf i).toNat)
  case atStart => exact ⟨0, by omega, rfl, Below.refl _ _⟩
  case round =>
    rename World => Y
    obtain ⟨j, hj, rfl, HIY⟩ := hrel
    by_cases hlt : j < nr
    · obtain ⟨g, num, bef, kind, of, out, txt, link, rfl, HX, c0, c1, c2, c3, c4, c5, c6⟩ := (HRW3.out.keep HIY.out HIY.out.size).val hlt
      obtain ⟨Z, hZ⟩ : ∃ Z : World, Y.alloc (.cells #[.int .i64 num, .int .u64 bef, .int .i64 kind, .int .i64 of, .int .i64 out, .string txt, .int .u64 link] 60) = Z := ⟨_, rfl⟩
      have hbz : Below Y.heap.size Y Z := by rw [← hZ]; exact (Below.refl _ _).alloc (Nat.le_refl _) _
      have hsz : Y.heap.size < Z.heap.size := by rw [← hZ]; simp
      have d0 : Z.cell? ⟨Y.heap.size, 0, none⟩ = some (.int .i64 num) := by rw [← hZ]; simp [go_sem]
      have d2 : Z.cell? ⟨Y.heap.size, 2, none⟩ = some (.int .i64 kind) := by rw [← hZ]; simp [go_sem]
      have d4 : Z.cell? ⟨Y.heap.size, 4, none⟩ = some (.int .i64 out) := by rw [← hZ]; simp [go_sem]
      have HBZ := Lib.hid (HIY.out.trans (hbz.mono HIY.out.size))
      have HW0 := Lib.hid (show Rg.wt L num kind 0 = (kind != 2) by simp [Rg.wt])
      clear hbz
      go_wp2_with fail
      clear hZ c0 c1 c2 c3 c4 c5 c6
      go_loopw [7, 30] (fun b i wr => ∃ k : Nat, k ≤ nr ∧ i = .int .i64 k ∧ b = .bool (Rg.wt L num kind k) ∧ Hid (Below Z.heap.size Z wr)) (fun _ i _ => nr - (intOf i).toNat)
      case atStart => exact ⟨0, by omega, rfl, by rw [HW0.out], Below.refl _ _⟩
      case round =>
        rename World => V
        obtain ⟨k, hk, rfl, rfl, HJ⟩ := hrel
        have d0 := (HJ.out.cell hsz).trans d0
        have d2 := (HJ.out.cell hsz).trans d2
        have d4 := (HJ.out.cell hsz).trans d4
        by_cases hlk : k < nr
        · obtain ⟨g', num2, bef2, kind2, of2, out2, txt2, link2, e9, HX2, c0, c1, c2, c3, c4, c5, c6⟩ := ((HRW3.out.keep HBZ.out HBZ.out.size).keep HJ.out HJ.out.size).val hlk
          injection e9 with e9
          injection e9 with e9
          subst e9
          have HS := Lib.hid (show Rg.wt L num kind (k + 1) = (Rg.wt L num kind k && (kind2 == 1 || of2 != num)) by rw [Rg.wt_succ HX2.out.2.1, HX2.out.1])
          obtain ⟨Z2, hZ2⟩ : ∃ Z2 : World, V.alloc (.cells #[.int .i64 num2, .int .u64 bef2, .int .i64 kind2, .int .i64 of2, .int .i64 out2, .string txt2, .int .u64 link2] 60) = Z2 := ⟨_, rfl⟩
          have hbz2 : Below V.heap.size V Z2 := by rw [← hZ2]; exact (Below.refl _ _).alloc (Nat.le_refl _) _
          have q2 : Z2.cell? ⟨V.heap.size, 2, none⟩ = some (.int .i64 kind2) := by rw [← hZ2]; simp [go_sem]
          have q3 : Z2.cell? ⟨V.heap.size, 3, none⟩ = some (.int .i64 of2) := by rw [← hZ2]; simp [go_sem]
          have p0 := (hbz2.cell (Nat.lt_of_lt_of_le hsz HJ.out.size)).trans d0
          have HBV := Lib.hid (HJ.out.trans (hbz2.mono HJ.out.size))
          clear hbz2
          generalize Rg.wt L num kind k = b at HS
          rcases b with _ | _
          · go_wp2_with fail
            go_roundw
            case rel => exact ⟨k + 1, by omega, by go_num, by rw [HS.out]; rfl, HBV.out⟩
            case measure => simp [intOf]; omega
          · by_cases hk1 : kind2 = 1
            · subst hk1
              have g1 : ((1 : Int) == 1) = true := by simp
              go_wp2_with fail
              go_roundw
              case rel => exact ⟨k + 1, by omega, by go_num, by rw [HS.out]; rfl, HBV.out⟩
              case measure => simp [intOf]; omega
            · have g1 : (kind2 == 1) = false := by simp [hk1]
              go_wp2_with fail
              go_roundw
              case rel => exact ⟨k + 1, by omega, by go_num, by rw [HS.out, g1]; simp, HBV.out⟩
              case measure => simp [intOf]; omega
        · obtain rfl : nr = k := by omega
          have HIV := Lib.hid (HI.out.keep (HBZ.out.trans (HJ.out.mono HBZ.out.size)) (HBZ.out.trans (HJ.out.mono HBZ.out.size)).size)
          have HBV := Lib.hid (HBZ.out.trans (HJ.out.mono HBZ.out.size))
          have hsv := Nat.lt_of_lt_of_le hsz HJ.out.size
          have HEQ := Lib.hid (show Rg.is (Rg.inf L) num ni = Rg.wt L num kind nr by
            have h9 := HR.out.is_wt HX.out.2.1
            rw [HX.out.1, HLR.out] at h9
            rw [HNI.out]
            exact h9)
          go_wp2_with fail
          go_loop [10, 50] (fun b i => ∃ k : Nat, k ≤ ni ∧ i = .int .i64 k ∧ b = .bool (Rg.is (Rg.inf L) num k)) (fun _ i => ni - (intOf i).toNat)
          case atStart => exact ⟨0, by omega, rfl, by simp [Rg.is]⟩
          case round =>
            obtain ⟨k, hk, rfl, rfl⟩ := hrel
            by_cases hlk2 : k < ni
            · obtain ⟨ad, x, rfl, _, HX2, hx, _⟩ := HIV.out.val hlk2
              have HS := Lib.hid (show Rg.is (Rg.inf L) num (k + 1) = (Rg.is (Rg.inf L) num k || (x == num)) by rw [Rg.is_succ HX2.out.2, HX2.out.1])
              generalize Rg.is (Rg.inf L) num k = b at HS
              rcases b with _ | _
              · go_wp2_with fail
                go_round
                case rel => exact ⟨k + 1, by omega, by go_num, by rw [HS.out]; simp⟩
                case measure => simp [intOf]; omega
              · go_wp2_with fail
                go_round
                case rel => exact ⟨k + 1, by omega, by go_num, by rw [HS.out]; simp⟩
                case measure => simp [intOf]; omega
            · obtain rfl : ni = k := by omega
              go_wp2_with fail
              rw [HEQ.out]
              generalize Rg.wt L num kind nr = b
              have gbb : (b != b) = false := by simp
              have v0 : ∀ w', Below V.heap.size V w' → w'.cell? ⟨Y.heap.size, 0, none⟩ = some (.int .i64 num) := fun w' h9 => (h9.cell hsv).trans d0
              have v4 : ∀ w', Below V.heap.size V w' → w'.cell? ⟨Y.heap.size, 4, none⟩ = some (.int .i64 out) := fun w' h9 => (h9.cell hsv).trans d4
              clear d0 d2 d4
              by_cases ho : 0 < out
              · have go1 : decide (0 < out) = true := decide_eq_true ho
                have HF := Lib.hid (show out ≠ 0 by omega)
                have HXX := Lib.hid (And.intro HX.out.2.1 HX.out.1)
                clear ho
                go_region_held3 (fun w' => Below V.heap.size V w')
                  (first | assumption | (exact below_of_drawn 1) | (exact (Below.refl _ _).drew) | (exact below_drewN (by assumption) _) | (exact below_next28 (by assumption) (by assumption) (Below.size (by assumption))))
                  (first
                    | (go_at_call 53; (with_reducible refine (find_at (some ⟨g, 0, none⟩) nr cr L j num bef kind of out link txt _ ((HRW3.out.keep HBV.out HBV.out.size).keep (by assumption) (Below.size (by assumption))) HR.out HXX.out.1 HXX.out.2 HF.out).mono ?_); rintro e wz ⟨rfl, hbz⟩)
                    | fail)
                have hbw : Below V.heap.size V wz := by assumption
                have HBW := Lib.hid (HBV.out.trans (hbw.mono HBV.out.size))
                go_wp2_with fail
                go_roundw
                case rel => exact ⟨j + 1, by omega, by go_num, HBW.out⟩
                case measure => simp [intOf]; omega
              · have go1 : decide (0 < out) = false := decide_eq_false ho
                have k4 := v4 V (Below.refl _ _)
                clear ho v0 v4
                go_quiet (fail)
                go_wp2_with fail
                go_roundw
                case rel => exact ⟨j + 1, by omega, by go_num, below_drewN HBV.out _⟩
                case measure => simp [intOf]; omega
    · obtain rfl : nr = j := by omega
      clear hlt hj
      have HBY := Lib.hid (HB3.out.trans (HIY.out.mono HB3.out.size))
      have HIV := Lib.hid (HI.out.keep HIY.out HIY.out.size)
      go_wp2_with fail
      go_loopw [13] (fun i wr => ∃ k : Nat, i = .int .i64 ((k : Int) + 1) ∧ k ≤ ni ∧ Hid (Below Y.heap.size Y wr)) (fun i _ => ni + 1 - (intOf i).toNat)
      case atStart => exact ⟨0, rfl, by omega, Below.refl _ _⟩
      case round =>
        rename World => V
        obtain ⟨k, rfl, hkn, HK⟩ := hrel
        by_cases hlk : k + 1 < ni
        · obtain ⟨ad, x, rfl, _, HX1, hx1, hw1⟩ := (HIV.out.keep HK.out HK.out.size).val hlk
          obtain ⟨ad', y, e9, _, HX2, hx2, hw2⟩ := (HIV.out.keep HK.out HK.out.size).val (j := k) (by omega)
          injection e9 with e9
          subst e9
          have hlt9 : y < x := by
            have h9 := List.pairwise_iff_getElem.1 HR.out.asc k (k + 1) HX2.out.2 HX1.out.2 (by omega)
            have e1 := HX1.out.1
            have e2 := HX2.out.1
            rw [List.getD_eq_getElem?_getD, List.getElem?_eq_getElem HX1.out.2] at e1
            rw [List.getD_eq_getElem?_getD, List.getElem?_eq_getElem HX2.out.2] at e2
            simp only [Option.getD_some] at e1 e2
            rw [e1, e2] at h9
            exact h9
          have gl : decide (x ≤ y) = false := decide_eq_false (by omega)
          clear hlt9 hw1 hw2
          obtain ⟨k1, hk1⟩ : ∃ k1 : Nat, k + 1 = k1 := ⟨_, rfl⟩
          have ek : (k : Int) + 1 = (k1 : Int) := by omega
          have ek2 : (k1 : Int) - 1 = (k : Int) := by omega
          rw [hk1] at hx1 hlk
          rw [ek]
          have i1 : (0 : Int) ≤ (k1 : Int) := by omega
          have i2 : (k1 : Int) < (ni : Int) := by omega
          have i3 : (0 : Int) ≤ (k : Int) := by omega
          have i4 : (k : Int) < (ni : Int) := by omega
          have gi : decide ((k1 : Int) < (ni : Int)) = true := decide_eq_true i2
          have HE := Lib.hid hk1
          clear hk1 ek
          go_wp2_with fail
          go_quiet (fail)
          go_wp2_with fail
          go_roundw
          case rel => exact ⟨k1, by go_num, by omega, below_drewN HK.out _⟩
          case measure => simp [intOf]; omega
        · have gi : decide ((k : Int) + 1 < (ni : Int)) = false := decide_eq_false (by omega)
          have HBV := Lib.hid (HBY.out.trans (HK.out.mono HBY.out.size))
          go_wp2_with fail
          refine (awake38 V).mono ?_; rintro e wz ⟨rfl, hbz⟩
          have HBW := Lib.hid (HBV.out.trans (hbz.mono HBV.out.size))
          go_wp2_with fail
          go_ret
          exact ⟨rfl, HBW.out⟩
end Go.Proofs.Ytojeendofpallaa
