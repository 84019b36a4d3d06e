/- Layer 21: the reference's sort. -/
import Derived.Test.YtaalgjeffidedaaBg
import Derived.ArgAppend
import Derived.Deep.RegionHeld3
namespace Go.Proofs.Ytaalgjeffidedaa
open Go.RowKit
section
variable {P : Program} {w : World}
/-- append(s[:n:n], u...) in a region that draws its order: there is no room -/
theorem step_app_full {ops : Array Oper} {o : Oper} {a : Act} {K : Act → World → Prop} {Q : Exit → Act → World → Prop} {E : Prop} (hgd : o.guard = none) (s x : Operand) (t : TypeId)
    (ho : o.op = .call { callee := .builtin .append, args := #[s, x], argTypes := #[t, t] })
    (e : TypeId) (bytes : Nat) (k : IntKind) (hinfo : (P.info? e).map (fun i => (i.zero, i.size, i.bytes)) = some (some (.int k 0), 1, bytes)) (ht : P.underlying t = some (.slice e))
    (A : Option Addr) (n : Nat) (l : List Int) (hs : a.eval s = .slice A n n) (B1 : Nat) (h1 : Nums w k B1 A n n l)
    (B : Nat) (ad : Addr) (m c : Nat) (l2 : List Int) (hx : a.eval x = .slice (some ad) m c) (hn : Nums w k B (some ad) m c l2) (hpos : 0 < m)
    (h63 : n + m ≤ maxLen) (hbytes : (n + m) * bytes ≤ 140737488355328)
    (h : ∀ v' w', Own w' w.heap.size e k v' (l ++ l2) → w.grownBy w' none → K (a.put o.dst v') w') : if Region.wanted o (yielded ops a.tmps) = true then Oper.wp P o a w K Q else E := by
  obtain ⟨i, hi, hz, hz1, hz2⟩ := info_parts hinfo
  have hw : Region.wanted o (yielded ops a.tmps) = true := by simp [Region.wanted, hgd]
  rw [if_pos hw]
  have hnews : ∀ j u, (l2.map (Value.int k))[j]? = some u → w.cell? (ad.add j) = some u := by
    intro j u hu
    have hj : j < m := by
      have := (List.getElem?_eq_some_iff.1 hu).1
      simpa [hn.len] using this
    obtain ⟨ad', e', _, hcell⟩ := hn.cells (by omega)
    injection e' with e'
    subst e'
    rw [hcell j hj]
    have hjl : j < l2.length := by rw [hn.len]; exact hj
    rw [List.getElem?_map, List.getElem?_eq_getElem hjl] at hu
    simp at hu
    rw [← hu]
    simp [List.getD, List.getElem?_eq_getElem hjl]
  cases A with
  | none =>
    have h0 := h1.zero rfl
    subst h0
    have hl : l = [] := List.eq_nil_of_length_eq_zero h1.len
    subst hl
    refine wp_append_own w s x t ho w.heap.size e i (.int k 0) 1 bytes ht hi hz hz1 hz2 rfl (by decide) (.slice none 0 0) 0 [] hs (World.ownsRow_nil w _ e 1) ad m c (l2.map (Value.int k)) hx (by simp [hn.len]) hnews (by intro u hu; obtain ⟨y, _, rfl⟩ := List.mem_map.1 hu; rfl) h63 hbytes (Nat.le_refl _) ?_
    intro v' w' h2 h3 _
    refine h v' w' ?_ h3
    unfold Own
    simpa [hn.len] using h2
  | some b =>
    have holds : ∀ j u, (l.map (Value.int k))[j]? = some u → w.cell? (b.add j) = some u := by
      intro j u hu
      have hj : j < n := by
        have := (List.getElem?_eq_some_iff.1 hu).1
        simpa [h1.len] using this
      obtain ⟨ad', e', _, hcell⟩ := h1.cells (by omega)
      injection e' with e'
      subst e'
      rw [hcell j hj]
      have hjl : j < l.length := by rw [h1.len]; exact hj
      rw [List.getElem?_map, List.getElem?_eq_getElem hjl] at hu
      simp at hu
      rw [← hu]
      simp [List.getD, List.getElem?_eq_getElem hjl]
    obtain ⟨v', w', hr, r1, r2⟩ := run_append_arg_grows (P := P) w t o.type e i (.int k 0) 1 bytes ht hi hz hz1 hz2 rfl (by decide) b n n (l.map (Value.int k)) (by simp [h1.len]) holds ad m c (l2.map (Value.int k)) (by simp [hn.len]) hnews (by omega) h63 hbytes
    unfold Oper.wp execOp
    simp only [ho, resolve, invoke, builtin, Sem.run_bind, Sem.run_pure, Result.andThen_ok, List.map_toArray, List.map_cons, List.map_nil, hs, hx, hr]
    refine h v' w' ?_ r2
    unfold Own
    simpa [hn.len, h1.len] using r1
/-- append(v, nil...) in a region that draws its order -/
theorem step_app_nil {ops : Array Oper} {o : Oper} {a : Act} {K : Act → World → Prop} {Q : Exit → Act → World → Prop} {E : Prop} (hgd : o.guard = none) (s x : Operand) (t : TypeId)
    (ho : o.op = .call { callee := .builtin .append, args := #[s, x], argTypes := #[t, t] })
    (base : Nat) (e : TypeId) (bytes : Nat) (k : IntKind) (hinfo : (P.info? e).map (fun i => (i.zero, i.size, i.bytes)) = some (some (.int k 0), 1, bytes)) (ht : P.underlying t = some (.slice e))
    (v : Value) (l : List Int) (hs : a.eval s = v) (hown : Own w base e k v l) (hx : a.eval x = .slice none 0 0)
    (h : K (a.put o.dst v) w) : if Region.wanted o (yielded ops a.tmps) = true then Oper.wp P o a w K Q else E := by
  obtain ⟨i, hi, hz, hz1, hz2⟩ := info_parts hinfo
  have hw : Region.wanted o (yielded ops a.tmps) = true := by simp [Region.wanted, hgd]
  rw [if_pos hw]
  have hrun := run_append_owned_none (P := P) (w := w) base t o.type e i 1 ht hi v l.length (l.map (Value.int k)) hown
  unfold Oper.wp execOp
  simp only [ho, resolve, invoke, builtin, Sem.run_bind, Sem.run_pure, Result.andThen_ok, List.map_toArray, List.map_cons, List.map_nil, hs, hx, hrun]
  exact h
end
/-- s[k:] -/
theorem Nums.cut {w : World} {kd : IntKind} {B : Nat} {A : Option Addr} {n c : Nat} {l : List Int} (h : Nums w kd B A n c l) {k : Nat} (hk : k ≤ n) :
    Nums w kd B (if c = k then A else A.map (·.add k)) (n - k) (c - k) (l.drop k) := by
  have hcap := h.cap
  refine ⟨by rw [List.length_drop, h.len], by omega, by have := h.max; omega, fun hn => ?_, fun x hx => h.wf x (List.mem_of_mem_drop hx), fun hz => ?_⟩
  · obtain ⟨ad, rfl, hb, hc⟩ := h.cells (by omega)
    rw [if_neg (by omega)]
    refine ⟨ad.add k, rfl, by rw [add_block]; exact hb, fun j hj => ?_⟩
    rw [add_add, hc (k + j) (by omega)]
    congr 2
    simp [List.getD, List.getElem?_drop]
  · by_cases he : c = k
    · omega
    · rw [if_neg he] at hz
      cases A with
      | none => have := h.zero rfl; omega
      | some a => cases hz
/-- s[:k:k] -/
theorem Nums.full {w : World} {kd : IntKind} {B : Nat} {A : Option Addr} {n c : Nat} {l : List Int} (h : Nums w kd B A n c l) {k : Nat} (hk : k ≤ n) :
    Nums w kd B A k k (l.take k) := by
  have hcap := h.cap
  refine ⟨by rw [List.length_take, h.len]; omega, Nat.le_refl _, by have := h.max; omega, fun hn => ?_, fun x hx => h.wf x (List.mem_of_mem_take hx), fun hz => by have := h.zero hz; omega⟩
  obtain ⟨ad, rfl, hb, hc⟩ := h.cells (by omega)
  refine ⟨ad, rfl, hb, fun j hj => ?_⟩
  rw [hc j (by omega)]
  congr 2
  simp [List.getD, hj]
theorem Own.lit1 (w : World) (e : TypeId) (k : IntKind) (x : Int) : Own (w.alloc (.cells #[.int k x] e)) w.heap.size e k (.slice (some ⟨w.heap.size, 0, none⟩) 1 1) [x] :=
  ⟨by simp, .inr ⟨w.heap.size, 1, #[.int k x], rfl, Nat.le_refl _, heap_alloc_new w _, Nat.le_refl _, by simp [maxLen], rfl, rfl⟩⟩
theorem Pb.srt_put {l : List Int} {x : Int} {k : Nat} (h1 : ∀ y ∈ (Pb.srt l).take k, y ≤ x) (h2 : ∀ y ∈ (Pb.srt l).drop k, x < y) : Pb.srt (l ++ [x]) = (Pb.srt l).take k ++ ([x] ++ (Pb.srt l).drop k) := by
  refine Pb.sorted_perm_eq (Pb.srt_sorted _) ?_ ?_
  · have hs := Pb.srt_sorted l
    rw [← List.take_append_drop k (Pb.srt l)] at hs
    obtain ⟨ha, hb, hc⟩ := List.pairwise_append.1 hs
    refine List.pairwise_append.2 ⟨ha, List.pairwise_cons.2 ⟨fun y hy => by have := h2 y (by simpa using hy); omega, by simpa using hb⟩, fun y hy z hz => ?_⟩
    rcases List.mem_cons.1 hz with rfl | hz
    · exact h1 y hy
    · exact hc y hy z (by simpa using hz)
  · refine (Pb.srt_perm _).trans ?_
    have e1 : (l ++ [x]).Perm (x :: l) := List.perm_append_singleton x l
    have e2 : (x :: l).Perm (x :: ((Pb.srt l).take k ++ (Pb.srt l).drop k)) := by rw [List.take_append_drop]; exact (Pb.srt_perm l).symm.cons x
    exact e1.trans (e2.trans (List.perm_middle.symm))
theorem Pb.srt_le {l : List Int} {x : Int} {k : Nat} (hk : k < l.length) (h : (Pb.srt l).getD k 0 ≤ x) : ∀ y ∈ (Pb.srt l).take (k + 1), y ≤ x := fun y hy => by
  have hs := Pb.srt_sorted l
  have hl := Pb.srt_len l
  obtain ⟨i, hi, rfl⟩ := List.mem_iff_getElem.1 hy
  rw [List.length_take] at hi
  simp only [List.getD, List.getElem?_eq_getElem (show k < (Pb.srt l).length by omega), Option.getD_some] at h
  simp only [List.getElem_take]
  by_cases e : i = k
  · subst e; exact h
  · have := List.pairwise_iff_getElem.1 hs i k (by omega) (by omega) (by omega)
    omega
set_option maxRecDepth 100000 in
set_option maxHeartbeats 1600000 in
theorem rsort21 (A : Option Addr) (n c : Nat) (l : List Int) (w : World) (h : Nums w .i64 w.heap.size A n c l) (hn : n ≤ 1000) :
    Calls Try.prog 24 #[.slice A n c] w (GivesInts (Pb.srt l) w) := by
  have H := Lib.hid h
  clear h
  go_enter Try.func24, Try.ntmps24
  go_wp2_with fail
  go_loopw [3, 4, 5] (fun v i _ wr => ∃ j : Nat, j ≤ n ∧ i = .int .i64 j ∧ Hid (Own wr w.heap.size 3 .i64 v (Pb.srt (l.take j)) ∧ Below w.heap.size w wr)) (fun _ i _ _ => n - (intOf i).toNat)
  case atStart => exact ⟨0, by omega, rfl, ⟨by simpa [Pb.srt] using Own.nil _ _ _ _, Below.refl _ _⟩⟩
  case round =>
    obtain ⟨j, hj, rfl, HI⟩ := hrel
    by_cases hlt : j < n
    · obtain ⟨ad, x, rfl, _, HX, hx, hwx⟩ := (H.out.keep HI.out.2 HI.out.2.size).val hlt
      have hjl : (Pb.srt (l.take j)).length = j := by rw [Pb.srt_len, List.length_take, H.out.len]; omega
      have hwf : ∀ y ∈ Pb.srt (l.take j), (Lit.int .i64 y).wf = true := fun y hy => H.out.wf y (List.mem_of_mem_take (Pb.srt_mem.1 hy))
      obtain ⟨S, N, cs, rfl, hN, hns⟩ := HI.out.1.numsN hwf
      obtain rfl : N = j := by rw [hN.out, hjl]
      have HNS := Lib.hid hns
      have HB := Lib.hid HI.out.2
      have HTS := Lib.hid (take_succ_getD l N HX.out.2)
      have hjn : (N : Int) < n := by omega
      have hwx2 := bounds_i64 hwx
      have HLJ := Lib.hid (show (l.take N).length = N by rw [List.length_take, H.out.len]; omega)
      clear hwf hns HI hwx hjl hN
      go_wp2_with fail
      generalize hwr : wr = w2 at *
      clear hwr
      go_loopw [5] (fun i wr => ∃ (k : Nat) (m : Nat), k ≤ N ∧ i = .int .i64 k ∧ wr = w2.drewN m ∧ Hid (∀ y ∈ (Pb.srt (l.take N)).drop k, x < y)) (fun i _ => (intOf i).toNat)
      case atStart => exact ⟨N, 0, by omega, rfl, rfl, Lib.hid (fun y hy => by rw [List.drop_eq_nil_of_le (by rw [Pb.srt_len, HLJ.out]; exact Nat.le_refl _)] at hy; cases hy)⟩
      case round =>
        obtain ⟨k, m, hk, rfl, rfl, HK⟩ := hrel
        have hsl : (Pb.srt (l.take N)).length = N := by rw [Pb.srt_len, HLJ.out]
        by_cases hgo : 0 < k ∧ x < (Pb.srt (l.take N)).getD (k - 1) 0
        · obtain ⟨h0, hxy⟩ := hgo
          obtain ⟨sd, y, rfl, _, HY, hy, _⟩ := HNS.out.val (show k - 1 < N by omega)
          rw [HY.out.1] at hxy
          have HD := Lib.hid (show ∀ z ∈ (Pb.srt (l.take N)).drop (k - 1), x < z from fun z hz => by
            rw [List.drop_eq_getElem_cons (show k - 1 < (Pb.srt (l.take N)).length by omega)] at hz
            rcases List.mem_cons.1 hz with rfl | hz
            · have := HY.out.1
              simp only [List.getD, List.getElem?_eq_getElem (show k - 1 < (Pb.srt (l.take N)).length by omega), Option.getD_some] at this
              rw [this]; exact hxy
            · rw [show k - 1 + 1 = k by omega] at hz; exact HK.out z hz)
          have d1 : decide (x < y) = true := by simpa using hxy
          have d0 : decide ((0 : Int) < k) = true := by simp; omega
          have d00 : decide (0 < k) = true := by simp; omega
          have i1 : (1 : Int) ≤ k := by omega
          have i5 : (k : Int) - 1 < N := by omega
          have i6 : (0 : Int) ≤ (k : Int) - 1 := by omega
          have i3 : ((k : Int) - 1).toNat = k - 1 := by omega
          have i4 : IntKind.i64.wrap ((k : Int) - 1) = (k : Int) - 1 := by simp [IntKind.wrap, IntKind.bits, IntKind.signed]; omega
          clear hxy h0 hsl
          go_wp2_with fail
          go_quiet (fail)
          go_wp2_with fail
          go_roundw
          case rel => exact ⟨k - 1, _, by omega, by congr 1; omega, rfl, HD⟩
          case measure => simp [intOf]; omega
        · have hta : ∀ y ∈ (Pb.srt (l.take N)).take k, y ≤ x := by
            rcases Nat.eq_zero_or_pos k with h0 | h0
            · subst h0; intro y hy; simp at hy
            · have h1 : (Pb.srt (l.take N)).getD (k - 1) 0 ≤ x := by
                rcases Int.lt_or_le x ((Pb.srt (l.take N)).getD (k - 1) 0) with h | h
                · exact absurd ⟨h0, h⟩ hgo
                · exact h
              have := Pb.srt_le (l := l.take N) (x := x) (k := k - 1) (by rw [HLJ.out]; omega) h1
              rwa [show k - 1 + 1 = k by omega] at this
          have HPUT := Lib.hid (Pb.srt_put hta HK.out)
          have hstep : (k = 0 ∧ decide ((0 : Int) < k) = false ∧ decide (0 < k) = false) ∨ (0 < k ∧ (Pb.srt (l.take N)).getD (k - 1) 0 ≤ x) := by
            rcases Nat.eq_zero_or_pos k with h0 | h0
            · left; subst h0; simp
            · right; refine ⟨h0, ?_⟩
              rcases Int.lt_or_le x ((Pb.srt (l.take N)).getD (k - 1) 0) with h | h
              · exact absurd ⟨h0, h⟩ hgo
              · exact h
          clear hta hgo
          rcases hstep with ⟨h0, d0, d00⟩ | ⟨h0, hyx⟩
          · clear h0
            go_wp2_with fail
            go_quiet (fail)
            go_wp2_with fail
            obtain ⟨W8, hW8⟩ : ∃ W8 : World, (w2.drewN m).drewN nq = W8 := ⟨_, rfl⟩
            have hb8 : Below w2.heap.size w2 W8 := by rw [← hW8]; exact below_drewN (below_drewN (Below.refl _ _) _) _
            have HN8 := Lib.hid (HNS.out.keep hb8 hb8.size)
            have HB8 := Lib.hid (HB.out.trans (hb8.mono HB.out.size))
            have hx8 : ∀ w', Below W8.heap.size W8 w' → w'.cell? (ad.add N) = some (.int .i64 x) := fun w' hb => below_cell hb (below_cell hb8 hx)
            have HWX := Lib.hid (show ∀ y ∈ [x], (Lit.int .i64 y).wf = true from fun y hy => by rw [List.mem_singleton.1 hy]; exact H.out.wf x (getD_mem HX.out))
            have HSL := Lib.hid hsl
            have HFU := Lib.hid (HN8.out.full hk)
            rw [hW8]
            clear hW8 hb8 hx
            cases S with
            | none =>
              have h0 := HNS.out.zero rfl
              subst h0
              have hk0 : N = 0 := by have := HNS.out.cap; omega
              subst hk0
              obtain rfl : k = 0 := by omega
              rw [show ad.add 0 = ad from by simp [Addr.add]] at hx8
              go_region_held3 (fun w' => Below W8.heap.size W8 w')
                (first | assumption | (exact below_of_drawn 1) | (exact Below.drewN ((Below.refl _ _).alloc (Nat.le_refl _) _) 1) | (exact Below.drewN (Below.refl _ _) 1) | (exact Below.alloc (by assumption) (by first | exact Below.size (by assumption) | simp) _) | (exact hbel) | (exact hbel2) | (exact Below.drewN (by assumption) 1))
                (first
                  | (refine step_app_nil rfl (.tmp 38) (.tmp 41) _ rfl W8.heap.size 3 8 .i64 int_info Try.underlying23 _ [x] rfl (Own.lit1 W8.drew _ _ x) rfl ?_; have hown13 := Own.lit1 W8.drew 3 .i64 x; have hbel : Below W8.heap.size W8 (W8.drew.alloc (.cells #[.int .i64 x] 3)) := Below.alloc (below_of_drawn 1) (Nat.le_refl _) _; obtain ⟨A13, N13, c13, hv13, hN13, hn13⟩ := hown13.numsN HWX.out; injection hv13 with hv1 hv2 hv3; subst hv1; subst hv2; subst hv3; have hp13 : 0 < 1 := by decide)
                  | (refine step_app_full rfl (.tmp 33) (.tmp 42) _ rfl 3 8 .i64 int_info Try.underlying23 none 0 _ rfl _ (HFU.out.keep (by assumption) (Below.size (by assumption))) _ _ _ _ _ rfl hn13 hp13 (by simp only [maxLen]; omega) (by omega) ?_; intro v19 w19 hown19 hgrow19; have hbel2 : Below W8.heap.size W8 w19 := Below.grown (by assumption) hgrow19 (Below.size (by assumption)) (fun _ h => by cases h))
                  | fail)
              go_wp2_with fail
              go_roundw
              case rel => exact ⟨0 + 1, by omega, by go_num, ⟨by rw [HTS.out, HX.out.1, HPUT.out]; (rw [show (Pb.srt (l.take 0)).drop 0 = [] from by simp [Pb.srt], List.append_nil]; exact hown19.base_le (by have := hbel.size; have := HB8.out.size; first | (simp at *; done) | (simp at *; omega))), HB8.out.trans (hbel2.mono HB8.out.size)⟩⟩
              case measure => simp [intOf]; omega
            | some sd =>
              have hcut := HN8.out.cut hk
              have hcap := HNS.out.cap
              have hmx : cs ≤ 9223372036854775807 := by have := HNS.out.max; unfold maxLen at this; exact this
              have hkc : (k : Int) ≤ cs := by omega
              have hkn : (k : Int) ≤ N := by omega
              by_cases hck : cs = k
              · rw [if_pos hck] at hcut
                obtain rfl : cs = N := by omega
                obtain rfl : k = cs := hck.symm
                simp only [Nat.sub_self] at hcut
                have HCUT := Lib.hid hcut
                clear hcut
                have HWX2 := Lib.hid (show ∀ y ∈ [x] ++ (Pb.srt (l.take k)).drop k, (Lit.int .i64 y).wf = true from fun y hy => (List.mem_append.1 hy).elim (HWX.out y) (HCUT.out.wf y))
                go_region_held3 (fun w' => Below W8.heap.size W8 w')
                  (first | assumption | (exact below_of_drawn 1) | (exact Below.drewN ((Below.refl _ _).alloc (Nat.le_refl _) _) 1) | (exact Below.drewN (Below.refl _ _) 1) | (exact Below.alloc (by assumption) (by first | exact Below.size (by assumption) | simp) _) | (exact hbel) | (exact hbel2) | (exact Below.drewN (by assumption) 1))
                  (first
                    | (refine step_app_ints _ rfl (.tmp 38) (.tmp 41) _ rfl W8.heap.size 3 8 .i64 int_info Try.underlying23 _ [x] rfl (Own.lit1 W8.drew _ _ x) _ _ _ _ _ rfl (HCUT.out.keep (by assumption) (Below.size (by assumption))) (by first | (simp [maxLen]; done) | (simp [maxLen]; omega)) (by first | (simp; done) | (simp; omega)) (Below.size (by assumption)) ?_; intro v13 w13 hown13 hgrow13; have hbel : Below W8.heap.size W8 w13 := Own.grow (w0 := W8) (B := W8.heap.size) (base := W8.heap.size) (e := 3) (k := .i64) (l := [x]) (Own.lit1 W8.drew _ _ x) (by assumption) hgrow13 (by first | exact Below.size (by assumption) | simp) (by simp); obtain ⟨A13, N13, c13, rfl, hN13, hn13⟩ := hown13.numsN HWX2.out; have hp13 : 0 < N13 := by { rw [hN13.out]; simp }; have hb13 : N13 ≤ 1001 := by { have hh := hN13.out; rw [List.length_append, List.length_drop, HSL.out] at hh; simp only [List.length_cons, List.length_nil] at hh; omega }; have hA13 : ∃ a, A13 = some a := by { obtain ⟨a, e, _⟩ := hn13.cells hp13; exact ⟨a, e⟩ }; obtain ⟨a13, rfl⟩ := hA13)
                    | (refine step_app_full rfl (.tmp 33) (.tmp 42) _ rfl 3 8 .i64 int_info Try.underlying23 (some sd) k _ rfl _ (HFU.out.keep (by assumption) (Below.size (by assumption))) _ _ _ _ _ rfl hn13 hp13 (by simp only [maxLen]; omega) (by omega) ?_; intro v19 w19 hown19 hgrow19; have hbel2 : Below W8.heap.size W8 w19 := Below.grown (by assumption) hgrow19 (Below.size (by assumption)) (fun _ h => by cases h))
                    | fail)
                go_wp2_with fail
                go_roundw
                case rel => exact ⟨k + 1, by omega, by go_num, ⟨by rw [HTS.out, HX.out.1, HPUT.out]; exact hown19.base_le (by have := hbel.size; have := HB8.out.size; first | (simp at *; done) | (simp at *; omega)), HB8.out.trans (hbel2.mono HB8.out.size)⟩⟩
                case measure => simp [intOf]; omega
              · rw [if_neg hck] at hcut
                have HCUT := Lib.hid hcut
                clear hcut
                have HWX2 := Lib.hid (show ∀ y ∈ [x] ++ (Pb.srt (l.take N)).drop k, (Lit.int .i64 y).wf = true from fun y hy => (List.mem_append.1 hy).elim (HWX.out y) (HCUT.out.wf y))
                go_region_held3 (fun w' => Below W8.heap.size W8 w')
                  (first | assumption | (exact below_of_drawn 1) | (exact Below.drewN ((Below.refl _ _).alloc (Nat.le_refl _) _) 1) | (exact Below.drewN (Below.refl _ _) 1) | (exact Below.alloc (by assumption) (by first | exact Below.size (by assumption) | simp) _) | (exact hbel) | (exact hbel2) | (exact Below.drewN (by assumption) 1))
                  (first
                    | (refine step_app_ints _ rfl (.tmp 38) (.tmp 41) _ rfl W8.heap.size 3 8 .i64 int_info Try.underlying23 _ [x] rfl (Own.lit1 W8.drew _ _ x) _ _ _ _ _ rfl (HCUT.out.keep (by assumption) (Below.size (by assumption))) (by first | (simp [maxLen]; done) | (simp [maxLen]; omega)) (by first | (simp; done) | (simp; omega)) (Below.size (by assumption)) ?_; intro v13 w13 hown13 hgrow13; have hbel : Below W8.heap.size W8 w13 := Own.grow (w0 := W8) (B := W8.heap.size) (base := W8.heap.size) (e := 3) (k := .i64) (l := [x]) (Own.lit1 W8.drew _ _ x) (by assumption) hgrow13 (by first | exact Below.size (by assumption) | simp) (by simp); obtain ⟨A13, N13, c13, rfl, hN13, hn13⟩ := hown13.numsN HWX2.out; have hp13 : 0 < N13 := by { rw [hN13.out]; simp }; have hb13 : N13 ≤ 1001 := by { have hh := hN13.out; rw [List.length_append, List.length_drop, HSL.out] at hh; simp only [List.length_cons, List.length_nil] at hh; omega }; have hA13 : ∃ a, A13 = some a := by { obtain ⟨a, e, _⟩ := hn13.cells hp13; exact ⟨a, e⟩ }; obtain ⟨a13, rfl⟩ := hA13)
                    | (refine step_app_full rfl (.tmp 33) (.tmp 42) _ rfl 3 8 .i64 int_info Try.underlying23 (some sd) k _ rfl _ (HFU.out.keep (by assumption) (Below.size (by assumption))) _ _ _ _ _ rfl hn13 hp13 (by simp only [maxLen]; omega) (by omega) ?_; intro v19 w19 hown19 hgrow19; have hbel2 : Below W8.heap.size W8 w19 := Below.grown (by assumption) hgrow19 (Below.size (by assumption)) (fun _ h => by cases h))
                    | fail)
                go_wp2_with fail
                go_roundw
                case rel => exact ⟨N + 1, by omega, by go_num, ⟨by rw [HTS.out, HX.out.1, HPUT.out]; exact hown19.base_le (by have := hbel.size; have := HB8.out.size; first | (simp at *; done) | (simp at *; omega)), HB8.out.trans (hbel2.mono HB8.out.size)⟩⟩
                case measure => simp [intOf]; omega
          · obtain ⟨sd0, y, hS, _, HY, hy, _⟩ := HNS.out.val (show k - 1 < N by omega)
            subst hS
            rw [HY.out.1] at hyx
            have d1 : decide (x < y) = false := by simp; omega
            have d0 : decide ((0 : Int) < k) = true := by simp; omega
            have d00 : decide (0 < k) = true := by simp; omega
            have i1 : (1 : Int) ≤ k := by omega
            have i5 : (k : Int) - 1 < N := by omega
            have i6 : (0 : Int) ≤ (k : Int) - 1 := by omega
            have i3 : ((k : Int) - 1).toNat = k - 1 := by omega
            have i4 : IntKind.i64.wrap ((k : Int) - 1) = (k : Int) - 1 := by simp [IntKind.wrap, IntKind.bits, IntKind.signed]; omega
            go_wp2_with fail
            go_quiet (fail)
            go_wp2_with fail
            obtain ⟨W8, hW8⟩ : ∃ W8 : World, (w2.drewN m).drewN nq = W8 := ⟨_, rfl⟩
            clear hy hyx d1 d0 d00 i1 i5 i6 i3 i4
            generalize hSS : some sd0 = S at *
            clear hSS
            have hb8 : Below w2.heap.size w2 W8 := by rw [← hW8]; exact below_drewN (below_drewN (Below.refl _ _) _) _
            have HN8 := Lib.hid (HNS.out.keep hb8 hb8.size)
            have HB8 := Lib.hid (HB.out.trans (hb8.mono HB.out.size))
            have hx8 : ∀ w', Below W8.heap.size W8 w' → w'.cell? (ad.add N) = some (.int .i64 x) := fun w' hb => below_cell hb (below_cell hb8 hx)
            have HWX := Lib.hid (show ∀ y ∈ [x], (Lit.int .i64 y).wf = true from fun y hy => by rw [List.mem_singleton.1 hy]; exact H.out.wf x (getD_mem HX.out))
            have HSL := Lib.hid hsl
            have HFU := Lib.hid (HN8.out.full hk)
            rw [hW8]
            clear hW8 hb8 hx
            cases S with
            | none =>
              have h0 := HNS.out.zero rfl
              subst h0
              have hk0 : N = 0 := by have := HNS.out.cap; omega
              subst hk0
              obtain rfl : k = 0 := by omega
              rw [show ad.add 0 = ad from by simp [Addr.add]] at hx8
              go_region_held3 (fun w' => Below W8.heap.size W8 w')
                (first | assumption | (exact below_of_drawn 1) | (exact Below.drewN ((Below.refl _ _).alloc (Nat.le_refl _) _) 1) | (exact Below.drewN (Below.refl _ _) 1) | (exact Below.alloc (by assumption) (by first | exact Below.size (by assumption) | simp) _) | (exact hbel) | (exact hbel2) | (exact Below.drewN (by assumption) 1))
                (first
                  | (refine step_app_nil rfl (.tmp 38) (.tmp 41) _ rfl W8.heap.size 3 8 .i64 int_info Try.underlying23 _ [x] rfl (Own.lit1 W8.drew _ _ x) rfl ?_; have hown13 := Own.lit1 W8.drew 3 .i64 x; have hbel : Below W8.heap.size W8 (W8.drew.alloc (.cells #[.int .i64 x] 3)) := Below.alloc (below_of_drawn 1) (Nat.le_refl _) _; obtain ⟨A13, N13, c13, hv13, hN13, hn13⟩ := hown13.numsN HWX.out; injection hv13 with hv1 hv2 hv3; subst hv1; subst hv2; subst hv3; have hp13 : 0 < 1 := by decide)
                  | (refine step_app_full rfl (.tmp 33) (.tmp 42) _ rfl 3 8 .i64 int_info Try.underlying23 none 0 _ rfl _ (HFU.out.keep (by assumption) (Below.size (by assumption))) _ _ _ _ _ rfl hn13 hp13 (by simp only [maxLen]; omega) (by omega) ?_; intro v19 w19 hown19 hgrow19; have hbel2 : Below W8.heap.size W8 w19 := Below.grown (by assumption) hgrow19 (Below.size (by assumption)) (fun _ h => by cases h))
                  | fail)
              go_wp2_with fail
              go_roundw
              case rel => exact ⟨0 + 1, by omega, by go_num, ⟨by rw [HTS.out, HX.out.1, HPUT.out]; (rw [show (Pb.srt (l.take 0)).drop 0 = [] from by simp [Pb.srt], List.append_nil]; exact hown19.base_le (by have := hbel.size; have := HB8.out.size; first | (simp at *; done) | (simp at *; omega))), HB8.out.trans (hbel2.mono HB8.out.size)⟩⟩
              case measure => simp [intOf]; omega
            | some sd =>
              have hcut := HN8.out.cut hk
              have hcap := HNS.out.cap
              have hmx : cs ≤ 9223372036854775807 := by have := HNS.out.max; unfold maxLen at this; exact this
              have hkc : (k : Int) ≤ cs := by omega
              have hkn : (k : Int) ≤ N := by omega
              by_cases hck : cs = k
              · rw [if_pos hck] at hcut
                obtain rfl : cs = N := by omega
                obtain rfl : k = cs := hck.symm
                simp only [Nat.sub_self] at hcut
                have HCUT := Lib.hid hcut
                clear hcut
                have HWX2 := Lib.hid (show ∀ y ∈ [x] ++ (Pb.srt (l.take k)).drop k, (Lit.int .i64 y).wf = true from fun y hy => (List.mem_append.1 hy).elim (HWX.out y) (HCUT.out.wf y))
                go_region_held3 (fun w' => Below W8.heap.size W8 w')
                  (first | assumption | (exact below_of_drawn 1) | (exact Below.drewN ((Below.refl _ _).alloc (Nat.le_refl _) _) 1) | (exact Below.drewN (Below.refl _ _) 1) | (exact Below.alloc (by assumption) (by first | exact Below.size (by assumption) | simp) _) | (exact hbel) | (exact hbel2) | (exact Below.drewN (by assumption) 1))
                  (first
                    | (refine step_app_ints _ rfl (.tmp 38) (.tmp 41) _ rfl W8.heap.size 3 8 .i64 int_info Try.underlying23 _ [x] rfl (Own.lit1 W8.drew _ _ x) _ _ _ _ _ rfl (HCUT.out.keep (by assumption) (Below.size (by assumption))) (by first | (simp [maxLen]; done) | (simp [maxLen]; omega)) (by first | (simp; done) | (simp; omega)) (Below.size (by assumption)) ?_; intro v13 w13 hown13 hgrow13; have hbel : Below W8.heap.size W8 w13 := Own.grow (w0 := W8) (B := W8.heap.size) (base := W8.heap.size) (e := 3) (k := .i64) (l := [x]) (Own.lit1 W8.drew _ _ x) (by assumption) hgrow13 (by first | exact Below.size (by assumption) | simp) (by simp); obtain ⟨A13, N13, c13, rfl, hN13, hn13⟩ := hown13.numsN HWX2.out; have hp13 : 0 < N13 := by { rw [hN13.out]; simp }; have hb13 : N13 ≤ 1001 := by { have hh := hN13.out; rw [List.length_append, List.length_drop, HSL.out] at hh; simp only [List.length_cons, List.length_nil] at hh; omega }; have hA13 : ∃ a, A13 = some a := by { obtain ⟨a, e, _⟩ := hn13.cells hp13; exact ⟨a, e⟩ }; obtain ⟨a13, rfl⟩ := hA13)
                    | (refine step_app_full rfl (.tmp 33) (.tmp 42) _ rfl 3 8 .i64 int_info Try.underlying23 (some sd) k _ rfl _ (HFU.out.keep (by assumption) (Below.size (by assumption))) _ _ _ _ _ rfl hn13 hp13 (by simp only [maxLen]; omega) (by omega) ?_; intro v19 w19 hown19 hgrow19; have hbel2 : Below W8.heap.size W8 w19 := Below.grown (by assumption) hgrow19 (Below.size (by assumption)) (fun _ h => by cases h))
                    | fail)
                go_wp2_with fail
                go_roundw
                case rel => exact ⟨k + 1, by omega, by go_num, ⟨by rw [HTS.out, HX.out.1, HPUT.out]; exact hown19.base_le (by have := hbel.size; have := HB8.out.size; first | (simp at *; done) | (simp at *; omega)), HB8.out.trans (hbel2.mono HB8.out.size)⟩⟩
                case measure => simp [intOf]; omega
              · rw [if_neg hck] at hcut
                have HCUT := Lib.hid hcut
                clear hcut
                have HWX2 := Lib.hid (show ∀ y ∈ [x] ++ (Pb.srt (l.take N)).drop k, (Lit.int .i64 y).wf = true from fun y hy => (List.mem_append.1 hy).elim (HWX.out y) (HCUT.out.wf y))
                go_region_held3 (fun w' => Below W8.heap.size W8 w')
                  (first | assumption | (exact below_of_drawn 1) | (exact Below.drewN ((Below.refl _ _).alloc (Nat.le_refl _) _) 1) | (exact Below.drewN (Below.refl _ _) 1) | (exact Below.alloc (by assumption) (by first | exact Below.size (by assumption) | simp) _) | (exact hbel) | (exact hbel2) | (exact Below.drewN (by assumption) 1))
                  (first
                    | (refine step_app_ints _ rfl (.tmp 38) (.tmp 41) _ rfl W8.heap.size 3 8 .i64 int_info Try.underlying23 _ [x] rfl (Own.lit1 W8.drew _ _ x) _ _ _ _ _ rfl (HCUT.out.keep (by assumption) (Below.size (by assumption))) (by first | (simp [maxLen]; done) | (simp [maxLen]; omega)) (by first | (simp; done) | (simp; omega)) (Below.size (by assumption)) ?_; intro v13 w13 hown13 hgrow13; have hbel : Below W8.heap.size W8 w13 := Own.grow (w0 := W8) (B := W8.heap.size) (base := W8.heap.size) (e := 3) (k := .i64) (l := [x]) (Own.lit1 W8.drew _ _ x) (by assumption) hgrow13 (by first | exact Below.size (by assumption) | simp) (by simp); obtain ⟨A13, N13, c13, rfl, hN13, hn13⟩ := hown13.numsN HWX2.out; have hp13 : 0 < N13 := by { rw [hN13.out]; simp }; have hb13 : N13 ≤ 1001 := by { have hh := hN13.out; rw [List.length_append, List.length_drop, HSL.out] at hh; simp only [List.length_cons, List.length_nil] at hh; omega }; have hA13 : ∃ a, A13 = some a := by { obtain ⟨a, e, _⟩ := hn13.cells hp13; exact ⟨a, e⟩ }; obtain ⟨a13, rfl⟩ := hA13)
                    | (refine step_app_full rfl (.tmp 33) (.tmp 42) _ rfl 3 8 .i64 int_info Try.underlying23 (some sd) k _ rfl _ (HFU.out.keep (by assumption) (Below.size (by assumption))) _ _ _ _ _ rfl hn13 hp13 (by simp only [maxLen]; omega) (by omega) ?_; intro v19 w19 hown19 hgrow19; have hbel2 : Below W8.heap.size W8 w19 := Below.grown (by assumption) hgrow19 (Below.size (by assumption)) (fun _ h => by cases h))
                    | fail)
                go_wp2_with fail
                go_roundw
                case rel => exact ⟨N + 1, by omega, by go_num, ⟨by rw [HTS.out, HX.out.1, HPUT.out]; exact hown19.base_le (by have := hbel.size; have := HB8.out.size; first | (simp at *; done) | (simp at *; omega)), HB8.out.trans (hbel2.mono HB8.out.size)⟩⟩
                case measure => simp [intOf]; omega
    · obtain rfl : j = n := by omega
      have hfin := HI.out.1
      rw [take_len H.out.len] at hfin
      have HF := Lib.hid hfin
      have HB := Lib.hid HI.out.2
      clear hfin HI
      go_wp2_with fail
      go_ret
      exact ⟨_, rfl, HF.out, HB.out⟩
end Go.Proofs.Ytaalgjeffidedaa
