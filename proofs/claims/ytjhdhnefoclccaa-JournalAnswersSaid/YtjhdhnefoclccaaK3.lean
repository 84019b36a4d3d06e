/- Journals: the reference's Crash. -/
import Derived.Test.YtjhdhnefoclccaaK2
namespace Go.Proofs.Ytjhdhnefoclccaa
open Go.RowKit
section
variable {P : Program} {w : World}
/-- append(v, nil...) in a region that draws its order -/
theorem step_app_nil {ops : Array Oper} {o : Oper} {a : Act} {K : Act → World → Prop} {Q : Exit → Act → World → Prop} {E : Prop} (hgd : o.guard = none) (s x : Operand) (t : TypeId)
    (ho : o.op = .call { callee := .builtin .append, args := #[s, x], argTypes := #[t, t] })
    (base : Nat) (e : TypeId) (bytes : Nat) (k : IntKind) (hinfo : (P.info? e).map (fun i => (i.zero, i.size, i.bytes)) = some (some (.int k 0), 1, bytes)) (ht : P.underlying t = some (.slice e))
    (v : Value) (l : List Int) (hs : a.eval s = v) (hown : Own w base e k v l) (hx : a.eval x = .slice none 0 0)
    (h : K (a.put o.dst v) w) : if Region.wanted o (yielded ops a.tmps) = true then Oper.wp P o a w K Q else E := by
  obtain ⟨i, hi, hz, hz1, hz2⟩ := info_parts hinfo
  have hw : Region.wanted o (yielded ops a.tmps) = true := by simp [Region.wanted, hgd]
  rw [if_pos hw]
  have hrun := run_append_owned_none (P := P) (w := w) base t o.type e i 1 ht hi v l.length (l.map (Value.int k)) hown
  unfold Oper.wp execOp
  simp only [ho, resolve, invoke, builtin, Sem.run_bind, Sem.run_pure, Result.andThen_ok, List.map_toArray, List.map_cons, List.map_nil, hs, hx, hrun]
  exact h
/-- append(v, u...) in a region that draws its order, u nil or not -/
theorem step_app_any {ops : Array Oper} {o : Oper} {a : Act} {K : Act → World → Prop} {Q : Exit → Act → World → Prop} {E : Prop} (hgd : o.guard = none) (s x : Operand) (t : TypeId)
    (ho : o.op = .call { callee := .builtin .append, args := #[s, x], argTypes := #[t, t] })
    (base : Nat) (e : TypeId) (bytes : Nat) (k : IntKind) (hinfo : (P.info? e).map (fun i => (i.zero, i.size, i.bytes)) = some (some (.int k 0), 1, bytes)) (ht : P.underlying t = some (.slice e))
    (v : Value) (l : List Int) (hs : a.eval s = v) (hown : Own w base e k v l)
    (B : Nat) (A : Option Addr) (m c : Nat) (l2 : List Int) (hx : a.eval x = .slice A m c) (hn : Nums w k B A m c l2)
    (h63 : l.length + m ≤ maxLen) (hbytes : (l.length + m) * bytes ≤ 140737488355328) (hbase : base ≤ w.heap.size)
    (h : ∀ v' w', Own w' base e k v' (l ++ l2) → w.grownBy w' v.ownBlock → K (a.put o.dst v') w') : if Region.wanted o (yielded ops a.tmps) = true then Oper.wp P o a w K Q else E := by
  cases A with
  | none =>
    have hm : m = 0 := by
      rcases Nat.eq_zero_or_pos m with h0 | h0
      · exact h0
      · obtain ⟨ad, h, _⟩ := hn.cells h0; cases h
    subst hm
    have hc := hn.zero rfl
    subst hc
    have hl2 : l2 = [] := List.eq_nil_of_length_eq_zero hn.len
    subst hl2
    exact step_app_nil hgd s x t ho base e bytes k hinfo ht v l hs hown hx (h v w (by simpa using hown) (World.grownBy.refl w _))
  | some ad => exact step_app_ints w hgd s x t ho base e bytes k hinfo ht v l hs hown B ad m c l2 hx hn h63 hbytes hbase h
end
set_option maxRecDepth 100000 in
set_option maxHeartbeats 1600000 in
theorem rcrash23 (A A' : Option Addr) (n c n' c' : Nat) (l l' : List Int) (keep : Int) (w : World) (h : Nums w .u8 w.heap.size A n c l) (h' : Nums w .u8 w.heap.size A' n' c' l') (hs : n + n' ≤ 1000000000) :
    Calls Try.prog 24 #[.agg #[.slice A n c, .slice A' n' c'], .int .i64 keep] w (GivesSafe (l ++ l'.take (Jn.cl keep n')) w) := by
  obtain ⟨W, hW⟩ : ∃ W : World, (w.alloc (.cells #[.slice A n c, .slice A' n' c'] 29)).alloc (.cells #[.slice none 0 0, .slice none 0 0] 29) = W := ⟨_, rfl⟩
  have k0 : W.cell? ⟨w.heap.size, 0, none⟩ = some (.slice A n c) := by rw [← hW]; simp [go_sem]
  have k1 : W.cell? ⟨w.heap.size, 1, none⟩ = some (.slice A' n' c') := by rw [← hW]; simp [go_sem]
  have r0 : W.cell? ⟨w.heap.size + 1, 0, none⟩ = some (.slice none 0 0) := by rw [← hW]; simp [go_sem]
  have r1 : W.cell? ⟨w.heap.size + 1, 1, none⟩ = some (.slice none 0 0) := by rw [← hW]; simp [go_sem]
  have z0 : W.frozen? ⟨w.heap.size + 1, 0, none⟩ = false := by rw [← hW]; simp [go_sem]
  have z1 : W.frozen? ⟨w.heap.size + 1, 1, none⟩ = false := by rw [← hW]; simp [go_sem]
  have hsz : W.heap.size = w.heap.size + 2 := by rw [← hW]; simp
  have hbW : Below w.heap.size w W := by rw [← hW]; exact ((Below.refl _ _).alloc (Nat.le_refl _) _).alloc (by simp) _
  have HBX := Lib.hid (show W.heap[w.heap.size + 1]? = some (.cells #[.slice none 0 0, .slice none 0 0] 29 (0, 0)) by rw [← hW, show w.heap.size + 1 = (w.alloc (.cells #[.slice A n c, .slice A' n' c'] 29)).heap.size from by simp]; exact heap_alloc_new _ _)
  have HN0 := Lib.hid (h.keep (B' := w.heap.size + 1) hbW (by omega))
  have HP0 := Lib.hid (h'.keep (B' := w.heap.size + 1) hbW (by omega))
  have H := Lib.hid (h.keep hbW hbW.size)
  have H' := Lib.hid (h'.keep hbW hbW.size)
  have HB := Lib.hid hbW
  have HZ := Lib.hid hsz
  have HS := Lib.hid hs
  have HR := Lib.hid (And.intro r0 (And.intro r1 (And.intro z0 z1)))
  have hcap := h'.cap
  have hmx : c' ≤ 9223372036854775807 := by have := h'.max; unfold maxLen at this; exact this
  clear h h' hs hbW hsz r0 r1 z0 z1
  have hway : (keep < 0 ∧ Jn.cl keep n' = 0) ∨ (∃ K : Nat, K ≤ n' ∧ keep = K ∧ Jn.cl keep n' = K) ∨ ((n' : Int) < keep ∧ Jn.cl keep n' = n') := by
    unfold Jn.cl
    rcases Int.lt_or_le keep 0 with h | h
    · exact .inl ⟨h, by omega⟩
    · rcases Int.lt_or_le (n' : Int) keep with h2 | h2
      · exact .inr (.inr ⟨h2, by omega⟩)
      · exact .inr (.inl ⟨keep.toNat, by omega, by omega, by omega⟩)
  rcases hway with ⟨hk, hK⟩ | ⟨K, hk, rfl, hK⟩ | ⟨hk, hK⟩
  · rw [hK]
    clear hK
    go_enter Try.func24, Try.ntmps24
    go_wp2_with fail
    clear hW
    have HP := Lib.hid (H'.out.pre (k := 0) (by omega)).drew
    have HWF := Lib.hid (show ∀ x ∈ l ++ l'.take 0, (Lit.int .u8 x).wf = true from fun x hx => (List.mem_append.1 hx).elim (H.out.wf x) (HP.out.wf x))
    generalize hlr : l ++ l'.take 0 = lr at *
    have HLR := Lib.hid hlr
    clear hlr
    have HN := Lib.hid H.out.drew
    have HQ := Lib.hid (And.intro k0 k1)
    have hal : Below (w.heap.size + 1) W (W.drew.alloc (.cells #[] 5)) := Below.alloc (Below.drewN (Below.refl _ _) 1) (by have := HZ.out; simp; omega) _
    have hal2 : Below (w.heap.size + 1) W (W.alloc (.cells #[] 5)) := Below.alloc (Below.refl _ _) (by have := HZ.out; omega) _
    have hf0 : (W.drew.alloc (.cells #[] 5)).heap[w.heap.size + 1]? = some (.cells #[.slice none 0 0, .slice none 0 0] 29 (0, 0)) := (heap_alloc_old _ _ (by have := HZ.out; simp; omega)).trans HBX.out
    have hf1 : (W.alloc (.cells #[] 5)).heap[w.heap.size + 1]? = some (.cells #[.slice none 0 0, .slice none 0 0] 29 (0, 0)) := (heap_alloc_old _ _ (by have := HZ.out; omega)).trans HBX.out
    have HN9 := Lib.hid HN0.out
    have kk0 : ∀ w', Below (w.heap.size + 1) W w' → w'.cell? ⟨w.heap.size, 0, none⟩ = some (.slice A n c) := fun w' hb => (World.cell?_of_block (hb.block _ (by simp))).trans k0
    have kk1 : ∀ w', Below (w.heap.size + 1) W w' → w'.cell? ⟨w.heap.size, 1, none⟩ = some (.slice A' n' c') := fun w' hb => (World.cell?_of_block (hb.block _ (by simp))).trans k1
    have HP9 := Lib.hid (HP0.out.pre (k := 0) (by omega))
    go_region_held3 (fun w' => Below (w.heap.size + 1) W w')
      (first | assumption | (exact Below.drewN (Below.refl _ _) 1) | (exact hbel) | (exact hbel2) | (refine Below.alloc ?_ ?_ _ <;> first | assumption | exact Below.drewN (Below.refl _ _) 1 | (have := HZ.out; simp; omega)) | (exact Below.setCell (Below.setCell (by assumption) (by simp) _) (by simp) _) | (exact Below.drewN (by assumption) 1))
      (first
        | (refine step_app_any rfl (.tmp 11) (.tmp 13) _ rfl W.heap.size 5 1 .u8 byte_info Try.underlying22 _ [] rfl (Own.empty W.drew _ _) _ A n c l rfl (HN9.out.keep (by first | assumption | exact hal | exact hal2) (Nat.le_refl _)) (by have := HS.out; simp [maxLen]; omega) (by have := HS.out; simp; omega) (Below.size (by assumption)) ?_; intro v13 w13 hown13 hgrow13; have hbel : Below (w.heap.size + 1) W w13 := Own.grow (w0 := W) (B := w.heap.size + 1) (base := W.heap.size) (e := 5) (k := .u8) (l := []) (Own.empty W.drew _ _) (by first | assumption | exact hal | exact hal2) hgrow13 (by have := HZ.out; simp; omega) (by have := HZ.out; omega); have hsz13 : W.heap.size ≤ w13.heap.size := hbel.size; have hf13 := Own.blk (base := W.heap.size) (e := 5) (k := .u8) (l := []) (Own.empty W.drew _ _) hgrow13 (by first | exact hf0 | exact hf1) (by decide : 5 ≠ 29))
        | (refine step_app_any rfl (.tmp 14) (.tmp 18) _ rfl W.heap.size 5 1 .u8 byte_info Try.underlying22 _ _ rfl hown13 _ A' 0 c' _ rfl (HP9.out.keep (by assumption) (Nat.le_refl _)) (by have := HS.out; have := H.out.len; simp [maxLen]; omega) (by have := HS.out; have := H.out.len; simp; omega) (Below.size (by assumption)) ?_; intro v19 w19 hown19 hgrow19; have hbel2 : Below (w.heap.size + 1) W w19 := Own.grow (w0 := W) (B := w.heap.size + 1) (base := W.heap.size) (e := 5) (k := .u8) (l := [] ++ l) hown13 (by assumption) hgrow19 (by have := HZ.out; omega) (by have := HZ.out; omega); have hf19 := Own.blk (base := W.heap.size) (e := 5) (k := .u8) (l := [] ++ l) hown13 hgrow19 hf13 (by decide : 5 ≠ 29); rw [List.nil_append, HLR.out] at hown19; obtain ⟨A1, c1, rfl, _⟩ := hown19.nums HWF.out; obtain ⟨q2, q3, q4, q5, _⟩ := box4 hf19 (Below.refl _ _))
        | fail)
    go_wp2
    exact bodyPost_ret (v := .agg #[.slice A1 lr.length c1, .slice none 0 0]) (by simp [results, Try.results24, go_sem, *]) rfl
      ⟨_, rfl, ((hown19.setCell (by rw [HZ.out]; simp) _).setCell (by rw [HZ.out]; simp) _).base_le HB.out.size,
        ((HB.out.trans (hbel2.mono (Nat.le_succ _))).setCell (by simp) _).setCell (by simp) _⟩
  · have hk1 : (K : Int) ≤ c' := by omega
    rw [hK]
    clear hK
    go_enter Try.func24, Try.ntmps24
    go_wp2_with fail
    clear hW
    have HP := Lib.hid (H'.out.pre (k := K) (by omega)).drew
    have HWF := Lib.hid (show ∀ x ∈ l ++ l'.take K, (Lit.int .u8 x).wf = true from fun x hx => (List.mem_append.1 hx).elim (H.out.wf x) (HP.out.wf x))
    generalize hlr : l ++ l'.take K = lr at *
    have HLR := Lib.hid hlr
    clear hlr
    have HN := Lib.hid H.out.drew
    have HQ := Lib.hid (And.intro k0 k1)
    have hal : Below (w.heap.size + 1) W (W.drew.alloc (.cells #[] 5)) := Below.alloc (Below.drewN (Below.refl _ _) 1) (by have := HZ.out; simp; omega) _
    have hal2 : Below (w.heap.size + 1) W (W.alloc (.cells #[] 5)) := Below.alloc (Below.refl _ _) (by have := HZ.out; omega) _
    have hf0 : (W.drew.alloc (.cells #[] 5)).heap[w.heap.size + 1]? = some (.cells #[.slice none 0 0, .slice none 0 0] 29 (0, 0)) := (heap_alloc_old _ _ (by have := HZ.out; simp; omega)).trans HBX.out
    have hf1 : (W.alloc (.cells #[] 5)).heap[w.heap.size + 1]? = some (.cells #[.slice none 0 0, .slice none 0 0] 29 (0, 0)) := (heap_alloc_old _ _ (by have := HZ.out; omega)).trans HBX.out
    have HN9 := Lib.hid HN0.out
    have kk0 : ∀ w', Below (w.heap.size + 1) W w' → w'.cell? ⟨w.heap.size, 0, none⟩ = some (.slice A n c) := fun w' hb => (World.cell?_of_block (hb.block _ (by simp))).trans k0
    have kk1 : ∀ w', Below (w.heap.size + 1) W w' → w'.cell? ⟨w.heap.size, 1, none⟩ = some (.slice A' n' c') := fun w' hb => (World.cell?_of_block (hb.block _ (by simp))).trans k1
    have HP9 := Lib.hid (HP0.out.pre (k := K) (by omega))
    go_region_held3 (fun w' => Below (w.heap.size + 1) W w')
      (first | assumption | (exact Below.drewN (Below.refl _ _) 1) | (exact hbel) | (exact hbel2) | (refine Below.alloc ?_ ?_ _ <;> first | assumption | exact Below.drewN (Below.refl _ _) 1 | (have := HZ.out; simp; omega)) | (exact Below.setCell (Below.setCell (by assumption) (by simp) _) (by simp) _) | (exact Below.drewN (by assumption) 1))
      (first
        | (refine step_app_any rfl (.tmp 11) (.tmp 13) _ rfl W.heap.size 5 1 .u8 byte_info Try.underlying22 _ [] rfl (Own.empty W.drew _ _) _ A n c l rfl (HN9.out.keep (by first | assumption | exact hal | exact hal2) (Nat.le_refl _)) (by have := HS.out; simp [maxLen]; omega) (by have := HS.out; simp; omega) (Below.size (by assumption)) ?_; intro v13 w13 hown13 hgrow13; have hbel : Below (w.heap.size + 1) W w13 := Own.grow (w0 := W) (B := w.heap.size + 1) (base := W.heap.size) (e := 5) (k := .u8) (l := []) (Own.empty W.drew _ _) (by first | assumption | exact hal | exact hal2) hgrow13 (by have := HZ.out; simp; omega) (by have := HZ.out; omega); have hsz13 : W.heap.size ≤ w13.heap.size := hbel.size; have hf13 := Own.blk (base := W.heap.size) (e := 5) (k := .u8) (l := []) (Own.empty W.drew _ _) hgrow13 (by first | exact hf0 | exact hf1) (by decide : 5 ≠ 29))
        | (refine step_app_any rfl (.tmp 14) (.tmp 18) _ rfl W.heap.size 5 1 .u8 byte_info Try.underlying22 _ _ rfl hown13 _ A' K c' _ rfl (HP9.out.keep (by assumption) (Nat.le_refl _)) (by have := HS.out; have := H.out.len; simp [maxLen]; omega) (by have := HS.out; have := H.out.len; simp; omega) (Below.size (by assumption)) ?_; intro v19 w19 hown19 hgrow19; have hbel2 : Below (w.heap.size + 1) W w19 := Own.grow (w0 := W) (B := w.heap.size + 1) (base := W.heap.size) (e := 5) (k := .u8) (l := [] ++ l) hown13 (by assumption) hgrow19 (by have := HZ.out; omega) (by have := HZ.out; omega); have hf19 := Own.blk (base := W.heap.size) (e := 5) (k := .u8) (l := [] ++ l) hown13 hgrow19 hf13 (by decide : 5 ≠ 29); rw [List.nil_append, HLR.out] at hown19; obtain ⟨A1, c1, rfl, _⟩ := hown19.nums HWF.out; obtain ⟨q2, q3, q4, q5, _⟩ := box4 hf19 (Below.refl _ _))
        | fail)
    go_wp2
    exact bodyPost_ret (v := .agg #[.slice A1 lr.length c1, .slice none 0 0]) (by simp [results, Try.results24, go_sem, *]) rfl
      ⟨_, rfl, ((hown19.setCell (by rw [HZ.out]; simp) _).setCell (by rw [HZ.out]; simp) _).base_le HB.out.size,
        ((HB.out.trans (hbel2.mono (Nat.le_succ _))).setCell (by simp) _).setCell (by simp) _⟩
  · rw [hK]
    clear hK
    go_enter Try.func24, Try.ntmps24
    go_wp2_with fail
    clear hW
    have HP := Lib.hid (H'.out.pre (k := n') (by omega)).drew
    have HWF := Lib.hid (show ∀ x ∈ l ++ l'.take n', (Lit.int .u8 x).wf = true from fun x hx => (List.mem_append.1 hx).elim (H.out.wf x) (HP.out.wf x))
    generalize hlr : l ++ l'.take n' = lr at *
    have HLR := Lib.hid hlr
    clear hlr
    have HN := Lib.hid H.out.drew
    have HQ := Lib.hid (And.intro k0 k1)
    have hal : Below (w.heap.size + 1) W (W.drew.alloc (.cells #[] 5)) := Below.alloc (Below.drewN (Below.refl _ _) 1) (by have := HZ.out; simp; omega) _
    have hal2 : Below (w.heap.size + 1) W (W.alloc (.cells #[] 5)) := Below.alloc (Below.refl _ _) (by have := HZ.out; omega) _
    have hf0 : (W.drew.alloc (.cells #[] 5)).heap[w.heap.size + 1]? = some (.cells #[.slice none 0 0, .slice none 0 0] 29 (0, 0)) := (heap_alloc_old _ _ (by have := HZ.out; simp; omega)).trans HBX.out
    have hf1 : (W.alloc (.cells #[] 5)).heap[w.heap.size + 1]? = some (.cells #[.slice none 0 0, .slice none 0 0] 29 (0, 0)) := (heap_alloc_old _ _ (by have := HZ.out; omega)).trans HBX.out
    have HN9 := Lib.hid HN0.out
    have kk0 : ∀ w', Below (w.heap.size + 1) W w' → w'.cell? ⟨w.heap.size, 0, none⟩ = some (.slice A n c) := fun w' hb => (World.cell?_of_block (hb.block _ (by simp))).trans k0
    have kk1 : ∀ w', Below (w.heap.size + 1) W w' → w'.cell? ⟨w.heap.size, 1, none⟩ = some (.slice A' n' c') := fun w' hb => (World.cell?_of_block (hb.block _ (by simp))).trans k1
    have HP9 := Lib.hid (HP0.out.pre (k := n') (by omega))
    go_region_held3 (fun w' => Below (w.heap.size + 1) W w')
      (first | assumption | (exact Below.drewN (Below.refl _ _) 1) | (exact hbel) | (exact hbel2) | (refine Below.alloc ?_ ?_ _ <;> first | assumption | exact Below.drewN (Below.refl _ _) 1 | (have := HZ.out; simp; omega)) | (exact Below.setCell (Below.setCell (by assumption) (by simp) _) (by simp) _) | (exact Below.drewN (by assumption) 1))
      (first
        | (refine step_app_any rfl (.tmp 11) (.tmp 13) _ rfl W.heap.size 5 1 .u8 byte_info Try.underlying22 _ [] rfl (Own.empty W.drew _ _) _ A n c l rfl (HN9.out.keep (by first | assumption | exact hal | exact hal2) (Nat.le_refl _)) (by have := HS.out; simp [maxLen]; omega) (by have := HS.out; simp; omega) (Below.size (by assumption)) ?_; intro v13 w13 hown13 hgrow13; have hbel : Below (w.heap.size + 1) W w13 := Own.grow (w0 := W) (B := w.heap.size + 1) (base := W.heap.size) (e := 5) (k := .u8) (l := []) (Own.empty W.drew _ _) (by first | assumption | exact hal | exact hal2) hgrow13 (by have := HZ.out; simp; omega) (by have := HZ.out; omega); have hsz13 : W.heap.size ≤ w13.heap.size := hbel.size; have hf13 := Own.blk (base := W.heap.size) (e := 5) (k := .u8) (l := []) (Own.empty W.drew _ _) hgrow13 (by first | exact hf0 | exact hf1) (by decide : 5 ≠ 29))
        | (refine step_app_any rfl (.tmp 14) (.tmp 18) _ rfl W.heap.size 5 1 .u8 byte_info Try.underlying22 _ _ rfl hown13 _ A' n' c' _ rfl (HP9.out.keep (by assumption) (Nat.le_refl _)) (by have := HS.out; have := H.out.len; simp [maxLen]; omega) (by have := HS.out; have := H.out.len; simp; omega) (Below.size (by assumption)) ?_; intro v19 w19 hown19 hgrow19; have hbel2 : Below (w.heap.size + 1) W w19 := Own.grow (w0 := W) (B := w.heap.size + 1) (base := W.heap.size) (e := 5) (k := .u8) (l := [] ++ l) hown13 (by assumption) hgrow19 (by have := HZ.out; omega) (by have := HZ.out; omega); have hf19 := Own.blk (base := W.heap.size) (e := 5) (k := .u8) (l := [] ++ l) hown13 hgrow19 hf13 (by decide : 5 ≠ 29); rw [List.nil_append, HLR.out] at hown19; obtain ⟨A1, c1, rfl, _⟩ := hown19.nums HWF.out; obtain ⟨q2, q3, q4, q5, _⟩ := box4 hf19 (Below.refl _ _))
        | fail)
    go_wp2
    exact bodyPost_ret (v := .agg #[.slice A1 lr.length c1, .slice none 0 0]) (by simp [results, Try.results24, go_sem, *]) rfl
      ⟨_, rfl, ((hown19.setCell (by rw [HZ.out]; simp) _).setCell (by rw [HZ.out]; simp) _).base_le HB.out.size,
        ((HB.out.trans (hbel2.mono (Nat.le_succ _))).setCell (by simp) _).setCell (by simp) _⟩
end Go.Proofs.Ytjhdhnefoclccaa
