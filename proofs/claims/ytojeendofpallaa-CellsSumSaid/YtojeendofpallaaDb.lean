/- Cells: Margins. -/
import Derived.Test.YtojeendofpallaaDa
namespace Go.Proofs.Ytojeendofpallaa
open Go.RowKit Go.Maps
/-- a row of views of the function's own -/
def AllR (w : World) (base : Nat) : List Value → List (List (List Int)) → Prop
  | [], [] => True
  | v :: vs, l :: ls => OwnRows w base 22 3 .i64 v l ∧ AllR w base vs ls
  | _, _ => False
theorem AllR.len {w : World} {base : Nat} : ∀ {vs : List Value} {ls : List (List (List Int))}, AllR w base vs ls → vs.length = ls.length
  | [], [], _ => rfl
  | _ :: _, _ :: _, h => by simp [AllR.len h.2]
  | [], _ :: _, h => h.elim
  | _ :: _, [], h => h.elim
theorem AllR.imp {w w' : World} {base base' : Nat} (hi : ∀ v l, OwnRows w base 22 3 .i64 v l → OwnRows w' base' 22 3 .i64 v l) : ∀ {vs : List Value} {ls : List (List (List Int))}, AllR w base vs ls → AllR w' base' vs ls
  | [], [], _ => trivial
  | _ :: _, _ :: _, h => ⟨hi _ _ h.1, AllR.imp hi h.2⟩
  | [], _ :: _, h => h.elim
  | _ :: _, [], h => h.elim
theorem AllR.snoc {w : World} {base : Nat} {v : Value} {l : List (List Int)} (hv : OwnRows w base 22 3 .i64 v l) : ∀ {vs : List Value} {ls : List (List (List Int))}, AllR w base vs ls → AllR w base (vs ++ [v]) (ls ++ [l])
  | [], [], _ => ⟨hv, trivial⟩
  | _ :: _, _ :: _, h => ⟨h.1, AllR.snoc hv h.2⟩
  | [], _ :: _, h => h.elim
  | _ :: _, [], h => h.elim
theorem AllR.get {w : World} {base : Nat} : ∀ {vs : List Value} {ls : List (List (List Int))} (_ : AllR w base vs ls) (i : Nat), i < ls.length → OwnRows w base 22 3 .i64 (vs.getD i undef) (ls.getD i [])
  | [], [], _, i, hi => absurd hi (by simp)
  | _ :: _, _ :: _, h, 0, _ => h.1
  | _ :: _, _ :: _, h, i + 1, hi => by simpa using AllR.get h.2 i (by simpa using hi)
  | [], _ :: _, h, _, _ => h.elim
  | _ :: _, [], h, _, _ => h.elim
def OwnVs (w : World) (base : Nat) (v : Value) (ms : List (List (List Int))) : Prop := ∃ xs : List Value, w.ownsRow base 27 1 v xs.length xs ∧ AllR w base xs ms
theorem OwnVs.nil (w : World) (base : Nat) : OwnVs w base (.slice none 0 0) [] := ⟨[], ⟨rfl, .inl ⟨rfl, rfl⟩⟩, trivial⟩
theorem OwnVs.below {w w' : World} {base : Nat} {v : Value} {ms : List (List (List Int))} (h : OwnVs w base v ms) (hb : Below w.heap.size w w') : OwnVs w' base v ms := by
  obtain ⟨xs, h1, h2⟩ := h
  exact ⟨xs, ownsRow_below h1 hb, h2.imp fun _ _ ho => ho.below hb⟩
theorem OwnVs.base_le {w : World} {base base' : Nat} {v : Value} {ms : List (List (List Int))} (h : OwnVs w base v ms) (hb : base' ≤ base) : OwnVs w base' v ms := by
  obtain ⟨xs, ⟨h1, h2 | ⟨g, cap, cur, hv, hg, r⟩⟩, h3⟩ := h
  · exact ⟨xs, ⟨h1, .inl h2⟩, h3.imp fun _ _ ho => ho.base_le hb⟩
  · exact ⟨xs, ⟨h1, .inr ⟨g, cap, cur, hv, by omega, r⟩⟩, h3.imp fun _ _ ho => ho.base_le hb⟩
theorem OwnVs.grow {w0 w w' : World} {base B : Nat} {v : Value} {ms : List (List (List Int))} (h : OwnVs w base v ms) (hb : Below B w0 w) (hg : w.grownBy w' v.ownBlock) (hB : B ≤ w.heap.size) (hB' : B ≤ base) : Below B w0 w' := by
  obtain ⟨xs, h1, _⟩ := h
  exact hb.grown hg hB (fun g hg' => by have := (World.ownsRow.lt h1 g hg').1; omega)
/-- rows stay when a row of another element type grows -/
theorem OwnRows.keepRow {w w' : World} {base b2 size n : Nat} {e eb e2 : TypeId} {k : IntKind} {v u : Value} {ls : List (List Int)} {xs : List Value} (h : OwnRows w base e eb k v ls) (hr : w.ownsRow b2 e2 size u n xs) (hg : w.grownBy w' u.ownBlock) (h1 : e ≠ e2) (h2 : eb ≠ e2) : OwnRows w' base e eb k v ls := by
  obtain ⟨vs, g1, g2⟩ := h
  refine ⟨vs, World.ownsRow.kept g1 hg ?_, g2.imp fun _ _ ho => ownsRow_keep hr ho hg h2⟩
  obtain ⟨_, ⟨rfl, _⟩ | ⟨g, cap, cur, rfl, _, hh, _⟩⟩ := g1
  · exact .inl rfl
  · refine .inr fun he => ?_
    obtain ⟨_, ⟨rfl, _⟩ | ⟨g', cap', cur', rfl, _, hh', _⟩⟩ := hr
    · simp [Value.ownBlock] at he
    · simp [Value.ownBlock] at he
      subst he
      rw [hh] at hh'
      injection hh' with hh'
      injection hh' with _ ht
      exact h1 ht
/-- the row's own value, its length, and where its views lie -/
theorem OwnVs.read {w : World} {base : Nat} {v : Value} {ms : List (List (List Int))} (h : OwnVs w base v ms) :
    ∃ A c, v = .slice A ms.length c ∧ ∀ j, j < ms.length → ∃ g vi, A = some ⟨g, 0, none⟩ ∧ g < w.heap.size ∧ w.cell? ⟨g, j, none⟩ = some vi ∧ OwnRows w base 22 3 .i64 vi (ms.getD j []) := by
  obtain ⟨xs, h1, h2⟩ := h
  have hlen := h2.len
  have h10 := h1
  obtain ⟨_, ⟨rfl, hn⟩ | ⟨g, cap, cur, rfl, hg, hheap, hle, hmax, hsz, htake⟩⟩ := h1
  · have : ms = [] := List.eq_nil_of_length_eq_zero (by omega)
    subst this
    exact ⟨none, 0, rfl, fun j hj => absurd hj (by simp)⟩
  · refine ⟨some ⟨g, 0, none⟩, cap, by rw [hlen], fun j hj => ⟨g, xs.getD j undef, rfl, (World.ownsRow.lt h10 g rfl).2, ?_, h2.get j hj⟩⟩
    have hjl : j < xs.length := by omega
    have := World.ownsRow.cells h10 (g := g) rfl j (xs.getD j undef) (by simp [List.getD, List.getElem?_eq_getElem hjl])
    rw [addr_zero] at this
    exact this
theorem view_info : (Try.prog.info? 27).map (fun i => (i.zero, i.size, i.bytes)) = some (some (.agg #[.slice none 0 0]), 1, 24) := by kernel_rfl
section
variable (w : World)
/-- append(v, view) -/
theorem app_view {ops : Array Oper} {rest : List Oper} {o : Oper} {a : Act} {Q : Exit → Act → World → Prop} (hgd : o.guard = none) (s x : Operand) (t : TypeId)
    (ho : o.op = .call { callee := .builtin .append, args := #[s, x], argTypes := #[t, t] })
    (base : Nat) (ht : Try.prog.underlying t = some (.slice 27))
    (v : Value) (ms : List (List (List Int))) (hs : a.eval s = v) (hown : OwnVs w base v ms)
    (y : Value) (l : List (List Int)) (hy : OwnRows w base 22 3 .i64 y l) (g : Nat) (hx : a.eval x = .slice (some ⟨g, 0, none⟩) 1 1) (hc : w.cell? ⟨g, 0, none⟩ = some y) (hy1 : y.oneCell' = true)
    (h63 : ms.length + 1 ≤ 1000000) (hbase : base ≤ w.heap.size)
    (h : ∀ v' w', OwnVs w' base v' (ms ++ [l]) → w.grownBy w' v.ownBlock → wpList Try.prog ops Q rest (a.put o.dst v') w') : wpList Try.prog ops Q (o :: rest) a w := by
  obtain ⟨i, hi, hz, hz1, hz2⟩ := info_parts view_info
  obtain ⟨xs, h1, h2⟩ := hown
  have hlen := h2.len
  refine wpList_append_own w hgd s x t ho base 27 i (.agg #[.slice none 0 0]) 1 24 ht hi hz hz1 hz2 rfl (by decide) v xs.length xs hs h1 ⟨g, 0, none⟩ 1 1 [y] hx rfl ?_ ?_ (by simp only [maxLen]; omega) (by omega) hbase ?_
  · intro j u hu
    cases j with
    | zero => simp at hu; subst hu; exact hc
    | succ j => simp at hu
  · intro u hu; simp at hu; subst hu; exact hy1
  · intro v' w' h3 h4 _
    refine h v' w' ⟨xs ++ [y], by simpa using h3, AllR.snoc (hy.keepRow h1 h4 (by decide) (by decide)) (h2.imp fun _ _ ho => ho.keepRow h1 h4 (by decide) (by decide))⟩ h4
end
theorem plainElem_bool_inv {e : TypeId} {P : Program} (he : P.underlying e = some .bool) {v : Value} {z : DataW Unit × List MemPlace} (h : plainElem P e v = some z) : ∃ c, v = .bool c ∧ z = (.lit (.bool c), []) := by
  unfold plainElem at h
  rw [he] at h
  cases v <;> simp at h
  exact ⟨_, rfl, h.symm⟩
theorem wpList_lookup_own_bool {P : Program} (w : World) {ops : Array Oper} {rest : List Oper} {o : Oper} {a : Act} {Q : Exit → Act → World → Prop}
    (hg : o.guard = none) (m x : Operand) (t : TypeId) (hop : o.op = Op.lookup t m x false)
    (k e : TypeId) (K : Keyed P k) (ht : P.underlying t = some (.map k e)) (he : P.underlying e = some .bool) (hz : (zeroValue e).run P w = .ok (.bool false) w) (b n : Nat) (D : DataW Unit)
    (hm : a.eval m = .map (some b)) (hown : w.ownsMap P k (plainElem P e) b n D) (key : Value) (kl : Lit) (hx : a.eval x = key) (hkey : keyOf P k key = some kl)
    (hK : ∀ c : Bool, D.atKey kl (.lit (.bool false)) = .lit (.bool c) → wpList P ops Q rest (a.put o.dst (.bool c)) w) :
    wpList P ops Q (o :: rest) a w := by
  refine wpList_plain hg fun K' hK' => ?_
  obtain ⟨v, ps, hrun, hv⟩ := hown.lookup K ht hz (plainElem_bool he false) hkey
  obtain ⟨c, rfl, hc⟩ := plainElem_bool_inv he hv
  unfold Oper.wp
  simp [execOp, hop, hm, hx, hrun, Result.andThen]
  exact hK' _ _ (hK c (congrArg Prod.fst hc))
theorem keyedStr : Keyed Try.prog 9 := string_keyed Try.underlying9
theorem zeroBool (w : World) : (zeroValue 4).run Try.prog w = .ok (.bool false) w := by kernel_rfl
end Go.Proofs.Ytojeendofpallaa
