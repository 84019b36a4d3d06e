/- Codes: a right list is accepted. -/
import Derived.Test.YtdlgfhegafnmcaaDoorLc
import Derived.Maps.Own
import Derived.Maps.OwnOps
import Derived.Carry
import Derived.Maps.OwnSet
import Derived.Lib.SmallJoins
namespace Go.Proofs.YtdlgfhegafnmcaaDoor
open Go.RowKit Go.Maps
theorem nameC01 (s : ByteArray) (w : World) : Calls Tryd.prog 12 #[.string s] w fun e w' => e = .returned (.bool (Cd.name s)) ∧ w = w' := by
  go_enter Tryd.func12, Tryd.ntmps12
  go_wp2_with fail
  refine (name01 s w).mono ?_; rintro e w1 ⟨rfl, rfl⟩
  go_wp2_with fail
  go_ret
  exact ⟨rfl, rfl⟩
def Cd.par (L : List Cd.Co) : List Int := L.map (·.par)
/-- a right list: names, all different, and right parents -/
structure Cd.Good (L : List Cd.Co) : Prop where
  tree : Cd.Tree (Cd.par L)
  names : ∀ j, j < L.length → Cd.name (L.getD j Cd.Co0).name = true
  diff : ∀ i j, i < j → j < L.length → (L.getD i Cd.Co0).name ≠ (L.getD j Cd.Co0).name
theorem Cd.par_get {L : List Cd.Co} {j : Nat} (hj : j < L.length) (d : Int) : (Cd.par L).getD j d = (L.getD j Cd.Co0).par := by
  simp [Cd.par, List.getD, hj]
theorem Cd.name_size {s : ByteArray} (h : Cd.name s = true) : s.size ≤ 16 := by
  unfold Cd.name at h
  simp only [Bool.and_eq_true, decide_eq_true_eq] at h
  exact h.1.1.1.2
theorem keyedStr01 : Keyed Tryd.prog 9 := string_keyed Tryd.underlying9
theorem zeroBool01 (w : World) : (zeroValue 4).run Tryd.prog w = .ok (.bool false) w := by kernel_rfl
theorem plainBool_inv {e : TypeId} {P : Program} (he : P.underlying e = some .bool) {v : Value} {z : DataW Unit × List MemPlace} (h : plainElem P e v = some z) : ∃ c, v = .bool c ∧ z = (.lit (.bool c), []) := by
  unfold plainElem at h
  rw [he] at h
  cases v <;> simp at h
  exact ⟨_, rfl, h.symm⟩
/-- what the map says of names that it has not met -/
def Cd.New (D : DataW Unit) (ns : List ByteArray) : Prop := ∀ t : ByteArray, t ∉ ns → D.atKey (.string t.data.toList) (.lit (.bool false)) = .lit (.bool false)
theorem Cd.New.put {D : DataW Unit} {ns : List ByteArray} (h : Cd.New D ns) (s : ByteArray) : Cd.New (D.put (.string s.data.toList) (.lit (.bool true))) (ns ++ [s]) := by
  intro t ht
  rw [List.mem_append, List.mem_singleton] at ht
  have h1 : t ≠ s := fun e => ht (.inr e)
  have h2 : (Lit.string t.data.toList) ≠ (Lit.string s.data.toList) := by
    intro e
    injection e with e
    exact h1 (ByteArray.ext (Array.toList_inj.1 e))
  rw [atKey_put_other h2]
  exact h t (fun e => ht (.inl e))
theorem lookup_new {D : DataW Unit} {ns : List ByteArray} (h : Cd.New D ns) {w : World} {b n : Nat} (hown : w.ownsMap Tryd.prog 9 (plainElem Tryd.prog 4) b n D) {s : ByteArray} (hs : s ∉ ns) (hsz : s.size ≤ maxLen) :
    (Instr.lookup 71 (.map (some b)) (.string s) false).run Tryd.prog w = .ok (.bool false) w := by
  obtain ⟨v, ps, hrun, hv⟩ := hown.lookup keyedStr01 Tryd.underlying71 (zeroBool01 w) (plainElem_bool (H := Unit) Tryd.underlying4 false) (Go.WideMaps.keyOf_string_mk Tryd.underlying9 hsz)
  obtain ⟨c, rfl, hc⟩ := plainBool_inv Tryd.underlying4 hv
  have h1 := h s hs
  have h2 := congrArg Prod.fst hc
  simp only at h2
  rw [h1] at h2
  injection h2 with h2
  injection h2 with h2
  subst h2
  exact hrun
set_option maxRecDepth 100000 in
set_option maxHeartbeats 1600000 in
theorem checkCodes01 (A : Option Addr) (n c : Nat) (L : List Cd.Co) (w : World) (h : CoRow w w.heap.size A n c L) (hg : Cd.Good L) :
    Calls Tryd.prog 45 #[.slice A n c] w fun e w' => e = .returned (.int .i64 0) ∧ Below w.heap.size w w' := by
  have H := Lib.hid h
  have HL := Lib.hid h.len
  have HG := Lib.hid hg
  have hn60 : n ≤ 60 := by rw [← h.len]; have := hg.tree.few; simpa [Cd.par] using this
  clear h hg
  go_enter Tryd.func45, Tryd.ntmps45
  have hmade := World.ownsMap_made (H := Unit) w Tryd.prog 9 (plainElem Tryd.prog 4)
  obtain ⟨W, hW⟩ : ∃ W : World, w.alloc (.map #[] 0) = W := ⟨_, rfl⟩
  have hbw : Below w.heap.size w W := by rw [← hW]; exact (Below.refl _ _).alloc (Nat.le_refl _) _
  rw [hW] at hmade
  have HM := Lib.hid hmade
  have HBW := Lib.hid hbw
  have kmk := run_makeMap (P := Tryd.prog) 71 w
  rw [hW] at kmk
  clear hmade hbw
  go_wp2_with fail
  clear hW kmk
  go_loopw [9] (fun i wr => ∃ (j : Nat) (D : DataW Unit) (m : Nat), i = .int .i64 j ∧ j ≤ n ∧ Hid (Below w.heap.size w wr ∧ wr.ownsMap Tryd.prog 9 (plainElem Tryd.prog 4) w.heap.size m D ∧ m ≤ j ∧ Cd.New D ((L.take j).map (·.name)))) (fun i _ => n - (intOf i).toNat)
  case atStart => exact ⟨0, _, 0, rfl, by omega, HBW.out, HM.out, Nat.le_refl _, fun t _ => rfl⟩
  case round =>
    rename World => Y
    obtain ⟨j, D, m, rfl, hj, HI⟩ := hrel
    by_cases hlt : j < n
    · obtain ⟨g, name, par, rfl, HX, c0, c1⟩ := (H.out.keep HI.out.1 HI.out.1.size).val hlt
      have hnm := HG.out.names j HX.out.2.1
      have hpar : 1 ≤ j → 0 ≤ par ∧ par < j := fun h1 => by
        have h9 := HG.out.tree.before j h1 (by simpa [Cd.par] using HX.out.2.1)
        rw [Cd.par_get HX.out.2.1, HX.out.1] at h9
        exact h9
      have hroot : j = 0 → par = -1 := fun h1 => by
        subst h1
        have h9 := HG.out.tree.root
        rw [Cd.par_get HX.out.2.1, HX.out.1] at h9
        exact h9
      rw [HX.out.1] at hnm
      simp only at hnm
      have hsz := Cd.name_size hnm
      have hS : L.take (j + 1) = L.take j ++ [⟨name, par⟩] := by
        rw [List.take_succ_eq_append_getElem HX.out.2.1]
        have h9 := HX.out.1
        simp only [List.getD, List.getElem?_eq_getElem HX.out.2.1, Option.getD_some] at h9
        rw [h9]
      have HS := Lib.hid hS
      have hnot : name ∉ (L.take j).map (·.name) := by
        intro h9
        obtain ⟨x, hx, e⟩ := List.mem_map.1 h9
        obtain ⟨i, hi, e2⟩ := List.mem_take_iff_getElem.1 hx
        have h8 := HG.out.diff i j (by omega) HX.out.2.1
        rw [HX.out.1] at h8
        apply h8
        rw [List.getD_eq_getElem?_getD, List.getElem?_eq_getElem (by omega), Option.getD_some, e2]
        exact e
      have HNM := Lib.hid hnm
      have HNEW := Lib.hid (HI.out.2.2.2.put name)
      obtain ⟨Z, hZ⟩ : ∃ Z : World, Y.alloc (.cells #[.string name, .int .i64 par] 50) = Z := ⟨_, rfl⟩
      have hbz : Below Y.heap.size Y Z := by rw [← hZ]; exact (Below.refl _ _).alloc (Nat.le_refl _) _
      have d0 : Z.cell? ⟨Y.heap.size, 0, none⟩ = some (.string name) := by rw [← hZ]; simp [go_sem]
      have d1 : Z.cell? ⟨Y.heap.size, 1, none⟩ = some (.int .i64 par) := by rw [← hZ]; simp [go_sem]
      have hownz : Z.ownsMap Tryd.prog 9 (plainElem Tryd.prog 4) w.heap.size m D := by rw [← hZ]; exact HI.out.2.1.alloc _
      have HBZ := Lib.hid (HI.out.1.trans (hbz.mono HI.out.1.size))
      have klook := lookup_new HI.out.2.2.2 hownz hnot (by simp only [maxLen]; omega)
      obtain ⟨Z9, hrun, hown9, hgrow9⟩ := hownz.update keyedStr01 Tryd.underlying71 (by have := HI.out.2.2.1; simp only [maxLen]; omega) (Go.WideMaps.keyOf_string_mk Tryd.underlying9 (s := name) (by simp only [maxLen]; omega)) (plainElem_bool (H := Unit) Tryd.underlying4 true)
      have HB9 := Lib.hid (show Below w.heap.size w Z9 from HBZ.out.grown hgrow9 HBZ.out.size (fun r e => by injection e with e; omega))
      have HOWN9 := Lib.hid hown9
      have hm60 : m ≤ j := HI.out.2.2.1
      clear hS hnot hnm hbz hownz hown9 hgrow9 hsz
      rcases Nat.eq_zero_or_pos j with rfl | hjp
      · obtain rfl := hroot rfl
        clear hpar hroot
        go_wp2_with fail
        refine (nameC01 name Z).mono ?_; rintro e w5 ⟨rfl, rfl⟩
        rw [HNM.out]
        go_wp2_with fail
        go_roundw
        case rel => exact ⟨0 + 1, D.put (.string name.data.toList) (.lit (.bool true)), m + 1, by go_num, by omega, HB9.out, HOWN9.out, by omega, by rw [HS.out, List.map_append]; exact HNEW.out⟩
        case measure => simp [intOf]; omega
      · obtain ⟨hp0, hp1⟩ := hpar hjp
        have gj : ((j : Int) == 0) = false := beq_false_of_ne (by omega)
        have gj2 : decide ((0 : Int) < (j : Int)) = true := decide_eq_true (by omega)
        have gj3 : decide (0 < j) = true := decide_eq_true hjp
        have gp : decide (par < 0) = false := decide_eq_false (by omega)
        have gp2 : decide ((j : Int) ≤ par) = false := decide_eq_false (by omega)
        clear hpar hroot hjp hp0 hp1
        go_wp2_with fail
        refine (nameC01 name Z).mono ?_; rintro e w5 ⟨rfl, rfl⟩
        rw [HNM.out]
        go_wp2_with fail
        go_roundw
        case rel => exact ⟨j + 1, D.put (.string name.data.toList) (.lit (.bool true)), m + 1, by go_num, by omega, HB9.out, HOWN9.out, by omega, by rw [HS.out, List.map_append]; exact HNEW.out⟩
        case measure => simp [intOf]; omega
    · obtain rfl : n = j := by omega
      go_wp2_with fail
      go_ret
      exact ⟨rfl, HI.out.1⟩
end Go.Proofs.YtdlgfhegafnmcaaDoor
