/- Draws: the choices of a list of bytes, behind a pointer; New, Next. -/
import Derived.Test.YtoomgbddfcmjnaaGi
import Derived.Test.YtoomgbddfcmjnaaMat
import Derived.BigGuardPart
import Derived.Deep.QuietTactic
import Derived.BigQuiet
import Derived.Lib.Hide
namespace Go.Proofs.Ytoomgbddfcmjnaa
open Go.RowKit
/-- block g of w holds choices whose bytes lie below block base -/
def Cod (w : World) (base g : Nat) : Prop := ∃ (A : Option Addr) (n c i : Nat) (l : List Int), base ≤ g ∧ i ≤ n ∧ n ≤ 400 ∧ w.heap[g]? = some (.cells #[.slice A n c, .int .i64 i] 91 (0, 0)) ∧ Nums w .u8 base A n c l
theorem Nums.grown {w w' : World} {k : IntKind} {B : Nat} {row : Option Nat} {A : Option Addr} {n c : Nat} {l : List Int} (h : Nums w k B A n c l) (hg : w.grownBy w' row) (hr : ∀ r, row = some r → B ≤ r) : Nums w' k B A n c l :=
  ⟨h.len, h.cap, h.max, fun hn => by
    obtain ⟨ad, e, hlt, hc⟩ := h.cells hn
    refine ⟨ad, e, hlt, fun j hj => ?_⟩
    have := hc j hj
    refine hg.cell this ?_
    rw [add_block]
    intro e9
    have := hr _ e9.symm
    omega, h.wf, h.zero⟩
theorem Cod.grown {w w' : World} {base g : Nat} {row : Option Nat} (h : Cod w base g) (hg : w.grownBy w' row) (hr : ∀ r, row = some r → base ≤ r ∧ r ≠ g) : Cod w' base g := by
  obtain ⟨A, n, c, i, l, h1, h2, h3, h4, h5⟩ := h
  refine ⟨A, n, c, i, l, h1, h2, h3, ?_, h5.grown hg fun r e => (hr r e).1⟩
  rw [hg.block g (Array.getElem?_eq_some_iff.1 h4).1 (fun e => (hr g e.symm).2 rfl)]
  exact h4
theorem grownBy_of_below {w w' : World} (h : Below w.heap.size w w') (row : Option Nat) : w.grownBy w' row := ⟨h.os, h.tape, h.output, h.size, fun k hk _ => h.block k hk⟩
theorem Cod.below {w w' : World} {base g : Nat} (h : Cod w base g) (hb : Below w.heap.size w w') : Cod w' base g := h.grown (grownBy_of_below hb none) (fun r e => by cases e)
theorem grownBy_drewN (w : World) (n : Nat) (row : Option Nat) : w.grownBy (w.drewN n) row := ⟨rfl, rfl, rfl, Nat.le_refl _, fun _ _ _ => rfl⟩
theorem Cod.lt {w : World} {base g : Nat} (h : Cod w base g) : g < w.heap.size ∧ base ≤ g := by
  obtain ⟨A, n, c, i, l, h1, h2, h3, h4, h5⟩ := h
  exact ⟨(Array.getElem?_eq_some_iff.1 h4).1, h1⟩
/-- a row of another element type stays when the choices turn -/
theorem Own.cod {w w' : World} {base b2 g : Nat} {e : TypeId} {k : IntKind} {v : Value} {l : List Int} (h : Own w b2 e k v l) (hc : Cod w base g) (hg : w.grownBy w' (some g)) (he : e ≠ 91) : Own w' b2 e k v l := by
  obtain ⟨A, n, c, i, l, h1, h2, h3, h4, h5⟩ := hc
  refine h.kept hg ?_
  obtain ⟨_, ⟨rfl, _⟩ | ⟨g', cap, cur, rfl, _, hh, _⟩⟩ := h
  · exact .inl rfl
  · refine .inr fun e9 => ?_
    simp [Value.ownBlock] at e9
    subst e9
    rw [hh] at h4
    injection h4 with h4
    injection h4 with _ ht
    exact he ht
theorem OwnRows.cod {w w' : World} {base b2 g : Nat} {e eb : TypeId} {k : IntKind} {v : Value} {ls : List (List Int)} (h : OwnRows w b2 e eb k v ls) (hc : Cod w base g) (hg : w.grownBy w' (some g)) (he : e ≠ 91) (heb : eb ≠ 91) : OwnRows w' b2 e eb k v ls := by
  obtain ⟨vs, h1, h2⟩ := h
  refine ⟨vs, World.ownsRow.kept h1 hg ?_, h2.imp fun _ _ ho => ho.cod hc hg heb⟩
  obtain ⟨A, n, c, i, l, h1', h2', h3, h4, h5⟩ := hc
  obtain ⟨_, ⟨rfl, _⟩ | ⟨g', cap, cur, rfl, _, hh, _⟩⟩ := h1
  · exact .inl rfl
  · refine .inr fun e9 => ?_
    simp [Value.ownBlock] at e9
    subst e9
    rw [hh] at h4
    injection h4 with h4
    injection h4 with _ ht
    exact he ht
/-- the choices stay when a row of another element type grows -/
theorem Cod.row {w w' : World} {base b2 g : Nat} {e : TypeId} {size n : Nat} {v : Value} {xs : List Value} (hc : Cod w base g) (h : w.ownsRow b2 e size v n xs) (hg : w.grownBy w' v.ownBlock) (he : e ≠ 91) (hb : base ≤ b2) : Cod w' base g := by
  refine hc.grown hg fun r e9 => ?_
  obtain ⟨A, n, c, i, l, h1', h2', h3, h4, h5⟩ := hc
  obtain ⟨_, ⟨rfl, _⟩ | ⟨g', cap, cur, rfl, hb2, hh, _⟩⟩ := h
  · simp [Value.ownBlock] at e9
  · simp [Value.ownBlock] at e9
    subst e9
    refine ⟨by omega, fun e => ?_⟩
    subst e
    rw [hh] at h4
    injection h4 with h4
    injection h4 with _ ht
    exact he ht
def GivesCod (w : World) (e : Ending) (w' : World) : Prop := e = .returned (.pointer (some ⟨w.heap.size, 0, none⟩)) ∧ Cod w' w.heap.size w.heap.size ∧ Below w.heap.size w w'
theorem Nums.first {w : World} {k : IntKind} {B : Nat} {A : Option Addr} {n c m : Nat} {l : List Int} (h : Nums w k B A n c l) (hm : m ≤ n) : Nums w k B A m c (l.take m) :=
  ⟨by rw [List.length_take, h.len]; omega, Nat.le_trans hm h.cap, h.max, fun h0 => by
    obtain ⟨ad, e, hlt, hc⟩ := h.cells (by omega)
    refine ⟨ad, e, hlt, fun j hj => ?_⟩
    rw [hc j (by omega)]
    simp [List.getD, hj], fun x hx => h.wf x (List.mem_of_mem_take hx), h.zero⟩
theorem new_any (A : Option Addr) (n c : Nat) (l : List Int) (w : World) (h : Nums w .u8 w.heap.size A n c l) :
    Calls Try.prog 11 #[.slice A n c] w (GivesCod w) := by
  have hm : n ≤ 9223372036854775807 := by have := h.cap; have := h.max; unfold maxLen at this; omega
  have hcp := h.cap
  have hcm : c ≤ 9223372036854775807 := by have := h.max; unfold maxLen at this; omega
  have H := Lib.hid h
  clear h
  by_cases hn : n < 400
  · have hn2 : (n : Int) < 400 := by omega
    go_enter Try.func11, Try.ntmps11
    go_wp2_with fail
    go_ret
    exact ⟨rfl, ⟨A, n, c, 0, l, Nat.le_refl _, by omega, by omega, heap_alloc_new w _, H.out.keep ((Below.refl _ _).alloc (Nat.le_refl _) _) (Nat.le_refl _)⟩, (Below.refl _ _).alloc (Nat.le_refl _) _⟩
  · have hn2 : ¬ ((n : Int) < 400) := by omega
    have h4 : (400 : Int) ≤ c := by omega
    go_enter Try.func11, Try.ntmps11
    go_wp2_with fail
    · go_ret
      exact ⟨rfl, ⟨A, 400, c, 0, l.take 400, Nat.le_refl _, by omega, by omega, heap_alloc_new w _, (H.out.first (by omega)).keep ((Below.refl _ _).alloc (Nat.le_refl _) _) (Nat.le_refl _)⟩, (Below.refl _ _).alloc (Nat.le_refl _) _⟩
    · obtain rfl : n = 400 := by omega
      go_ret
      exact ⟨rfl, ⟨A, 400, c, 0, l, Nat.le_refl _, by omega, by omega, heap_alloc_new w _, H.out.keep ((Below.refl _ _).alloc (Nat.le_refl _) _) (Nat.le_refl _)⟩, (Below.refl _ _).alloc (Nat.le_refl _) _⟩
def GivesNext (k : Int) (base g : Nat) (w : World) (e : Ending) (w' : World) : Prop := ∃ x : Int, e = .returned (.int .i64 x) ∧ 0 ≤ x ∧ (1 ≤ k → x < k) ∧ x ≤ 65535 ∧ Cod w' base g ∧ w.grownBy w' (some g)
theorem cod_set {w : World} {g : Nat} {a b : Value} {T : TypeId} {fr : Nat × Nat} (h : w.heap[g]? = some (.cells #[a, b] T fr)) (v : Value) : (w.setCell ⟨g, 1, none⟩ v).heap[g]? = some (.cells #[a, v] T fr) ∧ w.grownBy (w.setCell ⟨g, 1, none⟩ v) (some g) := by
  refine ⟨by simp [World.setCell, Array.getElem?_modify, h], rfl, rfl, rfl, by simp [World.setCell], fun q hq hne => ?_⟩
  simp only [World.setCell, Array.getElem?_modify]
  rw [if_neg (fun e => hne (by rw [← e]))]
theorem cod_setN {w : World} {g : Nat} {a b : Value} {T : TypeId} {fr : Nat × Nat} (h : w.heap[g]? = some (.cells #[a, b] T fr)) (m : Nat) (v : Value) : ((w.drewN m).setCell ⟨g, 1, none⟩ v).heap[g]? = some (.cells #[a, v] T fr) ∧ w.grownBy ((w.drewN m).setCell ⟨g, 1, none⟩ v) (some g) := by
  have q := cod_set h v
  exact ⟨q.1, ⟨q.2.os, q.2.tape, q.2.output, q.2.size, q.2.block⟩⟩
theorem emod_le9 {v k : Int} (h0 : 0 ≤ v) (hk : 1 ≤ k) : v % k ≤ v := by
  have h := Int.emod_add_mul_ediv v k
  have h1 := Int.ediv_nonneg h0 (show (0 : Int) ≤ k by omega)
  have h2 := Int.mul_nonneg (show (0 : Int) ≤ k by omega) h1
  omega
theorem mod_next {v k : Int} (h0 : 0 ≤ v) (h1 : v ≤ 65535) (hk : 1 ≤ k) : 0 ≤ v % k ∧ v % k < k ∧ v % k ≤ 65535 :=
  ⟨Int.emod_nonneg _ (by omega), Int.emod_lt_of_pos _ (by omega), Int.le_trans (emod_le9 h0 hk) h1⟩
theorem grownBy_drewd {w w' : World} {row : Option Nat} (h : w.grownBy w' row) {n : Nat} {w2 : World} (e : w2 = w'.drewN n) : w.grownBy w2 row := by subst e; exact ⟨h.os, h.tape, h.output, h.size, h.block⟩
theorem next_any (k : Int) (hk0 : -9223372036854775808 ≤ k) (hk1 : k ≤ 9223372036854775807) (base g : Nat) (w : World) (h : Cod w base g) :
    Calls Try.prog 39 #[.pointer (some ⟨g, 0, none⟩), .int .i64 k] w (GivesNext k base g w) := by
  have HC := Lib.hid h
  obtain ⟨A, n, c, i, l, h1, h2, h3, h4, h5⟩ := h
  have c0 : w.cell? ⟨g, 0, none⟩ = some (.slice A n c) := by simp [World.cell?, h4]
  have c1 : w.cell? ⟨g, 1, none⟩ = some (.int .i64 i) := by simp [World.cell?, h4]
  have f1 : w.frozen? ⟨g, 1, none⟩ = false := by simp [World.frozen?, h4]
  have H := Lib.hid h5
  have HB := Lib.hid h1
  have H4 := Lib.hid h4
  clear h5 h1 h4
  by_cases hk : k < 1
  · have d1 : decide (k < 1) = true := by simpa using hk
    have HK := Lib.hid hk
    clear hk
    go_enter Try.func39, Try.ntmps39
    go_wp2_with fail
    go_quiet (fail)
    go_wp2_with fail
    go_ret
    exact ⟨0, rfl, by omega, fun h => absurd HK.out (by omega), by omega, HC.out.grown (grownBy_drewN w _ none) (fun r e => by cases e), grownBy_drewN w _ _⟩
  · have d1 : decide (k < 1) = false := by simpa using hk
    by_cases hi : i < n
    · have d2 : decide ((n : Int) ≤ (i : Int)) = false := by simp; omega
      obtain ⟨ad, x, rfl, hlt, HX, hx, hwx⟩ := H.out.val hi
      have hx9 := bounds_u8 hwx
      have c2 : ∀ v, (w.setCell ⟨g, 1, none⟩ v).cell? (ad.add i) = some (.int .u8 x) := fun v => by rw [World.cell?_setCell_other _ _ _ _ (fun e => by have e2 := congrArg Addr.block e; rw [add_block] at e2; have := HB.out; simp at e2; omega)]; exact hx
      go_enter Try.func39, Try.ntmps39
      go_wp2_with fail
      go_quiet (fail)
      go_wp2_with fail
      have c3 : ∀ v, ((w.drewN nq).setCell ⟨g, 1, none⟩ v).drew.cell? (ad.add i) = some (.int .u8 x) := c2
      go_region
      all_goals (go_wp2_with fail)
      obtain ⟨Z, hZ⟩ : ∃ Z : World, ((w.drewN nq).setCell ⟨g, 1, none⟩ (.int .i64 ((i : Int) + 1))).drew = Z := ⟨_, rfl⟩
      have hzz : Z.heap[g]? = some (.cells #[.slice (some ad) n c, .int .i64 ((i : Int) + 1)] 91 (0, 0)) ∧ w.grownBy Z (some g) := by rw [← hZ]; have q := cod_set H4.out (.int .i64 ((i : Int) + 1)); exact ⟨q.1, ⟨q.2.os, q.2.tape, q.2.output, q.2.size, q.2.block⟩⟩
      have zh := hzz.1
      have hgz := hzz.2
      have z0 : Z.cell? ⟨g, 0, none⟩ = some (.slice (some ad) n c) := by simp [World.cell?, zh]
      have z1 : Z.cell? ⟨g, 1, none⟩ = some (.int .i64 ((i : Int) + 1)) := by simp [World.cell?, zh]
      have zf : Z.frozen? ⟨g, 1, none⟩ = false := by simp [World.frozen?, zh]
      have HZ := Lib.hid (And.intro zh hgz)
      have HN := Lib.hid (H.out.grown hgz (fun r e => by injection e with e; have := HB.out; omega))
      rw [hZ]
      clear hZ zh hgz hzz c2 c3 c0 c1 f1 hx
      by_cases hk2 : 256 < k
      · have d3 : decide (256 < k) = true := by simpa using hk2
        by_cases hi2 : i + 1 < n
        · obtain ⟨j, hj⟩ : ∃ j : Nat, i + 1 = j := ⟨_, rfl⟩
          have ej : (i : Int) + 1 = (j : Int) := by omega
          have HJ := Lib.hid hj
          rw [ej] at z1
          rw [hj] at hi2
          have d4 : decide ((j : Int) < (n : Int)) = true := by simp; omega
          obtain ⟨ad', y, e9, _, HY, hy, hwy⟩ := HN.out.val hi2
          obtain rfl : ad = ad' := by injection e9
          have hy9 := bounds_u8 hwy
          clear ej hj
          go_quiet (fail)
          go_wp2_with fail
          go_quiet (fail)
          go_wp2_with fail
          go_ret
          have hm := mod_next (v := x * 256 + y) (k := k) (by omega) (by omega) (by omega)
          exact ⟨_, rfl, hm.1, fun _ => hm.2.1, hm.2.2, ⟨_, n, c, j + 1, l, HB.out, by have := HJ.out; omega, h3, (cod_setN HZ.out.1 _ _).1, HN.out.grown (cod_setN HZ.out.1 _ _).2 (fun r e => by injection e with e; have := HB.out; omega)⟩, HZ.out.2.trans (cod_setN HZ.out.1 _ _).2⟩
        · have d4 : decide ((i : Int) + 1 < (n : Int)) = false := by simp; omega
          go_quiet (fail)
          go_wp2_with fail
          go_ret
          have hm := mod_next (v := x) (k := k) (by omega) (by omega) (by omega)
          exact ⟨_, rfl, hm.1, fun _ => hm.2.1, hm.2.2, ⟨_, n, c, i + 1, l, HB.out, by omega, h3, HZ.out.1, HN.out.grown (grownBy_drewN Z _ none) (fun r e => by cases e)⟩, HZ.out.2.trans (grownBy_drewN Z _ _)⟩
      · have d3 : decide (256 < k) = false := by simpa using hk2
        go_quiet (fail)
        go_wp2_with fail
        go_ret
        have hm := mod_next (v := x) (k := k) (by omega) (by omega) (by omega)
        exact ⟨_, rfl, hm.1, fun _ => hm.2.1, hm.2.2, ⟨_, n, c, i + 1, l, HB.out, by omega, h3, HZ.out.1, HN.out.grown (grownBy_drewN Z _ none) (fun r e => by cases e)⟩, HZ.out.2.trans (grownBy_drewN Z _ _)⟩
    · have d2 : decide ((n : Int) ≤ (i : Int)) = true := by simp; omega
      obtain rfl : i = n := by omega
      have HK := Lib.hid hk
      clear hk hi
      go_enter Try.func39, Try.ntmps39
      go_wp2_with fail
      go_quiet (fail)
      go_wp2_with fail
      go_ret
      exact ⟨0, rfl, by omega, fun h => by omega, by omega, HC.out.grown (grownBy_drewN w _ none) (fun r e => by cases e), grownBy_drewN w _ _⟩
end Go.Proofs.Ytoomgbddfcmjnaa
