/- Journals: the reference's Append, the good way. -/
import Derived.Test.YtjhdhnefoclccaaK9
namespace Go.Proofs.Ytjhdhnefoclccaa
open Go.RowKit
theorem grownBy_set9 (w : World) (b j : Nat) (v : Value) : w.grownBy (w.setCell ⟨b, j, none⟩ v) (some b) := by
  refine ⟨rfl, rfl, rfl, by simp, fun k hk hne => ?_⟩
  simp only [World.setCell, Array.getElem?_modify]
  rw [if_neg (fun e => hne (by rw [← e]))]
/-- a store into a box of another type -/
theorem Own.boxset {w : World} {base f tf j : Nat} {e : TypeId} {k : IntKind} {v u : Value} {l : List Int} {cs : Array Value} {fr : Nat × Nat} (h : Own w base e k v l) (hf : w.heap[f]? = some (.cells cs tf fr)) (hne : e ≠ tf) : Own (w.setCell ⟨f, j, none⟩ u) base e k v l := by
  refine h.kept (grownBy_set9 w f j u) ?_
  obtain ⟨_, ⟨rfl, _⟩ | ⟨g', cap, cur, rfl, _, hh, _⟩⟩ := h
  · exact .inl rfl
  · refine .inr fun e9 => ?_
    simp [Value.ownBlock] at e9
    subst e9
    rw [hh] at hf
    injection hf with hf
    injection hf with _ ht
    exact hne ht
set_option maxRecDepth 100000 in
set_option maxHeartbeats 1600000 in
theorem rappend_ok (A A' B : Option Addr) (n c n' c' m d : Nat) (l l' p : List Int) (w : World) (h : Nums w .u8 w.heap.size A n c l) (h' : Nums w .u8 w.heap.size A' n' c' l') (hp : Nums w .u8 w.heap.size B m d p) (hm4 : m ≤ 4096) (hk : (Jn.read l).2 = n) (hfull : n + n' + (m + 8) ≤ 262144) :
    Calls Try.prog 14 #[.agg #[.slice A n c, .slice A' n' c'], .slice B m d] w (GivesApp l (l' ++ Jn.frame p) 0 w) := by
  obtain ⟨W, hW⟩ : ∃ W : World, (w.alloc (.cells #[.slice A n c, .slice A' n' c'] 29)).alloc (.cells #[.slice none 0 0, .slice none 0 0] 29) = W := ⟨_, rfl⟩
  have k0 : W.cell? ⟨w.heap.size, 0, none⟩ = some (.slice A n c) := by rw [← hW]; simp [go_sem]
  have k1 : W.cell? ⟨w.heap.size, 1, none⟩ = some (.slice A' n' c') := by rw [← hW]; simp [go_sem]
  have r0 : W.cell? ⟨w.heap.size + 1, 0, none⟩ = some (.slice none 0 0) := by rw [← hW]; simp [go_sem]
  have r1 : W.cell? ⟨w.heap.size + 1, 1, none⟩ = some (.slice none 0 0) := by rw [← hW]; simp [go_sem]
  have z0 : W.frozen? ⟨w.heap.size + 1, 0, none⟩ = false := by rw [← hW]; simp [go_sem]
  have z1 : W.frozen? ⟨w.heap.size + 1, 1, none⟩ = false := by rw [← hW]; simp [go_sem]
  have hsz : W.heap.size = w.heap.size + 2 := by rw [← hW]; simp
  have hbW : Below w.heap.size w W := by rw [← hW]; exact ((Below.refl _ _).alloc (Nat.le_refl _) _).alloc (by simp) _
  have H := Lib.hid (h.keep hbW hbW.size)
  have H' := Lib.hid (h'.keep hbW hbW.size)
  have HP := Lib.hid (hp.keep hbW hbW.size)
  have HB := Lib.hid hbW
  have HZ := Lib.hid hsz
  have HS := Lib.hid hfull
  have HM := Lib.hid hm4
  have HK := Lib.hid hk
  have b1 : (n : Int) + (n' : Int) + ((m : Int) + 8) ≤ 262144 := by omega
  have HR := Lib.hid (And.intro k0 (And.intro k1 (And.intro r0 (And.intro r1 (And.intro z0 z1)))))
  have hmx : m ≤ 9223372036854775807 := hp.bd
  clear h h' hp hbW hsz r0 r1 z0 z1 hm4 hk hfull
  go_enter Try.func14, Try.ntmps14
  go_wp2_with fail
  clear hW
  refine (rframe23 B m d p W HP.out HM.out).mono ?_; rintro e w1 ⟨v1, rfl, hown, hb⟩
  obtain ⟨A1, c1, rfl, hn1⟩ := hown.nums (Jn.frame_wf HP.out.wf)
  have hfl : (Jn.frame p).length = m + 8 := by rw [Jn.frame_len, HP.out.len]
  rw [hfl]
  rw [hfl] at hn1
  have HFL := Lib.hid hfl
  have HF1 := Lib.hid hn1
  have HB1 := Lib.hid hb
  have k0 := below_cell hb HR.out.1
  clear hown hn1 hfl hb
  go_wp2_with fail
  refine (rread23 A n c l w1 (H.out.keep HB1.out HB1.out.size) (by have := HS.out; omega)).mono ?_; rintro e w2 ⟨v2, rfl, hrows, hb2⟩
  rw [HK.out]
  have HB2 := Lib.hid (HB1.out.trans (hb2.mono HB1.out.size))
  have HF2 := Lib.hid (HF1.out.keep hb2 hb2.size)
  clear hrows hb2 k0
  have k0 := below_cell HB2.out HR.out.1
  have k1 := below_cell HB2.out HR.out.2.1
  have g2 : decide (262144 < (n : Int) + (n' : Int) + ((m : Int) + 8)) = false := by simp; omega
  go_wp2_with fail
  refine (rcopy23 A A' n c n' c' l l' w2 (H.out.keep HB2.out HB2.out.size) (H'.out.keep HB2.out HB2.out.size) (by have := HS.out; omega)).mono ?_; rintro e w3 ⟨v, v', rfl, ho, ho', hb3, hne⟩
  obtain ⟨A1, c1, rfl, _⟩ := ho.nums H.out.wf
  obtain ⟨A2, c2, rfl, _⟩ := ho'.nums H'.out.wf
  have HLN := Lib.hid (show l.length = n from H.out.len)
  have HLN' := Lib.hid (show l'.length = n' from H'.out.len)
  have hb23 := HB2.out.trans (hb3.mono HB2.out.size)
  have hbx : (w3.alloc (.cells #[.slice A1 l.length c1, .slice A2 l'.length c2] 29)).heap[w3.heap.size]? = some (.cells #[.slice A1 l.length c1, .slice A2 l'.length c2] 29 (0, 0)) := heap_alloc_new _ _
  have hbe : Below w3.heap.size w3 (w3.alloc (.cells #[.slice A1 l.length c1, .slice A2 l'.length c2] 29)) := (Below.refl _ _).alloc (Nat.le_refl _) _
  obtain ⟨X, hX⟩ : ∃ X : World, w3.alloc (.cells #[.slice A1 l.length c1, .slice A2 l'.length c2] 29) = X := ⟨_, rfl⟩
  rw [hX] at hbx hbe
  have HF3 := Lib.hid ((HF2.out.keep hb3 hb3.size).keep hbe hbe.size)
  have HOA := Lib.hid (ho.below hbe)
  have HOB := Lib.hid (ho'.below hbe)
  have HB3 := Lib.hid (hb23.trans (hbe.mono hb23.size))
  have HNE := Lib.hid hne
  have HWF9 := Lib.hid (show ∀ x ∈ l' ++ Jn.frame p, (Lit.int .u8 x).wf = true from fun x hx => (List.mem_append.1 hx).elim (H'.out.wf x) (Jn.frame_wf HP.out.wf x))
  have HBX := Lib.hid hbx
  have HSZ := Lib.hid (And.intro HB2.out.size (And.intro hb3.size hbe.size))
  have q0 : X.cell? ⟨w3.heap.size, 0, none⟩ = some (.slice A1 l.length c1) := by simp [World.cell?, hbx]
  have q1 : X.cell? ⟨w3.heap.size, 1, none⟩ = some (.slice A2 l'.length c2) := by simp [World.cell?, hbx]
  clear ho ho' hb3 hb23 hbx hbe hne k0 k1 b1 g2
  go_wp2_with (at_builtin; refine app_ints _ rfl (.tmp 50) (.tmp 51) _ rfl w2.heap.size 5 1 .u8 byte_info Try.underlying22 _ _ rfl HOB.out _ _ _ _ (Jn.frame p) rfl HF3.out (by have := HLN'.out; have := HS.out; simp only [maxLen]; omega) (by have := HLN'.out; have := HS.out; omega) (Nat.le_trans HSZ.out.2.1 HSZ.out.2.2) ?_; intro v9 w9 hown9 hgrow9; (have hb9 := HOB.out.grow HB3.out hgrow9 HB3.out.size HSZ.out.1); (have hbx9 := HOB.out.blk hgrow9 HBX.out (by decide)); (obtain ⟨q29, q39, q49, q59, _⟩ := box4 hbx9 (Below.refl _ _)); (have hoa9 := HOA.out.kept hgrow9 (.inr HNE.out)); (have hn91 : ¬ (w3.heap.size = w.heap.size + 1) := by have h1 := HSZ.out; have h2 := HZ.out; omega); (have hn92 : ¬ (w.heap.size + 1 = w3.heap.size) := by have h1 := HSZ.out; have h2 := HZ.out; omega); (have q2 := below_cell hb9 HR.out.2.2.1); (have q3 := below_cell hb9 HR.out.2.2.2.1); (have q4 := below_frozen hb9 HR.out.2.2.1 HR.out.2.2.2.2.1); (have q5 := below_frozen hb9 HR.out.2.2.2.1 HR.out.2.2.2.2.2); obtain ⟨A9, N9, c9, rfl, hN9, _⟩ := hown9.numsN HWF9.out)
  have hz := HZ.out
  have hs3 := HSZ.out
  have hbs := HB.out.size
  exact bodyPost_ret (v := .tuple #[.agg #[.slice A1 l.length c1, .slice A9 N9 c9], .int .i64 0]) (by simp [results, Try.results14, go_sem, *]) rfl
    ⟨_, _, rfl, (((hoa9.boxset hbx9 (by decide)).setCell (by simp; omega) _).setCell (by simp; omega) _).base_le (by omega), (((hown9.boxset hbx9 (by decide)).setCell (by simp; omega) _).setCell (by simp; omega) _).base_le (by omega), (((HB.out.trans (hb9.mono HB.out.size)).setCell (by simp; omega) _).setCell (by simp) _).setCell (by simp) _⟩
end Go.Proofs.Ytjhdhnefoclccaa
