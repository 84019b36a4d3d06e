/- Journals: the reference's Append, where it gives an error. -/
import Derived.Test.YtjhdhnefoclccaaK8
namespace Go.Proofs.Ytjhdhnefoclccaa
open Go.RowKit
def GivesApp (l l' : List Int) (x : Int) (w : World) (e : Ending) (w' : World) : Prop := ∃ v v', e = .returned (.tuple #[.agg #[v, v'], .int .i64 x]) ∧ Own w' w.heap.size 5 .u8 v l ∧ Own w' w.heap.size 5 .u8 v' l' ∧ Below w.heap.size w w'
set_option maxRecDepth 100000 in
set_option maxHeartbeats 1600000 in
theorem rappend_err (A A' B : Option Addr) (n c n' c' m d : Nat) (l l' p : List Int) (x : Int) (w : World) (h : Nums w .u8 w.heap.size A n c l) (h' : Nums w .u8 w.heap.size A' n' c' l') (hp : Nums w .u8 w.heap.size B m d p) (hs : n + n' ≤ 1000000)
    (hx : (4096 < m ∧ x = 1) ∨ (m ≤ 4096 ∧ (Jn.read l).2 ≠ n ∧ x = 40) ∨ (m ≤ 4096 ∧ (Jn.read l).2 = n ∧ 262144 < n + n' + (m + 8) ∧ x = 42)) :
    Calls Try.prog 14 #[.agg #[.slice A n c, .slice A' n' c'], .slice B m d] w (GivesApp l l' x w) := by
  obtain ⟨W, hW⟩ : ∃ W : World, (w.alloc (.cells #[.slice A n c, .slice A' n' c'] 29)).alloc (.cells #[.slice none 0 0, .slice none 0 0] 29) = W := ⟨_, rfl⟩
  have k0 : W.cell? ⟨w.heap.size, 0, none⟩ = some (.slice A n c) := by rw [← hW]; simp [go_sem]
  have k1 : W.cell? ⟨w.heap.size, 1, none⟩ = some (.slice A' n' c') := by rw [← hW]; simp [go_sem]
  have r0 : W.cell? ⟨w.heap.size + 1, 0, none⟩ = some (.slice none 0 0) := by rw [← hW]; simp [go_sem]
  have r1 : W.cell? ⟨w.heap.size + 1, 1, none⟩ = some (.slice none 0 0) := by rw [← hW]; simp [go_sem]
  have z0 : W.frozen? ⟨w.heap.size + 1, 0, none⟩ = false := by rw [← hW]; simp [go_sem]
  have z1 : W.frozen? ⟨w.heap.size + 1, 1, none⟩ = false := by rw [← hW]; simp [go_sem]
  have hsz : W.heap.size = w.heap.size + 2 := by rw [← hW]; simp
  have hbW : Below w.heap.size w W := by rw [← hW]; exact ((Below.refl _ _).alloc (Nat.le_refl _) _).alloc (by simp) _
  have H := Lib.hid (h.keep hbW hbW.size)
  have H' := Lib.hid (h'.keep hbW hbW.size)
  have HP := Lib.hid (hp.keep hbW hbW.size)
  have HB := Lib.hid hbW
  have HZ := Lib.hid hsz
  have HS := Lib.hid hs
  have HR := Lib.hid (And.intro k0 (And.intro k1 (And.intro r0 (And.intro r1 (And.intro z0 z1)))))
  have hmx : m ≤ 9223372036854775807 := hp.bd
  clear h h' hp hbW hsz r0 r1 z0 z1 hs
  rcases hx with ⟨hm, rfl⟩ | hx
  · have g0 : decide (4096 < (m : Int)) = true := by simp; omega
    have HM := Lib.hid hm
    clear hm
    go_enter Try.func14, Try.ntmps14
    go_wp2_with fail
    clear hW
    refine (rframe23_limit B m d W HM.out).mono ?_; rintro e w1 ⟨rfl, rfl⟩
    go_wp2_with fail
    refine (rcopy23 A A' n c n' c' l l' W H.out H'.out (by have := HS.out; omega)).mono ?_; rintro e w2 ⟨v, v', rfl, ho, ho', hb2, _⟩
    obtain ⟨A1, c1, rfl, _⟩ := ho.nums H.out.wf
    obtain ⟨A2, c2, rfl, _⟩ := ho'.nums H'.out.wf
    have q2 := below_cell hb2 HR.out.2.2.1
    have q3 := below_cell hb2 HR.out.2.2.2.1
    have q4 := below_frozen hb2 HR.out.2.2.1 HR.out.2.2.2.2.1
    have q5 := below_frozen hb2 HR.out.2.2.2.1 HR.out.2.2.2.2.2
    go_wp2
    exact bodyPost_ret (v := .tuple #[.agg #[.slice A1 l.length c1, .slice A2 l'.length c2], .int .i64 1]) (by simp [results, Try.results14, go_sem, *]) rfl
      ⟨_, _, rfl, ((ho.setCell (by rw [HZ.out]; simp) _).setCell (by rw [HZ.out]; simp) _).base_le HB.out.size, ((ho'.setCell (by rw [HZ.out]; simp) _).setCell (by rw [HZ.out]; simp) _).base_le HB.out.size, ((HB.out.trans (hb2.mono HB.out.size)).setCell (by simp) _).setCell (by simp) _⟩
  · have hm4 : m ≤ 4096 := by rcases hx with ⟨h, _⟩ | ⟨h, _⟩ <;> exact h
    have HM := Lib.hid hm4
    have HX := Lib.hid hx
    have b1 : (n : Int) + (n' : Int) ≤ 1000000 := by have := HS.out; omega
    have b2 : (m : Int) ≤ 4096 := by have := HM.out; omega
    obtain ⟨k, hk⟩ : ∃ k, (Jn.read l).2 = k := ⟨_, rfl⟩
    rw [hk] at HX
    have HK := Lib.hid hk
    clear hx hm4 hk
    go_enter Try.func14, Try.ntmps14
    go_wp2_with fail
    clear hW
    refine (rframe23 B m d p W HP.out HM.out).mono ?_; rintro e w1 ⟨v1, rfl, hown, hb⟩
    obtain ⟨A1, c1, rfl, hn1⟩ := hown.nums (Jn.frame_wf HP.out.wf)
    have hfl : (Jn.frame p).length = m + 8 := by rw [Jn.frame_len, HP.out.len]
    rw [hfl]
    have HB1 := Lib.hid hb
    have k0 := below_cell hb HR.out.1
    clear hown hn1 hfl hb
    go_wp2_with fail
    refine (rread23 A n c l w1 (H.out.keep HB1.out HB1.out.size) (by have := HS.out; omega)).mono ?_; rintro e w2 ⟨v2, rfl, hrows, hb2⟩
    rw [HK.out]
    have HB2 := Lib.hid (HB1.out.trans (hb2.mono HB1.out.size))
    clear hrows hb2 k0
    have k0 := below_cell HB2.out HR.out.1
    have k1 := below_cell HB2.out HR.out.2.1
    rcases HX.out with ⟨_, hkn, rfl⟩ | ⟨_, hkn, hfull, rfl⟩
    · have g1 : ((k : Int) != (n : Int)) = true := by simp; omega
      have g1' : ((k : Int) == (n : Int)) = false := by simp; omega
      clear hkn
      go_wp2_with fail
      refine (rcopy23 A A' n c n' c' l l' w2 (H.out.keep HB2.out HB2.out.size) (H'.out.keep HB2.out HB2.out.size) (by have := HS.out; omega)).mono ?_; rintro e w3 ⟨v, v', rfl, ho, ho', hb3, _⟩
      obtain ⟨A1, c1, rfl, _⟩ := ho.nums H.out.wf
      obtain ⟨A2, c2, rfl, _⟩ := ho'.nums H'.out.wf
      have hb23 := HB2.out.trans (hb3.mono HB2.out.size)
      have q2 := below_cell hb23 HR.out.2.2.1
      have q3 := below_cell hb23 HR.out.2.2.2.1
      have q4 := below_frozen hb23 HR.out.2.2.1 HR.out.2.2.2.2.1
      have q5 := below_frozen hb23 HR.out.2.2.2.1 HR.out.2.2.2.2.2
      have HQ := Lib.hid HB2.out.size
      go_wp2
      exact bodyPost_ret (v := .tuple #[.agg #[.slice A1 l.length c1, .slice A2 l'.length c2], .int .i64 40]) (by simp [results, Try.results14, go_sem, *]) rfl
        ⟨_, _, rfl, ((ho.setCell (by have := HQ.out; have := HZ.out; simp; omega) _).setCell (by have := HQ.out; have := HZ.out; simp; omega) _).base_le (Nat.le_trans HB.out.size HQ.out), ((ho'.setCell (by have := HQ.out; have := HZ.out; simp; omega) _).setCell (by have := HQ.out; have := HZ.out; simp; omega) _).base_le (Nat.le_trans HB.out.size HQ.out), ((HB.out.trans (hb23.mono HB.out.size)).setCell (by simp) _).setCell (by simp) _⟩
    · have g1 : ((k : Int) != (n : Int)) = false := by simp [hkn]
      have g1' : ((k : Int) == (n : Int)) = true := by simp [hkn]
      have g2 : decide (262144 < (n : Int) + (n' : Int) + ((m : Int) + 8)) = true := by simp; omega
      clear hkn hfull
      go_wp2_with fail
      refine (rcopy23 A A' n c n' c' l l' w2 (H.out.keep HB2.out HB2.out.size) (H'.out.keep HB2.out HB2.out.size) (by have := HS.out; omega)).mono ?_; rintro e w3 ⟨v, v', rfl, ho, ho', hb3, _⟩
      obtain ⟨A1, c1, rfl, _⟩ := ho.nums H.out.wf
      obtain ⟨A2, c2, rfl, _⟩ := ho'.nums H'.out.wf
      have hb23 := HB2.out.trans (hb3.mono HB2.out.size)
      have q2 := below_cell hb23 HR.out.2.2.1
      have q3 := below_cell hb23 HR.out.2.2.2.1
      have q4 := below_frozen hb23 HR.out.2.2.1 HR.out.2.2.2.2.1
      have q5 := below_frozen hb23 HR.out.2.2.2.1 HR.out.2.2.2.2.2
      have HQ := Lib.hid HB2.out.size
      go_wp2
      exact bodyPost_ret (v := .tuple #[.agg #[.slice A1 l.length c1, .slice A2 l'.length c2], .int .i64 42]) (by simp [results, Try.results14, go_sem, *]) rfl
        ⟨_, _, rfl, ((ho.setCell (by have := HQ.out; have := HZ.out; simp; omega) _).setCell (by have := HQ.out; have := HZ.out; simp; omega) _).base_le (Nat.le_trans HB.out.size HQ.out), ((ho'.setCell (by have := HQ.out; have := HZ.out; simp; omega) _).setCell (by have := HQ.out; have := HZ.out; simp; omega) _).base_le (Nat.le_trans HB.out.size HQ.out), ((HB.out.trans (hb23.mono HB.out.size)).setCell (by simp) _).setCell (by simp) _⟩
end Go.Proofs.Ytjhdhnefoclccaa
