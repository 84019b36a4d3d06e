/- Journals: the reference's Recover. -/
import Derived.Test.YtjhdhnefoclccaaK5
namespace Go.Proofs.Ytjhdhnefoclccaa
open Go.RowKit
set_option maxRecDepth 100000 in
set_option maxHeartbeats 800000 in
theorem rrecover23 (A A' : Option Addr) (n c n' c' : Nat) (l : List Int) (w : World) (h : Nums w .u8 w.heap.size A n c l) (hs : n ≤ 1000000) :
    Calls Try.prog 16 #[.agg #[.slice A n c, .slice A' n' c']] w (GivesRecover (l.take (Jn.read l).2) (Jn.read l).1 w) := by
  obtain ⟨W, hW⟩ : ∃ W : World, (w.alloc (.cells #[.slice A n c, .slice A' n' c'] 29)).alloc (.cells #[.slice none 0 0, .slice none 0 0] 29) = W := ⟨_, rfl⟩
  have k0 : W.cell? ⟨w.heap.size, 0, none⟩ = some (.slice A n c) := by rw [← hW]; simp [go_sem]
  have r0 : W.cell? ⟨w.heap.size + 1, 0, none⟩ = some (.slice none 0 0) := by rw [← hW]; simp [go_sem]
  have r1 : W.cell? ⟨w.heap.size + 1, 1, none⟩ = some (.slice none 0 0) := by rw [← hW]; simp [go_sem]
  have z0 : W.frozen? ⟨w.heap.size + 1, 0, none⟩ = false := by rw [← hW]; simp [go_sem]
  have z1 : W.frozen? ⟨w.heap.size + 1, 1, none⟩ = false := by rw [← hW]; simp [go_sem]
  have hsz : W.heap.size = w.heap.size + 2 := by rw [← hW]; simp
  have hbW : Below w.heap.size w W := by rw [← hW]; exact ((Below.refl _ _).alloc (Nat.le_refl _) _).alloc (by simp) _
  have H := Lib.hid (h.keep hbW hbW.size)
  have HB := Lib.hid hbW
  have HZ := Lib.hid hsz
  have HS := Lib.hid hs
  have HK := Lib.hid k0
  have HR := Lib.hid (And.intro r0 (And.intro r1 (And.intro z0 z1)))
  have hle := (Jn.read_le (l.length + 1) l).1
  have hlen := h.len
  have hcap := h.cap
  have hmx : c ≤ 9223372036854775807 := by have := h.max; unfold maxLen at this; exact this
  have hr2 : (Jn.read l).2 ≤ n := by rw [← hlen]; exact hle
  obtain ⟨k, hk⟩ : ∃ k, (Jn.read l).2 = k := ⟨_, rfl⟩
  rw [hk] at hr2 ⊢
  have HKK := Lib.hid hk
  have hkc : (k : Int) ≤ c := by omega
  have hkn : k ≤ n := hr2
  clear h hbW hsz r0 r1 z0 z1 hs hle hlen k0 hk hr2
  go_enter Try.func16, Try.ntmps16
  have k0 := HK.out
  go_wp2_with fail
  clear hW
  refine (rread23 A n c l W H.out HS.out).mono ?_; rintro e w1 ⟨v1, rfl, hrows, hb⟩
  rw [HKK.out]
  have HO := Lib.hid hrows
  have HB1 := Lib.hid hb
  have p0 := below_cell hb k0
  have HN := Lib.hid ((H.out.keep hb hb.size).pre hkn)
  obtain ⟨A1, c1, rfl⟩ := hrows.form
  clear hrows hb
  have hlk : (l.take k).length = k := by rw [List.length_take, H.out.len]; omega
  have hbe : Below w1.heap.size w1 (w1.alloc (.cells #[] 5)) := (Below.refl _ _).alloc (Nat.le_refl _) _
  have HPE := Lib.hid (HN.out.keep hbe hbe.size)
  have HQ1 := Lib.hid (show ([] : List Int).length + k ≤ maxLen by have := HS.out; simp only [maxLen, List.length_nil]; omega)
  have HQ2 := Lib.hid (show (([] : List Int).length + k) * 1 ≤ 140737488355328 by have := HS.out; simp only [List.length_nil]; omega)
  have HQ3 := Lib.hid hbe.size
  have HGR := Lib.hid (fun (w2 : World) (h : (w1.alloc (.cells #[] 5)).grownBy w2 (Value.slice (some ⟨w1.heap.size, 0, none⟩) 0 0).ownBlock) => (Own.grow (w0 := w1) (B := w1.heap.size) (Own.empty w1 5 .u8) hbe h hbe.size (Nat.le_refl _) : Below w1.heap.size w1 w2))
  have HKB := Lib.hid (And.intro (below_cell HB1.out HR.out.1) (And.intro (below_cell HB1.out HR.out.2.1) (And.intro (below_frozen HB1.out HR.out.1 HR.out.2.2.1) (below_frozen HB1.out HR.out.2.1 HR.out.2.2.2))))
  have HLK := Lib.hid hlk
  have HS1 := Lib.hid HB1.out.size
  have p1 := below_cell hbe p0
  clear hbe
  go_wp2_with (first
    | (at_builtin; refine app_ints _ rfl (.tmp 12) (.tmp 16) _ rfl w1.heap.size 5 1 .u8 byte_info Try.underlying22 _ [] rfl (Own.empty w1 _ _) _ _ _ _ _ rfl HPE.out HQ1.out HQ2.out HQ3.out ?_; intro v2 w2 hown hgrow2; (have hb2 : Below w1.heap.size w1 w2 := HGR.out w2 hgrow2); rw [List.nil_append] at hown; obtain ⟨A2, c2, rfl, _⟩ := hown.nums HN.out.wf; rw [HLK.out] at hown; rw [HLK.out]; (have HB2 := Lib.hid (HB1.out.trans (hb2.mono HB1.out.size))); (have HO2 := Lib.hid (HO.out.below hb2)); (have HOW := Lib.hid hown); (have q2 := below_cell hb2 HKB.out.1); (have q3 := below_cell hb2 HKB.out.2.1); (have q4 := below_frozen hb2 HKB.out.1 HKB.out.2.2.1); (have q5 := below_frozen hb2 HKB.out.2.1 HKB.out.2.2.2); clear hown hgrow2 hb2)
    | fail)
  generalize (Jn.read l).1 = ls at *
  exact bodyPost_ret (v := .tuple #[.agg #[.slice A2 k c2, .slice none 0 0], .slice A1 ls.length c1]) (by simp [results, Try.results16, go_sem, *]) rfl
      ⟨_, _, rfl, ((HOW.out.setCell (by have := HB1.out.size; rw [HZ.out] at this; simp; omega) _).setCell (by have := HB1.out.size; rw [HZ.out] at this; simp; omega) _).base_le (Nat.le_trans HB.out.size HB1.out.size),
        ((HO2.out.setCell (by rw [HZ.out]; simp) _).setCell (by rw [HZ.out]; simp) _).base_le HB.out.size,
        ((HB.out.trans (HB2.out.mono HB.out.size)).setCell (by simp) _).setCell (by simp) _⟩
end Go.Proofs.Ytjhdhnefoclccaa
