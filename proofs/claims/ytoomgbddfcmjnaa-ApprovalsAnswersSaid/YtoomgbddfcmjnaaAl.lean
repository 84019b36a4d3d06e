/- Approvals that are drawn. -/
import Derived.Test.YtoomgbddfcmjnaaAk
import Derived.Test.YtoomgbddfcmjnaaAj
namespace Go.Proofs.Ytoomgbddfcmjnaa
open Go.RowKit
theorem Ap.Ok.add {L : List Ap} (h : Ap.Ok L) (x : Ap) : Ap.Ok (Ap.add L x).1 ∧ (Ap.add L x).1.length ≤ L.length + 1 := by
  unfold Ap.add
  rw [if_neg (by simpa using Ap.chk_ok.2 h)]
  by_cases h1 : Ap.one x = 0
  · rw [if_neg (by simpa using h1)]
    rcases h2 : Ap.meets L x with _ | _
    · rw [if_neg (by decide)]
      by_cases h3 : L.length = 60
      · rw [if_pos h3]; exact ⟨h, by simp⟩
      · rw [if_neg h3]
        refine ⟨h.ins h1 h2 (by have := h.few; omega), ?_⟩
        simp only [Ap.ins, List.length_append, List.length_take, List.length_drop, List.length_cons, List.length_nil]
        omega
    · rw [if_pos rfl]; exact ⟨h, by simp⟩
  · rw [if_pos (by simpa using h1)]; exact ⟨h, by simp⟩
def GivesApD (base g : Nat) (w : World) (e : Ending) (w' : World) : Prop := ∃ v L, e = .returned v ∧ ROwn apRec w' w.heap.size v L ∧ Ap.Ok L ∧ L.length ≤ 6 ∧ Cod w' base g ∧ w.grownBy w' (some g)
theorem grown_size {w w' : World} {row : Option Nat} (h : w.grownBy w' row) : w.heap.size ≤ w'.heap.size := h.size
set_option maxHeartbeats 1600000 in
set_option maxRecDepth 100000 in
theorem approvals9 (base g : Nat) (w : World) (h : Cod w base g) : Calls Try.prog 46 #[.pointer (some ⟨g, 0, none⟩)] w (GivesApD base g w) := by
  have HC := Lib.hid h
  have HG := Lib.hid h.lt
  clear h
  go_enter Try.func46, Try.ntmps46
  go_wp2_with fail
  refine (next_any 7 (by decide) (by decide) base g w HC.out).mono ?_; rintro e w2 ⟨k, rfl, hk0, hk1, _, hc2, hg2⟩
  have hk1 := hk1 (by decide)
  obtain ⟨k, rfl⟩ := Int.eq_ofNat_of_zero_le hk0
  have HC2 := Lib.hid hc2
  have HG2 := Lib.hid hg2
  clear hc2 hg2 hk0
  go_wp2_with fail
  go_loopw [3, 4] (fun v nv wr => ∃ (s : Nat) (L : List Ap), s ≤ k ∧ nv = .int .i64 s ∧ Hid (ROwn apRec wr w.heap.size v L ∧ L.length + s ≤ k ∧ Ap.Ok L ∧ Cod wr base g ∧ w.grownBy wr (some g))) (fun _ nv _ => (intOf nv).toNat)
  case atStart => exact ⟨k, [], Nat.le_refl _, rfl, ROwn.nil _ _, by simp, Ap.nil_ok, HC2.out, HG2.out⟩
  case round =>
    rename World => Y
    obtain ⟨s, L, hs, rfl, HI⟩ := hrel
    rcases Nat.eq_zero_or_pos s with h0 | h0
    · subst h0
      go_wp2_with fail
      go_ret
      exact ⟨_, L, rfl, HI.out.1, HI.out.2.2.1, by have := HI.out.2.1; omega, HI.out.2.2.2.1, HI.out.2.2.2.2⟩
    · have g0 : decide ((0 : Int) < (s : Int)) = true := decide_eq_true (by omega)
      go_wp2_with fail
      refine (next_any 30 (by decide) (by decide) base g Y HI.out.2.2.2.1).mono ?_; rintro e w3 ⟨f, rfl, hf0, hf1, _, hc3, hg3⟩
      have hf1 := hf1 (by decide)
      have HO3 := Lib.hid (HI.out.1.cod HI.out.2.2.2.1 hg3 (by decide))
      have HC3 := Lib.hid hc3
      have HG3 := Lib.hid (HI.out.2.2.2.2.trans hg3)
      have HL := Lib.hid (And.intro HI.out.2.1 HI.out.2.2.1)
      clear hc3 hg3 HI
      go_wp2_with fail
      refine (next_any 3 (by decide) (by decide) base g w3 HC3.out).mono ?_; rintro e w4 ⟨d, rfl, hd0, hd1, _, hc4, hg4⟩
      have hd1 := hd1 (by decide)
      obtain ⟨d, rfl⟩ := Int.eq_ofNat_of_zero_le hd0
      have hd : d < 10 := by omega
      have HO4 := Lib.hid (HO3.out.cod HC3.out hg4 (by decide))
      have HC4 := Lib.hid hc4
      have HG4 := Lib.hid (HG3.out.trans hg4)
      clear hc4 hg4 HO3 HC3 HG3 hd0 hd1
      go_wp2_with fail
      refine (decimal24 d hd w4).mono ?_; rintro e w5 ⟨sp, rfl, hsp, hb5⟩
      have hsz : sp.size = 1 := by rw [hsp]; rfl
      have HO5 := Lib.hid (HO4.out.below hb5)
      have HC5 := Lib.hid (HC4.out.below hb5)
      have HG5 := Lib.hid (HG4.out.trans (grownBy_of_below hb5 _))
      clear hb5 HO4 HC4 HG4 hsp
      go_wp2_with fail
      refine (name9 base g w5 HC5.out).mono ?_; rintro e w6 ⟨sr, rfl, hc6, hg6⟩
      have HO6 := Lib.hid (HO5.out.cod HC5.out hg6 (by decide))
      have HC6 := Lib.hid hc6
      have HG6 := Lib.hid (HG5.out.trans hg6)
      clear hc6 hg6 HO5 HC5 HG5
      go_wp2_with fail
      refine (rangeD 1 20 (by decide) (by decide) (by decide) base g w6 HC6.out).mono ?_; rintro e w7 ⟨x, rfl, hx0, hx1, hc7, hg7⟩
      have HO7 := Lib.hid (HO6.out.cod HC6.out hg7 (by decide))
      have HC7 := Lib.hid hc7
      have HG7 := Lib.hid (HG6.out.trans hg7)
      clear hc7 hg7 HO6 HC6 HG6
      obtain ⟨A, n, c, rfl, hn, hr⟩ := HO7.out.row
      have HR := Lib.hid hr
      have HN := Lib.hid hn
      clear hr hn
      go_wp2_with fail
      refine (radd39 A n c L _ sr f (f + x) w7 HR.out (by have := HN.out; have := HL.out.1; omega)).mono ?_; rintro e w8 ⟨v8, rfl, ho8, hb8⟩
      have HO8 := Lib.hid (ho8.base_le (Nat.le_trans (grown_size HG7.out) (Nat.le_refl _)))
      have HC8 := Lib.hid (HC7.out.below hb8)
      have HG8 := Lib.hid (HG7.out.trans (grownBy_of_below hb8 _))
      clear hb8 ho8 HO7 HC7 HG7 HR
      obtain ⟨L', hL'⟩ : ∃ L', Ap.add L ⟨⟨#[112]⟩ ++ sp, sr, f, f + x⟩ = L' := ⟨_, rfl⟩
      have HL' := Lib.hid (show Ap.Ok L'.1 ∧ L'.1.length ≤ L.length + 1 by rw [← hL']; exact HL.out.2.add _)
      rw [hL'] at HO8
      rw [hL']
      clear hL'
      go_wp2_with fail
      go_roundw
      case rel => exact ⟨s - 1, L'.1, by omega, by go_num, HO8.out, by have := HL'.out.2; have := HL.out.1; omega, HL'.out.1, HC8.out, HG8.out⟩
      case measure => simp [intOf]; omega
end Go.Proofs.Ytoomgbddfcmjnaa
