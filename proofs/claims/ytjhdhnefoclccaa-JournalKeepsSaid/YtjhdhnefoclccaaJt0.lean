/- Journals: a file that is cut off at any byte. -/
import Derived.Test.YtjhdhnefoclccaaJg
namespace Go.Proofs.Ytjhdhnefoclccaa
open Go.RowKit
theorem Jn.read_cut {p : List Int} (h : p.length ≤ 4096) {k : Nat} (hk : k < p.length + 8) : Jn.read ((Jn.frame p).take k) = ([], 0) := by
  apply Jn.read_none
  have hl : ((Jn.frame p).take k).length = k := by rw [List.length_take, Jn.frame_len]; omega
  unfold Jn.first
  by_cases h8 : k < 8
  · rw [if_pos (by omega)]
  · have hv : Jn.val ((Jn.frame p).take k) = p.length := by
      have e : (Jn.frame p).take k = Jn.four p.length ++ (p ++ Jn.four (Jn.chk (Jn.four p.length ++ p))).take (k - 4) := by
        unfold Jn.frame
        have h4 : (Jn.four p.length).length = 4 := rfl
        rw [List.append_assoc, List.take_append, h4, List.take_of_length_le (by omega)]
      rw [e]
      exact Jn.val_four _ (by omega) (by omega) _
    rw [if_neg (by omega), hv, if_pos (by right; omega)]
theorem Jn.cut_one {l p : List Int} (hl : l.length ≤ 4096) {K : Nat} (h : K < l.length + 8) : Jn.read ((Jn.frame l ++ Jn.frame p).take K) = ([], 0) := by
  rw [List.take_append_of_le_length (by rw [Jn.frame_len]; omega)]
  exact Jn.read_cut hl h
theorem Jn.cut_two {l p : List Int} (hl : l.length ≤ 4096) (hp : p.length ≤ 4096) {K : Nat} (h : l.length + 8 ≤ K) (h' : K < l.length + 8 + (p.length + 8)) : Jn.read ((Jn.frame l ++ Jn.frame p).take K) = ([l], l.length + 8) := by
  rw [List.take_append, List.take_of_length_le (by rw [Jn.frame_len]; omega), Jn.read_frame hl, Jn.frame_len, Jn.read_cut hp (by omega)]
  rfl
theorem Jn.cut_all {l p : List Int} (hl : l.length ≤ 4096) (hp : p.length ≤ 4096) {K : Nat} (h : l.length + 8 + (p.length + 8) ≤ K) : Jn.read ((Jn.frame l ++ Jn.frame p).take K) = ([l, p], l.length + 8 + (p.length + 8)) := by
  rw [List.take_of_length_le (by rw [List.length_append, Jn.frame_len, Jn.frame_len]; omega), Jn.read_frame hl]
  have := Jn.read_frame hp []
  rw [List.append_nil] at this
  rw [this]
  rfl
def Jn.code (l : List Int) (n : Nat) : Int := if (Jn.read l).2 = n then 0 else 40
theorem append_code (A B : Option Addr) (n c m d : Nat) (l p : List Int) (w : World) (h : Nums w .u8 w.heap.size A n c l) (hp : Nums w .u8 w.heap.size B m d p) (hs : n + (m + 8) ≤ 262144) (hm : m ≤ 4096) :
    Calls Try.prog 13 #[.agg #[.slice A n c, .slice none 0 0], .slice B m d] w fun e w' => ∃ A2 n2 c2, e = .returned (.tuple #[.agg #[.slice A n c, .slice A2 n2 c2], .int .i64 (Jn.code l n)]) ∧ Below w.heap.size w w' := by
  by_cases hr : (Jn.read l).2 = n
  · refine (append_ok A none B n c 0 0 m d l [] p w h (Nums.nil _ _ _) hp hr (by omega) hm).mono ?_
    rintro e w1 ⟨v, rfl, hown, hb⟩
    obtain ⟨A2, n2, c2, rfl, _, _⟩ := hown.numsN (by rw [List.nil_append]; exact Jn.frame_wf hp.wf)
    exact ⟨A2, n2, c2, by rw [Jn.code, if_pos hr], hb⟩
  · refine (append23 A none B n c 0 0 m d l [] p w h (Nums.nil _ _ _) hp (by omega) hm (GivesError (.slice A n c) (.slice none 0 0) 40 w) (fun _ => rfl) (fun hx => absurd hx hr) (fun hx => absurd hx hr)).mono ?_
    rintro e w1 ⟨rfl, hb⟩
    exact ⟨none, 0, 0, by rw [Jn.code, if_neg hr], hb⟩
/-- the byte at which a file is cut -/
theorem Jn.cutAt (a : Int) (N : Nat) (lo : 0 ≤ a) (hi : a ≤ 65535) (hN : N ≤ 1000) :
    ∃ K : Nat, a.tmod ((N : Int) + 1) = K ∧ K ≤ N ∧ IntKind.i64.wrap ((N : Int) + 1) = (N : Int) + 1 ∧ IntKind.i64.wrap a = a ∧ IntKind.i64.wrap (K : Int) = K := by
  have h1 := Int.tmod_nonneg ((N : Int) + 1) lo
  have h2 := Int.tmod_lt_of_pos a (show (0 : Int) < (N : Int) + 1 by omega)
  obtain ⟨K, hK⟩ : ∃ K : Nat, a.tmod ((N : Int) + 1) = K := ⟨_, (Int.toNat_of_nonneg h1).symm⟩
  rw [hK] at h1 h2
  refine ⟨K, hK, by omega, ?_, ?_, ?_⟩ <;> simp [IntKind.wrap, IntKind.bits, IntKind.signed] <;> omega
end Go.Proofs.Ytjhdhnefoclccaa
