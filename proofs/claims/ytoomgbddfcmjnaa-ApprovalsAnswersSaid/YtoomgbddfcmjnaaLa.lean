/- Codes: names, and trees of parents. -/
import Derived.Test.YtoomgbddfcmjnaaGi
import Derived.Test.YtoomgbddfcmjnaaMat
import Derived.Test.YtoomgbddfcmjnaaAft
import Derived.BigGuardPart
import Derived.Deep.QuietTactic
import Derived.BigQuiet
import Derived.Lib.Hide
namespace Go.Proofs.Ytoomgbddfcmjnaa
open Go.RowKit
def Cd.letter (b : Int) : Bool := decide (97 ≤ b) && decide (b ≤ 122)
def Cd.okb (b : Int) : Bool := Cd.letter b || b == 95 || (decide (48 ≤ b) && decide (b ≤ 57))
/-- the words that have a meaning -/
def Cd.words : List (List UInt8) := [[97, 108, 108], [97, 110, 100], [101, 118, 101, 110, 116], [102, 114, 111, 109], [109, 105, 115, 115, 105, 110, 103], [110, 111, 116], [111, 110], [111, 114], [116, 111], [117, 110, 100, 101, 114], [119, 104, 101, 114, 101]]
def Cd.str (s : ByteArray) : List Int := s.data.toList.map fun b => (b.toNat : Int)
/-- is it a name? -/
def Cd.name (s : ByteArray) : Bool := decide (1 ≤ s.size) && decide (s.size ≤ 16) && Cd.letter ((Cd.str s).getD 0 0) && !(Cd.words.contains s.toList) && (Cd.str s).all Cd.okb
/-- a code by value -/
structure Cd.Co where
  name : ByteArray
  par : Int
/-- the level of a code of a tree of parents -/
def Cd.levF (P : List Int) : Nat → Nat → Nat
  | 0, _ => 0
  | f + 1, k => if P.getD k (-1) < 0 then 0 else Cd.levF P f (P.getD k (-1)).toNat + 1
def Cd.lev (P : List Int) (k : Nat) : Nat := Cd.levF P k k
/-- right parents: the first has none, each other one stands before its code -/
structure Cd.Tree (P : List Int) : Prop where
  pos : 1 ≤ P.length
  few : P.length ≤ 60
  root : P.getD 0 0 = -1
  before : ∀ i, 1 ≤ i → i < P.length → 0 ≤ P.getD i (-1) ∧ P.getD i (-1) < i
theorem Cd.levF_fuel {P : List Int} (h : Cd.Tree P) : ∀ f k, k ≤ f → k < P.length → Cd.levF P f k = Cd.levF P k k := by
  intro f
  induction f using Nat.strongRecOn with
  | ind f ih =>
    intro k hk hl
    rcases Nat.eq_zero_or_pos k with rfl | hpos
    · have hr : P.getD 0 (-1) < 0 := by
        have := h.root
        simp only [List.getD_eq_getElem?_getD, List.getElem?_eq_getElem hl, Option.getD_some] at this ⊢
        omega
      match f with
      | 0 => rfl
      | f + 1 => simp only [Cd.levF]; rw [if_pos hr]
    · have hb := h.before k hpos hl
      obtain ⟨f, rfl⟩ : ∃ q, f = q + 1 := ⟨f - 1, by omega⟩
      obtain ⟨k, rfl⟩ : ∃ q, k = q + 1 := ⟨k - 1, by omega⟩
      simp only [Cd.levF]
      rw [if_neg (by omega), if_neg (by omega), ih f (by omega) _ (by omega) (by omega), ← ih k (by omega) _ (by omega) (by omega)]
theorem Cd.lev_root (P : List Int) : Cd.lev P 0 = 0 := rfl
theorem Cd.lev_step {P : List Int} (h : Cd.Tree P) {k : Nat} (hk : 1 ≤ k) (hl : k < P.length) : Cd.lev P k = Cd.lev P (P.getD k (-1)).toNat + 1 := by
  have hb := h.before k hk hl
  obtain ⟨j, rfl⟩ : ∃ j, k = j + 1 := ⟨k - 1, by omega⟩
  unfold Cd.lev
  rw [show Cd.levF P (j + 1) (j + 1) = if P.getD (j + 1) (-1) < 0 then 0 else Cd.levF P j (P.getD (j + 1) (-1)).toNat + 1 from rfl, if_neg (by omega), Cd.levF_fuel h j _ (by omega) (by omega)]
end Go.Proofs.Ytoomgbddfcmjnaa
