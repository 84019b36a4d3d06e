/- Journals: the four bytes of a number, and the check value of some bytes. -/
import Derived.Test.YtjhdhnefoclccaaProg
import Derived.Test.YtjhdhnefoclccaaBits
import Derived.Test.YtjhdhnefoclccaaGen
import Derived.Test.YtjhdhnefoclccaaOwn
import Derived.Test.YtjhdhnefoclccaaAft
namespace Go.Proofs.Ytjhdhnefoclccaa
open Go.RowKit
theorem addr_add (g j : Nat) : (⟨g, 0, none⟩ : Addr).add j = ⟨g, j, none⟩ := by unfold Addr.add; by_cases h : j = 0 <;> simp [h]
/-- A row that stands written out in a block of its own. -/
theorem Nums.lit {w : World} {k : IntKind} {B g : Nat} (l : List Int) (hl : l.length ≤ 1000) (hg : g < B) (hc : ∀ j, j < l.length → w.cell? ⟨g, j, none⟩ = some (.int k (l.getD j 0))) (hw : ∀ x ∈ l, (Lit.int k x).wf = true) :
    Nums w k B (some ⟨g, 0, none⟩) l.length l.length l :=
  ⟨rfl, Nat.le_refl _, by simp only [maxLen]; omega, fun _ => ⟨_, rfl, hg, fun j hj => by rw [addr_add]; exact hc j hj⟩, hw, fun h => by cases h⟩
/-- s[k:] -/
theorem Nums.cut {w : World} {kd : IntKind} {B : Nat} {A : Option Addr} {n c : Nat} {l : List Int} (h : Nums w kd B A n c l) {k : Nat} (hk : k ≤ n) :
    Nums w kd B (if c = k then A else A.map (·.add k)) (n - k) (c - k) (l.drop k) := by
  have hcap := h.cap
  refine ⟨by rw [List.length_drop, h.len], by omega, by have := h.max; omega, fun hn => ?_, fun x hx => h.wf x (List.mem_of_mem_drop hx), fun hz => ?_⟩
  · obtain ⟨ad, rfl, hb, hc⟩ := h.cells (by omega)
    rw [if_neg (by omega)]
    refine ⟨ad.add k, rfl, by rw [add_block]; exact hb, fun j hj => ?_⟩
    rw [add_add, hc (k + j) (by omega)]
    congr 2
    simp [List.getD, List.getElem?_drop]
  · by_cases he : c = k
    · omega
    · rw [if_neg he] at hz
      cases A with
      | none => have := h.zero rfl; omega
      | some a => cases hz
/-- s[:k] -/
theorem Nums.pre {w : World} {kd : IntKind} {B : Nat} {A : Option Addr} {n c : Nat} {l : List Int} (h : Nums w kd B A n c l) {k : Nat} (hk : k ≤ n) :
    Nums w kd B A k c (l.take k) := by
  have hcap := h.cap
  refine ⟨by rw [List.length_take, h.len]; omega, by omega, h.max, fun hn => ?_, fun x hx => h.wf x (List.mem_of_mem_take hx), h.zero⟩
  obtain ⟨ad, rfl, hb, hc⟩ := h.cells (by omega)
  refine ⟨ad, rfl, hb, fun j hj => ?_⟩
  rw [hc j (by omega)]
  congr 2
  simp [List.getD, hj]
namespace Jn
/-- the number of four bytes -/
def val (l : List Int) : Int := ((l.getD 0 0 * 256 + l.getD 1 0) * 256 + l.getD 2 0) * 256 + l.getD 3 0
def four (n : Int) : List Int := [n / 16777216 % 256, n / 65536 % 256, n / 256 % 256, n % 256]
/-- the check value of the first bytes, and of all -/
def chkN (l : List Int) : Nat → Int
  | 0 => 0
  | n + 1 => (chkN l n + ((n : Int) + 1) * l.getD n 0) % 65521
def chk (l : List Int) : Int := chkN l l.length
theorem chkN_bd (l : List Int) (n : Nat) : 0 ≤ chkN l n ∧ chkN l n < 65521 := by
  cases n with
  | zero => simp [chkN]
  | succ n => unfold chkN; omega
theorem chk_bd (l : List Int) : 0 ≤ chk l ∧ chk l < 65521 := chkN_bd l _
theorem val_four (n : Int) (h0 : 0 ≤ n) (h1 : n < 4294967296) (r : List Int) : val (four n ++ r) = n := by
  simp [val, four]; omega
theorem four_wf (n : Int) : ∀ x ∈ four n, (Lit.int .u8 x).wf = true := by
  intro x hx
  have : 0 ≤ x ∧ x ≤ 255 := by simp [four] at hx; omega
  simp [Lit.wf, IntKind.min, IntKind.max, IntKind.signed, IntKind.bits]; omega
theorem or_add (a b i : Nat) (ha : a % 2 ^ i = 0) (hb : b < 2 ^ i) (h1 : a < 9223372036854775808) (h2 : b < 9223372036854775808) : bits .or .i64 (a : Int) (b : Int) = ((a + b : Nat) : Int) := by
  rw [Bw.i64_or_nat a b h1 h2, nat_join i a b ha hb]
theorem val_bits (a b c d : Nat) (ha : a < 256) (hb : b < 256) (hc : c < 256) (hd : d < 256) :
    bits .or .i64 (bits .or .i64 (bits .or .i64 ((a : Int) * 16777216) ((b : Int) * 65536)) ((c : Int) * 256)) (d : Int) = (((a : Int) * 256 + b) * 256 + c) * 256 + d := by
  have e1 := or_add (a * 16777216) (b * 65536) 24 (by omega) (by omega) (by omega) (by omega)
  have e2 := or_add (a * 16777216 + b * 65536) (c * 256) 16 (by omega) (by omega) (by omega) (by omega)
  have e3 := or_add (a * 16777216 + b * 65536 + c * 256) d 8 (by omega) (by omega) (by omega) (by omega)
  have k1 : ((a : Int) * 16777216) = ((a * 16777216 : Nat) : Int) := by omega
  have k2 : ((b : Int) * 65536) = ((b * 65536 : Nat) : Int) := by omega
  have k3 : ((c : Int) * 256) = ((c * 256 : Nat) : Int) := by omega
  rw [k1, k2, k3, e1, e2, e3]
  omega
end Jn
/-- The four bytes of a number, in a row of the function's own. -/
def GivesBytes (l : List Int) (w : World) (e : Ending) (w' : World) : Prop := ∃ v, e = .returned v ∧ Own w' w.heap.size 5 .u8 v l ∧ Below w.heap.size w w'
theorem number23 (n : Int) (h0 : 0 ≤ n) (h1 : n < 4294967296) (w : World) :
    Calls Try.prog 38 #[.int .i64 n] w (GivesBytes (Jn.four n) w) := by
  go_enter Try.func38, Try.ntmps38
  go_wp2
  go_ret
  refine ⟨_, rfl, ⟨rfl, .inr ⟨w.heap.size, 4, _, rfl, Nat.le_refl _, heap_alloc_new w _, Nat.le_refl _, by simp [maxLen], rfl, ?_⟩⟩, (Below.refl _ _).alloc (Nat.le_refl _) _⟩
  have : n / 16777216 = n / 16777216 % 256 := by omega
  simp [Jn.four]
  exact this
theorem value23 (A : Option Addr) (n c : Nat) (l : List Int) (w : World) (h : Nums w .u8 w.heap.size A n c l) (hn : 4 ≤ n) :
    Calls Try.prog 35 #[.slice A n c] w fun e w' => e = .returned (.int .i64 (Jn.val l)) ∧ ∃ m, w' = w.drewN m := by
  have hm : n ≤ 9223372036854775807 := by have := h.cap; have := h.max; unfold maxLen at this; omega
  obtain ⟨ad, x0, rfl, _, HX0, c0, b0⟩ := h.val (j := 0) (by omega)
  obtain ⟨ad', x1, e1, _, HX1, c1, b1⟩ := h.val (j := 1) (by omega)
  obtain rfl : ad = ad' := by injection e1
  obtain ⟨ad', x2, e2, _, HX2, c2, b2⟩ := h.val (j := 2) (by omega)
  obtain rfl : ad = ad' := by injection e2
  obtain ⟨ad', x3, e3, _, HX3, c3, b3⟩ := h.val (j := 3) (by omega)
  obtain rfl : ad = ad' := by injection e3
  rw [show ad.add 0 = ad from by simp [Addr.add]] at c0
  rw [show ad.add 1 = ⟨ad.block, ad.off + 1, none⟩ from by simp [Addr.add]] at c1
  rw [show ad.add 2 = ⟨ad.block, ad.off + 2, none⟩ from by simp [Addr.add]] at c2
  rw [show ad.add 3 = ⟨ad.block, ad.off + 3, none⟩ from by simp [Addr.add]] at c3
  have b0 := bounds_u8 b0
  have b1 := bounds_u8 b1
  have b2 := bounds_u8 b2
  have b3 := bounds_u8 b3
  have hv : Hid (Jn.val l = ((x0 * 256 + x1) * 256 + x2) * 256 + x3) := by unfold Jn.val; rw [HX0.out.1, HX1.out.1, HX2.out.1, HX3.out.1]; exact Lib.hid rfl
  obtain ⟨x0, rfl⟩ := Int.eq_ofNat_of_zero_le b0.1
  obtain ⟨x1, rfl⟩ := Int.eq_ofNat_of_zero_le b1.1
  obtain ⟨x2, rfl⟩ := Int.eq_ofNat_of_zero_le b2.1
  obtain ⟨x3, rfl⟩ := Int.eq_ofNat_of_zero_le b3.1
  have hn0 : (0 : Int) < n := by omega
  have hn1 : (1 : Int) < n := by omega
  have hn2 : (2 : Int) < n := by omega
  have hn3 : (3 : Int) < n := by omega
  clear h e1 e2 e3 HX0 HX1 HX2 HX3
  go_enter Try.func35, Try.ntmps35
  go_wp2_with fail
  go_quiet (fail)
  go_wp2
  go_ret
  exact ⟨ret_int (by rw [hv.out]; exact Jn.val_bits x0 x1 x2 x3 (by omega) (by omega) (by omega) (by omega)), _, rfl⟩
end Go.Proofs.Ytjhdhnefoclccaa
