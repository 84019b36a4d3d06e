/- Rows of texts: read, made, sorted. -/
import Derived.Test.YtoomgbddfcmjnaaGr
import Derived.Sort.EncStr
namespace Go.Proofs.Ytoomgbddfcmjnaa
open Go.RowKit Go.Sort Go.Lib
abbrev Tx := List UInt8
def txRec : Rec Tx := ⟨1, [], 9, fun s => [.string ⟨s.toArray⟩], fun _ => rfl, by decide, fun x u hu => by
  simp only [List.mem_cons, List.not_mem_nil, or_false] at hu
  rcases hu with rfl <;> rfl⟩
theorem tx_info : (Try.prog.info? txRec.ty).map (fun i => (i.zero, i.size, i.bytes)) = some (some (.string ⟨#[]⟩), txRec.k, 16) := by kernel_rfl
theorem tx_flat : ∀ L : List Tx, txRec.flat L = L.map encStr
  | [] => rfl
  | x :: L => by
    have := tx_flat L
    simp only [Rec.flat, List.flatMap_cons, List.map_cons] at this ⊢
    rw [this]; rfl
/-- what a text is, as a value -/
def txOf (s : ByteArray) : Tx := s.data.toList
theorem txOf_val (s : ByteArray) : (⟨(txOf s).toArray⟩ : ByteArray) = s := by cases s; simp [txOf]
theorem txOf_inj {s t : ByteArray} (h : txOf s = txOf t) : s = t := by rw [← txOf_val s, ← txOf_val t, h]
theorem RRow.tx {w : World} {B : Nat} {A : Option Addr} {n c : Nat} {L : List Tx} (h : RRow txRec w B A n c L) {j : Nat} (hj : j < n) :
    ∃ (ad : Addr) (s : ByteArray), A = some ad ∧ Hid (L.getD j [] = txOf s ∧ j < L.length ∧ ad.block < B) ∧ w.cell? (ad.add j) = some (.string s) := by
  obtain ⟨g, e, hlt, hc⟩ := h.cells (by omega)
  have h0 := hc j hj 0 (.string ⟨(L.getD j []).toArray⟩) rfl
  have e1 : j * txRec.k + 0 = j := by show j * 1 + 0 = j; omega
  rw [e1] at h0
  exact ⟨g, ⟨(L.getD j []).toArray⟩, e, ⟨by simp [txOf], by rw [h.len]; exact hj, hlt⟩, h0⟩
end Go.Proofs.Ytoomgbddfcmjnaa
