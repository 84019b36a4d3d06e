/- Rota: those on duty who are not the researcher. -/
import Derived.Test.YtoomgbddfcmjnaaTh
namespace Go.Proofs.Ytoomgbddfcmjnaa
open Go.RowKit Go.Sort Go.Lib
set_option maxRecDepth 100000 in
theorem isWho36 (f : Nat) (x : Tx) (who : ByteArray) (w : World) (h : w.cell? ⟨f, 0, none⟩ = some (.string who)) :
    Calls Try.prog 70 #[encStr x, .pointer (some ⟨f, 0, none⟩)] w fun e w' => e = .returned (.bool (decide (x = txOf who))) ∧ ∃ q, w' = w.drewN q := by
  have HR := Lib.hid (show (x == who.toList) = decide (x = txOf who) by rw [tx_list, Bool.eq_iff_iff]; simp)
  go_enter Try.func70, Try.ntmps70
  go_wp2_with fail
  go_ret
  exact ⟨retb HR.out, 0, rfl⟩
/-- what a row of texts of the function's own is good for -/
theorem ROwn.rowT {w : World} {base : Nat} {v : Value} {L : List Tx} (h : ROwn txRec w base v L) :
    (v = .slice none 0 0 ∧ L = []) ∨ ∃ g cap, v = .slice (some ⟨g, 0, none⟩) L.length cap ∧ base ≤ g ∧ g < w.heap.size ∧ L.length ≤ cap ∧ cap ≤ maxLen ∧ Holds encStr w g 0 L.toArray ∧
      ∀ (ts : List Tx) (q : Nat) (os : Array Obj), ts.length = L.length → ROwn txRec (Go.Sort.grow (putRow encStr (Sort.ahead w q) g 0 ts.toArray) os) base (.slice (some ⟨g, 0, none⟩) ts.length cap) ts := by
  have h0 := h
  unfold ROwn at h
  rw [tx_flat] at h
  obtain ⟨hl, ⟨rfl, hn⟩ | ⟨g, cap, cur, rfl, hg, hh, hle, hmax, hsz, htake⟩⟩ := h
  · exact .inl ⟨rfl, List.eq_nil_of_length_eq_zero hn⟩
  · have hsz' : cur.size = cap * 1 := hsz
    refine .inr ⟨g, cap, rfl, hg, (Array.getElem?_eq_some_iff.1 hh).1, hle, hmax, holds_of_block hh (by simpa [txRec] using htake), fun ts q os ht => ?_⟩
    have := ownsRow_sorted (n := q) (os := os) ht hg hh hle hmax hsz'
    unfold ROwn
    rw [tx_flat]
    rw [← ht] at this
    exact this
theorem ROwn.cutT {w : World} {base g n cap m : Nat} {L : List Tx} (h : ROwn txRec w base (.slice (some ⟨g, 0, none⟩) n cap) L) (hm : m ≤ n) : ROwn txRec w base (.slice (some ⟨g, 0, none⟩) m cap) (L.take m) := by
  unfold ROwn at *
  rw [tx_flat] at *
  obtain ⟨hl, ⟨hv, hn⟩ | ⟨g', cap', cur, hv, hg, hh, hle, hmax, hsz, htake⟩⟩ := h
  · cases hv
  · cases hv
    have e1 : (L.take m).length = m := by rw [List.length_take]; omega
    refine ⟨by simp [txRec], .inr ⟨g, cap, cur, by rw [e1], hg, hh, by rw [e1]; omega, hmax, hsz, ?_⟩⟩
    have htake' : cur.toList.take (L.length * 1) = L.map encStr := htake
    show cur.toList.take ((L.take m).length * 1) = (L.take m).map encStr
    rw [e1, List.map_take, ← htake', List.take_take]
    congr 1
    rw [Nat.mul_one, Nat.mul_one]; omega
theorem below_putRowT {w : World} {B g q : Nat} {os : Array Obj} (d : Array Tx) (hg : B ≤ g) (hB : B ≤ w.heap.size) : Below B w (grow (putRow encStr (Sort.ahead w q) g 0 d) os) :=
  (Below.refl B w).grown (grownBy_sorted d) hB (fun k hk => by injection hk with hk; omega)
theorem putRow_growT (w : World) (q g : Nat) (d : Array Tx) : putRow encStr (Sort.ahead w q) g 0 d = grow (putRow encStr (Sort.ahead w q) g 0 d) #[] := by simp
set_option maxHeartbeats 1600000 in
set_option maxRecDepth 100000 in
theorem drop36 (base f : Nat) (who : ByteArray) (v : Value) (L : List Tx) (w : World) (h : ROwn txRec w base v L) (hb : base ≤ w.heap.size) (hn : L.length ≤ 1000000) (hf : f < base) (hc : w.cell? ⟨f, 0, none⟩ = some (.string who)) :
    Calls Try.prog 69 #[v, .func (.func 70) #[] #[.pointer (some ⟨f, 0, none⟩)]] w fun e w' => ∃ v', e = .returned v' ∧ ROwn txRec w' base v' (L.filter fun x => !decide (x = txOf who)) ∧ Below base w w' := by
  have hfs : f < w.heap.size := by omega
  rcases h.rowT with ⟨rfl, rfl⟩ | ⟨g, cap, rfl, hg, hgs, hle, hmax, hH, hown⟩
  · go_enter Try.func69, Try.ntmps69
    go_wp2_with fail
    refine (Try.slices_IndexFunc_empty (α := Tx) none 0 _ w).mono ?_; rintro e w1 ⟨rfl, rfl⟩
    go_wp2_with fail
    go_ret
    exact ⟨_, rfl, ROwn.nil _ _, Below.refl _ _⟩
  · have hne : f ≠ g := by omega
    have hc := Try.slices_DeleteFunc encStr (fun _ => rfl) (fun x => decide (x = txOf who)) 70 #[.pointer (some ⟨f, 0, none⟩)] (enters_of Try.func70 (by kernel_rfl) rfl) [] Try.zeroValue9 g 0 cap L.toArray w
      (fun W x hW => isWho36 f x who W ((hW.cell hfs).trans hc))
      (fun n os dk x hdk => isWho36 f x who _ (by
        unfold sortWorld
        rw [cell?_grow _ _ _ (by show f < (putRow _ _ _ _ _).heap.size; rw [size_putRow]; exact hfs), cell?_putRow_other _ _ g 0 _ _ (Or.inl (by simpa using hne))]
        exact hc))
      hH (by simp; omega) (by simpa using hle)
    have hsz : L.toArray.size = L.length := by simp
    rw [hsz] at hc
    refine hc.mono fun e w' ⟨he, q, hw⟩ => ?_
    have hcl : (L.filter fun x => !decide (x = txOf who)).length ≤ L.length := List.length_filter_le _ _
    have hlt : L.toArray.toList = L := by simp
    rw [hlt] at he hw
    subst hw
    rw [putRow_growT]
    have h1 := hown ((L.filter fun x => !decide (x = txOf who)) ++ List.replicate (L.length - (L.filter fun x => !decide (x = txOf who)).length) []) q #[] (by rw [List.length_append, List.length_replicate]; omega)
    have h2 := h1.cutT (m := (L.filter fun x => !decide (x = txOf who)).length) (by rw [List.length_append]; omega)
    rw [List.take_left' rfl] at h2
    exact ⟨_, he, h2, below_putRowT _ hg hb⟩
end Go.Proofs.Ytoomgbddfcmjnaa
