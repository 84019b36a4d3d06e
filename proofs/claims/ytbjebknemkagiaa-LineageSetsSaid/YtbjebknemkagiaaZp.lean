/- lineage.part: the members of a set that are in another one, or are not. -/
import Derived.Test.YtbjebknemkagiaaZo
namespace Go.Proofs.Ytbjebknemkagiaa
open Go.RowKit Go.Sort Go.Lib
/-- a row whose cells are known -/
def Reads (W : World) (v : Value) (l : List Int) : Prop :=
  (v = .slice none 0 0 ∧ l = []) ∨ ∃ g cap, v = .slice (some ⟨g, 0, none⟩) l.length cap ∧ ∀ j, j < l.length → W.cell? ⟨g, j, none⟩ = some (.int .i64 (l.getD j 0))
theorem Own.reads {w : World} {base : Nat} {e : TypeId} {v : Value} {l : List Int} (h : Own w base e .i64 v l) : Reads w v l := by
  rcases h.row with h | ⟨g, cap, hv, _, _, _, _, hH, _⟩
  · exact .inl h
  · refine .inr ⟨g, cap, hv, fun j hj => ?_⟩
    have := (hH j (by simpa using hj)).1
    rw [Nat.zero_add] at this
    rw [this, getElem!_pos _ _ (by simpa using hj)]
    simp [List.getD, List.getElem?_eq_getElem hj]
theorem Reads.keep {w W : World} {v : Value} {l : List Int} {B : Nat} (h : Reads w v l) (hb : ∀ g, v.ownBlock = some g → g < B) (hc : ∀ (a : Addr) (u : Value), a.block < B → w.cell? a = some u → W.cell? a = some u) : Reads W v l := by
  rcases h with h | ⟨g, cap, rfl, h⟩
  · exact .inl h
  · exact .inr ⟨g, cap, rfl, fun j hj => hc _ _ (hb g rfl) (h j hj)⟩
theorem search_reads (v : Value) (l : List Int) (x : Int) (w : World) (h : Reads w v l) (ha : Zs.Asc l) (hn : l.length ≤ 1000000) :
    Calls Try.prog 57 #[v, .int .i64 x] w fun e w' => ∃ i : Int, e = .returned (.tuple #[.int .i64 i, .bool (decide (x ∈ l))]) ∧ ∃ q, w' = w.drewN q := by
  rcases h with ⟨rfl, rfl⟩ | ⟨g, cap, rfl, h⟩
  · refine (Try.slices_BinarySearch_int_empty none 0 x w).mono fun e w' ⟨he, hw⟩ => ⟨0, by simpa using he, 0, hw⟩
  · refine (Try.slices_BinarySearch_int g 0 l.length cap l x w (Nat.le_refl _) (by omega) (fun j hj => by rw [Nat.zero_add]; exact h j hj) (by rw [List.take_length]; exact List.Pairwise.imp (fun h => by omega) ha)).mono fun e w' ⟨he, hw⟩ => ?_
    rw [List.take_length] at he
    exact ⟨_, by rw [he]; simp; rfl, hw⟩
set_option maxHeartbeats 400000 in
theorem inOther (v : Value) (l : List Int) (b : Bool) (x : Int) (F I : Nat) (W : World) (h : Reads W v l) (ha : Zs.Asc l) (hn : l.length ≤ 1000000) (hf : W.cell? ⟨F, 0, none⟩ = some v) (hi : W.cell? ⟨I, 0, none⟩ = some (.bool b)) :
    FnGives Try.prog 56 #[.pointer (some ⟨F, 0, none⟩), .pointer (some ⟨I, 0, none⟩)] #[.int .i64 x] (.bool (decide (x ∈ l) != b)) W := by
  show Calls Try.prog 56 #[.int .i64 x, .pointer (some ⟨F, 0, none⟩), .pointer (some ⟨I, 0, none⟩)] W _
  have H := Lib.hid h
  have HA := Lib.hid ha
  clear h ha
  rcases H.out with ⟨rfl, rfl⟩ | ⟨g, cap, rfl, _⟩
  · go_enter Try.func56, Try.ntmps56
    go_wp2_with fail
    refine (search_reads _ _ x W H.out HA.out hn).mono ?_; rintro e w1 ⟨i, rfl, q, rfl⟩
    go_wp2_with fail
    go_ret
    exact ⟨retb (by cases b <;> simp), q, rfl⟩
  · generalize hd : decide (x ∈ l) = d
    have HD := Lib.hid hd
    clear hd
    go_enter Try.func56, Try.ntmps56
    go_wp2_with fail
    refine (search_reads _ _ x W H.out HA.out hn).mono ?_; rintro e w1 ⟨i, rfl, q, rfl⟩
    rw [HD.out]
    go_wp2_with fail
    go_ret
    exact ⟨retb (by cases b <;> cases d <;> simp), q, rfl⟩
theorem delete_own (base : Nat) (v : Value) (l : List Int) (p : Int → Bool) (lb : Array Value) (w : World) (h : Own w base 3 .i64 v l) (hb : base ≤ w.heap.size) (hn : l.length ≤ 1000000)
    (hp : ∀ (W : World) (x : Int), (∀ (a : Addr) (u : Value), a.block < base → w.cell? a = some u → W.cell? a = some u) → FnGives Try.prog 56 lb #[.int .i64 x] (.bool (p x)) W) :
    Calls Try.prog 55 #[v, .func (.func 56) #[] lb] w fun e w' => ∃ v', e = .returned v' ∧ Own w' base 3 .i64 v' (l.filter fun x => !p x) ∧ Below base w w' := by
  rcases h.row with ⟨rfl, rfl⟩ | ⟨g, cap, rfl, hg, hgs, hle, hmax, hH, hown⟩
  · clear hp
    go_enter Try.func55, Try.ntmps55
    go_wp2_with fail
    refine (Try.slices_IndexFunc_empty (α := Int) none 0 _ w).mono ?_; rintro e w1 ⟨rfl, rfl⟩
    go_wp2_with fail
    go_ret
    exact ⟨_, rfl, Own.nil _ _ _ _, Below.refl _ _⟩
  · have hc := Try.slices_DeleteFunc (Value.int .i64) (fun _ => rfl) p 56 lb (enters_of Try.func56 (by kernel_rfl) rfl) 0 Try.zeroValue3 g 0 cap l.toArray w
      (fun W x hW => hp W x fun a u ha hu => by rw [hW.cell (by omega)]; exact hu)
      (fun n os dk x hdk => hp _ x fun a u ha hu => by
        unfold sortWorld
        rw [cell?_grow _ _ _ (by show a.block < (putRow _ _ _ _ _).heap.size; rw [size_putRow]; show a.block < w.heap.size; omega), cell?_putRow_other _ _ g 0 _ _ (Or.inl (by omega))]
        exact hu)
      hH (by simp; omega) (by simpa using hle)
    have hsz : l.toArray.size = l.length := by simp
    rw [hsz] at hc
    refine hc.mono fun e w' ⟨he, q, hw⟩ => ?_
    have hcl : (l.filter fun x => !p x).length ≤ l.length := List.length_filter_le _ _
    have hlt : l.toArray.toList = l := by simp
    rw [hlt] at he hw
    subst hw
    rw [putRow_grow0]
    have h1 := hown ((l.filter fun x => !p x) ++ List.replicate (l.length - (l.filter fun x => !p x).length) 0) q #[] (by rw [List.length_append, List.length_replicate]; omega)
    have h2 := h1.cut (m := (l.filter fun x => !p x).length) (by rw [List.length_append]; omega)
    rw [List.take_left' rfl] at h2
    exact ⟨_, he, h2, below_putRow _ hg hb⟩
end Go.Proofs.Ytbjebknemkagiaa
