/- Journals: what reading says of joined frames. -/
import Derived.Test.YtjhdhnefoclccaaJr
namespace Go.Proofs.Ytjhdhnefoclccaa.Jn
open Go.RowKit
theorem val_app {x r : List Int} (h : 4 ≤ x.length) : val (x ++ r) = val x := by
  have e : ∀ i, i < 4 → (x ++ r).getD i 0 = x.getD i 0 := fun i hi => by
    simp only [List.getD, List.getElem?_append_left (show i < x.length by omega)]
  simp only [val, e 0 (by omega), e 1 (by omega), e 2 (by omega), e 3 (by omega)]
theorem first_app {x r : List Int} {n : Nat} (h : first (x ++ r) = some n) (hx : x.length = n + 8) (r' : List Int) : first (x ++ r') = some n := by
  have hv : val (x ++ r) = val x := val_app (by omega)
  have hv' : val (x ++ r') = val x := val_app (by omega)
  have h2 : ∀ r : List Int, val ((x ++ r).drop (4 + n)) = val (x.drop (4 + n)) := fun r => by
    rw [List.drop_append_of_le_length (by omega)]
    exact val_app (by rw [List.length_drop]; omega)
  have h3 : ∀ r : List Int, (x ++ r).take (4 + n) = x.take (4 + n) := fun r => List.take_append_of_le_length (by omega)
  unfold first at h ⊢
  rw [hv] at h
  rw [hv']
  split at h
  · cases h
  split at h
  · cases h
  rename_i h4 h5
  split at h
  · rename_i h6
    injection h with h
    rw [h, h2 r, h3 r] at h6
    rw [if_neg (by rw [List.length_append]; omega), if_neg (by rw [List.length_append]; omega), h, h2 r', h3 r', if_pos h6]
  · cases h
theorem read_one {x r : List Int} {n : Nat} (h : first (x ++ r) = some n) (hx : x.length = n + 8) :
    read (x ++ r) = ((x.drop 4).take n :: (read r).1, n + 8 + (read r).2) := by
  rw [read_some h]
  have e1 : (x ++ r).drop (n + 8) = r := by rw [← hx]; simp
  have e2 : ((x ++ r).drop 4).take n = (x.drop 4).take n := by
    rw [List.drop_append_of_le_length (by omega), List.take_append_of_le_length (by rw [List.length_drop]; omega)]
  rw [e1, e2]
/-- what was read lies in front: with anything behind it the same payloads come first -/
theorem read_pre : ∀ (k : Nat) (l : List Int), l.length ≤ k → ∀ r : List Int, read (l.take (read l).2 ++ r) = ((read l).1 ++ (read r).1, (read l).2 + (read r).2) := by
  intro k
  induction k with
  | zero =>
    intro l hl r
    obtain rfl : l = [] := List.eq_nil_of_length_eq_zero (by omega)
    simp [show read [] = ([], 0) from rfl]
  | succ k ih =>
    intro l hl r
    cases hn : first l with
    | none => simp [read_none hn]
    | some n =>
      obtain ⟨h1, h2, h3⟩ := first_len hn
      have hr := read_some hn
      have hx : (l.take (n + 8)).length = n + 8 := by rw [List.length_take]; omega
      have hsplit : l.take (n + 8) ++ l.drop (n + 8) = l := List.take_append_drop _ _
      have hf : first (l.take (n + 8) ++ l.drop (n + 8)) = some n := by rw [hsplit]; exact hn
      have e : l.take (n + 8 + (read (l.drop (n + 8))).2) = l.take (n + 8) ++ (l.drop (n + 8)).take (read (l.drop (n + 8))).2 := by
        rw [List.take_add]
      have hi := ih (l.drop (n + 8)) (by rw [List.length_drop]; omega) r
      have hd : ((l.take (n + 8)).drop 4).take n = (l.drop 4).take n := by
        rw [List.drop_take, List.take_take]; congr 1; omega
      rw [hr]
      simp only
      rw [e, List.append_assoc, read_one (first_app hf hx _) hx, hi, hd]
      simp [Nat.add_assoc]
theorem read_whole {l : List Int} (h : (read l).2 = l.length) (r : List Int) : read (l ++ r) = ((read l).1 ++ (read r).1, l.length + (read r).2) := by
  have := read_pre l.length l (Nat.le_refl _) r
  rwa [h, List.take_length] at this
theorem read_take (l : List Int) : read (l.take (read l).2) = read l := by
  have := read_pre l.length l (Nat.le_refl _) []
  simpa [show read [] = ([], 0) from rfl] using this
theorem first_frame {p : List Int} (h : p.length ≤ 4096) (r : List Int) : first (frame p ++ r) = some p.length := by
  have hv : val (frame p ++ r) = p.length := by
    unfold frame
    rw [List.append_assoc, List.append_assoc]
    exact val_four _ (by omega) (by omega) _
  have hl : (four p.length ++ p).length = 4 + p.length := by rw [List.length_append]; rfl
  have hd : (frame p ++ r).drop (4 + p.length) = four (chk (four p.length ++ p)) ++ r := by
    unfold frame
    rw [List.append_assoc, ← hl, List.drop_left]
  have ht : (frame p ++ r).take (4 + p.length) = four p.length ++ p := by
    unfold frame
    rw [List.append_assoc, ← hl, List.take_left]
  have hb := chk_bd (four p.length ++ p)
  have hn : (frame p ++ r).length = p.length + 8 + r.length := by simp only [frame, four, List.length_append, List.length_cons, List.length_nil]; omega
  unfold first
  rw [hv, if_neg (by rw [hn]; omega), if_neg (by rw [hn]; omega)]
  simp only [Int.toNat_natCast]
  rw [hd, ht, val_four _ hb.1 (by omega), if_pos rfl]
theorem read_frame {p : List Int} (h : p.length ≤ 4096) (r : List Int) : read (frame p ++ r) = (p :: (read r).1, p.length + 8 + (read r).2) := by
  rw [read_one (first_frame h r) (by simp only [frame, four, List.length_append, List.length_cons, List.length_nil]; omega)]
  have : ((frame p).drop 4).take p.length = p := by
    unfold frame
    have h4 : (four p.length).length = 4 := rfl
    rw [List.append_assoc, ← h4, List.drop_left, List.take_left]
  rw [this]
end Go.Proofs.Ytjhdhnefoclccaa.Jn
