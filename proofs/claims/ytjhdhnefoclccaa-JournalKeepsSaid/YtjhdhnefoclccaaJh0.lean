/- Journals: what reading says of a list of frames. -/
import Derived.Test.YtjhdhnefoclccaaJt0
namespace Go.Proofs.Ytjhdhnefoclccaa.Jn
open Go.RowKit
def joins : List (List Int) → List Int
  | [] => []
  | p :: ps => frame p ++ joins ps
theorem joins_snoc (ps : List (List Int)) (p : List Int) : joins (ps ++ [p]) = joins ps ++ frame p := by
  induction ps with
  | nil => simp [joins]
  | cons q ps ih => simp only [List.cons_append, joins, ih, List.append_assoc]
theorem joins_len (b : Nat) : ∀ ps : List (List Int), (∀ p ∈ ps, p.length ≤ b) → (joins ps).length ≤ (b + 8) * ps.length := by
  intro ps
  induction ps with
  | nil => intro _; simp [joins]
  | cons q ps ih =>
    intro h
    have h1 := h q (by simp)
    have h2 := ih (fun p hp => h p (List.mem_cons_of_mem _ hp))
    simp only [joins, List.length_append, List.length_cons, frame_len]
    rw [Nat.mul_succ]
    omega
theorem joins_wf : ∀ ps : List (List Int), (∀ p ∈ ps, ∀ x ∈ p, (Lit.int .u8 x).wf = true) → ∀ x ∈ joins ps, (Lit.int .u8 x).wf = true := by
  intro ps
  induction ps with
  | nil => intro _ x hx; simp [joins] at hx
  | cons q ps ih =>
    intro h x hx
    rcases List.mem_append.1 hx with hx | hx
    · exact frame_wf (h q (by simp)) x hx
    · exact ih (fun p hp => h p (List.mem_cons_of_mem _ hp)) x hx
theorem read_joins : ∀ ps : List (List Int), (∀ p ∈ ps, p.length ≤ 4096) → ∀ r, read (joins ps ++ r) = (ps ++ (read r).1, (joins ps).length + (read r).2) := by
  intro ps
  induction ps with
  | nil => intro _ r; simp [joins]
  | cons q ps ih =>
    intro h r
    simp only [joins]
    rw [List.append_assoc, read_frame (h q (by simp)), ih (fun p hp => h p (List.mem_cons_of_mem _ hp)) r]
    simp [frame_len, Nat.add_assoc]
/-- behind a crash: what was synced, and the last payload only if all of its frame was kept -/
theorem read_crash {ps : List (List Int)} (h : ∀ p ∈ ps, p.length ≤ 4096) {q : List Int} (hq : q.length ≤ 4096) (k : Nat) :
    (k < q.length + 8 ∧ read (joins ps ++ (frame q).take k) = (ps, (joins ps).length)) ∨
    (q.length + 8 ≤ k ∧ (read (joins ps ++ (frame q).take k)).1 = ps ++ [q] ∧ (read (joins ps ++ (frame q).take k)).2 = (joins ps ++ (frame q).take k).length) := by
  rcases Nat.lt_or_ge k (q.length + 8) with hk | hk
  · refine .inl ⟨hk, ?_⟩
    rw [read_joins ps h, read_cut hq hk]
    simp
  · refine .inr ⟨hk, ?_⟩
    have e : (frame q).take k = frame q := List.take_of_length_le (by rw [frame_len]; exact hk)
    have := read_frame hq []
    rw [List.append_nil] at this
    rw [e, read_joins ps h, this]
    simp [frame_len, show read [] = ([], 0) from rfl]
end Go.Proofs.Ytjhdhnefoclccaa.Jn
