/- Drawing: a code list. -/
import Derived.Test.YtdlgfhegafnmcaaDoorLd
namespace Go.Proofs.YtdlgfhegafnmcaaDoor
open Go.RowKit
def Cd.top : Cd.Co := ⟨⟨#[116, 111, 112]⟩, -1⟩
def Cd.kid (i : Nat) : Cd.Co := ⟨⟨#[107]⟩ ++ Cd.dig i, 0⟩
def Cd.kids (k : Nat) : List Cd.Co := Cd.top :: (List.range k).map Cd.kid
def Cd.add1 (i : Nat) (L : List Cd.Co) : List Cd.Co := L ++ [⟨⟨#[108]⟩ ++ Cd.dig L.length, 1 + (i : Int)⟩]
def Cd.addN (i : Nat) : Nat → List Cd.Co → List Cd.Co
  | 0, L => L
  | m + 1, L => Cd.add1 i (Cd.addN i m L)
/-- what the list can be when i of k kids have their leaves -/
def Cd.stage (k : Nat) : Nat → List (List Cd.Co)
  | 0 => [Cd.kids k]
  | i + 1 => (Cd.stage k i).flatMap fun L => [Cd.addN i 1 L, Cd.addN i 2 L]
def Cd.shapes : List (List Cd.Co) := [Cd.kids 1, Cd.kids 2, Cd.kids 3] ++ Cd.stage 1 1 ++ Cd.stage 2 2 ++ Cd.stage 3 3
theorem Cd.addN_len (i m : Nat) (L : List Cd.Co) : (Cd.addN i m L).length = L.length + m := by
  induction m with
  | zero => rfl
  | succ m ih => simp only [Cd.addN, Cd.add1, List.length_append, List.length_singleton, ih]; omega
theorem Cd.stage_len {k : Nat} : ∀ i L, L ∈ Cd.stage k i → L.length ≤ 1 + k + 2 * i := by
  intro i
  induction i with
  | zero => intro L h; simp only [Cd.stage, List.mem_singleton] at h; subst h; simp [Cd.kids]; omega
  | succ i ih =>
    intro L h
    simp only [Cd.stage, List.mem_flatMap, List.mem_cons, List.not_mem_nil, or_false] at h
    obtain ⟨M, hM, h9⟩ := h
    have := ih M hM
    rcases h9 with rfl | rfl <;> rw [Cd.addN_len] <;> omega
/-- the box of a list under way -/
def LB (w : World) (f : Nat) (s : ByteArray) (v : Value) : Prop := w.heap[f]? = some (.cells #[.string s, v] 25 (0, 0))
theorem LB.cell0 {w : World} {f : Nat} {s : ByteArray} {v : Value} (h : LB w f s v) : w.cell? ⟨f, 0, none⟩ = some (.string s) := by unfold LB at h; simp [World.cell?, h]
theorem LB.cell1 {w : World} {f : Nat} {s : ByteArray} {v : Value} (h : LB w f s v) : w.cell? ⟨f, 1, none⟩ = some v := by unfold LB at h; simp [World.cell?, h]
theorem LB.thaw {w : World} {f : Nat} {s : ByteArray} {v : Value} (h : LB w f s v) (j : Nat) : w.frozen? ⟨f, j, none⟩ = false := by unfold LB at h; simp [World.frozen?, h]
theorem LB.lt {w : World} {f : Nat} {s : ByteArray} {v : Value} (h : LB w f s v) : f < w.heap.size := (Array.getElem?_eq_some_iff.1 h).1
theorem LB.below {w w' : World} {f : Nat} {s : ByteArray} {v : Value} (h : LB w f s v) (hb : Below w.heap.size w w') : LB w' f s v := (hb.block f h.lt).trans h
theorem LB.cod {w w' : World} {base g f : Nat} {s : ByteArray} {v : Value} (h : LB w f s v) (hc : Cod w base g) (hg : w.grownBy w' (some g)) : LB w' f s v := by
  obtain ⟨A, n, c, i, l, _, _, _, h4, _⟩ := hc
  refine (hg.block f h.lt ?_).trans h
  intro e
  injection e with e
  subst e
  unfold LB at h
  rw [h4] at h
  injection h with h
  injection h with _ ht
  exact absurd ht (by decide)
/-- the box stays when a row of codes grows -/
theorem LB.row {w w' : World} {f b : Nat} {s : ByteArray} {v u : Value} {L : List Cd.Co} (h : LB w f s v) (ho : CoOwn w b u L) (hg : w.grownBy w' u.ownBlock) : LB w' f s v := by
  refine (hg.block f h.lt ?_).trans h
  intro e9
  obtain ⟨_, ⟨rfl, _⟩ | ⟨g', cap, cur, rfl, _, hh, _⟩⟩ := ho
  · simp [Value.ownBlock] at e9
  · simp [Value.ownBlock] at e9
    subst e9
    unfold LB at h
    rw [hh] at h
    injection h with h
    injection h with _ ht
    exact absurd ht (by decide)
theorem LB.set {w : World} {f : Nat} {s : ByteArray} {v : Value} (h : LB w f s v) (u : Value) : LB (w.setCell ⟨f, 1, none⟩ u) f s u ∧ w.grownBy (w.setCell ⟨f, 1, none⟩ u) (some f) := by
  unfold LB at *
  refine ⟨by simp [World.setCell, Array.getElem?_modify, h], rfl, rfl, rfl, by simp [World.setCell], fun q hq hne => ?_⟩
  simp only [World.setCell, Array.getElem?_modify]
  rw [if_neg (fun e => hne (by rw [← e]))]
/-- a row of codes stays when a box of another type is stored into -/
theorem CoOwn.box {w w' : World} {b f : Nat} {s : ByteArray} {v u : Value} {L : List Cd.Co} (h : CoOwn w b u L) (hb : LB w f s v) (hg : w.grownBy w' (some f)) : CoOwn w' b u L := by
  refine World.ownsRow.kept h hg ?_
  obtain ⟨_, ⟨rfl, _⟩ | ⟨g', cap, cur, rfl, _, hh, _⟩⟩ := h
  · exact .inl rfl
  · refine .inr fun e9 => ?_
    simp [Value.ownBlock] at e9
    subst e9
    unfold LB at hb
    rw [hh] at hb
    injection hb with hb
    injection hb with _ ht
    exact absurd ht (by decide)
theorem Cod.box {w w' : World} {base g f : Nat} {s : ByteArray} {v : Value} (h : Cod w base g) (hb : LB w f s v) (hf : base ≤ f) (hg : w.grownBy w' (some f)) : Cod w' base g := by
  refine h.grown hg fun r e9 => ?_
  injection e9 with e9
  subst e9
  refine ⟨hf, fun e => ?_⟩
  subst e
  obtain ⟨A, n, c, i, l, _, _, _, h4, _⟩ := h
  unfold LB at hb
  rw [h4] at hb
  injection hb with hb
  injection hb with _ ht
  exact absurd ht (by decide)
theorem CoOwn.form {w : World} {base n : Nat} {v : Value} {L : List Cd.Co} (h : CoOwn w base v L) (hn : L.length = n) (h1 : 1 ≤ n) : ∃ g cap, v = .slice (some ⟨g, 0, none⟩) n cap ∧ base ≤ g ∧ g < w.heap.size := by
  have h0 := h
  obtain ⟨_, ⟨hv, hl⟩ | ⟨g', cap', cur, hv, hb, _, hle, hmx, _⟩⟩ := h
  · omega
  · subst hv
    exact ⟨g', cap', by rw [hn], hb, (World.ownsRow.lt h0 g' rfl).2⟩
/-- a list under way: its box, its row -/
structure LS (base g f r B : Nat) (s : ByteArray) (W0 w : World) (v : Value) (L : List Cd.Co) : Prop where
  cod : Cod w base g
  box : LB w f s v
  own : CoOwn w B v L
  res : LB w r ⟨#[]⟩ (.slice none 0 0)
  gr : W0.grownBy w (some g)
  bs : base ≤ B
  fB : B ≤ f
  rB : B ≤ r
  ne : f ≠ r
  B0 : B = W0.heap.size
theorem LS.turn {base g f r B : Nat} {s : ByteArray} {W0 w w' : World} {v : Value} {L : List Cd.Co} (h : LS base g f r B s W0 w v L) (hc : Cod w' base g) (hg : w.grownBy w' (some g)) : LS base g f r B s W0 w' v L :=
  ⟨hc, h.box.cod h.cod hg, h.own.cod h.cod hg, h.res.cod h.cod hg, h.gr.trans hg, h.bs, h.fB, h.rB, h.ne, h.B0⟩
theorem LS.below {base g f r B : Nat} {s : ByteArray} {W0 w w' : World} {v : Value} {L : List Cd.Co} (h : LS base g f r B s W0 w v L) (hb : Below w.heap.size w w') : LS base g f r B s W0 w' v L :=
  ⟨h.cod.below hb, h.box.below hb, h.own.below hb, h.res.below hb, h.gr.trans (grownBy_of_below hb _), h.bs, h.fB, h.rB, h.ne, h.B0⟩
theorem grown_push {W0 w w' : World} {g : Nat} {row : Option Nat} (h : W0.grownBy w (some g)) (hg : w.grownBy w' row) (hr : ∀ q, row = some q → W0.heap.size ≤ q) : W0.grownBy w' (some g) :=
  ⟨hg.os.trans h.os, hg.tape.trans h.tape, hg.output.trans h.output, Nat.le_trans h.size hg.size, fun k hk hne => (hg.block k (Nat.lt_of_lt_of_le hk h.size) (fun e => by have := hr k e.symm; omega)).trans (h.block k hk hne)⟩
/-- an append, and its store into the box -/
theorem LS.push {base g f r B : Nat} {s : ByteArray} {W0 w w' : World} {v u : Value} {L M : List Cd.Co} (h : LS base g f r B s W0 w v L) (hown : CoOwn w' B u M) (hg : w.grownBy w' v.ownBlock) : LS base g f r B s W0 (w'.setCell ⟨f, 1, none⟩ u) u M := by
  have hc' : Cod w' base g := h.cod.row h.own hg (by decide) h.bs
  have hb' : LB w' f s v := h.box.row h.own hg
  have hr' : LB w' r ⟨#[]⟩ (.slice none 0 0) := h.res.row h.own hg
  have q := hb'.set u
  have hgr : W0.grownBy w' (some g) := grown_push h.gr hg (fun k hk => by have := (World.ownsRow.lt h.own k hk).1; have := h.B0; omega)
  refine ⟨hc'.box hb' (Nat.le_trans h.bs h.fB) q.2, q.1, hown.box hb' q.2, ?_, grown_push hgr q.2 (fun k hk => by injection hk with hk; have := h.fB; have := h.B0; omega), h.bs, h.fB, h.rB, h.ne, h.B0⟩
  refine (q.2.block r hr'.lt ?_).trans hr'
  intro e
  injection e with e
  exact h.ne e.symm
end Go.Proofs.YtdlgfhegafnmcaaDoor
