/- Approvals: what Add and End make of right lists. -/
import Derived.Test.YtoomgbddfcmjnaaAm
namespace Go.Proofs.Ytoomgbddfcmjnaa
open Go.RowKit
theorem Ap.meet_symm (a b : Ap) : Ap.meet a b = Ap.meet b a := by
  rw [Bool.eq_iff_iff, Ap.meet_iff, Ap.meet_iff]
  constructor <;> (rintro ⟨h1, h2, h3⟩; exact ⟨h1.symm, h3, h2⟩)
/-- two that do not meet stand one before the other -/
theorem Ap.lt_of_apart {a b : Ap} (ha : Ap.one a = 0) (hb : Ap.one b = 0) (h : Ap.meet a b = false) : Ap.lt a b = !(Ap.lt b a) := by
  rcases h1 : Ap.lt b a with _ | _
  · rcases h2 : Ap.lt a b with _ | _
    · obtain ⟨hf, hp⟩ := Ap.lt_tot h2 h1
      have a1 := Ap.one_iff.1 ha
      have b1 := Ap.one_iff.1 hb
      have : Ap.meet a b = true := Ap.meet_iff.2 ⟨hp, by omega, by omega⟩
      rw [h] at this; cases this
    · rfl
  · rw [Ap.lt_asym h1]; rfl
theorem Ap.meets_false {L : List Ap} {x : Ap} (h : Ap.meets L x = false) : ∀ y ∈ L, Ap.meet y x = false := by
  intro y hy
  unfold Ap.meets at h
  rw [List.any_eq_false] at h
  simpa using h y hy
def Ap.rins (L : List Ap) (x : Ap) : List Ap := L.take (L.findIdx fun y => !(Ap.lt y x)) ++ [x] ++ L.drop (L.findIdx fun y => !(Ap.lt y x))
theorem findIdx_cong {α : Type} {p q : α → Bool} : ∀ {L : List α}, (∀ x ∈ L, p x = q x) → L.findIdx p = L.findIdx q
  | [], _ => rfl
  | x :: L, h => by
    rw [List.findIdx_cons, List.findIdx_cons, h x (by simp), findIdx_cong fun y hy => h y (by simp [hy])]
theorem Ap.ins_rins {L : List Ap} {x : Ap} (h : Ap.Ok L) (hx : Ap.one x = 0) (hm : Ap.meets L x = false) : Ap.rins L x = Ap.ins L x := by
  unfold Ap.rins Ap.ins
  rw [findIdx_cong (p := fun y => !(Ap.lt y x)) (q := Ap.lt x) fun y hy => (Ap.lt_of_apart hx (h.one y hy) (by rw [Ap.meet_symm]; exact Ap.meets_false hm y hy)).symm]
theorem Ap.Ok.ins {L : List Ap} {x : Ap} (h : Ap.Ok L) (hx : Ap.one x = 0) (hm : Ap.meets L x = false) (h60 : L.length < 60) : Ap.Ok (Ap.ins L x) := by
  obtain ⟨k, hk⟩ : ∃ k, L.findIdx (Ap.lt x) = k := ⟨_, rfl⟩
  have hb : ∀ y ∈ L.take k, Ap.lt x y = false := by
    intro y hy
    obtain ⟨i, hi, rfl⟩ := List.mem_take_iff_getElem.1 hy
    have := List.not_of_lt_findIdx (p := Ap.lt x) (xs := L) (show i < L.findIdx (Ap.lt x) by omega)
    simpa using this
  have ha : ∀ y ∈ L.drop k, Ap.lt x y = true := by
    intro y hy
    obtain ⟨i, hi, rfl⟩ := List.mem_drop_iff_getElem.1 hy
    have hkl : k < L.length := by omega
    have h0 : Ap.lt x L[k] = true := by
      have := List.findIdx_getElem (p := Ap.lt x) (xs := L) (w := by omega)
      simpa [hk] using this
    rcases Nat.eq_zero_or_pos i with rfl | hi0
    · simpa using h0
    · exact Ap.lt_tr h0 (List.pairwise_iff_getElem.1 h.pw k (k + i) hkl (by omega) (by omega)).1
  have hp := h.pw
  rw [← List.take_append_drop k L, List.pairwise_append] at hp
  unfold Ap.ins
  rw [hk]
  refine ⟨?_, fun y hy => ?_, ?_⟩
  · have := List.length_take_le k L
    simp only [List.length_append, List.length_take, List.length_drop, List.length_cons, List.length_nil]
    omega
  · simp only [List.mem_append, List.mem_singleton] at hy
    rcases hy with (hy | rfl) | hy
    · exact h.one y (List.mem_of_mem_take hy)
    · exact hx
    · exact h.one y (List.mem_of_mem_drop hy)
  · rw [List.append_assoc, List.pairwise_append]
    refine ⟨hp.1, ?_, ?_⟩
    · rw [List.singleton_append, List.pairwise_cons]
      exact ⟨fun y hy => ⟨ha y hy, by rw [Ap.meet_symm]; exact Ap.meets_false hm y (List.mem_of_mem_drop hy)⟩, hp.2.1⟩
    · intro a h1 b h2
      rw [List.singleton_append, List.mem_cons] at h2
      rcases h2 with rfl | h2
      · have hma := List.mem_of_mem_take h1
        refine ⟨?_, Ap.meets_false hm a hma⟩
        rw [Ap.lt_of_apart (h.one a hma) hx (Ap.meets_false hm a hma), hb a h1]
        rfl
      · exact hp.2.2 a h1 b h2
/-- what stands before a right list is put before it -/
theorem Ap.add_cons {L : List Ap} {x : Ap} (h : Ap.Ok (x :: L)) : Ap.add L x = (x :: L, 0) := by
  have hl := h.sub (List.sublist_cons_self x L)
  have hp := List.pairwise_cons.1 h.pw
  have hm : Ap.meets L x = false := by
    unfold Ap.meets
    rw [List.any_eq_false]
    intro y hy
    rw [Ap.meet_symm, (hp.1 y hy).2]
    decide
  have hlen : L.length ≠ 60 := by
    have := h.few
    simp at this
    omega
  unfold Ap.add
  rw [if_neg (by simpa using Ap.chk_ok.2 hl), if_neg (by simpa using h.one x (by simp)), if_neg (by rw [hm]; decide), if_neg hlen]
  have h0 : L.findIdx (Ap.lt x) = 0 := by
    cases L with
    | nil => rfl
    | cons y L => rw [List.findIdx_cons, (hp.1 y (by simp)).1]; rfl
  unfold Ap.ins
  rw [h0]
  rfl
/-- which approval is active, of a right list -/
theorem Ap.act_ok {L : List Ap} (h : Ap.Ok L) (p : ByteArray) (t : Int) : Ap.act L p t = L.find? fun x => x.has p t := by
  unfold Ap.act
  rw [if_neg (by simpa using Ap.chk_ok.2 h)]
theorem Ap.act_some {L : List Ap} (h : Ap.Ok L) (p : ByteArray) (t : Int) : (Ap.act L p t).isSome = L.any fun x => x.has p t := by
  rw [Ap.act_ok h, List.isSome_find?]
theorem Ap.act_mem {L : List Ap} (h : Ap.Ok L) {p : ByteArray} {t : Int} {x : Ap} (hx : Ap.act L p t = some x) : x ∈ L ∧ Ap.has x p t = true := by
  rw [Ap.act_ok h] at hx
  exact ⟨List.mem_of_find?_eq_some hx, List.find?_some (p := fun x : Ap => x.has p t) hx⟩
/-- at most one is active -/
theorem Ap.only {L1 L2 : List Ap} {a : Ap} (h : (L1 ++ a :: L2).Pairwise Ap.rel) {q : ByteArray} {u : Int} (ha : Ap.has a q u = true) {y : Ap} (hy : y ∈ L1 ++ L2) : Ap.has y q u = false := by
  rw [Bool.eq_false_iff]
  intro hb
  obtain ⟨a1, a2, a3⟩ := Ap.has_iff.1 ha
  obtain ⟨b1, b2, b3⟩ := Ap.has_iff.1 hb
  have hm : Ap.meet a y = true := Ap.meet_iff.2 ⟨by rw [a1, b1], by omega, by omega⟩
  obtain ⟨_, h2, h3⟩ := List.pairwise_append.1 h
  rcases List.mem_append.1 hy with hy | hy
  · have := (h3 y hy a (by simp)).2
    rw [Ap.meet_symm, hm] at this; cases this
  · have := ((List.pairwise_cons.1 h2).1 y hy).2
    rw [hm] at this; cases this
theorem find_only {α : Type} {p : α → Bool} {L1 L2 : List α} {a : α} (ha : p a = true) (hn : ∀ y ∈ L1 ++ L2, p y = false) : (L1 ++ a :: L2).find? p = some a := by
  rw [List.find?_append, List.find?_eq_none.2 (fun y hy => by rw [hn y (by simp [hy])]; decide), List.find?_cons, ha]
  rfl
theorem find_past {α : Type} {p : α → Bool} {L1 L2 : List α} {a : α} (ha : p a = false) : (L1 ++ a :: L2).find? p = (L1 ++ L2).find? p := by
  rw [List.find?_append, List.find?_append, List.find?_cons, ha]
/-- what is gone when an approval ends -/
def Ap.gone (p : ByteArray) (t : Int) (a : Ap) (q : ByteArray) (u : Int) : Bool := (q.toList == p.toList) && decide (t ≤ u) && decide (u < a.u)
theorem Ap.end_ok {L : List Ap} (h : Ap.Ok L) {p : ByteArray} {t : Int} {a : Ap} (ha : Ap.act L p t = some a) :
    ∃ M, Ap.fin L p t = (M, 0) ∧ Ap.Ok M ∧ ∀ q u, ((Ap.act M q u).isSome = ((Ap.act L q u).isSome && !(Ap.gone p t a q u))) ∧ ∀ x y, Ap.act L q u = some x → Ap.act M q u = some y → x.r = y.r := by
  rw [Ap.act_ok h] at ha
  rcases fstI_cases (fun x : Ap => x.has p t) L Ap0 with ⟨_, h2⟩ | ⟨j, h1, hj, h2, h3, _⟩
  · rw [h2] at ha; cases ha
  rw [h2] at ha
  injection ha with ha
  rw [ha] at h3
  have hidx := fstI_idx h1
  have hL : L = L.take j ++ a :: L.drop (j + 1) := by
    rw [← ha, getD_getElem hj, ← List.drop_eq_getElem_cons hj, List.take_append_drop]
  obtain ⟨hp, hf, hu⟩ := Ap.has_iff.1 h3
  have hfin : Ap.fin L p t = if a.f = t then (L.take j ++ L.drop (j + 1), 0) else (L.set j (a.cutAt t), 0) := by
    unfold Ap.fin
    rw [if_neg (by simpa using Ap.chk_ok.2 h), if_neg (by rw [h2]; simp), hidx, ha]
  have hset : L.set j (a.cutAt t) = L.take j ++ a.cutAt t :: L.drop (j + 1) := by
    rw [List.set_eq_take_append_cons_drop, if_pos hj]
  rw [hset] at hfin
  generalize L.take j = L1 at *
  generalize L.drop (j + 1) = L2 at *
  clear h1 h2 hidx hset
  subst hL
  have hone := Ap.one_iff.1 (h.one a (by simp))
  have hact : ∀ q u, Ap.act (L1 ++ a :: L2) q u = if Ap.has a q u = true then some a else (L1 ++ L2).find? fun x => x.has q u := by
    intro q u
    rw [Ap.act_ok h]
    by_cases hh : Ap.has a q u = true
    · rw [if_pos hh, find_only (p := fun x : Ap => x.has q u) hh fun y hy => Ap.only h.pw hh hy]
    · rw [if_neg hh, find_past (p := fun x : Ap => x.has q u) (by simpa using hh)]
  have hrest : ∀ q u, Ap.has a q u = true → (L1 ++ L2).find? (fun x => x.has q u) = none := fun q u hh => List.find?_eq_none.2 fun y hy => by rw [Ap.only h.pw hh hy]; decide
  by_cases hft : a.f = t
  · rw [if_pos hft] at hfin
    have hok : Ap.Ok (L1 ++ L2) := h.sub ((List.Sublist.refl L1).append (List.sublist_cons_self a L2))
    refine ⟨_, hfin, hok, fun q u => ?_⟩
    rw [hact, Ap.act_ok hok]
    by_cases hh : Ap.has a q u = true
    · rw [if_pos hh, hrest q u hh]
      obtain ⟨g1, g2, g3⟩ := Ap.has_iff.1 hh
      have hg : Ap.gone p t a q u = true := by
        unfold Ap.gone
        rw [show q.toList = p.toList by rw [← g1, hp]]
        simp
        omega
      rw [hg]
      exact ⟨rfl, fun x y _ h => by cases h⟩
    · rw [if_neg hh]
      refine ⟨?_, fun x y h1 h2 => by rw [h1] at h2; injection h2 with h2; rw [h2]⟩
      rcases hg : Ap.gone p t a q u with _ | _
      · simp
      · exfalso
        apply hh
        simp [Ap.gone] at hg
        exact Ap.has_iff.2 ⟨by rw [hp, hg.1.1], by omega, by omega⟩
  · rw [if_neg hft] at hfin
    have hrel1 : ∀ b, Ap.rel b a → Ap.rel b (a.cutAt t) := fun b hb => ⟨hb.1, by
      rw [Bool.eq_false_iff]
      intro hm
      obtain ⟨m1, m2, m3⟩ := Ap.meet_iff.1 hm
      have : Ap.meet b a = true := Ap.meet_iff.2 ⟨m1, Int.lt_trans m2 hu, m3⟩
      rw [hb.2] at this; cases this⟩
    have hrel2 : ∀ b, Ap.rel a b → Ap.rel (a.cutAt t) b := fun b hb => ⟨hb.1, by
      rw [Bool.eq_false_iff]
      intro hm
      obtain ⟨m1, m2, m3⟩ := Ap.meet_iff.1 hm
      have : Ap.meet a b = true := Ap.meet_iff.2 ⟨m1, m2, Int.lt_trans m3 hu⟩
      rw [hb.2] at this; cases this⟩
    have hok : Ap.Ok (L1 ++ a.cutAt t :: L2) := by
      obtain ⟨p1, p2, p3⟩ := List.pairwise_append.1 h.pw
      obtain ⟨p4, p5⟩ := List.pairwise_cons.1 p2
      refine ⟨by have := h.few; simpa using this, fun x hx => ?_, List.pairwise_append.2 ⟨p1, List.pairwise_cons.2 ⟨fun b hb => hrel2 b (p4 b hb), p5⟩, fun b hb c hc => ?_⟩⟩
      · rcases List.mem_append.1 hx with h1 | h1
        · exact h.one x (by simp [h1])
        · rcases List.mem_cons.1 h1 with rfl | h1
          · rw [Ap.one_iff]
            refine ⟨hone.1, hone.2.1, ?_, ?_⟩
            · show a.f < t
              omega
            · show t ≤ 1073741824
              omega
          · exact h.one x (by simp [h1])
      · rcases List.mem_cons.1 hc with rfl | hc
        · exact hrel1 b (p3 b hb a (by simp))
        · exact p3 b hb c (by simp [hc])
    refine ⟨_, hfin, hok, fun q u => ?_⟩
    have hact2 : Ap.act (L1 ++ a.cutAt t :: L2) q u = if Ap.has (a.cutAt t) q u = true then some (a.cutAt t) else (L1 ++ L2).find? fun x => x.has q u := by
      rw [Ap.act_ok hok]
      by_cases hh : Ap.has (a.cutAt t) q u = true
      · rw [if_pos hh, find_only (p := fun x : Ap => x.has q u) hh fun y hy => Ap.only hok.pw hh hy]
      · rw [if_neg hh, find_past (p := fun x : Ap => x.has q u) (by simpa using hh)]
    have hcut : Ap.has (a.cutAt t) q u = (Ap.has a q u && decide (u < t)) := by
      rw [Bool.eq_iff_iff, Bool.and_eq_true, Ap.has_iff, Ap.has_iff, decide_eq_true_eq]
      show a.p.toList = q.toList ∧ a.f ≤ u ∧ u < t ↔ _
      constructor
      · rintro ⟨c1, c2, c3⟩; exact ⟨⟨c1, c2, by omega⟩, c3⟩
      · rintro ⟨⟨c1, c2, _⟩, c3⟩; exact ⟨c1, c2, c3⟩
    rw [hact, hact2, hcut]
    by_cases hh : Ap.has a q u = true
    · rw [if_pos hh, hh, Bool.true_and]
      obtain ⟨g1, g2, g3⟩ := Ap.has_iff.1 hh
      have hg : Ap.gone p t a q u = decide (t ≤ u) := by
        unfold Ap.gone
        rw [show q.toList = p.toList by rw [← g1, hp]]
        have : u < a.u := g3
        simp [this]
      rw [hg]
      by_cases hut : u < t
      · rw [if_pos (by simpa using hut)]
        have : ¬ t ≤ u := by omega
        refine ⟨by simp [this], fun x y h1 h2 => by injection h1 with h1; injection h2 with h2; rw [← h1, ← h2]; rfl⟩
      · rw [if_neg (by simpa using hut), hrest q u hh]
        have : t ≤ u := by omega
        refine ⟨by simp [this], fun x y _ h2 => by cases h2⟩
    · have hh' : Ap.has a q u = false := by simpa using hh
      rw [if_neg hh, hh', Bool.false_and, if_neg (by decide)]
      refine ⟨?_, fun x y h1 h2 => by rw [h1] at h2; injection h2 with h2; rw [h2]⟩
      rcases hg : Ap.gone p t a q u with _ | _
      · simp
      · exfalso
        apply hh
        simp [Ap.gone] at hg
        exact Ap.has_iff.2 ⟨by rw [hp, hg.1.1], by omega, by omega⟩
end Go.Proofs.Ytoomgbddfcmjnaa
