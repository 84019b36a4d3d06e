/- Drawing: a code list, walked. -/
import Derived.Test.YtdlgfhegafnmcaaDoorLf
import Derived.Test.YtdlgfhegafnmcaaDoorIz
namespace Go.Proofs.YtdlgfhegafnmcaaDoor
open Go.RowKit
theorem Cd.kids_succ (j : Nat) : Cd.kids (j + 1) = Cd.kids j ++ [Cd.kid j] := by simp [Cd.kids, List.range_succ]
theorem Cd.stage_pos {k : Nat} : ∀ i L, L ∈ Cd.stage k i → 1 ≤ L.length := by
  intro i
  induction i with
  | zero => intro L h; simp only [Cd.stage, List.mem_singleton] at h; subst h; simp [Cd.kids]
  | succ i ih =>
    intro L h
    simp only [Cd.stage, List.mem_flatMap, List.mem_cons, List.not_mem_nil, or_false] at h
    obtain ⟨M, hM, h9⟩ := h
    have := ih M hM
    rcases h9 with rfl | rfl <;> rw [Cd.addN_len] <;> omega
theorem Cd.dig_size (n : Nat) : (Cd.dig n).size = 1 := rfl
def GivesListD (s : ByteArray) (base g : Nat) (w : World) (e : Ending) (w' : World) : Prop := ∃ v L, e = .returned (.agg #[.string s, v]) ∧ CoOwn w' w.heap.size v L ∧ L ∈ Cd.shapes ∧ Cod w' base g ∧ w.grownBy w' (some g)
set_option pp.maxSteps 200000 in
set_option pp.deepTerms true in
set_option maxRecDepth 100000 in
set_option maxHeartbeats 1600000 in
theorem list01 (s : ByteArray) (base g : Nat) (w : World) (h : Cod w base g) :
    Calls Tryd.prog 29 #[.pointer (some ⟨g, 0, none⟩), .string s] w (GivesListD s base g w) := by
  have hcl := h.lt
  obtain ⟨W1, hW1⟩ : ∃ W1 : World, w.alloc (.cells #[.string ⟨#[]⟩, .slice none 0 0] 25) = W1 := ⟨_, rfl⟩
  have hb1 : Below w.heap.size w W1 := by rw [← hW1]; exact (Below.refl _ _).alloc (Nat.le_refl _) _
  have hs1 : W1.heap.size = w.heap.size + 1 := by rw [← hW1]; simp
  have r1 : LB W1 w.heap.size ⟨#[]⟩ (.slice none 0 0) := by rw [← hW1]; exact heap_alloc_new _ _
  obtain ⟨W2, hW2⟩ : ∃ W2 : World, W1.alloc (.cells #[.string ⟨#[116, 111, 112]⟩, .int .i64 (-1)] 50) = W2 := ⟨_, rfl⟩
  have hb2 : Below W1.heap.size W1 W2 := by rw [← hW2]; exact (Below.refl _ _).alloc (Nat.le_refl _) _
  have hs2 : W2.heap.size = w.heap.size + 1 + 1 := by rw [← hW2]; simp [hs1]
  have o2 : CoOwn W2 w.heap.size (.slice (some ⟨W1.heap.size, 0, none⟩) 1 1) [Cd.top] := CoOwn.lit (L := [Cd.top]) (by rw [← hW2]; exact heap_alloc_new _ _) (by omega) (by simp)
  obtain ⟨W3, hW3⟩ : ∃ W3 : World, W2.alloc (.cells #[.string s, .slice (some ⟨W1.heap.size, 0, none⟩) 1 1] 25) = W3 := ⟨_, rfl⟩
  have hb3 : Below W2.heap.size W2 W3 := by rw [← hW3]; exact (Below.refl _ _).alloc (Nat.le_refl _) _
  have b3 : LB W3 W2.heap.size s (.slice (some ⟨W1.heap.size, 0, none⟩) 1 1) := by rw [← hW3]; exact heap_alloc_new _ _
  have HL := Lib.hid (show LS base g W2.heap.size w.heap.size w.heap.size s w W3 (.slice (some ⟨W1.heap.size, 0, none⟩) 1 1) [Cd.top] from
    ⟨((h.below hb1).below hb2).below hb3, b3, o2.below hb3, (r1.below hb2).below hb3, ((grownBy_of_below hb1 _).trans (grownBy_of_below hb2 _)).trans (grownBy_of_below hb3 _), by omega, by omega, Nat.le_refl _, by omega, rfl⟩)
  clear hs1 r1 hs2 o2 b3 hb1 hb2 hb3 h
  go_enter Tryd.func29, Tryd.ntmps29
  go_wp2_with fail
  clear hW1 hW2 hW3
  generalize W2.heap.size = f at *
  generalize W1.heap.size = gt at *
  refine (rangeD 1 3 (by omega) (by omega) (by omega) base g W3 HL.out.cod).mono ?_; rintro e w4 ⟨k, rfl, hk1, hk3, hc4, hg4⟩
  have HL4 := Lib.hid (HL.out.turn hc4 hg4)
  obtain ⟨k, rfl⟩ := Int.eq_ofNat_of_zero_le (show 0 ≤ k by omega)
  clear hc4 hg4
  go_wp2_with fail
  go_loopw [7] (fun i wr => ∃ j v, i = .int .i64 (j : Nat) ∧ j ≤ k ∧ Hid (LS base g f w.heap.size w.heap.size s w wr v (Cd.kids j))) (fun i _ => k - (intOf i).toNat)
  case atStart => exact ⟨0, _, rfl, by omega, HL4.out⟩
  case round =>
    rename World => Y
    obtain ⟨j, v, rfl, hj, HI⟩ := hrel
    have hkl : (Cd.kids j).length = j + 1 := by simp [Cd.kids]
    obtain ⟨gv, cv, rfl, _, _⟩ := HI.out.own.form hkl (by omega)
    have k1 := HI.out.box.cell1
    have kz := HI.out.box.thaw 1
    have HKL := Lib.hid hkl
    clear hkl
    by_cases hlt : j < k
    · have g1 : decide ((j : Int) < (k : Int)) = true := decide_eq_true (by omega)
      go_wp2_with fail
      refine wp_region_inv (by kernel_rfl) (fun listed a wv => listed.size = 10 ∧ ∃ x21 x22 x23 x24 x25 x26 x27 x28 x29 : Value, a = ⟨#[Value.pointer (some { block := g, off := 0 }), Value.string s, undef, undef, Value.pointer (some { block := w.heap.size, off := 0 }), Value.pointer (some { block := f, off := 0 }), Value.int IntKind.i64 ↑k, Value.int IntKind.i64 ↑j, undef, undef, Value.string s, Value.agg #[Value.string { data := #[116, 111, 112] }, Value.int IntKind.i64 (-1)], Value.slice (some { block := gt, off := 0 }) 1 1, Value.agg #[Value.string s, Value.slice (some { block := gt, off := 0 }) 1 1], Value.pointer (some { block := g, off := 0 }), Value.int IntKind.i64 ↑k, Value.int IntKind.i64 ↑j, Value.int IntKind.i64 ↑k, Value.bool true, u19, u20, x21, x22, x23, x24, x25, x26, x27, x28, x29, undef, undef, undef, undef, undef, undef, undef, undef, undef, undef, undef, undef, undef, undef, undef, undef, undef, undef, undef, undef, undef, undef, undef, undef, undef, undef, undef, undef], []⟩ ∧ CF listed [(0, x21, .pointer (some ⟨f, 1, none⟩)), (1, x22, .slice (some ⟨gv, 0, none⟩) (j + 1) cv), (2, x23, .int .i64 j), (3, x24, .string (Cd.dig j)), (4, x25, .string (⟨#[107]⟩ ++ Cd.dig j)), (5, x26, .agg #[.string (⟨#[107]⟩ ++ Cd.dig j), .int .i64 0]), (8, x29, .pointer (some ⟨f, 1, none⟩))] ∧ PuI 6 7 9 base g f w.heap.size w.heap.size s w (.slice (some ⟨gv, 0, none⟩) (j + 1) cv) (Cd.kids j) (⟨#[107]⟩ ++ Cd.dig j) 0 listed x27 x28 wv) (fun _ _ _ h => h.1) ?_ ?_ ?_
      · exact ⟨by simp, u21, u22, u23, u24, u25, u26, u27, u28, u29, rfl, CF.start, PuI.start HI.out⟩
      · rintro listed a wv i o ⟨hz, x21, x22, x23, x24, x25, x26, x27, x28, x29, rfl, hd, hp⟩ ho hdep hnu
        have hi : i < 10 := by
          rcases Nat.lt_or_ge i 10 with h | h
          · exact h
          · rw [Array.getElem?_eq_none (by simpa using h)] at ho; cases ho
        have hil : i < listed.size := by omega
        rcases (show i = 0 ∨ i = 1 ∨ i = 2 ∨ i = 3 ∨ i = 4 ∨ i = 5 ∨ i = 6 ∨ i = 7 ∨ i = 8 ∨ i = 9 by omega) with rfl | rfl | rfl | rfl | rfl | rfl | rfl | rfl | rfl | rfl
        · have ho' := ho
          simp only [List.getElem?_toArray, List.getElem?_cons_zero, Option.some.injEq] at ho'
          subst ho'
          refine wpOp_value ho rfl (v := .pointer (some ⟨f, 1, none⟩)) (w' := wv) (by simp [execOp, Act.eval, go_sem]) ?_
          exact ⟨by simpa using hz, _, _, _, _, _, _, _, _, _, rfl, hd.step hil (by intro p hp; simp only [List.mem_cons, List.not_mem_nil, or_false] at hp ⊢; rcases hp with rfl | rfl | rfl | rfl | rfl | rfl | rfl <;> first | exact .inl rfl | exact .inr ⟨by simp, by simp⟩), hp.same hil (by decide) (by decide) (by decide)⟩
        · have ho' := ho
          simp only [List.getElem?_toArray, List.getElem?_cons_zero, List.getElem?_cons_succ, Option.some.injEq] at ho'
          subst ho'
          have e0 := hd (0, x21, .pointer (some ⟨f, 1, none⟩)) (by simp) (hdep { on := 0, ground := .data } (by simp) rfl)
          simp only at e0
          have hns : ¬ up listed 9 := fun h9 => hnu (by rcases hp with ⟨_, h2, _⟩ | ⟨_, h2, _⟩ | ⟨h1, _⟩; exact absurd h9 h2; exact absurd h9 h2; exact h1 1 (by omega))
          have c9 := (hp.cell hns).cell1
          refine wpOp_value ho rfl (v := .slice (some ⟨gv, 0, none⟩) (j + 1) cv) (w' := wv) (by simp [execOp, Act.eval, go_sem, e0, c9]) ?_
          exact ⟨by simpa using hz, _, _, _, _, _, _, _, _, _, rfl, hd.step hil (by intro p hp; simp only [List.mem_cons, List.not_mem_nil, or_false] at hp ⊢; rcases hp with rfl | rfl | rfl | rfl | rfl | rfl | rfl <;> first | exact .inl rfl | exact .inr ⟨by simp, by simp⟩), hp.same hil (by decide) (by decide) (by decide)⟩
        · have ho' := ho
          simp only [List.getElem?_toArray, List.getElem?_cons_zero, List.getElem?_cons_succ, Option.some.injEq] at ho'
          subst ho'
          refine wpOp_value ho rfl (v := .int .i64 j) (w' := wv) (by simp [execOp, Act.eval, go_sem]) ?_
          exact ⟨by simpa using hz, _, _, _, _, _, _, _, _, _, rfl, hd.step hil (by intro p hp; simp only [List.mem_cons, List.not_mem_nil, or_false] at hp ⊢; rcases hp with rfl | rfl | rfl | rfl | rfl | rfl | rfl <;> first | exact .inl rfl | exact .inr ⟨by simp, by simp⟩), hp.same hil (by decide) (by decide) (by decide)⟩
        · have ho' := ho
          simp only [List.getElem?_toArray, List.getElem?_cons_zero, List.getElem?_cons_succ, Option.some.injEq] at ho'
          subst ho'
          have e2 := hd (2, x23, .int .i64 j) (by simp) (hdep { on := 2, ground := .data } (by simp) rfl)
          simp only at e2
          refine wpOp_call ho rfl (f := 43) (args := #[.int .i64 j]) (w' := wv) (by simp [Act.eval, go_sem, e2]) ?_
          refine (itoa01 j (by omega) wv).mono ?_; rintro e9 w9 ⟨rfl, rfl⟩
          refine ⟨_, rfl, ?_⟩
          exact ⟨by simpa using hz, _, _, _, _, _, _, _, _, _, rfl, hd.step hil (by intro p hp; simp only [List.mem_cons, List.not_mem_nil, or_false] at hp ⊢; rcases hp with rfl | rfl | rfl | rfl | rfl | rfl | rfl <;> first | exact .inl rfl | exact .inr ⟨by simp, by simp⟩), hp.same hil (by decide) (by decide) (by decide)⟩
        · have ho' := ho
          simp only [List.getElem?_toArray, List.getElem?_cons_zero, List.getElem?_cons_succ, Option.some.injEq] at ho'
          subst ho'
          have e3 := hd (3, x24, .string (Cd.dig j)) (by simp) (hdep { on := 3, ground := .data } (by simp) rfl)
          simp only at e3
          refine wpOp_value ho rfl (v := .string (⟨#[107]⟩ ++ Cd.dig j)) (w' := wv) (by simp [execOp, Act.eval, go_sem, e3, Cd.dig_size]) ?_
          exact ⟨by simpa using hz, _, _, _, _, _, _, _, _, _, rfl, hd.step hil (by intro p hp; simp only [List.mem_cons, List.not_mem_nil, or_false] at hp ⊢; rcases hp with rfl | rfl | rfl | rfl | rfl | rfl | rfl <;> first | exact .inl rfl | exact .inr ⟨by simp, by simp⟩), hp.same hil (by decide) (by decide) (by decide)⟩
        · have ho' := ho
          simp only [List.getElem?_toArray, List.getElem?_cons_zero, List.getElem?_cons_succ, Option.some.injEq] at ho'
          subst ho'
          have e4 := hd (4, x25, .string (⟨#[107]⟩ ++ Cd.dig j)) (by simp) (hdep { on := 4, ground := .data } (by simp) rfl)
          simp only at e4
          refine wpOp_value ho rfl (v := .agg #[.string (⟨#[107]⟩ ++ Cd.dig j), .int .i64 0]) (w' := wv) (by simp [execOp, Act.eval, go_sem, e4]) ?_
          exact ⟨by simpa using hz, _, _, _, _, _, _, _, _, _, rfl, hd.step hil (by intro p hp; simp only [List.mem_cons, List.not_mem_nil, or_false] at hp ⊢; rcases hp with rfl | rfl | rfl | rfl | rfl | rfl | rfl <;> first | exact .inl rfl | exact .inr ⟨by simp, by simp⟩), hp.same hil (by decide) (by decide) (by decide)⟩
        · have ho' := ho
          simp only [List.getElem?_toArray, List.getElem?_cons_zero, List.getElem?_cons_succ, Option.some.injEq] at ho'
          subst ho'
          have e5 := hd (5, x26, .agg #[.string (⟨#[107]⟩ ++ Cd.dig j), .int .i64 0]) (by simp) (hdep { on := 5, ground := .data } (by simp) rfl)
          simp only at e5
          refine wpOp_value ho rfl (v := .slice (some ⟨wv.heap.size, 0, none⟩) 1 1) (w' := wv.alloc (.cells #[.string (⟨#[107]⟩ ++ Cd.dig j), .int .i64 0] 50 (0, 0))) (by simp [execOp, Act.eval, go_sem, e5]) ?_
          exact ⟨by simpa using hz, _, _, _, _, _, _, _, _, _, rfl, hd.step hil (by intro p hp; simp only [List.mem_cons, List.not_mem_nil, or_false] at hp ⊢; rcases hp with rfl | rfl | rfl | rfl | rfl | rfl | rfl <;> first | exact .inl rfl | exact .inr ⟨by simp, by simp⟩), hp.lit hil hnu (by decide) (by decide)⟩
        · have ho' := ho
          simp only [List.getElem?_toArray, List.getElem?_cons_zero, List.getElem?_cons_succ, Option.some.injEq] at ho'
          subst ho'
          have e1 := hd (1, x22, .slice (some ⟨gv, 0, none⟩) (j + 1) cv) (by simp) (hdep { on := 1, ground := .data } (by simp) rfl)
          simp only at e1
          have hub := hdep { on := 6, ground := .data } (by simp) rfl
          have hbf := hp.before hnu (by decide)
          obtain ⟨q, rfl, hq⟩ := hbf.2 hub
          refine wpOp_app_code ho rfl (.tmp 22) (.tmp 27) _ rfl w.heap.size 24 code_info (by omega) Tryd.underlying23 _ _ (by simp [Act.eval]; exact e1) hbf.1.own q (⟨#[107]⟩ ++ Cd.dig j) 0 (by simp [Act.eval]) hq (by rw [HKL.out]; omega) (Nat.le_trans hbf.1.gr.size (Nat.le_refl _)) ?_
          intro u9 w9 ho9 hg9
          exact ⟨by simpa using hz, _, _, _, _, _, _, _, _, _, rfl, hd.step hil (by intro p hp; simp only [List.mem_cons, List.not_mem_nil, or_false] at hp ⊢; rcases hp with rfl | rfl | rfl | rfl | rfl | rfl | rfl <;> first | exact .inl rfl | exact .inr ⟨by simp, by simp⟩), hp.app hil hnu (by decide) hub ho9 hg9⟩
        · have ho' := ho
          simp only [List.getElem?_toArray, List.getElem?_cons_zero, List.getElem?_cons_succ, Option.some.injEq] at ho'
          subst ho'
          refine wpOp_value ho rfl (v := .pointer (some ⟨f, 1, none⟩)) (w' := wv) (by simp [execOp, Act.eval, go_sem]) ?_
          exact ⟨by simpa using hz, _, _, _, _, _, _, _, _, _, rfl, hd.step hil (by intro p hp; simp only [List.mem_cons, List.not_mem_nil, or_false] at hp ⊢; rcases hp with rfl | rfl | rfl | rfl | rfl | rfl | rfl <;> first | exact .inl rfl | exact .inr ⟨by simp, by simp⟩), hp.same hil (by decide) (by decide) (by decide)⟩
        · have ho' := ho
          simp only [List.getElem?_toArray, List.getElem?_cons_zero, List.getElem?_cons_succ, Option.some.injEq] at ho'
          subst ho'
          have e8 := hd (8, x29, .pointer (some ⟨f, 1, none⟩)) (by simp) (hdep { on := 8, ground := .data } (by simp) rfl)
          simp only at e8
          have hall : ∀ k, k < 9 → up listed k := fun k hk => by
            rcases (show k = 0 ∨ k = 1 ∨ k = 2 ∨ k = 3 ∨ k = 4 ∨ k = 5 ∨ k = 6 ∨ k = 7 ∨ k = 8 by omega) with rfl | rfl | rfl | rfl | rfl | rfl | rfl | rfl | rfl
            · first | (refine hdep { on := 0, ground := .phase } ?_ rfl; simp; done) | (refine hdep { on := 0, ground := .data } ?_ rfl; simp; done)
            · first | (refine hdep { on := 1, ground := .phase } ?_ rfl; simp; done) | (refine hdep { on := 1, ground := .data } ?_ rfl; simp; done)
            · first | (refine hdep { on := 2, ground := .phase } ?_ rfl; simp; done) | (refine hdep { on := 2, ground := .data } ?_ rfl; simp; done)
            · first | (refine hdep { on := 3, ground := .phase } ?_ rfl; simp; done) | (refine hdep { on := 3, ground := .data } ?_ rfl; simp; done)
            · first | (refine hdep { on := 4, ground := .phase } ?_ rfl; simp; done) | (refine hdep { on := 4, ground := .data } ?_ rfl; simp; done)
            · first | (refine hdep { on := 5, ground := .phase } ?_ rfl; simp; done) | (refine hdep { on := 5, ground := .data } ?_ rfl; simp; done)
            · first | (refine hdep { on := 6, ground := .phase } ?_ rfl; simp; done) | (refine hdep { on := 6, ground := .data } ?_ rfl; simp; done)
            · first | (refine hdep { on := 7, ground := .phase } ?_ rfl; simp; done) | (refine hdep { on := 7, ground := .data } ?_ rfl; simp; done)
            · first | (refine hdep { on := 8, ground := .phase } ?_ rfl; simp; done) | (refine hdep { on := 8, ground := .data } ?_ rfl; simp; done)
          have hlb := hp.cell hnu
          obtain ⟨A9, n9, c9v, rfl⟩ := hp.form (hall 7 (by omega)) hnu
          have c9 := hlb.cell1
          have z9 := hlb.thaw 1
          refine wpOp_skip ho rfl (w' := wv.setCell ⟨f, 1, none⟩ (.slice A9 n9 c9v)) (by simp [execOp, Act.eval, go_sem, e8, c9, z9]) ?_
          exact ⟨by simpa using hz, _, _, _, _, _, _, _, _, _, rfl, hd.step hil (by intro p hp; simp only [List.mem_cons, List.not_mem_nil, or_false] at hp ⊢; rcases hp with rfl | rfl | rfl | rfl | rfl | rfl | rfl <;> exact .inr ⟨by simp, by simp⟩), hp.store hil hnu hall (by decide)⟩
      · rintro listed a wv ⟨hz, x21, x22, x23, x24, x25, x26, x27, x28, x29, rfl, hd, hp⟩ hr
        have hall := all_up2 hr hz (by decide)
        have hfin := hp.fin (hall 10 9 (by omega) (by simp))
        clear hall hr hd hp hz
        have HF := Lib.hid hfin
        clear hfin
        go_wp2_with fail
        go_roundw
        case rel => exact ⟨j + 1, _, by go_num, by omega, by rw [Cd.kids_succ]; exact HF.out⟩
        case measure => simp [intOf]; omega
    · obtain rfl : k = j := by omega
      have g1 : decide ((k : Int) < (k : Int)) = false := by simp
      have k0 := HI.out.box.cell0
      have r0 := HI.out.res.cell0
      have r1 := HI.out.res.cell1
      have rz0 := HI.out.res.thaw 0
      have rz1 := HI.out.res.thaw 1
      have hfr := HI.out.ne
      go_wp2_with fail
      refine (oneD 2 (by omega) (by omega) base g Y HI.out.cod).mono ?_; rintro e w6 ⟨b, rfl, hc6, hg6⟩
      have HI6 := Lib.hid (HI.out.turn hc6 hg6)
      clear hc6 hg6 k0 k1 kz r0 r1 rz0 rz1
      rcases b with _ | _
      · go_wp2_with fail
        go_loopw [8] (fun i wr => ∃ j v L, i = .int .i64 (j : Nat) ∧ j ≤ k ∧ Hid (LS base g f w.heap.size w.heap.size s w wr v L ∧ L ∈ Cd.stage k j)) (fun i _ => k - (intOf i).toNat)
        case atStart => exact ⟨0, _, _, rfl, by omega, HI6.out, by simp [Cd.stage]⟩
        case round =>
          rename World => V
          obtain ⟨j, v, L, rfl, hj, HJ⟩ := hrel
          by_cases hlt2 : j < k
          · have g2 : decide ((j : Int) < (k : Int)) = true := decide_eq_true (by omega)
            go_wp2_with fail
            refine (rangeD 1 2 (by omega) (by omega) (by omega) base g V HJ.out.1.cod).mono ?_; rintro e w7 ⟨m, rfl, hm1, hm2, hc7, hg7⟩
            have HJ7 := Lib.hid (HJ.out.1.turn hc7 hg7)
            obtain ⟨m, rfl⟩ := Int.eq_ofNat_of_zero_le (show 0 ≤ m by omega)
            clear hc7 hg7
            go_wp2_with fail
            go_loopw [9] (fun c wr => ∃ (t : Nat) (v : Value), c = .int .i64 t ∧ t ≤ m ∧ Hid (LS base g f w.heap.size w.heap.size s w wr v (Cd.addN j (m - t) L))) (fun c _ => (intOf c).toNat)
            case atStart => exact ⟨m, _, rfl, Nat.le_refl _, by rw [Nat.sub_self]; exact HJ7.out⟩
            case round =>
              rename World => U
              obtain ⟨t, v9, rfl, ht, HU⟩ := hrel
              by_cases ht0 : t = 0
              · subst ht0
                have HM := Lib.hid (show Cd.addN j (m - 0) L ∈ Cd.stage k (j + 1) by
                  simp only [Cd.stage, List.mem_flatMap]
                  refine ⟨L, HJ.out.2, ?_⟩
                  rcases (show m = 1 ∨ m = 2 by omega) with rfl | rfl <;> simp)
                go_wp2_with fail
                go_roundw
                case rel => exact ⟨j + 1, _, _, by go_num, by omega, HU.out, HM.out⟩
                case measure => simp [intOf]; omega
              · obtain ⟨n, hn⟩ : ∃ n, (Cd.addN j (m - t) L).length = n := ⟨_, rfl⟩
                have hn9 : 1 ≤ n ∧ n < 10 := by
                  have h1 := Cd.stage_len j L HJ.out.2
                  have h2 := Cd.stage_pos j L HJ.out.2
                  rw [Cd.addN_len] at hn
                  omega
                obtain ⟨gu, cu, rfl, _, _⟩ := HU.out.own.form hn hn9.1
                have HN := Lib.hid hn
                have g3 : decide ((0 : Int) < (t : Int)) = true := decide_eq_true (by omega)
                have g3' : decide (0 < t) = true := decide_eq_true (by omega)
                clear hn
                go_wp2_with fail
                have hw9 : IntKind.i64.wrap (1 + (j : Int)) = 1 + (j : Int) := by rw [IntKind.wrap_i64]; omega
                refine wp_region_inv (by kernel_rfl) (fun listed a wv => listed.size = 14 ∧ ∃ x44 x45 x46 x47 x48 x49 x50 x51 x52 x53 x54 x55 x56 : Value, a = ⟨#[Value.pointer (some { block := g, off := 0 }), Value.string s, undef, undef, Value.pointer (some { block := w.heap.size, off := 0 }), Value.pointer (some { block := f, off := 0 }), Value.int IntKind.i64 ↑k, Value.int IntKind.i64 ↑k, Value.int IntKind.i64 ↑j, Value.int IntKind.i64 ↑t, Value.string s, Value.agg #[Value.string { data := #[116, 111, 112] }, Value.int IntKind.i64 (-1)], Value.slice (some { block := gt, off := 0 }) 1 1, Value.agg #[Value.string s, Value.slice (some { block := gt, off := 0 }) 1 1], Value.pointer (some { block := g, off := 0 }), Value.int IntKind.i64 ↑k, Value.int IntKind.i64 ↑k, Value.int IntKind.i64 ↑k, Value.bool false, u19, u20, u21, u22, u23, u24, u25, u26, u27, u28, u29, Value.pointer (some { block := g, off := 0 }), Value.bool false, undef, Value.int IntKind.i64 ↑j, Value.int IntKind.i64 ↑k, Value.bool true, u36, u37, Value.pointer (some { block := g, off := 0 }), Value.int IntKind.i64 ↑m, Value.int IntKind.i64 ↑t, Value.bool true, u42, u43, x44, x45, x46, x47, x48, x49, x50, x51, x52, x53, x54, x55, x56, undef], []⟩ ∧ CF listed [(0, x44, .pointer (some ⟨f, 1, none⟩)), (1, x45, .slice (some ⟨gu, 0, none⟩) n cu), (2, x46, .pointer (some ⟨f, 1, none⟩)), (3, x47, .slice (some ⟨gu, 0, none⟩) n cu), (4, x48, .int .i64 n), (5, x49, .string (Cd.dig n)), (6, x50, .string (⟨#[108]⟩ ++ Cd.dig n)), (7, x51, .int .i64 j), (8, x52, .int .i64 (1 + (j : Int))), (9, x53, .agg #[.string (⟨#[108]⟩ ++ Cd.dig n), .int .i64 (1 + (j : Int))]), (12, x56, .pointer (some ⟨f, 1, none⟩))] ∧ PuI 10 11 13 base g f w.heap.size w.heap.size s w (.slice (some ⟨gu, 0, none⟩) n cu) (Cd.addN j (m - t) L) (⟨#[108]⟩ ++ Cd.dig n) (1 + (j : Int)) listed x54 x55 wv) (fun _ _ _ h => h.1) ?_ ?_ ?_
                · exact ⟨by simp, u44, u45, u46, u47, u48, u49, u50, u51, u52, u53, u54, u55, u56, rfl, CF.start, PuI.start HU.out⟩
                · rintro listed a wv i o ⟨hz, x44, x45, x46, x47, x48, x49, x50, x51, x52, x53, x54, x55, x56, rfl, hd, hp⟩ ho hdep hnu
                  have hi : i < 14 := by
                    rcases Nat.lt_or_ge i 14 with h | h
                    · exact h
                    · rw [Array.getElem?_eq_none (by simpa using h)] at ho; cases ho
                  have hil : i < listed.size := by omega
                  rcases (show i = 0 ∨ i = 1 ∨ i = 2 ∨ i = 3 ∨ i = 4 ∨ i = 5 ∨ i = 6 ∨ i = 7 ∨ i = 8 ∨ i = 9 ∨ i = 10 ∨ i = 11 ∨ i = 12 ∨ i = 13 by omega) with rfl | rfl | rfl | rfl | rfl | rfl | rfl | rfl | rfl | rfl | rfl | rfl | rfl | rfl
                  · have ho' := ho
                    simp only [List.getElem?_toArray, List.getElem?_cons_zero, Option.some.injEq] at ho'
                    subst ho'
                    refine wpOp_value ho rfl (v := .pointer (some ⟨f, 1, none⟩)) (w' := wv) (by simp [execOp, Act.eval, go_sem]) ?_
                    exact ⟨by simpa using hz, _, _, _, _, _, _, _, _, _, _, _, _, _, rfl, hd.step hil (by intro p hp; simp only [List.mem_cons, List.not_mem_nil, or_false] at hp ⊢; rcases hp with rfl | rfl | rfl | rfl | rfl | rfl | rfl | rfl | rfl | rfl | rfl <;> first | exact .inl rfl | exact .inr ⟨by simp, by simp⟩), hp.same hil (by decide) (by decide) (by decide)⟩
                  · have ho' := ho
                    simp only [List.getElem?_toArray, List.getElem?_cons_zero, List.getElem?_cons_succ, Option.some.injEq] at ho'
                    subst ho'
                    have e0 := hd (0, x44, .pointer (some ⟨f, 1, none⟩)) (by simp) (hdep { on := 0, ground := .data } (by simp) rfl)
                    simp only at e0
                    have hns : ¬ up listed 13 := fun h9 => hnu (by rcases hp with ⟨_, h2, _⟩ | ⟨_, h2, _⟩ | ⟨h1, _⟩; exact absurd h9 h2; exact absurd h9 h2; exact h1 1 (by omega))
                    have c9 := (hp.cell hns).cell1
                    refine wpOp_value ho rfl (v := .slice (some ⟨gu, 0, none⟩) n cu) (w' := wv) (by simp [execOp, Act.eval, go_sem, e0, c9]) ?_
                    exact ⟨by simpa using hz, _, _, _, _, _, _, _, _, _, _, _, _, _, rfl, hd.step hil (by intro p hp; simp only [List.mem_cons, List.not_mem_nil, or_false] at hp ⊢; rcases hp with rfl | rfl | rfl | rfl | rfl | rfl | rfl | rfl | rfl | rfl | rfl <;> first | exact .inl rfl | exact .inr ⟨by simp, by simp⟩), hp.same hil (by decide) (by decide) (by decide)⟩
                  · have ho' := ho
                    simp only [List.getElem?_toArray, List.getElem?_cons_zero, List.getElem?_cons_succ, Option.some.injEq] at ho'
                    subst ho'
                    refine wpOp_value ho rfl (v := .pointer (some ⟨f, 1, none⟩)) (w' := wv) (by simp [execOp, Act.eval, go_sem]) ?_
                    exact ⟨by simpa using hz, _, _, _, _, _, _, _, _, _, _, _, _, _, rfl, hd.step hil (by intro p hp; simp only [List.mem_cons, List.not_mem_nil, or_false] at hp ⊢; rcases hp with rfl | rfl | rfl | rfl | rfl | rfl | rfl | rfl | rfl | rfl | rfl <;> first | exact .inl rfl | exact .inr ⟨by simp, by simp⟩), hp.same hil (by decide) (by decide) (by decide)⟩
                  · have ho' := ho
                    simp only [List.getElem?_toArray, List.getElem?_cons_zero, List.getElem?_cons_succ, Option.some.injEq] at ho'
                    subst ho'
                    have e2 := hd (2, x46, .pointer (some ⟨f, 1, none⟩)) (by simp) (hdep { on := 2, ground := .data } (by simp) rfl)
                    simp only at e2
                    have hns : ¬ up listed 13 := fun h9 => hnu (by rcases hp with ⟨_, h2, _⟩ | ⟨_, h2, _⟩ | ⟨h1, _⟩; exact absurd h9 h2; exact absurd h9 h2; exact h1 3 (by omega))
                    have c9 := (hp.cell hns).cell1
                    refine wpOp_value ho rfl (v := .slice (some ⟨gu, 0, none⟩) n cu) (w' := wv) (by simp [execOp, Act.eval, go_sem, e2, c9]) ?_
                    exact ⟨by simpa using hz, _, _, _, _, _, _, _, _, _, _, _, _, _, rfl, hd.step hil (by intro p hp; simp only [List.mem_cons, List.not_mem_nil, or_false] at hp ⊢; rcases hp with rfl | rfl | rfl | rfl | rfl | rfl | rfl | rfl | rfl | rfl | rfl <;> first | exact .inl rfl | exact .inr ⟨by simp, by simp⟩), hp.same hil (by decide) (by decide) (by decide)⟩
                  · have ho' := ho
                    simp only [List.getElem?_toArray, List.getElem?_cons_zero, List.getElem?_cons_succ, Option.some.injEq] at ho'
                    subst ho'
                    have e3 := hd (3, x47, .slice (some ⟨gu, 0, none⟩) n cu) (by simp) (hdep { on := 3, ground := .data } (by simp) rfl)
                    simp only at e3
                    refine wpOp_value ho rfl (v := .int .i64 n) (w' := wv) (by simp [Act.eval, go_sem, e3]) ?_
                    exact ⟨by simpa using hz, _, _, _, _, _, _, _, _, _, _, _, _, _, rfl, hd.step hil (by intro p hp; simp only [List.mem_cons, List.not_mem_nil, or_false] at hp ⊢; rcases hp with rfl | rfl | rfl | rfl | rfl | rfl | rfl | rfl | rfl | rfl | rfl <;> first | exact .inl rfl | exact .inr ⟨by simp, by simp⟩), hp.same hil (by decide) (by decide) (by decide)⟩
                  · have ho' := ho
                    simp only [List.getElem?_toArray, List.getElem?_cons_zero, List.getElem?_cons_succ, Option.some.injEq] at ho'
                    subst ho'
                    have e4 := hd (4, x48, .int .i64 n) (by simp) (hdep { on := 4, ground := .data } (by simp) rfl)
                    simp only at e4
                    refine wpOp_call ho rfl (f := 43) (args := #[.int .i64 n]) (w' := wv) (by simp [Act.eval, go_sem, e4]) ?_
                    refine (itoa01 n hn9.2 wv).mono ?_; rintro e9 w9 ⟨rfl, rfl⟩
                    refine ⟨_, rfl, ?_⟩
                    exact ⟨by simpa using hz, _, _, _, _, _, _, _, _, _, _, _, _, _, rfl, hd.step hil (by intro p hp; simp only [List.mem_cons, List.not_mem_nil, or_false] at hp ⊢; rcases hp with rfl | rfl | rfl | rfl | rfl | rfl | rfl | rfl | rfl | rfl | rfl <;> first | exact .inl rfl | exact .inr ⟨by simp, by simp⟩), hp.same hil (by decide) (by decide) (by decide)⟩
                  · have ho' := ho
                    simp only [List.getElem?_toArray, List.getElem?_cons_zero, List.getElem?_cons_succ, Option.some.injEq] at ho'
                    subst ho'
                    have e5 := hd (5, x49, .string (Cd.dig n)) (by simp) (hdep { on := 5, ground := .data } (by simp) rfl)
                    simp only at e5
                    refine wpOp_value ho rfl (v := .string (⟨#[108]⟩ ++ Cd.dig n)) (w' := wv) (by simp [execOp, Act.eval, go_sem, e5, Cd.dig_size]) ?_
                    exact ⟨by simpa using hz, _, _, _, _, _, _, _, _, _, _, _, _, _, rfl, hd.step hil (by intro p hp; simp only [List.mem_cons, List.not_mem_nil, or_false] at hp ⊢; rcases hp with rfl | rfl | rfl | rfl | rfl | rfl | rfl | rfl | rfl | rfl | rfl <;> first | exact .inl rfl | exact .inr ⟨by simp, by simp⟩), hp.same hil (by decide) (by decide) (by decide)⟩
                  · have ho' := ho
                    simp only [List.getElem?_toArray, List.getElem?_cons_zero, List.getElem?_cons_succ, Option.some.injEq] at ho'
                    subst ho'
                    refine wpOp_value ho rfl (v := .int .i64 j) (w' := wv) (by simp [execOp, Act.eval, go_sem]) ?_
                    exact ⟨by simpa using hz, _, _, _, _, _, _, _, _, _, _, _, _, _, rfl, hd.step hil (by intro p hp; simp only [List.mem_cons, List.not_mem_nil, or_false] at hp ⊢; rcases hp with rfl | rfl | rfl | rfl | rfl | rfl | rfl | rfl | rfl | rfl | rfl <;> first | exact .inl rfl | exact .inr ⟨by simp, by simp⟩), hp.same hil (by decide) (by decide) (by decide)⟩
                  · have ho' := ho
                    simp only [List.getElem?_toArray, List.getElem?_cons_zero, List.getElem?_cons_succ, Option.some.injEq] at ho'
                    subst ho'
                    have e7 := hd (7, x51, .int .i64 j) (by simp) (hdep { on := 7, ground := .data } (by simp) rfl)
                    simp only at e7
                    refine wpOp_value ho rfl (v := .int .i64 (1 + (j : Int))) (w' := wv) (by simp [execOp, Act.eval, go_sem, e7, hw9]) ?_
                    exact ⟨by simpa using hz, _, _, _, _, _, _, _, _, _, _, _, _, _, rfl, hd.step hil (by intro p hp; simp only [List.mem_cons, List.not_mem_nil, or_false] at hp ⊢; rcases hp with rfl | rfl | rfl | rfl | rfl | rfl | rfl | rfl | rfl | rfl | rfl <;> first | exact .inl rfl | exact .inr ⟨by simp, by simp⟩), hp.same hil (by decide) (by decide) (by decide)⟩
                  · have ho' := ho
                    simp only [List.getElem?_toArray, List.getElem?_cons_zero, List.getElem?_cons_succ, Option.some.injEq] at ho'
                    subst ho'
                    have e6 := hd (6, x50, .string (⟨#[108]⟩ ++ Cd.dig n)) (by simp) (hdep { on := 6, ground := .data } (by simp) rfl)
                    simp only at e6
                    have e8 := hd (8, x52, .int .i64 (1 + (j : Int))) (by simp) (hdep { on := 8, ground := .data } (by simp) rfl)
                    simp only at e8
                    refine wpOp_value ho rfl (v := .agg #[.string (⟨#[108]⟩ ++ Cd.dig n), .int .i64 (1 + (j : Int))]) (w' := wv) (by simp [execOp, Act.eval, go_sem, e6, e8]) ?_
                    exact ⟨by simpa using hz, _, _, _, _, _, _, _, _, _, _, _, _, _, rfl, hd.step hil (by intro p hp; simp only [List.mem_cons, List.not_mem_nil, or_false] at hp ⊢; rcases hp with rfl | rfl | rfl | rfl | rfl | rfl | rfl | rfl | rfl | rfl | rfl <;> first | exact .inl rfl | exact .inr ⟨by simp, by simp⟩), hp.same hil (by decide) (by decide) (by decide)⟩
                  · have ho' := ho
                    simp only [List.getElem?_toArray, List.getElem?_cons_zero, List.getElem?_cons_succ, Option.some.injEq] at ho'
                    subst ho'
                    have e9 := hd (9, x53, .agg #[.string (⟨#[108]⟩ ++ Cd.dig n), .int .i64 (1 + (j : Int))]) (by simp) (hdep { on := 9, ground := .data } (by simp) rfl)
                    simp only at e9
                    refine wpOp_value ho rfl (v := .slice (some ⟨wv.heap.size, 0, none⟩) 1 1) (w' := wv.alloc (.cells #[.string (⟨#[108]⟩ ++ Cd.dig n), .int .i64 (1 + (j : Int))] 50 (0, 0))) (by simp [execOp, Act.eval, go_sem, e9]) ?_
                    exact ⟨by simpa using hz, _, _, _, _, _, _, _, _, _, _, _, _, _, rfl, hd.step hil (by intro p hp; simp only [List.mem_cons, List.not_mem_nil, or_false] at hp ⊢; rcases hp with rfl | rfl | rfl | rfl | rfl | rfl | rfl | rfl | rfl | rfl | rfl <;> first | exact .inl rfl | exact .inr ⟨by simp, by simp⟩), hp.lit hil hnu (by decide) (by decide)⟩
                  · have ho' := ho
                    simp only [List.getElem?_toArray, List.getElem?_cons_zero, List.getElem?_cons_succ, Option.some.injEq] at ho'
                    subst ho'
                    have e1 := hd (1, x45, .slice (some ⟨gu, 0, none⟩) n cu) (by simp) (hdep { on := 1, ground := .data } (by simp) rfl)
                    simp only at e1
                    have hub := hdep { on := 10, ground := .data } (by simp) rfl
                    have hbf := hp.before hnu (by decide)
                    obtain ⟨q, rfl, hq⟩ := hbf.2 hub
                    refine wpOp_app_code ho rfl (.tmp 45) (.tmp 54) _ rfl w.heap.size 24 code_info (by omega) Tryd.underlying23 _ _ (by simp [Act.eval]; exact e1) hbf.1.own q (⟨#[108]⟩ ++ Cd.dig n) (1 + (j : Int)) (by simp [Act.eval]) hq (by rw [HN.out]; omega) (Nat.le_trans hbf.1.gr.size (Nat.le_refl _)) ?_
                    intro u9 w9 ho9 hg9
                    exact ⟨by simpa using hz, _, _, _, _, _, _, _, _, _, _, _, _, _, rfl, hd.step hil (by intro p hp; simp only [List.mem_cons, List.not_mem_nil, or_false] at hp ⊢; rcases hp with rfl | rfl | rfl | rfl | rfl | rfl | rfl | rfl | rfl | rfl | rfl <;> first | exact .inl rfl | exact .inr ⟨by simp, by simp⟩), hp.app hil hnu (by decide) hub ho9 hg9⟩
                  · have ho' := ho
                    simp only [List.getElem?_toArray, List.getElem?_cons_zero, List.getElem?_cons_succ, Option.some.injEq] at ho'
                    subst ho'
                    refine wpOp_value ho rfl (v := .pointer (some ⟨f, 1, none⟩)) (w' := wv) (by simp [execOp, Act.eval, go_sem]) ?_
                    exact ⟨by simpa using hz, _, _, _, _, _, _, _, _, _, _, _, _, _, rfl, hd.step hil (by intro p hp; simp only [List.mem_cons, List.not_mem_nil, or_false] at hp ⊢; rcases hp with rfl | rfl | rfl | rfl | rfl | rfl | rfl | rfl | rfl | rfl | rfl <;> first | exact .inl rfl | exact .inr ⟨by simp, by simp⟩), hp.same hil (by decide) (by decide) (by decide)⟩
                  · have ho' := ho
                    simp only [List.getElem?_toArray, List.getElem?_cons_zero, List.getElem?_cons_succ, Option.some.injEq] at ho'
                    subst ho'
                    have e12 := hd (12, x56, .pointer (some ⟨f, 1, none⟩)) (by simp) (hdep { on := 12, ground := .data } (by simp) rfl)
                    simp only at e12
                    have hall : ∀ k, k < 13 → up listed k := fun k hk => by
                      rcases (show k = 0 ∨ k = 1 ∨ k = 2 ∨ k = 3 ∨ k = 4 ∨ k = 5 ∨ k = 6 ∨ k = 7 ∨ k = 8 ∨ k = 9 ∨ k = 10 ∨ k = 11 ∨ k = 12 by omega) with rfl | rfl | rfl | rfl | rfl | rfl | rfl | rfl | rfl | rfl | rfl | rfl | rfl
                      · first | (refine hdep { on := 0, ground := .phase } ?_ rfl; simp; done) | (refine hdep { on := 0, ground := .data } ?_ rfl; simp; done)
                      · first | (refine hdep { on := 1, ground := .phase } ?_ rfl; simp; done) | (refine hdep { on := 1, ground := .data } ?_ rfl; simp; done)
                      · first | (refine hdep { on := 2, ground := .phase } ?_ rfl; simp; done) | (refine hdep { on := 2, ground := .data } ?_ rfl; simp; done)
                      · first | (refine hdep { on := 3, ground := .phase } ?_ rfl; simp; done) | (refine hdep { on := 3, ground := .data } ?_ rfl; simp; done)
                      · first | (refine hdep { on := 4, ground := .phase } ?_ rfl; simp; done) | (refine hdep { on := 4, ground := .data } ?_ rfl; simp; done)
                      · first | (refine hdep { on := 5, ground := .phase } ?_ rfl; simp; done) | (refine hdep { on := 5, ground := .data } ?_ rfl; simp; done)
                      · first | (refine hdep { on := 6, ground := .phase } ?_ rfl; simp; done) | (refine hdep { on := 6, ground := .data } ?_ rfl; simp; done)
                      · first | (refine hdep { on := 7, ground := .phase } ?_ rfl; simp; done) | (refine hdep { on := 7, ground := .data } ?_ rfl; simp; done)
                      · first | (refine hdep { on := 8, ground := .phase } ?_ rfl; simp; done) | (refine hdep { on := 8, ground := .data } ?_ rfl; simp; done)
                      · first | (refine hdep { on := 9, ground := .phase } ?_ rfl; simp; done) | (refine hdep { on := 9, ground := .data } ?_ rfl; simp; done)
                      · first | (refine hdep { on := 10, ground := .phase } ?_ rfl; simp; done) | (refine hdep { on := 10, ground := .data } ?_ rfl; simp; done)
                      · first | (refine hdep { on := 11, ground := .phase } ?_ rfl; simp; done) | (refine hdep { on := 11, ground := .data } ?_ rfl; simp; done)
                      · first | (refine hdep { on := 12, ground := .phase } ?_ rfl; simp; done) | (refine hdep { on := 12, ground := .data } ?_ rfl; simp; done)
                    have hlb := hp.cell hnu
                    obtain ⟨A9, n9, c9v, rfl⟩ := hp.form (hall 11 (by omega)) hnu
                    have c9 := hlb.cell1
                    have z9 := hlb.thaw 1
                    refine wpOp_skip ho rfl (w' := wv.setCell ⟨f, 1, none⟩ (.slice A9 n9 c9v)) (by simp [execOp, Act.eval, go_sem, e12, c9, z9]) ?_
                    exact ⟨by simpa using hz, _, _, _, _, _, _, _, _, _, _, _, _, _, rfl, hd.step hil (by intro p hp; simp only [List.mem_cons, List.not_mem_nil, or_false] at hp ⊢; rcases hp with rfl | rfl | rfl | rfl | rfl | rfl | rfl | rfl | rfl | rfl | rfl <;> exact .inr ⟨by simp, by simp⟩), hp.store hil hnu hall (by decide)⟩
                · rintro listed a wv ⟨hz, x44, x45, x46, x47, x48, x49, x50, x51, x52, x53, x54, x55, x56, rfl, hd, hp⟩ hr
                  have hall := all_up2 hr hz (by decide)
                  have hfin := hp.fin (hall 14 13 (by omega) (by simp))
                  clear hall hr hd hp hz
                  have HF := Lib.hid hfin
                  have HAD := Lib.hid (show Cd.addN j (m - t) L ++ [⟨⟨#[108]⟩ ++ Cd.dig n, 1 + (j : Int)⟩] = Cd.addN j (m - (t - 1)) L by
                    rw [show m - (t - 1) = (m - t) + 1 by omega]
                    simp only [Cd.addN, Cd.add1]
                    rw [HN.out])
                  clear hfin
                  go_wp2_with fail
                  go_roundw
                  case rel => exact ⟨t - 1, _, by go_num, by omega, by rw [← HAD.out]; exact HF.out⟩
                  case measure => simp [intOf]; omega
          · obtain rfl : k = j := by omega
            have hlp := Cd.stage_pos k L HJ.out.2
            obtain ⟨n, hn⟩ : ∃ n, L.length = n := ⟨_, rfl⟩
            obtain ⟨gu, cu, rfl, _, _⟩ := HJ.out.1.own.form hn (by omega)
            have k0 := HJ.out.1.box.cell0
            have k1 := HJ.out.1.box.cell1
            have kz := HJ.out.1.box.thaw 1
            have r0 := HJ.out.1.res.cell0
            have r1 := HJ.out.1.res.cell1
            have rz0 := HJ.out.1.res.thaw 0
            have rz1 := HJ.out.1.res.thaw 1
            have HSH := Lib.hid (show L ∈ Cd.shapes by
              have h9 := HJ.out.2
              unfold Cd.shapes
              rcases (show k = 1 ∨ k = 2 ∨ k = 3 by omega) with rfl | rfl | rfl
              · exact List.mem_append_left _ (List.mem_append_left _ (List.mem_append_right _ h9))
              · exact List.mem_append_left _ (List.mem_append_right _ h9)
              · exact List.mem_append_right _ h9)
            clear hn hlp
            go_wp2_with fail
            obtain ⟨Z, hZ⟩ : ∃ Z : World, (V.setCell ⟨w.heap.size, 0, none⟩ (.string s)).setCell ⟨w.heap.size, 1, none⟩ (.slice (some ⟨gu, 0, none⟩) n cu) = Z := ⟨_, rfl⟩
            have hres := HJ.out.1.result hZ
            have z0 := hres.2.2.2.cell0
            have z1 := hres.2.2.2.cell1
            have HRES := Lib.hid hres
            rw [hZ]
            clear hZ hres k0 k1 kz r0 r1 rz0 rz1
            refine bodyPost_ret (v := .agg #[.string s, .slice (some ⟨gu, 0, none⟩) n cu]) (by simp [results, Tryd.results29, go_sem, z0, z1]) rfl ?_
            exact ⟨_, _, rfl, HRES.out.1, HSH.out, HRES.out.2.1, HRES.out.2.2.1⟩
      · have k0 := HI6.out.box.cell0
        have k1 := HI6.out.box.cell1
        have kz := HI6.out.box.thaw 1
        have r0 := HI6.out.res.cell0
        have r1 := HI6.out.res.cell1
        have rz0 := HI6.out.res.thaw 0
        have rz1 := HI6.out.res.thaw 1
        go_wp2_with fail
        obtain ⟨Z, hZ⟩ : ∃ Z : World, (w6.setCell ⟨w.heap.size, 0, none⟩ (.string s)).setCell ⟨w.heap.size, 1, none⟩ (.slice (some ⟨gv, 0, none⟩) (k + 1) cv) = Z := ⟨_, rfl⟩
        have hres := HI6.out.result hZ
        have z0 := hres.2.2.2.cell0
        have z1 := hres.2.2.2.cell1
        have HRES := Lib.hid hres
        rw [hZ]
        clear hZ hres k0 k1 kz r0 r1 rz0 rz1
        refine bodyPost_ret (v := .agg #[.string s, .slice (some ⟨gv, 0, none⟩) (k + 1) cv]) (by simp [results, Tryd.results29, go_sem, z0, z1]) rfl ?_
        exact ⟨_, _, rfl, HRES.out.1, by rcases (show k = 1 ∨ k = 2 ∨ k = 3 by omega) with rfl | rfl | rfl <;> simp [Cd.shapes], HRES.out.2.1, HRES.out.2.2.1⟩
end Go.Proofs.YtdlgfhegafnmcaaDoor
