/- Approvals: the law of the answers. -/
import Derived.Test.YtoomgbddfcmjnaaVe
import Derived.Test.YtoomgbddfcmjnaaVf
import Derived.Test.YtoomgbddfcmjnaaAq
namespace Go.Proofs.Ytoomgbddfcmjnaa
open Go.RowKit
theorem below_growV {w0 w w' : World} {g : Nat} (h : Below w0.heap.size w0 w) (hg : w.grownBy w' (some g)) (hgg : w0.heap.size ≤ g) : Below w0.heap.size w0 w' :=
  h.trans ⟨hg.os, hg.tape, hg.output, hg.size, fun j hj => hg.block j (Nat.lt_of_lt_of_le hj h.size) (fun e => by injection e with e; omega)⟩
/-- what the rest of the walk stands on: the call's box of x, the codes, two rows of its own -/
structure Rest (W : World) (B1 g B2 : Nat) (xp xr : ByteArray) (xf xu : Int) (vm : Value) (M : List Ap) (vo : Value) (O : List Ap) (w : World) : Prop where
  b : Below W.heap.size W w
  c : Cod w g g
  x : ApB w W.heap.size xp xr xf xu
  m : ROwn apRec w B1 vm M
  o : ROwn apRec w B2 vo O
  lo : W.heap.size < g
  hi : g < B1
  b12 : B1 ≤ B2
  mb : ∀ k, vm.ownBlock = some k → k < B2
  ml : M.length ≤ 12
  ol : O.length ≤ 12
theorem ApB.turn {w w' : World} {g : Nat} {p r : ByteArray} {f u : Int} {row : Option Nat} (h : ApB w g p r f u) (hg : w.grownBy w' row) (hne : row ≠ some g) : ApB w' g p r f u := by
  have hb : w'.heap[g]? = w.heap[g]? := hg.block g h.lt (fun e => hne e.symm)
  exact ⟨by have := h.lt; have := hg.size; omega, (World.cell?_of_block (a := ⟨g, 0, none⟩) hb).trans h.c0, (World.cell?_of_block (a := ⟨g, 1, none⟩) hb).trans h.c1, (World.cell?_of_block (a := ⟨g, 2, none⟩) hb).trans h.c2, (World.cell?_of_block (a := ⟨g, 3, none⟩) hb).trans h.c3, by obtain ⟨cs, h1, h2⟩ := h.blk; exact ⟨cs, h1, hb.trans h2⟩⟩
theorem own_ne {α : Type} {R : Rec α} {w : World} {base k : Nat} {v : Value} {L : List α} (h : ROwn R w base v L) (hk : k < base) : v.ownBlock = none ∨ v.ownBlock ≠ some k :=
  .inr fun e => by have := (World.ownsRow.lt h k e).1; omega
section
variable {W w w' : World} {B1 g B2 : Nat} {xp xr : ByteArray} {xf xu : Int} {vm vo : Value} {M O : List Ap}
theorem Rest.turn (h : Rest W B1 g B2 xp xr xf xu vm M vo O w) (hc : Cod w' g g) (hg : w.grownBy w' (some g)) : Rest W B1 g B2 xp xr xf xu vm M vo O w' :=
  ⟨h.b.grown hg h.b.size (fun k e => by injection e with e; have := h.lo; omega), hc, h.x.turn hg (fun e => by injection e with e; have := h.lo; omega), World.ownsRow.kept h.m hg (own_ne h.m h.hi), World.ownsRow.kept h.o hg (own_ne h.o (Nat.lt_of_lt_of_le h.hi h.b12)), h.lo, h.hi, h.b12, h.mb, h.ml, h.ol⟩
theorem Rest.keep (h : Rest W B1 g B2 xp xr xf xu vm M vo O w) (hb : Below w.heap.size w w') : Rest W B1 g B2 xp xr xf xu vm M vo O w' :=
  ⟨h.b.trans (hb.mono h.b.size), h.c.below hb, h.x.keep hb, h.m.below hb, h.o.below hb, h.lo, h.hi, h.b12, h.mb, h.ml, h.ol⟩
theorem Rest.odd (h : Rest W B1 g B2 xp xr xf xu vm M vo O w) {row : Option Nat} (hg : w.grownBy w' row) (hr : ∀ k, row = some k → B2 ≤ k) {vo' : Value} {O' : List Ap} (ho : ROwn apRec w' B2 vo' O') (hl : O'.length ≤ 12) : Rest W B1 g B2 xp xr xf xu vm M vo' O' w' :=
  ⟨h.b.grown hg h.b.size (fun k e => by have := hr k e; have := h.lo; have := h.hi; have := h.b12; omega), h.c.grown hg (fun k e => by have := hr k e; have := h.hi; have := h.b12; omega), h.x.turn hg (fun e => by have := hr _ e; have := h.lo; have := h.hi; have := h.b12; omega), World.ownsRow.kept h.m hg (by
    cases hv : vm.ownBlock with
    | none => exact .inl rfl
    | some k => exact .inr fun e => by have := h.mb k hv; have := hr k e.symm; omega), ho, h.lo, h.hi, h.b12, h.mb, h.ml, hl⟩
end
theorem own_row {w w' : World} {base : Nat} {A : Option Addr} {n c : Nat} {L : List Ap} (h : ROwn apRec w base (.slice A n c) L) (hb : Below w.heap.size w w') : RRow apRec w' w'.heap.size A n c L := by
  obtain ⟨A1, n1, c1, e, _, hr⟩ := (h.below hb).row
  injection e with e1 e2 e3
  subst e1 e2 e3
  exact hr
theorem actV_eqV (o : Option Ap) : actV o = .tuple #[apV (o.getD Ap0), .bool o.isSome] := by cases o <;> rfl
theorem three_atV {X : World} {b : Nat} {s0 s1 s2 : ByteArray} {T : TypeId} (h : X.heap[b]? = some (.cells #[.string s0, .string s1, .string s2] T (0, 0))) : b < X.heap.size ∧ ∀ j, j < 3 → ∃ s, X.cell? ⟨b, j, none⟩ = some (.string s) := by
  refine ⟨(Array.getElem?_eq_some_iff.1 h).1, fun j hj => ?_⟩
  rcases (show j = 0 ∨ j = 1 ∨ j = 2 by omega) with rfl | rfl | rfl
  · exact ⟨s0, by simp [World.cell?, h]⟩
  · exact ⟨s1, by simp [World.cell?, h]⟩
  · exact ⟨s2, by simp [World.cell?, h]⟩
theorem two_atV {X : World} {b : Nat} {x y : Int} {T : TypeId} (h : X.heap[b]? = some (.cells #[.int .i64 x, .int .i64 y] T (0, 0))) : b < X.heap.size ∧ ∀ j, j < 2 → ∃ z, X.cell? ⟨b, j, none⟩ = some (.int .i64 z) := by
  refine ⟨(Array.getElem?_eq_some_iff.1 h).1, fun j hj => ?_⟩
  rcases (show j = 0 ∨ j = 1 by omega) with rfl | rfl
  · exact ⟨x, by simp [World.cell?, h]⟩
  · exact ⟨y, by simp [World.cell?, h]⟩
theorem two_aps {X : World} {b : Nat} {p0 r0 p1 r1 : ByteArray} {f0 u0 f1 u1 : Int} {T : TypeId} (h : X.heap[b]? = some (.cells #[.string p0, .string r0, .int .i64 f0, .int .i64 u0, .string p1, .string r1, .int .i64 f1, .int .i64 u1] T (0, 0))) :
    b < X.heap.size ∧ ∀ m, m < 2 → ∃ p r f u, X.cell? ⟨b, m * 4, none⟩ = some (.string p) ∧ X.cell? ⟨b, m * 4 + 1, none⟩ = some (.string r) ∧ X.cell? ⟨b, m * 4 + 2, none⟩ = some (.int .i64 f) ∧ X.cell? ⟨b, m * 4 + 3, none⟩ = some (.int .i64 u) := by
  refine ⟨(Array.getElem?_eq_some_iff.1 h).1, fun m hm => ?_⟩
  rcases (show m = 0 ∨ m = 1 by omega) with rfl | rfl
  · exact ⟨p0, r0, f0, u0, by simp [World.cell?, h], by simp [World.cell?, h], by simp [World.cell?, h], by simp [World.cell?, h]⟩
  · exact ⟨p1, r1, f1, u1, by simp [World.cell?, h], by simp [World.cell?, h], by simp [World.cell?, h], by simp [World.cell?, h]⟩
theorem two_prs {X : World} {b : Nat} {x0 y0 x1 y1 : Int} {T : TypeId} (h : X.heap[b]? = some (.cells #[.int .i64 x0, .int .i64 y0, .int .i64 x1, .int .i64 y1] T (0, 0))) :
    b < X.heap.size ∧ ∀ m, m < 2 → ∃ x y, X.cell? ⟨b, m * 2, none⟩ = some (.int .i64 x) ∧ X.cell? ⟨b, m * 2 + 1, none⟩ = some (.int .i64 y) := by
  refine ⟨(Array.getElem?_eq_some_iff.1 h).1, fun m hm => ?_⟩
  rcases (show m = 0 ∨ m = 1 by omega) with rfl | rfl
  · exact ⟨x0, y0, by simp [World.cell?, h], by simp [World.cell?, h]⟩
  · exact ⟨x1, y1, by simp [World.cell?, h], by simp [World.cell?, h]⟩
theorem pr_box (w : World) (x y : Int) (T : TypeId) : ∃ X : World, w.alloc (.cells #[.int .i64 x, .int .i64 y] T) = X ∧ Hid (Below w.heap.size w X ∧ w.heap.size < X.heap.size ∧ X.cell? ⟨w.heap.size, 0, none⟩ = some (.int .i64 x) ∧ X.cell? ⟨w.heap.size, 1, none⟩ = some (.int .i64 y)) :=
  ⟨_, rfl, below_one _, by simp, by simp [go_sem], by simp [go_sem]⟩
theorem rows_at {w : World} {g : Nat} {ty : TypeId} {A1 A2 A3 : Option Addr} {n1 n2 n3 c1 c2 c3 : Nat} {L1 L2 L3 : List Ap} (h : w.heap[g]? = some (.cells #[.slice A1 n1 c1, .slice A2 n2 c2, .slice A3 n3 c3] ty (0, 0)))
    (h1 : RRow apRec w w.heap.size A1 n1 c1 L1) (l1 : n1 ≤ 900) (h2 : RRow apRec w w.heap.size A2 n2 c2 L2) (l2 : L2.length ≤ 900) (h3 : RRow apRec w w.heap.size A3 n3 c3 L3) (l3 : L3.length ≤ 900) :
    g < w.heap.size ∧ ∀ k, k < 3 → ∃ Ar nr cr Lr, w.cell? ⟨g, k, none⟩ = some (.slice Ar nr cr) ∧ RRow apRec w w.heap.size Ar nr cr Lr ∧ nr ≤ 900 := by
  refine ⟨(Array.getElem?_eq_some_iff.1 h).1, fun k hk => ?_⟩
  have hc : k = 0 ∨ k = 1 ∨ k = 2 := by omega
  rcases hc with rfl | rfl | rfl
  · exact ⟨A1, n1, c1, L1, by simp [World.cell?, h], h1, l1⟩
  · exact ⟨A2, n2, c2, L2, by simp [World.cell?, h], h2, by rw [← h2.len]; exact l2⟩
  · exact ⟨A3, n3, c3, L3, by simp [World.cell?, h], h3, by rw [← h3.len]; exact l3⟩
set_option maxHeartbeats 6400000 in
set_option maxRecDepth 100000 in
set_option pp.maxSteps 1000000 in
set_option pp.deepTerms true in
theorem walkAnswers39 (W : World) (A : Option Addr) (n c : Nat) (L : List Ap) (h : RRow apRec W W.heap.size A n c L) (xp xr : ByteArray) (xf xu : Int) (s : ByteArray) (t : Int) (_ : -9223372036854775808 ≤ t) (_ : t ≤ 9223372036854775807) (u : Int) (_ : -9223372036854775808 ≤ u) (_ : u ≤ 9223372036854775807)
    (A1 : Option Addr) (n1 c1 : Nat) (l : List Int) (h1 : Nums W .u8 W.heap.size A1 n1 c1 l) (q : Int) (_ : -9223372036854775808 ≤ q) (_ : q ≤ 9223372036854775807) :
    Calls Try.prog 10 #[.slice A n c, .agg #[.string xp, .string xr, .int .i64 xf, .int .i64 xu], .string s, .int .i64 t, .int .i64 u, .slice A1 n1 c1, .int .i64 q] W fun e w => e = .returned (.bool true) ∧ Below W.heap.size W w := by
  have H := Lib.hid h
  have H1 := Lib.hid h1
  obtain ⟨X0, hX0, HX0⟩ := ap_boxB W xp xr xf xu
  obtain ⟨_, e0, e1, e2, e3, _⟩ := HX0.out.2
  have hcm : c ≤ 9223372036854775807 := h.max
  have hcc := h.cap
  clear h h1
  by_cases h70 : 70 < n
  · have g1 : decide ((70 : Int) < (n : Int)) = true := decide_eq_true (by omega)
    go_enter Try.func10, Try.ntmps10
    go_wp2_with fail
    refine (awake39 X0).mono ?_; rintro e w9 ⟨rfl, hb9⟩
    have HB9 := Lib.hid (HX0.out.1.trans (hb9.mono HX0.out.1.size))
    clear hb9
    go_wp2_with fail
    go_ret
    exact ⟨rfl, HB9.out⟩
  have g1 : decide ((70 : Int) < (n : Int)) = false := decide_eq_false (by omega)
  by_cases h100 : 100 < s.size
  · have g2 : decide ((100 : Int) < (s.size : Int)) = true := decide_eq_true (by omega)
    go_enter Try.func10, Try.ntmps10
    go_wp2_with fail
    refine (awake39 X0).mono ?_; rintro e w9 ⟨rfl, hb9⟩
    have HB9 := Lib.hid (HX0.out.1.trans (hb9.mono HX0.out.1.size))
    clear hb9
    go_wp2_with fail
    go_ret
    exact ⟨rfl, HB9.out⟩
  have g2 : decide ((100 : Int) < (s.size : Int)) = false := decide_eq_false (by omega)
  go_enter Try.func10, Try.ntmps10
  go_wp2_with fail
  -- REST
  refine (new_any A1 n1 c1 l X0 (H1.out.keep HX0.out.1 HX0.out.1.size)).mono ?_; rintro e w1 ⟨rfl, hc1, hb1⟩
  have HB1 := Lib.hid hb1
  have HC1 := Lib.hid hc1
  have HX1 := Lib.hid (HX0.out.2.keep hb1)
  clear hb1 hc1 H1 e0 e1 e2 e3 hX0
  go_wp2_with fail
  refine (approvals9 _ _ w1 HC1.out).mono ?_; rintro e w2 ⟨v, M, rfl, ho, hok, h6, hc2, hg2⟩
  have HLT := Lib.hid (show X0.heap.size < w1.heap.size ∧ w1.heap.size ≤ w2.heap.size from ⟨HC1.out.lt.1, hg2.size⟩)
  have HB2 := Lib.hid (below_growV HB1.out hg2 (Nat.le_refl _))
  obtain ⟨Am, nm, cm, rfl, hnm, hr⟩ := ho.row
  have HNM := Lib.hid hnm
  have HM6 := Lib.hid (show nm ≤ 6 by omega)
  have HC2 := Lib.hid hc2
  have HO2 := Lib.hid ho
  have HMO := Lib.hid (ho.below (below_one (.cells #[] 74)))
  have HMR := Lib.hid (hr.keep (below_one (.cells #[] 74)) (below_one (.cells #[] 74)).size)
  have HEM := Lib.hid (emptyAp w2)
  have HLN := Lib.hid (show ([] : List Ap).length + nm ≤ 1000 by simp; omega)
  clear ho hok h6 hc2 hg2 hr hnm HC1 HB1
  have HR2 := Lib.hid (show Rest W w1.heap.size X0.heap.size w2.heap.size xp xr xf xu (.slice Am nm cm) M (.slice none 0 0) [] w2 from
    ⟨HX0.out.1.trans (HB2.out.mono HX0.out.1.size), HC2.out, HX0.out.2.keep HB2.out, HO2.out, ROwn.nil _ _, HX0.out.2.lt, HLT.out.1, HLT.out.2, fun k e => (World.ownsRow.lt HO2.out k e).2, by have := HM6.out; have := HNM.out; omega, by simp⟩)
  clear HO2 HMO HC2 HLT
  go_wp2_with (at_builtin; rename_i K0 a0; have A0 := Lib.hid a0; clear a0; refine app_recs _ apRec rfl (.tmp 59) (.tmp 60) _ rfl w2.heap.size (.agg #[.string ⟨#[]⟩, .string ⟨#[]⟩, .int .i64 0, .int .i64 0]) 48 ap_info rfl (by decide) Try.underlying72 (.slice (some ⟨w2.heap.size, 0, none⟩) 0 0) [] rfl HEM.out _ Am nm cm M rfl HMR.out HLN.out (by simp) ?_; intro v3 w3 hown3 hgrow3; obtain ⟨A3, n3, c3, rfl, hn3, hr3⟩ := hown3.row; obtain rfl : n3 = nm := (by rw [hn3, HNM.out]; rfl); have HR := Lib.hid ((HR2.out.keep (below_one (.cells #[] 74))).odd hgrow3 (fun k e => by simp [Value.ownBlock] at e; omega) hown3 (by have := HM6.out; have := HNM.out; simp; omega)); clear hown3 hgrow3 hr3 hn3 HR2 HMR HEM HLN)
  refine A0.out _ _ ?_
  clear A0
  refine wp_seq_k (fun K HK => ?_)
  have REST : ∀ (v18 v64 v65 v66 v67 v68 v69 v70 v71 v72 v73 v74 v75 v76 v77 v78 v79 v80 v81 v82 v83 v84 v85 v86 v87 v88 v89 v90 v91 v92 v93 v94 v95 v96 v97 v98 v99 : Value) (A4 : Option Addr) (n4 c4 : Nat) (O : List Ap) (w5 : World), Hid (Rest W w1.heap.size X0.heap.size w2.heap.size xp xr xf xu (.slice Am n3 cm) M (.slice A4 n4 c4) O w5) → K { tmps := #[Value.slice A n c, .agg #[.string xp, .string xr, .int .i64 xf, .int .i64 xu], Value.string s, Value.int IntKind.i64 t, Value.int IntKind.i64 u, Value.slice A1 n1 c1, Value.int IntKind.i64 q, undef, Value.pointer (some { block := W.heap.size, off := 0 }), undef, undef, undef, undef, undef, Value.bool false, Value.pointer (some { block := X0.heap.size, off := 0 }), Value.slice Am n3 cm, .slice A4 n4 c4, v18, undef, undef, undef, undef, undef, undef, undef, undef, undef, undef, undef, undef, undef, undef, undef, undef, undef, undef, undef, undef, undef, undef, undef, undef, undef, undef, undef, Value.slice A n c, Value.int IntKind.i64 ↑n, Value.bool false, Value.bool false, Value.string s, Value.int IntKind.i64 ↑s.size, Value.bool false, Value.bool false, undef, Value.slice A1 n1 c1, Value.pointer (some { block := X0.heap.size, off := 0 }), Value.pointer (some { block := X0.heap.size, off := 0 }), Value.slice Am n3 cm, Value.slice (some { block := w2.heap.size, off := 0 }) 0 0, Value.slice Am n3 cm, Value.slice A3 n3 c3, Value.slice A3 n3 c3, Value.int IntKind.i64 ↑n3, v64, v65, v66, v67, v68, v69, v70, v71, v72, v73, v74, v75, v76, v77, v78, v79, v80, v81, v82, v83, v84, v85, v86, v87, v88, v89, v90, v91, v92, v93, v94, v95, v96, v97, v98, v99, undef, undef, undef, undef, undef, undef, undef, undef, undef, undef, undef, undef, undef, undef, undef, undef, undef, undef, undef, undef, undef, undef, undef, undef, undef, undef, undef, undef, undef, undef, undef, undef, undef, undef, undef, undef, undef, undef, undef, undef, undef, undef, undef, undef, undef, undef, undef, undef, undef, undef, undef, undef, undef, undef, undef, undef, undef, undef, undef, undef, undef, undef, undef, undef, undef, undef, undef, undef, undef, undef, undef, undef, undef, undef, undef, undef, undef, undef, undef, undef, undef, undef, undef, undef, undef, undef, undef, undef, undef, undef, undef, undef, undef, undef, undef, undef, undef, undef, undef, undef, undef, undef, undef, undef, undef, undef, undef, undef, undef, undef, undef, undef, undef, undef, undef, undef, undef, undef, undef, undef, undef, undef, undef, undef, undef, undef, undef, undef, undef, undef, undef, undef, undef, undef, undef, undef, undef, undef, undef, undef, undef, undef, undef, undef, undef, undef, undef, undef, undef, undef, undef, undef, undef, undef, undef, undef, undef, undef, undef, undef, undef, undef, undef], defers := [] } w5 := by
    intro v18 v64 v65 v66 v67 v68 v69 v70 v71 v72 v73 v74 v75 v76 v77 v78 v79 v80 v81 v82 v83 v84 v85 v86 v87 v88 v89 v90 v91 v92 v93 v94 v95 v96 v97 v98 v99 A4 n4 c4 O w5 HR5
    apply HK
    clear HK HR K0
    go_wp2_with fail
    refine (name9 _ _ w5 HR5.out.c).mono ?_; rintro e w6 ⟨who, rfl, hc, hg⟩
    have HR6 := Lib.hid (HR5.out.turn hc hg)
    clear hc hg HR5
    go_wp2_with fail
    refine (next_any 30 (by decide) (by decide) _ _ w6 HR6.out.c).mono ?_; rintro e w7 ⟨yf, rfl, _, _, _, hc, hg⟩
    have HR7 := Lib.hid (HR6.out.turn hc hg)
    clear hc hg HR6
    go_wp2_with fail
    refine (next_any 45 (by decide) (by decide) _ _ w7 HR7.out.c).mono ?_; rintro e w8 ⟨yu, rfl, hu0, hu1, _, hc, hg⟩
    have HR8 := Lib.hid (HR7.out.turn hc hg)
    clear hc hg HR7 hu0 hu1
    obtain ⟨Y8, hY8, HY8⟩ := ap_boxB w8 ⟨#[112, 49]⟩ who yf yu
    have HRY := Lib.hid (HR8.out.keep HY8.out.1)
    obtain ⟨X9, hX9⟩ : ∃ X : World, Y8.alloc (.cells #[.slice A n c, .slice Am n3 cm, .slice A4 n4 c4] 72) = X := ⟨_, rfl⟩
    have hb9 : Below Y8.heap.size Y8 X9 := by rw [← hX9]; exact below_one _
    have HROWS := Lib.hid (rows_at (show X9.heap[Y8.heap.size]? = some (.cells #[.slice A n c, .slice Am n3 cm, .slice A4 n4 c4] 72 (0, 0)) by rw [← hX9]; exact heap_alloc_new _ _)
      ((H.out.keep HRY.out.b HRY.out.b.size).keep hb9 hb9.size) (by omega) (own_row HRY.out.m hb9) (by have := HRY.out.ml; omega) (own_row HRY.out.o hb9) (by have := HRY.out.ol; omega))
    have HXB := Lib.hid (HRY.out.x.keep hb9)
    have HYB := Lib.hid (HY8.out.2.keep hb9)
    have HB9 := Lib.hid (HRY.out.b.trans (hb9.mono HRY.out.b.size))
    clear HR8 HRY H HX0 HY8 hb9 hcm hcc h70 h100
    go_wp2_with fail
    first | rw [hX9] | skip
    clear hX9 hY8
    generalize Y8.heap.size = b9 at *
    generalize w8.heap.size = b8 at *
    go_loopw [112] (fun iv wr => ∃ i : Nat, i ≤ 3 ∧ iv = .int .i64 i ∧ Hid (Below X9.heap.size X9 wr)) (fun iv _ => 3 - (intOf iv).toNat)
    case atStart => exact ⟨0, by omega, rfl, Below.refl _ _⟩
    case round =>
      rename World => Z
      obtain ⟨i, hi, rfl, HZ⟩ := hrel
      by_cases hi3 : i < 3
      · have gi : decide ((i : Int) < 3) = true := decide_eq_true (by omega)
        have i1 : (0 : Int) ≤ (i : Int) := by omega
        have i2 : (i : Int) < 3 := by omega
        obtain ⟨Ar, nr, cr, Lr, hq, hr, hn9⟩ := HROWS.out.2 i hi3
        have hq := (HZ.out.cell HROWS.out.1).trans hq
        have HR := Lib.hid (hr.keep HZ.out HZ.out.size)
        have HN9 := Lib.hid hn9
        clear hr hn9 HROWS
        go_wp2_with fail
        clear hq
        refine (check39 Ar nr cr Lr Z HR.out).mono ?_; rintro e w1 ⟨rfl, hb⟩
        have HR1 := Lib.hid (HR.out.keep hb hb.size)
        have HZ1 := Lib.hid (HZ.out.trans (hb.mono HZ.out.size))
        clear hb HR HZ
        go_wp2_with fail
        refine (rcheck39 Ar nr cr Lr w1 HR1.out).mono ?_; rintro e w2 ⟨rfl, hb⟩
        have HR2 := Lib.hid (HR1.out.keep hb hb.size)
        have HZ2 := Lib.hid (HZ1.out.trans (hb.mono HZ1.out.size))
        clear hb HR1 HZ1
        obtain ⟨o, ho⟩ : ∃ o, Ap.chk Lr = o := ⟨_, rfl⟩
        have go' : (o != o) = false := by simp
        rw [ho]
        clear ho
        obtain ⟨X3, hX3⟩ : ∃ X : World, w2.alloc (.cells #[.string s, .string ⟨#[112, 48]⟩, .string ⟨#[112, 49]⟩] 9) = X := ⟨_, rfl⟩
        have hbx : Below w2.heap.size w2 X3 := by rw [← hX3]; exact below_one _
        have HS3 := Lib.hid (three_atV (show X3.heap[w2.heap.size]? = some (.cells #[.string s, .string ⟨#[112, 48]⟩, .string ⟨#[112, 49]⟩] 9 (0, 0)) by rw [← hX3]; exact heap_alloc_new _ _))
        have HR3 := Lib.hid (HR2.out.keep hbx hbx.size)
        have HZ3 := Lib.hid (HZ2.out.trans (hbx.mono HZ2.out.size))
        clear hbx HR2 HZ2
        go_wp2_with fail
        clear hX3
        generalize w2.heap.size = b3 at *
        go_loopw [124] (fun iv wr => ∃ k : Nat, k ≤ 3 ∧ iv = .int .i64 k ∧ Hid (Below X3.heap.size X3 wr)) (fun iv _ => 3 - (intOf iv).toNat)
        case atStart => exact ⟨0, by omega, rfl, Below.refl _ _⟩
        case round =>
          rename World => V
          obtain ⟨k, hk, rfl, HV⟩ := hrel
          by_cases hk3 : k < 3
          · have gk : decide ((k : Int) < 3) = true := decide_eq_true (by omega)
            have k1 : (0 : Int) ≤ (k : Int) := by omega
            have k2 : (k : Int) < 3 := by omega
            obtain ⟨p, hp⟩ := HS3.out.2 k hk3
            have hp := (HV.out.cell HS3.out.1).trans hp
            go_wp2_with fail
            clear hp
            refine (mod_any t 50 V (by decide) (by decide)).mono ?_; rintro e wz ⟨rfl, rfl⟩
            obtain ⟨X5, hX5⟩ : ∃ X : World, V.alloc (.cells #[.int .i64 t, .int .i64 (t % 50)] 3) = X := ⟨_, rfl⟩
            have hbx : Below V.heap.size V X5 := by rw [← hX5]; exact below_one _
            have HS5 := Lib.hid (two_atV (show X5.heap[V.heap.size]? = some (.cells #[.int .i64 t, .int .i64 (t % 50)] 3 (0, 0)) by rw [← hX5]; exact heap_alloc_new _ _))
            have HV5 := Lib.hid (HV.out.trans (hbx.mono HV.out.size))
            have HR5 := Lib.hid (HR3.out.keep HV5.out HV5.out.size)
            clear hbx HV
            go_wp2_with fail
            clear hX5
            generalize V.heap.size = b5 at *
            go_loopw [133] (fun iv wr => ∃ m : Nat, m ≤ 2 ∧ iv = .int .i64 m ∧ Hid (Below X5.heap.size X5 wr)) (fun iv _ => 2 - (intOf iv).toNat)
            case atStart => exact ⟨0, by omega, rfl, Below.refl _ _⟩
            case round =>
              rename World => G
              obtain ⟨m, hm, rfl, HG⟩ := hrel
              by_cases hm2 : m < 2
              · have gm : decide ((m : Int) < 2) = true := decide_eq_true (by omega)
                have m1 : (0 : Int) ≤ (m : Int) := by omega
                have m2 : (m : Int) < 2 := by omega
                obtain ⟨z, hz⟩ := HS5.out.2 m hm2
                have hz := (HG.out.cell HS5.out.1).trans hz
                have HRG := Lib.hid (HR5.out.keep HG.out HG.out.size)
                go_wp2_with fail
                clear hz
                refine (active39 Ar nr cr Lr p z G HRG.out).mono ?_; rintro e v1 ⟨rfl, hb⟩
                have HG1 := Lib.hid (HG.out.trans (hb.mono HG.out.size))
                have HRG1 := Lib.hid (HRG.out.keep hb hb.size)
                clear hb HG HRG
                obtain ⟨ac, hac⟩ : ∃ ac, Ap.act Lr p z = ac := ⟨_, rfl⟩
                rw [hac, actV_eqV]
                obtain ⟨⟨yp, yr, yf9, yu9⟩, hxv⟩ : ∃ x, ac.getD Ap0 = x := ⟨_, rfl⟩
                obtain ⟨ok, hok⟩ : ∃ ok, ac.isSome = ok := ⟨_, rfl⟩
                rw [hxv, hok]
                obtain ⟨v2, hv2, HV2⟩ := ap_boxB v1 yp yr yf9 yu9
                have HG2 := Lib.hid (HG1.out.trans (HV2.out.1.mono HG1.out.size))
                have HRG2 := Lib.hid (HRG1.out.keep HV2.out.1 HV2.out.1.size)
                have HVV := Lib.hid (show actV (Ap.act Lr p z) = .tuple #[.agg #[.string yp, .string yr, .int .i64 yf9, .int .i64 yu9], .bool ok] by rw [hac, actV_eqV, hxv, hok]; rfl)
                clear hac hxv hok HG1 HRG1
                simp only [apV]
                go_wp2_with fail
                first | rw [hv2] | skip
                refine (ractive39 Ar nr cr Lr p z v2 HRG2.out).mono ?_; rintro e v3 ⟨rfl, hb⟩
                rw [HVV.out]
                have HG3 := Lib.hid (HG2.out.trans (hb.mono HG2.out.size))
                have HRG3 := Lib.hid (HRG2.out.keep hb hb.size)
                have HE3 := Lib.hid (HV2.out.2.keep hb)
                clear hb HG2 HRG2 HV2 hv2 HVV
                obtain ⟨v4, hv4, HV4⟩ := ap_boxB v3 yp yr yf9 yu9
                have HG4 := Lib.hid (HG3.out.trans (HV4.out.1.mono HG3.out.size))
                have HRG4 := Lib.hid (HRG3.out.keep HV4.out.1 HV4.out.1.size)
                have HE4 := Lib.hid (HE3.out.keep HV4.out.1)
                have HD4 := Lib.hid HV4.out.2
                clear HV4 HG3 HRG3 HE3
                go_wp2_with fail
                clear hv4
                generalize v1.heap.size = b1 at *
                generalize v3.heap.size = b2 at *
                refine (end39 Ar nr cr Lr p z v4 HRG4.out).mono ?_; rintro e v5 ⟨A5, n5, c5, rfl, hr5, hb⟩
                obtain ⟨⟨F, E⟩, hF⟩ : ∃ x, Ap.fin Lr p z = x := ⟨_, rfl⟩
                rw [hF] at hr5 ⊢
                have HF := Lib.hid hF
                have HG5 := Lib.hid (HG4.out.trans (hb.mono HG4.out.size))
                have HRG5 := Lib.hid (HRG4.out.keep hb hb.size)
                have HE5 := Lib.hid (HE4.out.keep hb)
                have HD5 := Lib.hid (HD4.out.keep hb)
                obtain rfl : n5 = F.length := hr5.len.symm
                have H5 := Lib.hid (hr5)
                clear hF hb hr5 HG4 HRG4 HE4 HD4
                go_wp2_with fail
                refine (rend39 Ar nr cr Lr p z v5 HRG5.out HN9.out).mono ?_; rintro e v6 ⟨v, rfl, ho6, hb⟩
                rw [HF.out] at ho6 ⊢
                obtain ⟨A6, n6, c6, rfl, _, hr6⟩ := ho6.row
                have HG6 := Lib.hid (HG5.out.trans (hb.mono HG5.out.size))
                have H6 := Lib.hid (H5.out.keep hb hb.size)
                obtain rfl : n6 = F.length := hr6.len.symm
                have H7 := Lib.hid hr6
                obtain ⟨_, e0, e1, e2, e3, _⟩ := HE5.out.keep hb
                obtain ⟨_, d0, d1, d2, d3, _⟩ := HD5.out.keep hb
                have hneq := neqAp yp yr yf9 yu9
                have gok : (ok != ok) = false := by simp
                have gE : (E != E) = false := by simp
                clear HF ho6 hr6 hb HG5 HRG5 HE5 HD5 H5
                go_wp2_with fail
                refine (same39 A5 A6 F.length c5 c6 F v6 H6.out H7.out).mono ?_; rintro e v7 ⟨rfl, hb⟩
                have HG7 := Lib.hid (HG6.out.trans (hb.mono HG6.out.size))
                clear hb HG6 H6 H7 e0 e1 e2 e3 d0 d1 d2 d3
                go_wp2_with fail
                go_roundw
                case rel => exact ⟨m + 1, by omega, by go_num, HG7.out⟩
                case measure => simp [intOf]; omega
              · obtain rfl : m = 2 := by omega
                go_wp2_with fail
                go_roundw
                case rel => exact ⟨k + 1, by omega, by go_num, HV5.out.trans (HG.out.mono HV5.out.size)⟩
                case measure => simp [intOf]; omega
          · obtain rfl : k = 3 := by omega
            rw [show ((3 : Nat) : Int) = (3 : Int) from rfl]
            have HZV := Lib.hid (HZ3.out.trans (HV.out.mono HZ3.out.size))
            have HRV := Lib.hid (HR3.out.keep HV.out HV.out.size)
            obtain ⟨_, e0, e1, e2, e3, _⟩ := HXB.out.keep HZV.out
            obtain ⟨_, d0, d1, d2, d3, _⟩ := HYB.out.keep HZV.out
            obtain ⟨X7, hX7⟩ : ∃ X : World, V.alloc (.cells #[.string xp, .string xr, .int .i64 xf, .int .i64 xu, .string ⟨#[112, 49]⟩, .string who, .int .i64 yf, .int .i64 yu] 74) = X := ⟨_, rfl⟩
            have hbx : Below V.heap.size V X7 := by rw [← hX7]; exact below_one _
            have HS7 := Lib.hid (two_aps (show X7.heap[V.heap.size]? = some (.cells #[.string xp, .string xr, .int .i64 xf, .int .i64 xu, .string ⟨#[112, 49]⟩, .string who, .int .i64 yf, .int .i64 yu] 74 (0, 0)) by rw [← hX7]; exact heap_alloc_new _ _))
            have HZ7 := Lib.hid (HZV.out.trans (hbx.mono HZV.out.size))
            have HR7 := Lib.hid (HRV.out.keep hbx hbx.size)
            clear hbx HZV HRV HR3 HV HZ3 HS3
            go_wp2_with fail
            clear hX7 e0 e1 e2 e3 d0 d1 d2 d3
            generalize V.heap.size = b7 at *
            go_loopw [190] (fun iv wr => ∃ m : Nat, m ≤ 2 ∧ iv = .int .i64 m ∧ Hid (Below X7.heap.size X7 wr)) (fun iv _ => 2 - (intOf iv).toNat)
            case atStart => exact ⟨0, by omega, rfl, Below.refl _ _⟩
            case round =>
              rename World => G
              obtain ⟨m, hm, rfl, HG⟩ := hrel
              by_cases hm2 : m < 2
              · have gm : decide ((m : Int) < 2) = true := decide_eq_true (by omega)
                have m1 : (0 : Int) ≤ (m : Int) := by omega
                have m2 : (m : Int) < 2 := by omega
                obtain ⟨zp, zr, zf, zu, c0, c1, c2, c3⟩ := HS7.out.2 m hm2
                have c0 := (HG.out.cell HS7.out.1).trans c0
                have c1 := (HG.out.cell HS7.out.1).trans c1
                have c2 := (HG.out.cell HS7.out.1).trans c2
                have c3 := (HG.out.cell HS7.out.1).trans c3
                obtain ⟨v1, hv1, HV1⟩ := ap_boxB G zp zr zf zu
                have HG1 := Lib.hid (HG.out.trans (HV1.out.1.mono HG.out.size))
                have HRG1 := Lib.hid (HR7.out.keep HG1.out HG1.out.size)
                obtain ⟨_, e0, e1, e2, e3, _⟩ := HV1.out.2
                go_wp2_with fail
                refine (add39 Ar nr cr Lr zp zr zf zu v1 HRG1.out).mono ?_; rintro e v2 ⟨A5, n5, c5, rfl, hr5, hb⟩
                clear hv1 c0 c1 c2 c3 e0 e1 e2 e3 HG
                obtain ⟨⟨F, E⟩, hF⟩ : ∃ x, Ap.add Lr ⟨zp, zr, zf, zu⟩ = x := ⟨_, rfl⟩
                rw [hF] at hr5 ⊢
                have HF := Lib.hid hF
                obtain rfl : n5 = F.length := hr5.len.symm
                have HG2 := Lib.hid (HG1.out.trans (hb.mono HG1.out.size))
                have HRG2 := Lib.hid (HRG1.out.keep hb hb.size)
                obtain ⟨_, e0, e1, e2, e3, _⟩ := HV1.out.2.keep hb
                have H5 := Lib.hid hr5
                clear hF hb hr5 HG1 HRG1 HV1
                go_wp2_with fail
                refine (radd39 Ar nr cr Lr zp zr zf zu v2 HRG2.out HN9.out).mono ?_; rintro e v6 ⟨v, rfl, ho6, hb⟩
                rw [HF.out] at ho6 ⊢
                obtain ⟨A6, n6, c6, rfl, _, hr6⟩ := ho6.row
                have HG6 := Lib.hid (HG2.out.trans (hb.mono HG2.out.size))
                have H6 := Lib.hid (H5.out.keep hb hb.size)
                obtain rfl : n6 = F.length := hr6.len.symm
                have H7 := Lib.hid hr6
                have gE : (E != E) = false := by simp
                clear HF ho6 hr6 hb HG2 HRG2 H5 e0 e1 e2 e3
                go_wp2_with fail
                refine (same39 A5 A6 F.length c5 c6 F v6 H6.out H7.out).mono ?_; rintro e v7 ⟨rfl, hb⟩
                have HG7 := Lib.hid (HG6.out.trans (hb.mono HG6.out.size))
                clear hb HG6 H6 H7
                go_wp2_with fail
                go_roundw
                case rel => exact ⟨m + 1, by omega, by go_num, HG7.out⟩
                case measure => simp [intOf]; omega
              · obtain rfl : m = 2 := by omega
                have HZG := Lib.hid (HZ7.out.trans (HG.out.mono HZ7.out.size))
                have HRG := Lib.hid (HR7.out.keep HG.out HG.out.size)
                clear HZ7 HR7 HG HS7 HXB HYB
                obtain ⟨a, ha⟩ : ∃ a, t % 30 = a := ⟨_, rfl⟩
                obtain ⟨b, hb⟩ : ∃ b, u % 30 = b := ⟨_, rfl⟩
                have gw : IntKind.i64.wrap (a + b) = a + b := by simp [IntKind.wrap, IntKind.bits, IntKind.signed]; omega
                have HA := Lib.hid ha
                have HBm := Lib.hid hb
                clear ha hb
                go_wp2_with fail
                refine (mod_any t 30 G (by decide) (by decide)).mono ?_; rintro e wz ⟨rfl, rfl⟩
                rw [HA.out]
                go_wp2_with fail
                refine (mod_any t 30 G (by decide) (by decide)).mono ?_; rintro e wz ⟨rfl, rfl⟩
                rw [HA.out]
                go_wp2_with fail
                refine (mod_any u 30 G (by decide) (by decide)).mono ?_; rintro e wz ⟨rfl, rfl⟩
                rw [HBm.out]
                obtain ⟨X5, hX5⟩ : ∃ X : World, G.alloc (.cells #[.int .i64 t, .int .i64 u, .int .i64 a, .int .i64 (a + b)] 84) = X := ⟨_, rfl⟩
                have hbx : Below G.heap.size G X5 := by rw [← hX5]; exact below_one _
                have HS5 := Lib.hid (two_prs (show X5.heap[G.heap.size]? = some (.cells #[.int .i64 t, .int .i64 u, .int .i64 a, .int .i64 (a + b)] 84 (0, 0)) by rw [← hX5]; exact heap_alloc_new _ _))
                have HZ5 := Lib.hid (HZG.out.trans (hbx.mono HZG.out.size))
                have HR5 := Lib.hid (HRG.out.keep hbx hbx.size)
                clear hbx HRG HZG
                go_wp2_with fail
                clear hX5
                generalize G.heap.size = b5 at *
                go_loopw [229] (fun iv wr => ∃ m : Nat, m ≤ 2 ∧ iv = .int .i64 m ∧ Hid (Below X5.heap.size X5 wr)) (fun iv _ => 2 - (intOf iv).toNat)
                case atStart => exact ⟨0, by omega, rfl, Below.refl _ _⟩
                case round =>
                  rename World => Q
                  obtain ⟨m, hm, rfl, HQ⟩ := hrel
                  by_cases hm2 : m < 2
                  · have gm : decide ((m : Int) < 2) = true := decide_eq_true (by omega)
                    have m1 : (0 : Int) ≤ (m : Int) := by omega
                    have m2 : (m : Int) < 2 := by omega
                    obtain ⟨x1, x2, c0, c1⟩ := HS5.out.2 m hm2
                    have c0 := (HQ.out.cell HS5.out.1).trans c0
                    have c1 := (HQ.out.cell HS5.out.1).trans c1
                    obtain ⟨v1, hv1, HV1⟩ := pr_box Q x1 x2 84
                    have HG1 := Lib.hid (HQ.out.trans (HV1.out.1.mono HQ.out.size))
                    have HRG1 := Lib.hid (HR5.out.keep HG1.out HG1.out.size)
                    obtain ⟨_, hl1, e0, e1⟩ := HV1.out
                    have HL1 := Lib.hid hl1
                    clear hl1
                    go_wp2_with fail
                    refine (expired39 Ar nr cr Lr x1 x2 v1 HRG1.out).mono ?_; rintro e v2 ⟨vx, rfl, ho5, hb⟩
                    clear hv1 c0 c1 e0 e1 HQ
                    obtain ⟨⟨F, E⟩, hF⟩ : ∃ x, Ap.exr Lr x1 x2 = x := ⟨_, rfl⟩
                    rw [hF] at ho5 ⊢
                    have HF := Lib.hid hF
                    obtain ⟨A5, n5, c5, rfl, _, hr5⟩ := ho5.row
                    obtain rfl : n5 = F.length := hr5.len.symm
                    have HG2 := Lib.hid (HG1.out.trans (hb.mono HG1.out.size))
                    have HRG2 := Lib.hid (HRG1.out.keep hb hb.size)
                    have e0 := (hb.cell HL1.out).trans HV1.out.2.2.1
                    have e1 := (hb.cell HL1.out).trans HV1.out.2.2.2
                    have H5 := Lib.hid hr5
                    clear hF hb hr5 ho5 HG1 HRG1 HV1
                    go_wp2_with fail
                    refine (rexpired39 Ar nr cr Lr x1 x2 v2 HRG2.out).mono ?_; rintro e v6 ⟨v, rfl, ho6, hb⟩
                    rw [HF.out] at ho6 ⊢
                    obtain ⟨A6, n6, c6, rfl, _, hr6⟩ := ho6.row
                    obtain rfl : n6 = F.length := hr6.len.symm
                    have HG6 := Lib.hid (HG2.out.trans (hb.mono HG2.out.size))
                    have H6 := Lib.hid (H5.out.keep hb hb.size)
                    have H7 := Lib.hid hr6
                    have gE : (E != E) = false := by simp
                    clear HF ho6 hr6 hb HG2 HRG2 H5 e0 e1 HL1
                    go_wp2_with fail
                    refine (texts36 A5 A6 F.length c5 c6 F v6 H6.out H7.out).mono ?_; rintro e v7 ⟨rfl, hb⟩
                    have HG7 := Lib.hid (HG6.out.trans (hb.mono HG6.out.size))
                    clear hb HG6 H6 H7
                    go_wp2_with fail
                    go_roundw
                    case rel => exact ⟨m + 1, by omega, by go_num, HG7.out⟩
                    case measure => simp [intOf]; omega
                  · obtain rfl : m = 2 := by omega
                    have HZQ := Lib.hid (HZ5.out.trans (HQ.out.mono HZ5.out.size))
                    clear HZ5 HQ HR5 HS5
                    go_wp2_with fail
                    go_roundw
                    case rel => exact ⟨i + 1, by omega, by go_num, HZQ.out⟩
                    case measure => simp [intOf]; omega
      · obtain rfl : i = 3 := by omega
        have HBW := Lib.hid (HB9.out.trans (HZ.out.mono HB9.out.size))
        go_wp2_with fail
        refine (awake39 _).mono ?_; rintro e wz ⟨rfl, hb⟩
        have HBZ := Lib.hid (HBW.out.trans (hb.mono HBW.out.size))
        clear hb
        go_wp2_with fail
        go_ret
        exact ⟨rfl, HBZ.out⟩
  clear HK
  go_wp2_with fail
  · rename_i HPOS K1 hK1 K2 hK2
    have HP := Lib.hid HPOS
    obtain ⟨j, hj, hjn⟩ : ∃ j : Nat, q % (n3 : Int) = (j : Int) ∧ j < n3 := ⟨(q % (n3 : Int)).toNat, by have := Int.emod_nonneg q (show (n3 : Int) ≠ 0 by omega); omega, by have := Int.emod_lt_of_pos q (show (0 : Int) < n3 by omega); have := Int.emod_nonneg q (show (n3 : Int) ≠ 0 by omega); omega⟩
    have HJ := Lib.hid hj
    have hlen : 0 < ([] ++ M : List Ap).length := by have := HNM.out; simp; omega
    obtain ⟨g, c9, e9, hg, _, hc9, hm9, hcell⟩ := HR.out.o.fat hlen
    injection e9 with e1 e2 e3
    subst e1 e3
    have HG := Lib.hid hg
    have hjl : j < ([] ++ M : List Ap).length := by rw [← e2]; exact hjn
    obtain ⟨⟨dp, dr, df, du⟩, hD⟩ : ∃ D, ([] ++ M : List Ap).getD j apRec.d = D := ⟨_, rfl⟩
    have p0 := hcell j hjl 0
    have p1 := hcell j hjl 1
    have p2 := hcell j hjl 2
    have p3 := hcell j hjl 3
    rw [hD] at p0 p1 p2 p3
    have q0 : w3.cell? ⟨g, j * 4, none⟩ = some (.string dp) := p0.1 _ rfl
    have q1 : w3.cell? ⟨g, j * 4 + 1, none⟩ = some (.string dr) := p1.1 _ rfl
    have q2 : w3.cell? ⟨g, j * 4 + 2, none⟩ = some (.int .i64 df) := p2.1 _ rfl
    have q3 : w3.cell? ⟨g, j * 4 + 3, none⟩ = some (.int .i64 du) := p3.1 _ rfl
    have f1 : w3.frozen? ⟨g, j * 4 + 1, none⟩ = false := p1.2
    have f2 : w3.frozen? ⟨g, j * 4 + 2, none⟩ = false := p2.2
    have f3 : w3.frozen? ⟨g, j * 4 + 3, none⟩ = false := p3.2
    have HN3 := Lib.hid e2
    have HRO := HR.out.o
    have hc9' : n3 ≤ c3 := by rw [e2]; exact hc9
    have HST := Lib.hid (fun (i : Nat) (hi : i < apRec.k) (v : Value) (x' : Ap) (hx : apRec.cells x' = (apRec.cells ⟨dp, dr, df, du⟩).set i v) => show Rest W w1.heap.size X0.heap.size w2.heap.size xp xr xf xu (.slice Am n3 cm) M (.slice (some ⟨g, 0, none⟩) n3 c3) (([] ++ M).set j x') (w3.setCell ⟨g, j * 4 + i, none⟩ v) by
      have hst := HRO.stored hjl hi v x' (by rw [hD]; exact hx)
      exact (HR.out).odd hst.2 (fun k e => by injection e with e; omega) hst.1 (by have := HR.out.ol; rw [List.length_set]; exact this))
    have s1 : j < n3 := hjn
    have gj : decide ((j : Int) < 0) = false := decide_eq_false (by omega)
    refine (mod_any q n3 w3 (by omega) (by have := HM6.out; omega)).mono ?_; rintro e wz ⟨rfl, rfl⟩
    rw [hj]
    clear hc9 p0 p1 p2 p3 hcell e2 hj HRO hlen hjl hg hD HPOS
    go_wp2_with fail
    refine (mod_any q 4 _ (by decide) (by decide)).mono ?_; rintro e wz ⟨rfl, rfl⟩
    obtain ⟨d, hd⟩ : ∃ d, q % 4 = d := ⟨_, rfl⟩
    rw [hd]
    clear hd
    by_cases d0 : d = 0
    · subst d0
      go_wp2_with fail
      refine (mod_any q 40 _ (by decide) (by decide)).mono ?_; rintro e wz ⟨rfl, rfl⟩
      go_wp2_with fail
      apply REST
      exact Lib.hid (HST.out 2 (by decide) (.int .i64 (q % 40)) ⟨dp, dr, q % 40, du⟩ rfl)
    have d0' : (d == 0) = false := by simpa using d0
    by_cases d1 : d = 1
    · subst d1
      clear d0 d0'
      go_wp2_with fail
      refine (mod_any q 40 _ (by decide) (by decide)).mono ?_; rintro e wz ⟨rfl, rfl⟩
      go_wp2_with fail
      apply REST
      exact Lib.hid (HST.out 3 (by decide) (.int .i64 (q % 40)) ⟨dp, dr, df, q % 40⟩ rfl)
    have d1' : (d == 1) = false := by simpa using d1
    by_cases d2 : d = 2
    · subst d2
      clear d0 d0' d1 d1'
      go_wp2_with fail
      apply REST
      exact Lib.hid (HST.out 1 (by decide) (.string ⟨#[]⟩) ⟨dp, ⟨#[]⟩, df, du⟩ rfl)
    have d2' : (d == 2) = false := by simpa using d2
    clear d0 d1 d2 HST
    have HLIT := Lib.hid (show RRow apRec (w3.alloc (.cells #[.string dp, .string dr, .int .i64 df, .int .i64 du] 74)) (w3.alloc (.cells #[.string dp, .string dr, .int .i64 df, .int .i64 du] 74)).heap.size (some ⟨w3.heap.size, 0, none⟩) 1 1 [⟨dp, dr, df, du⟩] from RRow.lit (R := apRec) (L := [⟨dp, dr, df, du⟩]) (heap_alloc_new _ _) (by simp))
    have HOA := Lib.hid (HR.out.o.alloc (.cells #[.string dp, .string dr, .int .i64 df, .int .i64 du] 74))
    have HLE := Lib.hid (show ([] ++ M : List Ap).length + 1 ≤ 1000 by have := HR.out.ol; omega)
    have HL6 := Lib.hid (show ([] ++ M : List Ap).length ≤ 6 by rw [← HN3.out]; exact HM6.out)
    have HSZ := Lib.hid (show w2.heap.size ≤ (w3.alloc (.cells #[.string dp, .string dr, .int .i64 df, .int .i64 du] 74)).heap.size by have := (World.ownsRow.lt HR.out.o _ rfl); simp; omega)
    go_wp2_with (at_builtin; refine app_recs _ apRec rfl (.tmp 71) (.tmp 76) _ rfl w2.heap.size (.agg #[.string ⟨#[]⟩, .string ⟨#[]⟩, .int .i64 0, .int .i64 0]) 48 ap_info rfl (by decide) Try.underlying72 (.slice (some ⟨g, 0, none⟩) n3 c3) ([] ++ M) rfl HOA.out _ (some ⟨w3.heap.size, 0, none⟩) 1 1 [⟨dp, dr, df, du⟩] rfl HLIT.out HLE.out HSZ.out ?_; intro v4 w4 hown4 hgrow4; obtain ⟨A4, n4, c4, rfl, hn4, hr4⟩ := hown4.row; have HR4 := Lib.hid ((HR.out.keep (below_one (.cells #[.string dp, .string dr, .int .i64 df, .int .i64 du] 74))).odd hgrow4 (fun k e => (World.ownsRow.lt HOA.out k e).1) hown4 (by have := HL6.out; rw [List.length_append]; simp only [List.length_cons, List.length_nil]; omega)); clear hown4 hgrow4 hr4 hn4)
    apply REST
    exact HR4
  · apply REST
    exact HR
end Go.Proofs.Ytoomgbddfcmjnaa
