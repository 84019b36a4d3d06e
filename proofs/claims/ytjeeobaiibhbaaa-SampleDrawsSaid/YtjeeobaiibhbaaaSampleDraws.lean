/- The statement of dataenclavelaw11.SampleDraws: for every input the law returns true, and its arguments read as they did. -/
import Derived.Test.YtjeeobaiibhbaaaLaw
import Derived.Test.YtjeeobaiibhbaaaOpen
import Derived.Test.YtjeeobaiibhbaaaSf
namespace Go.Proofs.Ytjeeobaiibhbaaa.sampleDraws
open Go.ChangeShapes Go.WideShapes Go.ChangeAt Go.RowKit
set_option maxRecDepth 100000 in
theorem lifted (os : Os) (started : os.Started) (H : Type) (enc : TypeId × Value → H) :
    ReturnsInHanded {} Try.checked os 3 .any (Rows.sampleDrawsSpec.pre6 enc Try.prog Try.f3 Rows.sampleDrawsRow.domain false) (Rows.sampleDrawsSpec.post enc Try.prog Try.f3 false true false false) := by
  refine returnsInHanded_of_change (C := Try.checked) own started (by kernel_rfl) Try.func3
    (ChangeSpec.witness6 (enc := enc) (C := Try.checked) false ⟨#[], #[.agg #[.int .i64 0, .int .i64 0, .int .i64 0], .int .u16 0, .int .i64 0, .slice none 0 0], []⟩ 8 (by kernel_rfl) (by kernel_rfl) (by kernel_rfl) (by kernel_rfl)) ?_
  intro W base args ds gs before hval0 hW _ _
  have hval : ∀ (j : Nat) t v, Try.f3.params[j]? = some t → args[j]? = some v → Value.okWide Try.prog W .any base t v := hval0
  have hW' := hW
  have hlt := hW.lt
  obtain ⟨p, q, hA0, hV, rfl, _, _⟩ := hW
  have hA : DataW.TrodAll enc Try.prog W 0 (fun _ => true) true Try.f3.params.toList args.toList ds p := hA0
  rw [Try.params3] at hA hval
  obtain ⟨rfl, rfl⟩ := trodVars_none hV
  obtain ⟨v0, vs0, d0, ds0, p0, q0, hargs, rfl, rfl, h0, r0⟩ := trodAll_cons hA
  obtain ⟨v1, vs1, d1, ds1, p1, q1, rfl, rfl, rfl, h1, r1⟩ := trodAll_cons r0
  obtain ⟨v2, vs2, d2, ds2, p2, q2, rfl, rfl, rfl, h2, r2⟩ := trodAll_cons r1
  obtain ⟨v3, vs3, d3, ds3, p3, q3, rfl, rfl, rfl, h3, r3⟩ := trodAll_cons r2
  obtain ⟨rfl, rfl, rfl⟩ := trodAll_nil r3
  obtain rfl : args = #[v0, v1, v2, v3] := by cases args; simp_all
  have hlt0 : ∀ x ∈ (p0 ++ p1 ++ p2 ++ p3), x.block < W.heap.size := fun x hx => hlt x (by simpa using hx)
  obtain ⟨a0v0, a0v1, a0v2, a0y0, a0y1, a0y2, a0n, rfl, rfl, rfl, a0h0, a0h1, a0h2⟩ := Joins.open_agg3 Try.underlying23 (by kernel_rfl) (by kernel_rfl) (hval 0 23 v0 rfl rfl) h0
  obtain ⟨a00, rfl, wa00⟩ := open_int_in Try.underlying3 a0h0
  have ba00 := bounds_i64 wa00
  obtain ⟨a01, rfl, wa01⟩ := open_int_in Try.underlying3 a0h1
  have ba01 := bounds_i64 wa01
  obtain ⟨a02, rfl, wa02⟩ := open_int_in Try.underlying3 a0h2
  have ba02 := bounds_i64 wa02
  obtain ⟨a1, rfl, rfl, rfl, wa1⟩ := open_int Try.underlying24 (hval 1 24 v1 rfl rfl) h1
  have ba1 := bounds_u16 wa1
  obtain ⟨a2, rfl, rfl, rfl, wa2⟩ := open_int Try.underlying3 (hval 2 3 v2 rfl rfl) h2
  have ba2 := bounds_i64 wa2
  obtain ⟨Aa3, na3, ca3, la3, rfl, Na3⟩ := open_nums Try.underlying25 Try.underlying3 (by kernel_rfl) (hval 3 25 v3 rfl rfl) h3 (fun x hx => hlt0 x (by simp [hx]))
  clear hA0 hval0
  refine (walkDraws W a00 ba00.1 ba00.2 a01 ba01.1 ba01.2 a02 ba02.1 ba02.2 a1 ba1.1 ba1.2 a2 ba2.1 ba2.2 Aa3 na3 ca3 la3 Na3).mono fun e W1 ⟨he, hb⟩ => ?_
  subst he
  exact ⟨_, rfl, post_law laidOut (of_decide_eq_true (by kernel_rfl)) rfl Try.underlying4 rfl rfl hW' hb⟩

theorem proved : Rows.SampleDrawsSaid :=
  OpenClaim.holds_of_wide 3 Try.f3 rfl rfl rfl rfl rfl rfl rfl ⟨rfl, rfl, rfl, rfl, rfl⟩ rfl rfl rfl rfl rfl (by kernel_rfl) Try.func3 (by kernel_rfl)
    (of_decide_eq_true (by kernel_rfl)) (by unfold Func.isWrapper; first | (rw [if_pos (by decide +kernel)]; kernel_rfl) | (rw [if_neg (by decide +kernel)]; exact ⟨rfl, rfl⟩))
    (fun os started H enc _ => lifted os started H enc)
#print axioms proved
end Go.Proofs.Ytjeeobaiibhbaaa.sampleDraws
