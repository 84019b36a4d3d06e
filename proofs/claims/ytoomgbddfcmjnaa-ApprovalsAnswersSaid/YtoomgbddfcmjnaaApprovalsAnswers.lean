/- The statement of dataenclavelaw39.ApprovalsAnswers: for every input the law returns true, and its arguments read as they did. -/
import Derived.Test.YtoomgbddfcmjnaaLaw
import Derived.Test.YtoomgbddfcmjnaaOpen
import Derived.Test.YtoomgbddfcmjnaaVg
namespace Go.Proofs.Ytoomgbddfcmjnaa.approvalsAnswers
open Go.ChangeShapes Go.WideShapes Go.ChangeAt Go.RowKit
set_option maxRecDepth 100000 in
theorem lifted (os : Os) (started : os.Started) (H : Type) (enc : TypeId × Value → H) :
    ReturnsInHanded {} Try.checked os 10 .any (Rows.approvalsAnswersSpec.pre6 enc Try.prog Try.f10 Rows.approvalsAnswersRow.domain false) (Rows.approvalsAnswersSpec.post enc Try.prog Try.f10 false true false false) := by
  refine returnsInHanded_of_change (C := Try.checked) own started (by kernel_rfl) Try.func10
    (ChangeSpec.witness6 (enc := enc) (C := Try.checked) false ⟨#[], #[.slice none 0 0, .agg #[.string ⟨#[]⟩, .string ⟨#[]⟩, .int .i64 0, .int .i64 0], .string ⟨#[]⟩, .int .i64 0, .int .i64 0, .slice none 0 0, .int .i64 0], []⟩ 8 (by kernel_rfl) (by kernel_rfl) (by kernel_rfl) (by kernel_rfl)) ?_
  intro W base args ds gs before hval0 hW _ _
  have hval : ∀ (j : Nat) t v, Try.f10.params[j]? = some t → args[j]? = some v → Value.okWide Try.prog W .any base t v := hval0
  have hW' := hW
  have hlt := hW.lt
  obtain ⟨p, q, hA0, hV, rfl, _, _⟩ := hW
  have hA : DataW.TrodAll enc Try.prog W 0 (fun _ => true) true Try.f10.params.toList args.toList ds p := hA0
  rw [Try.params10] at hA hval
  obtain ⟨rfl, rfl⟩ := trodVars_none hV
  obtain ⟨v0, vs0, d0, ds0, p0, q0, hargs, rfl, rfl, h0, r0⟩ := trodAll_cons hA
  obtain ⟨v1, vs1, d1, ds1, p1, q1, rfl, rfl, rfl, h1, r1⟩ := trodAll_cons r0
  obtain ⟨v2, vs2, d2, ds2, p2, q2, rfl, rfl, rfl, h2, r2⟩ := trodAll_cons r1
  obtain ⟨v3, vs3, d3, ds3, p3, q3, rfl, rfl, rfl, h3, r3⟩ := trodAll_cons r2
  obtain ⟨v4, vs4, d4, ds4, p4, q4, rfl, rfl, rfl, h4, r4⟩ := trodAll_cons r3
  obtain ⟨v5, vs5, d5, ds5, p5, q5, rfl, rfl, rfl, h5, r5⟩ := trodAll_cons r4
  obtain ⟨v6, vs6, d6, ds6, p6, q6, rfl, rfl, rfl, h6, r6⟩ := trodAll_cons r5
  obtain ⟨rfl, rfl, rfl⟩ := trodAll_nil r6
  obtain rfl : args = #[v0, v1, v2, v3, v4, v5, v6] := by cases args; simp_all
  have hlt0 : ∀ x ∈ (p0 ++ p1 ++ p2 ++ p3 ++ p4 ++ p5 ++ p6), x.block < W.heap.size := fun x hx => hlt x (by simpa using hx)
  obtain ⟨Aa0, na0, ca0, La0, rfl, Ra0⟩ := open_aps Try.underlying72 Try.underlying74 (by kernel_rfl) (by kernel_rfl) Try.underlying9 Try.underlying9 Try.underlying3 Try.underlying3 (hval 0 72 v0 rfl rfl) h0 (fun x hx => hlt0 x (by simp [hx]))
  obtain ⟨xv0, xv1, xv2, xv3, xy0, xy1, xy2, xy3, xn, rfl, rfl, rfl, xh0, xh1, xh2, xh3⟩ := Go.Joins.open_agg4 Try.underlying74 (by kernel_rfl) (by kernel_rfl) (hval 1 74 v1 rfl rfl) h1
  obtain ⟨xp, rfl⟩ := open_string_in Try.underlying9 xh0
  obtain ⟨xr, rfl⟩ := open_string_in Try.underlying9 xh1
  obtain ⟨xf, rfl, _⟩ := open_int_in Try.underlying3 xh2
  obtain ⟨xu, rfl, _⟩ := open_int_in Try.underlying3 xh3
  obtain ⟨a2, rfl, rfl, rfl, wa2⟩ := Go.ChangeMaps.open_string Try.underlying9 (hval 2 9 v2 rfl rfl) h2
  obtain ⟨a3, rfl, rfl, rfl, wa3⟩ := open_int Try.underlying3 (hval 3 3 v3 rfl rfl) h3
  have ba3 := bounds_i64 wa3
  obtain ⟨a4, rfl, rfl, rfl, wa4⟩ := open_int Try.underlying3 (hval 4 3 v4 rfl rfl) h4
  have ba4 := bounds_i64 wa4
  obtain ⟨Aa5, na5, ca5, la5, rfl, Na5⟩ := open_nums Try.underlying22 Try.underlying5 (by kernel_rfl) (hval 5 22 v5 rfl rfl) h5 (fun x hx => hlt0 x (by simp [hx]))
  obtain ⟨a6, rfl, rfl, rfl, wa6⟩ := open_int Try.underlying3 (hval 6 3 v6 rfl rfl) h6
  have ba6 := bounds_i64 wa6
  clear hA0 hval0
  refine (walkAnswers39 W Aa0 na0 ca0 La0 Ra0 xp xr xf xu a2 a3 ba3.1 ba3.2 a4 ba4.1 ba4.2 Aa5 na5 ca5 la5 Na5 a6 ba6.1 ba6.2).mono fun e W1 ⟨he, hb⟩ => ?_
  subst he
  exact ⟨_, rfl, post_law laidOut (of_decide_eq_true (by kernel_rfl)) rfl Try.underlying4 rfl rfl hW' hb⟩

theorem proved : Rows.ApprovalsAnswersSaid :=
  OpenClaim.holds_of_wide 10 Try.f10 rfl rfl rfl rfl rfl rfl rfl ⟨rfl, rfl, rfl, rfl, rfl⟩ rfl rfl rfl rfl rfl (by kernel_rfl) Try.func10 (by kernel_rfl)
    (of_decide_eq_true (by kernel_rfl)) (by unfold Func.isWrapper; first | (rw [if_pos (by decide +kernel)]; kernel_rfl) | (rw [if_neg (by decide +kernel)]; exact ⟨rfl, rfl⟩))
    (fun os started H enc _ => lifted os started H enc)
#print axioms proved
end Go.Proofs.Ytoomgbddfcmjnaa.approvalsAnswers
