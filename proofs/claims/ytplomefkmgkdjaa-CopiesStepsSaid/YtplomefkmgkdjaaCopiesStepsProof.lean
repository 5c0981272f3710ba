/-
  Proved: for every kind, place, number, list of bytes and list of answers the statement CopiesSteps (each access of a copy, and what it read so far, is the document's) answers true, and its arguments read as before.
  Conditions: none beyond the row's own.
-/
import Derived.Test.YtplomefkmgkdjaaCopyStepsAll
import Derived.Test.YtplomefkmgkdjaaOpenAnswer
namespace Go.Proofs.Ytplomefkmgkdjaa
open Go.ChangeShapes Go.WideShapes Go.ChangeAt Go.RowKit

set_option maxRecDepth 100000 in
theorem copiesSteps_lifted (os : Os) (started : os.Started) (H : Type) (enc : TypeId × Value → H) :
    ReturnsInHanded {} Try.checked os 3 .any (Rows.copiesStepsSpec.pre6 enc Try.prog Try.f3 Rows.copiesStepsRow.domain false) (Rows.copiesStepsSpec.post enc Try.prog Try.f3 false true false false) := by
  refine returnsInHanded_of_change (C := Try.checked) own started (by kernel_rfl) Try.func3
    (ChangeSpec.witness6 (enc := enc) (C := Try.checked) false ⟨#[], #[.int .u8 0, .int .i64 0, .int .i64 0, .slice none 0 0, .slice none 0 0], []⟩ 8 (by kernel_rfl) (by kernel_rfl) (by kernel_rfl) (by kernel_rfl)) ?_
  intro W base args ds gs before hval0 hW _ _
  have hval : ∀ (j : Nat) t v, Try.f3.params[j]? = some t → args[j]? = some v → Value.okWide Try.prog W .any base t v := hval0
  have hW' := hW
  obtain ⟨p, q, hA0, hV, rfl, hfz, hnd⟩ := hW
  have hA : DataW.TrodAll enc Try.prog W 0 (fun _ => true) true Try.f3.params.toList args.toList ds p := hA0
  rw [Try.params3] at hA hval
  obtain ⟨v0, w0, d0, e0, p0, q0, hargs0, hds0, hps0, h0, hr1⟩ := trodAll_cons hA
  obtain ⟨v1, w1, d1, e1, p1, q1, rfl, rfl, rfl, h1, hr2⟩ := trodAll_cons hr1
  obtain ⟨v2, w2, d2, e2, p2, q2, rfl, rfl, rfl, h2, hr3⟩ := trodAll_cons hr2
  obtain ⟨v3, w3, d3, e3, p3, q3, rfl, rfl, rfl, h3, hr4⟩ := trodAll_cons hr3
  obtain ⟨v4, w4, d4, e4, p4, q4, rfl, rfl, rfl, h4, hr5⟩ := trodAll_cons hr4
  obtain ⟨rfl, rfl, rfl⟩ := trodAll_nil hr5
  obtain rfl : args = #[v0, v1, v2, v3, v4] := Array.ext' hargs0
  subst hds0 hps0
  obtain ⟨rfl, rfl⟩ := trodVars_none hV
  obtain ⟨a0, rfl, rfl, rfl, wa0⟩ := open_int Try.underlying5 (hval 0 5 v0 rfl rfl) h0
  have k0 := bounds_u8 wa0
  obtain ⟨a1, rfl, rfl, rfl, wa1⟩ := open_int Try.underlying3 (hval 1 3 v1 rfl rfl) h1
  have k1 := bounds_i64 wa1
  obtain ⟨a2, rfl, rfl, rfl, wa2⟩ := open_int Try.underlying3 (hval 2 3 v2 rfl rfl) h2
  have k2 := bounds_i64 wa2
  obtain ⟨A3, L3, cap3, f3, rfl, hf3, hb3, hl3, hc3⟩ := open_bl (hval 3 22 v3 rfl rfl) h3
  obtain ⟨A4, L4, cap4, T4, rfl, hT4, hl4, hc4⟩ := open_answers (hval 4 23 v4 rfl rfl) h4
  clear hA0 hval0
  exact (stepsLaw_all W a0 a1 a2 A3 L3 cap3 f3 hb3 hl3 hc3 A4 L4 cap4 T4 hT4 hl4 hc4 k0).mono fun e W' ⟨he, hbel⟩ => ⟨_, he, law_post laidOut (by kernel_rfl) rfl Try.underlying4 rfl hW' rfl hbel⟩

theorem copiesSteps_row : Rows.CopiesStepsSaid :=
  OpenClaim.holds_of_wide 3 Try.f3 rfl rfl rfl rfl rfl rfl rfl ⟨rfl, rfl, rfl, rfl, rfl⟩ rfl rfl rfl rfl rfl (by kernel_rfl) Try.func3 (by kernel_rfl)
    (of_decide_eq_true (by kernel_rfl)) (by unfold Func.isWrapper; first | (rw [if_pos (by decide +kernel)]; kernel_rfl) | (rw [if_neg (by decide +kernel)]; exact ⟨rfl, rfl⟩))
    (fun os started H enc _ => copiesSteps_lifted os started H enc)

theorem copiesSteps_holds : Rows.CopiesStepsSaid := copiesSteps_row
end Go.Proofs.Ytplomefkmgkdjaa
