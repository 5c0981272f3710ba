/-
  Proved: for every list of jobs and every list of picks the statement SchedSteps (each step does one access at most, and one that is killed does none any more) answers true, and its arguments read as before.
  Conditions: none beyond the row's own.
-/
import Derived.Test.YtijgfaggakbajaaSchStepsLaw
import Derived.Test.YtijgfaggakbajaaSchOpen
namespace Go.Proofs.Ytijgfaggakbajaa
open Go.ChangeShapes Go.WideShapes Go.ChangeAt Go.RowKit

set_option maxRecDepth 100000 in
theorem schedSteps_lifted (os : Os) (started : os.Started) (H : Type) (enc : TypeId × Value → H) :
    ReturnsInHanded {} Try.checked os 4 .any (Rows.schedStepsSpec.pre6 enc Try.prog Try.f4 Rows.schedStepsRow.domain false) (Rows.schedStepsSpec.post enc Try.prog Try.f4 false true false false) := by
  refine returnsInHanded_of_change (C := Try.checked) own started (by kernel_rfl) Try.func4
    (ChangeSpec.witness6 (enc := enc) (C := Try.checked) false ⟨#[], #[.slice none 0 0, .slice none 0 0], []⟩ 8 (by kernel_rfl) (by kernel_rfl) (by kernel_rfl) (by kernel_rfl)) ?_
  intro W base args ds gs before hval0 hW _ _
  have hval : ∀ (j : Nat) t v, Try.f4.params[j]? = some t → args[j]? = some v → Value.okWide Try.prog W .any base t v := hval0
  have hW' := hW
  obtain ⟨p, q, hA0, hV, rfl, hfz, hnd⟩ := hW
  have hA : DataW.TrodAll enc Try.prog W 0 (fun _ => true) true Try.f4.params.toList args.toList ds p := hA0
  rw [Try.params4] at hA hval
  obtain ⟨v0, v1, d0, d1, p0, p1, rfl, rfl, rfl, h0, h1⟩ := trodAll_two hA
  obtain ⟨rfl, rfl⟩ := trodVars_none hV
  obtain ⟨A0, L0, cap0, T0, rfl, hT0, hl0, hc0⟩ := open_jobs (hval 0 22 v0 rfl rfl) h0
  obtain ⟨A1, cap1, ps1, rfl, hT1, hl1, hc1⟩ := open_picks (hval 1 23 v1 rfl rfl) h1
  clear hA0 hval0
  exact (schStepsLaw_all W A0 L0 cap0 T0 hT0 hl0 hc0 A1 cap1 ps1 hT1 hl1 hc1).mono fun e W' ⟨he, hbel⟩ => ⟨_, he, law_post laidOut (by kernel_rfl) rfl Try.underlying4 rfl hW' rfl hbel⟩

theorem schedSteps_row : Rows.SchedStepsSaid :=
  OpenClaim.holds_of_wide 4 Try.f4 rfl rfl rfl rfl rfl rfl rfl ⟨rfl, rfl, rfl, rfl, rfl⟩ rfl rfl rfl rfl rfl (by kernel_rfl) Try.func4 (by kernel_rfl)
    (of_decide_eq_true (by kernel_rfl)) (by unfold Func.isWrapper; first | (rw [if_pos (by decide +kernel)]; kernel_rfl) | (rw [if_neg (by decide +kernel)]; exact ⟨rfl, rfl⟩))
    (fun os started H enc _ => schedSteps_lifted os started H enc)

theorem schedSteps_holds : Rows.SchedStepsSaid := schedSteps_row
end Go.Proofs.Ytijgfaggakbajaa
