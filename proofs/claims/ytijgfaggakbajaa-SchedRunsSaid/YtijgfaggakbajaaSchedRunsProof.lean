/-
  Proved: for every list of jobs and every list of picks the statement SchedRuns (a row of picks does what they do one by one; the events told stay what they were) answers true, and its arguments read as before.
  Conditions: none beyond the row's own.
-/
import Derived.Test.YtijgfaggakbajaaSchRunsLaw
import Derived.Test.YtijgfaggakbajaaSchOpen
namespace Go.Proofs.Ytijgfaggakbajaa
open Go.ChangeShapes Go.WideShapes Go.ChangeAt Go.RowKit

set_option maxRecDepth 100000 in
theorem schedRuns_lifted (os : Os) (started : os.Started) (H : Type) (enc : TypeId × Value → H) :
    ReturnsInHanded {} Try.checked os 5 .any (Rows.schedRunsSpec.pre6 enc Try.prog Try.f5 Rows.schedRunsRow.domain false) (Rows.schedRunsSpec.post enc Try.prog Try.f5 false true false false) := by
  refine returnsInHanded_of_change (C := Try.checked) own started (by kernel_rfl) Try.func5
    (ChangeSpec.witness6 (enc := enc) (C := Try.checked) false ⟨#[], #[.slice none 0 0, .slice none 0 0], []⟩ 8 (by kernel_rfl) (by kernel_rfl) (by kernel_rfl) (by kernel_rfl)) ?_
  intro W base args ds gs before hval0 hW _ _
  have hval : ∀ (j : Nat) t v, Try.f5.params[j]? = some t → args[j]? = some v → Value.okWide Try.prog W .any base t v := hval0
  have hW' := hW
  obtain ⟨p, q, hA0, hV, rfl, hfz, hnd⟩ := hW
  have hA : DataW.TrodAll enc Try.prog W 0 (fun _ => true) true Try.f5.params.toList args.toList ds p := hA0
  rw [Try.params5] at hA hval
  obtain ⟨v0, v1, d0, d1, p0, p1, rfl, rfl, rfl, h0, h1⟩ := trodAll_two hA
  obtain ⟨rfl, rfl⟩ := trodVars_none hV
  obtain ⟨A0, L0, cap0, T0, rfl, hT0, hl0, hc0⟩ := open_jobs (hval 0 22 v0 rfl rfl) h0
  obtain ⟨A1, cap1, ps1, rfl, hT1, hl1, hc1⟩ := open_picks (hval 1 23 v1 rfl rfl) h1
  clear hA0 hval0
  exact (schRunsLaw_all W A0 L0 cap0 T0 hT0 hl0 hc0 A1 cap1 ps1 hT1 hl1 hc1).mono fun e W' ⟨he, hbel⟩ => ⟨_, he, law_post laidOut (by kernel_rfl) rfl Try.underlying4 rfl hW' rfl hbel⟩

theorem schedRuns_row : Rows.SchedRunsSaid :=
  OpenClaim.holds_of_wide 5 Try.f5 rfl rfl rfl rfl rfl rfl rfl ⟨rfl, rfl, rfl, rfl, rfl⟩ rfl rfl rfl rfl rfl (by kernel_rfl) Try.func5 (by kernel_rfl)
    (of_decide_eq_true (by kernel_rfl)) (by unfold Func.isWrapper; first | (rw [if_pos (by decide +kernel)]; kernel_rfl) | (rw [if_neg (by decide +kernel)]; exact ⟨rfl, rfl⟩))
    (fun os started H enc _ => schedRuns_lifted os started H enc)

theorem schedRuns_holds : Rows.SchedRunsSaid := schedRuns_row
end Go.Proofs.Ytijgfaggakbajaa
