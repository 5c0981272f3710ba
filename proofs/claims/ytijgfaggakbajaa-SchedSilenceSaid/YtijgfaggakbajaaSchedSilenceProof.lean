/-
  Proved: for every list of jobs, every list of picks and every number of an actor the statement SchedSilence (one that is silenced is dead, and does nothing any more; the trace tells nothing of it) answers true, and its arguments read as before.
  Conditions: none beyond the row's own.
-/
import Derived.Test.YtijgfaggakbajaaSchSilLaw
import Derived.Test.YtijgfaggakbajaaSchOpen
namespace Go.Proofs.Ytijgfaggakbajaa
open Go.ChangeShapes Go.WideShapes Go.ChangeAt Go.RowKit

set_option maxRecDepth 100000 in
theorem schedSilence_lifted (os : Os) (started : os.Started) (H : Type) (enc : TypeId × Value → H) :
    ReturnsInHanded {} Try.checked os 6 .any (Rows.schedSilenceSpec.pre6 enc Try.prog Try.f6 Rows.schedSilenceRow.domain false) (Rows.schedSilenceSpec.post enc Try.prog Try.f6 false true false false) := by
  refine returnsInHanded_of_change (C := Try.checked) own started (by kernel_rfl) Try.func6
    (ChangeSpec.witness6 (enc := enc) (C := Try.checked) false ⟨#[], #[.slice none 0 0, .slice none 0 0, .int .i64 0], []⟩ 8 (by kernel_rfl) (by kernel_rfl) (by kernel_rfl) (by kernel_rfl)) ?_
  intro W base args ds gs before hval0 hW _ _
  have hval : ∀ (j : Nat) t v, Try.f6.params[j]? = some t → args[j]? = some v → Value.okWide Try.prog W .any base t v := hval0
  have hW' := hW
  obtain ⟨p, q, hA0, hV, rfl, hfz, hnd⟩ := hW
  have hA : DataW.TrodAll enc Try.prog W 0 (fun _ => true) true Try.f6.params.toList args.toList ds p := hA0
  rw [Try.params6] at hA hval
  obtain ⟨v0, v1, v2, d0, d1, d2, p0, p1, p2, rfl, rfl, rfl, h0, h1, h2⟩ := trodAll_three hA
  obtain ⟨rfl, rfl⟩ := trodVars_none hV
  obtain ⟨A0, L0, cap0, T0, rfl, hT0, hl0, hc0⟩ := open_jobs (hval 0 22 v0 rfl rfl) h0
  obtain ⟨A1, cap1, ps1, rfl, hT1, hl1, hc1⟩ := open_picks (hval 1 23 v1 rfl rfl) h1
  obtain ⟨a2, rfl, rfl, rfl, wa2⟩ := open_int Try.underlying3 (hval 2 3 v2 rfl rfl) h2
  have k2 := bounds_i64 wa2
  clear hA0 hval0
  exact (silenceLaw_all W A0 L0 cap0 T0 hT0 hl0 hc0 A1 cap1 ps1 hT1 hl1 hc1 a2).mono fun e W' ⟨he, hbel⟩ => ⟨_, he, law_post laidOut (by kernel_rfl) rfl Try.underlying4 rfl hW' rfl hbel⟩

theorem schedSilence_row : Rows.SchedSilenceSaid :=
  OpenClaim.holds_of_wide 6 Try.f6 rfl rfl rfl rfl rfl rfl rfl ⟨rfl, rfl, rfl, rfl, rfl⟩ rfl rfl rfl rfl rfl (by kernel_rfl) Try.func6 (by kernel_rfl)
    (of_decide_eq_true (by kernel_rfl)) (by unfold Func.isWrapper; first | (rw [if_pos (by decide +kernel)]; kernel_rfl) | (rw [if_neg (by decide +kernel)]; exact ⟨rfl, rfl⟩))
    (fun os started H enc _ => schedSilence_lifted os started H enc)

theorem schedSilence_holds : Rows.SchedSilenceSaid := schedSilence_row
end Go.Proofs.Ytijgfaggakbajaa
