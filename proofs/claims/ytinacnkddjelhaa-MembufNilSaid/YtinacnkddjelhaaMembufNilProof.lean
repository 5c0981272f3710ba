/-
  Proved: for every access the statement MembufNil (a nil buffer has no bytes) answers true, and its argument reads as before.
  Conditions: none beyond the row's own.
-/
import Derived.Test.YtinacnkddjelhaaMembufNilLaw
import Derived.Test.YtinacnkddjelhaaOpenAccess
namespace Go.Proofs.Ytinacnkddjelhaa
open Go.ChangeShapes Go.WideShapes Go.ChangeAt Go.RowKit

set_option maxRecDepth 100000 in
theorem membufNil_lifted (os : Os) (started : os.Started) (H : Type) (enc : TypeId × Value → H) :
    ReturnsInHanded {} Try.checked os 5 .any (Rows.membufNilSpec.pre6 enc Try.prog Try.f5 Rows.membufNilRow.domain false) (Rows.membufNilSpec.post enc Try.prog Try.f5 false true false false) := by
  refine returnsInHanded_of_change (C := Try.checked) own started (by kernel_rfl) Try.func5
    (ChangeSpec.witness6 (enc := enc) (C := Try.checked) false ⟨#[], #[.agg #[.int .i64 0, .int .i64 0, .int .i64 0, .int .u64 0, .int .u64 0, .slice none 0 0]], []⟩ 8 (by kernel_rfl) (by kernel_rfl) (by kernel_rfl) (by kernel_rfl)) ?_
  intro W base args ds gs before hval0 hW _ _
  have hval : ∀ (j : Nat) t v, Try.f5.params[j]? = some t → args[j]? = some v → Value.okWide Try.prog W .any base t v := hval0
  have hW' := hW
  obtain ⟨p, q, hA0, hV, rfl, hfz, hnd⟩ := hW
  have hA : DataW.TrodAll enc Try.prog W 0 (fun _ => true) true Try.f5.params.toList args.toList ds p := hA0
  rw [Try.params5] at hA hval
  obtain ⟨v0, d0, rfl, rfl, h0⟩ := trodAll_one hA
  obtain ⟨rfl, rfl⟩ := trodVars_none hV
  obtain ⟨K0, P0, N0, V0, U0, A0, L0, cap0, f0, rfl, bK0, bP0, bN0, bV0, bU0, hf0, hb0, hl0, hc0⟩ := open_access (hval 0 25 v0 rfl rfl) h0
  clear hA0 hval0
  exact (nilLaw_any W K0 P0 N0 V0 U0 A0 L0 cap0 (by omega)).mono fun e W' ⟨he, hbel⟩ => ⟨_, he, law_post laidOut (by kernel_rfl) rfl Try.underlying4 rfl hW' rfl hbel⟩

theorem membufNil_row : Rows.MembufNilSaid :=
  OpenClaim.holds_of_wide 5 Try.f5 rfl rfl rfl rfl rfl rfl rfl ⟨rfl, rfl, rfl, rfl, rfl⟩ rfl rfl rfl rfl rfl (by kernel_rfl) Try.func5 (by kernel_rfl)
    (of_decide_eq_true (by kernel_rfl)) (by unfold Func.isWrapper; first | (rw [if_pos (by decide +kernel)]; kernel_rfl) | (rw [if_neg (by decide +kernel)]; exact ⟨rfl, rfl⟩))
    (fun os started H enc _ => membufNil_lifted os started H enc)

theorem membufNil_holds : Rows.MembufNilSaid := membufNil_row
end Go.Proofs.Ytinacnkddjelhaa
