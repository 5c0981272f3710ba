/-
  Proved: for every list of bytes and every access the statement MembufOwn (an access touches nothing but its own bytes; what was refused did nothing) answers true, and its arguments read as before.
  Conditions: none beyond the row's own.
-/
import Derived.Test.YtinacnkddjelhaaMembufOwnLaw
import Derived.Test.YtinacnkddjelhaaOpenAccess
namespace Go.Proofs.Ytinacnkddjelhaa
open Go.ChangeShapes Go.WideShapes Go.ChangeAt Go.RowKit

set_option maxRecDepth 100000 in
theorem membufOwn_lifted (os : Os) (started : os.Started) (H : Type) (enc : TypeId × Value → H) :
    ReturnsInHanded {} Try.checked os 3 .any (Rows.membufOwnSpec.pre6 enc Try.prog Try.f3 Rows.membufOwnRow.domain false) (Rows.membufOwnSpec.post enc Try.prog Try.f3 false true false false) := by
  refine returnsInHanded_of_change (C := Try.checked) own started (by kernel_rfl) Try.func3
    (ChangeSpec.witness6 (enc := enc) (C := Try.checked) false ⟨#[], #[.slice none 0 0, .agg #[.int .i64 0, .int .i64 0, .int .i64 0, .int .u64 0, .int .u64 0, .slice none 0 0]], []⟩ 8 (by kernel_rfl) (by kernel_rfl) (by kernel_rfl) (by kernel_rfl)) ?_
  intro W base args ds gs before hval0 hW _ _
  have hval : ∀ (j : Nat) t v, Try.f3.params[j]? = some t → args[j]? = some v → Value.okWide Try.prog W .any base t v := hval0
  have hW' := hW
  obtain ⟨p, q, hA0, hV, rfl, hfz, hnd⟩ := hW
  have hA : DataW.TrodAll enc Try.prog W 0 (fun _ => true) true Try.f3.params.toList args.toList ds p := hA0
  rw [Try.params3] at hA hval
  obtain ⟨v0, v1, d0, d1, p0, p1, rfl, rfl, rfl, h0, h1⟩ := trodAll_two hA
  obtain ⟨rfl, rfl⟩ := trodVars_none hV
  obtain ⟨A0, L0, cap0, f0, rfl, hf0, hb0, hl0, hc0⟩ := open_bl (hval 0 22 v0 rfl rfl) h0
  obtain ⟨K1, P1, N1, V1, U1, A1, L1, cap1, f1, rfl, bK1, bP1, bN1, bV1, bU1, hf1, hb1, hl1, hc1⟩ := open_access (hval 1 25 v1 rfl rfl) h1
  clear hA0 hval0
  exact (ownLaw_all W A0 L0 cap0 f0 hf0 hb0 (by omega) K1 P1 N1 V1 U1 A1 L1 cap1 f1 hf1 hb1 hl1 hc1 bV1 bN1).mono fun e W' ⟨he, hbel⟩ => ⟨_, he, law_post laidOut (by kernel_rfl) rfl Try.underlying4 rfl hW' rfl hbel⟩

theorem membufOwn_row : Rows.MembufOwnSaid :=
  OpenClaim.holds_of_wide 3 Try.f3 rfl rfl rfl rfl rfl rfl rfl ⟨rfl, rfl, rfl, rfl, rfl⟩ rfl rfl rfl rfl rfl (by kernel_rfl) Try.func3 (by kernel_rfl)
    (of_decide_eq_true (by kernel_rfl)) (by unfold Func.isWrapper; first | (rw [if_pos (by decide +kernel)]; kernel_rfl) | (rw [if_neg (by decide +kernel)]; exact ⟨rfl, rfl⟩))
    (fun os started H enc _ => membufOwn_lifted os started H enc)

theorem membufOwn_holds : Rows.MembufOwnSaid := membufOwn_row
end Go.Proofs.Ytinacnkddjelhaa
