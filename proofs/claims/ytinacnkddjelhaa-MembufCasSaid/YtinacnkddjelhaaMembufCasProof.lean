/-
  Proved: for every three uint64 numbers, every uint8 and either bool the statement MembufCas (of two that compare and swap the same number just the first one stores) answers true, and its arguments read as before.
  Conditions: none beyond the row's own.
-/
import Derived.Test.YtinacnkddjelhaaMembufCasLaw
import Derived.Test.YtinacnkddjelhaaOpenAccess
namespace Go.Proofs.Ytinacnkddjelhaa
open Go.ChangeShapes Go.WideShapes Go.ChangeAt Go.RowKit

set_option maxRecDepth 100000 in
theorem membufCas_lifted (os : Os) (started : os.Started) (H : Type) (enc : TypeId × Value → H) :
    ReturnsInHanded {} Try.checked os 4 .any (Rows.membufCasSpec.pre6 enc Try.prog Try.f4 Rows.membufCasRow.domain false) (Rows.membufCasSpec.post enc Try.prog Try.f4 false true false false) := by
  refine returnsInHanded_of_change (C := Try.checked) own started (by kernel_rfl) Try.func4
    (ChangeSpec.witness6 (enc := enc) (C := Try.checked) false ⟨#[], #[.int .u64 0, .int .u64 0, .int .u64 0, .int .u8 0, .bool false], []⟩ 8 (by kernel_rfl) (by kernel_rfl) (by kernel_rfl) (by kernel_rfl)) ?_
  intro W base args ds gs before hval0 hW _ _
  have hval : ∀ (j : Nat) t v, Try.f4.params[j]? = some t → args[j]? = some v → Value.okWide Try.prog W .any base t v := hval0
  have hW' := hW
  obtain ⟨p, q, hA0, hV, rfl, hfz, hnd⟩ := hW
  have hA : DataW.TrodAll enc Try.prog W 0 (fun _ => true) true Try.f4.params.toList args.toList ds p := hA0
  rw [Try.params4] at hA hval
  obtain ⟨v0, w0, d0, e0, p0, q0, hargs0, hds0, hps0, h0, hr1⟩ := trodAll_cons hA
  obtain ⟨v1, w1, d1, e1, p1, q1, rfl, rfl, rfl, h1, hr2⟩ := trodAll_cons hr1
  obtain ⟨v2, w2, d2, e2, p2, q2, rfl, rfl, rfl, h2, hr3⟩ := trodAll_cons hr2
  obtain ⟨v3, w3, d3, e3, p3, q3, rfl, rfl, rfl, h3, hr4⟩ := trodAll_cons hr3
  obtain ⟨v4, w4, d4, e4, p4, q4, rfl, rfl, rfl, h4, hr5⟩ := trodAll_cons hr4
  obtain ⟨rfl, rfl, rfl⟩ := trodAll_nil hr5
  obtain rfl : args = #[v0, v1, v2, v3, v4] := Array.ext' hargs0
  subst hds0 hps0
  obtain ⟨rfl, rfl⟩ := trodVars_none hV
  obtain ⟨a0, rfl, rfl, rfl, wa0⟩ := open_int Try.underlying23 (hval 0 23 v0 rfl rfl) h0
  have k0 := bounds_u64 wa0
  obtain ⟨a1, rfl, rfl, rfl, wa1⟩ := open_int Try.underlying23 (hval 1 23 v1 rfl rfl) h1
  have k1 := bounds_u64 wa1
  obtain ⟨a2, rfl, rfl, rfl, wa2⟩ := open_int Try.underlying23 (hval 2 23 v2 rfl rfl) h2
  have k2 := bounds_u64 wa2
  obtain ⟨a3, rfl, rfl, rfl, wa3⟩ := open_int Try.underlying5 (hval 3 5 v3 rfl rfl) h3
  have k3 := bounds_u8 wa3
  obtain ⟨a4, rfl, rfl, rfl⟩ := open_bool Try.underlying4 (hval 4 4 v4 rfl rfl) h4
  clear hA0 hval0
  exact (casLaw_all a0 a1 a2 a3 a4 W k0.1 k0.2 k1.1 k1.2 k2.1 k2.2 k3.1 k3.2).mono fun e W' ⟨he, hbel⟩ => ⟨_, he, law_post laidOut (by kernel_rfl) rfl Try.underlying4 rfl hW' rfl hbel⟩

theorem membufCas_row : Rows.MembufCasSaid :=
  OpenClaim.holds_of_wide 4 Try.f4 rfl rfl rfl rfl rfl rfl rfl ⟨rfl, rfl, rfl, rfl, rfl⟩ rfl rfl rfl rfl rfl (by kernel_rfl) Try.func4 (by kernel_rfl)
    (of_decide_eq_true (by kernel_rfl)) (by unfold Func.isWrapper; first | (rw [if_pos (by decide +kernel)]; kernel_rfl) | (rw [if_neg (by decide +kernel)]; exact ⟨rfl, rfl⟩))
    (fun os started H enc _ => membufCas_lifted os started H enc)

theorem membufCas_holds : Rows.MembufCasSaid := membufCas_row
end Go.Proofs.Ytinacnkddjelhaa
