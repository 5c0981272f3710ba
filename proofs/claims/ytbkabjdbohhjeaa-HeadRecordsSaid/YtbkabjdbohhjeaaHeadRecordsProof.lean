/-
  Proved: for every two int32 numbers and every uint64 the statement HeadRecords (a record's header is the document's, and tells it; so does any number) answers true, and its arguments read as before.
  Conditions: none beyond the row's own.
-/
import Derived.Test.YtbkabjdbohhjeaaHeadLaws
import Derived.Test.YtbkabjdbohhjeaaLaw
namespace Go.Proofs.Ytbkabjdbohhjeaa
open Go.ChangeShapes Go.WideShapes Go.ChangeAt Go.RowKit

set_option maxRecDepth 100000 in
theorem headRecords_lifted (os : Os) (started : os.Started) (H : Type) (enc : TypeId × Value → H) :
    ReturnsInHanded {} Try.checked os 3 .any (Rows.headRecordsSpec.pre6 enc Try.prog Try.f3 Rows.headRecordsRow.domain false) (Rows.headRecordsSpec.post enc Try.prog Try.f3 false true false false) := by
  refine returnsInHanded_of_change (C := Try.checked) own started (by kernel_rfl) Try.func3
    (ChangeSpec.witness6 (enc := enc) (C := Try.checked) false ⟨#[], #[.int .i32 0, .int .i32 0, .int .u64 0], []⟩ 8 (by kernel_rfl) (by kernel_rfl) (by kernel_rfl) (by kernel_rfl)) ?_
  intro W base args ds gs before hval0 hW _ _
  have hval : ∀ (j : Nat) t v, Try.f3.params[j]? = some t → args[j]? = some v → Value.okWide Try.prog W .any base t v := hval0
  have hW' := hW
  obtain ⟨p, q, hA0, hV, rfl, hfz, hnd⟩ := hW
  have hA : DataW.TrodAll enc Try.prog W 0 (fun _ => true) true Try.f3.params.toList args.toList ds p := hA0
  rw [Try.params3] at hA hval
  obtain ⟨v0, v1, v2, d0, d1, d2, p0, p1, p2, rfl, rfl, rfl, h0, h1, h2⟩ := trodAll_three hA
  obtain ⟨rfl, rfl⟩ := trodVars_none hV
  obtain ⟨a0, rfl, rfl, rfl, wa0⟩ := open_int Try.underlying21 (hval 0 21 v0 rfl rfl) h0
  have k0 := bounds_i32 wa0
  obtain ⟨a1, rfl, rfl, rfl, wa1⟩ := open_int Try.underlying21 (hval 1 21 v1 rfl rfl) h1
  have k1 := bounds_i32 wa1
  obtain ⟨a2, rfl, rfl, rfl, wa2⟩ := open_int Try.underlying22 (hval 2 22 v2 rfl rfl) h2
  have k2 := bounds_u64 wa2
  clear hA0 hval0
  exact (recordsLaw_any a0 a1 a2 W k0.1 k0.2 k1.1 k1.2 k2.1 k2.2).mono fun e W' ⟨he, hbel⟩ => ⟨_, he, law_post laidOut (by kernel_rfl) rfl Try.underlying4 rfl hW' rfl hbel⟩

theorem headRecords_row : Rows.HeadRecordsSaid :=
  OpenClaim.holds_of_wide 3 Try.f3 rfl rfl rfl rfl rfl rfl rfl ⟨rfl, rfl, rfl, rfl, rfl⟩ rfl rfl rfl rfl rfl (by kernel_rfl) Try.func3 (by kernel_rfl)
    (of_decide_eq_true (by kernel_rfl)) (by unfold Func.isWrapper; first | (rw [if_pos (by decide +kernel)]; kernel_rfl) | (rw [if_neg (by decide +kernel)]; exact ⟨rfl, rfl⟩))
    (fun os started H enc _ => headRecords_lifted os started H enc)

theorem headRecords_holds : Rows.HeadRecordsSaid := headRecords_row
end Go.Proofs.Ytbkabjdbohhjeaa
