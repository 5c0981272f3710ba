/-
  Proved: for every frame and every four uint64 words the statement HeadFrames (a frame's header is the document's, and tells it; so do any words) answers true, and its arguments read as before.
  Conditions: none beyond the row's own.
-/
import Derived.Test.YtbkabjdbohhjeaaHeadFramesLaw
import Derived.Test.YtbkabjdbohhjeaaOpenFrame
namespace Go.Proofs.Ytbkabjdbohhjeaa
open Go.ChangeShapes Go.WideShapes Go.ChangeAt Go.RowKit

set_option maxRecDepth 100000 in
theorem headFrames_lifted (os : Os) (started : os.Started) (H : Type) (enc : TypeId × Value → H) :
    ReturnsInHanded {} Try.checked os 4 .any (Rows.headFramesSpec.pre6 enc Try.prog Try.f4 Rows.headFramesRow.domain false) (Rows.headFramesSpec.post enc Try.prog Try.f4 false true false false) := by
  refine returnsInHanded_of_change (C := Try.checked) own started (by kernel_rfl) Try.func4
    (ChangeSpec.witness6 (enc := enc) (C := Try.checked) false ⟨#[], #[.agg #[.int .i32 0, .int .u8 0, .int .u8 0, .int .u16 0, .int .i32 0, .int .i32 0, .int .i32 0, .int .i32 0, .int .u64 0], .agg #[.int .u64 0, .int .u64 0, .int .u64 0, .int .u64 0]], []⟩ 8 (by kernel_rfl) (by kernel_rfl) (by kernel_rfl) (by kernel_rfl)) ?_
  intro W base args ds gs before hval0 hW _ _
  have hval : ∀ (j : Nat) t v, Try.f4.params[j]? = some t → args[j]? = some v → Value.okWide Try.prog W .any base t v := hval0
  have hW' := hW
  obtain ⟨p, q, hA0, hV, rfl, hfz, hnd⟩ := hW
  have hA : DataW.TrodAll enc Try.prog W 0 (fun _ => true) true Try.f4.params.toList args.toList ds p := hA0
  rw [Try.params4] at hA hval
  obtain ⟨v0, v1, d0, d1, p0, p1, rfl, rfl, rfl, h0, h1⟩ := trodAll_two hA
  obtain ⟨rfl, rfl⟩ := trodVars_none hV
  obtain ⟨l, v, f, t, o, s, m, r, z, rfl, bl, bv, bf, bt, bo, bs, bm, br, bz⟩ := open_frame (hval 0 30 v0 rfl rfl) h0
  obtain ⟨y0, y1, y2, y3, rfl, bc0, bc1, bc2, bc3⟩ := open_words (hval 1 31 v1 rfl rfl) h1
  clear hA0 hval0
  exact (framesLaw_any l v f t o s m r z y0 y1 y2 y3 W bl.1 bl.2 bv.1 bv.2 bf.1 bf.2 bt.1 bt.2 bo.1 bo.2 bs.1 bs.2 bm.1 bm.2 br.1 br.2 bz.1 bz.2 bc0.1 bc0.2 bc1.1 bc1.2 bc2.1 bc2.2 bc3.1 bc3.2).mono fun e W' ⟨he, hbel⟩ => ⟨_, he, law_post laidOut (by kernel_rfl) rfl Try.underlying4 rfl hW' rfl hbel⟩

theorem headFrames_row : Rows.HeadFramesSaid :=
  OpenClaim.holds_of_wide 4 Try.f4 rfl rfl rfl rfl rfl rfl rfl ⟨rfl, rfl, rfl, rfl, rfl⟩ rfl rfl rfl rfl rfl (by kernel_rfl) Try.func4 (by kernel_rfl)
    (of_decide_eq_true (by kernel_rfl)) (by unfold Func.isWrapper; first | (rw [if_pos (by decide +kernel)]; kernel_rfl) | (rw [if_neg (by decide +kernel)]; exact ⟨rfl, rfl⟩))
    (fun os started H enc _ => headFrames_lifted os started H enc)

theorem headFrames_holds : Rows.HeadFramesSaid := headFrames_row
end Go.Proofs.Ytbkabjdbohhjeaa
