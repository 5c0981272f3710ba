/-
  Proved: for every two int64 numbers the statement WordAligns (the next multiple is the document's, or it is refused) answers true, and its arguments read as before.
  Conditions: the table math/bits.deBruijn64tab holds what the program's text lays (tied by the card).
-/
import Derived.Test.YtjjckhoolimkiaaDoorWordFixed
import Derived.Test.YtjjckhoolimkiaaDoorWordLaid
import Derived.Test.YtjjckhoolimkiaaDoorTie
import Derived.Test.YtjjckhoolimkiaaDoorCards
import Derived.SevenTiedAt
namespace Go.Proofs.YtjjckhoolimkiaaDoor
open Go.ChangeShapes Go.WideShapes Go.ChangeAt Go.RowKit

set_option maxRecDepth 100000 in
theorem wordAligns_lifted (os : Os) (started : os.Started) (H : Type) (enc : TypeId × Value → H) :
    ReturnsInHanded {} Tryd.checked os 4 .any (fun w args => (Rows.wordAlignsSpec.pre enc Tryd.prog Tryd.f4 [] false w args ∧ laidMetH Tryd.prog laidTab w) ∧ sizedMet enc Tryd.prog Tryd.f4 (OpenSpec.ofChange Rows.wordAlignsSpec) false w args)
      (Rows.wordAlignsSpec.post enc Tryd.prog Tryd.f4 false true false false) := by
  refine returnsInHanded_of_change_and (C := Tryd.checked) (X := fun w _ => laidMetH Tryd.prog laidTab w) (fun _ _ _ hh h => h.of_heap hh) own started (by kernel_rfl) Tryd.func4
    (ChangeSpec.witness_shaped (enc := enc) (C := Tryd.checked) (os := os) (X := fun w _ => laidMetH Tryd.prog laidTab w) false (World.doorLaid Tryd.prog 400 os) #[.int .i64 0, .int .i64 0] 8 rfl (World.shaped_of_RefB (by kernel_rfl) (by kernel_rfl)) (by kernel_rfl) (by kernel_rfl) (by kernel_rfl) (tab_met os _)) ?_
  intro W base args ds gs before hval0 hW _ _ hL _
  have hval : ∀ (j : Nat) t v, Tryd.f4.params[j]? = some t → args[j]? = some v → Value.okWide Tryd.prog W .any base t v := hval0
  have hW' := hW
  obtain ⟨p, q, hA0, hV, rfl, hfz, hnd⟩ := hW
  have hA : DataW.TrodAll enc Tryd.prog W 0 (fun _ => true) true Tryd.f4.params.toList args.toList ds p := hA0
  rw [Tryd.params4] at hA hval
  obtain ⟨v0, v1, d0, d1, p0, p1, rfl, rfl, rfl, h0, h1⟩ := trodAll_two hA
  obtain ⟨rfl, rfl⟩ := trodVars_none hV
  obtain ⟨a0, rfl, rfl, rfl, wa0⟩ := open_int Tryd.underlying2 (hval 0 2 v0 rfl rfl) h0
  have k0 := bounds_i64 wa0
  obtain ⟨a1, rfl, rfl, rfl, wa1⟩ := open_int Tryd.underlying2 (hval 1 2 v1 rfl rfl) h1
  have k1 := bounds_i64 wa1
  have hT := tab_of_laid hL
  clear hA0 hval0
  exact (aligns_any a0 a1 W hT k1.2 k1.1).mono fun e W' ⟨he, hbel⟩ => ⟨_, he, law_post laidOut (by kernel_rfl) rfl Tryd.underlying4 rfl hW' rfl hbel⟩

theorem wordAligns_row : Rows.WordAlignsSaid :=
  OpenClaim.holds_of_wide 4 Tryd.f4 rfl rfl rfl rfl rfl rfl rfl ⟨rfl, rfl, rfl, rfl, rfl⟩ rfl rfl rfl rfl rfl (by kernel_rfl) Tryd.func4 (by kernel_rfl)
    (of_decide_eq_true (by kernel_rfl)) (by unfold Func.isWrapper; first | (rw [if_pos (by decide +kernel)]; kernel_rfl) | (rw [if_neg (by decide +kernel)]; exact ⟨rfl, rfl⟩))
    (fun os started H enc _ => wordAligns_lifted os started H enc)

theorem wordAligns_holds : Rows.WordAlignsCardSaid :=
  Claim7.holds_tied_plain_at .later [] [.data] true Rows.wordAlignsCard.stood.harness false
    wordAligns_row (fun _ h => by cases h) (by kernel_rfl) (fun _ h => by cases h) wordAligns_row_tie rfl ⟨rfl, rfl⟩ (by kernel_rfl) rfl
    (fun f fn hf hfn => by
      obtain rfl : f = 4 := Option.some.inj ((show Tryd.prog.funcNamed "millstream/millstreamlaw01.WordAligns" = some 4 by kernel_rfl).symm.trans hf) |>.symm
      obtain rfl : fn = Tryd.f4 := (Option.some.inj (Tryd.func4.symm.trans hfn)).symm
      exact ⟨by kernel_rfl, fun j t ht => by
        rw [Tryd.params4] at ht
        exact noStandIn (by kernel_rfl) (Array.mem_of_getElem? ht)⟩)
    (by kernel_rfl)
end Go.Proofs.YtjjckhoolimkiaaDoor
