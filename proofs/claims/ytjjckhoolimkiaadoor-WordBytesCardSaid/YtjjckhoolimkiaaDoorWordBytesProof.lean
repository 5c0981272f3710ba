/-
  Proved: for every number, every count and every list of bytes the statement WordBytes (a number's bytes and bytes' number are the document's; eight bytes tell their number) answers true, and its arguments read as before.
  Conditions: the table math/bits.deBruijn64tab holds what the program's text lays (tied by the card).
-/
import Derived.Test.YtjjckhoolimkiaaDoorWordBytesLaw
import Derived.Test.YtjjckhoolimkiaaDoorWordLaid
import Derived.Test.YtjjckhoolimkiaaDoorOpenBytes
import Derived.Test.YtjjckhoolimkiaaDoorTie
import Derived.Test.YtjjckhoolimkiaaDoorCards
import Derived.SevenTiedAt
namespace Go.Proofs.YtjjckhoolimkiaaDoor
open Go.ChangeShapes Go.WideShapes Go.ChangeAt Go.RowKit

set_option maxRecDepth 100000 in
theorem wordBytes_lifted (os : Os) (started : os.Started) (H : Type) (enc : TypeId × Value → H) :
    ReturnsInHanded {} Tryd.checked os 5 .any (fun w args => (Rows.wordBytesSpec.pre enc Tryd.prog Tryd.f5 [] false w args ∧ laidMetH Tryd.prog laidTab w) ∧ sizedMet enc Tryd.prog Tryd.f5 (OpenSpec.ofChange Rows.wordBytesSpec) false w args)
      (Rows.wordBytesSpec.post enc Tryd.prog Tryd.f5 false true false false) := by
  refine returnsInHanded_of_change_and (C := Tryd.checked) (X := fun w _ => laidMetH Tryd.prog laidTab w) (fun _ _ _ hh h => h.of_heap hh) own started (by kernel_rfl) Tryd.func5
    (ChangeSpec.witness_shaped (enc := enc) (C := Tryd.checked) (os := os) (X := fun w _ => laidMetH Tryd.prog laidTab w) false (World.doorLaid Tryd.prog 400 os) #[.int .u64 0, .int .i64 0, .slice none 0 0] 8 rfl (World.shaped_of_RefB (by kernel_rfl) (by kernel_rfl)) (by kernel_rfl) (by kernel_rfl) (by kernel_rfl) (tab_met os _)) ?_
  intro W base args ds gs before hval0 hW _ _ hL _
  have hval : ∀ (j : Nat) t v, Tryd.f5.params[j]? = some t → args[j]? = some v → Value.okWide Tryd.prog W .any base t v := hval0
  have hW' := hW
  obtain ⟨p, q, hA0, hV, rfl, hfz, hnd⟩ := hW
  have hA : DataW.TrodAll enc Tryd.prog W 0 (fun _ => true) true Tryd.f5.params.toList args.toList ds p := hA0
  rw [Tryd.params5] at hA hval
  obtain ⟨v0, v1, v2, d0, d1, d2, p0, p1, p2, rfl, rfl, rfl, h0, h1, h2⟩ := trodAll_three hA
  obtain ⟨rfl, rfl⟩ := trodVars_none hV
  obtain ⟨a0, rfl, rfl, rfl, wa0⟩ := open_int Tryd.underlying31 (hval 0 31 v0 rfl rfl) h0
  have k0 := bounds_u64 wa0
  obtain ⟨a1, rfl, rfl, rfl, wa1⟩ := open_int Tryd.underlying3 (hval 1 3 v1 rfl rfl) h1
  have k1 := bounds_i64 wa1
  obtain ⟨A2, c2, xs2, rfl, k2, m2, r2⟩ := open_bytes (hval 2 32 v2 rfl rfl) h2
  have hT := tab_of_laid hL
  clear hA0 hval0
  exact (bytesLaw_any a0 a1 A2 c2 xs2 W hT k0.1 k0.2 k2 r2 (by unfold maxLen at m2; omega)).mono fun e W' ⟨he, hbel⟩ => ⟨_, he, law_post laidOut (by kernel_rfl) rfl Tryd.underlying4 rfl hW' rfl hbel⟩

theorem wordBytes_row : Rows.WordBytesSaid :=
  OpenClaim.holds_of_wide 5 Tryd.f5 rfl rfl rfl rfl rfl rfl rfl ⟨rfl, rfl, rfl, rfl, rfl⟩ rfl rfl rfl rfl rfl (by kernel_rfl) Tryd.func5 (by kernel_rfl)
    (of_decide_eq_true (by kernel_rfl)) (by unfold Func.isWrapper; first | (rw [if_pos (by decide +kernel)]; kernel_rfl) | (rw [if_neg (by decide +kernel)]; exact ⟨rfl, rfl⟩))
    (fun os started H enc _ => wordBytes_lifted os started H enc)

theorem wordBytes_holds : Rows.WordBytesCardSaid :=
  Claim7.holds_tied_plain_at .later [] [.data] true Rows.wordBytesCard.stood.harness false
    wordBytes_row (fun _ h => by cases h) (by kernel_rfl) (fun _ h => by cases h) wordBytes_row_tie rfl ⟨rfl, rfl⟩ (by kernel_rfl) rfl
    (fun f fn hf hfn => by
      obtain rfl : f = 5 := Option.some.inj ((show Tryd.prog.funcNamed "millstream/millstreamlaw01.WordBytes" = some 5 by kernel_rfl).symm.trans hf) |>.symm
      obtain rfl : fn = Tryd.f5 := (Option.some.inj (Tryd.func5.symm.trans hfn)).symm
      exact ⟨by kernel_rfl, fun j t ht => by
        rw [Tryd.params5] at ht
        exact noStandIn (by kernel_rfl) (Array.mem_of_getElem? ht)⟩)
    (by kernel_rfl)
end Go.Proofs.YtjjckhoolimkiaaDoor
