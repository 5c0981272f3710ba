/-
  The listed table of layer 1's statements: what the row's condition gives a walk, and a world that meets it.
-/
import Derived.Test.YtjjckhoolimkiaaDoorLaw
import Derived.Shelf.Spec.TrailingZeros
namespace Go.Proofs.YtjjckhoolimkiaaDoor
open Go.ChangeShapes Go.WideShapes Go.ChangeAt Go.RowKit

def laidTab {H : Type} : List (String × DataW H) := [("math/bits.deBruijn64tab", Rows.laid_math_bits_deBruijn64tab)]

theorem gTab : Tryd.prog.globalNamed "math/bits.deBruijn64tab" = some 0 := by kernel_rfl
theorem gTabType : (Tryd.prog.globals[0]?).map (·.type) = some 40 := by kernel_rfl
theorem cellsU8 : Tryd.prog.cellsOf 5 = 1 := by kernel_rfl
theorem cellsTab : Tryd.prog.cellsOf 40 = 64 := by kernel_rfl

/-- The door's own heap meets the condition. -/
theorem tab_met (os : Os) (args : Array Value) : laidMetH Tryd.prog laidTab ((World.doorLaid Tryd.prog 400 os).forCall (fun _ _ => 0) ⟨#[], args, []⟩).memory :=
  laidMetH_of_parts3 (fuel := 8) (laidMet_of_run' 8 (by kernel_rfl) (by kernel_rfl)) (by kernel_rfl) (by kernel_rfl)

theorem tab_data : (laidTab : List (String × DataW Unit)) = [("math/bits.deBruijn64tab", Lib.tabData .u8 (Lib.deBruijn64tab.map Int.ofNat))] := rfl

theorem tab_of_laid {W : World} (h : laidMetH Tryd.prog laidTab W) : TabAt 0 Lib.deBruijn64tab W := by
  rw [MakeChecks.laidMetH_plain _ _ _ (by kernel_rfl), tab_data] at h
  have hT := Lib.tabIs_of_head gTab gTabType Tryd.underlying40 Tryd.underlying5 cellsU8 cellsTab h
  intro j hj
  have hc := hT.cell gTab j (by simpa using hj)
  rw [hc]
  simp [List.getD, hj]
end Go.Proofs.YtjjckhoolimkiaaDoor
