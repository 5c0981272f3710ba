/-
  What lies above what was there: one call behind another, 'true and as it was', 'v and as it was'; no function of the program is walked here.
-/
import Derived.Test.YtijgfaggakbajaaRows
import Derived.WalkKit
import Derived.WalkSpells
import Derived.WalkLawsBesides
import Derived.Laws.Bits64b
import Derived.Laws.BitsAllLaws
import Derived.IntWalk
import Derived.Lib.Hide
import Derived.Deep.OwnRows
import Derived.Maps.AppendAt
namespace Go.Proofs.Ytijgfaggakbajaa
open Go.RowKit

/-- One call behind another. -/
theorem _root_.Go.RowKit.Below.after {a b c : World} (h : Below a.heap.size a b) (k : Below b.heap.size b c) : Below a.heap.size a c := h.trans (k.mono h.size)

/-- True, and what was there is as it was. -/
def TrueBelow (w : World) (e : Ending) (w' : World) : Prop := e = .returned (.bool true) ∧ Below w.heap.size w w'

/-- A call that answered v, and left alone what was there. -/
def Made (v : Value) (w : World) (e : Ending) (w' : World) : Prop := e = .returned v ∧ Below w.heap.size w w'

theorem below_drew {W W' : World} (h : Below W.drew.heap.size W.drew W') : Below W.heap.size W W' := (Below.refl _ W).drew.after h

theorem below_drew_alloc {w w' : World} {o : Obj} (h : Below (w.drew.alloc o).heap.size (w.drew.alloc o) w') : Below w.heap.size w w' :=
  ((Below.refl w.heap.size w).drew.alloc (Nat.le_refl _) o).trans (h.mono (by simp))

end Go.Proofs.Ytijgfaggakbajaa
