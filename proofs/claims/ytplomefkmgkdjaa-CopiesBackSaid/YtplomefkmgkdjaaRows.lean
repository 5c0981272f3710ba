/-
  No cell of these rows narrows 'for every input' (looked for: loops, veiled, ifaces, maps, wideKeys, modest, calm, conditions, laid).
  DERIVED. THE GIVEN ROWS OF THIS SEAT. 3 by the template 'for every input the law returns true; each argument reads behind the call as it read before'; 0 by the template 'total and deterministic' (their statements: YtplomefkmgkdjaaTotals.lean).
  GIVEN WITH THE SEED: the statements are not yours to turn. If you find one false, say at which input.
  Laid BY PROGRAM, IN A SANDBOX (cutbox-rows.mjs): the forced cells as the released guide's own fill.sh prints them over the translation 00c31d240dc93594… (all of the seat's roots in one cut). By AI agents, Wed Nov 11 2026. No macro, syntax, notation, axiom, sorry.
-/
import Derived.Test.YtplomefkmgkdjaaChecked
import GoSem.Claim
import GoSem.ClaimJoined
import GoSem.ClaimMapViews
import Derived.JoinedTies
import Derived.KernelRfl
namespace Go.Proofs.Ytplomefkmgkdjaa
/- THE CELL 'sum', in the pinned program and in every row, IS THE sha256 OF THE DUMP (.gsa) THAT YtplomefkmgkdjaaProg.lean LOADS. Nothing in Lean hashes anything: it is a label: what it is worth is what the hold of that sum in a sandbox is worth. -/
noncomputable def Try.pinned : Pinned := { name := "ytplomefkmgkdjaa", sum := "00c31d240dc935944d64984d0acc19ae3e07404d50c538d8de0432109b6f82bd", checked := Try.checked }
namespace Rows
def none {H : Type} : Left H := { results := [], args := [] }

/-- 'millstreamlaw05.CopiesSteps': WHATEVER THE INPUT: true; the input reads as it did. -/
def copiesStepsSpec : ChangeSpec := { name := "copiesSteps", fn := fun _ => fun
  | [d1, d2, d3, d4, d5] => { results := [.lit (.bool true)], args := [d1, d2, d3, d4, d5] }
  | _ => none }
def copiesStepsRow : OpenClaim := { program := "ytplomefkmgkdjaa", sum := "00c31d240dc935944d64984d0acc19ae3e07404d50c538d8de0432109b6f82bd", func := "millstream/millstreamlaw05.CopiesSteps", spec := "copiesSteps", unfollowed := true, recurses := true, apart := false }
def CopiesStepsSaid : Prop := copiesStepsRow.holds Try.pinned (OpenSpec.ofChange copiesStepsSpec)

/-- ITS FALSE NEIGHBOUR: 'it returns false'. Refute it at one input. -/
def copiesStepsWrong : ChangeSpec := { name := "copiesSteps", fn := fun _ => fun
  | [d1, d2, d3, d4, d5] => { results := [.lit (.bool false)], args := [d1, d2, d3, d4, d5] }
  | _ => none }
def CopiesStepsWrongFalsely : Prop := copiesStepsRow.holds Try.pinned (OpenSpec.ofChange copiesStepsWrong)

/-- 'millstreamlaw05.CopiesBack': WHATEVER THE INPUT: true; the input reads as it did. -/
def copiesBackSpec : ChangeSpec := { name := "copiesBack", fn := fun _ => fun
  | [d1, d2, d3] => { results := [.lit (.bool true)], args := [d1, d2, d3] }
  | _ => none }
def copiesBackRow : OpenClaim := { program := "ytplomefkmgkdjaa", sum := "00c31d240dc935944d64984d0acc19ae3e07404d50c538d8de0432109b6f82bd", func := "millstream/millstreamlaw05.CopiesBack", spec := "copiesBack", inPlace := ["sync/atomic.AddInt64", "sync/atomic.LoadUint64", "sync/atomic.StoreUint64", "sync/atomic.CompareAndSwapUint64", "sync/atomic.AddUint64"], unfollowed := true, recurses := true, apart := false }
def CopiesBackSaid : Prop := copiesBackRow.holds Try.pinned (OpenSpec.ofChange copiesBackSpec)

/-- ITS FALSE NEIGHBOUR: 'it returns false'. Refute it at one input. -/
def copiesBackWrong : ChangeSpec := { name := "copiesBack", fn := fun _ => fun
  | [d1, d2, d3] => { results := [.lit (.bool false)], args := [d1, d2, d3] }
  | _ => none }
def CopiesBackWrongFalsely : Prop := copiesBackRow.holds Try.pinned (OpenSpec.ofChange copiesBackWrong)

/-- 'millstreamlaw05.CopiesNil': WHATEVER THE INPUT: true; the input reads as it did. -/
def copiesNilSpec : ChangeSpec := { name := "copiesNil", fn := fun _ => fun
  | [d] => { results := [.lit (.bool true)], args := [d] }
  | _ => none }
def copiesNilRow : OpenClaim := { program := "ytplomefkmgkdjaa", sum := "00c31d240dc935944d64984d0acc19ae3e07404d50c538d8de0432109b6f82bd", func := "millstream/millstreamlaw05.CopiesNil", spec := "copiesNil", unfollowed := true, recurses := true, apart := false }
def CopiesNilSaid : Prop := copiesNilRow.holds Try.pinned (OpenSpec.ofChange copiesNilSpec)

/-- ITS FALSE NEIGHBOUR: 'it returns false'. Refute it at one input. -/
def copiesNilWrong : ChangeSpec := { name := "copiesNil", fn := fun _ => fun
  | [d] => { results := [.lit (.bool false)], args := [d] }
  | _ => none }
def CopiesNilWrongFalsely : Prop := copiesNilRow.holds Try.pinned (OpenSpec.ofChange copiesNilWrong)

/- THE SECOND FORM. 'bulk': how many values and letters a reading holds, each counted each time it is reached (what is shared counts as often as it is met; a slice's spare places count too). A statement '..UptoSaid' is the law's where the arguments, and the package variables that the reading takes, are together of bulk at most 1048576: NARROWER than '..Said'. Prove '..Said' where nothing that the law and all that it calls make is longer than what came in: it says more and counts as full. Else prove '..UptoSaid'. A law counts once. -/
mutual
def uptoBulk {H : Type} : DataW H → Nat
  | .lit (.string bytes) => bytes.length + 1
  | .lit _ => 1
  | .nil => 1
  | .ptr d => uptoBulk d + 1
  | .slice elems spare => uptoBulkAll elems + uptoBulkAll spare + 1
  | .agg parts => uptoBulkAll parts + 1
  | .iface _ d => uptoBulk d + 1
  | .map entries => uptoBulkEntries entries + 1
  | .held _ => 1
def uptoBulkAll {H : Type} : List (DataW H) → Nat
  | [] => 0
  | d :: r => uptoBulk d + uptoBulkAll r
def uptoBulkEntries {H : Type} : List (Lit × DataW H) → Nat
  | [] => 0
  | x :: r => uptoBulkEntry x + uptoBulkEntries r
def uptoBulkEntry {H : Type} : Lit × DataW H → Nat
  | (.string bytes, d) => bytes.length + uptoBulk d + 1
  | (_, d) => uptoBulk d + 1
 end
def uptoSmall : (H : Type) → List (DataW H) → Bool := fun _ ds => decide (uptoBulkAll ds ≤ 1048576)
def OpenSpec.upto (s : _root_.Go.ChangeSpec) : _root_.Go.OpenSpec := { _root_.Go.OpenSpec.ofChange s with cond := some uptoSmall }

/-- 'millstreamlaw05.CopiesSteps', WHERE WHAT IT READS IS OF BULK AT MOST 1048576: true; the input reads as it did. -/
def copiesStepsUptoRow : OpenClaim := { program := "ytplomefkmgkdjaa", sum := "00c31d240dc935944d64984d0acc19ae3e07404d50c538d8de0432109b6f82bd", func := "millstream/millstreamlaw05.CopiesSteps", spec := "copiesSteps", unfollowed := true, recurses := true, apart := false, narrowed := true }
def CopiesStepsUptoSaid : Prop := copiesStepsUptoRow.holds Try.pinned (OpenSpec.upto copiesStepsSpec)

/-- 'millstreamlaw05.CopiesBack', WHERE WHAT IT READS IS OF BULK AT MOST 1048576: true; the input reads as it did. -/
def copiesBackUptoRow : OpenClaim := { program := "ytplomefkmgkdjaa", sum := "00c31d240dc935944d64984d0acc19ae3e07404d50c538d8de0432109b6f82bd", func := "millstream/millstreamlaw05.CopiesBack", spec := "copiesBack", inPlace := ["sync/atomic.AddInt64", "sync/atomic.LoadUint64", "sync/atomic.StoreUint64", "sync/atomic.CompareAndSwapUint64", "sync/atomic.AddUint64"], unfollowed := true, recurses := true, apart := false, narrowed := true }
def CopiesBackUptoSaid : Prop := copiesBackUptoRow.holds Try.pinned (OpenSpec.upto copiesBackSpec)

/-- 'millstreamlaw05.CopiesNil', WHERE WHAT IT READS IS OF BULK AT MOST 1048576: true; the input reads as it did. -/
def copiesNilUptoRow : OpenClaim := { program := "ytplomefkmgkdjaa", sum := "00c31d240dc935944d64984d0acc19ae3e07404d50c538d8de0432109b6f82bd", func := "millstream/millstreamlaw05.CopiesNil", spec := "copiesNil", unfollowed := true, recurses := true, apart := false, narrowed := true }
def CopiesNilUptoSaid : Prop := copiesNilUptoRow.holds Try.pinned (OpenSpec.upto copiesNilSpec)

end Rows
end Go.Proofs.Ytplomefkmgkdjaa
