/-
  No cell of these rows narrows 'for every input' (looked for: loops, veiled, ifaces, maps, wideKeys, modest, calm, conditions, laid).
  DERIVED. THE GIVEN ROWS OF THIS SEAT. 4 by the template 'for every input the law returns true; each argument reads behind the call as it read before'; 0 by the template 'total and deterministic' (their statements: YtikcnioooihncaaGreatTotals.lean).
  GIVEN WITH THE SEED: the statements are not yours to turn. If you find one false, say at which input.
  Laid BY PROGRAM, IN A SANDBOX (cutbox-rows.mjs): the forced cells as the released guide's own fill.sh prints them over the translation 1fe954d4e36a4d11… (all of the seat's roots in one cut). By AI agents, Wed Nov 11 2026. No macro, syntax, notation, axiom, sorry.
-/
import Derived.Test.YtikcnioooihncaaGreatChecked
import GoSem.Claim
import GoSem.ClaimJoined
import GoSem.ClaimMapViews
import Derived.JoinedTies
import Derived.KernelRfl
namespace Go.Proofs.YtikcnioooihncaaGreat
/- THE CELL 'sum', in the pinned program and in every row, IS THE sha256 OF THE DUMP (.gsa) THAT YtikcnioooihncaaGreatProg.lean LOADS. Nothing in Lean hashes anything: it is a label: what it is worth is what the hold of that sum in a sandbox is worth. -/
noncomputable def Tryz.pinned : Pinned := { name := "ytikcnioooihncaagreat", sum := "1fe954d4e36a4d1173bc574310b2c2fa4d3d6c7c9b61fa42a6e9e8cf9183205c", checked := Tryz.checked }
namespace Rows
def none {H : Type} : Left H := { results := [], args := [] }

/-- 'millstreamlaw08.RinggetNil': WHATEVER THE INPUT: true; the input reads as it did. -/
def ringgetNilSpec : ChangeSpec := { name := "ringgetNil", fn := fun _ => fun
  | [d1, d2] => { results := [.lit (.bool true)], args := [d1, d2] }
  | _ => none }
def ringgetNilRow : OpenClaim := { program := "ytikcnioooihncaagreat", sum := "1fe954d4e36a4d1173bc574310b2c2fa4d3d6c7c9b61fa42a6e9e8cf9183205c", func := "millstream/millstreamlaw08.RinggetNil", spec := "ringgetNil", inPlace := ["sync/atomic.AddInt64", "sync/atomic.LoadUint64", "sync/atomic.StoreUint64", "sync/atomic.CompareAndSwapUint64", "sync/atomic.AddUint64"], unfollowed := true, recurses := true, apart := false }
def RinggetNilSaid : Prop := ringgetNilRow.holds Tryz.pinned (OpenSpec.ofChange ringgetNilSpec)

/-- ITS FALSE NEIGHBOUR: 'it returns false'. Refute it at one input. -/
def ringgetNilWrong : ChangeSpec := { name := "ringgetNil", fn := fun _ => fun
  | [d1, d2] => { results := [.lit (.bool false)], args := [d1, d2] }
  | _ => none }
def RinggetNilWrongFalsely : Prop := ringgetNilRow.holds Tryz.pinned (OpenSpec.ofChange ringgetNilWrong)

/-- 'millstreamlaw08.RinggetSteps': WHATEVER THE INPUT: true; the input reads as it did. -/
def ringgetStepsSpec : ChangeSpec := { name := "ringgetSteps", fn := fun _ => fun
  | [d1, d2, d3] => { results := [.lit (.bool true)], args := [d1, d2, d3] }
  | _ => none }
def ringgetStepsRow : OpenClaim := { program := "ytikcnioooihncaagreat", sum := "1fe954d4e36a4d1173bc574310b2c2fa4d3d6c7c9b61fa42a6e9e8cf9183205c", func := "millstream/millstreamlaw08.RinggetSteps", spec := "ringgetSteps", inPlace := ["sync/atomic.AddInt64", "sync/atomic.LoadUint64", "sync/atomic.StoreUint64", "sync/atomic.CompareAndSwapUint64", "sync/atomic.AddUint64"], unfollowed := true, recurses := true, apart := false }
def RinggetStepsSaid : Prop := ringgetStepsRow.holds Tryz.pinned (OpenSpec.ofChange ringgetStepsSpec)

/-- ITS FALSE NEIGHBOUR: 'it returns false'. Refute it at one input. -/
def ringgetStepsWrong : ChangeSpec := { name := "ringgetSteps", fn := fun _ => fun
  | [d1, d2, d3] => { results := [.lit (.bool false)], args := [d1, d2, d3] }
  | _ => none }
def RinggetStepsWrongFalsely : Prop := ringgetStepsRow.holds Tryz.pinned (OpenSpec.ofChange ringgetStepsWrong)

/-- 'millstreamlaw08.RinggetShares': WHATEVER THE INPUT: true; the input reads as it did. -/
def ringgetSharesSpec : ChangeSpec := { name := "ringgetShares", fn := fun _ => fun
  | [d1, d2, d3, d4] => { results := [.lit (.bool true)], args := [d1, d2, d3, d4] }
  | _ => none }
def ringgetSharesRow : OpenClaim := { program := "ytikcnioooihncaagreat", sum := "1fe954d4e36a4d1173bc574310b2c2fa4d3d6c7c9b61fa42a6e9e8cf9183205c", func := "millstream/millstreamlaw08.RinggetShares", spec := "ringgetShares", inPlace := ["sync/atomic.AddInt64", "sync/atomic.LoadUint64", "sync/atomic.StoreUint64", "sync/atomic.CompareAndSwapUint64", "sync/atomic.AddUint64"], unfollowed := true, recurses := true, apart := false }
def RinggetSharesSaid : Prop := ringgetSharesRow.holds Tryz.pinned (OpenSpec.ofChange ringgetSharesSpec)

/-- ITS FALSE NEIGHBOUR: 'it returns false'. Refute it at one input. -/
def ringgetSharesWrong : ChangeSpec := { name := "ringgetShares", fn := fun _ => fun
  | [d1, d2, d3, d4] => { results := [.lit (.bool false)], args := [d1, d2, d3, d4] }
  | _ => none }
def RinggetSharesWrongFalsely : Prop := ringgetSharesRow.holds Tryz.pinned (OpenSpec.ofChange ringgetSharesWrong)

/-- 'millstreamlaw07.RingputSteps': WHATEVER THE INPUT: true; the input reads as it did. -/
def ringputStepsSpec : ChangeSpec := { name := "ringputSteps", fn := fun _ => fun
  | [d1, d2, d3, d4] => { results := [.lit (.bool true)], args := [d1, d2, d3, d4] }
  | _ => none }
def ringputStepsRow : OpenClaim := { program := "ytikcnioooihncaagreat", sum := "1fe954d4e36a4d1173bc574310b2c2fa4d3d6c7c9b61fa42a6e9e8cf9183205c", func := "millstream/millstreamlaw07.RingputSteps", spec := "ringputSteps", inPlace := ["sync/atomic.AddInt64", "sync/atomic.LoadUint64", "sync/atomic.StoreUint64", "sync/atomic.CompareAndSwapUint64", "sync/atomic.AddUint64"], unfollowed := true, recurses := true, apart := false }
def RingputStepsSaid : Prop := ringputStepsRow.holds Tryz.pinned (OpenSpec.ofChange ringputStepsSpec)

/-- ITS FALSE NEIGHBOUR: 'it returns false'. Refute it at one input. -/
def ringputStepsWrong : ChangeSpec := { name := "ringputSteps", fn := fun _ => fun
  | [d1, d2, d3, d4] => { results := [.lit (.bool false)], args := [d1, d2, d3, d4] }
  | _ => none }
def RingputStepsWrongFalsely : Prop := ringputStepsRow.holds Tryz.pinned (OpenSpec.ofChange ringputStepsWrong)

/- THE SECOND FORM. 'bulk': how many values and letters a reading holds, each counted each time it is reached (what is shared counts as often as it is met; a slice's spare places count too). A statement '..UptoSaid' is the law's where the arguments, and the package variables that the reading takes, are together of bulk at most 1048576: NARROWER than '..Said'. Prove '..Said' where nothing that the law and all that it calls make is longer than what came in: it says more and counts as full. Else prove '..UptoSaid'. A law counts once. -/
mutual
def uptoBulk {H : Type} : DataW H → Nat
  | .lit (.string bytes) => bytes.length + 1
  | .lit _ => 1
  | .nil => 1
  | .ptr d => uptoBulk d + 1
  | .slice elems spare => uptoBulkAll elems + uptoBulkAll spare + 1
  | .agg parts => uptoBulkAll parts + 1
  | .iface _ d => uptoBulk d + 1
  | .map entries => uptoBulkEntries entries + 1
  | .held _ => 1
def uptoBulkAll {H : Type} : List (DataW H) → Nat
  | [] => 0
  | d :: r => uptoBulk d + uptoBulkAll r
def uptoBulkEntries {H : Type} : List (Lit × DataW H) → Nat
  | [] => 0
  | x :: r => uptoBulkEntry x + uptoBulkEntries r
def uptoBulkEntry {H : Type} : Lit × DataW H → Nat
  | (.string bytes, d) => bytes.length + uptoBulk d + 1
  | (_, d) => uptoBulk d + 1
 end
def uptoSmall : (H : Type) → List (DataW H) → Bool := fun _ ds => decide (uptoBulkAll ds ≤ 1048576)
def OpenSpec.upto (s : _root_.Go.ChangeSpec) : _root_.Go.OpenSpec := { _root_.Go.OpenSpec.ofChange s with cond := some uptoSmall }

/-- 'millstreamlaw08.RinggetNil', WHERE WHAT IT READS IS OF BULK AT MOST 1048576: true; the input reads as it did. -/
def ringgetNilUptoRow : OpenClaim := { program := "ytikcnioooihncaagreat", sum := "1fe954d4e36a4d1173bc574310b2c2fa4d3d6c7c9b61fa42a6e9e8cf9183205c", func := "millstream/millstreamlaw08.RinggetNil", spec := "ringgetNil", inPlace := ["sync/atomic.AddInt64", "sync/atomic.LoadUint64", "sync/atomic.StoreUint64", "sync/atomic.CompareAndSwapUint64", "sync/atomic.AddUint64"], unfollowed := true, recurses := true, apart := false, narrowed := true }
def RinggetNilUptoSaid : Prop := ringgetNilUptoRow.holds Tryz.pinned (OpenSpec.upto ringgetNilSpec)

/-- 'millstreamlaw08.RinggetSteps', WHERE WHAT IT READS IS OF BULK AT MOST 1048576: true; the input reads as it did. -/
def ringgetStepsUptoRow : OpenClaim := { program := "ytikcnioooihncaagreat", sum := "1fe954d4e36a4d1173bc574310b2c2fa4d3d6c7c9b61fa42a6e9e8cf9183205c", func := "millstream/millstreamlaw08.RinggetSteps", spec := "ringgetSteps", inPlace := ["sync/atomic.AddInt64", "sync/atomic.LoadUint64", "sync/atomic.StoreUint64", "sync/atomic.CompareAndSwapUint64", "sync/atomic.AddUint64"], unfollowed := true, recurses := true, apart := false, narrowed := true }
def RinggetStepsUptoSaid : Prop := ringgetStepsUptoRow.holds Tryz.pinned (OpenSpec.upto ringgetStepsSpec)

/-- 'millstreamlaw08.RinggetShares', WHERE WHAT IT READS IS OF BULK AT MOST 1048576: true; the input reads as it did. -/
def ringgetSharesUptoRow : OpenClaim := { program := "ytikcnioooihncaagreat", sum := "1fe954d4e36a4d1173bc574310b2c2fa4d3d6c7c9b61fa42a6e9e8cf9183205c", func := "millstream/millstreamlaw08.RinggetShares", spec := "ringgetShares", inPlace := ["sync/atomic.AddInt64", "sync/atomic.LoadUint64", "sync/atomic.StoreUint64", "sync/atomic.CompareAndSwapUint64", "sync/atomic.AddUint64"], unfollowed := true, recurses := true, apart := false, narrowed := true }
def RinggetSharesUptoSaid : Prop := ringgetSharesUptoRow.holds Tryz.pinned (OpenSpec.upto ringgetSharesSpec)

/-- 'millstreamlaw07.RingputSteps', WHERE WHAT IT READS IS OF BULK AT MOST 1048576: true; the input reads as it did. -/
def ringputStepsUptoRow : OpenClaim := { program := "ytikcnioooihncaagreat", sum := "1fe954d4e36a4d1173bc574310b2c2fa4d3d6c7c9b61fa42a6e9e8cf9183205c", func := "millstream/millstreamlaw07.RingputSteps", spec := "ringputSteps", inPlace := ["sync/atomic.AddInt64", "sync/atomic.LoadUint64", "sync/atomic.StoreUint64", "sync/atomic.CompareAndSwapUint64", "sync/atomic.AddUint64"], unfollowed := true, recurses := true, apart := false, narrowed := true }
def RingputStepsUptoSaid : Prop := ringputStepsUptoRow.holds Tryz.pinned (OpenSpec.upto ringputStepsSpec)

end Rows
end Go.Proofs.YtikcnioooihncaaGreat
