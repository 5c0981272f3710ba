/-
  No cell of these rows narrows 'for every input' (looked for: loops, veiled, ifaces, maps, wideKeys, modest, calm, conditions, laid).
  DERIVED. THE GIVEN ROWS OF THIS SEAT. 8 by the template 'for every input the law returns true; each argument reads behind the call as it read before'; 0 by the template 'total and deterministic' (their statements: YtjachppnlmiloaaGreatTotals.lean).
  GIVEN WITH THE SEED: the statements are not yours to turn. If you find one false, say at which input.
  Laid BY PROGRAM, IN A SANDBOX (cutbox-rows.mjs): the forced cells as the released guide's own fill.sh prints them over the translation 0887910d8f926809… (all of the seat's roots in one cut). By AI agents, Wed Nov 11 2026. No macro, syntax, notation, axiom, sorry.
-/
import Derived.Test.YtjachppnlmiloaaGreatChecked
import GoSem.Claim
import GoSem.ClaimJoined
import GoSem.ClaimMapViews
import Derived.JoinedTies
import Derived.KernelRfl
namespace Go.Proofs.YtjachppnlmiloaaGreat
/- THE CELL 'sum', in the pinned program and in every row, IS THE sha256 OF THE DUMP (.gsa) THAT YtjachppnlmiloaaGreatProg.lean LOADS. Nothing in Lean hashes anything: it is a label: what it is worth is what the hold of that sum in a sandbox is worth. -/
noncomputable def Tryz.pinned : Pinned := { name := "ytjachppnlmiloaagreat", sum := "0887910d8f9268095eec4bc0c9dcfa500ae40f2ef8f517efe48117fc7fcde30e", checked := Tryz.checked }
namespace Rows
def none {H : Type} : Left H := { results := [], args := [] }

/-- 'millstreamlaw07.RingputSteps': WHATEVER THE INPUT: true; the input reads as it did. -/
def ringputStepsSpec : ChangeSpec := { name := "ringputSteps", fn := fun _ => fun
  | [d1, d2, d3, d4] => { results := [.lit (.bool true)], args := [d1, d2, d3, d4] }
  | _ => none }
def ringputStepsRow : OpenClaim := { program := "ytjachppnlmiloaagreat", sum := "0887910d8f9268095eec4bc0c9dcfa500ae40f2ef8f517efe48117fc7fcde30e", func := "millstream/millstreamlaw07.RingputSteps", spec := "ringputSteps", inPlace := ["sync/atomic.AddInt64", "sync/atomic.LoadUint64", "sync/atomic.StoreUint64", "sync/atomic.CompareAndSwapUint64", "sync/atomic.AddUint64"], unfollowed := true, recurses := true, apart := false }
def RingputStepsSaid : Prop := ringputStepsRow.holds Tryz.pinned (OpenSpec.ofChange ringputStepsSpec)

/-- ITS FALSE NEIGHBOUR: 'it returns false'. Refute it at one input. -/
def ringputStepsWrong : ChangeSpec := { name := "ringputSteps", fn := fun _ => fun
  | [d1, d2, d3, d4] => { results := [.lit (.bool false)], args := [d1, d2, d3, d4] }
  | _ => none }
def RingputStepsWrongFalsely : Prop := ringputStepsRow.holds Tryz.pinned (OpenSpec.ofChange ringputStepsWrong)

/-- 'millstreamlaw07.RingputShares': WHATEVER THE INPUT: true; the input reads as it did. -/
def ringputSharesSpec : ChangeSpec := { name := "ringputShares", fn := fun _ => fun
  | [d1, d2, d3, d4, d5, d6] => { results := [.lit (.bool true)], args := [d1, d2, d3, d4, d5, d6] }
  | _ => none }
def ringputSharesRow : OpenClaim := { program := "ytjachppnlmiloaagreat", sum := "0887910d8f9268095eec4bc0c9dcfa500ae40f2ef8f517efe48117fc7fcde30e", func := "millstream/millstreamlaw07.RingputShares", spec := "ringputShares", inPlace := ["sync/atomic.AddInt64", "sync/atomic.LoadUint64", "sync/atomic.StoreUint64", "sync/atomic.CompareAndSwapUint64", "sync/atomic.AddUint64"], unfollowed := true, recurses := true, apart := false }
def RingputSharesSaid : Prop := ringputSharesRow.holds Tryz.pinned (OpenSpec.ofChange ringputSharesSpec)

/-- ITS FALSE NEIGHBOUR: 'it returns false'. Refute it at one input. -/
def ringputSharesWrong : ChangeSpec := { name := "ringputShares", fn := fun _ => fun
  | [d1, d2, d3, d4, d5, d6] => { results := [.lit (.bool false)], args := [d1, d2, d3, d4, d5, d6] }
  | _ => none }
def RingputSharesWrongFalsely : Prop := ringputSharesRow.holds Tryz.pinned (OpenSpec.ofChange ringputSharesWrong)

/-- 'millstreamlaw07.RingputAlone': WHATEVER THE INPUT: true; the input reads as it did. -/
def ringputAloneSpec : ChangeSpec := { name := "ringputAlone", fn := fun _ => fun
  | [d1, d2] => { results := [.lit (.bool true)], args := [d1, d2] }
  | _ => none }
def ringputAloneRow : OpenClaim := { program := "ytjachppnlmiloaagreat", sum := "0887910d8f9268095eec4bc0c9dcfa500ae40f2ef8f517efe48117fc7fcde30e", func := "millstream/millstreamlaw07.RingputAlone", spec := "ringputAlone", inPlace := ["sync/atomic.AddInt64", "sync/atomic.LoadUint64", "sync/atomic.StoreUint64", "sync/atomic.CompareAndSwapUint64", "sync/atomic.AddUint64"], unfollowed := true, recurses := true, apart := false }
def RingputAloneSaid : Prop := ringputAloneRow.holds Tryz.pinned (OpenSpec.ofChange ringputAloneSpec)

/-- ITS FALSE NEIGHBOUR: 'it returns false'. Refute it at one input. -/
def ringputAloneWrong : ChangeSpec := { name := "ringputAlone", fn := fun _ => fun
  | [d1, d2] => { results := [.lit (.bool false)], args := [d1, d2] }
  | _ => none }
def RingputAloneWrongFalsely : Prop := ringputAloneRow.holds Tryz.pinned (OpenSpec.ofChange ringputAloneWrong)

/-- 'millstreamlaw07.RingputNil': WHATEVER THE INPUT: true; the input reads as it did. -/
def ringputNilSpec : ChangeSpec := { name := "ringputNil", fn := fun _ => fun
  | [d] => { results := [.lit (.bool true)], args := [d] }
  | _ => none }
def ringputNilRow : OpenClaim := { program := "ytjachppnlmiloaagreat", sum := "0887910d8f9268095eec4bc0c9dcfa500ae40f2ef8f517efe48117fc7fcde30e", func := "millstream/millstreamlaw07.RingputNil", spec := "ringputNil", inPlace := ["sync/atomic.AddInt64", "sync/atomic.LoadUint64", "sync/atomic.StoreUint64", "sync/atomic.CompareAndSwapUint64", "sync/atomic.AddUint64"], unfollowed := true, recurses := true, apart := false }
def RingputNilSaid : Prop := ringputNilRow.holds Tryz.pinned (OpenSpec.ofChange ringputNilSpec)

/-- ITS FALSE NEIGHBOUR: 'it returns false'. Refute it at one input. -/
def ringputNilWrong : ChangeSpec := { name := "ringputNil", fn := fun _ => fun
  | [d] => { results := [.lit (.bool false)], args := [d] }
  | _ => none }
def RingputNilWrongFalsely : Prop := ringputNilRow.holds Tryz.pinned (OpenSpec.ofChange ringputNilWrong)

/-- 'millstreamlaw08.RinggetSteps': WHATEVER THE INPUT: true; the input reads as it did. -/
def ringgetStepsSpec : ChangeSpec := { name := "ringgetSteps", fn := fun _ => fun
  | [d1, d2, d3] => { results := [.lit (.bool true)], args := [d1, d2, d3] }
  | _ => none }
def ringgetStepsRow : OpenClaim := { program := "ytjachppnlmiloaagreat", sum := "0887910d8f9268095eec4bc0c9dcfa500ae40f2ef8f517efe48117fc7fcde30e", func := "millstream/millstreamlaw08.RinggetSteps", spec := "ringgetSteps", inPlace := ["sync/atomic.AddInt64", "sync/atomic.LoadUint64", "sync/atomic.StoreUint64", "sync/atomic.CompareAndSwapUint64", "sync/atomic.AddUint64"], unfollowed := true, recurses := true, apart := false }
def RinggetStepsSaid : Prop := ringgetStepsRow.holds Tryz.pinned (OpenSpec.ofChange ringgetStepsSpec)

/-- ITS FALSE NEIGHBOUR: 'it returns false'. Refute it at one input. -/
def ringgetStepsWrong : ChangeSpec := { name := "ringgetSteps", fn := fun _ => fun
  | [d1, d2, d3] => { results := [.lit (.bool false)], args := [d1, d2, d3] }
  | _ => none }
def RinggetStepsWrongFalsely : Prop := ringgetStepsRow.holds Tryz.pinned (OpenSpec.ofChange ringgetStepsWrong)

/-- 'millstreamlaw08.RinggetShares': WHATEVER THE INPUT: true; the input reads as it did. -/
def ringgetSharesSpec : ChangeSpec := { name := "ringgetShares", fn := fun _ => fun
  | [d1, d2, d3, d4] => { results := [.lit (.bool true)], args := [d1, d2, d3, d4] }
  | _ => none }
def ringgetSharesRow : OpenClaim := { program := "ytjachppnlmiloaagreat", sum := "0887910d8f9268095eec4bc0c9dcfa500ae40f2ef8f517efe48117fc7fcde30e", func := "millstream/millstreamlaw08.RinggetShares", spec := "ringgetShares", inPlace := ["sync/atomic.AddInt64", "sync/atomic.LoadUint64", "sync/atomic.StoreUint64", "sync/atomic.CompareAndSwapUint64", "sync/atomic.AddUint64"], unfollowed := true, recurses := true, apart := false }
def RinggetSharesSaid : Prop := ringgetSharesRow.holds Tryz.pinned (OpenSpec.ofChange ringgetSharesSpec)

/-- ITS FALSE NEIGHBOUR: 'it returns false'. Refute it at one input. -/
def ringgetSharesWrong : ChangeSpec := { name := "ringgetShares", fn := fun _ => fun
  | [d1, d2, d3, d4] => { results := [.lit (.bool false)], args := [d1, d2, d3, d4] }
  | _ => none }
def RinggetSharesWrongFalsely : Prop := ringgetSharesRow.holds Tryz.pinned (OpenSpec.ofChange ringgetSharesWrong)

/-- 'millstreamlaw08.RinggetOrder': WHATEVER THE INPUT: true; the input reads as it did. -/
def ringgetOrderSpec : ChangeSpec := { name := "ringgetOrder", fn := fun _ => fun
  | [d1, d2, d3, d4] => { results := [.lit (.bool true)], args := [d1, d2, d3, d4] }
  | _ => none }
def ringgetOrderRow : OpenClaim := { program := "ytjachppnlmiloaagreat", sum := "0887910d8f9268095eec4bc0c9dcfa500ae40f2ef8f517efe48117fc7fcde30e", func := "millstream/millstreamlaw08.RinggetOrder", spec := "ringgetOrder", inPlace := ["sync/atomic.AddInt64", "sync/atomic.LoadUint64", "sync/atomic.StoreUint64", "sync/atomic.CompareAndSwapUint64", "sync/atomic.AddUint64"], unfollowed := true, recurses := true, apart := false }
def RinggetOrderSaid : Prop := ringgetOrderRow.holds Tryz.pinned (OpenSpec.ofChange ringgetOrderSpec)

/-- ITS FALSE NEIGHBOUR: 'it returns false'. Refute it at one input. -/
def ringgetOrderWrong : ChangeSpec := { name := "ringgetOrder", fn := fun _ => fun
  | [d1, d2, d3, d4] => { results := [.lit (.bool false)], args := [d1, d2, d3, d4] }
  | _ => none }
def RinggetOrderWrongFalsely : Prop := ringgetOrderRow.holds Tryz.pinned (OpenSpec.ofChange ringgetOrderWrong)

/-- 'millstreamlaw08.RinggetNil': WHATEVER THE INPUT: true; the input reads as it did. -/
def ringgetNilSpec : ChangeSpec := { name := "ringgetNil", fn := fun _ => fun
  | [d1, d2] => { results := [.lit (.bool true)], args := [d1, d2] }
  | _ => none }
def ringgetNilRow : OpenClaim := { program := "ytjachppnlmiloaagreat", sum := "0887910d8f9268095eec4bc0c9dcfa500ae40f2ef8f517efe48117fc7fcde30e", func := "millstream/millstreamlaw08.RinggetNil", spec := "ringgetNil", inPlace := ["sync/atomic.AddInt64", "sync/atomic.LoadUint64", "sync/atomic.StoreUint64", "sync/atomic.CompareAndSwapUint64", "sync/atomic.AddUint64"], unfollowed := true, recurses := true, apart := false }
def RinggetNilSaid : Prop := ringgetNilRow.holds Tryz.pinned (OpenSpec.ofChange ringgetNilSpec)

/-- ITS FALSE NEIGHBOUR: 'it returns false'. Refute it at one input. -/
def ringgetNilWrong : ChangeSpec := { name := "ringgetNil", fn := fun _ => fun
  | [d1, d2] => { results := [.lit (.bool false)], args := [d1, d2] }
  | _ => none }
def RinggetNilWrongFalsely : Prop := ringgetNilRow.holds Tryz.pinned (OpenSpec.ofChange ringgetNilWrong)

/- THE SECOND FORM. 'bulk': how many values and letters a reading holds, each counted each time it is reached (what is shared counts as often as it is met; a slice's spare places count too). A statement '..UptoSaid' is the law's where the arguments, and the package variables that the reading takes, are together of bulk at most 1048576: NARROWER than '..Said'. Prove '..Said' where nothing that the law and all that it calls make is longer than what came in: it says more and counts as full. Else prove '..UptoSaid'. A law counts once. -/
mutual
def uptoBulk {H : Type} : DataW H → Nat
  | .lit (.string bytes) => bytes.length + 1
  | .lit _ => 1
  | .nil => 1
  | .ptr d => uptoBulk d + 1
  | .slice elems spare => uptoBulkAll elems + uptoBulkAll spare + 1
  | .agg parts => uptoBulkAll parts + 1
  | .iface _ d => uptoBulk d + 1
  | .map entries => uptoBulkEntries entries + 1
  | .held _ => 1
def uptoBulkAll {H : Type} : List (DataW H) → Nat
  | [] => 0
  | d :: r => uptoBulk d + uptoBulkAll r
def uptoBulkEntries {H : Type} : List (Lit × DataW H) → Nat
  | [] => 0
  | x :: r => uptoBulkEntry x + uptoBulkEntries r
def uptoBulkEntry {H : Type} : Lit × DataW H → Nat
  | (.string bytes, d) => bytes.length + uptoBulk d + 1
  | (_, d) => uptoBulk d + 1
 end
def uptoSmall : (H : Type) → List (DataW H) → Bool := fun _ ds => decide (uptoBulkAll ds ≤ 1048576)
def OpenSpec.upto (s : _root_.Go.ChangeSpec) : _root_.Go.OpenSpec := { _root_.Go.OpenSpec.ofChange s with cond := some uptoSmall }

/-- 'millstreamlaw07.RingputSteps', WHERE WHAT IT READS IS OF BULK AT MOST 1048576: true; the input reads as it did. -/
def ringputStepsUptoRow : OpenClaim := { program := "ytjachppnlmiloaagreat", sum := "0887910d8f9268095eec4bc0c9dcfa500ae40f2ef8f517efe48117fc7fcde30e", func := "millstream/millstreamlaw07.RingputSteps", spec := "ringputSteps", inPlace := ["sync/atomic.AddInt64", "sync/atomic.LoadUint64", "sync/atomic.StoreUint64", "sync/atomic.CompareAndSwapUint64", "sync/atomic.AddUint64"], unfollowed := true, recurses := true, apart := false, narrowed := true }
def RingputStepsUptoSaid : Prop := ringputStepsUptoRow.holds Tryz.pinned (OpenSpec.upto ringputStepsSpec)

/-- 'millstreamlaw07.RingputShares', WHERE WHAT IT READS IS OF BULK AT MOST 1048576: true; the input reads as it did. -/
def ringputSharesUptoRow : OpenClaim := { program := "ytjachppnlmiloaagreat", sum := "0887910d8f9268095eec4bc0c9dcfa500ae40f2ef8f517efe48117fc7fcde30e", func := "millstream/millstreamlaw07.RingputShares", spec := "ringputShares", inPlace := ["sync/atomic.AddInt64", "sync/atomic.LoadUint64", "sync/atomic.StoreUint64", "sync/atomic.CompareAndSwapUint64", "sync/atomic.AddUint64"], unfollowed := true, recurses := true, apart := false, narrowed := true }
def RingputSharesUptoSaid : Prop := ringputSharesUptoRow.holds Tryz.pinned (OpenSpec.upto ringputSharesSpec)

/-- 'millstreamlaw07.RingputAlone', WHERE WHAT IT READS IS OF BULK AT MOST 1048576: true; the input reads as it did. -/
def ringputAloneUptoRow : OpenClaim := { program := "ytjachppnlmiloaagreat", sum := "0887910d8f9268095eec4bc0c9dcfa500ae40f2ef8f517efe48117fc7fcde30e", func := "millstream/millstreamlaw07.RingputAlone", spec := "ringputAlone", inPlace := ["sync/atomic.AddInt64", "sync/atomic.LoadUint64", "sync/atomic.StoreUint64", "sync/atomic.CompareAndSwapUint64", "sync/atomic.AddUint64"], unfollowed := true, recurses := true, apart := false, narrowed := true }
def RingputAloneUptoSaid : Prop := ringputAloneUptoRow.holds Tryz.pinned (OpenSpec.upto ringputAloneSpec)

/-- 'millstreamlaw07.RingputNil', WHERE WHAT IT READS IS OF BULK AT MOST 1048576: true; the input reads as it did. -/
def ringputNilUptoRow : OpenClaim := { program := "ytjachppnlmiloaagreat", sum := "0887910d8f9268095eec4bc0c9dcfa500ae40f2ef8f517efe48117fc7fcde30e", func := "millstream/millstreamlaw07.RingputNil", spec := "ringputNil", inPlace := ["sync/atomic.AddInt64", "sync/atomic.LoadUint64", "sync/atomic.StoreUint64", "sync/atomic.CompareAndSwapUint64", "sync/atomic.AddUint64"], unfollowed := true, recurses := true, apart := false, narrowed := true }
def RingputNilUptoSaid : Prop := ringputNilUptoRow.holds Tryz.pinned (OpenSpec.upto ringputNilSpec)

/-- 'millstreamlaw08.RinggetSteps', WHERE WHAT IT READS IS OF BULK AT MOST 1048576: true; the input reads as it did. -/
def ringgetStepsUptoRow : OpenClaim := { program := "ytjachppnlmiloaagreat", sum := "0887910d8f9268095eec4bc0c9dcfa500ae40f2ef8f517efe48117fc7fcde30e", func := "millstream/millstreamlaw08.RinggetSteps", spec := "ringgetSteps", inPlace := ["sync/atomic.AddInt64", "sync/atomic.LoadUint64", "sync/atomic.StoreUint64", "sync/atomic.CompareAndSwapUint64", "sync/atomic.AddUint64"], unfollowed := true, recurses := true, apart := false, narrowed := true }
def RinggetStepsUptoSaid : Prop := ringgetStepsUptoRow.holds Tryz.pinned (OpenSpec.upto ringgetStepsSpec)

/-- 'millstreamlaw08.RinggetShares', WHERE WHAT IT READS IS OF BULK AT MOST 1048576: true; the input reads as it did. -/
def ringgetSharesUptoRow : OpenClaim := { program := "ytjachppnlmiloaagreat", sum := "0887910d8f9268095eec4bc0c9dcfa500ae40f2ef8f517efe48117fc7fcde30e", func := "millstream/millstreamlaw08.RinggetShares", spec := "ringgetShares", inPlace := ["sync/atomic.AddInt64", "sync/atomic.LoadUint64", "sync/atomic.StoreUint64", "sync/atomic.CompareAndSwapUint64", "sync/atomic.AddUint64"], unfollowed := true, recurses := true, apart := false, narrowed := true }
def RinggetSharesUptoSaid : Prop := ringgetSharesUptoRow.holds Tryz.pinned (OpenSpec.upto ringgetSharesSpec)

/-- 'millstreamlaw08.RinggetOrder', WHERE WHAT IT READS IS OF BULK AT MOST 1048576: true; the input reads as it did. -/
def ringgetOrderUptoRow : OpenClaim := { program := "ytjachppnlmiloaagreat", sum := "0887910d8f9268095eec4bc0c9dcfa500ae40f2ef8f517efe48117fc7fcde30e", func := "millstream/millstreamlaw08.RinggetOrder", spec := "ringgetOrder", inPlace := ["sync/atomic.AddInt64", "sync/atomic.LoadUint64", "sync/atomic.StoreUint64", "sync/atomic.CompareAndSwapUint64", "sync/atomic.AddUint64"], unfollowed := true, recurses := true, apart := false, narrowed := true }
def RinggetOrderUptoSaid : Prop := ringgetOrderUptoRow.holds Tryz.pinned (OpenSpec.upto ringgetOrderSpec)

/-- 'millstreamlaw08.RinggetNil', WHERE WHAT IT READS IS OF BULK AT MOST 1048576: true; the input reads as it did. -/
def ringgetNilUptoRow : OpenClaim := { program := "ytjachppnlmiloaagreat", sum := "0887910d8f9268095eec4bc0c9dcfa500ae40f2ef8f517efe48117fc7fcde30e", func := "millstream/millstreamlaw08.RinggetNil", spec := "ringgetNil", inPlace := ["sync/atomic.AddInt64", "sync/atomic.LoadUint64", "sync/atomic.StoreUint64", "sync/atomic.CompareAndSwapUint64", "sync/atomic.AddUint64"], unfollowed := true, recurses := true, apart := false, narrowed := true }
def RinggetNilUptoSaid : Prop := ringgetNilUptoRow.holds Tryz.pinned (OpenSpec.upto ringgetNilSpec)

end Rows
end Go.Proofs.YtjachppnlmiloaaGreat
