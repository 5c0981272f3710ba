/-
  No cell of these rows narrows 'for every input' (looked for: loops, veiled, ifaces, maps, wideKeys, modest, calm, conditions, laid).
  DERIVED. THE GIVEN ROWS OF THIS SEAT. 3 by the template 'for every input the law returns true; each argument reads behind the call as it read before'; 0 by the template 'total and deterministic' (their statements: YtinacnkddjelhaaTotals.lean).
  GIVEN WITH THE SEED: the statements are not yours to turn. If you find one false, say at which input.
  Laid BY PROGRAM, IN A SANDBOX (cutbox-rows.mjs): the forced cells as the released guide's own fill.sh prints them over the translation ece1f0f64119ac9f… (all of the seat's roots in one cut). By AI agents, Wed Nov 11 2026. No macro, syntax, notation, axiom, sorry.
-/
import Derived.Test.YtinacnkddjelhaaChecked
import GoSem.Claim
import GoSem.ClaimJoined
import GoSem.ClaimMapViews
import Derived.JoinedTies
import Derived.KernelRfl
namespace Go.Proofs.Ytinacnkddjelhaa
/- THE CELL 'sum', in the pinned program and in every row, IS THE sha256 OF THE DUMP (.gsa) THAT YtinacnkddjelhaaProg.lean LOADS. Nothing in Lean hashes anything: it is a label: what it is worth is what the hold of that sum in a sandbox is worth. -/
noncomputable def Try.pinned : Pinned := { name := "ytinacnkddjelhaa", sum := "ece1f0f64119ac9f261ec4f00f2bdfeecbb1d601783e16ed4d0753f3133bd81c", checked := Try.checked }
namespace Rows
def none {H : Type} : Left H := { results := [], args := [] }

/-- 'millstreamlaw02.MembufOwn': WHATEVER THE INPUT: true; the input reads as it did. -/
def membufOwnSpec : ChangeSpec := { name := "membufOwn", fn := fun _ => fun
  | [d1, d2] => { results := [.lit (.bool true)], args := [d1, d2] }
  | _ => none }
def membufOwnRow : OpenClaim := { program := "ytinacnkddjelhaa", sum := "ece1f0f64119ac9f261ec4f00f2bdfeecbb1d601783e16ed4d0753f3133bd81c", func := "millstream/millstreamlaw02.MembufOwn", spec := "membufOwn", inPlace := ["sync/atomic.AddInt64", "sync/atomic.LoadUint64", "sync/atomic.StoreUint64", "sync/atomic.CompareAndSwapUint64", "sync/atomic.AddUint64", "sync/atomic.LoadInt64"], apart := false }
def MembufOwnSaid : Prop := membufOwnRow.holds Try.pinned (OpenSpec.ofChange membufOwnSpec)

/-- ITS FALSE NEIGHBOUR: 'it returns false'. Refute it at one input. -/
def membufOwnWrong : ChangeSpec := { name := "membufOwn", fn := fun _ => fun
  | [d1, d2] => { results := [.lit (.bool false)], args := [d1, d2] }
  | _ => none }
def MembufOwnWrongFalsely : Prop := membufOwnRow.holds Try.pinned (OpenSpec.ofChange membufOwnWrong)

/-- 'millstreamlaw02.MembufCas': WHATEVER THE INPUT: true; the input reads as it did. -/
def membufCasSpec : ChangeSpec := { name := "membufCas", fn := fun _ => fun
  | [d1, d2, d3, d4, d5] => { results := [.lit (.bool true)], args := [d1, d2, d3, d4, d5] }
  | _ => none }
def membufCasRow : OpenClaim := { program := "ytinacnkddjelhaa", sum := "ece1f0f64119ac9f261ec4f00f2bdfeecbb1d601783e16ed4d0753f3133bd81c", func := "millstream/millstreamlaw02.MembufCas", spec := "membufCas", inPlace := ["sync/atomic.AddInt64", "sync/atomic.LoadUint64", "sync/atomic.StoreUint64", "sync/atomic.CompareAndSwapUint64", "sync/atomic.AddUint64", "sync/atomic.LoadInt64"], apart := false }
def MembufCasSaid : Prop := membufCasRow.holds Try.pinned (OpenSpec.ofChange membufCasSpec)

/-- ITS FALSE NEIGHBOUR: 'it returns false'. Refute it at one input. -/
def membufCasWrong : ChangeSpec := { name := "membufCas", fn := fun _ => fun
  | [d1, d2, d3, d4, d5] => { results := [.lit (.bool false)], args := [d1, d2, d3, d4, d5] }
  | _ => none }
def MembufCasWrongFalsely : Prop := membufCasRow.holds Try.pinned (OpenSpec.ofChange membufCasWrong)

/-- 'millstreamlaw02.MembufNil': WHATEVER THE INPUT: true; the input reads as it did. -/
def membufNilSpec : ChangeSpec := { name := "membufNil", fn := fun _ => fun
  | [d] => { results := [.lit (.bool true)], args := [d] }
  | _ => none }
def membufNilRow : OpenClaim := { program := "ytinacnkddjelhaa", sum := "ece1f0f64119ac9f261ec4f00f2bdfeecbb1d601783e16ed4d0753f3133bd81c", func := "millstream/millstreamlaw02.MembufNil", spec := "membufNil", inPlace := ["sync/atomic.AddInt64", "sync/atomic.LoadUint64", "sync/atomic.StoreUint64", "sync/atomic.CompareAndSwapUint64", "sync/atomic.AddUint64", "sync/atomic.LoadInt64"], apart := false }
def MembufNilSaid : Prop := membufNilRow.holds Try.pinned (OpenSpec.ofChange membufNilSpec)

/-- ITS FALSE NEIGHBOUR: 'it returns false'. Refute it at one input. -/
def membufNilWrong : ChangeSpec := { name := "membufNil", fn := fun _ => fun
  | [d] => { results := [.lit (.bool false)], args := [d] }
  | _ => none }
def MembufNilWrongFalsely : Prop := membufNilRow.holds Try.pinned (OpenSpec.ofChange membufNilWrong)

/- THE SECOND FORM. 'bulk': how many values and letters a reading holds, each counted each time it is reached (what is shared counts as often as it is met; a slice's spare places count too). A statement '..UptoSaid' is the law's where the arguments, and the package variables that the reading takes, are together of bulk at most 1048576: NARROWER than '..Said'. Prove '..Said' where nothing that the law and all that it calls make is longer than what came in: it says more and counts as full. Else prove '..UptoSaid'. A law counts once. -/
mutual
def uptoBulk {H : Type} : DataW H → Nat
  | .lit (.string bytes) => bytes.length + 1
  | .lit _ => 1
  | .nil => 1
  | .ptr d => uptoBulk d + 1
  | .slice elems spare => uptoBulkAll elems + uptoBulkAll spare + 1
  | .agg parts => uptoBulkAll parts + 1
  | .iface _ d => uptoBulk d + 1
  | .map entries => uptoBulkEntries entries + 1
  | .held _ => 1
def uptoBulkAll {H : Type} : List (DataW H) → Nat
  | [] => 0
  | d :: r => uptoBulk d + uptoBulkAll r
def uptoBulkEntries {H : Type} : List (Lit × DataW H) → Nat
  | [] => 0
  | x :: r => uptoBulkEntry x + uptoBulkEntries r
def uptoBulkEntry {H : Type} : Lit × DataW H → Nat
  | (.string bytes, d) => bytes.length + uptoBulk d + 1
  | (_, d) => uptoBulk d + 1
 end
def uptoSmall : (H : Type) → List (DataW H) → Bool := fun _ ds => decide (uptoBulkAll ds ≤ 1048576)
def OpenSpec.upto (s : _root_.Go.ChangeSpec) : _root_.Go.OpenSpec := { _root_.Go.OpenSpec.ofChange s with cond := some uptoSmall }

/-- 'millstreamlaw02.MembufOwn', WHERE WHAT IT READS IS OF BULK AT MOST 1048576: true; the input reads as it did. -/
def membufOwnUptoRow : OpenClaim := { program := "ytinacnkddjelhaa", sum := "ece1f0f64119ac9f261ec4f00f2bdfeecbb1d601783e16ed4d0753f3133bd81c", func := "millstream/millstreamlaw02.MembufOwn", spec := "membufOwn", inPlace := ["sync/atomic.AddInt64", "sync/atomic.LoadUint64", "sync/atomic.StoreUint64", "sync/atomic.CompareAndSwapUint64", "sync/atomic.AddUint64", "sync/atomic.LoadInt64"], apart := false, narrowed := true }
def MembufOwnUptoSaid : Prop := membufOwnUptoRow.holds Try.pinned (OpenSpec.upto membufOwnSpec)

/-- 'millstreamlaw02.MembufCas', WHERE WHAT IT READS IS OF BULK AT MOST 1048576: true; the input reads as it did. -/
def membufCasUptoRow : OpenClaim := { program := "ytinacnkddjelhaa", sum := "ece1f0f64119ac9f261ec4f00f2bdfeecbb1d601783e16ed4d0753f3133bd81c", func := "millstream/millstreamlaw02.MembufCas", spec := "membufCas", inPlace := ["sync/atomic.AddInt64", "sync/atomic.LoadUint64", "sync/atomic.StoreUint64", "sync/atomic.CompareAndSwapUint64", "sync/atomic.AddUint64", "sync/atomic.LoadInt64"], apart := false, narrowed := true }
def MembufCasUptoSaid : Prop := membufCasUptoRow.holds Try.pinned (OpenSpec.upto membufCasSpec)

/-- 'millstreamlaw02.MembufNil', WHERE WHAT IT READS IS OF BULK AT MOST 1048576: true; the input reads as it did. -/
def membufNilUptoRow : OpenClaim := { program := "ytinacnkddjelhaa", sum := "ece1f0f64119ac9f261ec4f00f2bdfeecbb1d601783e16ed4d0753f3133bd81c", func := "millstream/millstreamlaw02.MembufNil", spec := "membufNil", inPlace := ["sync/atomic.AddInt64", "sync/atomic.LoadUint64", "sync/atomic.StoreUint64", "sync/atomic.CompareAndSwapUint64", "sync/atomic.AddUint64", "sync/atomic.LoadInt64"], apart := false, narrowed := true }
def MembufNilUptoSaid : Prop := membufNilUptoRow.holds Try.pinned (OpenSpec.upto membufNilSpec)

end Rows
end Go.Proofs.Ytinacnkddjelhaa
