/-
  Whether two accesses are one (layer 2's plain answer), walked for two that are.
-/
import Derived.Test.YtijgfaggakbajaaBytesAt
namespace Go.Proofs.Ytijgfaggakbajaa
open Go.RowKit

set_option maxRecDepth 100000 in
set_option maxHeartbeats 1000000 in
theorem same_any (K P N : Int) (V U : Int) (A B : Option Addr) (L M cp cq : Nat) (xs : List Int) (w : World) (ha : BytesAt w (.slice A L cp) xs) (hb : BytesAt w (.slice B M cq) xs) :
    Calls Try.prog 33 #[.agg #[.int .i64 K, .int .i64 P, .int .i64 N, .int .u64 V, .int .u64 U, .slice A L cp], .agg #[.int .i64 K, .int .i64 P, .int .i64 N, .int .u64 V, .int .u64 U, .slice B M cq]] w (TrueBelow w) := by
  have HW := ((Below.refl w.heap.size w).alloc (Nat.le_refl _) (.cells #[.int .i64 K, .int .i64 P, .int .i64 N, .int .u64 V, .int .u64 U, .slice A L cp] 47)).alloc (by simp) (.cells #[.int .i64 K, .int .i64 P, .int .i64 N, .int .u64 V, .int .u64 U, .slice B M cq] 47)
  have h1 := (ha.below HW).conv
  have h2 := (hb.below HW).conv
  go_enter Try.func33, Try.ntmps33
  go_wp2
  go_ret
  exact ⟨rfl, HW⟩
end Go.Proofs.Ytijgfaggakbajaa
