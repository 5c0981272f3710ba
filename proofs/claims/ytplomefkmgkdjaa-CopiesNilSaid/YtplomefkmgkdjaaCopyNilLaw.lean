/-
  The statement that a nil machine has no next access (layer 5), walked.
-/
import Derived.Test.YtplomefkmgkdjaaCopyFixed
namespace Go.Proofs.Ytplomefkmgkdjaa
open Go.RowKit

set_option maxRecDepth 100000 in
set_option maxHeartbeats 1000000 in
theorem copiesNil_any (V : Nat) (D : Bool) (A : Option Addr) (L cp : Nat) (w : World) (hL : L ≤ 9223372036854775807) :
    Calls Try.prog 5 #[.agg #[.int .u64 V, .bool D, .slice A L cp]] w (TrueBelow w) := by
  have HW := (Below.refl w.heap.size w).alloc (Nat.le_refl _) (.cells #[.int .u64 V, .bool D, .slice A L cp] 39)
  have HX := Lib.hid (Go.Deep.blk_alloc_new w (.cells #[.int .u64 V, .bool D, .slice A L cp] 39))
  go_enter Try.func5, Try.ntmps5
  go_wp2_with fail
  generalize w.alloc (.cells #[.int .u64 V, .bool D, .slice A L cp] 39) = W at HW HX ⊢
  refine (copiesFixed_any W).mono ?_
  rintro e w1 ⟨rfl, hq1⟩
  have HW1 := HW.trans (hq1.mono HW.size)
  have hb1 := (hq1.block w.heap.size (Array.getElem?_eq_some_iff.1 HX.out).1).trans HX.out
  have d0 : w1.cell? ⟨w.heap.size, 0, none⟩ = some (.int .u64 V) := by simp [World.cell?, hb1]
  have d1 : w1.cell? ⟨w.heap.size, 1, none⟩ = some (.bool D) := by simp [World.cell?, hb1]
  have d2 : w1.cell? ⟨w.heap.size, 2, none⟩ = some (.slice A L cp) := by simp [World.cell?, hb1]
  clear hq1 HW HX hb1
  by_cases hlong : 100 < L
  · go_wp2
    go_ret
    exact ⟨rfl, HW1⟩
  · have hlong2 : L ≤ 100 := by omega
    clear hlong
    go_wp2_with fail
    refine (take_nil V D A L cp w1).mono ?_
    rintro e w2 ⟨rfl, hq2⟩
    go_wp2_with fail
    refine (next_nil w2).mono ?_
    rintro e w3 ⟨rfl, hq3⟩
    have HW3 := (HW1.trans (hq2.mono HW1.size)).trans (hq3.mono (by have := HW1.size; have := hq2.size; omega))
    clear hq2 hq3 d0 d1 d2
    have HW4 := HW3.alloc HW3.size (.cells #[.int .i64 0, .int .i64 0, .int .i64 0, .int .u64 0, .int .u64 0, .slice none 0 0] 30)
    go_wp2_with fail
    generalize w3.alloc (.cells #[.int .i64 0, .int .i64 0, .int .i64 0, .int .u64 0, .int .u64 0, .slice none 0 0] 30) = w4 at HW4 ⊢
    refine (out_any 0 0 w4 (by omega)).mono ?_
    rintro e w5 ⟨g, rfl, hc5, hb5⟩
    have HC5 := Lib.hid hc5
    have HW5 := HW4.trans (hb5.mono HW4.size)
    clear hc5 hb5
    go_wp2_with fail
    refine (next_no HC5.out).mono ?_
    rintro e w6 ⟨rfl, hq6⟩
    have HW6 := (HW5.trans (hq6.mono HW5.size))
    clear hq6
    have HW7 := HW6.alloc HW6.size (.cells #[.int .i64 0, .int .i64 0, .int .i64 0, .int .u64 0, .int .u64 0, .slice none 0 0] 30)
    go_wp2_with fail
    generalize w6.alloc (.cells #[.int .i64 0, .int .i64 0, .int .i64 0, .int .u64 0, .int .u64 0, .slice none 0 0] 30) = w7 at HW7 ⊢
    refine (bytes_nil w7).mono ?_
    rintro e w8 ⟨A8, c8, rfl, _, hb8⟩
    go_wp2
    go_ret
    exact ⟨rfl, HW7.trans (hb8.mono HW7.size)⟩
end Go.Proofs.Ytplomefkmgkdjaa
