/-
  Layer 2's Count and Bytes; parted, since not every seat reaches them.
-/
import Derived.Test.YtijgfaggakbajaaMembufOps
namespace Go.Proofs.Ytijgfaggakbajaa
open Go.RowKit

set_option maxHeartbeats 400000 in
theorem loadI64 (b o : Nat) (x : Int) (w : World) (hc : w.cell? ⟨b, o, none⟩ = some (.int .i64 x)) :
    Calls Try.prog 43 #[.pointer (some ⟨b, o, none⟩)] w fun e w' => e = .returned (.int .i64 x) ∧ w = w' := by
  have hl := run_call_load (P := Try.prog) Try.func66 (by kernel_rfl) (by kernel_rfl) (by kernel_rfl) .i64 (by kernel_rfl) hc
  go_enter Try.func43, Try.ntmps43
  go_wp2
  go_ret
  exact ⟨rfl, rfl⟩

set_option maxHeartbeats 400000 in
theorem count_nil (w : World) : Calls Try.prog 22 #[.pointer none] w fun e w' => e = .returned (.int .i64 0) ∧ w = w' := by
  go_enter Try.func22, Try.ntmps22
  go_wp2
  go_ret
  exact ⟨rfl, rfl⟩

set_option maxHeartbeats 400000 in
theorem count_any {w : World} {g h n : Nat} {m : Nat → Nat} {c : Int} (B : Buf w g h m n c) :
    Calls Try.prog 22 #[.pointer (some ⟨g, 0, none⟩)] w fun e w' => e = .returned (.int .i64 c) ∧ w = w' := by
  have hc := B.count
  clear B
  go_enter Try.func22, Try.ntmps22
  go_wp2_with (go_at_call 43; refine (loadI64 _ _ _ _ hc).mono ?_; rintro e w' ⟨rfl, rfl⟩)
  go_ret
  exact ⟨rfl, rfl⟩

theorem read_all {w : World} {g h n : Nat} {m : Nat → Nat} {c : Int} (B : Buf w g h m n c) :
    Calls Try.prog 36 #[.pointer (some ⟨g, 0, none⟩), .int .i64 0, .int .i64 (8 * (n : Int))] w (MadeBytes (Mb.bl m 0 (8 * n)) w) := by
  simpa using read_any B 0 (8 * n) (by omega)

theorem read_nil (w : World) : Calls Try.prog 36 #[.pointer none, .int .i64 0, .int .i64 0] w (MadeBytes [] w) := by
  obtain ⟨i0, hi, hz0, hz1, hz2⟩ := info_parts infoU8
  go_enter Try.func36, Try.ntmps36
  go_wp2_with (refine wpList_make_own _ rfl _ _ 26 rfl w.heap.size 5 i0 (.int .u8 0) 1 Try.underlying26 hi hz0 hz1 .i64 .i64 _ 0 rfl rfl rfl (by rw [hz2]; omega) (by unfold maxLen; omega) (Nat.le_refl _) ?_; intro w0 hown0 hg0)
  have hbel0 : Below w.heap.size w w0 := (Below.refl _ w).grown hg0 (Nat.le_refl _) (fun g hg => by cases hg)
  clear hg0
  refine wp_loop_rounds 1 ?_
  rw [rounds_succ]
  go_wp2
  go_ret
  exact ⟨_, rfl, BytesAt.of_own (xs := []) hown0, hbel0⟩

set_option maxHeartbeats 400000 in
theorem allBytes_any {w : World} {g h n : Nat} {m : Nat → Nat} {c : Int} (B : Buf w g h m n c) :
    Calls Try.prog 17 #[.pointer (some ⟨g, 0, none⟩)] w (MadeBytes (Mb.bl m 0 (8 * n)) w) := by
  have HB := Lib.hid B
  clear B
  go_enter Try.func17, Try.ntmps17
  go_wp2_with (first
    | (go_at_call 37; refine (size_any HB.out).mono ?_; rintro e w' ⟨rfl, rfl⟩)
    | (go_at_call 36; refine (read_all HB.out).mono ?_; rintro e w1 ⟨x, rfl, hx, hb⟩))
  go_ret
  exact ⟨_, rfl, hx, hb⟩

set_option maxHeartbeats 400000 in
theorem allBytes_nil (w : World) :
    Calls Try.prog 17 #[.pointer none] w (MadeBytes [] w) := by
  go_enter Try.func17, Try.ntmps17
  go_wp2_with (first
    | (go_at_call 37; refine (size_nil _).mono ?_; rintro e w' ⟨rfl, rfl⟩)
    | (go_at_call 36; refine (read_nil _).mono ?_; rintro e w1 ⟨x, rfl, hx, hb⟩))
  go_ret
  exact ⟨_, rfl, hx, hb⟩
end Go.Proofs.Ytijgfaggakbajaa
