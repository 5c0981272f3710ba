/-
  The fixed facts at the head of layer 4's statements, and its three statements, walked: each answers true and leaves alone what was there.
-/
import Derived.Test.YtgodagidkfflfaaPlaceRef
import Derived.Test.YtgodagidkfflfaaBelowMem
import Derived.Test.YtgodagidkfflfaaLaw
namespace Go.Proofs.Ytgodagidkfflfaa
open Go.RowKit

set_option maxHeartbeats 400000 in
theorem fixed_any (w : World) :
    Calls Try.prog 6 #[] w fun e w' => e = .returned (.bool true) ∧ w = w' := by
  have a1 : Hid (Pl.pos 7 5 32 256 = 544) := Lib.hid (by decide +kernel)
  have a2 : Hid (Pl.posE 7 5 32 256 = 0) := Lib.hid (by decide +kernel)
  have a3 : Hid (Pl.term 544 5 256 = 7) := Lib.hid (by decide +kernel)
  have a4 : Hid (Pl.inE 544 256 = 0) := Lib.hid (by decide +kernel)
  have a5 : Hid (Pl.offs 544 256 = 32) := Lib.hid (by decide +kernel)
  have a6 : Hid (Pl.posE 0 0 0 100 = 1) := Lib.hid (by decide +kernel)
  have a7 : Hid (Pl.pos 0 0 0 100 = 0) := Lib.hid (by decide +kernel)
  go_enter Try.func6, Try.ntmps6
  go_wp2_with (first
    | (go_at_call 7; refine (position_any _ _ _ _ _ (by omega) (by omega)).mono ?_; rintro e w' ⟨rfl, rfl⟩; first | rw [a1.out, a2.out] | rw [a7.out, a6.out])
    | (go_at_call 9; refine (term_any _ _ _ _ (by omega) (by omega)).mono ?_; rintro e w' ⟨rfl, rfl⟩; rw [a3.out, a4.out])
    | (go_at_call 11; refine (offset_any _ _ _ (by omega) (by omega)).mono ?_; rintro e w' ⟨rfl, rfl⟩; rw [a5.out, a4.out])
    | (go_at_call 19; refine (part_any _ _ (by omega) (by omega)).mono ?_; rintro e w' ⟨rfl, rfl⟩))
  go_ret
  exact ⟨rfl, rfl⟩

set_option maxHeartbeats 1000000 in
theorem tellsLaw_any (t i o z p : Int) (w : World) (t0 : -2147483648 ≤ t) (t1 : t ≤ 2147483647) (i0 : -2147483648 ≤ i) (i1 : i ≤ 2147483647) (z0 : -9223372036854775808 ≤ z) (z1 : z ≤ 9223372036854775807) :
    Calls Try.prog 3 #[.int .i32 t, .int .i32 i, .int .i64 o, .int .i64 z, .int .i64 p] w (TrueBelow w) := by
  have hc := Pl.cnt_bounds t i
  obtain ⟨hc0, hc1⟩ := hc
  go_enter Try.func3, Try.ntmps3
  go_wp2_with (first
    | (go_at_call 6; refine (fixed_any _).mono ?_; rintro e w' ⟨rfl, rfl⟩)
    | (go_at_call 7; refine (position_any _ _ _ _ _ (by omega) (by omega)).mono ?_; rintro e w' ⟨rfl, rfl⟩)
    | (go_at_call 8; refine (refPosition_any _ _ _ _ _ (by omega) (by omega) (by omega) (by omega)).mono ?_; rintro e w' ⟨rfl, rfl⟩)
    | (go_at_call 9; refine (term_any _ _ _ _ (by omega) (by omega)).mono ?_; rintro e w' ⟨rfl, rfl⟩)
    | (go_at_call 10; refine (refTerm_any _ _ _ _ (by omega) (by omega)).mono ?_; rintro e w' ⟨rfl, rfl⟩)
    | (go_at_call 11; refine (offset_any _ _ _ (by omega) (by omega)).mono ?_; rintro e w' ⟨rfl, rfl⟩)
    | (go_at_call 12; refine (refOffset_any _ _ _).mono ?_; rintro e w' ⟨rfl, rfl⟩)
    | (go_at_call 13; refine (count_any _ _ _).mono ?_; rintro e w' ⟨rfl, rfl⟩)
    | (go_at_call 14; refine (refCount_any _ _ _ (by omega) (by omega) (by omega) (by omega)).mono ?_; rintro e w' ⟨rfl, rfl⟩)
    | (go_at_call 15; refine (isTerm_any _ _ (by omega) (by omega)).mono ?_; rintro e w' ⟨rfl, rfl⟩)
    | (go_at_call 16; refine (refIsTerm_any _ _).mono ?_; rintro e w' ⟨rfl, rfl⟩)
    | (go_at_call 17; refine (maxPosition_any _ _ (by omega) (by omega)).mono ?_; rintro e w' ⟨rfl, rfl⟩)
    | (go_at_call 18; refine (refMaxPosition_any _ _).mono ?_; rintro e w' ⟨rfl, rfl⟩)
    | (go_at_call 19; refine (part_any _ _ (by omega) (by omega)).mono ?_; rintro e w' ⟨rfl, rfl⟩))
  go_ret
  exact ⟨rfl, Below.refl _ _⟩

set_option maxHeartbeats 1000000 in
theorem tailsLaw_any (t o v : Int) (w : World) (t0 : -2147483648 ≤ t) (t1 : t ≤ 2147483647) (o0 : 0 ≤ o) (o1 : o ≤ 4294967295) (v0 : 0 ≤ v) (v1 : v ≤ 18446744073709551615) :
    Calls Try.prog 5 #[.int .i32 t, .int .u32 o, .int .u64 v] w (TrueBelow w) := by
  have a1 := Lib.hid (Pl.pack_low t o o0 o1)
  have a2 := Lib.hid (Pl.pack_high t o t0 t1 o0 o1)
  have a3 := Lib.hid (Pl.pack_of v v0 v1)
  go_enter Try.func5, Try.ntmps5
  go_wp2_with (first
    | (go_at_call 6; refine (fixed_any _).mono ?_; rintro e w' ⟨rfl, rfl⟩)
    | (go_at_call 20; refine (pack_any _ _ _ (by omega) (by omega)).mono ?_; rintro e w' ⟨rfl, rfl⟩; (try rw [a3.out]))
    | (go_at_call 23; refine (refPack_any _ _ _ (by omega) (by omega) (by omega) (by omega)).mono ?_; rintro e w' ⟨rfl, rfl⟩)
    | (go_at_call 21; refine (unpack_any _ _).mono ?_; rintro e w' ⟨rfl, rfl⟩; (try rw [a1.out, a2.out]))
    | (go_at_call 22; refine (refUnpack_any _ _ (by omega) (by omega)).mono ?_; rintro e w' ⟨rfl, rfl⟩))
  go_ret
  exact ⟨rfl, Below.refl _ _⟩
end Go.Proofs.Ytgodagidkfflfaa
