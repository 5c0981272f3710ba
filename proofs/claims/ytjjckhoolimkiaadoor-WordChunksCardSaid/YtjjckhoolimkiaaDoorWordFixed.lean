/-
  The fixed facts at the head of layer 1's statements, and the statements on powers and multiples, walked: each answers true and leaves alone what was there.
-/
import Derived.Test.YtjjckhoolimkiaaDoorNumWalks
import Derived.Deep.RegionWith
namespace Go.Proofs.YtjjckhoolimkiaaDoor
open Go.RowKit

/-- True, and what was there is as it was. -/
def TrueBelow (w : World) (e : Ending) (w' : World) : Prop := e = .returned (.bool true) ∧ Below w.heap.size w w'

theorem madeBytes_at (v : Int) (n : Nat) (w : World) (hn : n ≤ 8) :
    Calls Tryd.prog 16 #[.int .u64 v, .int .i64 n] w fun e w' => ∃ x, e = .returned x ∧ (convert 32 9 x).run Tryd.prog w' = .ok (.string (strOfNums (Wd.bs v n))) w' ∧ Below w.heap.size w w' :=
  (bytes_yes v n w hn).mono fun _ _ ⟨x, he, hx, hb⟩ => ⟨x, he, hx.conv, hb⟩

theorem fixed_str : strOfNums (Wd.bs 258 2) = ⟨#[2, 1]⟩ := by decide +kernel

set_option maxHeartbeats 400000 in
theorem fixed_any (w : World) (hT : TabAt 0 Lib.deBruijn64tab w) :
    Calls Tryd.prog 7 #[] w (TrueBelow w) := by
  have a1 : Hid (Wd.al 33 32 = 64) := by exact (by decide +kernel : Wd.al 33 32 = 64)
  have a2 : Hid (alE 33 32 = 0) := by exact (by decide +kernel : alE 33 32 = 0)
  have a3 : Hid (alE 1 3 = 1) := by exact (by decide +kernel : alE 1 3 = 1)
  have a4 : Hid (Wd.lg 8 = 3) := by exact (by decide +kernel : Wd.lg 8 = 3)
  have a5 : Hid (Wd.isP 8 = true) := by exact (by decide +kernel : Wd.isP 8 = true)
  have a6 : Hid (Wd.mk (-1) 8 = 7) := by exact (by decide +kernel : Wd.mk (-1) 8 = 7)
  have a7 := Lib.hid fixed_str
  go_enter Tryd.func7, Tryd.ntmps7
  go_wp2_with (first
    | (go_at_call 14; refine (align_any _ _ _ (by omega) (by omega)).mono ?_; rintro e w' ⟨rfl, rfl⟩; (first | rw [a1.out, a2.out] | rw [a3.out]))
    | (go_at_call 8; refine (log2_any 8 _ (by omega) (by omega) hT).mono ?_; rintro e w' ⟨rfl, rfl⟩; rw [a4.out, a5.out])
    | (go_at_call 16; refine (madeBytes_at 258 2 _ (by omega)).mono ?_; rintro e w' ⟨x, rfl, hx, hb⟩; rw [a7.out] at hx)
    | (go_at_call 12; refine (mask_any (-1) 8 _ (by omega) (by omega)).mono ?_; rintro e w' ⟨rfl, rfl⟩; rw [a6.out]))
  go_ret
  exact ⟨rfl, hb⟩

/-- The table stays where it is while what is made lies above. -/
theorem tab_below {w w' : World} (hT : TabAt 0 Lib.deBruijn64tab w) (hb : Below w.heap.size w w') : TabAt 0 Lib.deBruijn64tab w' := by
  intro j hj
  have h := hT j hj
  have hlt : 0 < w.heap.size := by
    rcases Nat.lt_or_ge 0 w.heap.size with hlt | hge
    · exact hlt
    · simp [World.cell?, Array.getElem?_eq_none hge] at h
  exact (hb.cell (p := ⟨0, j, none⟩) hlt).trans h

set_option maxHeartbeats 1000000 in
theorem powers_any (n to : Int) (w : World) (hT : TabAt 0 Lib.deBruijn64tab w) (h1 : n ≤ 9223372036854775807) (h0 : -9223372036854775808 ≤ n) (h3 : to ≤ 9223372036854775807) (h2 : -9223372036854775808 ≤ to) :
    Calls Tryd.prog 3 #[.int .i64 n, .int .i64 to] w (TrueBelow w) := by
  go_enter Tryd.func3, Tryd.ntmps3
  go_wp2_with (first
    | (go_at_call 7; refine (fixed_any _ hT).mono ?_; rintro e w' ⟨rfl, hb⟩; have hT' := tab_below hT hb)
    | (go_at_call 8; refine (log2_any _ _ (by omega) (by omega) (by assumption)).mono ?_; rintro e w' ⟨rfl, rfl⟩)
    | (go_at_call 9; refine (refLog2_any _ _).mono ?_; rintro e w' ⟨rfl, rfl⟩)
    | (go_at_call 10; refine (isPower_any _ _ (by omega) (by omega)).mono ?_; rintro e w' ⟨rfl, rfl⟩)
    | (go_at_call 11; refine (refIsPower_any _ _).mono ?_; rintro e w' ⟨rfl, rfl⟩)
    | (go_at_call 12; refine (mask_any _ _ _ (by omega) (by omega)).mono ?_; rintro e w' ⟨rfl, rfl⟩)
    | (go_at_call 13; refine (refMask_any _ _ _).mono ?_; rintro e w' ⟨rfl, rfl⟩))
  go_ret
  exact ⟨rfl, hb⟩

set_option maxHeartbeats 1000000 in
theorem aligns_any (n to : Int) (w : World) (hT : TabAt 0 Lib.deBruijn64tab w) (h3 : to ≤ 9223372036854775807) (h2 : -9223372036854775808 ≤ to) :
    Calls Tryd.prog 4 #[.int .i64 n, .int .i64 to] w (TrueBelow w) := by
  go_enter Tryd.func4, Tryd.ntmps4
  go_wp2_with (first
    | (go_at_call 7; refine (fixed_any _ hT).mono ?_; rintro e w' ⟨rfl, hb⟩)
    | (go_at_call 14; refine (align_any _ _ _ (by omega) (by omega)).mono ?_; rintro e w' ⟨rfl, rfl⟩)
    | (go_at_call 15; refine (refAlign_any _ _ _).mono ?_; rintro e w' ⟨rfl, rfl⟩))
  go_ret
  exact ⟨rfl, hb⟩
end Go.Proofs.YtjjckhoolimkiaaDoor
