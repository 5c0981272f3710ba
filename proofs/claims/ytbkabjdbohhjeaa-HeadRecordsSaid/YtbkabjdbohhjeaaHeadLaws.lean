/-
  The fixed facts at the head of layer 3's statements, and the statements on records and on sizes, walked: each answers true and leaves alone what was there.
-/
import Derived.Test.YtbkabjdbohhjeaaHeadRef
namespace Go.Proofs.Ytbkabjdbohhjeaa
open Go.RowKit

set_option maxHeartbeats 400000 in
theorem fixed_any (w : World) :
    Calls Try.prog 6 #[] w fun e w' => e = .returned (.bool true) ∧ w = w' := by
  have a1 : Hid (Hd.s32 (Hd.jn (-8) (-1)) = -8) := (by decide +kernel : Hd.s32 (Hd.jn (-8) (-1)) = -8)
  have a2 : Hid (Hd.s32 (Hd.jn (-8) (-1) / 4294967296) = -1) := (by decide +kernel : Hd.s32 (Hd.jn (-8) (-1) / 4294967296) = -1)
  have a3 : Hid (sz 1 32 32 = 64) := (by decide +kernel : sz 1 32 32 = 64)
  have a4 : Hid (szE 1 32 32 = 0) := (by decide +kernel : szE 1 32 32 = 0)
  have a5 : Hid (szE (-1) 8 8 = 1) := (by decide +kernel : szE (-1) 8 8 = 1)
  have a6 : Hid (Hd.jn 8 1 = 4294967304) := (by decide +kernel : Hd.jn 8 1 = 4294967304)
  have a7 : Hid (flg true true = 192) := (by decide +kernel : flg true true = 192)
  go_enter Try.func6, Try.ntmps6
  go_wp2_with (first
    | (go_at_call 7; refine (record_any _ _ _).mono ?_; rintro e w' ⟨rfl, rfl⟩; (try rw [a6.out]))
    | (go_at_call 8; refine (split_any _ _).mono ?_; rintro e w' ⟨rfl, rfl⟩; rw [a1.out, a2.out])
    | (go_at_call 17; refine (frameSize_any _ _).mono ?_; rintro e w' ⟨rfl, rfl⟩; rw [a3.out, a4.out])
    | (go_at_call 15; refine (recordSize_any _ _).mono ?_; rintro e w' ⟨rfl, rfl⟩; rw [a5.out])
    | (go_at_call 19; refine (flags_any _ _ _).mono ?_; rintro e w' ⟨rfl, rfl⟩; rw [a7.out]))
  go_ret
  exact ⟨rfl, rfl⟩

set_option maxHeartbeats 1000000 in
theorem recordsLaw_any (l h v : Int) (w : World) (l0 : -2147483648 ≤ l) (l1 : l ≤ 2147483647) (h0 : -2147483648 ≤ h) (h1 : h ≤ 2147483647) (v0 : 0 ≤ v) (v1 : v ≤ 18446744073709551615) :
    Calls Try.prog 3 #[.int .i32 l, .int .i32 h, .int .u64 v] w (TrueBelow w) := by
  have a1 := Lib.hid (Hd.jn_low l h l0 l1)
  have a2 := Lib.hid (Hd.jn_high l h h0 h1)
  have a3 := Lib.hid (Hd.jn_back v v0 (by omega))
  have H1 := fun w => refRecord_any l h w l0 l1 h0 h1
  have H2 := fun w => refSplit_any v w v0 v1
  have HR := Lib.hid H1
  have HS := Lib.hid H2
  clear H1 H2
  go_enter Try.func3, Try.ntmps3
  go_wp2_with (first
    | (go_at_call 6; refine (fixed_any _).mono ?_; rintro e w' ⟨rfl, rfl⟩)
    | (go_at_call 7; refine (record_any _ _ _).mono ?_; rintro e w' ⟨rfl, rfl⟩; (try rw [a3.out]))
    | (go_at_call 8; refine (split_any _ _).mono ?_; rintro e w' ⟨rfl, rfl⟩; (try rw [a1.out, a2.out]))
    | (go_at_call 9; refine (HS.out _).mono ?_; rintro e w1 ⟨rfl, hb1⟩)
    | (go_at_call 10; refine (HR.out _).mono ?_; rintro e w2 ⟨rfl, hb2⟩))
  go_ret
  exact ⟨rfl, hb1.after hb2⟩

theorem flg_facts (a b : Bool) : (decide (128 ≤ flg a b) == a) = true ∧ (decide (64 ≤ (flg a b).tmod 128) == b) = true ∧ ((flg a b).tmod 64 == 0) = true := by
  cases a <;> cases b <;> decide +kernel

set_option maxHeartbeats 1000000 in
theorem sizesLaw_any (n : Int) (a b : Bool) (w : World) :
    Calls Try.prog 5 #[.int .i64 n, .bool a, .bool b] w (TrueBelow w) := by
  cases a <;> cases b
  all_goals
    go_enter Try.func5, Try.ntmps5
    go_wp2_with (first
      | (go_at_call 6; refine (fixed_any _).mono ?_; rintro e w' ⟨rfl, rfl⟩)
      | (go_at_call 15; refine (recordSize_any _ _).mono ?_; rintro e w' ⟨rfl, rfl⟩)
      | (go_at_call 16; refine (refRecordSize_any _ _).mono ?_; rintro e w' ⟨rfl, rfl⟩)
      | (go_at_call 17; refine (frameSize_any _ _).mono ?_; rintro e w' ⟨rfl, rfl⟩)
      | (go_at_call 18; refine (refFrameSize_any _ _).mono ?_; rintro e w' ⟨rfl, rfl⟩)
      | (go_at_call 19; refine (flags_any _ _ _).mono ?_; rintro e w' ⟨rfl, rfl⟩; simp only [flg, if_true, if_false, Bool.false_eq_true]))
    go_ret
    exact ⟨rfl, Below.refl _ _⟩
end Go.Proofs.Ytbkabjdbohhjeaa
