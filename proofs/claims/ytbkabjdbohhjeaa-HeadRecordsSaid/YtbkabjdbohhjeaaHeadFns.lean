/-
  Layer 3's functions that only reckon, walked: joined, halves, Record, Split, Flags, filled, RecordSize, FrameSize.
-/
import Derived.Test.YtbkabjdbohhjeaaWordAlign
import Derived.Test.YtbkabjdbohhjeaaHeadMath
namespace Go.Proofs.Ytbkabjdbohhjeaa
open Go.RowKit

theorem ret_k {k : IntKind} {a b : Int} (h : b = a) : Ending.returned (.int k a) = .returned (.int k b) := by rw [h]
theorem ret_two {k l : IntKind} {a b c d : Int} (h : c = a) (h' : d = b) : Ending.returned (.tuple #[.int k a, .int l b]) = .returned (.tuple #[.int k c, .int l d]) := by rw [h, h']

theorem joined_any (l h : Int) (w : World) :
    Calls Try.prog 20 #[.int .i32 l, .int .i32 h] w fun e w' => e = .returned (.int .u64 (Hd.jn l h)) ∧ w = w' := by
  have H := Lib.hid (Hd.jn_bits' l h)
  go_enter Try.func20, Try.ntmps20
  go_wp2
  go_ret
  exact ⟨ret_k H.out.symm, rfl⟩

theorem halves_any (v : Int) (w : World) :
    Calls Try.prog 21 #[.int .u64 v] w fun e w' => e = .returned (.tuple #[.int .i32 (Hd.s32 v), .int .i32 (Hd.s32 (v / 4294967296))]) ∧ w = w' := by
  go_enter Try.func21, Try.ntmps21
  go_wp2
  go_ret2
  exact ⟨ret_two (Hd.s32_wrap32 v).symm (Hd.s32_wrap32 (v / 4294967296)).symm, rfl⟩

theorem record_any (l h : Int) (w : World) :
    Calls Try.prog 7 #[.int .i32 l, .int .i32 h] w fun e w' => e = .returned (.int .u64 (Hd.jn l h)) ∧ w = w' := by
  go_enter Try.func7, Try.ntmps7
  go_wp2_with (go_at_call 20; refine (joined_any _ _ _).mono ?_; rintro e w' ⟨rfl, rfl⟩)
  go_ret
  exact ⟨rfl, rfl⟩

theorem split_any (v : Int) (w : World) :
    Calls Try.prog 8 #[.int .u64 v] w fun e w' => e = .returned (.tuple #[.int .i32 (Hd.s32 v), .int .i32 (Hd.s32 (v / 4294967296))]) ∧ w = w' := by
  go_enter Try.func8, Try.ntmps8
  go_wp2_with (go_at_call 21; refine (halves_any _ _).mono ?_; rintro e w' ⟨rfl, rfl⟩)
  go_ret2
  exact ⟨rfl, rfl⟩

/-- The flags. -/
def flg (a b : Bool) : Int := (if a then 128 else 0) + (if b then 64 else 0)

theorem flags_any (a b : Bool) (w : World) :
    Calls Try.prog 19 #[.bool a, .bool b] w fun e w' => e = .returned (.int .u8 (flg a b)) ∧ w = w' := by
  cases a <;> cases b
  all_goals
    go_enter Try.func19, Try.ntmps19
    go_wp2
    go_ret
    exact ⟨ret_k (by decide +kernel), rfl⟩

/-- What a header and n bytes take. -/
def szOk (n : Int) : Bool := decide (0 ≤ n) && decide (n ≤ 131072)
def sz (n head to : Int) : Int := if szOk n = true then Wd.al (head + n) to else 0
def szE (n head to : Int) : Int := if szOk n = true then alE (head + n) to else 1

theorem al_in (n to : Int) (h : Wd.alOk n to = true) : 0 ≤ Wd.al n to ∧ Wd.al n to ≤ 4611686018427387904 := by
  have hp : Wd.isP to = true := by unfold Wd.alOk at h; simp at h; exact h.1
  have h0 : 0 ≤ n ∧ n ≤ 4611686018427387904 := by unfold Wd.alOk at h; simp at h; exact h.2
  obtain ⟨hd, hz, hs, hl⟩ := Wd.up_cases n to hp h0.1 h0.2
  unfold Wd.al
  rw [if_pos h]
  by_cases he : n % to = 0
  · rw [hz he]; exact h0
  · rw [hs he]
    have hb := Wd.isP_bounds hp
    exact ⟨Int.mul_nonneg (by omega) (by omega), (hl he).2⟩

theorem al_i64 (n to : Int) : IntKind.i64.wrap (Wd.al n to) = Wd.al n to := by
  have hb : 0 ≤ Wd.al n to ∧ Wd.al n to ≤ 4611686018427387904 := by
    cases h : Wd.alOk n to with
    | true => exact al_in n to h
    | false =>
      have e : Wd.al n to = 0 := by unfold Wd.al; rw [h]; rfl
      rw [e]
      exact ⟨by decide, by decide⟩
  exact IntWalk.i64_in _ (by omega)

set_option maxHeartbeats 400000 in
theorem filled_any (n head to : Int) (w : World) (a0 : 0 ≤ head) (a1 : head ≤ 1000) (b0 : -9223372036854775808 ≤ to) (b1 : to ≤ 9223372036854775807) :
    Calls Try.prog 28 #[.int .i64 n, .int .i64 head, .int .i64 to] w fun e w' => e = .returned (.tuple #[.int .i64 (sz n head to), .int .i64 (szE n head to)]) ∧ w = w' := by
  by_cases h0 : 0 ≤ n
  · by_cases h1 : n ≤ 131072
    · have hk : szOk n = true := by unfold szOk; simp [h0, h1]
      have e1 : sz n head to = Wd.al (head + n) to := by unfold sz; rw [if_pos hk]
      have e2 : szE n head to = alE (head + n) to := by unfold szE; rw [if_pos hk]
      rw [e1, e2]
      clear e1 e2 hk
      have hw : IntKind.i64.wrap (head + n) = head + n := IntWalk.i64_in _ (by omega)
      go_enter Try.func28, Try.ntmps28
      go_wp2_with (go_at_call 30; refine (align_any _ _ _ (by omega) (by omega)).mono ?_; rintro e w' ⟨rfl, rfl⟩)
      go_ret2
      exact ⟨rfl, rfl⟩
    · have hk : szOk n = false := by unfold szOk; simp; omega
      have e1 : sz n head to = 0 := by unfold sz; rw [hk]; rfl
      have e2 : szE n head to = 1 := by unfold szE; rw [hk]; rfl
      rw [e1, e2]
      have h1' : 131072 < n := by omega
      clear e1 e2 hk h1
      go_enter Try.func28, Try.ntmps28
      go_wp2
      go_ret2
      exact ⟨rfl, rfl⟩
  · have hk : szOk n = false := by unfold szOk; simp; omega
    have e1 : sz n head to = 0 := by unfold sz; rw [hk]; rfl
    have e2 : szE n head to = 1 := by unfold szE; rw [hk]; rfl
    rw [e1, e2]
    have h0' : n < 0 := by omega
    clear e1 e2 hk h0
    go_enter Try.func28, Try.ntmps28
    go_wp2
    go_ret2
    exact ⟨rfl, rfl⟩

theorem recordSize_any (n : Int) (w : World) :
    Calls Try.prog 15 #[.int .i64 n] w fun e w' => e = .returned (.tuple #[.int .i64 (sz n 8 8), .int .i64 (szE n 8 8)]) ∧ w = w' := by
  go_enter Try.func15, Try.ntmps15
  go_wp2_with (go_at_call 28; refine (filled_any _ 8 8 _ (by omega) (by omega) (by omega) (by omega)).mono ?_; rintro e w' ⟨rfl, rfl⟩)
  go_ret2
  exact ⟨rfl, rfl⟩

theorem frameSize_any (n : Int) (w : World) :
    Calls Try.prog 17 #[.int .i64 n] w fun e w' => e = .returned (.tuple #[.int .i64 (sz n 32 32), .int .i64 (szE n 32 32)]) ∧ w = w' := by
  go_enter Try.func17, Try.ntmps17
  go_wp2_with (go_at_call 28; refine (filled_any _ 32 32 _ (by omega) (by omega) (by omega) (by omega)).mono ?_; rintro e w' ⟨rfl, rfl⟩)
  go_ret2
  exact ⟨rfl, rfl⟩
end Go.Proofs.Ytbkabjdbohhjeaa
