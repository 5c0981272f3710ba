/-
  Layer 1's IsPower and Align, walked. Each contract says what a call returns; the world stays as it was.
-/
import Derived.Test.YtbkabjdbohhjeaaRows
import Derived.Test.YtbkabjdbohhjeaaWordMath
import Derived.WalkSpells
import Derived.WalkLawsBesides
import Derived.Lib.Hide
namespace Go.Proofs.Ytbkabjdbohhjeaa
open Go.RowKit

theorem ret_i64 {a b : Int} (h : b = a) : Ending.returned (.int .i64 a) = .returned (.int .i64 b) := by rw [h]
theorem ret_tup {a b c d : Int} (h : c = a) (h' : d = b) : Ending.returned (.tuple #[.int .i64 a, .int .i64 b]) = .returned (.tuple #[.int .i64 c, .int .i64 d]) := by rw [h, h']

set_option maxHeartbeats 400000 in
theorem isPower_any (n : Int) (w : World) (h1 : n ≤ 9223372036854775807) (h0 : -9223372036854775808 ≤ n) :
    Calls Try.prog 32 #[.int .i64 n] w fun e w' => e = .returned (.bool (Wd.isP n)) ∧ w = w' := by
  by_cases hn : 0 < n
  · have H := Lib.hid (Wd.and_pred n hn h1)
    go_enter Try.func32, Try.ntmps32
    go_wp2
    go_ret
    exact ⟨by rw [← H.out]; rfl, rfl⟩
  · have H : Hid (Wd.isP n = false) := by
      cases e : Wd.isP n with
      | false => exact rfl
      | true => exact absurd (Wd.isP_bounds e).1 (by omega)
    go_enter Try.func32, Try.ntmps32
    go_wp2
    go_ret
    exact ⟨by rw [H.out]; rfl, rfl⟩

/-- api.ErrArg. -/
def errArg : Int := 1
def alE (n to : Int) : Int := if Wd.alOk n to = true then 0 else errArg

set_option maxHeartbeats 400000 in
theorem align_any (n to : Int) (w : World) (h1 : to ≤ 9223372036854775807) (h0 : -9223372036854775808 ≤ to) :
    Calls Try.prog 30 #[.int .i64 n, .int .i64 to] w fun e w' => e = .returned (.tuple #[.int .i64 (Wd.al n to), .int .i64 (alE n to)]) ∧ w = w' := by
  cases hp : Wd.isP to with
  | true =>
    have hb := Wd.isP_bounds hp
    by_cases hn : 0 ≤ n ∧ n ≤ 4611686018427387904
    · obtain ⟨hn0, hn1⟩ := hn
      have hm := Wd.andNot_mask (n + to - 1) to hp (by omega) (by omega)
      have hok : Wd.alOk n to = true := by unfold Wd.alOk; rw [hp]; simp [hn0, hn1]
      have e : Wd.al n to = (n + to - 1) / to * to := by unfold Wd.al; rw [if_pos hok]
      have e2 : alE n to = 0 := by unfold alE; rw [if_pos hok]
      have HP := Lib.hid hp
      have HM := Lib.hid (e.trans hm.symm)
      have HE := Lib.hid e2
      obtain ⟨hb1, hb2⟩ := hb
      clear hp hm e e2 hok
      go_enter Try.func30, Try.ntmps30
      go_wp2_with (go_at_call 32; refine (isPower_any _ _ (by omega) (by omega)).mono ?_; rintro e w' ⟨rfl, rfl⟩; rw [HP.out])
      go_ret2
      refine ⟨ret_tup ?_ (by rw [HE.out]), rfl⟩
      show Wd.al n to = bits BinOp.andNot IntKind.i64 (wrap64 (wrap64 (n + to) - 1)) (to - 1)
      have ew : wrap64 (wrap64 (n + to) - 1) = n + to - 1 := by unfold wrap64; omega
      rw [HM.out, ew]
    · have hok : Wd.alOk n to = false := by unfold Wd.alOk; rw [hp]; simp; omega
      have e : Wd.al n to = 0 := by unfold Wd.al; rw [hok]; rfl
      have e2 : alE n to = 1 := by unfold alE; rw [hok]; rfl
      have HP := Lib.hid hp
      have HM := Lib.hid e
      have HE := Lib.hid e2
      clear hp e e2 hok
      by_cases hn0 : 0 ≤ n
      · have hn1 : 4611686018427387904 < n := by omega
        clear hn
        go_enter Try.func30, Try.ntmps30
        go_wp2_with (go_at_call 32; refine (isPower_any _ _ (by omega) (by omega)).mono ?_; rintro e w' ⟨rfl, rfl⟩; rw [HP.out])
        go_ret2
        exact ⟨by rw [HM.out, HE.out]; rfl, rfl⟩
      · have hn1 : n < 0 := by omega
        clear hn hn0
        go_enter Try.func30, Try.ntmps30
        go_wp2_with (go_at_call 32; refine (isPower_any _ _ (by omega) (by omega)).mono ?_; rintro e w' ⟨rfl, rfl⟩; rw [HP.out])
        go_ret2
        exact ⟨by rw [HM.out, HE.out]; rfl, rfl⟩
  | false =>
    have hok : Wd.alOk n to = false := by unfold Wd.alOk; rw [hp]; rfl
    have e : Wd.al n to = 0 := by unfold Wd.al; rw [hok]; rfl
    have e2 : alE n to = 1 := by unfold alE; rw [hok]; rfl
    have HP := Lib.hid hp
    have HM := Lib.hid e
    have HE := Lib.hid e2
    clear hp e e2 hok
    go_enter Try.func30, Try.ntmps30
    go_wp2_with (go_at_call 32; refine (isPower_any _ _ (by omega) (by omega)).mono ?_; rintro e w' ⟨rfl, rfl⟩; rw [HP.out])
    go_ret2
    exact ⟨by rw [HM.out, HE.out]; rfl, rfl⟩

end Go.Proofs.Ytbkabjdbohhjeaa
