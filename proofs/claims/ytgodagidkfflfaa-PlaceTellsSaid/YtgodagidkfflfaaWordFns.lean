/-
  Layer 1's Mask, walked.
-/
import Derived.Test.YtgodagidkfflfaaWordPower
namespace Go.Proofs.Ytgodagidkfflfaa
open Go.RowKit

set_option maxHeartbeats 400000 in
theorem mask_any (n to : Int) (w : World) (h1 : to ≤ 9223372036854775807) (h0 : -9223372036854775808 ≤ to) :
    Calls Try.prog 25 #[.int .i64 n, .int .i64 to] w fun e w' => e = .returned (.int .i64 (Wd.mk n to)) ∧ w = w' := by
  cases hp : Wd.isP to with
  | true =>
    have hb := Wd.isP_bounds hp
    have hm := Wd.and_mask n to hp
    have e : Wd.mk n to = n % to := by unfold Wd.mk; rw [if_pos hp]
    have HP := Lib.hid hp
    have HM := Lib.hid (e.trans hm.symm)
    clear hp hm e
    go_enter Try.func25, Try.ntmps25
    go_wp2_with (go_at_call 26; refine (isPower_any _ _ (by omega) (by omega)).mono ?_; rintro e w' ⟨rfl, rfl⟩; rw [HP.out])
    go_ret
    exact ⟨by rw [HM.out]; rfl, rfl⟩
  | false =>
    have e : Wd.mk n to = 0 := by unfold Wd.mk; rw [hp]; rfl
    have HP := Lib.hid hp
    have HE := Lib.hid e
    clear hp e
    go_enter Try.func25, Try.ntmps25
    go_wp2_with (go_at_call 26; refine (isPower_any _ _ (by omega) (by omega)).mono ?_; rintro e w' ⟨rfl, rfl⟩; rw [HP.out])
    go_ret
    exact ⟨by rw [HE.out]; rfl, rfl⟩

end Go.Proofs.Ytgodagidkfflfaa
