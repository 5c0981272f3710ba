/-
  Layer 1's IsPower, walked. Each contract says what a call returns; the world stays as it was.
-/
import Derived.Test.YtgodagidkfflfaaRows
import Derived.Test.YtgodagidkfflfaaWordMath
import Derived.WalkSpells
import Derived.WalkLawsBesides
import Derived.Lib.Hide
namespace Go.Proofs.Ytgodagidkfflfaa
open Go.RowKit

theorem ret_i64 {a b : Int} (h : b = a) : Ending.returned (.int .i64 a) = .returned (.int .i64 b) := by rw [h]
theorem ret_tup {a b c d : Int} (h : c = a) (h' : d = b) : Ending.returned (.tuple #[.int .i64 a, .int .i64 b]) = .returned (.tuple #[.int .i64 c, .int .i64 d]) := by rw [h, h']

set_option maxHeartbeats 400000 in
theorem isPower_any (n : Int) (w : World) (h1 : n ≤ 9223372036854775807) (h0 : -9223372036854775808 ≤ n) :
    Calls Try.prog 26 #[.int .i64 n] w fun e w' => e = .returned (.bool (Wd.isP n)) ∧ w = w' := by
  by_cases hn : 0 < n
  · have H := Lib.hid (Wd.and_pred n hn h1)
    go_enter Try.func26, Try.ntmps26
    go_wp2
    go_ret
    exact ⟨by rw [← H.out]; rfl, rfl⟩
  · have H : Hid (Wd.isP n = false) := by
      cases e : Wd.isP n with
      | false => exact rfl
      | true => exact absurd (Wd.isP_bounds e).1 (by omega)
    go_enter Try.func26, Try.ntmps26
    go_wp2
    go_ret
    exact ⟨by rw [H.out]; rfl, rfl⟩
end Go.Proofs.Ytgodagidkfflfaa
