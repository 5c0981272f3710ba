/-
  The plain answers to layer 1's powers and multiples, walked.
-/
import Derived.Test.YtbkabjdbohhjeaaWordAlign
namespace Go.Proofs.Ytbkabjdbohhjeaa
open Go.RowKit

theorem pow_next (j : Nat) (x : Int) (h : j < 63 → x = 2 ^ j) (h' : j + 1 < 63) : wrap64 (x * 2) = 2 ^ (j + 1) := by
  have hb := Wd.pow_bounds (j + 1) h'
  rw [h (by omega), ← Int.pow_succ]
  show wrap64 ((2 : Int) ^ (j + 1)) = _
  unfold wrap64
  omega

set_option maxHeartbeats 400000 in
theorem refLog2_any (n : Int) (w : World) :
    Calls Try.prog 34 #[.int .i64 n] w fun e w' => e = .returned (.tuple #[.int .i64 (Wd.lg n), .bool (Wd.isP n)]) ∧ w = w' := by
  go_enter Try.func34, Try.ntmps34
  go_wp2
  go_loop [4, 5] (fun v k => ∃ (j : Nat) (x : Int), j ≤ 63 ∧ k = .int .i64 j ∧ v = .int .i64 x ∧ (j < 63 → x = 2 ^ j) ∧ ∀ i, i < j → n ≠ 2 ^ i) (fun _ k => 63 - (intOf k).toNat)
  case atStart => exact ⟨0, 1, by omega, rfl, rfl, by simp, by omega⟩
  case round =>
    obtain ⟨j, x, hj, rfl, rfl, hx, hn⟩ := hrel
    have HX := Lib.hid hx
    have HN := Lib.hid hn
    clear hx hn
    by_cases hlt : j < 63
    · by_cases he : x = n
      · have hb : (x == n) = true := by simpa using he
        have hlg : Wd.lg n = j := by rw [← he, HX.out hlt]; exact Wd.lg_pow j hlt
        have hip : Wd.isP n = true := by rw [← he, HX.out hlt]; exact Wd.isP_pow j hlt
        have H1 := Lib.hid hlg
        have H2 := Lib.hid hip
        clear hlg hip he
        go_wp2
        go_ret2
        exact ⟨by rw [H1.out, H2.out]; rfl, rfl⟩
      · have hb : (x == n) = false := by simpa using he
        have HB := Lib.hid he
        clear he
        go_wp2
        go_round
        case rel =>
          refine ⟨j + 1, _, by omega, by go_num, rfl, pow_next j x HX.out, ?_⟩
          intro i hi
          by_cases hij : i = j
          · subst hij; rw [← HX.out hlt]; exact fun h => HB.out h.symm
          · exact HN.out i (by omega)
        case measure => simp [intOf]; omega
    · have hjj : j = 63 := by omega
      have hip : Wd.isP n = false := by
        cases e : Wd.isP n with
        | false => rfl
        | true =>
          obtain ⟨k, hk, hh⟩ := (Wd.isP_iff n).1 e
          exact absurd hh (HN.out k (by omega))
      have hlg : Wd.lg n = 0 := by unfold Wd.lg; rw [hip]; rfl
      have H1 := Lib.hid hlg
      have H2 := Lib.hid hip
      clear hlg hip hjj
      go_wp2
      go_ret2
      exact ⟨by rw [H1.out, H2.out]; rfl, rfl⟩

set_option maxHeartbeats 400000 in
theorem refIsPower_any (n : Int) (w : World) :
    Calls Try.prog 33 #[.int .i64 n] w fun e w' => e = .returned (.bool (Wd.isP n)) ∧ w = w' := by
  go_enter Try.func33, Try.ntmps33
  go_wp2_with (go_at_call 34; refine (refLog2_any _ _).mono ?_; rintro e w' ⟨rfl, rfl⟩)
  go_ret
  exact ⟨rfl, rfl⟩

set_option maxHeartbeats 400000 in
theorem refAlign_any (n to : Int) (w : World) :
    Calls Try.prog 31 #[.int .i64 n, .int .i64 to] w fun e w' => e = .returned (.tuple #[.int .i64 (Wd.al n to), .int .i64 (alE n to)]) ∧ w = w' := by
  cases hp : Wd.isP to with
  | true =>
    have hb := Wd.isP_bounds hp
    have hto : (to == 0) = false := beq_eq_false_iff_ne.2 (by omega)
    by_cases hn : 0 ≤ n ∧ n ≤ 4611686018427387904
    · obtain ⟨hn0, hn1⟩ := hn
      have hok : Wd.alOk n to = true := by unfold Wd.alOk; rw [hp]; simp [hn0, hn1]
      have e : Wd.al n to = (n + to - 1) / to * to := by unfold Wd.al; rw [if_pos hok]
      have e2 : alE n to = 0 := by unfold alE; rw [if_pos hok]
      obtain ⟨hd, hz, hs, hlt⟩ := Wd.up_cases n to hp hn0 hn1
      have HP := Lib.hid hp
      have HM := Lib.hid e
      have HE := Lib.hid e2
      have HZ := Lib.hid hz
      have HS := Lib.hid hs
      have HL := Lib.hid hlt
      clear hp e e2 hok hz hs hlt
      go_enter Try.func31, Try.ntmps31
      go_wp2_with (go_at_call 33; refine (refIsPower_any _ _).mono ?_; rintro e w' ⟨rfl, rfl⟩; rw [HP.out])
      · have h : (n % to == 0) = true := by assumption
        go_ret2
        exact ⟨ret_tup (by rw [HM.out]; exact HZ.out (by simpa using h)) (by rw [HE.out]), rfl⟩
      · have h : (n % to == 0) = false := by assumption
        have h2 := HL.out (by simpa using h)
        omega
      · have h : (n % to == 0) = false := by assumption
        have h2 := HL.out (by simpa using h)
        go_ret2
        refine ⟨ret_tup ?_ (by rw [HE.out]), rfl⟩
        show Wd.al n to = wrap64 ((n / to + 1) * to)
        rw [HM.out, HS.out (by simpa using h)]
        have h3 : 0 ≤ (n / to + 1) * to := Int.mul_nonneg (by omega) (by omega)
        generalize (n / to + 1) * to = z at h2 h3 ⊢
        unfold wrap64
        omega
    · have hok : Wd.alOk n to = false := by unfold Wd.alOk; rw [hp]; simp; omega
      have e : Wd.al n to = 0 := by unfold Wd.al; rw [hok]; rfl
      have e2 : alE n to = 1 := by unfold alE; rw [hok]; rfl
      have HP := Lib.hid hp
      have HM := Lib.hid e
      have HE := Lib.hid e2
      clear hp e e2 hok
      by_cases hn0 : 0 ≤ n
      · have hn1 : 4611686018427387904 < n := by omega
        clear hn
        go_enter Try.func31, Try.ntmps31
        go_wp2_with (go_at_call 33; refine (refIsPower_any _ _).mono ?_; rintro e w' ⟨rfl, rfl⟩; rw [HP.out])
        go_ret2
        exact ⟨by rw [HM.out, HE.out]; rfl, rfl⟩
      · have hn1 : n < 0 := by omega
        clear hn hn0
        go_enter Try.func31, Try.ntmps31
        go_wp2_with (go_at_call 33; refine (refIsPower_any _ _).mono ?_; rintro e w' ⟨rfl, rfl⟩; rw [HP.out])
        go_ret2
        exact ⟨by rw [HM.out, HE.out]; rfl, rfl⟩
  | false =>
    have hok : Wd.alOk n to = false := by unfold Wd.alOk; rw [hp]; rfl
    have e : Wd.al n to = 0 := by unfold Wd.al; rw [hok]; rfl
    have e2 : alE n to = 1 := by unfold alE; rw [hok]; rfl
    have HP := Lib.hid hp
    have HM := Lib.hid e
    have HE := Lib.hid e2
    clear hp e e2 hok
    go_enter Try.func31, Try.ntmps31
    go_wp2_with (go_at_call 33; refine (refIsPower_any _ _).mono ?_; rintro e w' ⟨rfl, rfl⟩; rw [HP.out])
    go_ret2
    exact ⟨by rw [HM.out, HE.out]; rfl, rfl⟩

end Go.Proofs.Ytbkabjdbohhjeaa
