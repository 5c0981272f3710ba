/-
  The functions of layer 1 (word) and of its plain answers, walked: powers, what is left, the next multiple. Each contract says what a call returns; the world stays as it was.
-/
import Derived.Test.YtjjckhoolimkiaaDoorRows
import Derived.Test.YtjjckhoolimkiaaDoorWordMath
import Derived.WalkSpells
import Derived.WalkLawsBesides
import Derived.Lib.Hide
import Derived.Shelf.Spec.TrailingZeros
namespace Go.Proofs.YtjjckhoolimkiaaDoor
open Go.RowKit

theorem ret_i64 {a b : Int} (h : b = a) : Ending.returned (.int .i64 a) = .returned (.int .i64 b) := by rw [h]
theorem ret_tup {a b c d : Int} (h : c = a) (h' : d = b) : Ending.returned (.tuple #[.int .i64 a, .int .i64 b]) = .returned (.tuple #[.int .i64 c, .int .i64 d]) := by rw [h, h']

set_option maxHeartbeats 400000 in
theorem isPower_any (n : Int) (w : World) (h1 : n ≤ 9223372036854775807) (h0 : -9223372036854775808 ≤ n) :
    Calls Tryd.prog 10 #[.int .i64 n] w fun e w' => e = .returned (.bool (Wd.isP n)) ∧ w = w' := by
  by_cases hn : 0 < n
  · have H := Lib.hid (Wd.and_pred n hn h1)
    go_enter Tryd.func10, Tryd.ntmps10
    go_wp2
    go_ret
    exact ⟨by rw [← H.out]; rfl, rfl⟩
  · have H : Hid (Wd.isP n = false) := by
      cases e : Wd.isP n with
      | false => exact rfl
      | true => exact absurd (Wd.isP_bounds e).1 (by omega)
    go_enter Tryd.func10, Tryd.ntmps10
    go_wp2
    go_ret
    exact ⟨by rw [H.out]; rfl, rfl⟩

set_option maxHeartbeats 400000 in
theorem tz_core (x k idx : Nat) (w : World) (hx0 : ((x : Int) == 0) = false)
    (key : IntKind.u64.wrap (bits BinOp.and IntKind.u64 (x : Int) (IntKind.u64.wrap (-(x : Int))) * 285870213051353865) / 288230376151711744 = (idx : Int))
    (hi : idx < 64) (hk : k < 64) (hcell : w.cell? ⟨0, idx, none⟩ = some (.int .u8 k)) :
    Calls Tryd.prog 22 #[.int .u64 x] w fun e w' => e = .returned (.int .i64 k) ∧ w = w' := by
  go_enter Tryd.func22, Tryd.ntmps22
  go_wp2_with (simp only [key])
  go_ret
  exact ⟨rfl, rfl⟩

theorem tz_pow (n : Int) (hp : Wd.isP n = true) (w : World) (hT : TabAt 0 Lib.deBruijn64tab w) :
    Calls Tryd.prog 22 #[.int .u64 n] w fun e w' => e = .returned (.int .i64 (Wd.lg n)) ∧ w = w' := by
  obtain ⟨k, hk, rfl⟩ := (Wd.isP_iff n).1 hp
  have hpos : 0 < 2 ^ k := Nat.two_pow_pos k
  have hle : 2 ^ k ≤ 2 ^ 62 := Nat.pow_le_pow_right (by decide) (by omega)
  have hlow : 2 ^ k &&& (18446744073709551616 - 2 ^ k) = 2 ^ k := by
    have h := (Lib.lowest_bit 64 (2 ^ k) (by omega) (by omega)).1
    rw [Wd.ctz_pow k hk] at h
    exact h
  obtain ⟨hi, htab⟩ := Lib.deBruijn64_at k (by omega)
  have hcell := hT _ hi
  rw [htab] at hcell
  rw [Wd.lg_pow k hk, Wd.pow_cast]
  exact tz_core (2 ^ k) k _ w (beq_eq_false_iff_ne.2 (by omega)) (tz64_key (2 ^ k) _ (by omega) (by omega) hlow) hi (by omega) hcell

set_option maxHeartbeats 400000 in
theorem log2_any (n : Int) (w : World) (h1 : n ≤ 9223372036854775807) (h0 : -9223372036854775808 ≤ n) (hT : TabAt 0 Lib.deBruijn64tab w) :
    Calls Tryd.prog 8 #[.int .i64 n] w fun e w' => e = .returned (.tuple #[.int .i64 (Wd.lg n), .bool (Wd.isP n)]) ∧ w = w' := by
  have hc := isPower_any n
  cases hp : Wd.isP n with
  | true =>
    have hb := Wd.isP_bounds hp
    have HP := Lib.hid hp
    clear hp hc
    go_enter Tryd.func8, Tryd.ntmps8
    go_wp2_with (first | (go_at_call 10; refine (isPower_any _ _ (by omega) (by omega)).mono ?_; rintro e w' ⟨rfl, rfl⟩; rw [HP.out]) | (go_at_call 22; refine (tz_pow _ HP.out _ hT).mono ?_; rintro e w' ⟨rfl, rfl⟩))
    go_ret2
    exact ⟨rfl, rfl⟩
  | false =>
    have e : Wd.lg n = 0 := by unfold Wd.lg; rw [hp]; rfl
    have HP := Lib.hid hp
    have HE := Lib.hid e
    clear hp hc e
    go_enter Tryd.func8, Tryd.ntmps8
    go_wp2_with (go_at_call 10; refine (isPower_any _ _ (by omega) (by omega)).mono ?_; rintro e w' ⟨rfl, rfl⟩; rw [HP.out])
    go_ret2
    exact ⟨by rw [HE.out]; rfl, rfl⟩

set_option maxHeartbeats 400000 in
theorem mask_any (n to : Int) (w : World) (h1 : to ≤ 9223372036854775807) (h0 : -9223372036854775808 ≤ to) :
    Calls Tryd.prog 12 #[.int .i64 n, .int .i64 to] w fun e w' => e = .returned (.int .i64 (Wd.mk n to)) ∧ w = w' := by
  cases hp : Wd.isP to with
  | true =>
    have hb := Wd.isP_bounds hp
    have hm := Wd.and_mask n to hp
    have e : Wd.mk n to = n % to := by unfold Wd.mk; rw [if_pos hp]
    have HP := Lib.hid hp
    have HM := Lib.hid (e.trans hm.symm)
    clear hp hm e
    go_enter Tryd.func12, Tryd.ntmps12
    go_wp2_with (go_at_call 10; refine (isPower_any _ _ (by omega) (by omega)).mono ?_; rintro e w' ⟨rfl, rfl⟩; rw [HP.out])
    go_ret
    exact ⟨by rw [HM.out]; rfl, rfl⟩
  | false =>
    have e : Wd.mk n to = 0 := by unfold Wd.mk; rw [hp]; rfl
    have HP := Lib.hid hp
    have HE := Lib.hid e
    clear hp e
    go_enter Tryd.func12, Tryd.ntmps12
    go_wp2_with (go_at_call 10; refine (isPower_any _ _ (by omega) (by omega)).mono ?_; rintro e w' ⟨rfl, rfl⟩; rw [HP.out])
    go_ret
    exact ⟨by rw [HE.out]; rfl, rfl⟩

theorem pow_next (j : Nat) (x : Int) (h : j < 63 → x = 2 ^ j) (h' : j + 1 < 63) : wrap64 (x * 2) = 2 ^ (j + 1) := by
  have hb := Wd.pow_bounds (j + 1) h'
  rw [h (by omega), ← Int.pow_succ]
  show wrap64 ((2 : Int) ^ (j + 1)) = _
  unfold wrap64
  omega

set_option maxHeartbeats 400000 in
theorem refLog2_any (n : Int) (w : World) :
    Calls Tryd.prog 9 #[.int .i64 n] w fun e w' => e = .returned (.tuple #[.int .i64 (Wd.lg n), .bool (Wd.isP n)]) ∧ w = w' := by
  go_enter Tryd.func9, Tryd.ntmps9
  go_wp2
  go_loop [4, 5] (fun v k => ∃ (j : Nat) (x : Int), j ≤ 63 ∧ k = .int .i64 j ∧ v = .int .i64 x ∧ (j < 63 → x = 2 ^ j) ∧ ∀ i, i < j → n ≠ 2 ^ i) (fun _ k => 63 - (intOf k).toNat)
  case atStart => exact ⟨0, 1, by omega, rfl, rfl, by simp, by omega⟩
  case round =>
    obtain ⟨j, x, hj, rfl, rfl, hx, hn⟩ := hrel
    have HX := Lib.hid hx
    have HN := Lib.hid hn
    clear hx hn
    by_cases hlt : j < 63
    · by_cases he : x = n
      · have hb : (x == n) = true := by simpa using he
        have hlg : Wd.lg n = j := by rw [← he, HX.out hlt]; exact Wd.lg_pow j hlt
        have hip : Wd.isP n = true := by rw [← he, HX.out hlt]; exact Wd.isP_pow j hlt
        have H1 := Lib.hid hlg
        have H2 := Lib.hid hip
        clear hlg hip he
        go_wp2
        go_ret2
        exact ⟨by rw [H1.out, H2.out]; rfl, rfl⟩
      · have hb : (x == n) = false := by simpa using he
        have HB := Lib.hid he
        clear he
        go_wp2
        go_round
        case rel =>
          refine ⟨j + 1, _, by omega, by go_num, rfl, pow_next j x HX.out, ?_⟩
          intro i hi
          by_cases hij : i = j
          · subst hij; rw [← HX.out hlt]; exact fun h => HB.out h.symm
          · exact HN.out i (by omega)
        case measure => simp [intOf]; omega
    · have hjj : j = 63 := by omega
      have hip : Wd.isP n = false := by
        cases e : Wd.isP n with
        | false => rfl
        | true =>
          obtain ⟨k, hk, hh⟩ := (Wd.isP_iff n).1 e
          exact absurd hh (HN.out k (by omega))
      have hlg : Wd.lg n = 0 := by unfold Wd.lg; rw [hip]; rfl
      have H1 := Lib.hid hlg
      have H2 := Lib.hid hip
      clear hlg hip hjj
      go_wp2
      go_ret2
      exact ⟨by rw [H1.out, H2.out]; rfl, rfl⟩

set_option maxHeartbeats 400000 in
theorem refIsPower_any (n : Int) (w : World) :
    Calls Tryd.prog 11 #[.int .i64 n] w fun e w' => e = .returned (.bool (Wd.isP n)) ∧ w = w' := by
  go_enter Tryd.func11, Tryd.ntmps11
  go_wp2_with (go_at_call 9; refine (refLog2_any _ _).mono ?_; rintro e w' ⟨rfl, rfl⟩)
  go_ret
  exact ⟨rfl, rfl⟩

set_option maxHeartbeats 400000 in
theorem refMask_any (n to : Int) (w : World) :
    Calls Tryd.prog 13 #[.int .i64 n, .int .i64 to] w fun e w' => e = .returned (.int .i64 (Wd.mk n to)) ∧ w = w' := by
  cases hp : Wd.isP to with
  | true =>
    have hb := Wd.isP_bounds hp
    have hr := Wd.tmod_mask n to (by omega)
    have e : Wd.mk n to = n % to := by unfold Wd.mk; rw [if_pos hp]
    have HP := Lib.hid hp
    have HR := Lib.hid hr
    have HE := Lib.hid e
    clear hp hr e
    have hto : (to == 0) = false := beq_eq_false_iff_ne.2 (by omega)
    go_enter Tryd.func13, Tryd.ntmps13
    go_wp2_with (go_at_call 11; refine (refIsPower_any _ _).mono ?_; rintro e w' ⟨rfl, rfl⟩; rw [HP.out])
    · have h : n.tmod to < 0 := by assumption
      go_ret
      refine ⟨ret_i64 ?_, rfl⟩
      show Wd.mk n to = wrap64 (n.tmod to + to)
      rw [HE.out, HR.out, if_pos h]
      have hr := HR.out
      rw [if_pos h] at hr
      have h1 := Int.emod_nonneg n (by omega : to ≠ 0)
      have h2 := Int.emod_lt_of_pos n (by omega : 0 < to)
      unfold wrap64
      omega
    · have h : 0 ≤ n.tmod to := by assumption
      go_ret
      refine ⟨ret_i64 ?_, rfl⟩
      show Wd.mk n to = n.tmod to
      rw [HE.out, HR.out, if_neg (by omega)]
  | false =>
    have e : Wd.mk n to = 0 := by unfold Wd.mk; rw [hp]; rfl
    have HP := Lib.hid hp
    have HE := Lib.hid e
    clear hp e
    go_enter Tryd.func13, Tryd.ntmps13
    go_wp2_with (go_at_call 11; refine (refIsPower_any _ _).mono ?_; rintro e w' ⟨rfl, rfl⟩; rw [HP.out])
    go_ret
    exact ⟨by rw [HE.out]; rfl, rfl⟩

/-- api.ErrArg. -/
def errArg : Int := 1
def alE (n to : Int) : Int := if Wd.alOk n to = true then 0 else errArg

set_option maxHeartbeats 400000 in
theorem align_any (n to : Int) (w : World) (h1 : to ≤ 9223372036854775807) (h0 : -9223372036854775808 ≤ to) :
    Calls Tryd.prog 14 #[.int .i64 n, .int .i64 to] w fun e w' => e = .returned (.tuple #[.int .i64 (Wd.al n to), .int .i64 (alE n to)]) ∧ w = w' := by
  cases hp : Wd.isP to with
  | true =>
    have hb := Wd.isP_bounds hp
    by_cases hn : 0 ≤ n ∧ n ≤ 4611686018427387904
    · obtain ⟨hn0, hn1⟩ := hn
      have hm := Wd.andNot_mask (n + to - 1) to hp (by omega) (by omega)
      have hok : Wd.alOk n to = true := by unfold Wd.alOk; rw [hp]; simp [hn0, hn1]
      have e : Wd.al n to = (n + to - 1) / to * to := by unfold Wd.al; rw [if_pos hok]
      have e2 : alE n to = 0 := by unfold alE; rw [if_pos hok]
      have HP := Lib.hid hp
      have HM := Lib.hid (e.trans hm.symm)
      have HE := Lib.hid e2
      obtain ⟨hb1, hb2⟩ := hb
      clear hp hm e e2 hok
      go_enter Tryd.func14, Tryd.ntmps14
      go_wp2_with (go_at_call 10; refine (isPower_any _ _ (by omega) (by omega)).mono ?_; rintro e w' ⟨rfl, rfl⟩; rw [HP.out])
      go_ret2
      refine ⟨ret_tup ?_ (by rw [HE.out]), rfl⟩
      show Wd.al n to = bits BinOp.andNot IntKind.i64 (wrap64 (wrap64 (n + to) - 1)) (to - 1)
      have ew : wrap64 (wrap64 (n + to) - 1) = n + to - 1 := by unfold wrap64; omega
      rw [HM.out, ew]
    · have hok : Wd.alOk n to = false := by unfold Wd.alOk; rw [hp]; simp; omega
      have e : Wd.al n to = 0 := by unfold Wd.al; rw [hok]; rfl
      have e2 : alE n to = 1 := by unfold alE; rw [hok]; rfl
      have HP := Lib.hid hp
      have HM := Lib.hid e
      have HE := Lib.hid e2
      clear hp e e2 hok
      by_cases hn0 : 0 ≤ n
      · have hn1 : 4611686018427387904 < n := by omega
        clear hn
        go_enter Tryd.func14, Tryd.ntmps14
        go_wp2_with (go_at_call 10; refine (isPower_any _ _ (by omega) (by omega)).mono ?_; rintro e w' ⟨rfl, rfl⟩; rw [HP.out])
        go_ret2
        exact ⟨by rw [HM.out, HE.out]; rfl, rfl⟩
      · have hn1 : n < 0 := by omega
        clear hn hn0
        go_enter Tryd.func14, Tryd.ntmps14
        go_wp2_with (go_at_call 10; refine (isPower_any _ _ (by omega) (by omega)).mono ?_; rintro e w' ⟨rfl, rfl⟩; rw [HP.out])
        go_ret2
        exact ⟨by rw [HM.out, HE.out]; rfl, rfl⟩
  | false =>
    have hok : Wd.alOk n to = false := by unfold Wd.alOk; rw [hp]; rfl
    have e : Wd.al n to = 0 := by unfold Wd.al; rw [hok]; rfl
    have e2 : alE n to = 1 := by unfold alE; rw [hok]; rfl
    have HP := Lib.hid hp
    have HM := Lib.hid e
    have HE := Lib.hid e2
    clear hp e e2 hok
    go_enter Tryd.func14, Tryd.ntmps14
    go_wp2_with (go_at_call 10; refine (isPower_any _ _ (by omega) (by omega)).mono ?_; rintro e w' ⟨rfl, rfl⟩; rw [HP.out])
    go_ret2
    exact ⟨by rw [HM.out, HE.out]; rfl, rfl⟩

set_option maxHeartbeats 400000 in
theorem refAlign_any (n to : Int) (w : World) :
    Calls Tryd.prog 15 #[.int .i64 n, .int .i64 to] w fun e w' => e = .returned (.tuple #[.int .i64 (Wd.al n to), .int .i64 (alE n to)]) ∧ w = w' := by
  cases hp : Wd.isP to with
  | true =>
    have hb := Wd.isP_bounds hp
    have hto : (to == 0) = false := beq_eq_false_iff_ne.2 (by omega)
    by_cases hn : 0 ≤ n ∧ n ≤ 4611686018427387904
    · obtain ⟨hn0, hn1⟩ := hn
      have hok : Wd.alOk n to = true := by unfold Wd.alOk; rw [hp]; simp [hn0, hn1]
      have e : Wd.al n to = (n + to - 1) / to * to := by unfold Wd.al; rw [if_pos hok]
      have e2 : alE n to = 0 := by unfold alE; rw [if_pos hok]
      obtain ⟨hd, hz, hs, hlt⟩ := Wd.up_cases n to hp hn0 hn1
      have HP := Lib.hid hp
      have HM := Lib.hid e
      have HE := Lib.hid e2
      have HZ := Lib.hid hz
      have HS := Lib.hid hs
      have HL := Lib.hid hlt
      clear hp e e2 hok hz hs hlt
      go_enter Tryd.func15, Tryd.ntmps15
      go_wp2_with (go_at_call 11; refine (refIsPower_any _ _).mono ?_; rintro e w' ⟨rfl, rfl⟩; rw [HP.out])
      · have h : (n % to == 0) = true := by assumption
        go_ret2
        exact ⟨ret_tup (by rw [HM.out]; exact HZ.out (by simpa using h)) (by rw [HE.out]), rfl⟩
      · have h : (n % to == 0) = false := by assumption
        have h2 := HL.out (by simpa using h)
        omega
      · have h : (n % to == 0) = false := by assumption
        have h2 := HL.out (by simpa using h)
        go_ret2
        refine ⟨ret_tup ?_ (by rw [HE.out]), rfl⟩
        show Wd.al n to = wrap64 ((n / to + 1) * to)
        rw [HM.out, HS.out (by simpa using h)]
        have h3 : 0 ≤ (n / to + 1) * to := Int.mul_nonneg (by omega) (by omega)
        generalize (n / to + 1) * to = z at h2 h3 ⊢
        unfold wrap64
        omega
    · have hok : Wd.alOk n to = false := by unfold Wd.alOk; rw [hp]; simp; omega
      have e : Wd.al n to = 0 := by unfold Wd.al; rw [hok]; rfl
      have e2 : alE n to = 1 := by unfold alE; rw [hok]; rfl
      have HP := Lib.hid hp
      have HM := Lib.hid e
      have HE := Lib.hid e2
      clear hp e e2 hok
      by_cases hn0 : 0 ≤ n
      · have hn1 : 4611686018427387904 < n := by omega
        clear hn
        go_enter Tryd.func15, Tryd.ntmps15
        go_wp2_with (go_at_call 11; refine (refIsPower_any _ _).mono ?_; rintro e w' ⟨rfl, rfl⟩; rw [HP.out])
        go_ret2
        exact ⟨by rw [HM.out, HE.out]; rfl, rfl⟩
      · have hn1 : n < 0 := by omega
        clear hn hn0
        go_enter Tryd.func15, Tryd.ntmps15
        go_wp2_with (go_at_call 11; refine (refIsPower_any _ _).mono ?_; rintro e w' ⟨rfl, rfl⟩; rw [HP.out])
        go_ret2
        exact ⟨by rw [HM.out, HE.out]; rfl, rfl⟩
  | false =>
    have hok : Wd.alOk n to = false := by unfold Wd.alOk; rw [hp]; rfl
    have e : Wd.al n to = 0 := by unfold Wd.al; rw [hok]; rfl
    have e2 : alE n to = 1 := by unfold alE; rw [hok]; rfl
    have HP := Lib.hid hp
    have HM := Lib.hid e
    have HE := Lib.hid e2
    clear hp e e2 hok
    go_enter Tryd.func15, Tryd.ntmps15
    go_wp2_with (go_at_call 11; refine (refIsPower_any _ _).mono ?_; rintro e w' ⟨rfl, rfl⟩; rw [HP.out])
    go_ret2
    exact ⟨by rw [HM.out, HE.out]; rfl, rfl⟩

end Go.Proofs.YtjjckhoolimkiaaDoor
