/-
  Layer 4's functions, walked: IsTerm, Count, MaxPosition, stands, Position, Term, Offset, Part, Pack, Unpack. The world stays as it was.
-/
import Derived.Test.YtgodagidkfflfaaWordFns
import Derived.Test.YtgodagidkfflfaaPlaceMath
namespace Go.Proofs.Ytgodagidkfflfaa
open Go.RowKit

theorem ret_kk {k : IntKind} {a b : Int} (h : b = a) : Ending.returned (.int k a) = .returned (.int k b) := by rw [h]
theorem ret_kl {k l : IntKind} {a b c d : Int} (h : c = a) (h' : d = b) : Ending.returned (.tuple #[.int k a, .int l b]) = .returned (.tuple #[.int k c, .int l d]) := by rw [h, h']

theorem isTerm_any (n : Int) (w : World) (h0 : -9223372036854775808 ≤ n) (h1 : n ≤ 9223372036854775807) :
    Calls Try.prog 15 #[.int .i64 n] w fun e w' => e = .returned (.bool (Pl.isT n)) ∧ w = w' := by
  by_cases a : 256 ≤ n
  · by_cases b : n ≤ 8192
    · cases hp : Wd.isP n with
      | true =>
        have H := Lib.hid (Pl.isT_of hp a b)
        have HP := Lib.hid hp
        clear hp
        go_enter Try.func15, Try.ntmps15
        go_wp2_with (go_at_call 26; refine (isPower_any _ _ (by omega) (by omega)).mono ?_; rintro e w' ⟨rfl, rfl⟩; rw [HP.out])
        go_ret
        exact ⟨by rw [H.out]; rfl, rfl⟩
      | false =>
        have H : Hid (Pl.isT n = false) := Lib.hid (by
          cases e : Pl.isT n with
          | false => rfl
          | true => rw [Pl.isT_isP e] at hp; cases hp)
        have HP := Lib.hid hp
        clear hp
        go_enter Try.func15, Try.ntmps15
        go_wp2_with (go_at_call 26; refine (isPower_any _ _ (by omega) (by omega)).mono ?_; rintro e w' ⟨rfl, rfl⟩; rw [HP.out])
        go_ret
        exact ⟨by rw [H.out]; rfl, rfl⟩
    · have H : Hid (Pl.isT n = false) := Lib.hid (by
        cases e : Pl.isT n with
        | false => rfl
        | true => exact absurd (Pl.isT_bounds e).2 b)
      have b' : 8192 < n := by omega
      have b2 : decide (n ≤ 8192) = false := by simpa using b'
      clear b
      go_enter Try.func15, Try.ntmps15
      go_wp2_with (go_at_call 26; refine (isPower_any _ _ (by omega) (by omega)).mono ?_; rintro e w' ⟨rfl, rfl⟩)
      all_goals
        go_ret
        exact ⟨by rw [H.out]; rfl, rfl⟩
  · have H : Hid (Pl.isT n = false) := Lib.hid (by
      cases e : Pl.isT n with
      | false => rfl
      | true => exact absurd (Pl.isT_bounds e).1 a)
    have a' : n < 256 := by omega
    clear a
    go_enter Try.func15, Try.ntmps15
    go_wp2_with (go_at_call 26; refine (isPower_any _ _ (by omega) (by omega)).mono ?_; rintro e w' ⟨rfl, rfl⟩)
    all_goals
      go_ret
      exact ⟨by rw [H.out]; rfl, rfl⟩

theorem count_any (t i : Int) (w : World) :
    Calls Try.prog 13 #[.int .i32 t, .int .i32 i] w fun e w' => e = .returned (.int .u32 (Pl.cnt t i)) ∧ w = w' := by
  go_enter Try.func13, Try.ntmps13
  go_wp2
  go_ret
  refine ⟨ret_kk ?_, rfl⟩
  unfold Pl.cnt
  omega

theorem maxPosition_any (z : Int) (w : World) (h0 : -9223372036854775808 ≤ z) (h1 : z ≤ 9223372036854775807) :
    Calls Try.prog 17 #[.int .i64 z] w fun e w' => e = .returned (.int .i64 (Pl.mx z)) ∧ w = w' := by
  cases hz : Pl.isT z with
  | true =>
    have hb := Pl.isT_bounds hz
    have HM := Lib.hid (Pl.mx_of hz)
    have HZ := Lib.hid hz
    clear hz
    go_enter Try.func17, Try.ntmps17
    go_wp2_with (go_at_call 15; refine (isTerm_any _ _ (by omega) (by omega)).mono ?_; rintro e w' ⟨rfl, rfl⟩; rw [HZ.out])
    go_ret
    exact ⟨ret_kk (by rw [HM.out]; omega), rfl⟩
  | false =>
    have HM := Lib.hid (Pl.mx_no hz)
    have HZ := Lib.hid hz
    clear hz
    go_enter Try.func17, Try.ntmps17
    go_wp2_with (go_at_call 15; refine (isTerm_any _ _ (by omega) (by omega)).mono ?_; rintro e w' ⟨rfl, rfl⟩; rw [HZ.out])
    go_ret
    exact ⟨ret_kk (by rw [HM.out]), rfl⟩

theorem stands_any (p z : Int) (w : World) (h0 : -9223372036854775808 ≤ z) (h1 : z ≤ 9223372036854775807) :
    Calls Try.prog 24 #[.int .i64 p, .int .i64 z] w fun e w' => e = .returned (.bool (Pl.inB p z)) ∧ w = w' := by
  have H : Hid (Pl.inB p z = (decide (0 ≤ p) && decide (p < Pl.mx z))) := Lib.hid rfl
  by_cases a : 0 ≤ p
  · go_enter Try.func24, Try.ntmps24
    go_wp2_with (go_at_call 17; refine (maxPosition_any _ _ (by omega) (by omega)).mono ?_; rintro e w' ⟨rfl, rfl⟩)
    go_ret
    exact ⟨by rw [H.out]; simp [a], rfl⟩
  · have a' : p < 0 := by omega
    have HA : Hid (Pl.inB p z = false) := Lib.hid (by unfold Pl.inB; simp [a])
    clear a H
    go_enter Try.func24, Try.ntmps24
    go_wp2_with (go_at_call 17; refine (maxPosition_any _ _ (by omega) (by omega)).mono ?_; rintro e w' ⟨rfl, rfl⟩)
    go_ret
    exact ⟨by rw [HA.out]; rfl, rfl⟩

theorem term_any (p i z : Int) (w : World) (h0 : -9223372036854775808 ≤ z) (h1 : z ≤ 9223372036854775807) :
    Calls Try.prog 9 #[.int .i64 p, .int .i32 i, .int .i64 z] w fun e w' => e = .returned (.tuple #[.int .i32 (Pl.term p i z), .int .i64 (Pl.inE p z)]) ∧ w = w' := by
  cases hb : Pl.inB p z with
  | true =>
    obtain ⟨hz, p0, p1⟩ := Pl.inB_of hb
    have hq := Pl.quo_bounds hz p0 p1
    have hzb := Pl.isT_bounds hz
    have p2 : p ≤ 17592186044416 := by omega
    have H1 : Hid (Pl.term p i z = Hd.s32 (i + p / z)) := Lib.hid (by unfold Pl.term; rw [if_pos hb])
    have H2 : Hid (Pl.inE p z = 0) := Lib.hid (by unfold Pl.inE; rw [if_pos hb])
    have HB := Lib.hid hb
    clear hb hz p1
    have hz0 : (z == 0) = false := by simp; omega
    go_enter Try.func9, Try.ntmps9
    go_wp2_with (go_at_call 24; refine (stands_any _ _ _ (by omega) (by omega)).mono ?_; rintro e w' ⟨rfl, rfl⟩; rw [HB.out])
    go_ret2
    refine ⟨ret_kl ?_ (by rw [H2.out]), rfl⟩
    rw [H1.out]
    generalize p / z = q at hq ⊢
    unfold Hd.s32
    (try unfold wrap32)
    split <;> omega
  | false =>
    have H1 : Hid (Pl.term p i z = 0) := Lib.hid (by unfold Pl.term; rw [hb]; rfl)
    have H2 : Hid (Pl.inE p z = 1) := Lib.hid (by unfold Pl.inE; rw [hb]; rfl)
    have HB := Lib.hid hb
    clear hb
    go_enter Try.func9, Try.ntmps9
    go_wp2_with (go_at_call 24; refine (stands_any _ _ _ (by omega) (by omega)).mono ?_; rintro e w' ⟨rfl, rfl⟩; rw [HB.out])
    go_ret2
    exact ⟨ret_kl (by rw [H1.out]) (by rw [H2.out]), rfl⟩

theorem offset_any (p z : Int) (w : World) (h0 : -9223372036854775808 ≤ z) (h1 : z ≤ 9223372036854775807) :
    Calls Try.prog 11 #[.int .i64 p, .int .i64 z] w fun e w' => e = .returned (.tuple #[.int .i64 (Pl.offs p z), .int .i64 (Pl.inE p z)]) ∧ w = w' := by
  cases hb : Pl.inB p z with
  | true =>
    obtain ⟨hz, p0, p1⟩ := Pl.inB_of hb
    have H1 : Hid (Pl.offs p z = Wd.mk p z) := Lib.hid (by unfold Pl.offs Wd.mk; rw [if_pos hb, if_pos (Pl.isT_isP hz)])
    have H2 : Hid (Pl.inE p z = 0) := Lib.hid (by unfold Pl.inE; rw [if_pos hb])
    have HB := Lib.hid hb
    clear hb hz p0 p1
    go_enter Try.func11, Try.ntmps11
    go_wp2_with (first
      | (go_at_call 24; refine (stands_any _ _ _ (by omega) (by omega)).mono ?_; rintro e w' ⟨rfl, rfl⟩; rw [HB.out])
      | (go_at_call 25; refine (mask_any _ _ _ (by omega) (by omega)).mono ?_; rintro e w' ⟨rfl, rfl⟩))
    go_ret2
    exact ⟨ret_kl (by rw [H1.out]) (by rw [H2.out]), rfl⟩
  | false =>
    have H1 : Hid (Pl.offs p z = 0) := Lib.hid (by unfold Pl.offs; rw [hb]; rfl)
    have H2 : Hid (Pl.inE p z = 1) := Lib.hid (by unfold Pl.inE; rw [hb]; rfl)
    have HB := Lib.hid hb
    clear hb
    go_enter Try.func11, Try.ntmps11
    go_wp2_with (go_at_call 24; refine (stands_any _ _ _ (by omega) (by omega)).mono ?_; rintro e w' ⟨rfl, rfl⟩; rw [HB.out])
    go_ret2
    exact ⟨ret_kl (by rw [H1.out]) (by rw [H2.out]), rfl⟩

theorem part_any (c : Int) (w : World) (c0 : 0 ≤ c) (c1 : c ≤ 4294967295) :
    Calls Try.prog 19 #[.int .u32 c] w fun e w' => e = .returned (.int .i64 (c % 3)) ∧ w = w' := by
  go_enter Try.func19, Try.ntmps19
  go_wp2
  go_ret
  exact ⟨rfl, rfl⟩

theorem pack_any (t o : Int) (w : World) (o0 : 0 ≤ o) (o1 : o ≤ 4294967295) :
    Calls Try.prog 20 #[.int .i32 t, .int .u32 o] w fun e w' => e = .returned (.int .u64 (Pl.pack t o)) ∧ w = w' := by
  go_enter Try.func20, Try.ntmps20
  go_wp2
  go_ret
  exact ⟨ret_kk (Pl.pack_bits t o o0 o1).symm, rfl⟩

theorem unpack_any (v : Int) (w : World) :
    Calls Try.prog 21 #[.int .u64 v] w fun e w' => e = .returned (.tuple #[.int .i32 (Hd.s32 (v / 4294967296)), .int .u32 (v % 4294967296)]) ∧ w = w' := by
  go_enter Try.func21, Try.ntmps21
  go_wp2
  go_ret2
  exact ⟨ret_kl (Hd.s32_wrap32 _).symm rfl, rfl⟩


set_option maxHeartbeats 1000000 in
theorem position_any (t i o z : Int) (w : World) (h0 : -9223372036854775808 ≤ z) (h1 : z ≤ 9223372036854775807) :
    Calls Try.prog 7 #[.int .i32 t, .int .i32 i, .int .i64 o, .int .i64 z] w fun e w' => e = .returned (.tuple #[.int .i64 (Pl.pos t i o z), .int .i64 (Pl.posE t i o z)]) ∧ w = w' := by
  have hc := Pl.cnt_bounds t i
  cases hk : Pl.posOk t i o z with
  | true =>
    have H1 : Hid (Pl.pos t i o z = Pl.cnt t i * z + o) := Lib.hid (by unfold Pl.pos; rw [if_pos hk])
    have H2 : Hid (Pl.posE t i o z = 0) := Lib.hid (by unfold Pl.posE; rw [if_pos hk])
    unfold Pl.posOk at hk
    simp only [Bool.and_eq_true, decide_eq_true_eq] at hk
    obtain ⟨⟨⟨hz, o0⟩, o1⟩, c1⟩ := hk
    have hp := Pl.pos_bounds hz hc.1 c1
    have hb := Pl.isT_bounds hz
    have HZ := Lib.hid hz
    clear hz
    obtain ⟨hc0, hc1⟩ := hc
    obtain ⟨hp0, hp1⟩ := hp
    obtain ⟨hb0, hb1⟩ := hb
    go_enter Try.func7, Try.ntmps7
    go_wp2_with (first
      | (go_at_call 13; refine (count_any _ _ _).mono ?_; rintro e w' ⟨rfl, rfl⟩)
      | (go_at_call 15; refine (isTerm_any _ _ (by omega) (by omega)).mono ?_; rintro e w' ⟨rfl, rfl⟩; rw [HZ.out]))
    go_ret2
    exact ⟨ret_kl (by rw [H1.out]) (by rw [H2.out]), rfl⟩
  | false =>
    have H1 : Hid (Pl.pos t i o z = 0) := Lib.hid (by unfold Pl.pos; rw [hk]; rfl)
    have H2 : Hid (Pl.posE t i o z = 1) := Lib.hid (by unfold Pl.posE; rw [hk]; rfl)
    have hd : Pl.isT z = false ∨ (Pl.isT z = true ∧ o < 0) ∨ (Pl.isT z = true ∧ 0 ≤ o ∧ z < o) ∨ (Pl.isT z = true ∧ 0 ≤ o ∧ o ≤ z ∧ 2147483648 ≤ Pl.cnt t i) := by
      unfold Pl.posOk at hk
      cases hz : Pl.isT z with
      | false => exact .inl rfl
      | true =>
        rw [hz] at hk
        simp at hk
        by_cases a : o < 0
        · exact .inr (.inl ⟨rfl, a⟩)
        · by_cases b : z < o
          · exact .inr (.inr (.inl ⟨rfl, by omega, b⟩))
          · exact .inr (.inr (.inr ⟨rfl, by omega, by omega, hk (by omega) (by omega)⟩))
    clear hk
    obtain ⟨hc0, hc1⟩ := hc
    rcases hd with hz | ⟨hz, a⟩ | ⟨hz, a, b⟩ | ⟨hz, a, b, c⟩
    all_goals
      have HZ := Lib.hid hz
      clear hz
      go_enter Try.func7, Try.ntmps7
      go_wp2_with (first
        | (go_at_call 13; refine (count_any _ _ _).mono ?_; rintro e w' ⟨rfl, rfl⟩)
        | (go_at_call 15; refine (isTerm_any _ _ (by omega) (by omega)).mono ?_; rintro e w' ⟨rfl, rfl⟩; rw [HZ.out]))
      go_ret2
      exact ⟨ret_kl (by rw [H1.out]) (by rw [H2.out]), rfl⟩
end Go.Proofs.Ytgodagidkfflfaa
