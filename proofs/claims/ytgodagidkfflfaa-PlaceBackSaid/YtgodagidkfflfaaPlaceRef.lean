/-
  The plain answers to layer 4, walked: IsTerm, Count, Position, MaxPosition, Term, Offset, Pack, Unpack. The world stays as it was.
-/
import Derived.Test.YtgodagidkfflfaaPlaceFns
namespace Go.Proofs.Ytgodagidkfflfaa
open Go.RowKit

theorem isT_not {n : Int} (h : Pl.isT n = false) : n ≠ 256 ∧ n ≠ 512 ∧ n ≠ 1024 ∧ n ≠ 2048 ∧ n ≠ 4096 ∧ n ≠ 8192 := by
  unfold Pl.isT at h; simp at h; omega

set_option maxHeartbeats 400000 in
theorem refIsTerm_any (n : Int) (w : World) :
    Calls Try.prog 16 #[.int .i64 n] w fun e w' => e = .returned (.bool (Pl.isT n)) ∧ w = w' := by
  cases hz : Pl.isT n with
  | true =>
    rcases (Pl.isT_iff n).1 hz with rfl | rfl | rfl | rfl | rfl | rfl
    all_goals
      clear hz
      go_enter Try.func16, Try.ntmps16
      go_wp2
      refine wp_loop_rounds 6 ?_
      rw [rounds_succ]
      go_wp2
      all_goals
        first
        | (go_ret; exact ⟨rfl, rfl⟩)
        | (rw [rounds_succ]; go_wp2
           first
           | (go_ret; exact ⟨rfl, rfl⟩)
           | (rw [rounds_succ]; go_wp2
              first
              | (go_ret; exact ⟨rfl, rfl⟩)
              | (rw [rounds_succ]; go_wp2
                 first
                 | (go_ret; exact ⟨rfl, rfl⟩)
                 | (rw [rounds_succ]; go_wp2
                    first
                    | (go_ret; exact ⟨rfl, rfl⟩)
                    | (rw [rounds_succ]; go_wp2; go_ret; exact ⟨rfl, rfl⟩)))))
  | false =>
    obtain ⟨a, b, c, d, e, f⟩ := isT_not hz
    clear hz
    have a' : ((256 : Int) == n) = false := by simp; omega
    have b' : ((512 : Int) == n) = false := by simp; omega
    have c' : ((1024 : Int) == n) = false := by simp; omega
    have d' : ((2048 : Int) == n) = false := by simp; omega
    have e' : ((4096 : Int) == n) = false := by simp; omega
    have f' : ((8192 : Int) == n) = false := by simp; omega
    clear a b c d e f
    go_enter Try.func16, Try.ntmps16
    go_wp2
    refine wp_loop_rounds 7 ?_
    rw [rounds_succ]
    go_wp2
    rw [rounds_succ]
    go_wp2
    rw [rounds_succ]
    go_wp2
    rw [rounds_succ]
    go_wp2
    rw [rounds_succ]
    go_wp2
    rw [rounds_succ]
    go_wp2
    rw [rounds_succ]
    go_wp2
    go_ret
    exact ⟨rfl, rfl⟩

theorem refCount_any (t i : Int) (w : World) (t0 : -2147483648 ≤ t) (t1 : t ≤ 2147483647) (i0 : -2147483648 ≤ i) (i1 : i ≤ 2147483647) :
    Calls Try.prog 14 #[.int .i32 t, .int .i32 i] w fun e w' => e = .returned (.int .u32 (Pl.cnt t i)) ∧ w = w' := by
  by_cases h : t - i < 0
  all_goals
    go_enter Try.func14, Try.ntmps14
    go_wp2
    all_goals
      go_ret
      refine ⟨ret_kk ?_, rfl⟩
      unfold Pl.cnt
      (try unfold wrap64)
      omega

theorem refMaxPosition_any (z : Int) (w : World) :
    Calls Try.prog 18 #[.int .i64 z] w fun e w' => e = .returned (.int .i64 (Pl.mx z)) ∧ w = w' := by
  cases hz : Pl.isT z with
  | true =>
    have hb := Pl.isT_bounds hz
    have HM := Lib.hid (Pl.mx_of hz)
    have HZ := Lib.hid hz
    clear hz
    go_enter Try.func18, Try.ntmps18
    go_wp2_with (go_at_call 16; refine (refIsTerm_any _ _).mono ?_; rintro e w' ⟨rfl, rfl⟩; rw [HZ.out])
    go_ret
    exact ⟨ret_kk (by rw [HM.out]), rfl⟩
  | false =>
    have HM := Lib.hid (Pl.mx_no hz)
    have HZ := Lib.hid hz
    clear hz
    go_enter Try.func18, Try.ntmps18
    go_wp2_with (go_at_call 16; refine (refIsTerm_any _ _).mono ?_; rintro e w' ⟨rfl, rfl⟩; rw [HZ.out])
    go_ret
    exact ⟨ret_kk (by rw [HM.out]), rfl⟩

set_option maxHeartbeats 1000000 in
theorem refPosition_any (t i o z : Int) (w : World) (t0 : -2147483648 ≤ t) (t1 : t ≤ 2147483647) (i0 : -2147483648 ≤ i) (i1 : i ≤ 2147483647) :
    Calls Try.prog 8 #[.int .i32 t, .int .i32 i, .int .i64 o, .int .i64 z] w fun e w' => e = .returned (.tuple #[.int .i64 (Pl.pos t i o z), .int .i64 (Pl.posE t i o z)]) ∧ w = w' := by
  have hc := Pl.cnt_bounds t i
  cases hk : Pl.posOk t i o z with
  | true =>
    have H1 : Hid (Pl.pos t i o z = Pl.cnt t i * z + o) := Lib.hid (by unfold Pl.pos; rw [if_pos hk])
    have H2 : Hid (Pl.posE t i o z = 0) := Lib.hid (by unfold Pl.posE; rw [if_pos hk])
    unfold Pl.posOk at hk
    simp only [Bool.and_eq_true, decide_eq_true_eq] at hk
    obtain ⟨⟨⟨hz, o0⟩, o1⟩, c1⟩ := hk
    have hp := Pl.pos_bounds hz hc.1 c1
    have hb := Pl.isT_bounds hz
    have HZ := Lib.hid hz
    clear hz
    obtain ⟨hc0, hc1⟩ := hc
    obtain ⟨hp0, hp1⟩ := hp
    obtain ⟨hb0, hb1⟩ := hb
    go_enter Try.func8, Try.ntmps8
    go_wp2_with (first
      | (go_at_call 14; refine (refCount_any _ _ _ (by omega) (by omega) (by omega) (by omega)).mono ?_; rintro e w' ⟨rfl, rfl⟩)
      | (go_at_call 16; refine (refIsTerm_any _ _).mono ?_; rintro e w' ⟨rfl, rfl⟩; rw [HZ.out]))
    go_ret2
    exact ⟨ret_kl (by rw [H1.out]) (by rw [H2.out]), rfl⟩
  | false =>
    have H1 : Hid (Pl.pos t i o z = 0) := Lib.hid (by unfold Pl.pos; rw [hk]; rfl)
    have H2 : Hid (Pl.posE t i o z = 1) := Lib.hid (by unfold Pl.posE; rw [hk]; rfl)
    have hd : Pl.isT z = false ∨ (Pl.isT z = true ∧ o < 0) ∨ (Pl.isT z = true ∧ 0 ≤ o ∧ z < o) ∨ (Pl.isT z = true ∧ 0 ≤ o ∧ o ≤ z ∧ 2147483648 ≤ Pl.cnt t i) := by
      unfold Pl.posOk at hk
      cases hz : Pl.isT z with
      | false => exact .inl rfl
      | true =>
        rw [hz] at hk
        simp at hk
        by_cases a : o < 0
        · exact .inr (.inl ⟨rfl, a⟩)
        · by_cases b : z < o
          · exact .inr (.inr (.inl ⟨rfl, by omega, b⟩))
          · exact .inr (.inr (.inr ⟨rfl, by omega, by omega, hk (by omega) (by omega)⟩))
    clear hk
    obtain ⟨hc0, hc1⟩ := hc
    rcases hd with hz | ⟨hz, a⟩ | ⟨hz, a, b⟩ | ⟨hz, a, b, c⟩
    all_goals
      have HZ := Lib.hid hz
      clear hz
      go_enter Try.func8, Try.ntmps8
      go_wp2_with (first
        | (go_at_call 14; refine (refCount_any _ _ _ (by omega) (by omega) (by omega) (by omega)).mono ?_; rintro e w' ⟨rfl, rfl⟩)
        | (go_at_call 16; refine (refIsTerm_any _ _).mono ?_; rintro e w' ⟨rfl, rfl⟩; rw [HZ.out]))
      go_ret2
      exact ⟨ret_kl (by rw [H1.out]) (by rw [H2.out]), rfl⟩

/-- Where a position does not stand. -/
theorem inB_not {p z : Int} (h : Pl.inB p z = false) : Pl.isT z = false ∨ (Pl.isT z = true ∧ p < 0) ∨ (Pl.isT z = true ∧ 0 ≤ p ∧ Pl.mx z ≤ p) := by
  unfold Pl.inB at h
  simp at h
  cases hz : Pl.isT z with
  | false => exact .inl rfl
  | true =>
    by_cases a : p < 0
    · exact .inr (.inl ⟨rfl, a⟩)
    · exact .inr (.inr ⟨rfl, by omega, h (by omega)⟩)

set_option maxHeartbeats 1000000 in
theorem refTerm_any (p i z : Int) (w : World) (i0 : -2147483648 ≤ i) (i1 : i ≤ 2147483647) :
    Calls Try.prog 10 #[.int .i64 p, .int .i32 i, .int .i64 z] w fun e w' => e = .returned (.tuple #[.int .i32 (Pl.term p i z), .int .i64 (Pl.inE p z)]) ∧ w = w' := by
  cases hb : Pl.inB p z with
  | true =>
    obtain ⟨hz, p0, p1⟩ := Pl.inB_of hb
    have hq := Pl.quo_bounds hz p0 p1
    have hzb := Pl.isT_bounds hz
    have p2 : p ≤ 17592186044416 := by omega
    have p3 : p < Pl.mx z := by rw [Pl.mx_of hz]; exact p1
    have H1 : Hid (Pl.term p i z = Hd.s32 (i + p / z)) := Lib.hid (by unfold Pl.term; rw [if_pos hb])
    have H2 : Hid (Pl.inE p z = 0) := Lib.hid (by unfold Pl.inE; rw [if_pos hb])
    have HZ := Lib.hid hz
    have hz0 : (z == 0) = false := by simp; omega
    clear hb hz p1
    obtain ⟨hq0, hq1⟩ := hq
    by_cases hi : i + p / z < 2147483648
    all_goals
      go_enter Try.func10, Try.ntmps10
      go_wp2_with (first
        | (go_at_call 18; refine (refMaxPosition_any _ _).mono ?_; rintro e w' ⟨rfl, rfl⟩)
        | (go_at_call 16; refine (refIsTerm_any _ _).mono ?_; rintro e w' ⟨rfl, rfl⟩; rw [HZ.out]))
      go_ret2
      refine ⟨ret_kl ?_ (by rw [H2.out]), rfl⟩
      rw [H1.out]
      generalize p / z = q at *
      unfold Hd.s32
      (try unfold wrap32)
      split <;> omega
  | false =>
    have H1 : Hid (Pl.term p i z = 0) := Lib.hid (by unfold Pl.term; rw [hb]; rfl)
    have H2 : Hid (Pl.inE p z = 1) := Lib.hid (by unfold Pl.inE; rw [hb]; rfl)
    rcases inB_not hb with hz | ⟨hz, a⟩ | ⟨hz, a, b⟩
    all_goals
      have HZ := Lib.hid hz
      clear hz hb
      go_enter Try.func10, Try.ntmps10
      go_wp2_with (first
        | (go_at_call 18; refine (refMaxPosition_any _ _).mono ?_; rintro e w' ⟨rfl, rfl⟩)
        | (go_at_call 16; refine (refIsTerm_any _ _).mono ?_; rintro e w' ⟨rfl, rfl⟩; rw [HZ.out]))
      go_ret2
      exact ⟨ret_kl (by rw [H1.out]) (by rw [H2.out]), rfl⟩

set_option maxHeartbeats 1000000 in
theorem refOffset_any (p z : Int) (w : World) :
    Calls Try.prog 12 #[.int .i64 p, .int .i64 z] w fun e w' => e = .returned (.tuple #[.int .i64 (Pl.offs p z), .int .i64 (Pl.inE p z)]) ∧ w = w' := by
  cases hb : Pl.inB p z with
  | true =>
    obtain ⟨hz, p0, p1⟩ := Pl.inB_of hb
    have hzb := Pl.isT_bounds hz
    have p2 : p ≤ 17592186044416 := by omega
    have p3 : p < Pl.mx z := by rw [Pl.mx_of hz]; exact p1
    have H1 : Hid (Pl.offs p z = p % z) := Lib.hid (by unfold Pl.offs; rw [if_pos hb])
    have H2 : Hid (Pl.inE p z = 0) := Lib.hid (by unfold Pl.inE; rw [if_pos hb])
    have HZ := Lib.hid hz
    have hz0 : (z == 0) = false := by simp; omega
    clear hb hz p1
    go_enter Try.func12, Try.ntmps12
    go_wp2_with (first
      | (go_at_call 18; refine (refMaxPosition_any _ _).mono ?_; rintro e w' ⟨rfl, rfl⟩)
      | (go_at_call 16; refine (refIsTerm_any _ _).mono ?_; rintro e w' ⟨rfl, rfl⟩; rw [HZ.out]))
    go_ret2
    exact ⟨ret_kl (by rw [H1.out]) (by rw [H2.out]), rfl⟩
  | false =>
    have H1 : Hid (Pl.offs p z = 0) := Lib.hid (by unfold Pl.offs; rw [hb]; rfl)
    have H2 : Hid (Pl.inE p z = 1) := Lib.hid (by unfold Pl.inE; rw [hb]; rfl)
    rcases inB_not hb with hz | ⟨hz, a⟩ | ⟨hz, a, b⟩
    all_goals
      have HZ := Lib.hid hz
      clear hz hb
      go_enter Try.func12, Try.ntmps12
      go_wp2_with (first
        | (go_at_call 18; refine (refMaxPosition_any _ _).mono ?_; rintro e w' ⟨rfl, rfl⟩)
        | (go_at_call 16; refine (refIsTerm_any _ _).mono ?_; rintro e w' ⟨rfl, rfl⟩; rw [HZ.out]))
      go_ret2
      exact ⟨ret_kl (by rw [H1.out]) (by rw [H2.out]), rfl⟩

theorem refPack_any (t o : Int) (w : World) (t0 : -2147483648 ≤ t) (t1 : t ≤ 2147483647) (o0 : 0 ≤ o) (o1 : o ≤ 4294967295) :
    Calls Try.prog 23 #[.int .i32 t, .int .u32 o] w fun e w' => e = .returned (.int .u64 (Pl.pack t o)) ∧ w = w' := by
  by_cases h : t < 0
  all_goals
    go_enter Try.func23, Try.ntmps23
    go_wp2
    go_ret
    refine ⟨ret_kk ?_, rfl⟩
    unfold Pl.pack
    omega

theorem refUnpack_any (v : Int) (w : World) (v0 : 0 ≤ v) (v1 : v ≤ 18446744073709551615) :
    Calls Try.prog 22 #[.int .u64 v] w fun e w' => e = .returned (.tuple #[.int .i32 (Hd.s32 (v / 4294967296)), .int .u32 (v % 4294967296)]) ∧ w = w' := by
  by_cases h : v / 4294967296 < 2147483648
  all_goals
    go_enter Try.func22, Try.ntmps22
    go_wp2
    go_ret2
    refine ⟨ret_kl ?_ ?_, rfl⟩
    · unfold Hd.s32
      (try unfold wrap32)
      split <;> omega
    · omega
end Go.Proofs.Ytgodagidkfflfaa
