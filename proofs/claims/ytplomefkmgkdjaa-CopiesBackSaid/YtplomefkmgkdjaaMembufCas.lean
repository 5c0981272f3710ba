/-
  Layer 2's compare-and-swap, walked: where what is awaited stands, and where it does not.
-/
import Derived.Test.YtplomefkmgkdjaaMembufCheck
namespace Go.Proofs.Ytplomefkmgkdjaa
open Go.RowKit

theorem and_mask_u64 (v k : Nat) (hv : v < 18446744073709551616) (hk : k ≤ 8) : bits BinOp.and IntKind.u64 (v : Int) ((2 ^ (8 * k) - 1 : Nat) : Int) = ((v % 2 ^ (8 * k) : Nat) : Int) := by
  have h3 : 2 ^ (8 * k) ≤ 2 ^ 64 := Nat.pow_le_pow_right (by decide) (by omega)
  have h4 : 0 < 2 ^ (8 * k) := Nat.two_pow_pos _
  rw [u64_and_nat _ _ hv (by omega), Nat.and_two_pow_sub_one_eq_mod]

/-- A call that answered v, and stored. -/
def Ended (v : Value) (g h : Nat) (m : Nat → Nat) (n : Nat) (c : Int) (w : World) (e : Ending) (w' : World) : Prop := e = .returned v ∧ Stored g h m n c w w'

theorem Stored.from_ {g h n : Nat} {m : Nat → Nat} {c : Int} {w w1 w2 : World} (hs : Stored g h m n c w1 w2) (ht : Touch (Two g h) w w1) : Stored g h m n c w w2 := ⟨hs.1, ht.trans hs.2⟩
theorem Stored.mk_ {g h n : Nat} {m : Nat → Nat} {c : Int} {w w1 : World} (hb : Buf w1 g h m n c) (ht : Touch (Two g h) w w1) : Stored g h m n c w w1 := ⟨hb, ht⟩
/-- A store into a block that was not there before. -/
theorem Stored.setNew {g h n : Nat} {m : Nat → Nat} {c : Int} {w w1 : World} (hs : Stored g h m n c w w1) (hg : g < w.heap.size) (hh : h < w.heap.size) {p : Addr} (hp : w.heap.size ≤ p.block) (u : Value) : Stored g h m n c w (w1.setCell p u) :=
  ⟨hs.1.setOther (by omega) (by omega) u, hs.2.setNew hp u⟩

set_option maxHeartbeats 1000000 in
theorem cas_hit {w : World} {g h n : Nat} {m : Nat → Nat} {c : Int} (B : Buf w g h m n c) (a k v u : Nat) (hk : a % 8 + k ≤ 8) (ha : a / 8 < n) (hv : v < 18446744073709551616) (hit : Mb.nm m a k = v % 2 ^ (8 * k)) (K : Int) (s : Value) :
    Calls Try.prog 45 #[.pointer (some ⟨g, 0, none⟩), .agg #[.int .i64 K, .int .i64 a, .int .i64 k, .int .u64 v, .int .u64 u, s]] w
      (Ended (.agg #[.int .u64 (Mb.nm m a k : Nat), .bool true, .slice none 0 0]) g h (Mb.put m a k u) n c w) := by
  have hs := B.slice
  have hw := B.word ha
  have hz := B.word_free (a / 8)
  have hf := B.few
  have hx := Mb.wd_lt B.bytes (a / 8)
  have hP := Mb.part_nm B.bytes a k hk
  have hM := Mb.mix_wd B.bytes a k u hk
  have hA := and_mask_u64 v k hv (by omega)
  rw [← hit] at hA
  have HB := Lib.hid B
  have HP := Lib.hid hP
  have HM := Lib.hid hM
  have HA := Lib.hid hA
  have hg := B.g_lt
  have hh := B.h_lt
  clear B hP hM hA hit hv
  go_enter Try.func45, Try.ntmps45
  go_wp2
  go_quiet (fail)
  go_wp2
  refine wp_loop_rounds 1 ?_
  rw [rounds_succ]
  go_wp2_with (first
    | (go_at_call 49; refine (load64 _ _ _ _ ((((HB.out.alloc _).alloc _).drewN _).word ha)).mono ?_; rintro e w' ⟨rfl, rfl⟩)
    | (go_at_call 48; refine (part_any _ _ _ _ hx (by omega) (by omega)).mono ?_; rintro e w' ⟨rfl, j, rfl⟩; rw [HP.out]))
  have hA := HA.out
  go_quiet ((go_at_call 54; exact quiet_of_eq2 (mbMask_any _ _ (by omega))))
  go_wp2_with (first
    | (go_at_call 52; refine (mixed_any _ _ _ _ _ hx (by omega) hk).mono ?_; rintro e w' ⟨rfl, rfl⟩; rw [HM.out])
    | (go_at_call 51; refine (cas64 _ _ _ _ _ ((((HB.out.alloc _).alloc _).drewN _).word ha) ((((HB.out.alloc _).alloc _).drewN _).word_free _)).mono ?_; rintro e w' ⟨rfl, rfl⟩))
  refine bodyPost_ret (v := .agg #[.int .u64 (Mb.nm m a k : Nat), .bool true, .slice none 0 0]) ?_ rfl ?_
  · simp [results, Try.results45, go_sem]
  · refine ⟨rfl, ?_⟩
    have hB3 := fun N => ((HB.out.alloc (.cells #[.int .i64 K, .int .i64 a, .int .i64 k, .int .u64 v, .int .u64 u, s] 30)).alloc (.cells #[.int .u64 0, .bool false, .slice none 0 0] 39)).drewN N
    have ht := fun N => ((((Touch.refl (Two g h) w).alloc (.cells #[.int .i64 K, .int .i64 a, .int .i64 k, .int .u64 v, .int .u64 u, s] 30)).alloc (.cells #[.int .u64 0, .bool false, .slice none 0 0] 39)).drewN N)
    exact (((((hB3 _).stored a k u hk).from_ (ht _)).setNew hg hh (Nat.le_succ _) _).setNew hg hh (Nat.le_succ _) _).setNew hg hh (Nat.le_succ _) _

set_option maxHeartbeats 1000000 in
theorem cas_miss {w : World} {g h n : Nat} {m : Nat → Nat} {c : Int} (B : Buf w g h m n c) (a k v u : Nat) (hk : a % 8 + k ≤ 8) (ha : a / 8 < n) (hv : v < 18446744073709551616) (miss : ¬ Mb.nm m a k = v % 2 ^ (8 * k)) (K : Int) (s : Value) :
    Calls Try.prog 45 #[.pointer (some ⟨g, 0, none⟩), .agg #[.int .i64 K, .int .i64 a, .int .i64 k, .int .u64 v, .int .u64 u, s]] w
      (Ended (.agg #[.int .u64 (Mb.nm m a k : Nat), .bool false, .slice none 0 0]) g h m n c w) := by
  have hs := B.slice
  have hf := B.few
  have hx := Mb.wd_lt B.bytes (a / 8)
  have hP := Mb.part_nm B.bytes a k hk
  have hA := and_mask_u64 v k hv (by omega)
  have hne : ((Mb.nm m a k : Nat) : Int) ≠ ((v % 2 ^ (8 * k) : Nat) : Int) := fun e => miss (Int.ofNat_inj.1 e)
  generalize hq : v % 2 ^ (8 * k) = q at hA hne
  have hN : (((Mb.nm m a k : Nat) : Int) != (q : Int)) = true := by simpa using hne
  have HB := Lib.hid B
  have HP := Lib.hid hP
  have HA := Lib.hid hA
  have hg := B.g_lt
  have hh := B.h_lt
  clear B hP hA miss hv hne hq
  go_enter Try.func45, Try.ntmps45
  go_wp2
  go_quiet (fail)
  go_wp2
  refine wp_loop_rounds 1 ?_
  rw [rounds_succ]
  go_wp2_with (first
    | (go_at_call 49; refine (load64 _ _ _ _ ((((HB.out.alloc _).alloc _).drewN _).word ha)).mono ?_; rintro e w' ⟨rfl, rfl⟩)
    | (go_at_call 48; refine (part_any _ _ _ _ hx (by omega) (by omega)).mono ?_; rintro e w' ⟨rfl, j, rfl⟩; rw [HP.out]))
  have hA := HA.out
  go_quiet ((go_at_call 54; exact quiet_of_eq2 (mbMask_any _ _ (by omega))))
  go_wp2
  refine bodyPost_ret (v := .agg #[.int .u64 (Mb.nm m a k : Nat), .bool false, .slice none 0 0]) ?_ rfl ?_
  · simp [results, Try.results45, go_sem]
  · refine ⟨rfl, ?_⟩
    have hB3 := fun N => ((HB.out.alloc (.cells #[.int .i64 K, .int .i64 a, .int .i64 k, .int .u64 v, .int .u64 u, s] 30)).alloc (.cells #[.int .u64 0, .bool false, .slice none 0 0] 39)).drewN N
    have ht := fun N => ((((Touch.refl (Two g h) w).alloc (.cells #[.int .i64 K, .int .i64 a, .int .i64 k, .int .u64 v, .int .u64 u, s] 30)).alloc (.cells #[.int .u64 0, .bool false, .slice none 0 0] 39)).drewN N)
    exact (((Stored.mk_ (hB3 _) (ht _)).setNew hg hh (Nat.le_succ _) _).setNew hg hh (Nat.le_succ _) _).setNew hg hh (Nat.le_succ _) _
end Go.Proofs.Ytplomefkmgkdjaa
