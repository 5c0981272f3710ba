/-
  The small functions of layer 2 (membuf) that only reckon: shift, mask, part, mixed, inWord, isOfNumber; walked.
-/
import Derived.Test.YtijgfaggakbajaaRows
import Derived.Test.YtijgfaggakbajaaMembufMath
import Derived.WalkSpells
import Derived.WalkLawsBesides
import Derived.Lib.Hide
import Derived.Deep.QuietTactic
import Derived.BigQuiet
namespace Go.Proofs.Ytijgfaggakbajaa
open Go.RowKit

theorem ret_num {k : IntKind} {a b : Int} (h : a = b) : Ending.returned (.int k a) = .returned (.int k b) := by rw [h]

/-- A contract 'w = w'' met in a region that draws its order. -/
theorem quiet_of_eq {P : Program} {f : FuncId} {args : Array Value} {w : World} {n : Nat} {v : Value}
    (h : Calls P f args (w.drewN n) fun e w' => e = .returned v ∧ w.drewN n = w') : Calls P f args (w.drewN n) fun e w'' => e = .returned v ∧ ∃ m, w'' = w.drewN m :=
  h.mono fun _ _ ⟨he, hm⟩ => ⟨he, n, hm.symm⟩

/-- .. where a region had drawn already. -/
theorem quiet_of_eq2 {P : Program} {f : FuncId} {args : Array Value} {w : World} {a n : Nat} {v : Value}
    (h : Calls P f args (w.drewN (a + n)) fun e w' => e = .returned v ∧ w.drewN (a + n) = w') : Calls P f args (w.drewN (a + n)) fun e w'' => e = .returned v ∧ ∃ m, w'' = w.drewN (a + m) :=
  h.mono fun _ _ ⟨he, hm⟩ => ⟨he, n, hm.symm⟩

theorem shift_any (a : Nat) (w : World) (ha : a ≤ 9223372036854775807) :
    Calls Try.prog 82 #[.int .i64 a] w fun e w' => e = .returned (.int .i64 ((8 * (a % 8) : Nat) : Int)) ∧ w = w' := by
  go_enter Try.func82, Try.ntmps82
  go_wp2
  go_ret
  exact ⟨ret_num (by omega), rfl⟩

theorem mask_num (n : Nat) (hn : n ≤ 8) : IntKind.u64.wrap (IntKind.u64.wrap (2 ^ (n * 8)) - 1) = ((2 ^ (8 * n) - 1 : Nat) : Int) := by
  match n, hn with
  | 0, _ | 1, _ | 2, _ | 3, _ | 4, _ | 5, _ | 6, _ | 7, _ | 8, _ => decide +kernel

theorem mbMask_any (n : Nat) (w : World) (hn : n ≤ 8) :
    Calls Try.prog 83 #[.int .i64 n] w fun e w' => e = .returned (.int .u64 ((2 ^ (8 * n) - 1 : Nat) : Int)) ∧ w = w' := by
  go_enter Try.func83, Try.ntmps83
  go_wp2
  go_ret
  exact ⟨ret_num (mask_num n hn), rfl⟩

theorem inWord_any (a n : Nat) (w : World) (ha : a ≤ 9223372036854775807) :
    Calls Try.prog 61 #[.int .i64 a, .int .i64 n] w fun e w' => e = .returned (.int .i64 ((min n (8 - a % 8) : Nat) : Int)) ∧ w = w' := by
  go_enter Try.func61, Try.ntmps61
  go_wp2
  all_goals go_ret
  all_goals exact ⟨ret_num (by omega), rfl⟩

/-- Does a kind reach a number? -/
def numB (k : Int) : Bool := !(decide (k = 5) || decide (k = 6))

theorem isOfNumber_any (k : Int) (w : World) :
    Calls Try.prog 76 #[.int .i64 k] w fun e w' => e = .returned (.bool (numB k)) ∧ w = w' := by
  go_enter Try.func76, Try.ntmps76
  go_wp2
  · have h : k = 5 := by assumption
    go_ret
    exact ⟨by simp [numB, h], rfl⟩
  · go_ret
    refine ⟨?_, rfl⟩
    show Ending.returned (Value.bool (k != 5 && k != 6)) = _
    congr 2
    unfold numB
    rw [Bool.eq_iff_iff]
    simp

theorem part_bits (x s n : Nat) (hx : x < 18446744073709551616) (hn : n ≤ 8) :
    bits BinOp.and IntKind.u64 ((x : Int) / 2 ^ s) ((2 ^ (8 * n) - 1 : Nat) : Int) = ((x / 2 ^ s % 2 ^ (8 * n) : Nat) : Int) := by
  have h1 : (x : Int) / 2 ^ s = ((x / 2 ^ s : Nat) : Int) := by simp
  have h2 : x / 2 ^ s ≤ x := Nat.div_le_self _ _
  have h3 : 2 ^ (8 * n) ≤ 2 ^ 64 := Nat.pow_le_pow_right (by decide) (by omega)
  rw [h1, u64_and_nat _ _ (by omega) (by omega), Nat.and_two_pow_sub_one_eq_mod]

set_option maxHeartbeats 400000 in
theorem part_any (x a n : Nat) (w : World) (hx : x < 18446744073709551616) (ha : a ≤ 9223372036854775807) (hn : n ≤ 8) :
    Calls Try.prog 73 #[.int .u64 x, .int .i64 a, .int .i64 n] w fun e w' => e = .returned (.int .u64 ((x / 2 ^ (8 * (a % 8)) % 2 ^ (8 * n) : Nat) : Int)) ∧ ∃ k, w' = w.drewN k := by
  have H := Lib.hid (part_bits x (8 * (a % 8)) n hx hn)
  clear hx
  go_enter Try.func73, Try.ntmps73
  go_wp2
  go_quiet ((first
    | (go_at_call 82; exact quiet_of_eq (shift_any _ _ (by omega)))
    | (go_at_call 83; exact quiet_of_eq (mbMask_any _ _ (by omega)))))
  go_wp2
  go_ret
  exact ⟨ret_num H.out, _, rfl⟩

theorem mixed_bits (x s n v : Nat) (hx : x < 18446744073709551616) (h : s + n ≤ 8) :
    bits BinOp.or IntKind.u64 (bits BinOp.andNot IntKind.u64 (x : Int) (IntKind.u64.wrap (((2 ^ (8 * n) - 1 : Nat) : Int) * 2 ^ (8 * s))))
      (bits BinOp.and IntKind.u64 (IntKind.u64.wrap ((v : Int) * 2 ^ (8 * s))) (IntKind.u64.wrap (((2 ^ (8 * n) - 1 : Nat) : Int) * 2 ^ (8 * s)))) = ((Mb.mixN x s n v : Nat) : Int) := by
  have hm := Mb.mk_lt s n h
  have e1 : IntKind.u64.wrap (((2 ^ (8 * n) - 1 : Nat) : Int) * 2 ^ (8 * s)) = ((Mb.mk s n : Nat) : Int) := by
    have : ((2 ^ (8 * n) - 1 : Nat) : Int) * 2 ^ (8 * s) = ((Mb.mk s n : Nat) : Int) := by
      unfold Mb.mk
      rw [Int.natCast_mul]
      simp
    rw [this, IntKind.wrap_u64]
    exact Int.emod_eq_of_lt (by omega) (by omega)
  have e2 : IntKind.u64.wrap ((v : Int) * 2 ^ (8 * s)) = ((v * 2 ^ (8 * s) % 18446744073709551616 : Nat) : Int) := by
    have : (v : Int) * 2 ^ (8 * s) = ((v * 2 ^ (8 * s) : Nat) : Int) := by simp
    rw [this, IntKind.wrap_u64]
    omega
  have h1 : x &&& (18446744073709551615 - Mb.mk s n) < 2 ^ 64 := Nat.and_lt_two_pow _ (by omega)
  have h2 : v * 2 ^ (8 * s) % 18446744073709551616 &&& Mb.mk s n < 2 ^ 64 := Nat.and_lt_two_pow _ hm
  rw [e1, e2, u64_andNot_nat _ _ hx hm, u64_and_nat _ _ (Nat.mod_lt _ (by decide)) hm, u64_or_nat _ _ h1 h2]
  rfl

theorem mixed_any (x a n v : Nat) (w : World) (hx : x < 18446744073709551616) (ha : a ≤ 9223372036854775807) (hn : a % 8 + n ≤ 8) :
    Calls Try.prog 87 #[.int .u64 x, .int .i64 a, .int .i64 n, .int .u64 v] w fun e w' => e = .returned (.int .u64 (Mb.mixN x (a % 8) n v : Nat)) ∧ w = w' := by
  have H := Lib.hid (mixed_bits x (a % 8) n v hx hn)
  clear hx
  go_enter Try.func87, Try.ntmps87
  go_wp2_with (first
    | (go_at_call 82; refine (shift_any _ _ (by omega)).mono ?_; rintro e w' ⟨rfl, rfl⟩)
    | (go_at_call 83; refine (mbMask_any _ _ (by omega)).mono ?_; rintro e w' ⟨rfl, rfl⟩))
  go_ret
  exact ⟨ret_num H.out, rfl⟩
end Go.Proofs.Ytijgfaggakbajaa
