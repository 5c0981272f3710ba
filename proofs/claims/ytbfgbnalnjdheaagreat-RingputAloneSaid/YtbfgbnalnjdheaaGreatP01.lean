/-
  Plain numbers for layer 2 (membuf): a memory of bytes, its words, what a part of a word is, what storing does to the bytes; no statement of the program is proved here.
  The small functions of layer 2 (membuf) that only reckon: shift, mask, part, mixed, inWord, isOfNumber; walked.
  What lies above what was there: one call behind another, 'true and as it was', 'v and as it was'; no function of the program is walked here.
  Bytes of a number, a slice that reads as a list of bytes ('BytesAt'), and what lies above what was there; no function of the program is walked here.
  Layer 1's Bytes, walked: what is made lies above what was there.
  Layer 2's buffer in memory: where its words and its count stand, what a call may have turned; sync/atomic's methods, met by contract.
  Layer 2's reads and writes of one word's part: load, store; walked.
  The number that a list of bytes tells; arithmetic alone.
  Numbers of bytes (layer 1's Number), walked over any slice that reads as bytes.
  Layer 2's copies of bytes, word by word: read, write; walked.
  Which accesses may be (layer 2's Check), and a buffer's size, count and making; walked.
  Layer 2's compare-and-swap, walked: where what is awaited stands, and where it does not.
  Layer 2's access by its kind, walked: what adds.
  Layer 2's access by its kind, walked: loads, stores, compares, reads, writes.
-/
import Derived.WalkKit
import Derived.Laws.Bits64b
import Derived.Laws.BitsAllLaws
import Derived.IntWalk
import Derived.Test.YtbfgbnalnjdheaaGreatRows
import Derived.WalkSpells
import Derived.WalkLawsBesides
import Derived.Lib.Hide
import Derived.Deep.QuietTactic
import Derived.BigQuiet
import Derived.Deep.OwnRows
import Derived.Maps.AppendAt
import Derived.Laws.LoneSync
import Derived.Laws.MakeOwn
import Derived.Deep.RegionHeld3
namespace Go.Proofs.YtbfgbnalnjdheaaGreat
namespace Mb
open Go

/-- Byte i of a number. -/
def byt (x i : Nat) : Nat := x / 2 ^ (8 * i) % 256
/-- The number of the n bytes from at on, the lowest first. -/
def nm (m : Nat → Nat) (at_ : Nat) : Nat → Nat
  | 0 => 0
  | n + 1 => nm m at_ n + m (at_ + n) * 2 ^ (8 * n)
/-- Word j. -/
def wd (m : Nat → Nat) (j : Nat) : Nat := nm m (8 * j) 8
/-- n bytes from at on are v's lowest; the others stay. -/
def put (m : Nat → Nat) (at_ n v : Nat) : Nat → Nat := fun k => if at_ ≤ k ∧ k < at_ + n then byt v (k - at_) else m k
def IsB (m : Nat → Nat) : Prop := ∀ k, m k < 256
/-- The bytes as a list. -/
def bl (m : Nat → Nat) (at_ n : Nat) : List Int := (List.range n).map fun i => ((m (at_ + i) : Nat) : Int)

theorem byt_lt (x i : Nat) : byt x i < 256 := Nat.mod_lt _ (by decide)

theorem put_isB {m : Nat → Nat} (h : IsB m) (a n v : Nat) : IsB (put m a n v) := by
  intro k
  unfold put
  split
  · exact byt_lt _ _
  · exact h k

theorem zero_isB : IsB (fun _ => 0) := fun _ => by show (0 : Nat) < 256; decide

theorem two_pow_next (n : Nat) : 2 ^ (8 * (n + 1)) = 2 ^ (8 * n) * 256 := by
  rw [Nat.mul_add, Nat.pow_add]

theorem nm_lt {m : Nat → Nat} (h : IsB m) (a n : Nat) : nm m a n < 2 ^ (8 * n) := by
  induction n with
  | zero => simp [nm]
  | succ n ih =>
    have hb := h (a + n)
    have h1 : m (a + n) * 2 ^ (8 * n) ≤ 255 * 2 ^ (8 * n) := Nat.mul_le_mul_right _ (by omega)
    rw [two_pow_next]
    show nm m a n + m (a + n) * 2 ^ (8 * n) < _
    omega

theorem wd_lt {m : Nat → Nat} (h : IsB m) (j : Nat) : wd m j < 18446744073709551616 := nm_lt h (8 * j) 8

/-- The n lowest bytes of a number make what is left of it. -/
theorem mod_next (x n : Nat) : x % 2 ^ (8 * (n + 1)) = x % 2 ^ (8 * n) + byt x n * 2 ^ (8 * n) := by
  rw [two_pow_next, Nat.mod_mul, Nat.mul_comm (2 ^ (8 * n))]
  rfl

theorem nm_of_bytes {m : Nat → Nat} (x a n : Nat) (h : ∀ i, i < n → m (a + i) = byt x i) : nm m a n = x % 2 ^ (8 * n) := by
  induction n with
  | zero => simp [nm, Nat.mod_one]
  | succ n ih =>
    show nm m a n + m (a + n) * 2 ^ (8 * n) = _
    rw [mod_next, ih (fun i hi => h i (by omega)), h n (by omega)]

theorem byt_nm {m : Nat → Nat} (h : IsB m) (a n i : Nat) (hi : i < n) : byt (nm m a n) i = m (a + i) := by
  induction n with
  | zero => omega
  | succ n ih =>
    have hlt := nm_lt h a n
    have hb := h (a + n)
    show byt (nm m a n + m (a + n) * 2 ^ (8 * n)) i = _
    by_cases hin : i = n
    · subst hin
      unfold byt
      rw [Nat.add_mul_div_right _ _ (Nat.two_pow_pos _), Nat.div_eq_of_lt hlt, Nat.zero_add]
      exact Nat.mod_eq_of_lt hb
    · rw [← ih (by omega)]
      unfold byt
      have e : 2 ^ (8 * n) = 2 ^ (8 * i) * (256 * 2 ^ (8 * (n - i - 1))) := by
        rw [show (256 : Nat) = 2 ^ 8 by decide, ← Nat.pow_add, ← Nat.pow_add]
        congr 1
        omega
      have e2 : m (a + n) * 2 ^ (8 * n) = 2 ^ (8 * i) * (256 * (m (a + n) * 2 ^ (8 * (n - i - 1)))) := by
        rw [e, Nat.mul_left_comm, Nat.mul_left_comm (m (a + n))]
      rw [e2, Nat.add_mul_div_left _ _ (Nat.two_pow_pos _), Nat.add_mul_mod_self_left]

/-- Bytes tell a number. -/
theorem byt_ext (x y n : Nat) (hx : x < 2 ^ (8 * n)) (hy : y < 2 ^ (8 * n)) (h : ∀ i, i < n → byt x i = byt y i) : x = y := by
  have e1 := nm_of_bytes (m := fun i => byt y i) y 0 n (fun i _ => by simp)
  have e2 := nm_of_bytes (m := fun i => byt y i) x 0 n (fun i hi => by simp [h i hi])
  rw [Nat.mod_eq_of_lt hx] at e2
  rw [Nat.mod_eq_of_lt hy] at e1
  exact e2.symm.trans e1

theorem byt_bit (x i j : Nat) : (byt x i).testBit j = (decide (j < 8) && x.testBit (8 * i + j)) := by
  unfold byt
  rw [show (256 : Nat) = 2 ^ 8 by decide, Nat.testBit_mod_two_pow, Nat.testBit_div_two_pow, Nat.add_comm]

/-- The part of a word. -/
theorem part_nm {m : Nat → Nat} (h : IsB m) (a n : Nat) (hn : a % 8 + n ≤ 8) : wd m (a / 8) / 2 ^ (8 * (a % 8)) % 2 ^ (8 * n) = nm m a n := by
  refine byt_ext _ _ n (Nat.mod_lt _ (Nat.two_pow_pos _)) (nm_lt h a n) fun i hi => ?_
  rw [byt_nm h a n i hi]
  have h1 := byt_nm h (8 * (a / 8)) 8 (a % 8 + i) (by omega)
  rw [show 8 * (a / 8) + (a % 8 + i) = a + i by omega] at h1
  rw [← h1]
  refine Nat.eq_of_testBit_eq fun j => ?_
  rw [byt_bit, byt_bit]
  by_cases hj : j < 8
  · rw [Nat.testBit_mod_two_pow, Nat.testBit_div_two_pow, show decide (8 * i + j < 8 * n) = true by simp; omega, Bool.true_and]
    show (decide (j < 8) && (nm m (8 * (a / 8)) 8).testBit (8 * i + j + 8 * (a % 8))) = _
    rw [show 8 * i + j + 8 * (a % 8) = 8 * (a % 8 + i) + j by omega]
  · simp [hj]

/-- The mask of n bytes above s bytes. -/
def mk (s n : Nat) : Nat := (2 ^ (8 * n) - 1) * 2 ^ (8 * s)

theorem mk_lt (s n : Nat) (h : s + n ≤ 8) : mk s n < 18446744073709551616 := by
  unfold mk
  have h1 : 0 < 2 ^ (8 * n) := Nat.two_pow_pos _
  have h2 : 0 < 2 ^ (8 * s) := Nat.two_pow_pos _
  have h3 : 2 ^ (8 * n) * 2 ^ (8 * s) ≤ 2 ^ 64 := by
    rw [← Nat.pow_add]
    exact Nat.pow_le_pow_right (by decide) (by omega)
  have h4 : (2 ^ (8 * n) - 1) * 2 ^ (8 * s) = 2 ^ (8 * n) * 2 ^ (8 * s) - 2 ^ (8 * s) := by rw [Nat.sub_mul, Nat.one_mul]
  have h5 : 2 ^ (8 * s) ≤ 2 ^ (8 * n) * 2 ^ (8 * s) := Nat.le_mul_of_pos_left _ h1
  omega

theorem mk_bit (s n i : Nat) : (mk s n).testBit i = decide (8 * s ≤ i ∧ i < 8 * s + 8 * n) := by
  unfold mk
  rw [← Nat.shiftLeft_eq, Nat.testBit_shiftLeft, Nat.testBit_two_pow_sub_one]
  rw [Bool.eq_iff_iff]
  simp
  omega

/-- What mixed makes of a word x, s bytes up, n bytes wide, of v. -/
def mixN (x s n v : Nat) : Nat := (x &&& (18446744073709551615 - mk s n)) ||| (v * 2 ^ (8 * s) % 18446744073709551616 &&& mk s n)

theorem mixN_lt (x s n v : Nat) (h : s + n ≤ 8) : mixN x s n v < 18446744073709551616 := by
  have h1 : x &&& (18446744073709551615 - mk s n) < 2 ^ 64 := Nat.and_lt_two_pow _ (by omega)
  have h2 : v * 2 ^ (8 * s) % 18446744073709551616 &&& mk s n < 2 ^ 64 := Nat.and_lt_two_pow _ (mk_lt s n h)
  exact Nat.or_lt_two_pow h1 h2

theorem mixN_bit (x s n v i : Nat) (h : s + n ≤ 8) (hi : i < 64) :
    (mixN x s n v).testBit i = if 8 * s ≤ i ∧ i < 8 * s + 8 * n then v.testBit (i - 8 * s) else x.testBit i := by
  unfold mixN
  have hm := mk_lt s n h
  have e : 18446744073709551615 - mk s n = 2 ^ 64 - (mk s n + 1) := by omega
  rw [e, Nat.testBit_or, Nat.testBit_and, Nat.testBit_and, Nat.testBit_two_pow_sub_succ hm, mk_bit, show (18446744073709551616 : Nat) = 2 ^ 64 by decide, Nat.testBit_mod_two_pow, ← Nat.shiftLeft_eq, Nat.testBit_shiftLeft]
  by_cases hc : 8 * s ≤ i ∧ i < 8 * s + 8 * n
  · rw [if_pos hc]
    simp [hc, hi]
  · rw [if_neg hc]
    simp [hc, hi]

theorem mix_wd {m : Nat → Nat} (h : IsB m) (a n v : Nat) (hn : a % 8 + n ≤ 8) : mixN (wd m (a / 8)) (a % 8) n v = wd (put m a n v) (a / 8) := by
  refine byt_ext _ _ 8 (mixN_lt _ _ _ _ hn) (wd_lt (put_isB h a n v) _) fun i hi => ?_
  have h1 : byt (wd (put m a n v) (a / 8)) i = put m a n v (8 * (a / 8) + i) := byt_nm (put_isB h a n v) (8 * (a / 8)) 8 i hi
  have h2 : byt (wd m (a / 8)) i = m (8 * (a / 8) + i) := byt_nm h (8 * (a / 8)) 8 i hi
  rw [h1]
  unfold put
  refine Nat.eq_of_testBit_eq fun j => ?_
  by_cases hj : j < 8
  · rw [byt_bit, mixN_bit _ _ _ _ _ hn (by omega)]
    by_cases hc : a ≤ 8 * (a / 8) + i ∧ 8 * (a / 8) + i < a + n
    · rw [if_pos hc, if_pos (by omega), byt_bit]
      rw [show 8 * i + j - 8 * (a % 8) = 8 * (8 * (a / 8) + i - a) + j by omega]
    · rw [if_neg hc, if_neg (by omega), ← h2, byt_bit]
  · have l1 : byt (mixN (wd m (a / 8)) (a % 8) n v) i < 2 ^ j := Nat.lt_of_lt_of_le (byt_lt _ _) (Nat.pow_le_pow_right (n := 2) (i := 8) (by decide) (by omega))
    have l2 : (if a ≤ 8 * (a / 8) + i ∧ 8 * (a / 8) + i < a + n then byt v (8 * (a / 8) + i - a) else m (8 * (a / 8) + i)) < 2 ^ j := by
      have := put_isB h a n v (8 * (a / 8) + i)
      exact Nat.lt_of_lt_of_le this (Nat.pow_le_pow_right (n := 2) (i := 8) (by decide) (by omega))
    rw [Nat.testBit_lt_two_pow l1, Nat.testBit_lt_two_pow l2]

theorem wd_congr {m m' : Nat → Nat} (j : Nat) (h : ∀ i, i < 8 → m' (8 * j + i) = m (8 * j + i)) : wd m' j = wd m j := by
  unfold wd
  have : ∀ n, n ≤ 8 → nm m' (8 * j) n = nm m (8 * j) n := by
    intro n
    induction n with
    | zero => intro _; rfl
    | succ n ih =>
      intro hn
      show nm m' (8 * j) n + m' (8 * j + n) * _ = nm m (8 * j) n + m (8 * j + n) * _
      rw [ih (by omega), h n (by omega)]
  exact this 8 (by omega)

theorem wd_put_other (m : Nat → Nat) (a n v j : Nat) (hn : a % 8 + n ≤ 8) (hj : j ≠ a / 8) : wd (put m a n v) j = wd m j := by
  refine wd_congr j fun i hi => ?_
  unfold put
  rw [if_neg (by omega)]

/-- What stands where a number of n bytes was stored. -/
theorem nm_put (m : Nat → Nat) (a n v : Nat) : nm (put m a n v) a n = v % 2 ^ (8 * n) := by
  refine nm_of_bytes v a n fun i hi => ?_
  unfold put
  rw [if_pos (by omega)]
  congr 1
  omega

theorem wd_put_mod (m : Nat → Nat) (a v : Nat) (ha : a % 8 = 0) : wd (put m a 8 v) (a / 8) = v % 18446744073709551616 := by
  unfold wd
  rw [show 8 * (a / 8) = a by omega, nm_put]

theorem wd_put (m : Nat → Nat) (a v : Nat) (ha : a % 8 = 0) (hv : v < 18446744073709551616) : wd (put m a 8 v) (a / 8) = v := by
  unfold wd
  rw [show 8 * (a / 8) = a by omega, nm_put]
  exact Nat.mod_eq_of_lt hv

theorem wd_nm (m : Nat → Nat) (a : Nat) (ha : a % 8 = 0) : wd m (a / 8) = nm m a 8 := by
  unfold wd
  rw [show 8 * (a / 8) = a by omega]

theorem nm_congr {m m' : Nat → Nat} (a n : Nat) (h : ∀ i, i < n → m' (a + i) = m (a + i)) : nm m' a n = nm m a n := by
  induction n with
  | zero => rfl
  | succ n ih =>
    show nm m' a n + m' (a + n) * _ = nm m a n + m (a + n) * _
    rw [ih (fun i hi => h i (by omega)), h n (by omega)]

theorem bl_length (m : Nat → Nat) (a n : Nat) : (bl m a n).length = n := by simp [bl]
theorem bl_getD (m : Nat → Nat) (a n i : Nat) (h : i < n) : (bl m a n).getD i 0 = ((m (a + i) : Nat) : Int) := by simp [bl, List.getD, h]
theorem bl_append (m : Nat → Nat) (a n k : Nat) : bl m a (n + k) = bl m a n ++ bl m (a + n) k := by
  unfold bl
  rw [List.range_add, List.map_append, List.map_map]
  congr 1
  refine List.map_congr_left fun i _ => ?_
  simp [Nat.add_assoc]

/-- Storing twice at one place: the second counts. -/
theorem put_put (m : Nat → Nat) (a n v u : Nat) : put (put m a n v) a n u = put m a n u := by
  funext k
  unfold put
  split <;> rfl
end Mb
end Go.Proofs.YtbfgbnalnjdheaaGreat
namespace Go.Proofs.YtbfgbnalnjdheaaGreat
open Go.RowKit

theorem ret_num {k : IntKind} {a b : Int} (h : a = b) : Ending.returned (.int k a) = .returned (.int k b) := by rw [h]

/-- A contract 'w = w'' met in a region that draws its order. -/
theorem quiet_of_eq {P : Program} {f : FuncId} {args : Array Value} {w : World} {n : Nat} {v : Value}
    (h : Calls P f args (w.drewN n) fun e w' => e = .returned v ∧ w.drewN n = w') : Calls P f args (w.drewN n) fun e w'' => e = .returned v ∧ ∃ m, w'' = w.drewN m :=
  h.mono fun _ _ ⟨he, hm⟩ => ⟨he, n, hm.symm⟩

/-- .. where a region had drawn already. -/
theorem quiet_of_eq2 {P : Program} {f : FuncId} {args : Array Value} {w : World} {a n : Nat} {v : Value}
    (h : Calls P f args (w.drewN (a + n)) fun e w' => e = .returned v ∧ w.drewN (a + n) = w') : Calls P f args (w.drewN (a + n)) fun e w'' => e = .returned v ∧ ∃ m, w'' = w.drewN (a + m) :=
  h.mono fun _ _ ⟨he, hm⟩ => ⟨he, n, hm.symm⟩

theorem shift_any (a : Nat) (w : World) (ha : a ≤ 9223372036854775807) :
    Calls Tryz.prog 101 #[.int .i64 a] w fun e w' => e = .returned (.int .i64 ((8 * (a % 8) : Nat) : Int)) ∧ w = w' := by
  go_enter Tryz.func101, Tryz.ntmps101
  go_wp2
  go_ret
  exact ⟨ret_num (by omega), rfl⟩

theorem mask_num (n : Nat) (hn : n ≤ 8) : IntKind.u64.wrap (IntKind.u64.wrap (2 ^ (n * 8)) - 1) = ((2 ^ (8 * n) - 1 : Nat) : Int) := by
  match n, hn with
  | 0, _ | 1, _ | 2, _ | 3, _ | 4, _ | 5, _ | 6, _ | 7, _ | 8, _ => decide +kernel

theorem mbMask_any (n : Nat) (w : World) (hn : n ≤ 8) :
    Calls Tryz.prog 90 #[.int .i64 n] w fun e w' => e = .returned (.int .u64 ((2 ^ (8 * n) - 1 : Nat) : Int)) ∧ w = w' := by
  go_enter Tryz.func90, Tryz.ntmps90
  go_wp2
  go_ret
  exact ⟨ret_num (mask_num n hn), rfl⟩

theorem inWord_any (a n : Nat) (w : World) (ha : a ≤ 9223372036854775807) :
    Calls Tryz.prog 55 #[.int .i64 a, .int .i64 n] w fun e w' => e = .returned (.int .i64 ((min n (8 - a % 8) : Nat) : Int)) ∧ w = w' := by
  go_enter Tryz.func55, Tryz.ntmps55
  go_wp2
  all_goals go_ret
  all_goals exact ⟨ret_num (by omega), rfl⟩

/-- Does a kind reach a number? -/
def numB (k : Int) : Bool := !(decide (k = 5) || decide (k = 6))

theorem isOfNumber_any (k : Int) (w : World) :
    Calls Tryz.prog 66 #[.int .i64 k] w fun e w' => e = .returned (.bool (numB k)) ∧ w = w' := by
  go_enter Tryz.func66, Tryz.ntmps66
  go_wp2
  · have h : k = 5 := by assumption
    go_ret
    exact ⟨by simp [numB, h], rfl⟩
  · go_ret
    refine ⟨?_, rfl⟩
    show Ending.returned (Value.bool (k != 5 && k != 6)) = _
    congr 2
    unfold numB
    rw [Bool.eq_iff_iff]
    simp

theorem part_bits (x s n : Nat) (hx : x < 18446744073709551616) (hn : n ≤ 8) :
    bits BinOp.and IntKind.u64 ((x : Int) / 2 ^ s) ((2 ^ (8 * n) - 1 : Nat) : Int) = ((x / 2 ^ s % 2 ^ (8 * n) : Nat) : Int) := by
  have h1 : (x : Int) / 2 ^ s = ((x / 2 ^ s : Nat) : Int) := by simp
  have h2 : x / 2 ^ s ≤ x := Nat.div_le_self _ _
  have h3 : 2 ^ (8 * n) ≤ 2 ^ 64 := Nat.pow_le_pow_right (by decide) (by omega)
  rw [h1, u64_and_nat _ _ (by omega) (by omega), Nat.and_two_pow_sub_one_eq_mod]

set_option maxHeartbeats 400000 in
theorem part_any (x a n : Nat) (w : World) (hx : x < 18446744073709551616) (ha : a ≤ 9223372036854775807) (hn : n ≤ 8) :
    Calls Tryz.prog 82 #[.int .u64 x, .int .i64 a, .int .i64 n] w fun e w' => e = .returned (.int .u64 ((x / 2 ^ (8 * (a % 8)) % 2 ^ (8 * n) : Nat) : Int)) ∧ ∃ k, w' = w.drewN k := by
  have H := Lib.hid (part_bits x (8 * (a % 8)) n hx hn)
  clear hx
  go_enter Tryz.func82, Tryz.ntmps82
  go_wp2
  go_quiet ((first
    | (go_at_call 101; exact quiet_of_eq (shift_any _ _ (by omega)))
    | (go_at_call 90; exact quiet_of_eq (mbMask_any _ _ (by omega)))))
  go_wp2
  go_ret
  exact ⟨ret_num H.out, _, rfl⟩

theorem mixed_bits (x s n v : Nat) (hx : x < 18446744073709551616) (h : s + n ≤ 8) :
    bits BinOp.or IntKind.u64 (bits BinOp.andNot IntKind.u64 (x : Int) (IntKind.u64.wrap (((2 ^ (8 * n) - 1 : Nat) : Int) * 2 ^ (8 * s))))
      (bits BinOp.and IntKind.u64 (IntKind.u64.wrap ((v : Int) * 2 ^ (8 * s))) (IntKind.u64.wrap (((2 ^ (8 * n) - 1 : Nat) : Int) * 2 ^ (8 * s)))) = ((Mb.mixN x s n v : Nat) : Int) := by
  have hm := Mb.mk_lt s n h
  have e1 : IntKind.u64.wrap (((2 ^ (8 * n) - 1 : Nat) : Int) * 2 ^ (8 * s)) = ((Mb.mk s n : Nat) : Int) := by
    have : ((2 ^ (8 * n) - 1 : Nat) : Int) * 2 ^ (8 * s) = ((Mb.mk s n : Nat) : Int) := by
      unfold Mb.mk
      rw [Int.natCast_mul]
      simp
    rw [this, IntKind.wrap_u64]
    exact Int.emod_eq_of_lt (by omega) (by omega)
  have e2 : IntKind.u64.wrap ((v : Int) * 2 ^ (8 * s)) = ((v * 2 ^ (8 * s) % 18446744073709551616 : Nat) : Int) := by
    have : (v : Int) * 2 ^ (8 * s) = ((v * 2 ^ (8 * s) : Nat) : Int) := by simp
    rw [this, IntKind.wrap_u64]
    omega
  have h1 : x &&& (18446744073709551615 - Mb.mk s n) < 2 ^ 64 := Nat.and_lt_two_pow _ (by omega)
  have h2 : v * 2 ^ (8 * s) % 18446744073709551616 &&& Mb.mk s n < 2 ^ 64 := Nat.and_lt_two_pow _ hm
  rw [e1, e2, u64_andNot_nat _ _ hx hm, u64_and_nat _ _ (Nat.mod_lt _ (by decide)) hm, u64_or_nat _ _ h1 h2]
  rfl

theorem mixed_any (x a n v : Nat) (w : World) (hx : x < 18446744073709551616) (ha : a ≤ 9223372036854775807) (hn : a % 8 + n ≤ 8) :
    Calls Tryz.prog 88 #[.int .u64 x, .int .i64 a, .int .i64 n, .int .u64 v] w fun e w' => e = .returned (.int .u64 (Mb.mixN x (a % 8) n v : Nat)) ∧ w = w' := by
  have H := Lib.hid (mixed_bits x (a % 8) n v hx hn)
  clear hx
  go_enter Tryz.func88, Tryz.ntmps88
  go_wp2_with (first
    | (go_at_call 101; refine (shift_any _ _ (by omega)).mono ?_; rintro e w' ⟨rfl, rfl⟩)
    | (go_at_call 90; refine (mbMask_any _ _ (by omega)).mono ?_; rintro e w' ⟨rfl, rfl⟩))
  go_ret
  exact ⟨ret_num H.out, rfl⟩
end Go.Proofs.YtbfgbnalnjdheaaGreat
namespace Go.Proofs.YtbfgbnalnjdheaaGreat
open Go.RowKit

/-- One call behind another. -/
theorem _root_.Go.RowKit.Below.after {a b c : World} (h : Below a.heap.size a b) (k : Below b.heap.size b c) : Below a.heap.size a c := h.trans (k.mono h.size)

/-- True, and what was there is as it was. -/
def TrueBelow (w : World) (e : Ending) (w' : World) : Prop := e = .returned (.bool true) ∧ Below w.heap.size w w'

/-- A call that answered v, and left alone what was there. -/
def Made (v : Value) (w : World) (e : Ending) (w' : World) : Prop := e = .returned v ∧ Below w.heap.size w w'

theorem below_drew {W W' : World} (h : Below W.drew.heap.size W.drew W') : Below W.heap.size W W' := (Below.refl _ W).drew.after h

theorem below_drew_alloc {w w' : World} {o : Obj} (h : Below (w.drew.alloc o).heap.size (w.drew.alloc o) w') : Below w.heap.size w w' :=
  ((Below.refl w.heap.size w).drew.alloc (Nat.le_refl _) o).trans (h.mono (by simp))

end Go.Proofs.YtbfgbnalnjdheaaGreat
namespace Go.Proofs.YtbfgbnalnjdheaaGreat
open Go.RowKit

namespace Wd
/-- The n lowest bytes of v. -/
def bs (v : Int) (n : Nat) : List Int := (List.range n).map fun i => v / 2 ^ (i * 8) % 256
theorem bs_length (v : Int) (n : Nat) : (bs v n).length = n := by simp [bs]
theorem bs_getD (v : Int) (n i : Nat) (h : i < n) : (bs v n).getD i 0 = v / 2 ^ (i * 8) % 256 := by
  simp [bs, List.getD, h]
end Wd

/-- The slice value v reads as the bytes xs (an empty one may lie anywhere). -/
def BytesAt (w : World) (v : Value) (xs : List Int) : Prop :=
  ∃ A cap, v = .slice A xs.length cap ∧ (0 < xs.length → ∃ b off, A = some ⟨b, off, none⟩ ∧ b < w.heap.size ∧ ∀ i, i < xs.length → w.cell? ⟨b, off + i, none⟩ = some (.int .u8 (xs.getD i 0)))

theorem BytesAt.nil (w : World) : BytesAt w (.slice none 0 0) [] := ⟨none, 0, rfl, fun h => absurd h (by simp)⟩

theorem BytesAt.below {w w' : World} {v : Value} {xs : List Int} (h : BytesAt w v xs) (hb : Below w.heap.size w w') : BytesAt w' v xs := by
  obtain ⟨A, cap, hv, h⟩ := h
  refine ⟨A, cap, hv, fun hp => ?_⟩
  obtain ⟨b, off, h1, h3, h4⟩ := h hp
  exact ⟨b, off, h1, Nat.lt_of_lt_of_le h3 hb.size, fun i hi => (hb.cell (p := ⟨b, off + i, none⟩) h3).trans (h4 i hi)⟩

theorem BytesAt.drew {w : World} {v : Value} {xs : List Int} (h : BytesAt w v xs) : BytesAt w.drew v xs := h

theorem BytesAt.drewN {w : World} {v : Value} {xs : List Int} (h : BytesAt w v xs) (n : Nat) : BytesAt (w.drewN n) v xs := by
  obtain ⟨A, cap, hv, h⟩ := h
  refine ⟨A, cap, hv, fun hp => ?_⟩
  obtain ⟨b, off, h1, h3, h4⟩ := h hp
  exact ⟨b, off, h1, by simpa using h3, fun i hi => by simpa using h4 i hi⟩

theorem BytesAt.conv {w : World} {v : Value} {xs : List Int} (h : BytesAt w v xs) :
    (convert 30 9 v).run Tryz.prog w = .ok (.string (strOfNums xs)) w := by
  obtain ⟨A, cap, rfl, h⟩ := h
  by_cases hp : 0 < xs.length
  · obtain ⟨b, off, rfl, _, h4⟩ := h hp
    exact run_convert_bytes_arg (P := Tryz.prog) w 30 5 Tryz.underlying30 Tryz.underlying5 b off _ cap xs rfl h4 9 Tryz.underlying9
  · have hx : xs = [] := List.eq_nil_of_length_eq_zero (by omega)
    subst hx
    cases A with
    | none =>
      rw [run_convert_bytes_nil (P := Tryz.prog) w 30 5 Tryz.underlying30 Tryz.underlying5 _ cap 9 Tryz.underlying9]
      rfl
    | some a =>
      have hl : (loadCells a 0).run Tryz.prog w = .ok (([] : List Int).map (Value.int .u8)).toArray w := run_loadCells_list (P := Tryz.prog) w a [] (fun j v hj => by simp at hj)
      rw [run_convert_bytes_string (P := Tryz.prog) w 30 9 5 (some a) _ cap Tryz.underlying30 Tryz.underlying5 Tryz.underlying9]
      rw [show ([] : List Int).length = 0 from rfl, run_bytesToString (P := Tryz.prog) w a 0 cap [] hl]
      rfl

theorem BytesAt.of_own {w : World} {base : Nat} {v : Value} {xs : List Int} (h : w.ownsRow base 5 1 v xs.length (xs.map (Value.int .u8))) : BytesAt w v xs := by
  rcases h.2 with ⟨rfl, h0⟩ | ⟨g, cap, cur, rfl, _, hh, hnc, _⟩
  · have hx : xs = [] := List.eq_nil_of_length_eq_zero h0
    subst hx
    exact BytesAt.nil w
  · refine ⟨_, cap, rfl, fun _ => ⟨g, 0, rfl, ?_, fun i hi => ?_⟩⟩
    · rcases Nat.lt_or_ge g w.heap.size with hlt | hge
      · exact hlt
      · rw [Array.getElem?_eq_none hge] at hh; cases hh
    · have hc := h.cells (g := g) rfl i (.int .u8 (xs.getD i 0)) (by simp [List.getElem?_eq_getElem hi, List.getD])
      have e : (⟨g, 0, none⟩ : Addr).add i = ⟨g, 0 + i, none⟩ := by unfold Addr.add; split <;> simp_all
      rw [e] at hc
      exact hc

/-- The slice value v is the call's own, from block 'base' on, and holds the bytes xs. -/
def Owns (base : Nat) (w : World) (v : Value) (xs : List Int) : Prop := w.ownsRow base 5 1 v xs.length (xs.map (Value.int .u8))

theorem Owns.bytes {base : Nat} {w : World} {v : Value} {xs : List Int} (h : Owns base w v xs) : BytesAt w v xs := BytesAt.of_own h

theorem Owns.down {base b' : Nat} {w : World} {v : Value} {xs : List Int} (h : Owns base w v xs) (hb : b' ≤ base) : Owns b' w v xs := by
  obtain ⟨h1, h2⟩ := h
  refine ⟨h1, ?_⟩
  rcases h2 with h2 | ⟨g, cap, cur, hv, hg, r⟩
  · exact .inl h2
  · exact .inr ⟨g, cap, cur, hv, Nat.le_trans hb hg, r⟩

theorem Owns.below {base : Nat} {w w' : World} {v : Value} {xs : List Int} (h : Owns base w v xs) (hb : Below w.heap.size w w') : Owns base w' v xs :=
  World.ownsRow.kept (row := none) h ⟨hb.os, hb.tape, hb.output, hb.size, fun k hk _ => hb.block k hk⟩ (by cases v.ownBlock <;> simp)

theorem Owns.form {base : Nat} {w : World} {v : Value} {xs : List Int} (h : Owns base w v xs) (hn : 0 < xs.length) :
    ∃ g cap, v = .slice (some ⟨g, 0, none⟩) xs.length cap ∧ xs.length ≤ cap ∧ cap ≤ maxLen ∧ base ≤ g ∧ g < w.heap.size ∧ ∀ i, i < xs.length → w.cell? ⟨g, i, none⟩ = some (.int .u8 (xs.getD i 0)) := by
  have hb := h.bytes
  rcases h.2 with ⟨_, h0⟩ | ⟨g, cap, cur, hv, hbase, hh, hnc, hm, _⟩
  · omega
  · obtain ⟨A, cap', hv', hc⟩ := hb
    rw [hv] at hv'
    injection hv' with e1 e2 e3
    subst e1
    obtain ⟨b, off, e, hlt, hc⟩ := hc hn
    injection e with e
    injection e with e5 e6
    subst e5 e6
    refine ⟨g, cap, hv, hnc, hm, hbase, hlt, fun i hi => ?_⟩
    have := hc i hi
    rwa [Nat.zero_add] at this

theorem BytesAt.cut {w : World} {b off n cap : Nat} {xs : List Int} (h : BytesAt w (.slice (some ⟨b, off, none⟩) n cap) xs) (lo m cap' : Nat) (hm : lo + m ≤ xs.length) :
    BytesAt w (.slice (some ⟨b, off + lo, none⟩) m cap') ((xs.drop lo).take m) := by
  have hl : ((xs.drop lo).take m).length = m := by rw [List.length_take, List.length_drop]; omega
  obtain ⟨A, c, hv, h⟩ := h
  injection hv with e1 e2 e3
  subst e1
  refine ⟨some ⟨b, off + lo, none⟩, cap', by rw [hl], fun hp => ?_⟩
  rw [hl] at hp ⊢
  obtain ⟨b', off', e, hlt, hc⟩ := h (by omega)
  injection e with e
  injection e with e5 e6
  subst e5 e6
  refine ⟨b, off + lo, rfl, hlt, fun i hi => ?_⟩
  rw [Nat.add_assoc, hc (lo + i) (by omega)]
  congr 2
  simp [List.getD, hi]

/-- The call made the bytes xs, and left alone what was there. -/
def MadeBytes (xs : List Int) (w : World) (e : Ending) (w' : World) : Prop :=
  ∃ v, e = .returned v ∧ BytesAt w' v xs ∧ Below w.heap.size w w'

theorem infoU8 : (Tryz.prog.info? 5).map (fun i => (i.zero, i.size, i.bytes)) = some (some (.int .u8 0), 1, 1) := by kernel_rfl

/-- Bytes appended to bytes that are the call's own. -/
theorem wpList_app {w : World} {ops : Array Oper} {rest : List Oper} {o : Oper} {a : Act} {Q : Exit → Act → World → Prop} (hgd : o.guard = none) (s x : Operand)
    (ho : o.op = .call { callee := .builtin .append, args := #[s, x], argTypes := #[30, 30] }) (base : Nat) (v y : Value) (xs ys : List Int)
    (hs : a.eval s = v) (hx : a.eval x = y) (hv : Owns base w v xs) (hy : BytesAt w y ys) (hp : 0 < ys.length) (hl : xs.length + ys.length ≤ 1000) (hb : base ≤ w.heap.size)
    (h : ∀ v' w', Owns base w' v' (xs ++ ys) → Below base w w' → (∀ k, k < w.heap.size → v.ownBlock ≠ some k → v'.ownBlock ≠ some k ∧ w'.heap[k]? = w.heap[k]?) → wpList Tryz.prog ops Q rest (a.put o.dst v') w') : wpList Tryz.prog ops Q (o :: rest) a w := by
  obtain ⟨i0, hi, hz0, hz1, hz2⟩ := info_parts infoU8
  obtain ⟨A, cap, rfl, hc⟩ := hy
  obtain ⟨b, off, rfl, hlt, hc⟩ := hc hp
  refine wpList_append_own_at w hgd s x 30 ho base 5 i0 (.int .u8 0) 1 1 Tryz.underlying30 hi hz0 hz1 hz2 rfl (by decide) v xs.length _ hs hv ⟨b, off, none⟩ ys.length cap (ys.map (Value.int .u8)) hx (by simp) ?_ ?_ (by unfold maxLen; omega) (by omega) hb ?_
  · intro j u hj
    rw [List.getElem?_map] at hj
    by_cases hjl : j < ys.length
    · rw [List.getElem?_eq_getElem hjl] at hj
      obtain rfl : Value.int .u8 ys[j] = u := by simpa using hj
      have e : (⟨b, off, none⟩ : Addr).add j = ⟨b, off + j, none⟩ := by unfold Addr.add; split <;> simp_all
      rw [e, hc j hjl]
      simp [List.getD, hjl]
    · rw [List.getElem?_eq_none (by omega)] at hj
      simp at hj
  · intro u hu
    obtain ⟨z, _, rfl⟩ := List.mem_map.1 hu
    rfl
  · intro v' w' h1 h2 _ h4
    have hown : Owns base w' v' (xs ++ ys) := by
      unfold Owns
      rw [List.length_append, List.map_append]
      exact h1
    refine h v' w' hown ((Below.refl base w).grown h2 hb fun k hk => (hv.lt k hk).1) fun k hk hne => ⟨?_, h2.block k hk fun e => hne e.symm⟩
    rcases h4 with h4 | h4 <;> rw [h4]
    · exact hne
    · intro e
      injection e with e
      omega

/-- .. as one step of a region that draws its order. -/
theorem step_app {w : World} {ops : Array Oper} {o : Oper} {a : Act} {K : Act → World → Prop} {Q : Exit → Act → World → Prop} {E : Prop} (hgd : o.guard = none) (s x : Operand)
    (ho : o.op = .call { callee := .builtin .append, args := #[s, x], argTypes := #[30, 30] }) (base : Nat) (v y : Value) (xs ys : List Int)
    (hs : a.eval s = v) (hx : a.eval x = y) (hv : Owns base w v xs) (hy : BytesAt w y ys) (hp : 0 < ys.length) (hl : xs.length + ys.length ≤ 1000) (hb : base ≤ w.heap.size)
    (h : ∀ v' w', Owns base w' v' (xs ++ ys) → Below base w w' → K (a.put o.dst v') w') : if Region.wanted o (yielded ops a.tmps) = true then Oper.wp Tryz.prog o a w K Q else E := by
  have hw : Region.wanted o (yielded ops a.tmps) = true := by simp [Region.wanted, hgd]
  rw [if_pos hw]
  obtain ⟨i0, hi, hz0, hz1, hz2⟩ := info_parts infoU8
  obtain ⟨A, cap, rfl, hc⟩ := hy
  obtain ⟨b, off, rfl, hlt, hc⟩ := hc hp
  refine wp_append_own w s x 30 ho base 5 i0 (.int .u8 0) 1 1 Tryz.underlying30 hi hz0 hz1 hz2 rfl (by decide) v xs.length _ hs hv ⟨b, off, none⟩ ys.length cap (ys.map (Value.int .u8)) hx (by simp) ?_ ?_ (by unfold maxLen; omega) (by omega) hb ?_
  · intro j u hj
    rw [List.getElem?_map] at hj
    by_cases hjl : j < ys.length
    · rw [List.getElem?_eq_getElem hjl] at hj
      obtain rfl : Value.int .u8 ys[j] = u := by simpa using hj
      have e : (⟨b, off, none⟩ : Addr).add j = ⟨b, off + j, none⟩ := by unfold Addr.add; split <;> simp_all
      rw [e, hc j hjl]
      simp [List.getD, hjl]
    · rw [List.getElem?_eq_none (by omega)] at hj
      simp at hj
  · intro u hu
    obtain ⟨z, _, rfl⟩ := List.mem_map.1 hu
    rfl
  · intro v' w' h1 h2 _
    refine h v' w' ?_ ((Below.refl base w).grown h2 hb fun k hk => (hv.lt k hk).1)
    unfold Owns
    rw [List.length_append, List.map_append]
    exact h1

theorem BytesAt.alloc {w : World} {v : Value} {xs : List Int} (h : BytesAt w v xs) (o : Obj) : BytesAt (w.alloc o) v xs := h.below ((Below.refl _ _).alloc (Nat.le_refl _) o)
theorem Owns.alloc {base : Nat} {w : World} {v : Value} {xs : List Int} (h : Owns base w v xs) (o : Obj) : Owns base (w.alloc o) v xs := World.ownsRow.alloc h o
theorem Owns.drew {base : Nat} {w : World} {v : Value} {xs : List Int} (h : Owns base w v xs) : Owns base w.drew v xs := h

/-- Two bytes, written out as a slice. -/
theorem two_made (w : World) (x y : Int) : BytesAt (w.alloc (.cells #[.int .u8 x, .int .u8 y] 5)) (.slice (some ⟨w.heap.size, 0, none⟩) 2 2) [x, y] := by
  refine ⟨_, _, rfl, fun _ => ⟨w.heap.size, 0, rfl, by simp, fun i hi => ?_⟩⟩
  match i, hi with
  | 0, _ => go_simp
  | 1, _ => go_simp

theorem two_made_at (w : World) (x y : Int) (H : Nat) (hH : w.heap.size = H) : BytesAt (w.alloc (.cells #[.int .u8 x, .int .u8 y] 5)) (.slice (some ⟨H, 0, none⟩) 2 2) [x, y] := by
  subst hH; exact two_made w x y

theorem bs_snoc (v : Int) (k : Nat) : Wd.bs v (k + 1) = Wd.bs v k ++ [v / 2 ^ (k * 8) % 256] := by
  unfold Wd.bs
  rw [List.range_succ, List.map_append]
  rfl

end Go.Proofs.YtbfgbnalnjdheaaGreat
namespace Go.Proofs.YtbfgbnalnjdheaaGreat
open Go.RowKit

set_option maxHeartbeats 400000 in
theorem bytes_no (v n : Int) (w : World) (h : n < 0 ∨ 8 < n) :
    Calls Tryz.prog 56 #[.int .u64 v, .int .i64 n] w fun e w' => e = .returned (.slice none 0 0) ∧ w = w' := by
  rcases h with h | h
  · go_enter Tryz.func56, Tryz.ntmps56
    go_wp2
    go_ret
    exact ⟨rfl, rfl⟩
  · have h' : 0 ≤ n := by omega
    go_enter Tryz.func56, Tryz.ntmps56
    go_wp2
    go_ret
    exact ⟨rfl, rfl⟩

set_option maxHeartbeats 400000 in
theorem bytes_yes (v : Int) (n : Nat) (w : World) (hn : n ≤ 8) :
    Calls Tryz.prog 56 #[.int .u64 v, .int .i64 n] w (MadeBytes (Wd.bs v n) w) := by
  have hmk := fun W => run_make_row' (P := Tryz.prog) 30 5 (.int .u8 0) 1 Tryz.underlying30 infoU8 rfl .i64 .i64 n (by omega) (by omega) W
  go_enter Tryz.func56, Tryz.ntmps56
  go_wp2
  go_loopw [6, 16] (fun _ i wr => ∃ k : Nat, k ≤ n ∧ i = .int .i64 k ∧ Below w.heap.size w wr ∧ wr.rowIs w.heap.size 5 n (fun j => if j < k then .int .u8 (v / 2 ^ (j * 8) % 256) else .int .u8 0)) (fun _ i _ => n - (intOf i).toNat)
  case atStart =>
    refine ⟨0, by omega, rfl, (Below.refl _ _).alloc (Nat.le_refl _) _, ?_⟩
    exact (World.rowIs_made w (.int .u8 0) n 5).congr (fun j _ => by simp)
  case round =>
    obtain ⟨k, hk, rfl, hbel, hrow⟩ := hrel
    by_cases hlt : k < n
    · have hcell := hrow.cell hlt
      have hfr := hrow.frozen k
      go_wp2
      go_roundw
      case rel =>
        refine ⟨k + 1, by omega, by go_num, hbel.setCell (Nat.le_refl _) _, (hrow.set k _).congr fun j _ => ?_⟩
        by_cases hj : j = k
        · subst hj; simp
        · have : (j < k + 1) = (j < k) := by apply propext; omega
          simp only [hj, this, if_false]
      case measure => simp [intOf]; omega
    · have hkn : k = n := by omega
      have HK := Lib.hid hkn
      clear hkn
      go_wp2
      go_ret
      have hkn := HK.out
      exact ⟨_, rfl, ⟨some ⟨w.heap.size, 0, none⟩, n, by rw [Wd.bs_length]; rfl, fun _ => ⟨w.heap.size, 0, rfl, hrow.lt, fun i hi => by
        rw [Wd.bs_length] at hi
        rw [Nat.zero_add, hrow.cell hi, if_pos (by omega), Wd.bs_getD v n i hi]⟩⟩, hbel⟩

end Go.Proofs.YtbfgbnalnjdheaaGreat
namespace Go.Proofs.YtbfgbnalnjdheaaGreat
open Go.RowKit

/-- But for the blocks of S the world w' is as w was; the streams are as they were; no block has gone. -/
structure Touch (S : Nat → Prop) (w w' : World) : Prop where
  os : w'.os = w.os
  tape : w'.tape = w.tape
  output : w'.output = w.output
  size : w.heap.size ≤ w'.heap.size
  block : ∀ k, k < w.heap.size → ¬ S k → w'.heap[k]? = w.heap[k]?

namespace Touch
variable {S : Nat → Prop} {a b c w w' : World}
theorem refl (S : Nat → Prop) (w : World) : Touch S w w := ⟨rfl, rfl, rfl, Nat.le_refl _, fun _ _ _ => rfl⟩
theorem trans (h : Touch S a b) (k : Touch S b c) : Touch S a c :=
  ⟨k.os.trans h.os, k.tape.trans h.tape, k.output.trans h.output, Nat.le_trans h.size k.size, fun i hi hn => (k.block i (Nat.lt_of_lt_of_le hi h.size) hn).trans (h.block i hi hn)⟩
theorem mono {T : Nat → Prop} (h : Touch S a b) (hST : ∀ k, S k → T k) : Touch T a b := ⟨h.os, h.tape, h.output, h.size, fun k hk hn => h.block k hk fun hs => hn (hST k hs)⟩
theorem of_below (h : Below a.heap.size a b) : Touch S a b := ⟨h.os, h.tape, h.output, h.size, fun k hk _ => h.block k hk⟩
theorem drew (h : Touch S a b) : Touch S a b.drew := ⟨h.os, h.tape, h.output, h.size, h.block⟩
theorem drewN (h : Touch S a b) (n : Nat) : Touch S a (b.drewN n) := by
  refine h.trans (of_below ?_)
  exact ⟨rfl, rfl, rfl, Nat.le_refl _, fun _ _ => rfl⟩
theorem alloc (h : Touch S a w) (o : Obj) : Touch S a (w.alloc o) := h.trans (of_below ((Below.refl _ _).alloc (Nat.le_refl _) o))
theorem setCell (h : Touch S a w) {p : Addr} (hp : S p.block) (u : Value) : Touch S a (w.setCell p u) :=
  h.trans ⟨rfl, rfl, rfl, by simp [World.setCell], fun k _ hn => Below.heap_setCell _ _ _ _ fun e => hn (e ▸ hp)⟩
/-- A store into a block that is the call's own. -/
theorem setNew (h : Touch S a w) {p : Addr} (hp : a.heap.size ≤ p.block) (u : Value) : Touch S a (w.setCell p u) :=
  ⟨h.os, h.tape, h.output, by simpa [World.setCell] using h.size, fun k hk hn => (Below.heap_setCell _ _ _ _ (by omega)).trans (h.block k hk hn)⟩
theorem cell (h : Touch S w w') {p : Addr} (hp : p.block < w.heap.size) (hn : ¬ S p.block) : w'.cell? p = w.cell? p := World.cell?_of_block (w := w) (h.block p.block hp hn)
theorem frozen (h : Touch S w w') {p : Addr} (hp : p.block < w.heap.size) (hn : ¬ S p.block) : w'.frozen? p = w.frozen? p := World.frozen?_of_block (w := w) (h.block p.block hp hn)
/-- What was turned lies above B: below B nothing was. -/
theorem below {B : Nat} {W : World} (hW : Below B W a) (h : Touch S a b) (hB : B ≤ a.heap.size) (hS : ∀ k, S k → B ≤ k) : Below B W b :=
  hW.trans ⟨h.os, h.tape, h.output, h.size, fun k hk => h.block k (by omega) fun hs => by have := hS k hs; omega⟩
end Touch

theorem drewN_below (w : World) (n : Nat) : Below w.heap.size w (w.drewN n) := ⟨rfl, rfl, rfl, Nat.le_refl _, fun _ _ => rfl⟩

/-- A buffer stands at block g, its words in block h: so many of them, made of the bytes m; it counted c accesses. -/
structure Buf (w : World) (g h : Nat) (m : Nat → Nat) (n : Nat) (c : Int) : Prop where
  head : w.heap[g]? = some (.cells #[.slice (some ⟨h, 0, none⟩) n n, .int .i64 c] 74 (0, 0))
  words : w.rowIs h 138 n (fun j => .int .u64 (Mb.wd m j : Nat))
  bytes : Mb.IsB m
  few : n ≤ 16384

/-- The blocks of a buffer. -/
def Two (g h : Nat) (k : Nat) : Prop := k = g ∨ k = h

namespace Buf
variable {w w' : World} {g h n : Nat} {m : Nat → Nat} {c : Int}
theorem ne (b : Buf w g h m n c) : g ≠ h := by
  intro e
  subst e
  obtain ⟨cs, hb, _, _⟩ := b.words
  have := b.head.symm.trans hb
  simp at this
theorem g_lt (b : Buf w g h m n c) : g < w.heap.size := (Array.getElem?_eq_some_iff.1 b.head).1
theorem h_lt (b : Buf w g h m n c) : h < w.heap.size := b.words.lt
theorem slice (b : Buf w g h m n c) : w.cell? ⟨g, 0, none⟩ = some (.slice (some ⟨h, 0, none⟩) n n) := by simp [World.cell?, b.head]
theorem count (b : Buf w g h m n c) : w.cell? ⟨g, 1, none⟩ = some (.int .i64 c) := by simp [World.cell?, b.head]
theorem count_free (b : Buf w g h m n c) : w.frozen? ⟨g, 1, none⟩ = false := by simp [World.frozen?, b.head]
theorem word (b : Buf w g h m n c) {j : Nat} (hj : j < n) : w.cell? ⟨h, j, none⟩ = some (.int .u64 (Mb.wd m j : Nat)) := b.words.cell hj
theorem word_free (b : Buf w g h m n c) (j : Nat) : w.frozen? ⟨h, j, none⟩ = false := b.words.frozen j
theorem of_blocks (b : Buf w g h m n c) (hg : w'.heap[g]? = w.heap[g]?) (hh : w'.heap[h]? = w.heap[h]?) : Buf w' g h m n c :=
  ⟨hg.trans b.head, b.words.of_block hh, b.bytes, b.few⟩
theorem below (b : Buf w g h m n c) (hb : Below w.heap.size w w') : Buf w' g h m n c := b.of_blocks (hb.block _ b.g_lt) (hb.block _ b.h_lt)
theorem touch {S : Nat → Prop} (b : Buf w g h m n c) (hb : Touch S w w') (hg : ¬ S g) (hh : ¬ S h) : Buf w' g h m n c := b.of_blocks (hb.block _ b.g_lt hg) (hb.block _ b.h_lt hh)
theorem drew (b : Buf w g h m n c) : Buf w.drew g h m n c := ⟨b.head, b.words, b.bytes, b.few⟩
theorem drewN (b : Buf w g h m n c) (k : Nat) : Buf (w.drewN k) g h m n c := b.below (drewN_below w k)
theorem alloc (b : Buf w g h m n c) (o : Obj) : Buf (w.alloc o) g h m n c := b.below ((Below.refl _ _).alloc (Nat.le_refl _) o)
theorem setOther (b : Buf w g h m n c) {a : Addr} (hg : g ≠ a.block) (hh : h ≠ a.block) (u : Value) : Buf (w.setCell a u) g h m n c :=
  b.of_blocks (Below.heap_setCell _ _ _ _ hg) (Below.heap_setCell _ _ _ _ hh)
/-- One more access is counted. -/
theorem setCount (b : Buf w g h m n c) (d : Int) : Buf (w.setCell ⟨g, 1, none⟩ (.int .i64 d)) g h m n d := by
  refine ⟨?_, b.words.setOther b.ne.symm _, b.bytes, b.few⟩
  simp [World.setCell, Array.getElem?_modify, b.head]
/-- A word is stored: the bytes of a place of its are others. -/
theorem setWord (b : Buf w g h m n c) (a k v : Nat) (hk : a % 8 + k ≤ 8) : Buf (w.setCell ⟨h, a / 8, none⟩ (.int .u64 (Mb.wd (Mb.put m a k v) (a / 8) : Nat))) g h (Mb.put m a k v) n c := by
  refine ⟨?_, (b.words.set (a / 8) _).congr fun j _ => ?_, Mb.put_isB b.bytes _ _ _, b.few⟩
  · rw [Below.heap_setCell _ _ _ _ b.ne]
    exact b.head
  · by_cases e : j = a / 8
    · subst e
      simp
    · rw [if_neg e, Mb.wd_put_other m a k v j hk e]
end Buf

set_option maxHeartbeats 400000 in
theorem load64 (b o : Nat) (x : Int) (w : World) (hc : w.cell? ⟨b, o, none⟩ = some (.int .u64 x)) :
    Calls Tryz.prog 83 #[.pointer (some ⟨b, o, none⟩)] w fun e w' => e = .returned (.int .u64 x) ∧ w = w' := by
  have hl := run_call_load (P := Tryz.prog) Tryz.func102 (by kernel_rfl) (by kernel_rfl) (by kernel_rfl) .u64 (by kernel_rfl) hc
  go_enter Tryz.func83, Tryz.ntmps83
  go_wp2
  go_ret
  exact ⟨rfl, rfl⟩

set_option maxHeartbeats 400000 in
theorem store64 (b o : Nat) (x : Int) (u : Value) (w : World) (hc : w.cell? ⟨b, o, none⟩ = some u) (hz : w.frozen? ⟨b, o, none⟩ = false) :
    Calls Tryz.prog 86 #[.pointer (some ⟨b, o, none⟩), .int .u64 x] w fun e w' => e = .returned (.tuple #[]) ∧ w.setCell ⟨b, o, none⟩ (.int .u64 x) = w' := by
  have hl := run_call_store (P := Tryz.prog) Tryz.func103 (by kernel_rfl) (by kernel_rfl) (by kernel_rfl) (by kernel_rfl) (k := .u64) (y := x) hc hz
  go_enter Tryz.func86, Tryz.ntmps86
  go_wp2
  go_end0
  exact ⟨rfl, rfl⟩

set_option maxHeartbeats 400000 in
theorem cas64 (b o : Nat) (x y : Int) (w : World) (hc : w.cell? ⟨b, o, none⟩ = some (.int .u64 x)) (hz : w.frozen? ⟨b, o, none⟩ = false) :
    Calls Tryz.prog 87 #[.pointer (some ⟨b, o, none⟩), .int .u64 x, .int .u64 y] w fun e w' => e = .returned (.bool true) ∧ w.setCell ⟨b, o, none⟩ (.int .u64 y) = w' := by
  have hl := run_call_cas_hit (P := Tryz.prog) Tryz.func104 (by kernel_rfl) (by kernel_rfl) (by kernel_rfl) .u64 (by kernel_rfl) (y := y) hc hz
  go_enter Tryz.func87, Tryz.ntmps87
  go_wp2
  go_ret
  exact ⟨rfl, rfl⟩

set_option maxHeartbeats 400000 in
theorem add64 (b o : Nat) (x y : Int) (w : World) (hc : w.cell? ⟨b, o, none⟩ = some (.int .u64 x)) (hz : w.frozen? ⟨b, o, none⟩ = false) :
    Calls Tryz.prog 69 #[.pointer (some ⟨b, o, none⟩), .int .u64 y] w fun e w' => e = .returned (.int .u64 (IntKind.u64.wrap (x + y))) ∧ w.setCell ⟨b, o, none⟩ (.int .u64 (IntKind.u64.wrap (x + y))) = w' := by
  have hl := run_call_add (P := Tryz.prog) Tryz.func89 (by kernel_rfl) (by kernel_rfl) (by kernel_rfl) .u64 (by kernel_rfl) (x := x) (y := y) (s := IntKind.u64.wrap (x + y)) hc hz rfl
  go_enter Tryz.func69, Tryz.ntmps69
  go_wp2
  go_ret
  exact ⟨rfl, rfl⟩

/-- The next number, round. -/
def nxt (c : Int) : Int := wrap64 (c + 1)

set_option maxHeartbeats 400000 in
theorem addOne (b o : Nat) (x : Int) (w : World) (hc : w.cell? ⟨b, o, none⟩ = some (.int .i64 x)) (hz : w.frozen? ⟨b, o, none⟩ = false) :
    Calls Tryz.prog 40 #[.pointer (some ⟨b, o, none⟩), .int .i64 1] w fun e w' => e = .returned (.int .i64 (nxt x)) ∧ w.setCell ⟨b, o, none⟩ (.int .i64 (nxt x)) = w' := by
  have e : IntKind.i64.wrap (x + 1) = nxt x := by rw [IntKind.wrap_i64]; unfold nxt wrap64; omega
  have hs : (Op.intArith .add .i64 x 1).run Tryz.prog w = .ok (.int .i64 (nxt x)) w := by rw [← e]; rfl
  have hl := run_call_add (P := Tryz.prog) Tryz.func67 (by kernel_rfl) (by kernel_rfl) (by kernel_rfl) .i64 (by kernel_rfl) (x := x) (y := 1) (s := nxt x) hc hz hs
  clear e hs
  go_enter Tryz.func40, Tryz.ntmps40
  go_wp2
  go_ret
  exact ⟨rfl, rfl⟩

end Go.Proofs.YtbfgbnalnjdheaaGreat
namespace Go.Proofs.YtbfgbnalnjdheaaGreat
open Go.RowKit

/-- A call that answered a number, and drew at most. -/
def Told (k : IntKind) (x : Int) (w : World) (e : Ending) (w' : World) : Prop := e = .returned (.int k x) ∧ ∃ j, w' = w.drewN j

set_option maxHeartbeats 400000 in
theorem load_any {w : World} {g h n : Nat} {m : Nat → Nat} {c : Int} (B : Buf w g h m n c) (a k : Nat) (hk : a % 8 + k ≤ 8) (ha : a / 8 < n) :
    Calls Tryz.prog 57 #[.pointer (some ⟨g, 0, none⟩), .int .i64 a, .int .i64 k] w (Told .u64 (Mb.nm m a k : Nat) w) := by
  have hs := B.slice
  have hw := B.word ha
  have hx := Mb.wd_lt B.bytes (a / 8)
  have hf := B.few
  have HP := Lib.hid (Mb.part_nm B.bytes a k hk)
  have HB := Lib.hid B
  clear B
  go_enter Tryz.func57, Tryz.ntmps57
  go_wp2_with (first
    | (go_at_call 83; refine (load64 _ _ _ _ hw).mono ?_; rintro e w' ⟨rfl, rfl⟩)
    | (go_at_call 82; refine (part_any _ _ _ _ hx (by omega) (by omega)).mono ?_; rintro e w' ⟨rfl, j, rfl⟩; rw [HP.out]))
  go_ret
  exact ⟨rfl, _, rfl⟩

/-- What became of a world in which n bytes at a were stored: the buffer's bytes are others, all else is as it was. -/
def Stored (g h : Nat) (m : Nat → Nat) (n : Nat) (c : Int) (w w' : World) : Prop := Buf w' g h m n c ∧ Touch (Two g h) w w'

theorem Buf.stored {w : World} {g h n : Nat} {m : Nat → Nat} {c : Int} (B : Buf w g h m n c) (a k v : Nat) (hk : a % 8 + k ≤ 8) :
    Stored g h (Mb.put m a k v) n c w (w.setCell ⟨h, a / 8, none⟩ (.int .u64 (Mb.wd (Mb.put m a k v) (a / 8) : Nat))) :=
  ⟨B.setWord a k v hk, (Touch.refl _ w).setCell (.inr rfl) _⟩

set_option maxHeartbeats 400000 in
theorem store_whole {w : World} {g h n : Nat} {m : Nat → Nat} {c : Int} (B : Buf w g h m n c) (a v : Nat) (hk : a % 8 = 0) (ha : a / 8 < n) (hv : v < 18446744073709551616) :
    Calls Tryz.prog 68 #[.pointer (some ⟨g, 0, none⟩), .int .i64 a, .int .i64 8, .int .u64 v] w fun e w' => e = .returned (.tuple #[]) ∧ Stored g h (Mb.put m a 8 v) n c w w' := by
  have hs := B.slice
  have hw := B.word ha
  have hz := B.word_free (a / 8)
  have hf := B.few
  have HS := Lib.hid (B.stored a 8 v (by omega))
  have HP := Lib.hid (Mb.wd_put m a v hk hv)
  clear B hv hk
  go_enter Tryz.func68, Tryz.ntmps68
  go_wp2_with (first
    | (go_at_call 86; refine (store64 _ _ _ _ _ hw hz).mono ?_; rintro e w' ⟨rfl, rfl⟩))
  refine bodyPost_ret (results_none rfl _ _ _) rfl ⟨rfl, ?_⟩
  have hS := HS.out
  rw [HP.out] at hS
  exact hS

set_option maxHeartbeats 400000 in
theorem store_part {w : World} {g h n : Nat} {m : Nat → Nat} {c : Int} (B : Buf w g h m n c) (a k v : Nat) (hk8 : k < 8) (hk : a % 8 + k ≤ 8) (ha : a / 8 < n) :
    Calls Tryz.prog 68 #[.pointer (some ⟨g, 0, none⟩), .int .i64 a, .int .i64 k, .int .u64 v] w fun e w' => e = .returned (.tuple #[]) ∧ Stored g h (Mb.put m a k v) n c w w' := by
  have hs := B.slice
  have hw := B.word ha
  have hz := B.word_free (a / 8)
  have hf := B.few
  have hx := Mb.wd_lt B.bytes (a / 8)
  have HS := Lib.hid (B.stored a k v (by omega))
  have HP := Lib.hid (Mb.mix_wd B.bytes a k v hk)
  clear B
  go_enter Tryz.func68, Tryz.ntmps68
  go_wp2
  refine wp_loop_rounds 1 ?_
  rw [rounds_succ]
  go_wp2_with (first
    | (go_at_call 83; refine (load64 _ _ _ _ hw).mono ?_; rintro e w' ⟨rfl, rfl⟩)
    | (go_at_call 88; refine (mixed_any _ _ _ _ _ hx (by omega) hk).mono ?_; rintro e w' ⟨rfl, rfl⟩; rw [HP.out])
    | (go_at_call 87; refine (cas64 _ _ _ _ _ hw hz).mono ?_; rintro e w' ⟨rfl, rfl⟩))
  refine bodyPost_ret (results_none rfl _ _ _) rfl ⟨rfl, ?_⟩
  exact HS.out

/-- A store of n bytes, in whichever way. -/
theorem store_any {w : World} {g h n : Nat} {m : Nat → Nat} {c : Int} (B : Buf w g h m n c) (a k v : Nat) (hk : a % 8 + k ≤ 8) (ha : a / 8 < n) (hv : v < 18446744073709551616) :
    Calls Tryz.prog 68 #[.pointer (some ⟨g, 0, none⟩), .int .i64 a, .int .i64 k, .int .u64 v] w fun e w' => e = .returned (.tuple #[]) ∧ Stored g h (Mb.put m a k v) n c w w' := by
  by_cases h8 : k = 8
  · subst h8
    exact store_whole B a v (by omega) ha hv
  · exact store_part B a k v (by omega) hk ha
end Go.Proofs.YtbfgbnalnjdheaaGreat
namespace Go.Proofs.YtbfgbnalnjdheaaGreat
open Go.RowKit

namespace Wd
/-- The number whose lowest byte stands first. -/
def num : List Int → Int
  | [] => 0
  | b :: r => b + 256 * num r
def Bytes8 (xs : List Int) : Prop := ∀ x, x ∈ xs → 0 ≤ x ∧ x ≤ 255

theorem Bytes8.at_ {xs : List Int} (h : Bytes8 xs) {i : Nat} (hi : i < xs.length) : 0 ≤ xs.getD i 0 ∧ xs.getD i 0 ≤ 255 := by
  have : xs.getD i 0 = xs[i] := by simp [List.getD, hi]
  rw [this]
  exact h _ (List.getElem_mem hi)

theorem num_append (l : List Int) (b : Int) : num (l ++ [b]) = num l + b * 2 ^ (l.length * 8) := by
  induction l with
  | nil => simp [num]
  | cons x r ih =>
    have e : ((2 : Int) ^ ((r.length + 1) * 8)) = 256 * 2 ^ (r.length * 8) := by
      rw [Nat.add_mul, Int.pow_add, Int.mul_comm]; rfl
    show x + 256 * num (r ++ [b]) = x + 256 * num r + b * 2 ^ ((r.length + 1) * 8)
    rw [ih, e, Int.mul_add, Int.mul_left_comm b 256, Int.add_assoc]

theorem num_bounds (l : List Int) (h : Bytes8 l) : 0 ≤ num l ∧ num l + 1 ≤ 2 ^ (l.length * 8) := by
  induction l with
  | nil => exact ⟨by decide, by decide⟩
  | cons x r ih =>
    have hx := h x (List.mem_cons_self ..)
    have hr := ih (fun y hy => h y (List.mem_cons_of_mem _ hy))
    have e : ((2 : Int) ^ ((r.length + 1) * 8)) = 256 * 2 ^ (r.length * 8) := by
      rw [Nat.add_mul, Int.pow_add, Int.mul_comm]; rfl
    show 0 ≤ x + 256 * num r ∧ x + 256 * num r + 1 ≤ 2 ^ ((r.length + 1) * 8)
    rw [e]
    omega

theorem take_snoc (xs : List Int) (k : Nat) (h : k < xs.length) : xs.take (k + 1) = xs.take k ++ [xs.getD k 0] := by
  rw [List.take_succ_eq_append_getElem h]
  simp [List.getD, h]

theorem take_bytes {xs : List Int} (h : Bytes8 xs) (k : Nat) : Bytes8 (xs.take k) := fun x hx => h x (List.mem_of_mem_take hx)

theorem drop_bytes {xs : List Int} (h : Bytes8 xs) (k : Nat) : Bytes8 (xs.drop k) := fun x hx => h x (List.mem_of_mem_drop hx)

theorem num_small (l : List Int) (h : Bytes8 l) (hl : l.length ≤ 8) : num l ≤ 18446744073709551615 := by
  have h1 := (num_bounds l h).2
  have h2 : 2 ^ (l.length * 8) ≤ 2 ^ 64 := Nat.pow_le_pow_right (by decide) (by omega)
  have h3 : ((2 : Int) ^ (l.length * 8)) = ((2 ^ (l.length * 8) : Nat) : Int) := by simp
  omega

theorem wrap_next (x b : Int) (hx : 0 ≤ x) (hb : 0 ≤ b) (hb1 : b ≤ 255) (h : b + 256 * x ≤ 18446744073709551615) :
    IntKind.u64.wrap (IntKind.u64.wrap (x * 256) + IntKind.u64.wrap b) = b + 256 * x := by
  rw [IntKind.wrap_u64, IntKind.wrap_u64, IntKind.wrap_u64]
  omega

theorem drop_num (xs : List Int) (k : Nat) (h : k < xs.length) : num (xs.drop k) = xs.getD k 0 + 256 * num (xs.drop (k + 1)) := by
  rw [List.drop_eq_getElem_cons h]
  simp [num, List.getD, h]

/-- The next byte laid over the number so far. -/
theorem or_step (x b : Int) (k : Nat) (hk : k < 8) (hx : 0 ≤ x) (hx1 : x + 1 ≤ 2 ^ (k * 8)) (hb : 0 ≤ b) (hb1 : b ≤ 255) :
    b * 2 ^ (k * 8) ≤ 18446744073709551615 ∧ 0 ≤ b * 2 ^ (k * 8) ∧ bits .or .u64 x (b * 2 ^ (k * 8)) = x + b * 2 ^ (k * 8) := by
  have hp : 2 ^ (k * 8) ≤ 2 ^ 56 := Nat.pow_le_pow_right (by decide) (by omega)
  have hpos : 0 < 2 ^ (k * 8) := Nat.two_pow_pos _
  obtain ⟨a, rfl⟩ := Int.eq_ofNat_of_zero_le hx
  obtain ⟨c, rfl⟩ := Int.eq_ofNat_of_zero_le hb
  have e : (c : Int) * 2 ^ (k * 8) = ((2 ^ (k * 8) * c : Nat) : Int) := by rw [Int.natCast_mul, Int.mul_comm]; simp
  have hle : 2 ^ (k * 8) * c ≤ 2 ^ 56 * 255 := Nat.mul_le_mul hp (by omega)
  have ha : a < 2 ^ (k * 8) := by
    have : ((a : Int) + 1) ≤ ((2 ^ (k * 8) : Nat) : Int) := by simpa using hx1
    omega
  rw [e]
  refine ⟨by omega, by omega, ?_⟩
  rw [u64_or_nat a _ (by omega) (by omega), Nat.or_comm, ← Nat.two_pow_add_eq_or_of_lt ha]
  omega
theorem wrap_shl (b : Int) (k : Nat) (hb : 0 ≤ b) (hb1 : b ≤ 255) (h0 : 0 ≤ b * 2 ^ (k * 8)) (h1 : b * 2 ^ (k * 8) ≤ 18446744073709551615) :
    IntKind.u64.wrap (IntKind.u64.wrap b * 2 ^ (k * 8)) = b * 2 ^ (k * 8) := by
  rw [IntKind.wrap_u64, IntKind.wrap_u64, Int.emod_eq_of_lt hb (by omega)]
  exact Int.emod_eq_of_lt h0 (by omega)
end Wd

end Go.Proofs.YtbfgbnalnjdheaaGreat
namespace Go.Proofs.YtbfgbnalnjdheaaGreat
open Go.RowKit

set_option maxHeartbeats 400000 in
theorem number_zero (A : Option Addr) (cap : Nat) (w : World) :
    Calls Tryz.prog 91 #[.slice A 0 cap] w fun e w' => e = .returned (.int .u64 0) ∧ w = w' := by
  go_enter Tryz.func91, Tryz.ntmps91
  go_wp2
  refine wp_loop_rounds 1 ?_
  rw [rounds_succ]
  go_wp2
  go_ret
  exact ⟨rfl, rfl⟩

set_option maxHeartbeats 400000 in
theorem number_short (b off cap : Nat) (xs : List Int) (w : World) (h8 : Wd.Bytes8 xs) (hm : xs.length ≤ 8)
    (hc : ∀ i, i < xs.length → w.cell? ⟨b, off + i, none⟩ = some (.int .u8 (xs.getD i 0))) :
    Calls Tryz.prog 91 #[.slice (some ⟨b, off, none⟩) xs.length cap] w fun e w' => e = .returned (.int .u64 (Wd.num (xs.take 8))) ∧ w = w' := by
  go_enter Tryz.func91, Tryz.ntmps91
  go_wp2
  go_loop [3, 8] (fun v i => ∃ k : Nat, k ≤ xs.length ∧ i = .int .i64 k ∧ v = .int .u64 (Wd.num (xs.take k))) (fun _ i => xs.length - (intOf i).toNat)
  case atStart => exact ⟨0, by omega, rfl, rfl⟩
  case round =>
    obtain ⟨k, hk, rfl, rfl⟩ := hrel
    by_cases hlt : k < xs.length
    · have hcell := hc k (by omega)
      have hb := h8.at_ (show k < xs.length by omega)
      obtain ⟨hb0, hb1⟩ := hb
      have hl : (xs.take k).length = k := by rw [List.length_take]; omega
      have hn := Wd.num_bounds _ (Wd.take_bytes h8 k)
      rw [hl] at hn
      obtain ⟨ho1, ho2, ho3⟩ := Wd.or_step _ _ k (by omega) hn.1 hn.2 hb0 hb1
      have hstep : Wd.num (xs.take (k + 1)) = Wd.num (xs.take k) + xs.getD k 0 * 2 ^ (k * 8) := by
        rw [Wd.take_snoc xs k (by omega), Wd.num_append, hl]
      have H1 := Lib.hid ho3
      have H2 := Lib.hid hstep
      obtain ⟨hn0, hn1⟩ := hn
      have HN := Lib.hid hn1
      have H3 := Lib.hid ho1
      have H4 := Lib.hid ho2
      clear ho3 hstep hl hn1 ho1 ho2
      have hxl : k < xs.length := by omega
      have H5 := Lib.hid h8
      have H6 := Lib.hid hc
      clear h8 hc
      go_wp2
      go_round
      case rel =>
        refine ⟨k + 1, by omega, by go_num, ?_⟩
        rw [H2.out, ← H1.out]
        have e1 : xs.getD k 0 = xs[k] := by simp [List.getD, hxl]
        have e2 := Wd.wrap_shl (xs.getD k 0) k hb0 hb1 H4.out H3.out
        rw [e1] at e2 ⊢
        rw [e2]
      case measure => simp [intOf]; omega
    · have hkn : Wd.num (xs.take 8) = Wd.num (xs.take k) := by
        rw [List.take_of_length_le (show xs.length ≤ 8 by omega), List.take_of_length_le (show xs.length ≤ k by omega)]
      have HK := Lib.hid hkn
      clear hkn
      go_wp2
      go_ret
      exact ⟨by rw [HK.out]; rfl, rfl⟩

set_option maxHeartbeats 400000 in
theorem number_long (b off cap : Nat) (xs : List Int) (w : World) (h8 : Wd.Bytes8 xs) (hm : 8 < xs.length)
    (hc : ∀ i, i < xs.length → w.cell? ⟨b, off + i, none⟩ = some (.int .u8 (xs.getD i 0))) :
    Calls Tryz.prog 91 #[.slice (some ⟨b, off, none⟩) xs.length cap] w fun e w' => e = .returned (.int .u64 (Wd.num (xs.take 8))) ∧ w = w' := by
  go_enter Tryz.func91, Tryz.ntmps91
  go_wp2
  go_loop [3, 8] (fun v i => ∃ k : Nat, k ≤ 8 ∧ i = .int .i64 k ∧ v = .int .u64 (Wd.num (xs.take k))) (fun _ i => 8 - (intOf i).toNat)
  case atStart => exact ⟨0, by omega, rfl, rfl⟩
  case round =>
    obtain ⟨k, hk, rfl, rfl⟩ := hrel
    by_cases hlt : k < 8
    · have hcell := hc k (by omega)
      have hb := h8.at_ (show k < xs.length by omega)
      obtain ⟨hb0, hb1⟩ := hb
      have hl : (xs.take k).length = k := by rw [List.length_take]; omega
      have hn := Wd.num_bounds _ (Wd.take_bytes h8 k)
      rw [hl] at hn
      obtain ⟨ho1, ho2, ho3⟩ := Wd.or_step _ _ k (by omega) hn.1 hn.2 hb0 hb1
      have hstep : Wd.num (xs.take (k + 1)) = Wd.num (xs.take k) + xs.getD k 0 * 2 ^ (k * 8) := by
        rw [Wd.take_snoc xs k (by omega), Wd.num_append, hl]
      have H1 := Lib.hid ho3
      have H2 := Lib.hid hstep
      obtain ⟨hn0, hn1⟩ := hn
      have HN := Lib.hid hn1
      have H3 := Lib.hid ho1
      have H4 := Lib.hid ho2
      clear ho3 hstep hl hn1 ho1 ho2
      have hxl : k < xs.length := by omega
      have H5 := Lib.hid h8
      have H6 := Lib.hid hc
      clear h8 hc
      go_wp2
      go_round
      case rel =>
        refine ⟨k + 1, by omega, by go_num, ?_⟩
        rw [H2.out, ← H1.out]
        have e1 : xs.getD k 0 = xs[k] := by simp [List.getD, hxl]
        have e2 := Wd.wrap_shl (xs.getD k 0) k hb0 hb1 H4.out H3.out
        rw [e1] at e2 ⊢
        rw [e2]
      case measure => simp [intOf]; omega
    · have hkn : Wd.num (xs.take 8) = Wd.num (xs.take k) := by
        rw [show k = 8 by omega]
      have HK := Lib.hid hkn
      clear hkn
      go_wp2
      go_ret
      exact ⟨by rw [HK.out]; rfl, rfl⟩

/-- Number, over whatever slice that reads as bytes. -/
theorem number_any (v : Value) (xs : List Int) (w : World) (h8 : Wd.Bytes8 xs) (h : BytesAt w v xs) :
    Calls Tryz.prog 91 #[v] w fun e w' => e = .returned (.int .u64 (Wd.num (xs.take 8))) ∧ w = w' := by
  obtain ⟨A, cap, rfl, h⟩ := h
  by_cases hp : 0 < xs.length
  · obtain ⟨b, off, rfl, _, hc⟩ := h hp
    by_cases hl : xs.length ≤ 8
    · exact number_short b off cap xs w h8 hl hc
    · exact number_long b off cap xs w h8 (by omega) hc
  · have hx : xs = [] := List.eq_nil_of_length_eq_zero (by omega)
    subst hx
    exact number_zero A cap w

end Go.Proofs.YtbfgbnalnjdheaaGreat
namespace Go.Proofs.YtbfgbnalnjdheaaGreat
open Go.RowKit

theorem ownsRow_below {w w' : World} {base : Nat} {e : TypeId} {size n : Nat} {v : Value} {xs : List Value} (h : w.ownsRow base e size v n xs) (hb : Below w.heap.size w w') : w'.ownsRow base e size v n xs := by
  obtain ⟨h1, h2⟩ := h
  refine ⟨h1, ?_⟩
  rcases h2 with h2 | ⟨g, cap, cur, hv, hg, hh, r⟩
  · exact Or.inl h2
  · exact Or.inr ⟨g, cap, cur, hv, hg, (hb.block g (Array.getElem?_eq_some_iff.1 hh).1).trans hh, r⟩

namespace Mb
theorem bs_nm {m : Nat → Nat} (h : IsB m) (a n : Nat) : Wd.bs ((nm m a n : Nat) : Int) n = bl m a n := by
  unfold Wd.bs bl
  refine List.map_congr_left fun i hi => ?_
  have hb := byt_nm h a n i (List.mem_range.1 hi)
  rw [← hb]
  unfold byt
  rw [Nat.mul_comm 8 i]
  simp
theorem num_bl (m : Nat → Nat) (a n : Nat) : Wd.num (bl m a n) = ((nm m a n : Nat) : Int) := by
  induction n with
  | zero => rfl
  | succ n ih =>
    have e : bl m a (n + 1) = bl m a n ++ [((m (a + n) : Nat) : Int)] := by
      unfold bl
      rw [List.range_succ, List.map_append]
      rfl
    rw [e, Wd.num_append, ih, bl_length]
    show _ = ((nm m a n + m (a + n) * 2 ^ (8 * n) : Nat) : Int)
    rw [Nat.mul_comm 8 n]
    simp
theorem bl_next (m : Nat → Nat) (a p j : Nat) (hp : a ≤ p) (f : Int → Value) : (bl m a (p - a)).map f ++ (bl m p j).map f = (bl m a (p + j - a)).map f := by
  rw [← List.map_append, show p + j - a = p - a + j by omega, bl_append, show a + (p - a) = p by omega]
end Mb

theorem u8_one (xs : List Int) : ∀ u ∈ xs.map (Value.int .u8), u.oneCell' = true := by
  intro u hu
  obtain ⟨x, _, rfl⟩ := List.mem_map.1 hu
  rfl

/-- Some bytes, at least one, were made: where they stand. -/
def MadeAt (xs : List Int) (n : Nat) (w : World) (e : Ending) (w' : World) : Prop :=
  ∃ b off cap, e = .returned (.slice (some ⟨b, off, none⟩) n cap) ∧ (∀ j u, (xs.map (Value.int .u8))[j]? = some u → w'.cell? ((⟨b, off, none⟩ : Addr).add j) = some u) ∧ Below w.heap.size w w'

theorem bytes_at {m : Nat → Nat} (hm : Mb.IsB m) (a n : Nat) (w : World) (h1 : 1 ≤ n) (h8 : n ≤ 8) :
    Calls Tryz.prog 56 #[.int .u64 (Mb.nm m a n : Nat), .int .i64 n] w (MadeAt (Mb.bl m a n) n w) := by
  refine (bytes_yes _ n w h8).mono ?_
  rintro e w' ⟨v, rfl, ⟨A, cap, rfl, hv⟩, hb⟩
  rw [Mb.bs_nm hm, Mb.bl_length] at hv ⊢
  obtain ⟨b, off, rfl, hlt, hc⟩ := hv (by omega)
  refine ⟨b, off, cap, rfl, fun j u hj => ?_, hb⟩
  have hjn : j < n := by
    have := (List.getElem?_eq_some_iff.1 hj).1
    simpa [Mb.bl_length] using this
  have e : (⟨b, off, none⟩ : Addr).add j = ⟨b, off + j, none⟩ := by unfold Addr.add; split <;> simp_all
  rw [e, hc j hjn]
  rw [List.getElem?_map, Option.map_eq_some_iff] at hj
  obtain ⟨x, hx, rfl⟩ := hj
  rw [List.getD, hx]
  rfl

theorem inWord_at (p q j : Nat) (w : World) (ha : p ≤ 9223372036854775807) (hj : j = min q (8 - p % 8)) :
    Calls Tryz.prog 55 #[.int .i64 p, .int .i64 q] w fun e w' => e = .returned (.int .i64 j) ∧ w = w' := by
  subst hj
  exact inWord_any p q w ha

set_option maxHeartbeats 1000000 in
theorem read_any {w : World} {g h n : Nat} {m : Nat → Nat} {c : Int} (B : Buf w g h m n c) (a k : Nat) (hin : a + k ≤ 8 * n) :
    Calls Tryz.prog 31 #[.pointer (some ⟨g, 0, none⟩), .int .i64 a, .int .i64 k] w (MadeBytes (Mb.bl m a k) w) := by
  obtain ⟨i0, hi, hz0, hz1, hz2⟩ := info_parts infoU8
  have hf := B.few
  have HB := Lib.hid B
  clear B
  go_enter Tryz.func31, Tryz.ntmps31
  go_wp2_with (refine wpList_make_own _ rfl _ _ 30 rfl w.heap.size 5 i0 (.int .u8 0) 1 Tryz.underlying30 hi hz0 hz1 .i64 .i64 _ k rfl rfl rfl (by rw [hz2]; omega) (by unfold maxLen; omega) (Nat.le_refl _) ?_; intro w0 hown0 hg0)
  have hbel0 : Below w.heap.size w w0 := (Below.refl _ w).grown hg0 (Nat.le_refl _) (fun g hg => by cases hg)
  clear hg0
  go_loopw [1, 2, 7] (fun t1 t2 r wr => ∃ p q : Nat, a ≤ p ∧ p + q = a + k ∧ t1 = .int .i64 p ∧ t2 = .int .i64 q ∧ Below w.heap.size w wr ∧ wr.ownsRow w.heap.size 5 1 r (p - a) ((Mb.bl m a (p - a)).map (Value.int .u8))) (fun _ t2 _ _ => (intOf t2).toNat)
  case atStart => exact ⟨a, k, by omega, rfl, rfl, rfl, hbel0, by rw [Nat.sub_self]; exact hown0⟩
  case round =>
    obtain ⟨p, q, hp, hpq, rfl, rfl, hbel, hown⟩ := hrel
    clear hown0 hbel0
    by_cases hlt : 0 < q
    · obtain ⟨j, hj⟩ : ∃ j, j = min q (8 - p % 8) := ⟨_, rfl⟩
      have hj1 : 1 ≤ j := by omega
      have hj2 : j ≤ q := by omega
      have hj3 : p % 8 + j ≤ 8 := by omega
      have hpb : p ≤ 131072 := by omega
      have hqb : q ≤ 131072 := by omega
      have hj4 : p / 8 < n := by omega
      have HJ := Lib.hid hj
      have HQ := Lib.hid hpq
      have hBr := HB.out.below hbel
      have HBr := Lib.hid hBr
      have HBel := Lib.hid hbel
      have HO := Lib.hid hown
      clear hj hpq hBr hbel hown
      go_wp2_with (first
        | (go_at_call 55; refine (inWord_at p q j _ (by omega) HJ.out).mono ?_; rintro e w' ⟨rfl, rfl⟩)
        | (go_at_call 57; refine (load_any HBr.out p j hj3 hj4).mono ?_; rintro e w1 ⟨rfl, nd, rfl⟩)
        | (go_at_call 56; refine (bytes_at HBr.out.bytes p j _ hj1 (by omega)).mono ?_; rintro e w2 ⟨sb, so, cp, rfl, hcs, hb2⟩; have hb3 : Below wr.heap.size wr w2 := (drewN_below wr nd).after hb2; clear hb2)
        | (at_builtin; refine wpList_append_own _ rfl (.tmp 16) (.tmp 22) 30 rfl w.heap.size 5 i0 (.int .u8 0) 1 1 Tryz.underlying30 hi hz0 hz1 hz2 rfl (by decide) _ _ _ rfl (ownsRow_below HO.out hb3) ⟨sb, so, none⟩ j cp ((Mb.bl m p j).map (Value.int .u8)) rfl (by simp [Mb.bl_length]) hcs (u8_one _) (by unfold maxLen; omega) (by omega) (Nat.le_trans HBel.out.size hb3.size) ?_; intro v' w3 hown' hgrow _; have hbel3 : Below w.heap.size w w3 := (HBel.out.trans (hb3.mono HBel.out.size)).grown hgrow (Nat.le_trans HBel.out.size hb3.size) (fun g hg => (HO.out.lt g hg).1); rw [Mb.bl_next m a p j hp, show p - a + j = p + j - a by omega] at hown'; have HO3 := Lib.hid hown'; have HB3 := Lib.hid hbel3; clear hown' hgrow hbel3))
      go_roundw
      case rel =>
        have hpq := HQ.out
        exact ⟨p + j, q - j, by omega, by omega, by go_num, by go_num, HB3.out, HO3.out⟩
      case measure => simp [intOf]; omega
    · have hq0 : q = 0 := by omega
      have HQ := Lib.hid (show p - a = k by omega)
      subst hq0
      have HBel := Lib.hid hbel
      have HO := Lib.hid hown
      clear hpq hbel hown
      go_wp2
      go_ret
      have hO := HO.out
      rw [HQ.out] at hO
      exact ⟨_, rfl, BytesAt.of_own (by rw [Mb.bl_length]; exact hO), HBel.out⟩

namespace Mb
theorem put_next (m : Nat → Nat) {f : Nat → Nat} (hf : IsB f) (a p j k : Nat) (hp : a ≤ p) (hk : p + j ≤ a + k) :
    put (put m a (p - a) (nm f 0 k)) p j (nm f (p - a) j) = put m a (p + j - a) (nm f 0 k) := by
  funext i
  unfold put
  by_cases h1 : p ≤ i ∧ i < p + j
  · rw [if_pos h1, if_pos (by omega), byt_nm hf _ _ _ (by omega), byt_nm hf _ _ _ (by omega)]
    congr 1
    omega
  · rw [if_neg h1]
    by_cases h2 : a ≤ i ∧ i < a + (p - a)
    · rw [if_pos h2, if_pos (by omega)]
    · rw [if_neg h2, if_neg (by omega)]
theorem bl_drop (f : Nat → Nat) (a q j i : Nat) (h : i + j < q) : (bl f (a + j) (q - j)).getD i 0 = (bl f a q).getD (j + i) 0 := by
  rw [bl_getD _ _ _ _ (by omega), bl_getD _ _ _ _ (by omega), Nat.add_assoc]
theorem bl_bytes8 {f : Nat → Nat} (hf : IsB f) (a n : Nat) : Wd.Bytes8 (bl f a n) := by
  intro x hx
  unfold bl at hx
  obtain ⟨i, _, rfl⟩ := List.mem_map.1 hx
  have := hf (a + i)
  omega
theorem put_none (m : Nat → Nat) (a v : Nat) : put m a 0 v = m := by
  funext i
  unfold put
  rw [if_neg (by omega)]
end Mb

/-- A place that holds a byte is no place of a buffer. -/
theorem Buf.byte_apart {w : World} {g h n : Nat} {m : Nat → Nat} {c : Int} (B : Buf w g h m n c) {b off : Nat} {x : Int} (hc : w.cell? ⟨b, off, none⟩ = some (.int .u8 x)) : b ≠ g ∧ b ≠ h := by
  constructor
  · intro e
    subst e
    simp only [World.cell?, B.head] at hc
    match off, hc with
    | 0, hc => simp at hc
    | 1, hc => simp at hc
    | k + 2, hc => simp at hc
  · intro e
    subst e
    by_cases hlt : off < n
    · rw [B.word hlt] at hc
      simp at hc
    · obtain ⟨cs, hb, hn, _⟩ := B.words
      simp only [World.cell?, hb] at hc
      rw [Array.getElem?_eq_none (by omega)] at hc
      simp at hc

theorem BytesAt.touch {w w' : World} {g h n : Nat} {m : Nat → Nat} {c : Int} {v : Value} {xs : List Int} (hv : BytesAt w v xs) (B : Buf w g h m n c) (ht : Touch (Two g h) w w') : BytesAt w' v xs := by
  obtain ⟨A, cap, hv, hq⟩ := hv
  refine ⟨A, cap, hv, fun hp => ?_⟩
  obtain ⟨b, off, h1, h3, h4⟩ := hq hp
  have ha := B.byte_apart (h4 0 hp)
  have hn : ¬ Two g h b := fun e => e.elim ha.1 ha.2
  exact ⟨b, off, h1, Nat.lt_of_lt_of_le h3 ht.size, fun i hi => (ht.cell (p := ⟨b, off + i, none⟩) h3 hn).trans (h4 i hi)⟩

theorem number_at (v : Value) {f : Nat → Nat} (hf : Mb.IsB f) (a j : Nat) (w : World) (hj : j ≤ 8) (h : BytesAt w v (Mb.bl f a j)) :
    Calls Tryz.prog 91 #[v] w fun e w' => e = .returned (.int .u64 (Mb.nm f a j : Nat)) ∧ w = w' := by
  have hn := number_any v _ w (Mb.bl_bytes8 hf a j) h
  rw [List.take_of_length_le (by rw [Mb.bl_length]; omega), Mb.num_bl] at hn
  exact hn

/-- The bytes from j on, and the first j of them. -/
theorem bytesAt_front {w : World} {f : Nat → Nat} {b off q cap : Nat} (a j : Nat) (hj : j ≤ q) (hlt : b < w.heap.size) (hc : ∀ i, i < q → w.cell? ⟨b, off + i, none⟩ = some (.int .u8 ((Mb.bl f a q).getD i 0))) :
    BytesAt w (.slice (some ⟨b, off, none⟩) j cap) (Mb.bl f a j) := by
  refine ⟨some ⟨b, off, none⟩, cap, by rw [Mb.bl_length], fun _ => ⟨b, off, rfl, hlt, fun i hi => ?_⟩⟩
  rw [Mb.bl_length] at hi
  rw [hc i (by omega), Mb.bl_getD _ _ _ _ (by omega), Mb.bl_getD _ _ _ _ (by omega)]
theorem bytesAt_behind {w : World} {f : Nat → Nat} {b off q cap : Nat} (a j : Nat) (hj : j ≤ q) (hlt : b < w.heap.size) (hc : ∀ i, i < q → w.cell? ⟨b, off + i, none⟩ = some (.int .u8 ((Mb.bl f a q).getD i 0))) :
    BytesAt w (.slice (some ⟨b, off + j, none⟩) (q - j) cap) (Mb.bl f (a + j) (q - j)) := by
  refine ⟨some ⟨b, off + j, none⟩, cap, by rw [Mb.bl_length], fun _ => ⟨b, off + j, rfl, hlt, fun i hi => ?_⟩⟩
  rw [Mb.bl_length] at hi
  rw [Nat.add_assoc, hc (j + i) (by omega), Mb.bl_drop _ _ _ _ _ (by omega)]

theorem bytesAt_none (w : World) (A : Option Addr) (f : Nat → Nat) (a : Nat) : BytesAt w (.slice A 0 0) (Mb.bl f a 0) := ⟨A, 0, rfl, fun h => by simp [Mb.bl] at h⟩

theorem write_step {w wr w1 : World} {g h n : Nat} {m1 m2 m3 : Nat → Nat} {c : Int} (_ : Buf wr g h m1 n c) (hs : Stored g h m2 n c wr w1) (ht : Touch (Two g h) w wr) (e : m2 = m3) (nq : Nat) :
    Buf (w1.drewN nq) g h m3 n c ∧ Touch (Two g h) w (w1.drewN nq) := by
  subst e
  exact ⟨hs.1.drewN nq, (ht.trans hs.2).drewN nq⟩

set_option maxHeartbeats 1000000 in
theorem write_any {w : World} {g h n : Nat} {m : Nat → Nat} {c : Int} (B : Buf w g h m n c) (a k : Nat) (hin : a + k ≤ 8 * n) (hk8 : k ≤ 8) {f : Nat → Nat} (hf : Mb.IsB f) (A : Option Addr) (cap : Nat) (hcap : k ≤ cap) (hcap2 : cap ≤ 9223372036854775807)
    (hv : BytesAt w (.slice A k cap) (Mb.bl f 0 k)) :
    Calls Tryz.prog 71 #[.pointer (some ⟨g, 0, none⟩), .int .i64 a, .slice A k cap] w fun e w' => e = .returned (.tuple #[]) ∧ Stored g h (Mb.put m a k (Mb.nm f 0 k)) n c w w' := by
  have hfw := B.few
  have HB := Lib.hid B
  have HV := Lib.hid hv
  have HF := Lib.hid hf
  clear B hv hf
  go_enter Tryz.func71, Tryz.ntmps71
  go_wp2
  go_loopw [1, 2] (fun t1 t2 wr => ∃ (p q : Nat) (A' : Option Addr) (cap' : Nat), a ≤ p ∧ p + q = a + k ∧ t1 = .int .i64 p ∧ t2 = .slice A' q cap' ∧ q ≤ cap' ∧ cap' ≤ 9223372036854775807 ∧ BytesAt wr (.slice A' q cap') (Mb.bl f (p - a) q) ∧ Buf wr g h (Mb.put m a (p - a) (Mb.nm f 0 k)) n c ∧ Touch (Two g h) w wr) (fun t1 _ _ => (a + k - (intOf t1)).toNat)
  case atStart => exact ⟨a, k, A, cap, by omega, rfl, rfl, rfl, hcap, hcap2, by rw [Nat.sub_self]; exact HV.out, by rw [Nat.sub_self, Mb.put_none]; exact HB.out, Touch.refl _ _⟩
  case round =>
    obtain ⟨p, q, A', cap', hp, hpq, rfl, rfl, hqc, hcm, hbs, hbuf, htou⟩ := hrel
    by_cases hlt : 0 < q
    · obtain ⟨j, hj⟩ : ∃ j, j = min q (8 - p % 8) := ⟨_, rfl⟩
      have hj1 : 1 ≤ j := by omega
      have hj2 : j ≤ q := by omega
      have hj3 : p % 8 + j ≤ 8 := by omega
      have hj8 : j ≤ 8 := by omega
      have hpb : p ≤ 131072 := by omega
      have hqb : q ≤ 131072 := by omega
      have hj4 : p / 8 < n := by omega
      have hvl : Mb.nm f (p - a) j < 18446744073709551616 := Nat.lt_of_lt_of_le (Mb.nm_lt HF.out _ _) (Nat.pow_le_pow_right (n := 2) (i := 8 * j) (j := 64) (by decide) (by omega))
      have hnx := Mb.put_next m HF.out a p j k hp (by omega)
      have hbs2 := hbs
      obtain ⟨A2, cp2, he, hcells⟩ := hbs2
      rw [Mb.bl_length] at he hcells
      obtain ⟨b, off, rfl, hblt, hcell⟩ := hcells hlt
      simp only [Value.slice.injEq] at he
      obtain ⟨rfl, _, rfl⟩ := he
      have hfront := bytesAt_front (cap := cap') (p - a) j hj2 hblt hcell
      have hbehind := bytesAt_behind (cap := cap' - j) (p - a) j hj2 hblt hcell
      have ha := hbuf.byte_apart (hcell 0 hlt)
      have HJ := Lib.hid hj
      have HQ := Lib.hid hpq
      have HBf := Lib.hid hbuf
      have HT := Lib.hid htou
      have HN := Lib.hid hnx
      have HFr := Lib.hid hfront
      have HBe := Lib.hid hbehind
      clear hj hpq hbuf htou hnx hbs hfront hbehind hcell hcells ha
      by_cases hcj : cap' = j
      · have e1 : j = cap' := hcj.symm
        have e2 : j = q := by omega
        clear hcj
        subst e1
        subst e2
        go_wp2_with (first
          | (go_at_call 55; refine (inWord_at p j j _ (by omega) HJ.out).mono ?_; rintro e w' ⟨rfl, rfl⟩)
          | (go_at_call 91; refine (number_at _ HF.out (p - a) j _ hj8 HFr.out).mono ?_; rintro e w1 ⟨rfl, rfl⟩)
          | (go_at_call 68; refine (store_any HBf.out p j _ hj3 hj4 hvl).mono ?_; rintro e w1 ⟨rfl, hst⟩; have HS := Lib.hid hst; clear hst))
        go_quiet (fail)
        go_wp2
        go_roundw
        case rel =>
          have hpq := HQ.out
          have hst := write_step HBf.out HS.out HT.out HN.out nq
          exact ⟨p + j, 0, some ⟨b, off, none⟩, 0, by omega, by omega, by go_num, rfl, by omega, by omega, bytesAt_none _ _ _ _, hst.1, hst.2⟩
        case measure => have hpq := HQ.out; simp [intOf]; omega
      · have hcj' : j < cap' := by omega
        clear hcj
        go_wp2_with (first
          | (go_at_call 55; refine (inWord_at p q j _ (by omega) HJ.out).mono ?_; rintro e w' ⟨rfl, rfl⟩)
          | (go_at_call 91; refine (number_at _ HF.out (p - a) j _ hj8 HFr.out).mono ?_; rintro e w1 ⟨rfl, rfl⟩)
          | (go_at_call 68; refine (store_any HBf.out p j _ hj3 hj4 hvl).mono ?_; rintro e w1 ⟨rfl, hst⟩; have HS := Lib.hid hst; clear hst))
        go_quiet (fail)
        go_wp2
        go_roundw
        case rel =>
          have hpq := HQ.out
          have hst := write_step HBf.out HS.out HT.out HN.out nq
          have hbe := (HBe.out.touch HBf.out HS.out.2).below (drewN_below w1 nq)
          rw [show p - a + j = p + j - a by omega] at hbe
          exact ⟨p + j, q - j, some ⟨b, off + j, none⟩, cap' - j, by omega, by omega, by go_num, rfl, by omega, by omega, hbe, hst.1, hst.2⟩
        case measure => have hpq := HQ.out; simp [intOf]; omega
    · have hq0 : q = 0 := by omega
      subst hq0
      have HP := Lib.hid (show p - a = k by omega)
      have HBf := Lib.hid hbuf
      have HT := Lib.hid htou
      clear hpq hbs hbuf htou
      go_wp2
      go_end0
      have hB := HBf.out
      rw [HP.out] at hB
      exact ⟨rfl, hB, HT.out⟩
end Go.Proofs.YtbfgbnalnjdheaaGreat
namespace Go.Proofs.YtbfgbnalnjdheaaGreat
open Go.RowKit

/-- Is an access' kind one, and its number of bytes right for it? -/
def formed (K N : Int) (L : Nat) : Bool :=
  if K = 1 ∨ K = 2 ∨ K = 4 then decide (N = 4) || decide (N = 8)
  else if K = 3 then decide (N = 8)
  else if K = 5 then decide (0 ≤ N) && decide (N ≤ 8)
  else if K = 6 then decide (N = (L : Int)) && decide (N ≤ 8)
  else false

theorem ret_bool {a b : Bool} (h : a = b) : Ending.returned (.bool a) = .returned (.bool b) := by rw [h]

set_option maxHeartbeats 1000000 in
theorem isFormed_any (K P N V W : Int) (A : Option Addr) (L cap : Nat) (w : World) :
    Calls Tryz.prog 65 #[.agg #[.int .i64 K, .int .i64 P, .int .i64 N, .int .u64 V, .int .u64 W, .slice A L cap]] w (Made (.bool (formed K N L)) w) := by
  by_cases h1 : K = 1 ∨ K = 2 ∨ K = 4
  · have e : formed K N L = (decide (N = 4) || decide (N = 8)) := by unfold formed; rw [if_pos h1]
    have E := Lib.hid e
    clear e
    by_cases hN : N = 4
    · subst hN
      rcases h1 with rfl | rfl | rfl
      all_goals
        go_enter Tryz.func65, Tryz.ntmps65
        go_wp2
        go_ret
        refine ⟨ret_bool ?_, (Below.refl _ _).alloc (Nat.le_refl _) _⟩
        rw [E.out]
        rfl
    · have hN' : (N == 4) = false := by simpa using hN
      have HN := Lib.hid hN
      clear hN
      rcases h1 with rfl | rfl | rfl
      all_goals
        go_enter Tryz.func65, Tryz.ntmps65
        go_wp2
        go_ret
        refine ⟨ret_bool ?_, (Below.refl _ _).alloc (Nat.le_refl _) _⟩
        rw [E.out]
        rw [decide_eq_false HN.out]
        rfl
  · have n1 : ¬ K = 1 := fun e => h1 (.inl e)
    have n2 : ¬ K = 2 := fun e => h1 (.inr (.inl e))
    have n4 : ¬ K = 4 := fun e => h1 (.inr (.inr e))
    by_cases h3 : K = 3
    · subst h3
      have E := Lib.hid (show formed 3 N L = decide (N = 8) by simp [formed])
      clear h1 n1 n2 n4
      go_enter Tryz.func65, Tryz.ntmps65
      go_wp2
      go_ret
      refine ⟨ret_bool ?_, (Below.refl _ _).alloc (Nat.le_refl _) _⟩
      rw [E.out]
      first | rfl | simp
    · by_cases h5 : K = 5
      · subst h5
        have E := Lib.hid (show formed 5 N L = (decide (0 ≤ N) && decide (N ≤ 8)) by simp [formed])
        clear h1 n1 n2 n4
        by_cases hN : 0 ≤ N
        · go_enter Tryz.func65, Tryz.ntmps65
          go_wp2
          go_ret
          refine ⟨ret_bool ?_, (Below.refl _ _).alloc (Nat.le_refl _) _⟩
          rw [E.out]
          simp [hN]
        · have hN' : N < 0 := by omega
          clear hN
          go_enter Tryz.func65, Tryz.ntmps65
          go_wp2
          go_ret
          refine ⟨ret_bool ?_, (Below.refl _ _).alloc (Nat.le_refl _) _⟩
          rw [E.out]
          simp
          omega
      · by_cases h6 : K = 6
        · subst h6
          have E := Lib.hid (show formed 6 N L = (decide (N = (L : Int)) && decide (N ≤ 8)) by simp [formed])
          clear h1 n1 n2 n4
          by_cases hN : N = (L : Int)
          · subst hN
            go_enter Tryz.func65, Tryz.ntmps65
            go_wp2
            go_ret
            refine ⟨ret_bool ?_, (Below.refl _ _).alloc (Nat.le_refl _) _⟩
            rw [E.out]
            simp
          · have hN' : (N == (L : Int)) = false := by simpa using hN
            have HN := Lib.hid hN
            clear hN
            go_enter Tryz.func65, Tryz.ntmps65
            go_wp2
            go_ret
            refine ⟨ret_bool ?_, (Below.refl _ _).alloc (Nat.le_refl _) _⟩
            rw [E.out]
            simp [HN.out]
        · have E := Lib.hid (show formed K N L = false by unfold formed; rw [if_neg h1, if_neg h3, if_neg h5, if_neg h6])
          clear h1
          go_enter Tryz.func65, Tryz.ntmps65
          go_wp2
          go_ret
          exact ⟨ret_bool E.out.symm, (Below.refl _ _).alloc (Nat.le_refl _) _⟩

/-- Which error an access is refused with, or none. -/
def chk (S K P N : Int) (L : Nat) : Int :=
  if formed K N L = false then 1
  else if P < 0 ∨ S < P ∨ S - P < N then 2
  else if numB K = true ∧ P % N ≠ 0 then 3
  else 0

theorem formed_num {K N : Int} {L : Nat} (h : formed K N L = true) (hk : numB K = true) : N = 4 ∨ N = 8 := by
  unfold formed at h
  unfold numB at hk
  by_cases h1 : K = 1 ∨ K = 2 ∨ K = 4
  · rw [if_pos h1] at h
    simpa using h
  · rw [if_neg h1] at h
    by_cases h3 : K = 3
    · rw [if_pos h3] at h
      exact .inr (by simpa using h)
    · rw [if_neg h3] at h
      by_cases h5 : K = 5
      · simp [h5] at hk
      · rw [if_neg h5] at h
        by_cases h6 : K = 6
        · simp [h6] at hk
        · rw [if_neg h6] at h
          cases h

theorem formed_len {K N : Int} {L : Nat} (h : formed K N L = true) : 0 ≤ N ∧ N ≤ 8 := by
  unfold formed at h
  split at h
  · simp at h; omega
  · split at h
    · simp at h; omega
    · split at h
      · simp at h; omega
      · split at h
        · simp at h; omega
        · cases h

set_option maxHeartbeats 1000000 in
theorem check_formed (S K P N V W : Int) (A : Option Addr) (L cap : Nat) (w : World) (hf : formed K N L = false) :
    Calls Tryz.prog 39 #[.int .i64 S, .agg #[.int .i64 K, .int .i64 P, .int .i64 N, .int .u64 V, .int .u64 W, .slice A L cap]] w (Made (.int .i64 (chk S K P N L)) w) := by
  have E := Lib.hid (show chk S K P N L = 1 by unfold chk; rw [if_pos hf])
  have HF := Lib.hid hf
  clear hf
  go_enter Tryz.func39, Tryz.ntmps39
  go_wp2_with (go_at_call 65; refine (isFormed_any K P N V W A L cap _).mono ?_; rintro e w1 ⟨rfl, hb⟩; rw [HF.out])
  go_ret
  exact ⟨ret_num E.out.symm, ((Below.refl _ w).alloc (Nat.le_refl _) _).after hb⟩

/-- The cells of an access that was boxed, below a call. -/
theorem boxed_below {w w1 : World} {o : Obj} (hb : Below (w.alloc o).heap.size (w.alloc o) w1) (i : Nat) : w1.cell? ⟨w.heap.size, i, none⟩ = (w.alloc o).cell? ⟨w.heap.size, i, none⟩ :=
  hb.cell (p := ⟨w.heap.size, i, none⟩) (by simp)

set_option maxHeartbeats 1000000 in
theorem check_range (S K P N V W : Int) (A : Option Addr) (L cap : Nat) (w : World) (hf : formed K N L = true) (hS : S ≤ 9223372036854775807) (hr : P < 0 ∨ S < P ∨ S - P < N) :
    Calls Tryz.prog 39 #[.int .i64 S, .agg #[.int .i64 K, .int .i64 P, .int .i64 N, .int .u64 V, .int .u64 W, .slice A L cap]] w (Made (.int .i64 (chk S K P N L)) w) := by
  have E := Lib.hid (show chk S K P N L = 2 by unfold chk; rw [if_neg (by simp [hf]), if_pos hr])
  have HF := Lib.hid hf
  clear hf
  by_cases h1 : P < 0
  · clear hr
    go_enter Tryz.func39, Tryz.ntmps39
    go_wp2_with (go_at_call 65; refine (isFormed_any K P N V W A L cap _).mono ?_; rintro e w1 ⟨rfl, hb⟩; rw [HF.out]; have hc := boxed_below hb)
    go_ret
    exact ⟨ret_num E.out.symm, ((Below.refl _ w).alloc (Nat.le_refl _) _).after hb⟩
  · have h1' : 0 ≤ P := by omega
    by_cases h2 : S < P
    · clear hr h1
      go_enter Tryz.func39, Tryz.ntmps39
      go_wp2_with (go_at_call 65; refine (isFormed_any K P N V W A L cap _).mono ?_; rintro e w1 ⟨rfl, hb⟩; rw [HF.out]; have hc := boxed_below hb)
      go_ret
      exact ⟨ret_num E.out.symm, ((Below.refl _ w).alloc (Nat.le_refl _) _).after hb⟩
    · have h2' : P ≤ S := by omega
      have h3 : S - P < N := by omega
      clear hr h1 h2
      go_enter Tryz.func39, Tryz.ntmps39
      go_wp2_with (go_at_call 65; refine (isFormed_any K P N V W A L cap _).mono ?_; rintro e w1 ⟨rfl, hb⟩; rw [HF.out]; have hc := boxed_below hb)
      go_ret
      exact ⟨ret_num E.out.symm, ((Below.refl _ w).alloc (Nat.le_refl _) _).after hb⟩

set_option maxHeartbeats 1000000 in
theorem check_ok (S K P N V W : Int) (A : Option Addr) (L cap : Nat) (w : World) (hf : formed K N L = true) (hS : S ≤ 9223372036854775807) (h1 : 0 ≤ P) (h2 : P ≤ S) (h3 : N ≤ S - P) :
    Calls Tryz.prog 39 #[.int .i64 S, .agg #[.int .i64 K, .int .i64 P, .int .i64 N, .int .u64 V, .int .u64 W, .slice A L cap]] w (Made (.int .i64 (chk S K P N L)) w) := by
  have e0 : chk S K P N L = if numB K = true ∧ P % N ≠ 0 then 3 else 0 := by unfold chk; rw [if_neg (by simp [hf]), if_neg (by omega)]
  have HF := Lib.hid hf
  by_cases hk : numB K = true
  · have hN := formed_num hf hk
    have HK := Lib.hid hk
    by_cases hm : P % N = 0
    · have E := Lib.hid (show chk S K P N L = 0 by rw [e0, if_neg (by simp [hm])])
      have hm' : (P % N == 0) = true := by simpa using hm
      clear hf hk hm e0
      rcases hN with rfl | rfl
      all_goals
        go_enter Tryz.func39, Tryz.ntmps39
        go_wp2_with (first
          | (go_at_call 65; refine (isFormed_any K P _ V W A L cap _).mono ?_; rintro e w1 ⟨rfl, hb⟩; rw [HF.out]; have hc := boxed_below hb)
          | (go_at_call 66; refine (isOfNumber_any K _).mono ?_; rintro e w' ⟨rfl, rfl⟩; rw [HK.out]))
        go_ret
        exact ⟨ret_num E.out.symm, ((Below.refl _ w).alloc (Nat.le_refl _) _).after hb⟩
    · have E := Lib.hid (show chk S K P N L = 3 by rw [e0, if_pos ⟨hk, hm⟩])
      have hm' : (P % N == 0) = false := by simpa using hm
      have hm2 : (P % N != 0) = true := by simpa using hm
      clear hf hk hm e0
      rcases hN with rfl | rfl
      all_goals
        go_enter Tryz.func39, Tryz.ntmps39
        go_wp2_with (first
          | (go_at_call 65; refine (isFormed_any K P _ V W A L cap _).mono ?_; rintro e w1 ⟨rfl, hb⟩; rw [HF.out]; have hc := boxed_below hb)
          | (go_at_call 66; refine (isOfNumber_any K _).mono ?_; rintro e w' ⟨rfl, rfl⟩; rw [HK.out]))
        go_ret
        exact ⟨ret_num E.out.symm, ((Below.refl _ w).alloc (Nat.le_refl _) _).after hb⟩
  · have hk' : numB K = false := by simpa using hk
    have HK := Lib.hid hk'
    have E := Lib.hid (show chk S K P N L = 0 by rw [e0, if_neg (by simp [hk'])])
    clear hf hk hk' e0
    go_enter Tryz.func39, Tryz.ntmps39
    go_wp2_with (first
      | (go_at_call 65; refine (isFormed_any K P _ V W A L cap _).mono ?_; rintro e w1 ⟨rfl, hb⟩; rw [HF.out]; have hc := boxed_below hb)
      | (go_at_call 66; refine (isOfNumber_any K _).mono ?_; rintro e w' ⟨rfl, rfl⟩; rw [HK.out]))
    go_ret
    exact ⟨ret_num E.out.symm, ((Below.refl _ w).alloc (Nat.le_refl _) _).after hb⟩

theorem check_any (S K P N V W : Int) (A : Option Addr) (L cap : Nat) (w : World) (hS : S ≤ 9223372036854775807) :
    Calls Tryz.prog 39 #[.int .i64 S, .agg #[.int .i64 K, .int .i64 P, .int .i64 N, .int .u64 V, .int .u64 W, .slice A L cap]] w (Made (.int .i64 (chk S K P N L)) w) := by
  cases hf : formed K N L with
  | false => exact check_formed S K P N V W A L cap w hf
  | true =>
    by_cases hr : P < 0 ∨ S < P ∨ S - P < N
    · exact check_range S K P N V W A L cap w hf hS hr
    · exact check_ok S K P N V W A L cap w hf hS (by omega) (by omega) (by omega)

/-- Who may be stands within the buffer. -/
theorem chk_ok {S K P N : Int} {L : Nat} (h : chk S K P N L = 0) : formed K N L = true ∧ 0 ≤ P ∧ P ≤ S ∧ N ≤ S - P ∧ (numB K = true → P % N = 0) := by
  unfold chk at h
  by_cases h1 : formed K N L = false
  · rw [if_pos h1] at h; omega
  · rw [if_neg h1] at h
    by_cases h2 : P < 0 ∨ S < P ∨ S - P < N
    · rw [if_pos h2] at h; omega
    · rw [if_neg h2] at h
      by_cases h3 : numB K = true ∧ P % N ≠ 0
      · rw [if_pos h3] at h; omega
      · refine ⟨by simpa using h1, by omega, by omega, by omega, fun hk => ?_⟩
        by_cases hm : P % N = 0
        · exact hm
        · exact absurd ⟨hk, hm⟩ h3

set_option maxHeartbeats 400000 in
theorem size_nil (w : World) : Calls Tryz.prog 32 #[.pointer none] w fun e w' => e = .returned (.int .i64 0) ∧ w = w' := by
  go_enter Tryz.func32, Tryz.ntmps32
  go_wp2
  go_ret
  exact ⟨rfl, rfl⟩

set_option maxHeartbeats 400000 in
theorem size_any {w : World} {g h n : Nat} {m : Nat → Nat} {c : Int} (B : Buf w g h m n c) :
    Calls Tryz.prog 32 #[.pointer (some ⟨g, 0, none⟩)] w fun e w' => e = .returned (.int .i64 (8 * (n : Int))) ∧ w = w' := by
  have hs := B.slice
  have hf := B.few
  clear B
  go_enter Tryz.func32, Tryz.ntmps32
  go_wp2
  go_ret
  exact ⟨ret_num (by omega), rfl⟩

/-- A buffer was made: its bytes are 0. -/
def MadeBuf (n : Nat) (w : World) (e : Ending) (w' : World) : Prop :=
  ∃ g h, e = .returned (.tuple #[.pointer (some ⟨g, 0, none⟩), .int .i64 0]) ∧ Buf w' g h (fun _ => 0) n 0 ∧ w.heap.size ≤ g ∧ w.heap.size ≤ h ∧ Below w.heap.size w w'

set_option maxHeartbeats 400000 in
theorem new_no (S : Int) (w : World) (h0 : -9223372036854775808 ≤ S) (h1 : S ≤ 9223372036854775807) (h : S < 8 ∨ 131072 < S ∨ S % 8 ≠ 0) :
    Calls Tryz.prog 7 #[.int .i64 S] w fun e w' => e = .returned (.tuple #[.pointer none, .int .i64 1]) ∧ w = w' := by
  by_cases a1 : S < 8
  · clear h
    go_enter Tryz.func7, Tryz.ntmps7
    go_wp2
    go_ret2
    exact ⟨rfl, rfl⟩
  · have a1' : 8 ≤ S := by omega
    by_cases a2 : 131072 < S
    · clear h a1
      go_enter Tryz.func7, Tryz.ntmps7
      go_wp2
      go_ret2
      exact ⟨rfl, rfl⟩
    · have a2' : S ≤ 131072 := by omega
      have a3 : ¬ S % 8 = 0 := by omega
      have a4 : (S % 8 != 0) = true := by simpa using a3
      clear h a1 a2 a3
      go_enter Tryz.func7, Tryz.ntmps7
      go_wp2
      go_ret2
      exact ⟨rfl, rfl⟩

theorem infoWord : (Tryz.prog.info? 138).map (fun i => (i.zero, i.size, i.bytes)) = some (some (.agg #[.int .u64 0]), 1, 8) := by kernel_rfl

theorem make_words (S : Int) (n : Nat) (hn : (n : Int) = S / 8) (hb : n ≤ 16384) (W : World) :
    (Instr.makeSlice 67 (.int .i64 (S / 8)) (.int .i64 (S / 8))).run Tryz.prog W = .ok (.slice (some ⟨W.heap.size, 0, none⟩) n n) (W.alloc (.cells (madeCells #[.int .u64 0] n) 138)) := by
  obtain ⟨i, hi, hzz⟩ := Option.map_eq_some_iff.1 infoWord
  simp only [Prod.mk.injEq] at hzz
  obtain ⟨hz, hs, hby⟩ := hzz
  have hr := run_make (P := Tryz.prog) W 67 138 i (.agg #[.int .u64 0]) Tryz.underlying67 hi hz .i64 .i64 (S / 8) (S / 8) (by omega) (Int.le_refl _) (by rw [hby]; omega) (by omega)
  rw [hs, ← hn] at hr
  rw [← hn]
  simpa [Value.cells] using hr

theorem wd_zero (j : Nat) : Mb.wd (fun _ => 0) j = 0 := by
  show Mb.nm (fun _ => 0) (8 * j) 8 = 0
  have : ∀ n, Mb.nm (fun _ => 0) (8 * j) n = 0 := by
    intro n
    induction n with
    | zero => rfl
    | succ n ih => show Mb.nm (fun _ => 0) (8 * j) n + 0 * _ = 0; rw [ih, Nat.zero_mul]
  exact this 8

set_option maxHeartbeats 400000 in
theorem new_yes (S : Int) (n : Nat) (w : World) (hn : (n : Int) = S / 8) (h0 : 8 ≤ S) (h1 : S ≤ 131072) (h : S % 8 = 0) :
    Calls Tryz.prog 7 #[.int .i64 S] w (MadeBuf n w) := by
  have hmk := make_words S n hn (by omega)
  have hm0 : (S % 8 != 0) = false := by simpa using h
  have HN := Lib.hid hn
  clear h hn
  go_enter Tryz.func7, Tryz.ntmps7
  go_wp2
  go_ret2
  have hr := World.rowIs_made w (.int .u64 0) n 138
  refine ⟨w.heap.size + 1, w.heap.size, rfl, ⟨?_, ?_, Mb.zero_isB, by have := HN.out; omega⟩, by omega, by omega, ((Below.refl _ w).alloc (Nat.le_refl _) _).alloc (by simp) _⟩
  · have e : (w.alloc (.cells (madeCells #[.int .u64 0] n) 138)).heap.size = w.heap.size + 1 := by simp
    rw [← e]
    exact Go.Deep.blk_alloc_new _ _
  · exact (hr.alloc _).congr fun j _ => by rw [wd_zero]; rfl
end Go.Proofs.YtbfgbnalnjdheaaGreat
namespace Go.Proofs.YtbfgbnalnjdheaaGreat
open Go.RowKit

theorem and_mask_u64 (v k : Nat) (hv : v < 18446744073709551616) (hk : k ≤ 8) : bits BinOp.and IntKind.u64 (v : Int) ((2 ^ (8 * k) - 1 : Nat) : Int) = ((v % 2 ^ (8 * k) : Nat) : Int) := by
  have h3 : 2 ^ (8 * k) ≤ 2 ^ 64 := Nat.pow_le_pow_right (by decide) (by omega)
  have h4 : 0 < 2 ^ (8 * k) := Nat.two_pow_pos _
  rw [u64_and_nat _ _ hv (by omega), Nat.and_two_pow_sub_one_eq_mod]

/-- A call that answered v, and stored. -/
def Ended (v : Value) (g h : Nat) (m : Nat → Nat) (n : Nat) (c : Int) (w : World) (e : Ending) (w' : World) : Prop := e = .returned v ∧ Stored g h m n c w w'

theorem Stored.from_ {g h n : Nat} {m : Nat → Nat} {c : Int} {w w1 w2 : World} (hs : Stored g h m n c w1 w2) (ht : Touch (Two g h) w w1) : Stored g h m n c w w2 := ⟨hs.1, ht.trans hs.2⟩
theorem Stored.mk_ {g h n : Nat} {m : Nat → Nat} {c : Int} {w w1 : World} (hb : Buf w1 g h m n c) (ht : Touch (Two g h) w w1) : Stored g h m n c w w1 := ⟨hb, ht⟩
/-- A store into a block that was not there before. -/
theorem Stored.setNew {g h n : Nat} {m : Nat → Nat} {c : Int} {w w1 : World} (hs : Stored g h m n c w w1) (hg : g < w.heap.size) (hh : h < w.heap.size) {p : Addr} (hp : w.heap.size ≤ p.block) (u : Value) : Stored g h m n c w (w1.setCell p u) :=
  ⟨hs.1.setOther (by omega) (by omega) u, hs.2.setNew hp u⟩

set_option maxHeartbeats 1000000 in
theorem cas_hit {w : World} {g h n : Nat} {m : Nat → Nat} {c : Int} (B : Buf w g h m n c) (a k v u : Nat) (hk : a % 8 + k ≤ 8) (ha : a / 8 < n) (hv : v < 18446744073709551616) (hit : Mb.nm m a k = v % 2 ^ (8 * k)) (K : Int) (s : Value) :
    Calls Tryz.prog 70 #[.pointer (some ⟨g, 0, none⟩), .agg #[.int .i64 K, .int .i64 a, .int .i64 k, .int .u64 v, .int .u64 u, s]] w
      (Ended (.agg #[.int .u64 (Mb.nm m a k : Nat), .bool true, .slice none 0 0]) g h (Mb.put m a k u) n c w) := by
  have hs := B.slice
  have hw := B.word ha
  have hz := B.word_free (a / 8)
  have hf := B.few
  have hx := Mb.wd_lt B.bytes (a / 8)
  have hP := Mb.part_nm B.bytes a k hk
  have hM := Mb.mix_wd B.bytes a k u hk
  have hA := and_mask_u64 v k hv (by omega)
  rw [← hit] at hA
  have HB := Lib.hid B
  have HP := Lib.hid hP
  have HM := Lib.hid hM
  have HA := Lib.hid hA
  have hg := B.g_lt
  have hh := B.h_lt
  clear B hP hM hA hit hv
  go_enter Tryz.func70, Tryz.ntmps70
  go_wp2
  go_quiet (fail)
  go_wp2
  refine wp_loop_rounds 1 ?_
  rw [rounds_succ]
  go_wp2_with (first
    | (go_at_call 83; refine (load64 _ _ _ _ ((((HB.out.alloc _).alloc _).drewN _).word ha)).mono ?_; rintro e w' ⟨rfl, rfl⟩)
    | (go_at_call 82; refine (part_any _ _ _ _ hx (by omega) (by omega)).mono ?_; rintro e w' ⟨rfl, j, rfl⟩; rw [HP.out]))
  have hA := HA.out
  go_quiet ((go_at_call 90; exact quiet_of_eq2 (mbMask_any _ _ (by omega))))
  go_wp2_with (first
    | (go_at_call 88; refine (mixed_any _ _ _ _ _ hx (by omega) hk).mono ?_; rintro e w' ⟨rfl, rfl⟩; rw [HM.out])
    | (go_at_call 87; refine (cas64 _ _ _ _ _ ((((HB.out.alloc _).alloc _).drewN _).word ha) ((((HB.out.alloc _).alloc _).drewN _).word_free _)).mono ?_; rintro e w' ⟨rfl, rfl⟩))
  refine bodyPost_ret (v := .agg #[.int .u64 (Mb.nm m a k : Nat), .bool true, .slice none 0 0]) ?_ rfl ?_
  · simp [results, Tryz.results70, go_sem]
  · refine ⟨rfl, ?_⟩
    have hB3 := fun N => ((HB.out.alloc (.cells #[.int .i64 K, .int .i64 a, .int .i64 k, .int .u64 v, .int .u64 u, s] 58)).alloc (.cells #[.int .u64 0, .bool false, .slice none 0 0] 50)).drewN N
    have ht := fun N => ((((Touch.refl (Two g h) w).alloc (.cells #[.int .i64 K, .int .i64 a, .int .i64 k, .int .u64 v, .int .u64 u, s] 58)).alloc (.cells #[.int .u64 0, .bool false, .slice none 0 0] 50)).drewN N)
    exact (((((hB3 _).stored a k u hk).from_ (ht _)).setNew hg hh (Nat.le_succ _) _).setNew hg hh (Nat.le_succ _) _).setNew hg hh (Nat.le_succ _) _

set_option maxHeartbeats 1000000 in
theorem cas_miss {w : World} {g h n : Nat} {m : Nat → Nat} {c : Int} (B : Buf w g h m n c) (a k v u : Nat) (hk : a % 8 + k ≤ 8) (ha : a / 8 < n) (hv : v < 18446744073709551616) (miss : ¬ Mb.nm m a k = v % 2 ^ (8 * k)) (K : Int) (s : Value) :
    Calls Tryz.prog 70 #[.pointer (some ⟨g, 0, none⟩), .agg #[.int .i64 K, .int .i64 a, .int .i64 k, .int .u64 v, .int .u64 u, s]] w
      (Ended (.agg #[.int .u64 (Mb.nm m a k : Nat), .bool false, .slice none 0 0]) g h m n c w) := by
  have hs := B.slice
  have hf := B.few
  have hx := Mb.wd_lt B.bytes (a / 8)
  have hP := Mb.part_nm B.bytes a k hk
  have hA := and_mask_u64 v k hv (by omega)
  have hne : ((Mb.nm m a k : Nat) : Int) ≠ ((v % 2 ^ (8 * k) : Nat) : Int) := fun e => miss (Int.ofNat_inj.1 e)
  generalize hq : v % 2 ^ (8 * k) = q at hA hne
  have hN : (((Mb.nm m a k : Nat) : Int) != (q : Int)) = true := by simpa using hne
  have HB := Lib.hid B
  have HP := Lib.hid hP
  have HA := Lib.hid hA
  have hg := B.g_lt
  have hh := B.h_lt
  clear B hP hA miss hv hne hq
  go_enter Tryz.func70, Tryz.ntmps70
  go_wp2
  go_quiet (fail)
  go_wp2
  refine wp_loop_rounds 1 ?_
  rw [rounds_succ]
  go_wp2_with (first
    | (go_at_call 83; refine (load64 _ _ _ _ ((((HB.out.alloc _).alloc _).drewN _).word ha)).mono ?_; rintro e w' ⟨rfl, rfl⟩)
    | (go_at_call 82; refine (part_any _ _ _ _ hx (by omega) (by omega)).mono ?_; rintro e w' ⟨rfl, j, rfl⟩; rw [HP.out]))
  have hA := HA.out
  go_quiet ((go_at_call 90; exact quiet_of_eq2 (mbMask_any _ _ (by omega))))
  go_wp2
  refine bodyPost_ret (v := .agg #[.int .u64 (Mb.nm m a k : Nat), .bool false, .slice none 0 0]) ?_ rfl ?_
  · simp [results, Tryz.results70, go_sem]
  · refine ⟨rfl, ?_⟩
    have hB3 := fun N => ((HB.out.alloc (.cells #[.int .i64 K, .int .i64 a, .int .i64 k, .int .u64 v, .int .u64 u, s] 58)).alloc (.cells #[.int .u64 0, .bool false, .slice none 0 0] 50)).drewN N
    have ht := fun N => ((((Touch.refl (Two g h) w).alloc (.cells #[.int .i64 K, .int .i64 a, .int .i64 k, .int .u64 v, .int .u64 u, s] 58)).alloc (.cells #[.int .u64 0, .bool false, .slice none 0 0] 50)).drewN N)
    exact (((Stored.mk_ (hB3 _) (ht _)).setNew hg hh (Nat.le_succ _) _).setNew hg hh (Nat.le_succ _) _).setNew hg hh (Nat.le_succ _) _
end Go.Proofs.YtbfgbnalnjdheaaGreat
namespace Go.Proofs.YtbfgbnalnjdheaaGreat
open Go.RowKit

/-- A call that answered V, D and the bytes xs, and left the buffer with the bytes m. -/
def Answered (V : Nat) (D : Bool) (xs : List Int) (g h : Nat) (m : Nat → Nat) (n : Nat) (c : Int) (w : World) (e : Ending) (w' : World) : Prop :=
  ∃ s, e = .returned (.agg #[.int .u64 V, .bool D, s]) ∧ BytesAt w' s xs ∧ Stored g h m n c w w'

/-- An access was boxed, and a place for the answer made: what stands where. -/
structure Boxed (w W : World) (K P N V U : Int) (s : Value) : Prop where
  c0 : W.cell? ⟨w.heap.size, 0, none⟩ = some (.int .i64 K)
  c1 : W.cell? ⟨w.heap.size, 1, none⟩ = some (.int .i64 P)
  c2 : W.cell? ⟨w.heap.size, 2, none⟩ = some (.int .i64 N)
  c3 : W.cell? ⟨w.heap.size, 3, none⟩ = some (.int .u64 V)
  c4 : W.cell? ⟨w.heap.size, 4, none⟩ = some (.int .u64 U)
  c5 : W.cell? ⟨w.heap.size, 5, none⟩ = some s
  a0 : W.cell? ⟨w.heap.size + 1, 0, none⟩ = some (.int .u64 0)
  a1 : W.cell? ⟨w.heap.size + 1, 1, none⟩ = some (.bool false)
  a2 : W.cell? ⟨w.heap.size + 1, 2, none⟩ = some (.slice none 0 0)
  f0 : W.frozen? ⟨w.heap.size + 1, 0, none⟩ = false
  f1 : W.frozen? ⟨w.heap.size + 1, 1, none⟩ = false
  f2 : W.frozen? ⟨w.heap.size + 1, 2, none⟩ = false
  size : W.heap.size = w.heap.size + 2
  below : Below w.heap.size w W

theorem boxed (w : World) (K P N V U : Int) (s : Value) :
    Boxed w ((w.alloc (.cells #[.int .i64 K, .int .i64 P, .int .i64 N, .int .u64 V, .int .u64 U, s] 58)).alloc (.cells #[.int .u64 0, .bool false, .slice none 0 0] 50)) K P N V U s := by
  refine ⟨?_, ?_, ?_, ?_, ?_, ?_, ?_, ?_, ?_, ?_, ?_, ?_, ?_, ((Below.refl _ _).alloc (Nat.le_refl _) _).alloc (by simp) _⟩
  all_goals go_simp

theorem Stored.drew {g h n : Nat} {m : Nat → Nat} {c : Int} {w w1 : World} (hs : Stored g h m n c w w1) : Stored g h m n c w w1.drew := ⟨hs.1.drew, hs.2.drew⟩

set_option maxHeartbeats 1000000 in
theorem access_add {w : World} {g h n : Nat} {m : Nat → Nat} {c : Int} (B : Buf w g h m n c) (a v : Nat) (hk : a % 8 = 0) (ha : a / 8 < n) (u : Int) (s : Value) :
    Calls Tryz.prog 41 #[.pointer (some ⟨g, 0, none⟩), .agg #[.int .i64 3, .int .i64 a, .int .i64 8, .int .u64 v, .int .u64 u, s]] w
      (Answered (Mb.nm m a 8) false [] g h (Mb.put m a 8 (Mb.nm m a 8 + v)) n c w) := by
  have hg := B.g_lt
  have hh := B.h_lt
  have HX := boxed w 3 a 8 v u s
  have HB0 := (B.alloc (.cells #[.int .i64 3, .int .i64 a, .int .i64 8, .int .u64 v, .int .u64 u, s] 58)).alloc (.cells #[.int .u64 0, .bool false, .slice none 0 0] 50)
  have hf := B.few
  have hi1 : (a : Int) / 8 < (n : Int) := by omega
  have hi0 : 0 ≤ (a : Int) / 8 := by omega
  have hi2 : ((a : Int) / 8).toNat = a / 8 := by omega
  have hi3 : IntKind.i64.wrap ((a : Int) / 8) = (a : Int) / 8 := IntWalk.i64_in _ (by omega)
  go_enter Tryz.func41, Tryz.ntmps41
  go_wp2
  generalize (w.alloc (.cells #[.int .i64 3, .int .i64 (a : Int), .int .i64 8, .int .u64 (v : Int), .int .u64 u, s] 58)).alloc (.cells #[.int .u64 0, .bool false, .slice none 0 0] 50) = W at HX HB0 ⊢
  have hs := HB0.slice
  have n0 : ¬ h = g := fun e => HB0.ne e.symm
  have n1 : ¬ h = w.heap.size := by omega
  have n3 : ¬ h = w.heap.size + 1 := by omega
  have n4 : ¬ w.heap.size + 1 = h := by omega
  have n5 : ¬ w.heap.size + 1 = g := by omega
  obtain ⟨c0, c1, c2, c3, c4, c5, a0, a1, a2, f0, f1, f2, hz, hb⟩ := HX
  go_region_held3 (fun w' => w'.cell? ⟨g, 0, none⟩ = some (.slice (some ⟨h, 0, none⟩) n n) ∧ w'.cell? ⟨w.heap.size, 1, none⟩ = some (.int .i64 (a : Int)) ∧ w'.cell? ⟨w.heap.size, 3, none⟩ = some (.int .u64 (v : Int)))
    (go_keep)
    (first | (go_at_call 69; refine (add64 h (a / 8) _ _ _ (HB0.drew.word ha) (HB0.drew.word_free _)).mono ?_; rintro e w' ⟨rfl, rfl⟩))
  go_wp2
  refine bodyPost_ret (v := .agg #[.int .u64 (Mb.nm m a 8 : Nat), .bool false, .slice none 0 0]) ?_ rfl ?_
  · simp [results, Tryz.results41, go_sem, a0, a1, a2]
    rw [Mb.wd_nm m a hk, IntKind.wrap_u64, IntKind.wrap_u64]
    have := Mb.nm_lt HB0.bytes a 8
    omega
  · refine ⟨_, rfl, BytesAt.nil _, ?_⟩
    have e : IntKind.u64.wrap (((Mb.wd m (a / 8) : Nat) : Int) + (v : Int)) = ((Mb.wd (Mb.put m a 8 (Mb.nm m a 8 + v)) (a / 8) : Nat) : Int) := by
      rw [Mb.wd_put_mod _ _ _ hk, Mb.wd_nm m a hk, IntKind.wrap_u64]
      omega
    rw [e]
    exact ((((HB0.stored a 8 (Mb.nm m a 8 + v) (by omega)).from_ (Touch.of_below hb)).setNew hg hh (Nat.le_succ _) _).setNew hg hh (Nat.le_succ _) _).setNew hg hh (Nat.le_succ _) _ |>.drew
end Go.Proofs.YtbfgbnalnjdheaaGreat
namespace Go.Proofs.YtbfgbnalnjdheaaGreat
open Go.RowKit

/-- The place for an answer, in block b. -/
structure AnsAt (b : Nat) (W : World) : Prop where
  a0 : W.cell? ⟨b, 0, none⟩ = some (.int .u64 0)
  a1 : W.cell? ⟨b, 1, none⟩ = some (.bool false)
  a2 : W.cell? ⟨b, 2, none⟩ = some (.slice none 0 0)
  f0 : W.frozen? ⟨b, 0, none⟩ = false
  f1 : W.frozen? ⟨b, 1, none⟩ = false
  f2 : W.frozen? ⟨b, 2, none⟩ = false
  blk : W.heap[b]? = some (.cells #[.int .u64 0, .bool false, .slice none 0 0] 50 (0, 0))

theorem AnsAt.of_blk {b : Nat} {W : World} (hb : W.heap[b]? = some (.cells #[.int .u64 0, .bool false, .slice none 0 0] 50 (0, 0))) : AnsAt b W := by
  refine ⟨?_, ?_, ?_, ?_, ?_, ?_, hb⟩
  all_goals simp [World.cell?, World.frozen?, hb]

theorem ans_touch {w w1 : World} {o : Obj} {g h : Nat} (ht : Touch (Two g h) ((w.alloc o).alloc (.cells #[.int .u64 0, .bool false, .slice none 0 0] 50)) w1) (hg : g < w.heap.size) (hh : h < w.heap.size) : AnsAt (w.heap.size + 1) w1 := by
  have hn : ¬ Two g h (w.heap.size + 1) := fun e => by rcases e with e | e <;> omega
  have hk := ht.block (w.heap.size + 1) (by simp) hn
  have e : (w.alloc o).heap.size = w.heap.size + 1 := by simp
  have hb : w1.heap[w.heap.size + 1]? = some (.cells #[.int .u64 0, .bool false, .slice none 0 0] 50 (0, 0)) := by
    rw [hk, ← e]
    exact Go.Deep.blk_alloc_new _ _
  exact .of_blk hb

/-- An answer is stored: bytes that stand elsewhere stay. -/
theorem BytesAt.answer {W : World} {v : Value} {xs : List Int} {b : Nat} (hv : BytesAt W v xs) (ha : AnsAt b W) (x y z : Value) : BytesAt (((W.setCell ⟨b, 0, none⟩ x).setCell ⟨b, 1, none⟩ y).setCell ⟨b, 2, none⟩ z) v xs := by
  obtain ⟨A, cap, hv, h⟩ := hv
  refine ⟨A, cap, hv, fun hp => ?_⟩
  obtain ⟨d, off, h1, h3, h4⟩ := h hp
  have hne : d ≠ b := by
    intro e
    subst e
    have h5 := h4 0 hp
    simp only [World.cell?, ha.blk] at h5
    match off, h5 with
    | 0, h5 => simp at h5
    | 1, h5 => simp at h5
    | 2, h5 => simp at h5
    | k + 3, h5 => simp at h5
  refine ⟨d, off, h1, by simpa [World.setCell] using h3, fun i hi => ?_⟩
  rw [← h4 i hi]
  refine World.cell?_of_block ?_
  rw [Below.heap_setCell _ _ _ _ hne, Below.heap_setCell _ _ _ _ hne, Below.heap_setCell _ _ _ _ hne]

theorem boxes_touch (S : Nat → Prop) (w : World) (o p : Obj) : Touch S w ((w.alloc o).alloc p) := ((Touch.refl S w).alloc o).alloc p

set_option maxHeartbeats 1000000 in
theorem access_load {w : World} {g h n : Nat} {m : Nat → Nat} {c : Int} (B : Buf w g h m n c) (a k : Nat) (hk : a % 8 + k ≤ 8) (ha : a / 8 < n) (v u : Int) (s : Value) :
    Calls Tryz.prog 41 #[.pointer (some ⟨g, 0, none⟩), .agg #[.int .i64 1, .int .i64 a, .int .i64 k, .int .u64 v, .int .u64 u, s]] w
      (Answered (Mb.nm m a k) false [] g h m n c w) := by
  have hg := B.g_lt
  have hh := B.h_lt
  have HB := Lib.hid B
  clear B
  go_enter Tryz.func41, Tryz.ntmps41
  go_wp2_with (go_at_call 57; refine (load_any ((HB.out.alloc _).alloc _) a k hk ha).mono ?_; rintro e w' ⟨rfl, j, rfl⟩)
  refine bodyPost_ret (v := .agg #[.int .u64 (Mb.nm m a k : Nat), .bool false, .slice none 0 0]) ?_ rfl ?_
  · simp [results, Tryz.results41, go_sem]
  · refine ⟨_, rfl, BytesAt.nil _, ?_⟩
    have HST := Stored.mk_ (((HB.out.alloc (.cells #[.int .i64 1, .int .i64 a, .int .i64 k, .int .u64 v, .int .u64 u, s] 58)).alloc (.cells #[.int .u64 0, .bool false, .slice none 0 0] 50)).drewN j) ((boxes_touch (Two g h) w _ _).drewN j)
    exact ((HST.setNew hg hh (Nat.le_succ _) _).setNew hg hh (Nat.le_succ _) _).setNew hg hh (Nat.le_succ _) _

set_option maxHeartbeats 1000000 in
theorem access_store {w : World} {g h n : Nat} {m : Nat → Nat} {c : Int} (B : Buf w g h m n c) (a k v : Nat) (hk : a % 8 + k ≤ 8) (ha : a / 8 < n) (hv : v < 18446744073709551616) (u : Int) (s : Value) :
    Calls Tryz.prog 41 #[.pointer (some ⟨g, 0, none⟩), .agg #[.int .i64 2, .int .i64 a, .int .i64 k, .int .u64 v, .int .u64 u, s]] w
      (Answered 0 false [] g h (Mb.put m a k v) n c w) := by
  have hg := B.g_lt
  have hh := B.h_lt
  have HB := Lib.hid B
  clear B
  go_enter Tryz.func41, Tryz.ntmps41
  go_wp2_with (go_at_call 68; refine (store_any ((HB.out.alloc _).alloc _) a k v hk ha hv).mono ?_; rintro e w1 ⟨rfl, hst⟩; obtain ⟨a0, a1, a2, f0, f1, f2, _⟩ := ans_touch hst.2 hg hh; have HST0 := Lib.hid hst; clear hst)
  refine bodyPost_ret (v := .agg #[.int .u64 0, .bool false, .slice none 0 0]) ?_ rfl ?_
  · simp [results, Tryz.results41, go_sem, a0, a1, a2]
  · refine ⟨_, rfl, BytesAt.nil _, ?_⟩
    have HST := HST0.out.from_ (boxes_touch (Two g h) w _ _)
    exact ((HST.setNew hg hh (Nat.le_succ _) _).setNew hg hh (Nat.le_succ _) _).setNew hg hh (Nat.le_succ _) _

set_option maxHeartbeats 1000000 in
theorem access_write {w : World} {g h n : Nat} {m : Nat → Nat} {c : Int} (B : Buf w g h m n c) (a k : Nat) (hin : a + k ≤ 8 * n) (hk8 : k ≤ 8) (v u : Int) {f : Nat → Nat} (hf : Mb.IsB f) (A : Option Addr) (cap : Nat) (hcap : k ≤ cap) (hcap2 : cap ≤ 9223372036854775807)
    (hv : BytesAt w (.slice A k cap) (Mb.bl f 0 k)) (N : Int) :
    Calls Tryz.prog 41 #[.pointer (some ⟨g, 0, none⟩), .agg #[.int .i64 6, .int .i64 a, .int .i64 N, .int .u64 v, .int .u64 u, .slice A k cap]] w
      (Answered 0 false [] g h (Mb.put m a k (Mb.nm f 0 k)) n c w) := by
  have hg := B.g_lt
  have hh := B.h_lt
  have HB := Lib.hid B
  have HV := Lib.hid hv
  clear B hv
  go_enter Tryz.func41, Tryz.ntmps41
  go_wp2_with (go_at_call 71; refine (write_any ((HB.out.alloc _).alloc _) a k hin hk8 hf A cap hcap hcap2 (HV.out.below (((Below.refl _ w).alloc (Nat.le_refl _) _).alloc (by simp) _))).mono ?_; rintro e w1 ⟨rfl, hst⟩; obtain ⟨a0, a1, a2, f0, f1, f2, _⟩ := ans_touch hst.2 hg hh; have HST0 := Lib.hid hst; clear hst)
  refine bodyPost_ret (v := .agg #[.int .u64 0, .bool false, .slice none 0 0]) ?_ rfl ?_
  · simp [results, Tryz.results41, go_sem, a0, a1, a2]
  · refine ⟨_, rfl, BytesAt.nil _, ?_⟩
    have HST := HST0.out.from_ (boxes_touch (Two g h) w _ _)
    exact ((HST.setNew hg hh (Nat.le_succ _) _).setNew hg hh (Nat.le_succ _) _).setNew hg hh (Nat.le_succ _) _

set_option maxHeartbeats 1000000 in
theorem access_read {w : World} {g h n : Nat} {m : Nat → Nat} {c : Int} (B : Buf w g h m n c) (a k : Nat) (hin : a + k ≤ 8 * n) (v u : Int) (s : Value) :
    Calls Tryz.prog 41 #[.pointer (some ⟨g, 0, none⟩), .agg #[.int .i64 5, .int .i64 a, .int .i64 k, .int .u64 v, .int .u64 u, s]] w
      (Answered 0 false (Mb.bl m a k) g h m n c w) := by
  have hg := B.g_lt
  have hh := B.h_lt
  have HB := Lib.hid B
  clear B
  go_enter Tryz.func41, Tryz.ntmps41
  go_wp2_with (go_at_call 31; refine (read_any ((HB.out.alloc _).alloc _) a k hin).mono ?_; rintro e w1 ⟨x, rfl, ⟨A, cp, rfl, hx⟩, hb⟩; have HA := Lib.hid (ans_touch (Touch.of_below (S := Two g h) hb) hg hh); obtain ⟨a0, a1, a2, f0, f1, f2, fb⟩ := HA.out; have HBe := Lib.hid hb; have HX : Hid (BytesAt w1 (.slice A (Mb.bl m a k).length cp) (Mb.bl m a k)) := Lib.hid ⟨A, cp, rfl, hx⟩; clear hb hx fb)
  refine bodyPost_ret (v := .agg #[.int .u64 0, .bool false, .slice A (Mb.bl m a k).length cp]) ?_ rfl ?_
  · simp [results, Tryz.results41, go_sem, a0, a1, a2]
  · refine ⟨_, rfl, HX.out.answer HA.out _ _ _, ?_⟩
    have HST := Stored.mk_ (((HB.out.alloc _).alloc _).below HBe.out) ((boxes_touch (Two g h) w _ _).trans (Touch.of_below HBe.out))
    exact ((HST.setNew hg hh (Nat.le_succ _) _).setNew hg hh (Nat.le_succ _) _).setNew hg hh (Nat.le_succ _) _
end Go.Proofs.YtbfgbnalnjdheaaGreat
