/-
  Plain numbers for layer 2 (membuf): a memory of bytes, its words, what a part of a word is, what storing does to the bytes; no statement of the program is proved here.
-/
import Derived.WalkKit
import Derived.Laws.Bits64b
import Derived.Laws.BitsAllLaws
import Derived.IntWalk
namespace Go.Proofs.Ytijgfaggakbajaa
namespace Mb
open Go

/-- Byte i of a number. -/
def byt (x i : Nat) : Nat := x / 2 ^ (8 * i) % 256
/-- The number of the n bytes from at on, the lowest first. -/
def nm (m : Nat → Nat) (at_ : Nat) : Nat → Nat
  | 0 => 0
  | n + 1 => nm m at_ n + m (at_ + n) * 2 ^ (8 * n)
/-- Word j. -/
def wd (m : Nat → Nat) (j : Nat) : Nat := nm m (8 * j) 8
/-- n bytes from at on are v's lowest; the others stay. -/
def put (m : Nat → Nat) (at_ n v : Nat) : Nat → Nat := fun k => if at_ ≤ k ∧ k < at_ + n then byt v (k - at_) else m k
def IsB (m : Nat → Nat) : Prop := ∀ k, m k < 256
/-- The bytes as a list. -/
def bl (m : Nat → Nat) (at_ n : Nat) : List Int := (List.range n).map fun i => ((m (at_ + i) : Nat) : Int)

theorem byt_lt (x i : Nat) : byt x i < 256 := Nat.mod_lt _ (by decide)

theorem put_isB {m : Nat → Nat} (h : IsB m) (a n v : Nat) : IsB (put m a n v) := by
  intro k
  unfold put
  split
  · exact byt_lt _ _
  · exact h k

theorem zero_isB : IsB (fun _ => 0) := fun _ => by show (0 : Nat) < 256; decide

theorem two_pow_next (n : Nat) : 2 ^ (8 * (n + 1)) = 2 ^ (8 * n) * 256 := by
  rw [Nat.mul_add, Nat.pow_add]

theorem nm_lt {m : Nat → Nat} (h : IsB m) (a n : Nat) : nm m a n < 2 ^ (8 * n) := by
  induction n with
  | zero => simp [nm]
  | succ n ih =>
    have hb := h (a + n)
    have h1 : m (a + n) * 2 ^ (8 * n) ≤ 255 * 2 ^ (8 * n) := Nat.mul_le_mul_right _ (by omega)
    rw [two_pow_next]
    show nm m a n + m (a + n) * 2 ^ (8 * n) < _
    omega

theorem wd_lt {m : Nat → Nat} (h : IsB m) (j : Nat) : wd m j < 18446744073709551616 := nm_lt h (8 * j) 8

/-- The n lowest bytes of a number make what is left of it. -/
theorem mod_next (x n : Nat) : x % 2 ^ (8 * (n + 1)) = x % 2 ^ (8 * n) + byt x n * 2 ^ (8 * n) := by
  rw [two_pow_next, Nat.mod_mul, Nat.mul_comm (2 ^ (8 * n))]
  rfl

theorem nm_of_bytes {m : Nat → Nat} (x a n : Nat) (h : ∀ i, i < n → m (a + i) = byt x i) : nm m a n = x % 2 ^ (8 * n) := by
  induction n with
  | zero => simp [nm, Nat.mod_one]
  | succ n ih =>
    show nm m a n + m (a + n) * 2 ^ (8 * n) = _
    rw [mod_next, ih (fun i hi => h i (by omega)), h n (by omega)]

theorem byt_nm {m : Nat → Nat} (h : IsB m) (a n i : Nat) (hi : i < n) : byt (nm m a n) i = m (a + i) := by
  induction n with
  | zero => omega
  | succ n ih =>
    have hlt := nm_lt h a n
    have hb := h (a + n)
    show byt (nm m a n + m (a + n) * 2 ^ (8 * n)) i = _
    by_cases hin : i = n
    · subst hin
      unfold byt
      rw [Nat.add_mul_div_right _ _ (Nat.two_pow_pos _), Nat.div_eq_of_lt hlt, Nat.zero_add]
      exact Nat.mod_eq_of_lt hb
    · rw [← ih (by omega)]
      unfold byt
      have e : 2 ^ (8 * n) = 2 ^ (8 * i) * (256 * 2 ^ (8 * (n - i - 1))) := by
        rw [show (256 : Nat) = 2 ^ 8 by decide, ← Nat.pow_add, ← Nat.pow_add]
        congr 1
        omega
      have e2 : m (a + n) * 2 ^ (8 * n) = 2 ^ (8 * i) * (256 * (m (a + n) * 2 ^ (8 * (n - i - 1)))) := by
        rw [e, Nat.mul_left_comm, Nat.mul_left_comm (m (a + n))]
      rw [e2, Nat.add_mul_div_left _ _ (Nat.two_pow_pos _), Nat.add_mul_mod_self_left]

/-- Bytes tell a number. -/
theorem byt_ext (x y n : Nat) (hx : x < 2 ^ (8 * n)) (hy : y < 2 ^ (8 * n)) (h : ∀ i, i < n → byt x i = byt y i) : x = y := by
  have e1 := nm_of_bytes (m := fun i => byt y i) y 0 n (fun i _ => by simp)
  have e2 := nm_of_bytes (m := fun i => byt y i) x 0 n (fun i hi => by simp [h i hi])
  rw [Nat.mod_eq_of_lt hx] at e2
  rw [Nat.mod_eq_of_lt hy] at e1
  exact e2.symm.trans e1

theorem byt_bit (x i j : Nat) : (byt x i).testBit j = (decide (j < 8) && x.testBit (8 * i + j)) := by
  unfold byt
  rw [show (256 : Nat) = 2 ^ 8 by decide, Nat.testBit_mod_two_pow, Nat.testBit_div_two_pow, Nat.add_comm]

/-- The part of a word. -/
theorem part_nm {m : Nat → Nat} (h : IsB m) (a n : Nat) (hn : a % 8 + n ≤ 8) : wd m (a / 8) / 2 ^ (8 * (a % 8)) % 2 ^ (8 * n) = nm m a n := by
  refine byt_ext _ _ n (Nat.mod_lt _ (Nat.two_pow_pos _)) (nm_lt h a n) fun i hi => ?_
  rw [byt_nm h a n i hi]
  have h1 := byt_nm h (8 * (a / 8)) 8 (a % 8 + i) (by omega)
  rw [show 8 * (a / 8) + (a % 8 + i) = a + i by omega] at h1
  rw [← h1]
  refine Nat.eq_of_testBit_eq fun j => ?_
  rw [byt_bit, byt_bit]
  by_cases hj : j < 8
  · rw [Nat.testBit_mod_two_pow, Nat.testBit_div_two_pow, show decide (8 * i + j < 8 * n) = true by simp; omega, Bool.true_and]
    show (decide (j < 8) && (nm m (8 * (a / 8)) 8).testBit (8 * i + j + 8 * (a % 8))) = _
    rw [show 8 * i + j + 8 * (a % 8) = 8 * (a % 8 + i) + j by omega]
  · simp [hj]

/-- The mask of n bytes above s bytes. -/
def mk (s n : Nat) : Nat := (2 ^ (8 * n) - 1) * 2 ^ (8 * s)

theorem mk_lt (s n : Nat) (h : s + n ≤ 8) : mk s n < 18446744073709551616 := by
  unfold mk
  have h1 : 0 < 2 ^ (8 * n) := Nat.two_pow_pos _
  have h2 : 0 < 2 ^ (8 * s) := Nat.two_pow_pos _
  have h3 : 2 ^ (8 * n) * 2 ^ (8 * s) ≤ 2 ^ 64 := by
    rw [← Nat.pow_add]
    exact Nat.pow_le_pow_right (by decide) (by omega)
  have h4 : (2 ^ (8 * n) - 1) * 2 ^ (8 * s) = 2 ^ (8 * n) * 2 ^ (8 * s) - 2 ^ (8 * s) := by rw [Nat.sub_mul, Nat.one_mul]
  have h5 : 2 ^ (8 * s) ≤ 2 ^ (8 * n) * 2 ^ (8 * s) := Nat.le_mul_of_pos_left _ h1
  omega

theorem mk_bit (s n i : Nat) : (mk s n).testBit i = decide (8 * s ≤ i ∧ i < 8 * s + 8 * n) := by
  unfold mk
  rw [← Nat.shiftLeft_eq, Nat.testBit_shiftLeft, Nat.testBit_two_pow_sub_one]
  rw [Bool.eq_iff_iff]
  simp
  omega

/-- What mixed makes of a word x, s bytes up, n bytes wide, of v. -/
def mixN (x s n v : Nat) : Nat := (x &&& (18446744073709551615 - mk s n)) ||| (v * 2 ^ (8 * s) % 18446744073709551616 &&& mk s n)

theorem mixN_lt (x s n v : Nat) (h : s + n ≤ 8) : mixN x s n v < 18446744073709551616 := by
  have h1 : x &&& (18446744073709551615 - mk s n) < 2 ^ 64 := Nat.and_lt_two_pow _ (by omega)
  have h2 : v * 2 ^ (8 * s) % 18446744073709551616 &&& mk s n < 2 ^ 64 := Nat.and_lt_two_pow _ (mk_lt s n h)
  exact Nat.or_lt_two_pow h1 h2

theorem mixN_bit (x s n v i : Nat) (h : s + n ≤ 8) (hi : i < 64) :
    (mixN x s n v).testBit i = if 8 * s ≤ i ∧ i < 8 * s + 8 * n then v.testBit (i - 8 * s) else x.testBit i := by
  unfold mixN
  have hm := mk_lt s n h
  have e : 18446744073709551615 - mk s n = 2 ^ 64 - (mk s n + 1) := by omega
  rw [e, Nat.testBit_or, Nat.testBit_and, Nat.testBit_and, Nat.testBit_two_pow_sub_succ hm, mk_bit, show (18446744073709551616 : Nat) = 2 ^ 64 by decide, Nat.testBit_mod_two_pow, ← Nat.shiftLeft_eq, Nat.testBit_shiftLeft]
  by_cases hc : 8 * s ≤ i ∧ i < 8 * s + 8 * n
  · rw [if_pos hc]
    simp [hc, hi]
  · rw [if_neg hc]
    simp [hc, hi]

theorem mix_wd {m : Nat → Nat} (h : IsB m) (a n v : Nat) (hn : a % 8 + n ≤ 8) : mixN (wd m (a / 8)) (a % 8) n v = wd (put m a n v) (a / 8) := by
  refine byt_ext _ _ 8 (mixN_lt _ _ _ _ hn) (wd_lt (put_isB h a n v) _) fun i hi => ?_
  have h1 : byt (wd (put m a n v) (a / 8)) i = put m a n v (8 * (a / 8) + i) := byt_nm (put_isB h a n v) (8 * (a / 8)) 8 i hi
  have h2 : byt (wd m (a / 8)) i = m (8 * (a / 8) + i) := byt_nm h (8 * (a / 8)) 8 i hi
  rw [h1]
  unfold put
  refine Nat.eq_of_testBit_eq fun j => ?_
  by_cases hj : j < 8
  · rw [byt_bit, mixN_bit _ _ _ _ _ hn (by omega)]
    by_cases hc : a ≤ 8 * (a / 8) + i ∧ 8 * (a / 8) + i < a + n
    · rw [if_pos hc, if_pos (by omega), byt_bit]
      rw [show 8 * i + j - 8 * (a % 8) = 8 * (8 * (a / 8) + i - a) + j by omega]
    · rw [if_neg hc, if_neg (by omega), ← h2, byt_bit]
  · have l1 : byt (mixN (wd m (a / 8)) (a % 8) n v) i < 2 ^ j := Nat.lt_of_lt_of_le (byt_lt _ _) (Nat.pow_le_pow_right (n := 2) (i := 8) (by decide) (by omega))
    have l2 : (if a ≤ 8 * (a / 8) + i ∧ 8 * (a / 8) + i < a + n then byt v (8 * (a / 8) + i - a) else m (8 * (a / 8) + i)) < 2 ^ j := by
      have := put_isB h a n v (8 * (a / 8) + i)
      exact Nat.lt_of_lt_of_le this (Nat.pow_le_pow_right (n := 2) (i := 8) (by decide) (by omega))
    rw [Nat.testBit_lt_two_pow l1, Nat.testBit_lt_two_pow l2]

theorem wd_congr {m m' : Nat → Nat} (j : Nat) (h : ∀ i, i < 8 → m' (8 * j + i) = m (8 * j + i)) : wd m' j = wd m j := by
  unfold wd
  have : ∀ n, n ≤ 8 → nm m' (8 * j) n = nm m (8 * j) n := by
    intro n
    induction n with
    | zero => intro _; rfl
    | succ n ih =>
      intro hn
      show nm m' (8 * j) n + m' (8 * j + n) * _ = nm m (8 * j) n + m (8 * j + n) * _
      rw [ih (by omega), h n (by omega)]
  exact this 8 (by omega)

theorem wd_put_other (m : Nat → Nat) (a n v j : Nat) (hn : a % 8 + n ≤ 8) (hj : j ≠ a / 8) : wd (put m a n v) j = wd m j := by
  refine wd_congr j fun i hi => ?_
  unfold put
  rw [if_neg (by omega)]

/-- What stands where a number of n bytes was stored. -/
theorem nm_put (m : Nat → Nat) (a n v : Nat) : nm (put m a n v) a n = v % 2 ^ (8 * n) := by
  refine nm_of_bytes v a n fun i hi => ?_
  unfold put
  rw [if_pos (by omega)]
  congr 1
  omega

theorem wd_put_mod (m : Nat → Nat) (a v : Nat) (ha : a % 8 = 0) : wd (put m a 8 v) (a / 8) = v % 18446744073709551616 := by
  unfold wd
  rw [show 8 * (a / 8) = a by omega, nm_put]

theorem wd_put (m : Nat → Nat) (a v : Nat) (ha : a % 8 = 0) (hv : v < 18446744073709551616) : wd (put m a 8 v) (a / 8) = v := by
  unfold wd
  rw [show 8 * (a / 8) = a by omega, nm_put]
  exact Nat.mod_eq_of_lt hv

theorem wd_nm (m : Nat → Nat) (a : Nat) (ha : a % 8 = 0) : wd m (a / 8) = nm m a 8 := by
  unfold wd
  rw [show 8 * (a / 8) = a by omega]

theorem nm_congr {m m' : Nat → Nat} (a n : Nat) (h : ∀ i, i < n → m' (a + i) = m (a + i)) : nm m' a n = nm m a n := by
  induction n with
  | zero => rfl
  | succ n ih =>
    show nm m' a n + m' (a + n) * _ = nm m a n + m (a + n) * _
    rw [ih (fun i hi => h i (by omega)), h n (by omega)]

theorem bl_length (m : Nat → Nat) (a n : Nat) : (bl m a n).length = n := by simp [bl]
theorem bl_getD (m : Nat → Nat) (a n i : Nat) (h : i < n) : (bl m a n).getD i 0 = ((m (a + i) : Nat) : Int) := by simp [bl, List.getD, h]
theorem bl_append (m : Nat → Nat) (a n k : Nat) : bl m a (n + k) = bl m a n ++ bl m (a + n) k := by
  unfold bl
  rw [List.range_add, List.map_append, List.map_map]
  congr 1
  refine List.map_congr_left fun i _ => ?_
  simp [Nat.add_assoc]

/-- Storing twice at one place: the second counts. -/
theorem put_put (m : Nat → Nat) (a n v u : Nat) : put (put m a n v) a n u = put m a n u := by
  funext k
  unfold put
  split <;> rfl
end Mb
end Go.Proofs.Ytijgfaggakbajaa
