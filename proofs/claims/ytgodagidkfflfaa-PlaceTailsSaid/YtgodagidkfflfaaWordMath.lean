/-
  Plain arithmetic for layer 1 (word): powers of two, what is left, the next multiple, as functions of integers; no statement of the program is proved here.
-/
import Derived.WalkKit
import Derived.Laws.Bits64b
import Derived.Laws.BitsAllLaws
import Derived.IntWalk
import Derived.Lib.TrailingZeros
namespace Go.Proofs.Ytgodagidkfflfaa
namespace Wd
open Go

/-- Is the number a power of two that an int64 holds? -/
def isP (n : Int) : Bool := (List.range 63).any fun k => n == 2 ^ k
def lg (n : Int) : Int := if isP n = true then (n.toNat.log2 : Int) else 0
def mk (n to : Int) : Int := if isP to = true then n % to else 0
def alOk (n to : Int) : Bool := isP to && (decide (0 ≤ n) && decide (n ≤ 4611686018427387904))
def al (n to : Int) : Int := if alOk n to = true then (n + to - 1) / to * to else 0

theorem isP_iff (n : Int) : isP n = true ↔ ∃ k : Nat, k < 63 ∧ n = 2 ^ k := by
  unfold isP
  simp [List.any_eq_true]

theorem isP_pow (k : Nat) (hk : k < 63) : isP (2 ^ k) = true := (isP_iff _).2 ⟨k, hk, rfl⟩

theorem pow_cast (k : Nat) : ((2 : Int) ^ k) = ((2 ^ k : Nat) : Int) := by simp

theorem pow_bounds (k : Nat) (hk : k < 63) : (1 : Int) ≤ 2 ^ k ∧ (2 : Int) ^ k ≤ 4611686018427387904 := by
  have h1 : 2 ^ k ≤ 2 ^ 62 := Nat.pow_le_pow_right (by decide) (by omega)
  have h2 : 0 < 2 ^ k := Nat.two_pow_pos k
  rw [pow_cast]
  omega

theorem lg_pow (k : Nat) (hk : k < 63) : lg (2 ^ k) = k := by
  unfold lg
  rw [if_pos (isP_pow k hk), pow_cast, Int.toNat_natCast, Nat.log2_two_pow]

theorem isP_bounds {n : Int} (h : isP n = true) : 1 ≤ n ∧ n ≤ 4611686018427387904 := by
  obtain ⟨k, hk, rfl⟩ := (isP_iff n).1 h
  exact pow_bounds k hk

theorem ofInt64_toNat (n : Int) : ((BitVec.ofInt 64 n).toNat : Int) = n % 18446744073709551616 := by
  rw [BitVec.toNat_ofInt]
  have : (0 : Int) ≤ n % ((2 ^ 64 : Nat) : Int) := Int.emod_nonneg _ (by decide)
  rw [Int.toNat_of_nonneg this]
  rfl

theorem ofInt64_nat (a : Nat) (ha : a < 18446744073709551616) : (BitVec.ofInt 64 (a : Int)).toNat = a := by
  rw [BitVec.ofInt_natCast, BitVec.toNat_ofNat]; exact Nat.mod_eq_of_lt (by omega)

theorem and_i64_nat (a b : Nat) (ha : a < 9223372036854775808) (hb : b < 9223372036854775808) : bits .and .i64 (a : Int) (b : Int) = ((a &&& b : Nat) : Int) := by
  have hx : a &&& b < 2 ^ 63 := Nat.and_lt_two_pow _ (by omega)
  show IntKind.i64.wrap ((BitVec.ofInt 64 (a : Int) &&& BitVec.ofInt 64 (b : Int)).toNat : Int) = _
  rw [BitVec.toNat_and, ofInt64_nat a (by omega), ofInt64_nat b (by omega), IntKind.wrap_i64]
  omega

/-- n & (n − 1) is 0 just at powers. -/
theorem and_pred (n : Int) (h0 : 0 < n) (h1 : n ≤ 9223372036854775807) : (bits BinOp.and IntKind.i64 n (n - 1) == 0) = isP n := by
  obtain ⟨a, rfl⟩ := Int.eq_ofNat_of_zero_le (by omega : 0 ≤ n)
  have e : ((a : Int) - 1) = ((a - 1 : Nat) : Int) := by omega
  rw [e, and_i64_nat a (a - 1) (by omega) (by omega), Bool.eq_iff_iff, isP_iff]
  have ha : a ≠ 0 := by omega
  have hb : ((((a &&& a - 1 : Nat) : Int) == 0) = true) ↔ (a &&& a - 1 = 0) := by simp
  rw [hb, Nat.and_sub_one_eq_zero_iff_isPowerOfTwo ha]
  constructor
  · rintro ⟨k, hk⟩
    refine ⟨k, ?_, by rw [hk, pow_cast]⟩
    have : 2 ^ k < 2 ^ 63 := by rw [← hk]; omega
    exact (Nat.pow_lt_pow_iff_right (by decide)).1 this
  · rintro ⟨k, _, hk⟩
    refine ⟨k, ?_⟩
    rw [pow_cast] at hk
    exact_mod_cast hk

/-- n & (2^k − 1) is what is left of n. -/
theorem and_mask (n to : Int) (h : isP to = true) : bits BinOp.and IntKind.i64 n (to - 1) = n % to := by
  obtain ⟨k, hk, rfl⟩ := (isP_iff to).1 h
  have hb := pow_bounds k hk
  have hp : 0 < 2 ^ k := Nat.two_pow_pos k
  have e : ((2 : Int) ^ k - 1) = ((2 ^ k - 1 : Nat) : Int) := by rw [pow_cast]; omega
  have hlt : (2 ^ k - 1 : Nat) < 18446744073709551616 := by rw [pow_cast] at hb; omega
  show IntKind.i64.wrap ((BitVec.ofInt 64 n &&& BitVec.ofInt 64 ((2 : Int) ^ k - 1)).toNat : Int) = _
  rw [BitVec.toNat_and, e, ofInt64_nat _ hlt, Nat.and_two_pow_sub_one_eq_mod, Int.natCast_emod, ofInt64_toNat, ← pow_cast,
    Int.emod_emod_of_dvd n (by
      have h64 : (18446744073709551616 : Int) = 2 ^ k * 2 ^ (64 - k) := by
        rw [← Int.pow_add, show k + (64 - k) = 64 by omega]; decide
      rw [h64]; exact Int.dvd_mul_right _ _)]
  have := Int.emod_nonneg n (by omega : (2 : Int) ^ k ≠ 0)
  have := Int.emod_lt_of_pos n (by omega : (0 : Int) < 2 ^ k)
  exact IntWalk.i64_in _ (by omega)

theorem nat_andNot (m k : Nat) (hk : k < 63) (hm : m < 18446744073709551616) : m &&& (18446744073709551615 - (2 ^ k - 1)) = m / 2 ^ k * 2 ^ k := by
  have hp : 0 < 2 ^ k := Nat.two_pow_pos k
  have hle : 2 ^ k ≤ 2 ^ 62 := Nat.pow_le_pow_right (by decide) (by omega)
  have e : 18446744073709551615 - (2 ^ k - 1) = 2 ^ 64 - ((2 ^ k - 1) + 1) := by omega
  rw [e]
  apply Nat.eq_of_testBit_eq
  intro i
  rw [Nat.testBit_and, Nat.testBit_two_pow_sub_succ (by omega), Nat.testBit_two_pow_sub_one, Nat.testBit_mul_two_pow, Nat.testBit_div_two_pow]
  by_cases h64 : i < 64
  · by_cases hki : k ≤ i
    · have : ¬ i < k := by omega
      simp [h64, hki, this]
    · have : i < k := by omega
      simp [h64, hki, this]
  · have hz : m.testBit i = false := Nat.testBit_lt_two_pow (Nat.lt_of_lt_of_le hm (by
      have : 2 ^ 64 ≤ 2 ^ i := Nat.pow_le_pow_right (by decide) (by omega)
      omega))
    by_cases hki : k ≤ i
    · simp [h64, hki, hz]
    · simp [h64, hki]

/-- m &^ (2^k − 1) is the multiple below. -/
theorem andNot_mask (m to : Int) (h : isP to = true) (h0 : 0 ≤ m) (h1 : m ≤ 9223372036854775807) : bits BinOp.andNot IntKind.i64 m (to - 1) = m / to * to := by
  obtain ⟨k, hk, rfl⟩ := (isP_iff to).1 h
  obtain ⟨a, rfl⟩ := Int.eq_ofNat_of_zero_le h0
  have hb := pow_bounds k hk
  have hp : 0 < 2 ^ k := Nat.two_pow_pos k
  have e : ((2 : Int) ^ k - 1) = ((2 ^ k - 1 : Nat) : Int) := by rw [pow_cast]; omega
  have hlt : (2 ^ k - 1 : Nat) < 18446744073709551616 := by rw [pow_cast] at hb; omega
  show IntKind.i64.wrap ((BitVec.ofInt 64 (a : Int) &&& ~~~ BitVec.ofInt 64 ((2 : Int) ^ k - 1)).toNat : Int) = _
  rw [BitVec.toNat_and, BitVec.toNat_not, e, ofInt64_nat _ hlt, ofInt64_nat a (by omega)]
  have e2 : 2 ^ 64 - 1 - (2 ^ k - 1) = 18446744073709551615 - (2 ^ k - 1) := by omega
  rw [e2, nat_andNot a k hk (by omega), Int.natCast_mul, Int.natCast_ediv, ← pow_cast]
  have h2 : (a : Int) / 2 ^ k * 2 ^ k ≤ a := Int.ediv_mul_le _ (by omega)
  have h3 : 0 ≤ (a : Int) / 2 ^ k * 2 ^ k := Int.mul_nonneg (Int.ediv_nonneg (by omega) (by omega)) (by omega)
  exact IntWalk.i64_in _ (by omega)

/-- Go's remainder, raised where it is below 0, is what is left. -/
theorem tmod_mask (n to : Int) (h : 0 < to) : n % to = if n.tmod to < 0 then n.tmod to + to else n.tmod to := by
  rw [Int.tmod_eq_emod]
  have h1 := Int.emod_nonneg n (by omega : to ≠ 0)
  have h2 := Int.emod_lt_of_pos n h
  have e : (to.natAbs : Int) = to := by omega
  by_cases hc : 0 ≤ n ∨ to ∣ n
  · rw [if_pos hc, if_neg (by omega)]
    omega
  · have h0 : n % to ≠ 0 := fun h0 => hc (.inr (Int.dvd_of_emod_eq_zero h0))
    rw [if_neg hc, e, if_pos (by omega)]
    omega

/-- The next multiple by division: n itself if nothing is left, else one more multiple, which is at most 2^62. -/
theorem up_cases (n to : Int) (h : isP to = true) (h0 : 0 ≤ n) (h1 : n ≤ 4611686018427387904) :
    (0 ≤ n / to ∧ n / to ≤ n) ∧ (n % to = 0 → (n + to - 1) / to * to = n) ∧ (n % to ≠ 0 → (n + to - 1) / to * to = (n / to + 1) * to) ∧ (n % to ≠ 0 → n / to + 1 ≤ 4611686018427387904 / to ∧ (n / to + 1) * to ≤ 4611686018427387904) := by
  have hb := isP_bounds h
  have hn := Int.emod_nonneg n (by omega : to ≠ 0)
  have hl := Int.emod_lt_of_pos n (by omega : 0 < to)
  have hd := Int.mul_ediv_add_emod n to
  have hq : 0 ≤ n / to := Int.ediv_nonneg h0 (by omega)
  have hle : n / to ≤ n := by
    have := Int.ediv_le_self to h0
    exact this
  have e0 : n + to - 1 = (n % to + to - 1) + to * (n / to) := by omega
  have es : (n + to - 1) / to = (n % to + to - 1) / to + n / to := by rw [e0, Int.add_mul_ediv_left _ _ (by omega)]
  refine ⟨⟨hq, hle⟩, fun hz => ?_, fun hz => ?_, fun hz => ?_⟩
  · have e1 : (n % to + to - 1) / to = 0 := Int.ediv_eq_zero_of_lt (by omega) (by omega)
    rw [es, e1, Int.zero_add, Int.mul_comm]
    omega
  · have e1 : (n % to + to - 1) / to = 1 := by
      have : n % to + to - 1 = (n % to - 1) + to * 1 := by omega
      rw [this, Int.add_mul_ediv_left _ _ (by omega), Int.ediv_eq_zero_of_lt (by omega) (by omega)]
      rfl
    rw [es, e1, Int.add_comm 1]
  · obtain ⟨k, hk, rfl⟩ := (isP_iff to).1 h
    have hs : (4611686018427387904 : Int) = 2 ^ k * 2 ^ (62 - k) := by
      rw [← Int.pow_add, show k + (62 - k) = 62 by omega]; decide
    have hdiv : (4611686018427387904 : Int) / 2 ^ k = 2 ^ (62 - k) := by
      rw [hs]; exact Int.mul_ediv_cancel_left _ (by omega)
    rw [hdiv]
    have hlt : n / 2 ^ k < 2 ^ (62 - k) := by
      apply Int.ediv_lt_of_lt_mul (by omega)
      rw [Int.mul_comm, ← hs]
      have : n ≠ 4611686018427387904 := by
        intro e
        apply hz
        rw [e, hs]
        exact Int.mul_emod_right _ _
      omega
    refine ⟨by omega, ?_⟩
    have h2 : (n / 2 ^ k + 1) * 2 ^ k ≤ 2 ^ (62 - k) * 2 ^ k := Int.mul_le_mul_of_nonneg_right (by omega) (by omega)
    rw [Int.mul_comm (2 ^ (62 - k))] at h2
    rw [← hs] at h2
    exact h2

/-- A power of two has as many zeros below its bit as its exponent tells. -/
theorem ctz_pow (k : Nat) (hk : k < 63) : Lib.ctz 64 (2 ^ k) = k := by
  have hp : 0 < 2 ^ k := Nat.two_pow_pos k
  have hl : 2 ^ k ≤ 2 ^ 62 := Nat.pow_le_pow_right (by decide) (by omega)
  obtain ⟨m, hm, _⟩ := Lib.ctzFrom_spec 64 (2 ^ k) hp (by omega)
  have e : Lib.ctz 64 (2 ^ k) = Lib.ctzFrom 64 (2 ^ k) := by unfold Lib.ctz; rw [if_neg (by omega)]
  rw [e]
  generalize Lib.ctzFrom 64 (2 ^ k) = c at hm
  have hck : c ≤ k := by
    have : 2 ^ c ≤ 2 ^ k := by rw [hm]; exact Nat.le_mul_of_pos_right _ (by omega)
    exact (Nat.pow_le_pow_iff_right (by decide)).1 this
  have hs : 2 ^ k = 2 ^ c * 2 ^ (k - c) := by rw [← Nat.pow_add]; congr 1; omega
  rw [hs] at hm
  have h2 := Nat.eq_of_mul_eq_mul_left (Nat.two_pow_pos c) hm
  by_cases hz : k - c = 0
  · omega
  · have : 2 ^ (k - c) = 2 * 2 ^ (k - c - 1) := by rw [← Nat.pow_succ']; congr 1; omega
    omega

end Wd
end Go.Proofs.Ytgodagidkfflfaa
