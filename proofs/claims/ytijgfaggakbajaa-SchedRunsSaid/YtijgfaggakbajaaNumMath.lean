/-
  The number that a list of bytes tells; arithmetic alone.
-/
import Derived.Test.YtijgfaggakbajaaBytesMem
namespace Go.Proofs.Ytijgfaggakbajaa
open Go.RowKit

namespace Wd
/-- The number whose lowest byte stands first. -/
def num : List Int → Int
  | [] => 0
  | b :: r => b + 256 * num r
def Bytes8 (xs : List Int) : Prop := ∀ x, x ∈ xs → 0 ≤ x ∧ x ≤ 255

theorem Bytes8.at_ {xs : List Int} (h : Bytes8 xs) {i : Nat} (hi : i < xs.length) : 0 ≤ xs.getD i 0 ∧ xs.getD i 0 ≤ 255 := by
  have : xs.getD i 0 = xs[i] := by simp [List.getD, hi]
  rw [this]
  exact h _ (List.getElem_mem hi)

theorem num_append (l : List Int) (b : Int) : num (l ++ [b]) = num l + b * 2 ^ (l.length * 8) := by
  induction l with
  | nil => simp [num]
  | cons x r ih =>
    have e : ((2 : Int) ^ ((r.length + 1) * 8)) = 256 * 2 ^ (r.length * 8) := by
      rw [Nat.add_mul, Int.pow_add, Int.mul_comm]; rfl
    show x + 256 * num (r ++ [b]) = x + 256 * num r + b * 2 ^ ((r.length + 1) * 8)
    rw [ih, e, Int.mul_add, Int.mul_left_comm b 256, Int.add_assoc]

theorem num_bounds (l : List Int) (h : Bytes8 l) : 0 ≤ num l ∧ num l + 1 ≤ 2 ^ (l.length * 8) := by
  induction l with
  | nil => exact ⟨by decide, by decide⟩
  | cons x r ih =>
    have hx := h x (List.mem_cons_self ..)
    have hr := ih (fun y hy => h y (List.mem_cons_of_mem _ hy))
    have e : ((2 : Int) ^ ((r.length + 1) * 8)) = 256 * 2 ^ (r.length * 8) := by
      rw [Nat.add_mul, Int.pow_add, Int.mul_comm]; rfl
    show 0 ≤ x + 256 * num r ∧ x + 256 * num r + 1 ≤ 2 ^ ((r.length + 1) * 8)
    rw [e]
    omega

theorem take_snoc (xs : List Int) (k : Nat) (h : k < xs.length) : xs.take (k + 1) = xs.take k ++ [xs.getD k 0] := by
  rw [List.take_succ_eq_append_getElem h]
  simp [List.getD, h]

theorem take_bytes {xs : List Int} (h : Bytes8 xs) (k : Nat) : Bytes8 (xs.take k) := fun x hx => h x (List.mem_of_mem_take hx)

theorem drop_bytes {xs : List Int} (h : Bytes8 xs) (k : Nat) : Bytes8 (xs.drop k) := fun x hx => h x (List.mem_of_mem_drop hx)

theorem num_small (l : List Int) (h : Bytes8 l) (hl : l.length ≤ 8) : num l ≤ 18446744073709551615 := by
  have h1 := (num_bounds l h).2
  have h2 : 2 ^ (l.length * 8) ≤ 2 ^ 64 := Nat.pow_le_pow_right (by decide) (by omega)
  have h3 : ((2 : Int) ^ (l.length * 8)) = ((2 ^ (l.length * 8) : Nat) : Int) := by simp
  omega

theorem wrap_next (x b : Int) (hx : 0 ≤ x) (hb : 0 ≤ b) (hb1 : b ≤ 255) (h : b + 256 * x ≤ 18446744073709551615) :
    IntKind.u64.wrap (IntKind.u64.wrap (x * 256) + IntKind.u64.wrap b) = b + 256 * x := by
  rw [IntKind.wrap_u64, IntKind.wrap_u64, IntKind.wrap_u64]
  omega

theorem drop_num (xs : List Int) (k : Nat) (h : k < xs.length) : num (xs.drop k) = xs.getD k 0 + 256 * num (xs.drop (k + 1)) := by
  rw [List.drop_eq_getElem_cons h]
  simp [num, List.getD, h]

/-- The next byte laid over the number so far. -/
theorem or_step (x b : Int) (k : Nat) (hk : k < 8) (hx : 0 ≤ x) (hx1 : x + 1 ≤ 2 ^ (k * 8)) (hb : 0 ≤ b) (hb1 : b ≤ 255) :
    b * 2 ^ (k * 8) ≤ 18446744073709551615 ∧ 0 ≤ b * 2 ^ (k * 8) ∧ bits .or .u64 x (b * 2 ^ (k * 8)) = x + b * 2 ^ (k * 8) := by
  have hp : 2 ^ (k * 8) ≤ 2 ^ 56 := Nat.pow_le_pow_right (by decide) (by omega)
  have hpos : 0 < 2 ^ (k * 8) := Nat.two_pow_pos _
  obtain ⟨a, rfl⟩ := Int.eq_ofNat_of_zero_le hx
  obtain ⟨c, rfl⟩ := Int.eq_ofNat_of_zero_le hb
  have e : (c : Int) * 2 ^ (k * 8) = ((2 ^ (k * 8) * c : Nat) : Int) := by rw [Int.natCast_mul, Int.mul_comm]; simp
  have hle : 2 ^ (k * 8) * c ≤ 2 ^ 56 * 255 := Nat.mul_le_mul hp (by omega)
  have ha : a < 2 ^ (k * 8) := by
    have : ((a : Int) + 1) ≤ ((2 ^ (k * 8) : Nat) : Int) := by simpa using hx1
    omega
  rw [e]
  refine ⟨by omega, by omega, ?_⟩
  rw [u64_or_nat a _ (by omega) (by omega), Nat.or_comm, ← Nat.two_pow_add_eq_or_of_lt ha]
  omega
theorem wrap_shl (b : Int) (k : Nat) (hb : 0 ≤ b) (hb1 : b ≤ 255) (h0 : 0 ≤ b * 2 ^ (k * 8)) (h1 : b * 2 ^ (k * 8) ≤ 18446744073709551615) :
    IntKind.u64.wrap (IntKind.u64.wrap b * 2 ^ (k * 8)) = b * 2 ^ (k * 8) := by
  rw [IntKind.wrap_u64, IntKind.wrap_u64, Int.emod_eq_of_lt hb (by omega)]
  exact Int.emod_eq_of_lt h0 (by omega)
end Wd

end Go.Proofs.Ytijgfaggakbajaa
