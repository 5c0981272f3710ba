/-
  Plain arithmetic for layer 3 (head): words joined of numbers, and what they tell; nothing of the program is walked here.
-/
import Derived.WalkKit
import Derived.Laws.Bits64b
import Derived.Laws.BitsAllLaws
import Derived.IntWalk
namespace Go.Proofs.Ytgodagidkfflfaa
namespace Hd
open Go

/-- The number with its sign that four bytes tell. -/
def s32 (x : Int) : Int := if x % 4294967296 < 2147483648 then x % 4294967296 else x % 4294967296 - 4294967296
/-- A word of two numbers of four bytes. -/
def jn (l h : Int) : Int := l % 4294967296 + h % 4294967296 * 4294967296
/-- A frame's first word. -/
def fw (l v f t : Int) : Int := l % 4294967296 + v * 4294967296 + f * 1099511627776 + t * 281474976710656

theorem s32_wrap (x : Int) : IntKind.i32.wrap x = s32 x := by
  rw [IntKind.wrap_i32]
  unfold s32
  split <;> omega

theorem s32_wrap32 (x : Int) : RowKit.wrap32 x = s32 x := by
  unfold RowKit.wrap32 s32
  split <;> omega

theorem or_add (x y : Int) (n : Nat) (hn : n ≤ 64) (hx : 0 ≤ x) (hx1 : x < 2 ^ n) (hy : 0 ≤ y) (h : y * 2 ^ n < 18446744073709551616) :
    bits BinOp.or IntKind.u64 x (y * 2 ^ n) = x + y * 2 ^ n := by
  obtain ⟨a, rfl⟩ := Int.eq_ofNat_of_zero_le hx
  obtain ⟨c, rfl⟩ := Int.eq_ofNat_of_zero_le hy
  have e : (c : Int) * 2 ^ n = ((2 ^ n * c : Nat) : Int) := by rw [Int.natCast_mul, Int.mul_comm]; simp
  rw [e] at h ⊢
  have ha : a < 2 ^ n := by
    have : (a : Int) < ((2 ^ n : Nat) : Int) := by simpa using hx1
    omega
  have hle : 2 ^ n * c < 18446744073709551616 := by omega
  have h64 : 2 ^ n ≤ 2 ^ 64 := Nat.pow_le_pow_right (by decide) hn
  rw [u64_or_nat a _ (by omega) hle, Nat.or_comm, ← Nat.two_pow_add_eq_or_of_lt ha]
  omega

theorem u32_wrap (x : Int) : IntKind.u32.wrap x = x % 4294967296 := by
  simp [IntKind.wrap, IntKind.bits, IntKind.signed]

theorem u64_small (x : Int) (h0 : 0 ≤ x) (h1 : x < 18446744073709551616) : IntKind.u64.wrap x = x := by
  rw [IntKind.wrap_u64]; exact Int.emod_eq_of_lt h0 h1

/-- The word as the program joins it. -/
theorem jn_bits (l h : Int) : bits BinOp.or IntKind.u64 (IntKind.u64.wrap (IntKind.u32.wrap l)) (IntKind.u64.wrap (IntKind.u64.wrap (IntKind.u32.wrap h) * 2 ^ 32)) = jn l h := by
  rw [u32_wrap, u32_wrap, u64_small _ (by omega) (by omega), u64_small (h % 4294967296) (by omega) (by omega), u64_small _ (by omega) (by omega),
    or_add _ _ 32 (by omega) (by omega) (by omega) (by omega) (by omega)]
  rfl
theorem jn_bits' (l h : Int) : bits BinOp.or IntKind.u64 (l % 4294967296) (h % 4294967296 * 4294967296) = jn l h :=
  or_add (l % 4294967296) (h % 4294967296) 32 (by omega) (by omega) (by omega) (by omega) (by omega)
/-- A frame's first word, as the program joins it. -/
theorem fw_bits (l v f t : Int) (v0 : 0 ≤ v) (v1 : v ≤ 255) (f0 : 0 ≤ f) (f1 : f ≤ 255) (t0 : 0 ≤ t) (t1 : t ≤ 65535) :
    bits BinOp.or IntKind.u64 (bits BinOp.or IntKind.u64 (bits BinOp.or IntKind.u64 (IntKind.u64.wrap (IntKind.u32.wrap l)) (IntKind.u64.wrap (IntKind.u64.wrap v * 2 ^ 32)))
      (IntKind.u64.wrap (IntKind.u64.wrap f * 2 ^ 40))) (IntKind.u64.wrap (IntKind.u64.wrap t * 2 ^ 48)) = fw l v f t := by
  rw [u32_wrap, u64_small (l % 4294967296) (by omega) (by omega), u64_small v (by omega) (by omega), u64_small f (by omega) (by omega), u64_small t (by omega) (by omega),
    u64_small (v * 2 ^ 32) (by omega) (by omega), u64_small (f * 2 ^ 40) (by omega) (by omega), u64_small (t * 2 ^ 48) (by omega) (by omega),
    or_add _ _ 32 (by omega) (by omega) (by omega) (by omega) (by omega), or_add _ _ 40 (by omega) (by omega) (by omega) (by omega) (by omega),
    or_add _ _ 48 (by omega) (by omega) (by omega) (by omega) (by omega)]
  rfl

theorem fw_bits' (l v f t : Int) (v0 : 0 ≤ v) (v1 : v ≤ 255) (f0 : 0 ≤ f) (f1 : f ≤ 255) (t0 : 0 ≤ t) (t1 : t ≤ 65535) :
    bits BinOp.or IntKind.u64 (bits BinOp.or IntKind.u64 (bits BinOp.or IntKind.u64 (l % 4294967296) (v * 4294967296)) (f * 1099511627776)) (t * 281474976710656) = fw l v f t := by
  have e1 := or_add (l % 4294967296) v 32 (by omega) (by omega) (by omega) v0 (by omega)
  have e2 := or_add (l % 4294967296 + v * 4294967296) f 40 (by omega) (by omega) (by omega) f0 (by omega)
  have e3 := or_add (l % 4294967296 + v * 4294967296 + f * 1099511627776) t 48 (by omega) (by omega) (by omega) t0 (by omega)
  exact ((congrArg (fun x => bits BinOp.or IntKind.u64 (bits BinOp.or IntKind.u64 x (f * 1099511627776)) (t * 281474976710656)) e1).trans
    (congrArg (fun x => bits BinOp.or IntKind.u64 x (t * 281474976710656)) e2)).trans e3

theorem s32_eq (x y : Int) (h : x % 4294967296 = y % 4294967296) : s32 x = s32 y := by unfold s32; rw [h]
theorem s32_in (x : Int) (h0 : -2147483648 ≤ x) (h1 : x ≤ 2147483647) : s32 x = x := by unfold s32; split <;> omega
theorem s32_mod (x : Int) : s32 x % 4294967296 = x % 4294967296 := by unfold s32; split <;> omega
theorem s32_bounds (x : Int) : -2147483648 ≤ s32 x ∧ s32 x ≤ 2147483647 := by unfold s32; split <;> omega

/-- What a word tells that was joined of two numbers. -/
theorem jn_low (l h : Int) (l0 : -2147483648 ≤ l) (l1 : l ≤ 2147483647) : s32 (jn l h) = l := by
  unfold jn s32; split <;> omega
theorem jn_high (l h : Int) (h0 : -2147483648 ≤ h) (h1 : h ≤ 2147483647) : s32 (jn l h / 4294967296) = h := by
  unfold jn s32; split <;> omega
theorem jn_bounds (l h : Int) : 0 ≤ jn l h ∧ jn l h < 18446744073709551616 := by unfold jn; omega
/-- The word that what a word tells is joined to. -/
theorem jn_back (v : Int) (h0 : 0 ≤ v) (h1 : v < 18446744073709551616) : jn (s32 v) (s32 (v / 4294967296)) = v := by
  unfold jn; rw [s32_mod, s32_mod]; omega
theorem fw_bounds (l v f t : Int) (v0 : 0 ≤ v) (v1 : v ≤ 255) (f0 : 0 ≤ f) (f1 : f ≤ 255) (t0 : 0 ≤ t) (t1 : t ≤ 65535) : 0 ≤ fw l v f t ∧ fw l v f t < 18446744073709551616 := by unfold fw; omega
theorem fw_low (l v f t : Int) (l0 : -2147483648 ≤ l) (l1 : l ≤ 2147483647) : s32 (fw l v f t) = l := by
  unfold fw s32; split <;> omega
theorem fw_tells (l v f t : Int) (v0 : 0 ≤ v) (v1 : v ≤ 255) (f0 : 0 ≤ f) (f1 : f ≤ 255) (t0 : 0 ≤ t) (t1 : t ≤ 65535) :
    fw l v f t / 4294967296 % 256 = v ∧ fw l v f t / 1099511627776 % 256 = f ∧ fw l v f t / 281474976710656 % 65536 = t := by unfold fw; omega
theorem fw_back (w : Int) (h0 : 0 ≤ w) (h1 : w < 18446744073709551616) :
    fw (s32 w) (w / 4294967296 % 256) (w / 1099511627776 % 256) (w / 281474976710656 % 65536) = w := by
  unfold fw; rw [s32_mod]; omega
end Hd
end Go.Proofs.Ytgodagidkfflfaa
