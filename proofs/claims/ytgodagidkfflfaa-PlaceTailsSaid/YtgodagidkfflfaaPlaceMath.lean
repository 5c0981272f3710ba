/-
  Plain arithmetic for layer 4 (place): terms, counts, positions, raw tails; nothing of the program is walked here.
-/
import Derived.Test.YtgodagidkfflfaaWordMath
import Derived.Test.YtgodagidkfflfaaHeadMath
namespace Go.Proofs.Ytgodagidkfflfaa
namespace Pl
open Go

/-- May a term have so many bytes? -/
def isT (n : Int) : Bool := n == 256 || n == 512 || n == 1024 || n == 2048 || n == 4096 || n == 8192
def cnt (t i : Int) : Int := (t - i) % 4294967296
def posOk (t i o z : Int) : Bool := isT z && decide (0 ≤ o) && decide (o ≤ z) && decide (cnt t i < 2147483648)
def pos (t i o z : Int) : Int := if posOk t i o z = true then cnt t i * z + o else 0
def posE (t i o z : Int) : Int := if posOk t i o z = true then 0 else 1
def mx (z : Int) : Int := if isT z = true then z * 2147483648 else 0
def inB (p z : Int) : Bool := decide (0 ≤ p) && decide (p < mx z)
def term (p i z : Int) : Int := if inB p z = true then Hd.s32 (i + p / z) else 0
def offs (p z : Int) : Int := if inB p z = true then p % z else 0
def inE (p z : Int) : Int := if inB p z = true then 0 else 1
def pack (t o : Int) : Int := t % 4294967296 * 4294967296 + o

theorem isT_iff (n : Int) : isT n = true ↔ n = 256 ∨ n = 512 ∨ n = 1024 ∨ n = 2048 ∨ n = 4096 ∨ n = 8192 := by
  unfold isT; simp [or_assoc]
theorem isT_bounds {n : Int} (h : isT n = true) : 256 ≤ n ∧ n ≤ 8192 := by
  have := (isT_iff n).1 h; omega
theorem isT_isP {n : Int} (h : isT n = true) : Wd.isP n = true := by
  rcases (isT_iff n).1 h with h | h | h | h | h | h <;> rw [h] <;> decide +kernel

theorem pow_in : ∀ k, k < 63 → 256 ≤ (2 : Int) ^ k → (2 : Int) ^ k ≤ 8192 → isT (2 ^ k) = true := by decide +kernel

/-- A power from 256 to 8192 is a term's. -/
theorem isT_of {n : Int} (hp : Wd.isP n = true) (h0 : 256 ≤ n) (h1 : n ≤ 8192) : isT n = true := by
  obtain ⟨k, hk, rfl⟩ := (Wd.isP_iff n).1 hp
  exact pow_in k hk h0 h1

theorem mx_of {z : Int} (h : isT z = true) : mx z = z * 2147483648 := by unfold mx; rw [if_pos h]
theorem mx_no {z : Int} (h : isT z = false) : mx z = 0 := by unfold mx; rw [h]; rfl
theorem mx_bounds (z : Int) : 0 ≤ mx z ∧ mx z ≤ 17592186044416 := by
  cases h : isT z with
  | true => rw [mx_of h]; have := isT_bounds h; omega
  | false => rw [mx_no h]; omega
theorem inB_of {p z : Int} (h : inB p z = true) : isT z = true ∧ 0 ≤ p ∧ p < z * 2147483648 := by
  unfold inB at h; simp at h
  cases e : isT z with
  | true => rw [mx_of e] at h; exact ⟨rfl, h.1, h.2⟩
  | false => rw [mx_no e] at h; omega
theorem cnt_bounds (t i : Int) : 0 ≤ cnt t i ∧ cnt t i < 4294967296 := by unfold cnt; omega

/-- A position's quotient by its term's bytes is a count that may be. -/
theorem quo_bounds {p z : Int} (hz : isT z = true) (h0 : 0 ≤ p) (h1 : p < z * 2147483648) : 0 ≤ p / z ∧ p / z < 2147483648 := by
  rcases (isT_iff z).1 hz with rfl | rfl | rfl | rfl | rfl | rfl <;> omega

theorem rem_bounds {p z : Int} (hz : isT z = true) : 0 ≤ p % z ∧ p % z < z := by
  have := isT_bounds hz
  exact ⟨Int.emod_nonneg _ (by omega), Int.emod_lt_of_pos _ (by omega)⟩

theorem pos_bounds {c z : Int} (hz : isT z = true) (c0 : 0 ≤ c) (c1 : c < 2147483648) : 0 ≤ c * z ∧ c * z ≤ 17592186044416 := by
  rcases (isT_iff z).1 hz with rfl | rfl | rfl | rfl | rfl | rfl <;> omega

/-- There and back: the count of the term that a position tells. -/
theorem cnt_term {p i z : Int} (hz : isT z = true) (h0 : 0 ≤ p) (h1 : p < z * 2147483648) : cnt (Hd.s32 (i + p / z)) i = p / z := by
  have hq := quo_bounds hz h0 h1
  unfold cnt
  have e := Hd.s32_mod (i + p / z)
  omega

theorem back {p z : Int} : p / z * z + p % z = p := by
  have := Int.mul_ediv_add_emod p z
  rw [Int.mul_comm]; omega

theorem pos_back {p i z : Int} (h : inB p z = true) : pos (term p i z) i (offs p z) z = p ∧ posE (term p i z) i (offs p z) z = 0 := by
  obtain ⟨hz, h0, h1⟩ := inB_of h
  have e1 : term p i z = Hd.s32 (i + p / z) := by unfold term; rw [if_pos h]
  have e2 : offs p z = p % z := by unfold offs; rw [if_pos h]
  have hq := quo_bounds hz h0 h1
  have hr := rem_bounds (p := p) hz
  have hc := cnt_term (i := i) hz h0 h1
  have hk : posOk (Hd.s32 (i + p / z)) i (p % z) z = true := by
    unfold posOk; rw [hc, hz]; simp; omega
  rw [e1, e2]
  unfold pos posE
  rw [if_pos hk, if_pos hk, hc]
  exact ⟨back, rfl⟩

theorem or_comm (a b : Int) : bits BinOp.or IntKind.u64 a b = bits BinOp.or IntKind.u64 b a := by
  show IntKind.u64.wrap ((BitVec.ofInt 64 a ||| BitVec.ofInt 64 b).toNat : Int) = IntKind.u64.wrap ((BitVec.ofInt 64 b ||| BitVec.ofInt 64 a).toNat : Int)
  rw [BitVec.or_comm]

/-- A raw tail, as the program joins it. -/
theorem pack_bits (t o : Int) (o0 : 0 ≤ o) (o1 : o ≤ 4294967295) : bits BinOp.or IntKind.u64 (IntKind.u64.wrap (IntKind.u64.wrap t * 4294967296)) o = pack t o := by
  have e : IntKind.u64.wrap (IntKind.u64.wrap t * 4294967296) = t % 4294967296 * 2 ^ 32 := by
    rw [IntKind.wrap_u64, IntKind.wrap_u64]; omega
  rw [e, or_comm, Hd.or_add o (t % 4294967296) 32 (by omega) o0 (by omega) (by omega) (by omega)]
  unfold pack
  omega

theorem pack_low (t o : Int) (o0 : 0 ≤ o) (o1 : o ≤ 4294967295) : pack t o % 4294967296 = o := by unfold pack; omega
theorem pack_high (t o : Int) (t0 : -2147483648 ≤ t) (t1 : t ≤ 2147483647) (o0 : 0 ≤ o) (o1 : o ≤ 4294967295) : Hd.s32 (pack t o / 4294967296) = t := by
  unfold pack Hd.s32; split <;> omega
theorem pack_of (v : Int) (h0 : 0 ≤ v) (h1 : v ≤ 18446744073709551615) : pack (Hd.s32 (v / 4294967296)) (v % 4294967296) = v := by
  unfold pack; rw [Hd.s32_mod]; omega

end Pl
end Go.Proofs.Ytgodagidkfflfaa
