/-
  Plain facts on the bytes of words and of frames (layer 3): a list of bytes parted, and what its parts tell; nothing of the program is walked here.
-/
import Derived.Test.YtbkabjdbohhjeaaNumMath
import Derived.Test.YtbkabjdbohhjeaaHeadMath
namespace Go.Proofs.Ytbkabjdbohhjeaa
namespace Wd

theorem num_join (a b : List Int) : num (a ++ b) = num a + num b * 2 ^ (a.length * 8) := by
  induction a with
  | nil => simp [num]
  | cons x r ih =>
    have e : ((2 : Int) ^ ((r.length + 1) * 8)) = 256 * 2 ^ (r.length * 8) := by
      rw [Nat.add_mul, Int.pow_add, Int.mul_comm]; rfl
    show x + 256 * num (r ++ b) = x + 256 * num r + num b * 2 ^ ((r.length + 1) * 8)
    rw [ih, e, Int.mul_add, Int.mul_left_comm (num b) 256, Int.add_assoc]

theorem bs2 (v : Int) : bs v 2 = [v % 256, v / 256 % 256] := by simp [bs, List.range_succ]
theorem bs4 (v : Int) : bs v 4 = [v % 256, v / 256 % 256, v / 65536 % 256, v / 16777216 % 256] := by simp [bs, List.range_succ]
theorem bs8 (v : Int) : bs v 8 = [v % 256, v / 256 % 256, v / 65536 % 256, v / 16777216 % 256, v / 4294967296 % 256, v / 1099511627776 % 256, v / 281474976710656 % 256, v / 72057594037927936 % 256] := by
  simp [bs, List.range_succ]
theorem num2 (a b : Int) : num [a, b] = a + 256 * b := by simp [num]
theorem num4 (a b c d : Int) : num [a, b, c, d] = a + 256 * b + 65536 * c + 16777216 * d := by simp only [num]; omega
theorem num8 (a b c d e f g h : Int) : num [a, b, c, d, e, f, g, h] = a + 256 * b + 65536 * c + 16777216 * d + 4294967296 * e + 1099511627776 * f + 281474976710656 * g + 72057594037927936 * h := by
  simp only [num]; omega
theorem num_bs4 (v : Int) : num (bs v 4) = v % 4294967296 := by rw [bs4, num4]; omega
theorem num_bs8 (v : Int) (h0 : 0 ≤ v) (h1 : v < 18446744073709551616) : num (bs v 8) = v := by rw [bs8, num8]; omega
theorem bs_in (v : Int) (n : Nat) : Bytes8 (bs v n) := by
  intro x hx
  unfold bs at hx
  obtain ⟨i, _, rfl⟩ := List.mem_map.1 hx
  omega
theorem Bytes8.app {a b : List Int} (ha : Bytes8 a) (hb : Bytes8 b) : Bytes8 (a ++ b) := fun x hx => by
  rcases List.mem_append.1 hx with h | h
  · exact ha x h
  · exact hb x h
theorem bs8_low (v : Int) : (bs v 8).take 4 = bs v 4 := by rw [bs8, bs4]; rfl
theorem bs8_high (v : Int) : (bs v 8).drop 4 = bs (v / 4294967296) 4 := by
  rw [bs8, bs4]
  show [_, _, _, _] = [_, _, _, _]
  congr 1
  congr 1
  · omega
  congr 1
  · omega
  congr 1
  omega
end Wd

namespace Hd
open Wd Go
/-- A record's header, by its bytes. -/
theorem num_record (l h : Int) : num (bs (l % 18446744073709551616) 4 ++ bs (h % 18446744073709551616) 4) = jn l h := by
  rw [num_join, bs_length, num_bs4, num_bs4]
  unfold jn
  omega
theorem num_low (v : Int) : s32 (num ((bs v 8).take 4)) = s32 v := by rw [bs8_low, num_bs4]; exact s32_eq _ _ (by omega)
theorem num_high (v : Int) : s32 (num ((bs v 8).drop 4)) = s32 (v / 4294967296) := by rw [bs8_high, num_bs4]; exact s32_eq _ _ (by omega)

/-- A frame's header's bytes. -/
def fb (l v f t o s m r z : Int) : List Int :=
  bs (l % 18446744073709551616) 4 ++ [v, f] ++ bs (t % 18446744073709551616) 2 ++ bs (o % 18446744073709551616) 4 ++ bs (s % 18446744073709551616) 4 ++
    bs (m % 18446744073709551616) 4 ++ bs (r % 18446744073709551616) 4 ++ bs z 8
/-- The bytes of four words. -/
def wb (a b c d : Int) : List Int := bs a 8 ++ bs b 8 ++ bs c 8 ++ bs d 8

/-- The bytes of the first k of four numbers of four bytes. -/
def sel (o s m r : Int) (k : Nat) : Int := [o, s, m, r].getD k 0
def part (o s m r : Int) : Nat → List Int
  | 0 => []
  | k + 1 => part o s m r k ++ bs (sel o s m r k % 18446744073709551616) 4
theorem part_length (o s m r : Int) (k : Nat) : (part o s m r k).length = 4 * k := by
  induction k with
  | zero => rfl
  | succ k ih => simp only [part, List.length_append, ih, bs_length]; omega
theorem fb_part (l v f t o s m r z : Int) : bs (l % 18446744073709551616) 4 ++ [v, f] ++ bs (t % 18446744073709551616) 2 ++ part o s m r 4 ++ bs z 8 = fb l v f t o s m r z := by
  simp [fb, part, sel, List.append_assoc]
theorem wrap_mod (x : Int) : IntKind.i64.wrap x % 18446744073709551616 = x % 18446744073709551616 := by rw [IntKind.wrap_i64]; omega

theorem bs_jn (l h : Int) : bs (jn l h) 8 = bs (l % 18446744073709551616) 4 ++ bs (h % 18446744073709551616) 4 := by
  rw [bs8, bs4, bs4]
  unfold jn
  simp only [List.cons_append, List.nil_append, List.cons.injEq, and_true]
  omega
theorem bs_fw (l v f t : Int) (v0 : 0 ≤ v) (v1 : v ≤ 255) (f0 : 0 ≤ f) (f1 : f ≤ 255) (t0 : 0 ≤ t) (t1 : t ≤ 65535) :
    bs (fw l v f t) 8 = bs (l % 18446744073709551616) 4 ++ [v, f] ++ bs (t % 18446744073709551616) 2 := by
  rw [bs8, bs4, bs2]
  unfold fw
  simp only [List.cons_append, List.nil_append, List.cons.injEq, and_true]
  omega
theorem fb_wb (l v f t o s m r z : Int) (v0 : 0 ≤ v) (v1 : v ≤ 255) (f0 : 0 ≤ f) (f1 : f ≤ 255) (t0 : 0 ≤ t) (t1 : t ≤ 65535) :
    fb l v f t o s m r z = wb (fw l v f t) (jn o s) (jn m r) z := by
  unfold fb wb
  rw [bs_fw l v f t v0 v1 f0 f1 t0 t1, bs_jn, bs_jn]
  simp only [List.append_assoc]
theorem wb_length (a b c d : Int) : (wb a b c d).length = 32 := by unfold wb; simp [bs_length]
theorem wb_in (a b c d : Int) : Bytes8 (wb a b c d) := ((((bs_in _ _).app (bs_in _ _)).app (bs_in _ _)).app (bs_in _ _))
theorem wb_0 (a b c d : Int) : ((wb a b c d).drop 0).take 8 = bs a 8 := by unfold wb; rw [bs8, bs8, bs8, bs8]; rfl
theorem wb_1 (a b c d : Int) : ((wb a b c d).drop 8).take 8 = bs b 8 := by unfold wb; rw [bs8, bs8, bs8, bs8]; rfl
theorem wb_2 (a b c d : Int) : ((wb a b c d).drop 16).take 8 = bs c 8 := by unfold wb; rw [bs8, bs8, bs8, bs8]; rfl
theorem wb_3 (a b c d : Int) : ((wb a b c d).drop 24).take 8 = bs d 8 := by unfold wb; rw [bs8, bs8, bs8, bs8]; rfl
theorem s32_low (v : Int) : s32 (num (bs v 4)) = s32 v := by rw [num_bs4]; exact s32_eq _ _ (by omega)
theorem wb_a0 (a b c d : Int) : ((wb a b c d).drop 0).take 4 = bs a 4 := by unfold wb; rw [bs8, bs8, bs8, bs8, bs4]; rfl
theorem wb_b0 (a b c d : Int) : ((wb a b c d).drop 8).take 4 = bs b 4 := by unfold wb; rw [bs8, bs8, bs8, bs8, bs4]; rfl
theorem wb_b1 (a b c d : Int) : ((wb a b c d).drop 12).take 4 = bs (b / 4294967296) 4 := by rw [← bs8_high]; unfold wb; rw [bs8, bs8, bs8, bs8]; rfl
theorem wb_c0 (a b c d : Int) : ((wb a b c d).drop 16).take 4 = bs c 4 := by unfold wb; rw [bs8, bs8, bs8, bs8, bs4]; rfl
theorem wb_c1 (a b c d : Int) : ((wb a b c d).drop 20).take 4 = bs (c / 4294967296) 4 := by rw [← bs8_high]; unfold wb; rw [bs8, bs8, bs8, bs8]; rfl
theorem wb_4 (a b c d : Int) : (wb a b c d).getD 4 0 = a / 4294967296 % 256 := by unfold wb; rw [bs8, bs8, bs8, bs8]; rfl
theorem wb_5 (a b c d : Int) : (wb a b c d).getD 5 0 = a / 1099511627776 % 256 := by unfold wb; rw [bs8, bs8, bs8, bs8]; rfl
theorem wb_6 (a b c d : Int) : (wb a b c d).getD 6 0 = a / 281474976710656 % 256 := by unfold wb; rw [bs8, bs8, bs8, bs8]; rfl
theorem wb_7 (a b c d : Int) : (wb a b c d).getD 7 0 = a / 72057594037927936 % 256 := by unfold wb; rw [bs8, bs8, bs8, bs8]; rfl
/-- Two bytes' number, as the plain answer reckons it. -/
theorem u16_two (x : Int) : IntKind.u16.wrap (IntKind.u16.wrap (x / 281474976710656 % 256) + IntKind.u16.wrap (256 * IntKind.u16.wrap (x / 72057594037927936 % 256))) = x / 281474976710656 % 65536 := by
  simp only [IntKind.wrap, IntKind.bits, IntKind.signed]
  simp
  omega
end Hd
end Go.Proofs.Ytbkabjdbohhjeaa
