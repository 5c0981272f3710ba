/-
  The plain answer to layer 1's Bytes, walked.
  The plain answer to layer 1's Number, walked over any slice that reads as bytes.
  The plain answers to layer 1's powers and multiples, walked.
  Plain facts on the bytes of words and of frames (layer 3): a list of bytes parted, and what its parts tell; nothing of the program is walked here.
  The plain answers to layer 3 that only reckon, or make bytes, walked: signed, bytes, Record, Split, size, RecordSize, FrameSize.
  The document's put (layer 7), walked over a tape.
  The document's put (layer 7), walked over a tape: it says what the put machine says.
  Layer 9's fix told a row of answers, plainly; the document's fix walked over a tape: whether places are empty.
  The document's fix (layer 9), walked over a tape: it says what the machine says that was told the same.
  Whether two accesses are one (layer 2's plain answer), walked for two that are.
  The document's fix over a tape, and the machine that was told the same, held against each other (layer 9).
-/
import Derived.Test.YtaomkamdfbibbaaGreatP01
import Derived.Test.YtaomkamdfbibbaaGreatP03
import Derived.Deep.QuietTactic
import Derived.BigQuiet
import Derived.WalkSmall
import Derived.Test.YtaomkamdfbibbaaGreatP06
import Derived.Test.YtaomkamdfbibbaaGreatP05
namespace Go.Proofs.YtaomkamdfbibbaaGreat
open Go.RowKit

set_option maxHeartbeats 400000 in
theorem refBytes_no (v n : Int) (w : World) (h : n < 0 ∨ 8 < n) :
    Calls Tryz.prog 54 #[.int .u64 v, .int .i64 n] w fun e w' => e = .returned (.slice none 0 0) ∧ w = w' := by
  rcases h with h | h
  · go_enter Tryz.func54, Tryz.ntmps54
    go_wp2
    go_ret
    exact ⟨rfl, rfl⟩
  · have h' : 0 ≤ n := by omega
    go_enter Tryz.func54, Tryz.ntmps54
    go_wp2
    go_ret
    exact ⟨rfl, rfl⟩

theorem quo_u64 (x : Int) (h0 : 0 ≤ x) (h1 : x ≤ 18446744073709551615) : IntKind.u64.wrap (x.tdiv 256) = x / 256 := by
  rw [Int.tdiv_eq_ediv_of_nonneg h0, IntKind.wrap_u64]
  omega

theorem div_next (v : Int) (k : Nat) : v / 2 ^ (k * 8) / 256 = v / 2 ^ ((k + 1) * 8) := by
  have e : ((2 : Int) ^ ((k + 1) * 8)) = 2 ^ (k * 8) * 256 := by
    rw [Nat.add_mul, Int.pow_add]; rfl
  rw [e, Int.ediv_ediv_of_nonneg (Int.pow_nonneg (by decide))]

set_option maxRecDepth 100000 in
set_option maxHeartbeats 400000 in
theorem refBytes_own (v : Int) (n : Nat) (w : World) (hv : 0 ≤ v) (hv1 : v ≤ 18446744073709551615) (hn : n ≤ 8) :
    Calls Tryz.prog 54 #[.int .u64 v, .int .i64 n] w fun e w' => ∃ x, e = .returned x ∧ Owns w.heap.size w' x (Wd.bs v n) ∧ Below w.heap.size w w' := by
  obtain ⟨i0, hi, hz0, hz1, hz2⟩ := info_parts infoU8
  go_enter Tryz.func54, Tryz.ntmps54
  go_wp2
  go_loopw [0, 5, 6] (fun x r i wr => ∃ k : Nat, k ≤ n ∧ i = .int .i64 k ∧ x = .int .u64 (v / 2 ^ (k * 8)) ∧ Below w.heap.size w wr ∧ wr.ownsRow w.heap.size 5 1 r k ((Wd.bs v k).map (Value.int .u8))) (fun _ _ i _ => n - (intOf i).toNat)
  case atStart =>
    exact ⟨0, by omega, rfl, by simp, Below.refl _ _, World.ownsRow_nil _ _ _ _⟩
  case round =>
    obtain ⟨k, hk, rfl, rfl, hbel, hown⟩ := hrel
    by_cases hlt : k < n
    · have hpos : 0 ≤ v / 2 ^ (k * 8) := Int.ediv_nonneg hv (Int.pow_nonneg (by decide))
      have hsz := hbel.size
      go_wp2_with (at_builtin; refine wpList_append_own _ rfl _ _ 30 rfl w.heap.size 5 i0 (.int .u8 0) 1 1 Tryz.underlying30 hi hz0 hz1 hz2 rfl (by decide) _ _ _ rfl (hown.alloc _) ⟨wr.heap.size, 0, none⟩ 1 1 [.int .u8 (v / 2 ^ (k * 8) % 256)] rfl rfl ?c1 ?c2 ?c3 ?c4 ?c5 ?_)
      case c1 =>
        intro j u hj
        match j, hj with
        | 0, hj => simp at hj; subst hj; simp [Addr.add]
      case c2 => intro u hu; simp at hu; subst hu; rfl
      case c3 => unfold maxLen; omega
      case c4 => omega
      case c5 => simp; omega
      · intro v' w1 hown' hgrow _
        have hown2 : w1.ownsRow w.heap.size 5 1 v' (k + 1) ((Wd.bs v (k + 1)).map (Value.int .u8)) := by
          rw [bs_snoc, List.map_append]; exact hown'
        have hbel2 : Below w.heap.size w w1 := (hbel.alloc hsz _).grown hgrow (by simp; omega) (fun g hg => (hown.lt g hg).1)
        clear hown' hgrow hown hbel
        go_wp2
        go_roundw
        case rel => exact ⟨k + 1, by omega, by go_num, by rw [← div_next, quo_u64 _ hpos (by have := Int.ediv_le_self (2 ^ (k * 8)) hv; omega)], hbel2, hown2⟩
        case measure => simp [intOf]; omega
    · have hkn : k = n := by omega
      have HK := Lib.hid hkn
      clear hkn
      go_wp2
      go_ret
      have hkn := HK.out
      subst hkn
      exact ⟨_, rfl, by unfold Owns; rw [Wd.bs_length]; exact hown, hbel⟩

theorem refBytes_yes (v : Int) (n : Nat) (w : World) (hv : 0 ≤ v) (hv1 : v ≤ 18446744073709551615) (hn : n ≤ 8) :
    Calls Tryz.prog 54 #[.int .u64 v, .int .i64 n] w (MadeBytes (Wd.bs v n) w) :=
  (refBytes_own v n w hv hv1 hn).mono fun _ _ ⟨x, he, hx, hb⟩ => ⟨x, he, hx.bytes, hb⟩

end Go.Proofs.YtaomkamdfbibbaaGreat
namespace Go.Proofs.YtaomkamdfbibbaaGreat
open Go.RowKit

set_option maxHeartbeats 400000 in
theorem refNumber_short (b off cap : Nat) (xs : List Int) (w : World) (h8 : Wd.Bytes8 xs) (hm : xs.length ≤ 8)
    (hc : ∀ i, i < xs.length → w.cell? ⟨b, off + i, none⟩ = some (.int .u8 (xs.getD i 0))) :
    Calls Tryz.prog 56 #[.slice (some ⟨b, off, none⟩) xs.length cap] w fun e w' => e = .returned (.int .u64 (Wd.num (xs.take 8))) ∧ w = w' := by
  go_enter Tryz.func56, Tryz.ntmps56
  go_wp2
  go_loop [3, 4] (fun v i => ∃ k : Nat, k ≤ xs.length ∧ i = .int .i64 ((k : Int) - 1) ∧ v = .int .u64 (Wd.num ((xs.take 8).drop k))) (fun _ i => (intOf i + 1).toNat)
  case atStart =>
    have hl : (xs.take 8).length = xs.length := by rw [List.length_take]; omega
    exact ⟨xs.length, by omega, by first | rfl | (congr 1; omega), by rw [List.drop_of_length_le (by omega)]; rfl⟩
  case round =>
    obtain ⟨k, hk, rfl, rfl⟩ := hrel
    by_cases hlt : 0 < k
    · obtain ⟨j, rfl⟩ : ∃ j, k = j + 1 := ⟨k - 1, by omega⟩
      have hl : (xs.take 8).length = xs.length := by rw [List.length_take]; omega
      have hcell := hc j (by omega)
      obtain ⟨hb0, hb1⟩ := h8.at_ (show j < xs.length by omega)
      have hg : (xs.take 8).getD j 0 = xs.getD j 0 := by simp [List.getD, show j < 8 by omega]
      have hstep := Wd.drop_num (xs.take 8) j (by omega)
      rw [hg] at hstep
      have hn := Wd.num_small _ (Wd.drop_bytes (Wd.take_bytes h8 8) j) (by rw [List.length_drop]; omega)
      have hn0 := (Wd.num_bounds _ (Wd.drop_bytes (Wd.take_bytes h8 8) (j + 1))).1
      have H2 := Lib.hid hstep
      have HN := Lib.hid hn
      have H5 := Lib.hid h8
      have H6 := Lib.hid hc
      have hxl : j < xs.length := by omega
      have e0 : ((j + 1 : Nat) : Int) - 1 = j := by omega
      rw [e0]
      clear hl hg hstep h8 hc hn e0
      go_wp2
      go_round
      case rel =>
        refine ⟨j, by omega, by go_num, ?_⟩
        rw [H2.out]
        have e1 : xs.getD j 0 = xs[j] := by simp [List.getD, hxl]
        have hn2 := HN.out
        rw [H2.out] at hn2
        rw [e1] at hn2 hb0 hb1 ⊢
        rw [Wd.wrap_next _ _ hn0 hb0 hb1 hn2]
      case measure => simp [intOf]
    · obtain rfl : k = 0 := by omega
      go_wp2
      go_ret
      exact ⟨rfl, rfl⟩

set_option maxHeartbeats 400000 in
theorem refNumber_long (b off cap : Nat) (xs : List Int) (w : World) (h8 : Wd.Bytes8 xs) (hm : 8 < xs.length)
    (hc : ∀ i, i < xs.length → w.cell? ⟨b, off + i, none⟩ = some (.int .u8 (xs.getD i 0))) :
    Calls Tryz.prog 56 #[.slice (some ⟨b, off, none⟩) xs.length cap] w fun e w' => e = .returned (.int .u64 (Wd.num (xs.take 8))) ∧ w = w' := by
  go_enter Tryz.func56, Tryz.ntmps56
  go_wp2
  go_loop [3, 4] (fun v i => ∃ k : Nat, k ≤ 8 ∧ i = .int .i64 ((k : Int) - 1) ∧ v = .int .u64 (Wd.num ((xs.take 8).drop k))) (fun _ i => (intOf i + 1).toNat)
  case atStart =>
    have hl : (xs.take 8).length = 8 := by rw [List.length_take]; omega
    exact ⟨8, by omega, by first | rfl | (congr 1; omega), by rw [List.drop_of_length_le (by omega)]; rfl⟩
  case round =>
    obtain ⟨k, hk, rfl, rfl⟩ := hrel
    by_cases hlt : 0 < k
    · obtain ⟨j, rfl⟩ : ∃ j, k = j + 1 := ⟨k - 1, by omega⟩
      have hl : (xs.take 8).length = 8 := by rw [List.length_take]; omega
      have hcell := hc j (by omega)
      obtain ⟨hb0, hb1⟩ := h8.at_ (show j < xs.length by omega)
      have hg : (xs.take 8).getD j 0 = xs.getD j 0 := by simp [List.getD, show j < 8 by omega]
      have hstep := Wd.drop_num (xs.take 8) j (by omega)
      rw [hg] at hstep
      have hn := Wd.num_small _ (Wd.drop_bytes (Wd.take_bytes h8 8) j) (by rw [List.length_drop]; omega)
      have hn0 := (Wd.num_bounds _ (Wd.drop_bytes (Wd.take_bytes h8 8) (j + 1))).1
      have H2 := Lib.hid hstep
      have HN := Lib.hid hn
      have H5 := Lib.hid h8
      have H6 := Lib.hid hc
      have hxl : j < xs.length := by omega
      have e0 : ((j + 1 : Nat) : Int) - 1 = j := by omega
      rw [e0]
      clear hl hg hstep h8 hc hn e0
      go_wp2
      go_round
      case rel =>
        refine ⟨j, by omega, by go_num, ?_⟩
        rw [H2.out]
        have e1 : xs.getD j 0 = xs[j] := by simp [List.getD, hxl]
        have hn2 := HN.out
        rw [H2.out] at hn2
        rw [e1] at hn2 hb0 hb1 ⊢
        rw [Wd.wrap_next _ _ hn0 hb0 hb1 hn2]
      case measure => simp [intOf]
    · obtain rfl : k = 0 := by omega
      go_wp2
      go_ret
      exact ⟨rfl, rfl⟩

set_option maxHeartbeats 400000 in
theorem refNumber_zero (A : Option Addr) (cap : Nat) (w : World) :
    Calls Tryz.prog 56 #[.slice A 0 cap] w fun e w' => e = .returned (.int .u64 0) ∧ w = w' := by
  go_enter Tryz.func56, Tryz.ntmps56
  go_wp2
  refine wp_loop_rounds 1 ?_
  rw [rounds_succ]
  go_wp2
  go_ret
  exact ⟨rfl, rfl⟩

/-- Number, over whatever slice that reads as bytes. -/
theorem refNumber_any (v : Value) (xs : List Int) (w : World) (h8 : Wd.Bytes8 xs) (h : BytesAt w v xs) :
    Calls Tryz.prog 56 #[v] w fun e w' => e = .returned (.int .u64 (Wd.num (xs.take 8))) ∧ w = w' := by
  obtain ⟨A, cap, rfl, h⟩ := h
  by_cases hp : 0 < xs.length
  · obtain ⟨b, off, rfl, _, hc⟩ := h hp
    by_cases hl : xs.length ≤ 8
    · exact refNumber_short b off cap xs w h8 hl hc
    · exact refNumber_long b off cap xs w h8 (by omega) hc
  · have hx : xs = [] := List.eq_nil_of_length_eq_zero (by omega)
    subst hx
    exact refNumber_zero A cap w

end Go.Proofs.YtaomkamdfbibbaaGreat
namespace Go.Proofs.YtaomkamdfbibbaaGreat
open Go.RowKit

theorem pow_next (j : Nat) (x : Int) (h : j < 63 → x = 2 ^ j) (h' : j + 1 < 63) : wrap64 (x * 2) = 2 ^ (j + 1) := by
  have hb := Wd.pow_bounds (j + 1) h'
  rw [h (by omega), ← Int.pow_succ]
  show wrap64 ((2 : Int) ^ (j + 1)) = _
  unfold wrap64
  omega

set_option maxHeartbeats 400000 in
theorem refLog2_any (n : Int) (w : World) :
    Calls Tryz.prog 73 #[.int .i64 n] w fun e w' => e = .returned (.tuple #[.int .i64 (Wd.lg n), .bool (Wd.isP n)]) ∧ w = w' := by
  go_enter Tryz.func73, Tryz.ntmps73
  go_wp2
  go_loop [4, 5] (fun v k => ∃ (j : Nat) (x : Int), j ≤ 63 ∧ k = .int .i64 j ∧ v = .int .i64 x ∧ (j < 63 → x = 2 ^ j) ∧ ∀ i, i < j → n ≠ 2 ^ i) (fun _ k => 63 - (intOf k).toNat)
  case atStart => exact ⟨0, 1, by omega, rfl, rfl, by simp, by omega⟩
  case round =>
    obtain ⟨j, x, hj, rfl, rfl, hx, hn⟩ := hrel
    have HX := Lib.hid hx
    have HN := Lib.hid hn
    clear hx hn
    by_cases hlt : j < 63
    · by_cases he : x = n
      · have hb : (x == n) = true := by simpa using he
        have hlg : Wd.lg n = j := by rw [← he, HX.out hlt]; exact Wd.lg_pow j hlt
        have hip : Wd.isP n = true := by rw [← he, HX.out hlt]; exact Wd.isP_pow j hlt
        have H1 := Lib.hid hlg
        have H2 := Lib.hid hip
        clear hlg hip he
        go_wp2
        go_ret2
        exact ⟨by rw [H1.out, H2.out]; rfl, rfl⟩
      · have hb : (x == n) = false := by simpa using he
        have HB := Lib.hid he
        clear he
        go_wp2
        go_round
        case rel =>
          refine ⟨j + 1, _, by omega, by go_num, rfl, pow_next j x HX.out, ?_⟩
          intro i hi
          by_cases hij : i = j
          · subst hij; rw [← HX.out hlt]; exact fun h => HB.out h.symm
          · exact HN.out i (by omega)
        case measure => simp [intOf]; omega
    · have hjj : j = 63 := by omega
      have hip : Wd.isP n = false := by
        cases e : Wd.isP n with
        | false => rfl
        | true =>
          obtain ⟨k, hk, hh⟩ := (Wd.isP_iff n).1 e
          exact absurd hh (HN.out k (by omega))
      have hlg : Wd.lg n = 0 := by unfold Wd.lg; rw [hip]; rfl
      have H1 := Lib.hid hlg
      have H2 := Lib.hid hip
      clear hlg hip hjj
      go_wp2
      go_ret2
      exact ⟨by rw [H1.out, H2.out]; rfl, rfl⟩

set_option maxHeartbeats 400000 in
theorem refIsPower_any (n : Int) (w : World) :
    Calls Tryz.prog 52 #[.int .i64 n] w fun e w' => e = .returned (.bool (Wd.isP n)) ∧ w = w' := by
  go_enter Tryz.func52, Tryz.ntmps52
  go_wp2_with (go_at_call 73; refine (refLog2_any _ _).mono ?_; rintro e w' ⟨rfl, rfl⟩)
  go_ret
  exact ⟨rfl, rfl⟩

end Go.Proofs.YtaomkamdfbibbaaGreat
namespace Go.Proofs.YtaomkamdfbibbaaGreat
namespace Wd

theorem num_join (a b : List Int) : num (a ++ b) = num a + num b * 2 ^ (a.length * 8) := by
  induction a with
  | nil => simp [num]
  | cons x r ih =>
    have e : ((2 : Int) ^ ((r.length + 1) * 8)) = 256 * 2 ^ (r.length * 8) := by
      rw [Nat.add_mul, Int.pow_add, Int.mul_comm]; rfl
    show x + 256 * num (r ++ b) = x + 256 * num r + num b * 2 ^ ((r.length + 1) * 8)
    rw [ih, e, Int.mul_add, Int.mul_left_comm (num b) 256, Int.add_assoc]

theorem bs2 (v : Int) : bs v 2 = [v % 256, v / 256 % 256] := by simp [bs, List.range_succ]
theorem bs4 (v : Int) : bs v 4 = [v % 256, v / 256 % 256, v / 65536 % 256, v / 16777216 % 256] := by simp [bs, List.range_succ]
theorem bs8 (v : Int) : bs v 8 = [v % 256, v / 256 % 256, v / 65536 % 256, v / 16777216 % 256, v / 4294967296 % 256, v / 1099511627776 % 256, v / 281474976710656 % 256, v / 72057594037927936 % 256] := by
  simp [bs, List.range_succ]
theorem num2 (a b : Int) : num [a, b] = a + 256 * b := by simp [num]
theorem num4 (a b c d : Int) : num [a, b, c, d] = a + 256 * b + 65536 * c + 16777216 * d := by simp only [num]; omega
theorem num8 (a b c d e f g h : Int) : num [a, b, c, d, e, f, g, h] = a + 256 * b + 65536 * c + 16777216 * d + 4294967296 * e + 1099511627776 * f + 281474976710656 * g + 72057594037927936 * h := by
  simp only [num]; omega
theorem num_bs4 (v : Int) : num (bs v 4) = v % 4294967296 := by rw [bs4, num4]; omega
theorem num_bs8 (v : Int) (h0 : 0 ≤ v) (h1 : v < 18446744073709551616) : num (bs v 8) = v := by rw [bs8, num8]; omega
theorem bs_in (v : Int) (n : Nat) : Bytes8 (bs v n) := by
  intro x hx
  unfold bs at hx
  obtain ⟨i, _, rfl⟩ := List.mem_map.1 hx
  omega
theorem Bytes8.app {a b : List Int} (ha : Bytes8 a) (hb : Bytes8 b) : Bytes8 (a ++ b) := fun x hx => by
  rcases List.mem_append.1 hx with h | h
  · exact ha x h
  · exact hb x h
theorem bs8_low (v : Int) : (bs v 8).take 4 = bs v 4 := by rw [bs8, bs4]; rfl
theorem bs8_high (v : Int) : (bs v 8).drop 4 = bs (v / 4294967296) 4 := by
  rw [bs8, bs4]
  show [_, _, _, _] = [_, _, _, _]
  congr 1
  congr 1
  · omega
  congr 1
  · omega
  congr 1
  omega
end Wd

namespace Hd
open Wd Go
/-- A record's header, by its bytes. -/
theorem num_record (l h : Int) : num (bs (l % 18446744073709551616) 4 ++ bs (h % 18446744073709551616) 4) = jn l h := by
  rw [num_join, bs_length, num_bs4, num_bs4]
  unfold jn
  omega
theorem num_low (v : Int) : s32 (num ((bs v 8).take 4)) = s32 v := by rw [bs8_low, num_bs4]; exact s32_eq _ _ (by omega)
theorem num_high (v : Int) : s32 (num ((bs v 8).drop 4)) = s32 (v / 4294967296) := by rw [bs8_high, num_bs4]; exact s32_eq _ _ (by omega)

/-- A frame's header's bytes. -/
def fb (l v f t o s m r z : Int) : List Int :=
  bs (l % 18446744073709551616) 4 ++ [v, f] ++ bs (t % 18446744073709551616) 2 ++ bs (o % 18446744073709551616) 4 ++ bs (s % 18446744073709551616) 4 ++
    bs (m % 18446744073709551616) 4 ++ bs (r % 18446744073709551616) 4 ++ bs z 8
/-- The bytes of four words. -/
def wb (a b c d : Int) : List Int := bs a 8 ++ bs b 8 ++ bs c 8 ++ bs d 8

/-- The bytes of the first k of four numbers of four bytes. -/
def sel (o s m r : Int) (k : Nat) : Int := [o, s, m, r].getD k 0
def part (o s m r : Int) : Nat → List Int
  | 0 => []
  | k + 1 => part o s m r k ++ bs (sel o s m r k % 18446744073709551616) 4
theorem part_length (o s m r : Int) (k : Nat) : (part o s m r k).length = 4 * k := by
  induction k with
  | zero => rfl
  | succ k ih => simp only [part, List.length_append, ih, bs_length]; omega
theorem fb_part (l v f t o s m r z : Int) : bs (l % 18446744073709551616) 4 ++ [v, f] ++ bs (t % 18446744073709551616) 2 ++ part o s m r 4 ++ bs z 8 = fb l v f t o s m r z := by
  simp [fb, part, sel, List.append_assoc]
theorem wrap_mod (x : Int) : IntKind.i64.wrap x % 18446744073709551616 = x % 18446744073709551616 := by rw [IntKind.wrap_i64]; omega

theorem bs_jn (l h : Int) : bs (jn l h) 8 = bs (l % 18446744073709551616) 4 ++ bs (h % 18446744073709551616) 4 := by
  rw [bs8, bs4, bs4]
  unfold jn
  simp only [List.cons_append, List.nil_append, List.cons.injEq, and_true]
  omega
theorem bs_fw (l v f t : Int) (v0 : 0 ≤ v) (v1 : v ≤ 255) (f0 : 0 ≤ f) (f1 : f ≤ 255) (t0 : 0 ≤ t) (t1 : t ≤ 65535) :
    bs (fw l v f t) 8 = bs (l % 18446744073709551616) 4 ++ [v, f] ++ bs (t % 18446744073709551616) 2 := by
  rw [bs8, bs4, bs2]
  unfold fw
  simp only [List.cons_append, List.nil_append, List.cons.injEq, and_true]
  omega
theorem fb_wb (l v f t o s m r z : Int) (v0 : 0 ≤ v) (v1 : v ≤ 255) (f0 : 0 ≤ f) (f1 : f ≤ 255) (t0 : 0 ≤ t) (t1 : t ≤ 65535) :
    fb l v f t o s m r z = wb (fw l v f t) (jn o s) (jn m r) z := by
  unfold fb wb
  rw [bs_fw l v f t v0 v1 f0 f1 t0 t1, bs_jn, bs_jn]
  simp only [List.append_assoc]
theorem wb_length (a b c d : Int) : (wb a b c d).length = 32 := by unfold wb; simp [bs_length]
theorem wb_in (a b c d : Int) : Bytes8 (wb a b c d) := ((((bs_in _ _).app (bs_in _ _)).app (bs_in _ _)).app (bs_in _ _))
theorem wb_0 (a b c d : Int) : ((wb a b c d).drop 0).take 8 = bs a 8 := by unfold wb; rw [bs8, bs8, bs8, bs8]; rfl
theorem wb_1 (a b c d : Int) : ((wb a b c d).drop 8).take 8 = bs b 8 := by unfold wb; rw [bs8, bs8, bs8, bs8]; rfl
theorem wb_2 (a b c d : Int) : ((wb a b c d).drop 16).take 8 = bs c 8 := by unfold wb; rw [bs8, bs8, bs8, bs8]; rfl
theorem wb_3 (a b c d : Int) : ((wb a b c d).drop 24).take 8 = bs d 8 := by unfold wb; rw [bs8, bs8, bs8, bs8]; rfl
theorem s32_low (v : Int) : s32 (num (bs v 4)) = s32 v := by rw [num_bs4]; exact s32_eq _ _ (by omega)
theorem wb_a0 (a b c d : Int) : ((wb a b c d).drop 0).take 4 = bs a 4 := by unfold wb; rw [bs8, bs8, bs8, bs8, bs4]; rfl
theorem wb_b0 (a b c d : Int) : ((wb a b c d).drop 8).take 4 = bs b 4 := by unfold wb; rw [bs8, bs8, bs8, bs8, bs4]; rfl
theorem wb_b1 (a b c d : Int) : ((wb a b c d).drop 12).take 4 = bs (b / 4294967296) 4 := by rw [← bs8_high]; unfold wb; rw [bs8, bs8, bs8, bs8]; rfl
theorem wb_c0 (a b c d : Int) : ((wb a b c d).drop 16).take 4 = bs c 4 := by unfold wb; rw [bs8, bs8, bs8, bs8, bs4]; rfl
theorem wb_c1 (a b c d : Int) : ((wb a b c d).drop 20).take 4 = bs (c / 4294967296) 4 := by rw [← bs8_high]; unfold wb; rw [bs8, bs8, bs8, bs8]; rfl
theorem wb_4 (a b c d : Int) : (wb a b c d).getD 4 0 = a / 4294967296 % 256 := by unfold wb; rw [bs8, bs8, bs8, bs8]; rfl
theorem wb_5 (a b c d : Int) : (wb a b c d).getD 5 0 = a / 1099511627776 % 256 := by unfold wb; rw [bs8, bs8, bs8, bs8]; rfl
theorem wb_6 (a b c d : Int) : (wb a b c d).getD 6 0 = a / 281474976710656 % 256 := by unfold wb; rw [bs8, bs8, bs8, bs8]; rfl
theorem wb_7 (a b c d : Int) : (wb a b c d).getD 7 0 = a / 72057594037927936 % 256 := by unfold wb; rw [bs8, bs8, bs8, bs8]; rfl
/-- Two bytes' number, as the plain answer reckons it. -/
theorem u16_two (x : Int) : IntKind.u16.wrap (IntKind.u16.wrap (x / 281474976710656 % 256) + IntKind.u16.wrap (256 * IntKind.u16.wrap (x / 72057594037927936 % 256))) = x / 281474976710656 % 65536 := by
  simp only [IntKind.wrap, IntKind.bits, IntKind.signed]
  simp
  omega
end Hd
end Go.Proofs.YtaomkamdfbibbaaGreat
namespace Go.Proofs.YtaomkamdfbibbaaGreat
open Go.RowKit

/-- A contract 'w = w'' met in a region that draws its order. -/
theorem quiet_same {P : Program} {f : FuncId} {args : Array Value} {w : World} {n : Nat} {v : Value}
    (h : Calls P f args (w.drewN n) fun e w' => e = .returned v ∧ w.drewN n = w') : Calls P f args (w.drewN n) fun e w'' => e = .returned v ∧ ∃ m, w'' = w.drewN m :=
  h.mono fun _ _ ⟨he, hm⟩ => ⟨he, n, hm.symm⟩

theorem signed_any (v : Value) (xs : List Int) (w : World) (h8 : Wd.Bytes8 xs) (hl : xs.length = 4) (h : BytesAt w v xs) :
    Calls Tryz.prog 55 #[v] w fun e w' => e = .returned (.int .i32 (Hd.s32 (Wd.num xs))) ∧ w = w' := by
  have ht : xs.take 8 = xs := List.take_of_length_le (by omega)
  have hb := Wd.num_bounds xs h8
  rw [hl] at hb
  have hb2 : Wd.num xs < 4294967296 := by have := hb.2; simp at this; omega
  have hb1 := hb.1
  have HT := Lib.hid ht
  clear hb ht
  have hw : IntKind.i64.wrap (Wd.num xs) = Wd.num xs := IntWalk.i64_in _ (by omega)
  have hc := refNumber_any v xs w h8 h
  rw [HT.out] at hc
  have HC := Lib.hid hc
  clear hc HT h8 h hl
  generalize Wd.num xs = n at *
  by_cases hn : 2147483648 ≤ n
  · go_enter Tryz.func55, Tryz.ntmps55
    go_wp2_with (go_at_call 56; refine HC.out.mono ?_; rintro e w' ⟨rfl, rfl⟩)
    go_ret
    refine ⟨ret_k ?_, rfl⟩
    unfold Hd.s32
    (try unfold wrap32); split <;> omega
  · have hn' : n < 2147483648 := by omega
    clear hn
    go_enter Tryz.func55, Tryz.ntmps55
    go_wp2_with (go_at_call 56; refine HC.out.mono ?_; rintro e w' ⟨rfl, rfl⟩)
    go_ret
    refine ⟨ret_k ?_, rfl⟩
    unfold Hd.s32
    (try unfold wrap32); split <;> omega

theorem hbytes_any (v : Int) (n : Nat) (w : World) (hn : n ≤ 8) :
    Calls Tryz.prog 57 #[.int .i64 v, .int .i64 n] w fun e w' => ∃ x, e = .returned x ∧ Owns w.heap.size w' x (Wd.bs (v % 18446744073709551616) n) ∧ Below w.heap.size w w' := by
  have H := Lib.hid (refBytes_own (v % 18446744073709551616) n w (by omega) (by omega) hn)
  go_enter Tryz.func57, Tryz.ntmps57
  go_wp2_with (go_at_call 54; refine H.out.mono ?_; rintro e w' ⟨x, rfl, hx, hb⟩)
  go_ret
  exact ⟨x, rfl, hx, hb⟩

set_option maxHeartbeats 400000 in
theorem refRecord_any (l h : Int) (w : World) (l0 : -2147483648 ≤ l) (l1 : l ≤ 2147483647) (h0 : -2147483648 ≤ h) (h1 : h ≤ 2147483647) :
    Calls Tryz.prog 40 #[.int .i32 l, .int .i32 h] w fun e w' => e = .returned (.int .u64 (Hd.jn l h)) ∧ Below w.heap.size w w' := by
  have H8 : Wd.Bytes8 (Wd.bs (l % 18446744073709551616) 4 ++ Wd.bs (h % 18446744073709551616) 4) := (Wd.bs_in _ _).app (Wd.bs_in _ _)
  have HN := Lib.hid (Hd.num_record l h)
  have HL : Hid ((Wd.bs (l % 18446744073709551616) 4 ++ Wd.bs (h % 18446744073709551616) 4).take 8 = Wd.bs (l % 18446744073709551616) 4 ++ Wd.bs (h % 18446744073709551616) 4) := Lib.hid (by rw [List.take_of_length_le]; simp [Wd.bs_length])
  go_enter Tryz.func40, Tryz.ntmps40
  go_wp2_with fail
  refine (hbytes_any l 4 w (by omega)).mono ?_
  rintro e w1 ⟨x, rfl, hx, hb1⟩
  go_wp2_with fail
  refine (hbytes_any h 4 w1 (by omega)).mono ?_
  rintro e w2 ⟨y, rfl, hy, hb2⟩
  have hx2 := hx.below hb2
  have hy2 := hy.bytes
  have hs1 := hb1.size
  have hs2 := hb2.size
  have HB := Lib.hid (hb1.after hb2)
  clear hx hy hb1 hb2
  go_wp2_with (first
    | (at_builtin; refine wpList_app rfl _ _ rfl w.heap.size x y _ _ rfl rfl hx2 hy2 (by simp [Wd.bs_length]) (by simp [Wd.bs_length]) (by omega) ?_; intro v3 w3 hv3 hb3 _; have hc := refNumber_any v3 _ w3 H8 hv3.bytes)
    | (go_at_call 56; refine hc.mono ?_; rintro e w' ⟨rfl, rfl⟩; rw [HL.out, HN.out]))
  go_ret
  exact ⟨rfl, HB.out.trans hb3⟩

set_option maxHeartbeats 400000 in
theorem refSplit_any (v : Int) (w : World) (v0 : 0 ≤ v) (v1 : v ≤ 18446744073709551615) :
    Calls Tryz.prog 37 #[.int .u64 v] w fun e w' => e = .returned (.tuple #[.int .i32 (Hd.s32 v), .int .i32 (Hd.s32 (v / 4294967296))]) ∧ Below w.heap.size w w' := by
  have H1 := Lib.hid (Hd.num_low v)
  have H2 := Lib.hid (Hd.num_high v)
  go_enter Tryz.func37, Tryz.ntmps37
  go_wp2_with fail
  refine (refBytes_own v 8 w v0 v1 (by omega)).mono ?_
  rintro e w1 ⟨x, rfl, hx, hb1⟩
  obtain ⟨g, cap, rfl, hn, hm, hg, hgl, hc⟩ := hx.form (by simp [Wd.bs_length])
  have ha := hx.bytes
  have l8 : (Wd.bs v 8).length = 8 := Wd.bs_length v 8
  rw [l8] at ha hn hc ⊢
  have hlo := ha.cut 0 4 cap (by omega)
  have hhi := ha.cut 4 4 (cap - 4) (by omega)
  rw [Nat.zero_add, List.drop_zero] at hlo
  rw [List.take_of_length_le (l := (Wd.bs v 8).drop 4) (by rw [List.length_drop]; omega), Nat.zero_add] at hhi
  have hS1 := fun n => signed_any _ _ (w1.drewN n) (Wd.take_bytes (Wd.bs_in v 8) 4) (by rw [List.length_take]; omega) (hlo.drewN n)
  have hS2 := fun n => signed_any _ _ (w1.drewN n) (Wd.drop_bytes (Wd.bs_in v 8) 4) (by rw [List.length_drop]; omega) (hhi.drewN n)
  have HS1 := Lib.hid hS1
  have HS2 := Lib.hid hS2
  have HB := Lib.hid hb1
  have hcap : (4 : Int) ≤ (cap : Int) := by omega
  clear hx ha hlo hhi hS1 hS2 hc hb1 l8 hm hg hgl
  go_wp2_with fail
  go_quiet ((first
    | (go_at_call 55; (with_reducible exact quiet_same (HS1.out _)))
    | (go_at_call 55; (with_reducible exact quiet_same (HS2.out _)))))
  go_wp2
  go_ret2
  refine ⟨ret_two H1.out.symm H2.out.symm, below_drewN HB.out _⟩

end Go.Proofs.YtaomkamdfbibbaaGreat
namespace Go.Proofs.YtaomkamdfbibbaaGreat
open Go.RowKit

set_option maxRecDepth 100000 in
set_option maxHeartbeats 800000 in
theorem refRight_any (B Z : Int) (hB : -9223372036854775808 ≤ B ∧ B ≤ 9223372036854775807) (hZ : -9223372036854775808 ≤ Z ∧ Z ≤ 9223372036854775807) (w : World) :
    Calls Tryz.prog 34 #[.agg #[.int .i64 B, .int .i64 Z]] w (Made (.bool (decide (Rg.right B Z))) w) := by
  have hb0 := un_below w (.int .i64 B) (.int .i64 Z) 23
  have hx := Go.Deep.blk_alloc_new w (.cells #[.int .i64 B, .int .i64 Z] 23)
  obtain ⟨q, hq⟩ : ∃ q : Bool, q = decide (Rg.right B Z) := ⟨_, rfl⟩
  rw [← hq]
  have HQ := Lib.hid hq
  clear hq
  go_enter Tryz.func34, Tryz.ntmps34
  go_upto_region 1 with (fail)
  generalize w.alloc (.cells #[.int .i64 B, .int .i64 Z] 23) = W at hb0 hx ⊢
  have x0 : W.cell? ⟨w.heap.size, 0, none⟩ = some (.int .i64 B) := by simp [World.cell?, hx]
  have x1 : W.cell? ⟨w.heap.size, 1, none⟩ = some (.int .i64 Z) := by simp [World.cell?, hx]
  clear hx
  go_wp2_with (go_at_call 52; refine (refIsPower_any Z _).mono ?_; rintro e w2 ⟨rfl, rfl⟩)
  all_goals
    go_ret
    refine ⟨?_, hb0⟩
    rw [HQ.out]
    first
      | (rw [show decide (Rg.right B Z) = decide (B ≤ 131072 - Z - 32) by rw [decide_eq_decide]; exact ⟨fun h => h.2.2.2.2.1, fun h => ⟨by assumption, by omega, by omega, by omega, h, by omega⟩⟩]; rfl)
      | (rw [show decide (Rg.right B Z) = false from decide_eq_false (fun ⟨_, _, _, _, _, _⟩ => by first | omega | simp_all)]; rfl)

set_option maxRecDepth 100000 in
theorem refPlace_any (B Z : Int) (v : Nat) (hz : 64 ≤ Z) (hz1 : Z ≤ 8192) (w : World) :
    Calls Tryz.prog 36 #[.agg #[.int .i64 B, .int .i64 Z], .int .u64 v] w (Made (.int .i64 ((v : Int) % Z)) w) := by
  have hb0 := un_below w (.int .i64 B) (.int .i64 Z) 23
  have hx := Go.Deep.blk_alloc_new w (.cells #[.int .i64 B, .int .i64 Z] 23)
  go_enter Tryz.func36, Tryz.ntmps36
  go_upto_region 1 with (fail)
  generalize w.alloc (.cells #[.int .i64 B, .int .i64 Z] 23) = W at hb0 hx ⊢
  have x1 : W.cell? ⟨w.heap.size, 1, none⟩ = some (.int .i64 Z) := by simp [World.cell?, hx]
  clear hx
  go_wp2
  go_ret
  refine ⟨?_, hb0⟩
  have h1 : wrap64 ((v : Int) % Z) = (v : Int) % Z := by
    have h2 := Int.emod_nonneg (v : Int) (b := Z) (by omega)
    have h3 := Int.emod_lt_of_pos (v : Int) (b := Z) (by omega)
    unfold wrap64
    omega
  show Ending.returned (.int .i64 (wrap64 ((v : Int) % Z))) = _
  rw [h1]

theorem wrap_room (Z x : Int) : wrap64 (IntKind.u64.wrap (IntKind.u64.wrap Z - IntKind.u64.wrap x)) = wrap64 (Z - x) := by
  have h : ∀ y, IntKind.u64.wrap y = y % 18446744073709551616 := fun y => by simp [IntKind.wrap, IntKind.signed, IntKind.bits]
  rw [h, h, h]
  unfold wrap64
  omega

end Go.Proofs.YtaomkamdfbibbaaGreat
namespace Go.Proofs.YtaomkamdfbibbaaGreat
open Go.RowKit

/-- Of one ring and one message. -/
structure Rs.Like (s : Rs) (B Z : Nat) (typ : Int) (f : Nat → Nat) (L : Nat) : Prop where
  b : s.B = B
  z : s.Z = Z
  y : s.typ = typ
  f : s.f = f
  l : s.L = L

/-- What stands while the document's put tries. -/
inductive PutLoop (m : Pm) (T : Nat → Ans) (B Z : Nat) (typ : Int) (f : Nat → Nat) (L p cap i : Nat) (A : Option Addr) : Value → Value → Value → Value → Value → Value → World → Prop where
  | try_ (j : Nat) (s : Rs) (t : Nat) (g q : Int) (wr : World) (hj : j ≤ i) (hm : m.at T j = .live s) (hp : s.ph = .tail) (hc : s.cl = false) (he : s.er = 0) (hl : s.Like B Z typ f L) (ht : TpOpen wr p A cap i j) :
      PutLoop m T B Z typ f L p cap i A (.int .u64 (Rs.un s.h : Nat)) (.bool true) (.int .u64 t) (.int .i64 g) (.int .i64 q) (.bool false) wr
  | won (j : Nat) (s : Rs) (h : Nat) (g pad : Int) (wr : World) (hj : j ≤ i) (hm : m.at T j = .live s) (hc : s.cl = true) (he : s.er = 0) (hpos : s.p = Rs.wr (s.t + pad)) (hp : (pad = 0 ∧ s.ph = .hdr) ∨ (0 < pad ∧ pad = s.gap ∧ s.ph = .padd pad)) (hl : s.Like B Z typ f L) (ht : TpOpen wr p A cap i j) :
      PutLoop m T B Z typ f L p cap i A (.int .u64 h) (.bool true) (.int .u64 (Rs.un s.t : Nat)) (.int .i64 g) (.int .i64 pad) (.bool true) wr
  | want (s : Rs) (a : Ac) (h t : Nat) (g q : Int) (wr : World) (hm : m.at T i = .live s) (hc : s.cl = false) (hn : s.next = some a) (hl : s.Like B Z typ f L) (ht : TpWant wr p A cap i a) :
      PutLoop m T B Z typ f L p cap i A (.int .u64 h) (.bool false) (.int .u64 t) (.int .i64 g) (.int .i64 q) (.bool false) wr

/-- A number without its sign stands at the same place. -/
theorem un_place {Z : Nat} (h : Wd.isP Z = true) (_h1 : (Z : Int) ≤ 8192) (x : Int) : ((Rs.un x : Nat) : Int) % (Z : Int) = x % (Z : Int) := by
  obtain ⟨k, hk, he⟩ := (Wd.isP_iff _).1 h
  have hx : ((Rs.un x : Nat) : Int) = x % 18446744073709551616 := by
    unfold Rs.un
    exact Int.toNat_of_nonneg (Int.emod_nonneg _ (by decide))
  rw [hx, he]
  refine Int.emod_emod_of_dvd _ ⟨2 ^ (64 - k), ?_⟩
  rw [← Int.pow_add, show k + (64 - k) = 64 by omega]
  rfl

theorem wr_place {Z : Nat} (h : Wd.isP Z = true) (x : Int) : Rs.wr x % (Z : Int) = x % (Z : Int) := by
  obtain ⟨k, hk, he⟩ := (Wd.isP_iff _).1 h
  have hd : (Z : Int) ∣ 18446744073709551616 := by
    rw [he]
    refine ⟨2 ^ (64 - k), ?_⟩
    rw [← Int.pow_add, show k + (64 - k) = 64 by omega]
    rfl
  obtain ⟨q, hq⟩ := hd
  have hw : Rs.wr x = x - (Z : Int) * (q * ((x + 9223372036854775808) / 18446744073709551616)) := by
    have e : (Z : Int) * (q * ((x + 9223372036854775808) / 18446744073709551616)) = 18446744073709551616 * ((x + 9223372036854775808) / 18446744073709551616) := by rw [hq, Int.mul_assoc]
    rw [e]
    unfold Rs.wr wrap64
    omega
  rw [hw]
  exact Int.sub_mul_emod_self_left _ _ _

theorem put_pos (t pad : Int) : wrap64 (IntKind.u64.wrap (((Rs.un t : Nat) : Int) + IntKind.u64.wrap pad)) = Rs.wr (t + pad) := by
  have h : ∀ y, IntKind.u64.wrap y = y % 18446744073709551616 := fun y => by simp [IntKind.wrap, IntKind.signed, IntKind.bits]
  have hx : ((Rs.un t : Nat) : Int) = t % 18446744073709551616 := by
    unfold Rs.un
    exact Int.toNat_of_nonneg (Int.emod_nonneg _ (by decide))
  rw [h, h, hx]
  unfold Rs.wr wrap64
  omega

/-- What stands while the document's put writes. -/
inductive PutWon (m : Pm) (T : Nat → Ans) (B Z : Nat) (typ : Int) (f : Nat → Nat) (L p cap i : Nat) (A : Option Addr) (q : Int) : Value → Value → World → Prop where
  | go (j : Nat) (s : Rs) (at_ : Int) (wr : World) (hj : j ≤ i) (hm : m.at T j = .live s) (hp : s.ph = .hdr) (hc : s.cl = true) (he : s.er = 0) (hat : at_ = s.spot s.p) (hq : s.p = q) (hl : s.Like B Z typ f L) (ht : TpOpen wr p A cap i j) :
      PutWon m T B Z typ f L p cap i A q (.bool true) (.int .i64 at_) wr
  | want (s : Rs) (a : Ac) (at_ : Int) (wr : World) (hm : m.at T i = .live s) (hc : s.cl = true) (hn : s.next = some a) (hl : s.Like B Z typ f L) (ht : TpWant wr p A cap i a) :
      PutWon m T B Z typ f L p cap i A q (.bool false) (.int .i64 at_) wr

theorem ring_end (t Z : Int) (_hz : 0 < Z) : (t + (Z - t % Z)) % Z = 0 := by
  have h := Int.emod_add_mul_ediv t Z
  have e : t + (Z - t % Z) = Z * (t / Z + 1) := by rw [Int.mul_add, Int.mul_one]; omega
  rw [e]
  exact Int.mul_emod_right _ _

/-- What stands while the document's put tries: the room at the tail is known, or something is wanted. -/
inductive PutMid (m : Pm) (T : Nat → Ans) (B Z : Nat) (typ : Int) (f : Nat → Nat) (L p cap i j0 : Nat) (A : Option Addr) : Value → Value → Value → World → Prop where
  | go (j : Nat) (s : Rs) (wr : World) (hj0 : j0 < j) (hj : j ≤ i) (hm : m.at T j = .live s.choose) (hc : s.cl = false) (he : s.er = 0) (hl : s.Like B Z typ f L) (ht : TpOpen wr p A cap i j) :
      PutMid m T B Z typ f L p cap i j0 A (.int .u64 (Rs.un s.h : Nat)) (.bool true) (.int .u64 (Rs.un s.t : Nat)) wr
  | want (s : Rs) (a : Ac) (h t : Nat) (wr : World) (hm : m.at T i = .live s) (hc : s.cl = false) (hn : s.next = some a) (hl : s.Like B Z typ f L) (ht : TpWant wr p A cap i a) :
      PutMid m T B Z typ f L p cap i j0 A (.int .u64 h) (.bool false) (.int .u64 t) wr

/-- .. the claim comes next, or something is wanted. -/
inductive PutCas (m : Pm) (T : Nat → Ans) (B Z : Nat) (typ : Int) (f : Nat → Nat) (L p cap i j0 : Nat) (A : Option Addr) (pad : Int) (t : Nat) : Value → Value → World → Prop where
  | go (j : Nat) (s : Rs) (wr : World) (hj0 : j0 < j) (hj : j ≤ i) (hm : m.at T j = .live s) (hp : s.ph = .cas pad) (hc : s.cl = false) (he : s.er = 0) (ht' : Rs.un s.t = t) (hpad : pad = 0 ∨ (0 < pad ∧ pad = s.gap)) (hl : s.Like B Z typ f L) (ht : TpOpen wr p A cap i j) :
      PutCas m T B Z typ f L p cap i j0 A pad t (.int .u64 (Rs.un s.h : Nat)) (.bool true) wr
  | want (s : Rs) (a : Ac) (h : Nat) (wr : World) (hm : m.at T i = .live s) (hc : s.cl = false) (hn : s.next = some a) (hl : s.Like B Z typ f L) (ht : TpWant wr p A cap i a) :
      PutCas m T B Z typ f L p cap i j0 A pad t (.int .u64 h) (.bool false) wr

theorem un_cast (x : Int) : ((Rs.un x : Nat) : Int) = x % 18446744073709551616 := by
  unfold Rs.un
  exact Int.toNat_of_nonneg (Int.emod_nonneg _ (by decide))

theorem fits_room (Z t h : Int) : wrap64 (Z - (((Rs.un t : Nat) : Int) - ((Rs.un h : Nat) : Int))) = Rs.wr (Z - Rs.wr (t - h)) := by
  rw [un_cast, un_cast]
  unfold Rs.wr wrap64
  omega

theorem cas_new (t nd pad : Int) : IntKind.u64.wrap (((Rs.un t : Nat) : Int) + (nd + pad)) = ((Rs.un (Rs.wr (Rs.wr (t + nd) + pad)) : Nat) : Int) := by
  have h : ∀ y, IntKind.u64.wrap y = y % 18446744073709551616 := fun y => by simp [IntKind.wrap, IntKind.signed, IntKind.bits]
  rw [h, un_cast, un_cast]
  unfold Rs.wr wrap64
  omega

theorem told_num {w : World} {A : Option Addr} {i : Nat} {T : Nat → Ans} (h : ToldAt w A i T) {j : Nat} (hj : j < i) : (T j).V < 18446744073709551616 := by
  obtain ⟨_, _, _, _, hc⟩ := h (by omega)
  exact (hc j hj).2.2.2.num

theorem Rs.take_tail (s : Rs) (x : An) (v : Nat) (h : s.ph = .tail) (hv : v = x.V) (s1 : Rs) (h1 : s1 = { s with t := Rs.wr (v : Int) }) : s.take x = if s1.fits = true then s1.choose else { s1 with ph := .head1 } := by
  subst h1 hv
  unfold Rs.take
  rw [h]

theorem Rs.fits_ph (s : Rs) (ph : Ph) : ({ s with ph := ph } : Rs).fits = s.fits := rfl
theorem Rs.ahead_ph (s : Rs) (ph : Ph) : ({ s with ph := ph } : Rs).ahead = s.ahead := rfl

theorem Rs.take_head1 (s : Rs) (x : An) (v : Nat) (hv : v = x.V) (s2 : Rs) (h2 : s2 = { s with h := Rs.wr (v : Int) }) : ({ s with ph := .head1 } : Rs).take x = if s2.fits = true then { s2 with ph := .copy1 } else { s2 with ph := .fin, er := 5 } := by
  subst h2 hv
  show (if ({ ({ s with h := Rs.wr x.V } : Rs) with ph := .head1 } : Rs).fits = true then _ else _) = _
  rw [Rs.fits_ph]

theorem Rs.take_head2 (s : Rs) (gap : Int) (x : An) (v : Nat) (hv : v = x.V) (s2 : Rs) (h2 : s2 = { s with h := Rs.wr (v : Int) }) : ({ s with ph := .head2 gap } : Rs).take x = if s2.ahead = true then { s2 with ph := .copy2 gap } else { s2 with ph := .fin, er := 5 } := by
  subst h2 hv
  show (if ({ ({ s with h := Rs.wr x.V } : Rs) with ph := .head2 gap } : Rs).ahead = true then _ else _) = _
  rw [Rs.ahead_ph]

theorem Rs.gap_h (s : Rs) (v : Int) : ({ s with h := v } : Rs).gap = s.gap := rfl

theorem run_on {P : Program} {c : Code} {Q : Exit → Act → World → Prop} {K : Act → World → Prop} {a : Act} {w : World} (h : ∀ (a : Act) (w : World), Code.wp P c Q a w → K a w) (hw : Code.wp P c Q a w) : K a w := h a w hw

/-- How much is still to be done: rounds of the trying. -/
def putMeasure (p i : Nat) (vo vd : Value) (wr : World) : Nat :=
  match vo, vd with
  | .bool true, .bool false => 1 + i - (intOf ((wr.cell? ⟨p, 1, none⟩).getD (.int .i64 0))).toNat
  | _, _ => 0

end Go.Proofs.YtaomkamdfbibbaaGreat
namespace Go.Proofs.YtaomkamdfbibbaaGreat
open Go.RowKit

/-- A fix behind the first j answers. -/
def Fm.at (m : Fm) (T : Nat → Ans) : Nat → Fm
  | 0 => m
  | j + 1 => (m.at T j).take (T j).an

theorem Fm.at_succ {m : Fm} {T : Nat → Ans} {j : Nat} {s : Fs} (h : m.at T j = .live s) : m.at T (j + 1) = .live (s.take (T j).an) := by
  show (m.at T j).take (T j).an = _
  rw [h]
  rfl
theorem Fm.at_end {m : Fm} {T : Nat → Ans} {j i : Nat} {s : Fs} (h : m.at T j = .live s) (hf : s.ph = .fin) (hj : j ≤ i) : m.at T i = .live s := by
  obtain ⟨n, rfl⟩ : ∃ n, i = j + n := ⟨i - j, by omega⟩
  clear hj
  induction n with
  | zero => exact h
  | succ n ih =>
    have := Fm.at_succ ih
    rw [show s.take (T (j + n)).an = s by unfold Fs.take; rw [hf]] at this
    exact this
theorem Fm.at_dead {m : Fm} {T : Nat → Ans} (h : m = .dead) : ∀ n, m.at T n = .dead := by
  intro n
  induction n with
  | zero => exact h
  | succ n ih =>
    show (m.at T n).take (T n).an = _
    rw [ih]
    rfl

/-- Half a word tells no more than four bytes. -/
def Fm.Half (m : Fm) (T : Nat → Ans) (i : Nat) : Prop := ∀ j, j < i → ∀ a, (m.at T j).next = some a → a.N = 4 → (T j).V < 4294967296

/-- What the document's fix on a tape that was told i answers is to say of the fix m; and what the tape wants. -/
def FixSays (p : Nat) (A : Option Addr) (cap i : Nat) (m : Fm) (w : World) (e : Ending) (w' : World) : Prop :=
  e = .returned (.tuple #[.int .i64 m.result.1, .int .i64 m.result.2]) ∧ Touch (One p) w w' ∧
    ∃ a B l c j, Tp w' p A cap i j a.K a.P a.N (a.V : Int) (a.U : Int) (.slice B l c) m.busy ∧ BytesAt w' (.slice B l c) a.bs ∧ a = m.next.getD Ac.zero

theorem fixSays_wants {p cap i : Nat} {A : Option Addr} {m : Fm} {s : Fs} {a : Ac} {w w' : World} (hm : m = .live s) (hn : s.next = some a) (hz : s.Z ≠ 0) (ht : Touch (One p) w w') (htp : TpWant w' p A cap i a) :
    FixSays p A cap i m w (.returned (.tuple #[.int .i64 0, .int .i64 10])) w' := by
  subst hm
  obtain ⟨B, l, c, htp, hb⟩ := htp
  have hbusy : (Fm.live s).busy = true := by show s.next.isSome = true; rw [hn]; rfl
  have hres : (Fm.live s).result = (0, 10) := by unfold Fm.result; rw [if_neg (by show ¬ (s.Z : Int) = 0; omega), if_pos hbusy]
  refine ⟨by rw [hres], ht, a, B, l, c, i, by rw [hbusy]; exact htp, hb, ?_⟩
  show a = s.next.getD Ac.zero
  rw [hn]
  rfl

theorem fixSays_end {p cap i j : Nat} {A : Option Addr} {m : Fm} {s : Fs} {w w' : World} (hm : m = .live s) (hn : s.ph = .fin) (hz : s.Z ≠ 0) (ht : Touch (One p) w w') (htp : TpOpen w' p A cap i j) :
    FixSays p A cap i m w (.returned (.tuple #[.int .i64 s.n, .int .i64 0])) w' := by
  subst hm
  have hnx : s.next = none := by unfold Fs.next; rw [hn]
  have hbusy : (Fm.live s).busy = false := by show s.next.isSome = false; rw [hnx]; rfl
  have hres : (Fm.live s).result = (s.n, 0) := by unfold Fm.result; rw [if_neg (by show ¬ (s.Z : Int) = 0; omega), if_neg (by rw [hbusy]; decide)]; rfl
  refine ⟨by rw [hres], ht, Ac.zero, none, 0, 0, j, by rw [hbusy]; exact htp, BytesAt.nil _, ?_⟩
  show Ac.zero = s.next.getD Ac.zero
  rw [hnx]
  rfl

set_option maxRecDepth 100000 in
set_option maxHeartbeats 800000 in
/-- A tape that wants something tells nothing more. -/
theorem tapeDo_ended {w : World} {p cap n j : Nat} {A B : Option Addr} {K0 P0 N0 V0 U0 : Int} {A0 : Option Addr} {L0 c0 : Nat} (h : Tp w p A cap n j K0 P0 N0 V0 U0 (.slice A0 L0 c0) true) (K P N V U : Int) (L c : Nat) :
    Calls Tryz.prog 53 #[.pointer (some ⟨p, 0, none⟩), .agg #[.int .i64 K, .int .i64 P, .int .i64 N, .int .u64 V, .int .u64 U, .slice B L c]] w (Made (.tuple #[.agg #[.int .u64 0, .bool false, .slice none 0 0], .bool false]) w) := by
  have HW := ((Below.refl w.heap.size w).alloc (Nat.le_refl _) (.cells #[.int .i64 K, .int .i64 P, .int .i64 N, .int .u64 V, .int .u64 U, .slice B L c] 32)).alloc (by simp) (.cells #[.int .u64 0, .bool false, .slice none 0 0] 37)
  have hR := Go.Deep.blk_alloc_new (w.alloc (.cells #[.int .i64 K, .int .i64 P, .int .i64 N, .int .u64 V, .int .u64 U, .slice B L c] 32)) (.cells #[.int .u64 0, .bool false, .slice none 0 0] 37)
  have e1 : (w.alloc (.cells #[.int .i64 K, .int .i64 P, .int .i64 N, .int .u64 V, .int .u64 U, .slice B L c] 32)).heap.size = w.heap.size + 1 := by simp
  rw [e1] at hR
  have HT := h.below HW
  clear h e1
  go_enter Tryz.func53, Tryz.ntmps53
  go_upto_region 1 with (fail)
  have t8 := HT.c8
  generalize (w.alloc (.cells #[.int .i64 K, .int .i64 P, .int .i64 N, .int .u64 V, .int .u64 U, .slice B L c] 32)).alloc (.cells #[.int .u64 0, .bool false, .slice none 0 0] 37) = W at HW hR HT t8 ⊢
  obtain ⟨a0, a1, a2, f0, f1, f2, _⟩ := AnsAt.of_blk hR
  clear hR HT
  go_wp2
  refine bodyPost_ret (v := .tuple #[.agg #[.int .u64 0, .bool false, .slice none 0 0], .bool false]) (by simp [results, Tryz.results53, go_sem, a0, a1, a2]) rfl ?_
  exact ⟨rfl, ((HW.setCell (p := ⟨w.heap.size + 1, 0, none⟩) (Nat.le_succ _) _).setCell (p := ⟨w.heap.size + 1, 1, none⟩) (Nat.le_succ _) _).setCell (p := ⟨w.heap.size + 1, 2, none⟩) (Nat.le_succ _) _⟩

set_option maxRecDepth 100000 in
set_option maxHeartbeats 800000 in
theorem tapeLoad_ended {w : World} {p cap n j : Nat} {A : Option Addr} {K0 P0 N0 V0 U0 : Int} {A0 : Option Addr} {L0 c0 : Nat} (h : Tp w p A cap n j K0 P0 N0 V0 U0 (.slice A0 L0 c0) true) (at_ k : Int) :
    Calls Tryz.prog 35 #[.pointer (some ⟨p, 0, none⟩), .int .i64 at_, .int .i64 k] w (Made (.tuple #[.int .u64 0, .bool false]) w) := by
  have HD := Lib.hid (tapeDo_ended (B := none) h 1 at_ k 0 0 0 0)
  clear h
  go_enter Tryz.func35, Tryz.ntmps35
  go_wp2_with (go_at_call 53; refine HD.out.mono ?_; rintro e w1 ⟨rfl, hb⟩; have HB := Lib.hid hb; clear hb)
  refine bodyPost_ret (v := .tuple #[.int .u64 0, .bool false]) (by simp [results, Tryz.results35, go_sem]) rfl ?_
  exact ⟨rfl, HB.out.alloc HB.out.size _⟩

theorem rg_box (w : World) (B Z : Int) :
    (w.alloc (.cells #[.int .i64 B, .int .i64 Z] 23)).cell? ⟨w.heap.size, 0, none⟩ = some (.int .i64 B) ∧ (w.alloc (.cells #[.int .i64 B, .int .i64 Z] 23)).cell? ⟨w.heap.size, 1, none⟩ = some (.int .i64 Z) := by
  have h := Go.Deep.blk_alloc_new w (.cells #[.int .i64 B, .int .i64 Z] 23)
  refine ⟨?_, ?_⟩ <;> (unfold World.cell?; simp only [h]; rfl)

/-- A tape that stands at j beside a ring in a box of its own. -/
structure Tw (w : World) (p : Nat) (A : Option Addr) (cap i j : Nat) (T : Nat → Ans) (rb : Nat) (B Z : Int) : Prop where
  tp : TpOpen w p A cap i j
  told : ToldAt w A i T
  r0 : w.cell? ⟨rb, 0, none⟩ = some (.int .i64 B)
  r1 : w.cell? ⟨rb, 1, none⟩ = some (.int .i64 Z)
  ne : rb ≠ p
  far : 0 < i → ∀ a, A = some a → a.block ≠ p
  cap0 : i ≤ cap
  cap1 : cap ≤ 9223372036854775807
  le : j ≤ i

theorem Tw.below {w w' : World} {p cap i j rb : Nat} {A : Option Addr} {T : Nat → Ans} {B Z : Int} (h : Tw w p A cap i j T rb B Z) (hb : Below w.heap.size w w') : Tw w' p A cap i j T rb B Z :=
  ⟨h.tp.below hb, h.told.below hb, (hb.cell (p := ⟨rb, 0, none⟩) (lt_of_cell h.r0)).trans h.r0, (hb.cell (p := ⟨rb, 1, none⟩) (lt_of_cell h.r1)).trans h.r1, h.ne, h.far, h.cap0, h.cap1, h.le⟩

/-- What a number loaded from a tape leaves. -/
def TwTold (p : Nat) (A : Option Addr) (cap i j : Nat) (T : Nat → Ans) (rb : Nat) (B Z : Int) (a : Ac) (w w' : World) (v : Nat) (ok : Bool) : Prop :=
  Touch (One p) w w' ∧ ((ok = true ∧ v = (T j).V ∧ v < 18446744073709551616 ∧ j < i ∧ Tw w' p A cap i (j + 1) T rb B Z) ∨ (ok = false ∧ v = 0 ∧ j = i ∧ TpWant w' p A cap i a ∧ w'.cell? ⟨rb, 0, none⟩ = some (.int .i64 B) ∧ w'.cell? ⟨rb, 1, none⟩ = some (.int .i64 Z)))

theorem twLoad {w : World} {p cap i j rb : Nat} {A : Option Addr} {T : Nat → Ans} {B Z : Int} (h : Tw w p A cap i j T rb B Z) (at_ k : Int) :
    Calls Tryz.prog 35 #[.pointer (some ⟨p, 0, none⟩), .int .i64 at_, .int .i64 k] w (fun e w' => ∃ (v : Nat) (ok : Bool), e = .returned (.tuple #[.int .u64 v, .bool ok]) ∧ TwTold p A cap i j T rb B Z ⟨1, at_, k, 0, 0, []⟩ w w' v ok) := by
  refine (tapeLoad_any h.tp h.le h.cap0 h.cap1 h.told h.far at_ k).mono ?_
  rintro e w' ⟨v, ok, rfl, ht, hor⟩
  have k0 := (ht.cell (p := ⟨rb, 0, none⟩) (lt_of_cell h.r0) h.ne).trans h.r0
  have k1 := (ht.cell (p := ⟨rb, 1, none⟩) (lt_of_cell h.r1) h.ne).trans h.r1
  refine ⟨v, ok, rfl, ht, ?_⟩
  rcases hor with ⟨h1, h2, h3, h4⟩ | ⟨h1, h2, h3, h4⟩
  · exact .inl ⟨h1, h3, by rw [h3]; exact told_num h.told h2, h2, h4, ToldAt.one h.tp (by intro x e; cases e) ht h.told h.far, k0, k1, h.ne, h.far, h.cap0, h.cap1, h2⟩
  · exact .inr ⟨h1, h3, h2, h4, k0, k1⟩

/-- What 'empty' tells. -/
def EmptySays (p : Nat) (A : Option Addr) (cap i : Nat) (T : Nat → Ans) (m : Fm) (s : Fs) (w : World) (e : Ending) (w' : World) : Prop :=
  ∃ good told, e = .returned (.tuple #[.bool good, .bool told]) ∧ Touch (One p) w w' ∧
    ((good = true ∧ told = true ∧ ∃ j, j ≤ i ∧ TpOpen w' p A cap i j ∧ m.at T j = .live { s with ph := .padd (s.m - s.a) }) ∨
     (good = false ∧ told = true ∧ ∃ j, j ≤ i ∧ TpOpen w' p A cap i j ∧ m.at T j = .live { s with ph := .fin }) ∨
     (good = false ∧ told = false ∧ ∃ x a, m.at T i = .live { s with ph := .down x } ∧ ({ s with ph := .down x } : Fs).next = some a ∧ TpWant w' p A cap i a))

theorem fx_spot {B Z : Nat} {x : Int} (h0 : 0 ≤ x) (h1 : x < Z) : Rg.spot B Z x = (B : Int) + x := by
  unfold Rg.spot Rg.place
  rw [Int.emod_eq_of_lt h0 h1]

set_option maxRecDepth 100000 in
set_option maxHeartbeats 2000000 in
theorem refEmpty_any {w : World} {p cap i j : Nat} {A : Option Addr} {T : Nat → Ans} {m : Fm} {s : Fs} (hr : Rg.Ok s.B s.Z) (ha : 0 ≤ s.a ∧ s.a < s.Z) (q : Int) (hq : s.a - 8 ≤ q ∧ q < s.Z) (hj : j ≤ i) (hi : i ≤ cap) (hcap : cap ≤ 9223372036854775807) (hA : 0 < i → ∀ a, A = some a → a.block ≠ p)
    (ht : TpOpen w p A cap i j) (hT : ToldAt w A i T) (hm : m.at T j = .live (s.back (q + 8))) (hh : m.Half T i) :
    Calls Tryz.prog 38 #[.pointer (some ⟨p, 0, none⟩), .agg #[.int .i64 s.B, .int .i64 s.Z], .int .i64 q, .int .i64 s.a] w (EmptySays p A cap i T m s w) := by
  have hb0 := un_below w (.int .i64 s.B) (.int .i64 s.Z) 23
  have HB0 := Lib.hid hb0
  have HX : Hid (Tw (w.alloc (.cells #[.int .i64 s.B, .int .i64 s.Z] 23)) p A cap i j T w.heap.size s.B s.Z) := Lib.hid ⟨ht.below hb0, hT.below hb0, (rg_box w s.B s.Z).1, (rg_box w s.B s.Z).2, by have := ht.lt; omega, hA, hi, hcap, hj⟩
  have HM := Lib.hid hm
  have HH := Lib.hid hh
  have HR := Lib.hid hr
  have hz1 := hr.z1
  have hB1 := hr.b1
  clear hb0 ht hT hm hh hr hi hcap hA
  go_enter Tryz.func38, Tryz.ntmps38
  go_upto_region 1 with (fail)
  generalize w.alloc (.cells #[.int .i64 s.B, .int .i64 s.Z] 23) = W at HB0 HX ⊢
  go_wp2_with fail
  go_loopw [10] (fun x wr => ∃ (y : Int) (j : Nat), x = .int .i64 y ∧ s.a - 8 ≤ y ∧ y < s.Z ∧ m.at T j = .live (s.back (y + 8)) ∧ Tw wr p A cap i j T w.heap.size s.B s.Z ∧ Touch (One p) W wr) (fun x _ => (intOf x - s.a + 8).toNat)
  case atStart => exact ⟨q, j, rfl, hq.1, hq.2, HM.out, HX.out, Touch.refl _ _⟩
  case round =>
    obtain ⟨y, j, rfl, hy0, hy1, hmj, htw, htt⟩ := hrel
    have HTW := Lib.hid htw
    have HTT := Lib.hid htt
    have HMJ := Lib.hid hmj
    have r0 := htw.r0
    have r1 := htw.r1
    clear htw htt hmj
    by_cases hlt : s.a ≤ y
    · have hd : decide (s.a ≤ y) = true := decide_eq_true hlt
      have e1 : IntKind.i64.wrap ((s.B : Int) + y) = s.B + y := IntWalk.i64_in _ (by omega)
      have e2 : IntKind.i64.wrap (y - 8) = y - 8 := IntWalk.i64_in _ (by omega)
      have HST : Hid (m.at T j = .live { s with ph := .down y }) := Lib.hid (by
        rw [HMJ.out]
        unfold Fs.back
        rw [show y + 8 - 8 = y by omega, if_neg (by omega)])
      have HNX : Hid (({ s with ph := .down y } : Fs).next = some ⟨1, (s.B : Int) + y, 4, 0, 0, []⟩) := Lib.hid (by
        show some (⟨1, Rg.spot s.B s.Z y, 4, 0, 0, []⟩ : Ac) = _
        rw [fx_spot (by omega) (by omega)])
      go_wp2_with fail
      refine (twLoad HTW.out _ _).mono ?_
      rintro e w2 ⟨v, ok, rfl, ht2, hor⟩
      have HT2 := Lib.hid ht2
      clear ht2 r0 r1
      rcases hor with ⟨rfl, hv, hvn, hji, htw2⟩ | ⟨rfl, rfl, hji, hwant, k0, k1⟩
      · have hlow : v < 4294967296 := by
          rw [hv]
          exact HH.out j hji _ (by rw [HST.out]; exact HNX.out) rfl
        have HTW2 := Lib.hid htw2
        have r0 := htw2.r0
        have r1 := htw2.r1
        clear htw2
        have hnext := Fm.at_succ HST.out
        have HN := Lib.hid hnext
        clear hnext
        by_cases hv0 : v = 0
        · have HN2 : Hid (m.at T (j + 1) = .live (s.back (y - 8 + 8))) := Lib.hid (by
            rw [HN.out]
            unfold Fs.take
            show Fm.live (if (T j).V % 4294967296 = 0 then _ else _) = _
            rw [← hv, hv0, if_pos (by decide), show y - 8 + 8 = y by omega]
            rfl)
          subst hv0
          clear hv
          go_wp2
          go_roundw
          case rel => exact ⟨y - 8, j + 1, by go_num, by omega, by omega, HN2.out, HTW2.out, HTT.out.trans HT2.out⟩
          case measure => simp [intOf]; omega
        · have HN2 : Hid (m.at T (j + 1) = .live { s with ph := .fin }) := Lib.hid (by
            rw [HN.out]
            unfold Fs.take
            show Fm.live (if (T j).V % 4294967296 = 0 then _ else _) = _
            rw [← hv, if_neg (by omega)])
          have hv1 : ((v : Int) != 0) = true := by simp; omega
          clear hv
          go_wp2
          refine bodyPost_ret (v := .tuple #[.bool false, .bool true]) (by simp [results, Tryz.results38, go_sem]) rfl ?_
          exact ⟨false, true, rfl, (Touch.of_below HB0.out).trans (HTT.out.trans HT2.out), .inr (.inl ⟨rfl, rfl, j + 1, HTW2.out.le, HTW2.out.tp, HN2.out⟩)⟩
      · have HWA := Lib.hid hwant
        clear hwant
        go_wp2
        refine bodyPost_ret (v := .tuple #[.bool false, .bool false]) (by simp [results, Tryz.results38, go_sem]) rfl ?_
        exact ⟨false, false, rfl, (Touch.of_below HB0.out).trans (HTT.out.trans HT2.out), .inr (.inr ⟨rfl, rfl, y, _, by rw [← hji]; exact HST.out, HNX.out, HWA.out⟩)⟩
    · have hd : decide (s.a ≤ y) = false := decide_eq_false hlt
      have HST : Hid (m.at T j = .live { s with ph := .padd (s.m - s.a) }) := Lib.hid (by
        rw [HMJ.out]
        unfold Fs.back
        rw [show y + 8 - 8 = y by omega, if_pos (by omega)])
      go_wp2
      refine bodyPost_ret (v := .tuple #[.bool true, .bool true]) (by simp [results, Tryz.results38, go_sem]) rfl ?_
      exact ⟨true, true, rfl, (Touch.of_below HB0.out).trans HTT.out, .inl ⟨rfl, rfl, j, HTW.out.le, HTW.out.tp, HST.out⟩⟩
end Go.Proofs.YtaomkamdfbibbaaGreat
namespace Go.Proofs.YtaomkamdfbibbaaGreat
open Go.RowKit

theorem fx_take_up {s : Fs} {q : Int} {x : An} (hp : s.ph = .up q) : s.take x = if x.V % 4294967296 = 0 then s.ahead (q + 8) else ({ s with m := q } : Fs).back q := by unfold Fs.take; rw [hp]
theorem fx_take_padd {s : Fs} {n : Int} {x : An} (hp : s.ph = .padd n) : s.take x = { s with n := n, ph := .fin } := by unfold Fs.take; rw [hp]

set_option linter.unusedSimpArgs false in
set_option maxRecDepth 100000 in
set_option maxHeartbeats 8000000 in
theorem refFix_live (B Z : Nat) (hB : -9223372036854775808 ≤ (B : Int) ∧ (B : Int) ≤ 9223372036854775807) (hZ : -9223372036854775808 ≤ (Z : Int) ∧ (Z : Int) ≤ 9223372036854775807) (hok : Rg.right B Z) (p cap i : Nat) (A : Option Addr) (hi : i ≤ cap) (hcap : cap ≤ 9223372036854775807) (T : Nat → Ans) (hA : 0 < i → ∀ a, A = some a → a.block ≠ p) (w : World)
    (hT : ToldAt w A i T) (ht : TpOpen w p A cap i 0) (m : Fm) (hm : m = .live ⟨B, Z, 0, 0, 0, 0, .head⟩) (hh : m.Half T i) :
    Calls Tryz.prog 17 #[.pointer (some ⟨p, 0, none⟩), .agg #[.int .i64 B, .int .i64 Z]] w (FixSays p A cap i (m.at T i) w) := by
  have hb0 := un_below w (.int .i64 B) (.int .i64 Z) 23
  have HB0 := Lib.hid hb0
  have HX : Hid (Tw (w.alloc (.cells #[.int .i64 B, .int .i64 Z] 23)) p A cap i 0 T w.heap.size B Z) := Lib.hid ⟨ht.below hb0, hT.below hb0, (rg_box w B Z).1, (rg_box w B Z).2, by have := ht.lt; omega, hA, hi, hcap, Nat.zero_le _⟩
  have HBZ := Lib.hid (And.intro hB hZ)
  have HOK := Lib.hid hok
  have HH := Lib.hid hh
  have HM : Hid (m.at T 0 = .live ⟨B, Z, 0, 0, 0, 0, .head⟩) := Lib.hid hm
  have hz0 : 64 ≤ (Z : Int) := hok.2.1
  have hz1 : (Z : Int) ≤ 8192 := hok.2.2.1
  have hB1 : (B : Int) ≤ 131072 - Z - 32 := hok.2.2.2.2.1
  have HZN : Hid (Z ≠ 0) := Lib.hid (by omega)
  have HRG : Hid (Rg.Ok B Z) := Lib.hid ⟨hok.1, by omega, by omega, by have := hok.2.2.2.2.2; omega, by omega⟩
  have e1 : IntKind.i64.wrap ((B : Int) + Z) = B + Z := IntWalk.i64_in _ (by omega)
  have e2 : IntKind.i64.wrap ((B : Int) + Z + 16) = B + Z + 16 := IntWalk.i64_in _ (by omega)
  obtain ⟨mi, hmi⟩ : ∃ mi, mi = m.at T i := ⟨_, rfl⟩
  rw [← hmi]
  have HMI := Lib.hid hmi
  clear hb0 ht hT hm hh hi hcap hA hB hZ hok hmi
  go_enter Tryz.func17, Tryz.ntmps17
  go_upto_region 1 with (fail)
  generalize w.alloc (.cells #[.int .i64 B, .int .i64 Z] 23) = W at HB0 HX ⊢
  have r0 := HX.out.r0
  have r1 := HX.out.r1
  go_upto_region 3 with (go_at_call 34; refine (refRight_any B Z HBZ.out.1 HBZ.out.2 W).mono ?_; rintro e w1 ⟨rfl, hb1⟩; rw [decide_eq_true HOK.out])
  have HTW1 := Lib.hid (HX.out.below hb1)
  have HTT1 : Hid (Touch (One p) w w1) := Lib.hid ((Touch.of_below HB0.out).trans (Touch.of_below hb1))
  clear r0 r1 hb1
  have r0 := HTW1.out.r0
  have r1 := HTW1.out.r1
  go_upto_region 4 with (go_at_call 35; refine (twLoad HTW1.out _ _).mono ?_; rintro e w2 ⟨v0, ok, rfl, ht2, hor⟩; have HOR := Lib.hid hor; have HT2 := Lib.hid (HTT1.out.trans ht2); clear hor ht2)
  clear r0 r1
  rcases HOR.out with ⟨rfl, hv0, hv0n, hj0, htw2⟩ | ⟨rfl, rfl, hji, hwant, k0, k1⟩
  rotate_left
  · have HJI := Lib.hid hji
    clear hji
    obtain ⟨B0, l0, c0, htp, hbt⟩ := hwant
    have HTP := Lib.hid htp
    have HBT := Lib.hid hbt
    clear htp hbt HOR
    go_wp2_with (go_at_call 35; refine (tapeLoad_ended HTP.out _ _).mono ?_; rintro e w3 ⟨rfl, hb3⟩; have HB3 := Lib.hid hb3; clear hb3)
    refine bodyPost_ret (v := .tuple #[.int .i64 0, .int .i64 10]) (by simp [results, Tryz.results17, go_sem]) rfl ?_
    exact fixSays_wants (s := ⟨B, Z, 0, 0, 0, 0, .head⟩) (by rw [HMI.out, ← HJI.out]; exact HM.out) rfl HZN.out (HT2.out.trans (Touch.of_below HB3.out)) ⟨B0, l0, c0, HTP.out.below HB3.out, HBT.out.below HB3.out⟩
  have HTW2 := Lib.hid htw2
  have HS1 : Hid (m.at T 1 = .live ⟨B, Z, 0, 0, 0, 0, .tail v0⟩) := Lib.hid (by rw [Fm.at_succ HM.out, hv0]; rfl)
  clear htw2 HOR HTW1 HTT1 hv0 hj0
  have r0 := HTW2.out.r0
  have r1 := HTW2.out.r1
  go_upto_region 5 with (go_at_call 35; refine (twLoad HTW2.out _ _).mono ?_; rintro e w3 ⟨v1, ok, rfl, ht3, hor⟩; have HOR := Lib.hid hor; have HT3 := Lib.hid (HT2.out.trans ht3); clear hor ht3)
  clear r0 r1
  rcases HOR.out with ⟨rfl, hv1, hv1n, hj1, htw3⟩ | ⟨rfl, rfl, hji, hwant, k0, k1⟩
  rotate_left
  · have HWA := Lib.hid hwant
    have HJI := Lib.hid hji
    clear hwant HOR k0 k1 hji
    go_wp2
    refine bodyPost_ret (v := .tuple #[.int .i64 0, .int .i64 10]) (by simp [results, Tryz.results17, go_sem]) rfl ?_
    exact fixSays_wants (s := ⟨B, Z, 0, 0, 0, 0, .tail v0⟩) (by rw [HMI.out, ← HJI.out]; exact HS1.out) (by show some (⟨1, (B : Int) + Z + 0, 8, 0, 0, []⟩ : Ac) = _; rw [Int.add_zero]) HZN.out HT3.out HWA.out
  have HTW3 := Lib.hid htw3
  have HS2 : Hid (m.at T 2 = .live (if v1 = v0 then ⟨B, Z, 0, 0, 0, 0, .fin⟩ else (⟨B, Z, 0, 0, 0, 0, .tail v0⟩ : Fs).span (Rs.wr v0) (Rs.wr v1))) := Lib.hid (by rw [Fm.at_succ HS1.out, hv1]; rfl)
  clear htw3 HOR HTW2 HT2 hv1 hj1
  by_cases heq : v1 = v0
  · have hd : ((v0 : Int) == (v1 : Int)) = true := by subst heq; simp
    have HS3 : Hid (m.at T 2 = .live ⟨B, Z, 0, 0, 0, 0, .fin⟩) := Lib.hid (by rw [HS2.out, if_pos heq])
    clear heq
    go_wp2
    refine bodyPost_ret (v := .tuple #[.int .i64 0, .int .i64 0]) (by simp [results, Tryz.results17, go_sem]) rfl ?_
    exact fixSays_end (s := ⟨B, Z, 0, 0, 0, 0, .fin⟩) (by rw [HMI.out]; exact Fm.at_end HS3.out rfl HTW3.out.le) rfl HZN.out HT3.out HTW3.out.tp
  have hd : ((v0 : Int) == (v1 : Int)) = false := by simp; omega
  obtain ⟨a, ha⟩ : ∃ a : Int, a = (v0 : Int) % Z := ⟨_, rfl⟩
  obtain ⟨b0, hb0⟩ : ∃ b : Int, b = (v1 : Int) % Z := ⟨_, rfl⟩
  have ha0 : 0 ≤ a := by rw [ha]; exact Int.emod_nonneg _ (by omega)
  have ha1 : a < Z := by rw [ha]; exact Int.emod_lt_of_pos _ (by omega)
  have hb00 : 0 ≤ b0 := by rw [hb0]; exact Int.emod_nonneg _ (by omega)
  have hb01 : b0 < Z := by rw [hb0]; exact Int.emod_lt_of_pos _ (by omega)
  have HS3 : Hid (m.at T 2 = .live ⟨B, Z, a, if b0 ≤ a then (Z : Int) else b0, 0, 0, .hdr⟩) := Lib.hid (by
    rw [HS2.out, if_neg heq]
    unfold Fs.span Rg.place
    simp only [wr_place HRG.out.pow]
    rw [← ha, ← hb0])
  have HAB := Lib.hid (And.intro ha hb0)
  clear ha hb0 heq HS2
  have r0 := HTW3.out.r0
  have r1 := HTW3.out.r1
  have hlr := lt_of_cell r0
  go_upto_region 9 with (fail)
  go_region_held3 (fun w' => w'.cell? ⟨w.heap.size, 0, none⟩ = some (.int .i64 B) ∧ w'.cell? ⟨w.heap.size, 1, none⟩ = some (.int .i64 Z)) (go_keep)
    (first
      | (go_at_call 36; have hbz := hb1; refine (refPlace_any B Z v1 hz0 hz1 _).mono ?_; rintro e x2 ⟨rfl, hq2⟩; rw [← HAB.out.2]; have hb2 := hb1.trans (hq2.mono hb1.size); have s0 := (hb2.cell (p := ⟨w.heap.size, 0, none⟩) hlr).trans r0; have s1 := (hb2.cell (p := ⟨w.heap.size, 1, none⟩) hlr).trans r1)
      | (go_at_call 36; refine (refPlace_any B Z v0 hz0 hz1 _).mono ?_; rintro e x1 ⟨rfl, hq1⟩; rw [← HAB.out.1]; have hb1 := below_drew hq1; have q0 := (hb1.cell (p := ⟨w.heap.size, 0, none⟩) hlr).trans r0; have q1 := (hb1.cell (p := ⟨w.heap.size, 1, none⟩) hlr).trans r1))
  have HTW4 := Lib.hid (HTW3.out.below hb2)
  have HT4 := Lib.hid (HT3.out.trans (Touch.of_below hb2))
  clear r0 r1 q0 q1 s0 s1 hb1 hb2 hq1 hq2 HTW3 HT3 hlr hd
  have r0 := HTW4.out.r0
  have r1 := HTW4.out.r1

  by_cases hle : b0 ≤ a
  · have hdl : decide (b0 ≤ a) = true := decide_eq_true hle
    have HS4 : Hid (m.at T 2 = .live ⟨B, Z, a, (Z : Int), 0, 0, .hdr⟩) := Lib.hid (by rw [HS3.out, if_pos hle])
    clear HS3 HAB
    go_upto_region 12 with (fail)
    have e3 : IntKind.i64.wrap ((B : Int) + a) = B + a := IntWalk.i64_in _ (by omega)
    go_upto_region 13 with (go_at_call 35; refine (twLoad HTW4.out _ _).mono ?_; rintro e w5 ⟨v2, ok, rfl, ht5, hor⟩; have HOR := Lib.hid hor; have HT5 := Lib.hid (HT4.out.trans ht5); clear hor ht5)
    clear r0 r1
    rcases HOR.out with ⟨rfl, hv2, hv2n, hj2, htw5⟩ | ⟨rfl, rfl, hji, hwant, k0, k1⟩
    rotate_left
    · have HWA := Lib.hid hwant
      have HJI := Lib.hid hji
      clear hwant HOR k0 k1 hji
      go_wp2
      refine bodyPost_ret (v := .tuple #[.int .i64 0, .int .i64 10]) (by simp [results, Tryz.results17, go_sem]) rfl ?_
      exact fixSays_wants (s := ⟨B, Z, a, (Z : Int), 0, 0, .hdr⟩) (by rw [HMI.out, ← HJI.out]; exact HS4.out) (by show some (⟨1, Rg.spot B Z a, 8, 0, 0, []⟩ : Ac) = _; rw [fx_spot ha0 ha1]) HZN.out HT5.out HWA.out
    have HTW5 := Lib.hid htw5
    obtain ⟨l, hl⟩ : ∃ l : Int, l = Hd.s32 v2 := ⟨_, rfl⟩
    have hlb : -2147483648 ≤ l ∧ l ≤ 2147483647 := by rw [hl]; exact Hd.s32_bounds _
    have HS5 : Hid (m.at T 3 = .live ((⟨B, Z, a, (Z : Int), 0, 0, .hdr⟩ : Fs).judge l)) := Lib.hid (by rw [Fm.at_succ HS4.out, hl, hv2]; rfl)
    have HL := Lib.hid hl
    clear htw5 HOR HTW4 HT4 hv2 hj2 hl
    go_upto_region 16 with (go_at_call 37; refine (refSplit_any v2 _ (by omega) (by omega)).mono ?_; rintro e w6 ⟨rfl, hb6⟩; rw [← HL.out])
    have HTW6 := Lib.hid (HTW5.out.below hb6)
    have HT6 := Lib.hid (HT5.out.trans (Touch.of_below hb6))
    generalize Hd.s32 ((v2 : Int) / 4294967296) = ty
    clear hb6 HTW5 HT5 HL hv2n
    have r1 := HTW6.out.r1
    have e8 : IntKind.i64.wrap l = l := IntWalk.i64_in _ (by omega)
    have e9 : IntKind.i64.wrap ((Z : Int) - a) = Z - a := IntWalk.i64_in _ (by omega)
    have e10 : IntKind.i64.wrap (-((Z : Int) - a)) = -((Z : Int) - a) := IntWalk.i64_in _ (by omega)
    by_cases hl0 : 0 < l
    · have hd0 : decide (0 < l) = true := decide_eq_true hl0
      have HS6 : Hid (m.at T 3 = .live ⟨B, Z, a, (Z : Int), 0, 0, .fin⟩) := Lib.hid (by rw [HS5.out]; unfold Fs.judge; rw [if_neg (by omega), if_neg (fun h => by omega)])
      go_wp2
      refine bodyPost_ret (v := .tuple #[.int .i64 0, .int .i64 0]) (by simp [results, Tryz.results17, go_sem]) rfl ?_
      exact fixSays_end (s := ⟨B, Z, a, (Z : Int), 0, 0, .fin⟩) (by rw [HMI.out]; exact Fm.at_end HS6.out rfl HTW6.out.le) rfl HZN.out HT6.out HTW6.out.tp
    have hd0 : decide (0 < l) = false := decide_eq_false hl0
    by_cases hl1 : l < -((Z : Int) - a)
    · have hd1 : decide (l < -((Z : Int) - a)) = true := decide_eq_true hl1
      have HS6 : Hid (m.at T 3 = .live ⟨B, Z, a, (Z : Int), 0, 0, .fin⟩) := Lib.hid (by rw [HS5.out]; unfold Fs.judge; rw [if_neg (by omega), if_neg (fun h => by have h2 : a - l ≤ (Z : Int) := h.2; omega)])
      go_wp2
      refine bodyPost_ret (v := .tuple #[.int .i64 0, .int .i64 0]) (by simp [results, Tryz.results17, go_sem]) rfl ?_
      exact fixSays_end (s := ⟨B, Z, a, (Z : Int), 0, 0, .fin⟩) (by rw [HMI.out]; exact Fm.at_end HS6.out rfl HTW6.out.le) rfl HZN.out HT6.out HTW6.out.tp
    have hd1 : decide (l < -((Z : Int) - a)) = false := decide_eq_false hl1
    have e12 : IntKind.i64.wrap (a + 8) = a + 8 := IntWalk.i64_in _ (by omega)
    by_cases hl2 : l < 0
    · have hd2 : decide (l < 0) = true := decide_eq_true hl2
      have e13 : IntKind.i32.wrap (-l) = -l := (Hd.s32_wrap _).trans (Hd.s32_in _ (by omega) (by omega))
      have e14 : IntKind.i64.wrap (-l) = -l := IntWalk.i64_in _ (by omega)
      have e15 : wrap32 (-l) = -l := by unfold wrap32; omega
      have HS6 : Hid (m.at T 3 = .live ⟨B, Z, a, (Z : Int), 0, 0, .padd (-l)⟩) := Lib.hid (by rw [HS5.out]; unfold Fs.judge; rw [if_neg (by omega), if_pos ⟨hl2, by show a - l ≤ (Z : Int); omega⟩])
      obtain ⟨n, hn⟩ : ∃ n : Int, n = -l := ⟨_, rfl⟩
      have hn0 : 1 ≤ n := by omega
      have hn1 : n ≤ 8192 := by omega
      rw [← hn] at HS6 e13 e14 e15
      have HN := Lib.hid hn
      go_wp2_with fail
      try rw [← HN.out]
      clear hd0 hd1 hd2 e8 e9 e10 hl0 hl1 hl2 hlb r1 hn HN
      go_loopw [15, 16] (fun vn vx wr => vn = .int .i64 n ∧ vx = .int .i64 (a + 8) ∧ wr = w6) (fun _ _ _ => 0)
      case atStart => exact ⟨rfl, rfl, rfl⟩
      case round =>
        obtain ⟨rfl, rfl, rfl⟩ := hrel
        have hnn : (n == 0) = false := by simp; omega
        have HST := HS6
        have HTWL := HTW6
        have HTTL := HT6
        have hnz : (n == 0) = false := by simp; omega
        have e5 : IntKind.i32.wrap n = n := (Hd.s32_wrap _).trans (Hd.s32_in _ (by omega) (by omega))
        have e6 : wrap32 n = n := by unfold wrap32; omega
        have e7 : IntKind.i64.wrap ((B : Int) + a) = B + a := IntWalk.i64_in _ (by omega)
        have r0 := HTWL.out.r0
        have r1 := HTWL.out.r1
        have hlr := lt_of_cell r0
        have hlp := HTWL.out.ne
        obtain ⟨Vp, hV, hVn⟩ : ∃ V : Nat, Hd.jn n (-1) = (V : Int) ∧ (Hd.jn n (-1)).toNat = V := rp_cast _ (Hd.jn_bounds _ _).1
        have HVN := Lib.hid hVn
        clear hVn
        go_wp2_with fail
        go_region_held3 (fun w' => w'.cell? ⟨w.heap.size, 0, none⟩ = some (.int .i64 B)) (go_keep)
          (first
            | (go_at_call 39; refine (tapeStore_any (HTWL.out.tp.below hb1) HTWL.out.le HTWL.out.cap0 HTWL.out.cap1 (HTWL.out.told.below hb1) HTWL.out.far _ 8 Vp).mono ?_; rintro e w6 ⟨ok, rfl, ht6, hor⟩; have HOR := Lib.hid hor; clear hor; have s0 := (ht6.cell (p := ⟨w.heap.size, 0, none⟩) (lt_of_cell q0) hlp).trans q0)
            | (go_at_call 40; refine (refRecord_any n (-1) _ (by omega) (by omega) (by omega) (by omega)).mono ?_; rintro e x1 ⟨rfl, hq1⟩; rw [hV]; have hb1 := below_drew hq1; have q0 := (hb1.cell (p := ⟨w.heap.size, 0, none⟩) hlr).trans r0))
        have HT6 := Lib.hid (HTTL.out.trans ((Touch.of_below (S := One p) hb1).trans ht6))
        clear r0 r1 q0 s0 hb1 hq1 ht6 hlr hnz
        rcases HOR.out with ⟨rfl, hji, _, htp⟩ | ⟨rfl, hji, _, hwant⟩
        · have HTP := Lib.hid htp
          clear htp HOR
          go_wp2
          refine bodyPost_ret (v := .tuple #[.int .i64 n, .int .i64 0]) (by simp [results, Tryz.results17, go_sem]) rfl ?_
          exact fixSays_end (s := { (⟨B, Z, a, (Z : Int), 0, 0, .hdr⟩ : Fs) with n := n, ph := .fin }) (by rw [HMI.out]; exact Fm.at_end (by rw [Fm.at_succ HST.out, fx_take_padd rfl]) rfl hji) rfl HZN.out HT6.out HTP.out
        · have HWA := Lib.hid hwant
          have HJI := Lib.hid hji
          clear hwant HOR hji
          go_wp2
          refine bodyPost_ret (v := .tuple #[.int .i64 0, .int .i64 10]) (by simp [results, Tryz.results17, go_sem]) rfl ?_
          exact fixSays_wants (s := { (⟨B, Z, a, (Z : Int), 0, 0, .hdr⟩ : Fs) with ph := .padd n }) (by rw [HMI.out, ← HJI.out]; exact HST.out) (by show some (⟨2, Rg.spot B Z a, 8, (Hd.jn n (-1)).toNat, 0, []⟩ : Ac) = _; rw [HVN.out, fx_spot ha0 ha1]) HZN.out HT6.out HWA.out
    have hl3 : l = 0 := by omega
    subst hl3
    have HS6 : Hid (m.at T 3 = .live ((⟨B, Z, a, (Z : Int), 0, 0, .hdr⟩ : Fs).ahead (a + 8))) := Lib.hid (by rw [HS5.out]; unfold Fs.judge; rw [if_pos rfl])
    go_wp2_with fail
    clear hd0 hd1 e8 e9 e10 hl0 hl1 hl2 hlb r1 HS5
    go_loopw [15, 16] (fun vn vx wr => ∃ (n x mm : Int) (j : Nat), vn = .int .i64 n ∧ vx = .int .i64 x ∧ Tw wr p A cap i j T w.heap.size B Z ∧ Touch (One p) w6 wr ∧ a + 8 ≤ x ∧ x ≤ 16384 ∧
        ((n = 0 ∧ m.at T j = .live ((⟨B, Z, a, (Z : Int), mm, 0, .hdr⟩ : Fs).ahead x)) ∨ (1 ≤ n ∧ n ≤ 8192 ∧ m.at T j = .live ⟨B, Z, a, (Z : Int), mm, 0, .padd n⟩))) (fun vn vx _ => if intOf vn = 0 then (20000 - intOf vx).toNat + 1 else 0)
    case atStart => exact ⟨0, a + 8, 0, _, rfl, rfl, HTW6.out, Touch.refl _ _, by omega, by omega, .inl ⟨rfl, HS6.out⟩⟩
    case round =>
      obtain ⟨n, x, mm, j, rfl, rfl, htw, htt, hx0, hx1, hor⟩ := hrel
      have HTWL := Lib.hid htw
      have HTTL := Lib.hid (HT6.out.trans htt)
      have HTT6 := Lib.hid htt
      clear htw htt
      rcases hor with ⟨rfl, hst⟩ | ⟨hn0, hn1, hst⟩
      · have HST0 := Lib.hid hst
        clear hst
        by_cases hxb : x < (Z : Int)
        · have hdx : decide (x < (Z : Int)) = true := decide_eq_true hxb
          have HST : Hid (m.at T j = .live ⟨B, Z, a, (Z : Int), mm, 0, .up x⟩) := Lib.hid (by rw [HST0.out]; unfold Fs.ahead; rw [if_neg (by show ¬ (Z : Int) ≤ x; omega)])
          have HNX : Hid ((⟨B, Z, a, (Z : Int), mm, 0, .up x⟩ : Fs).next = some ⟨1, (B : Int) + x, 4, 0, 0, []⟩) := Lib.hid (by
            show some (⟨1, Rg.spot B Z x, 4, 0, 0, []⟩ : Ac) = _
            rw [fx_spot (by omega) (by omega)])
          have r0 := HTWL.out.r0
          have r1 := HTWL.out.r1
          have f1 : IntKind.i64.wrap ((B : Int) + x) = B + x := IntWalk.i64_in _ (by omega)
          have f2 : IntKind.i64.wrap (x + 8) = x + 8 := IntWalk.i64_in _ (by omega)
          have f3 : IntKind.i64.wrap (x - 8) = x - 8 := IntWalk.i64_in _ (by omega)
          have f4 : IntKind.i64.wrap (x - a) = x - a := IntWalk.i64_in _ (by omega)
          go_wp2_with fail
          refine (twLoad HTWL.out _ _).mono ?_
          rintro e w7 ⟨v, ok, rfl, ht7, hor⟩
          have HT7 := Lib.hid ht7
          clear ht7 r0 r1
          rcases hor with ⟨rfl, hv, hvn, hji, htw7⟩ | ⟨rfl, rfl, hji, hwant, k0, k1⟩
          · have hlow : v < 4294967296 := by
              rw [hv]
              exact HH.out j hji _ (by rw [HST.out]; exact HNX.out) rfl
            have HTW7 := Lib.hid htw7
            have r0 := htw7.r0
            have r1 := htw7.r1
            have hne7 := htw7.ne
            clear htw7
            by_cases hv0 : v = 0
            · have HN2 : Hid (m.at T (j + 1) = .live ((⟨B, Z, a, (Z : Int), mm, 0, .hdr⟩ : Fs).ahead (x + 8))) := Lib.hid (by
                rw [Fm.at_succ HST.out, fx_take_up rfl, if_pos (by show (T j).V % 4294967296 = 0; rw [← hv, hv0])]
                rfl)
              subst hv0
              clear hv
              go_wp2
              go_roundw
              case rel => exact ⟨0, x + 8, mm, j + 1, rfl, by go_num, HTW7.out, HTT6.out.trans HT7.out, by omega, by omega, .inl ⟨rfl, HN2.out⟩⟩
              case measure => simp [intOf]; omega
            · have HN2 : Hid (m.at T (j + 1) = .live ((⟨B, Z, a, (Z : Int), x, 0, .hdr⟩ : Fs).back (x - 8 + 8))) := Lib.hid (by
                rw [Fm.at_succ HST.out, fx_take_up rfl, if_neg (by show ¬ (T j).V % 4294967296 = 0; rw [← hv]; omega), show x - 8 + 8 = x by omega]
                rfl)
              have hv1 : ((v : Int) == 0) = false := by simp; omega
              clear hv
              have HEM := Lib.hid (refEmpty_any (s := ⟨B, Z, a, (Z : Int), x, 0, .hdr⟩) HRG.out ⟨ha0, ha1⟩ (x - 8) ⟨by show a - 8 ≤ x - 8; omega, by show x - 8 < (Z : Int); omega⟩ HTW7.out.le HTW7.out.cap0 HTW7.out.cap1 HTW7.out.far HTW7.out.tp HTW7.out.told HN2.out HH.out)
              go_wp2_with fail
              refine HEM.out.mono ?_
              rintro e w8 ⟨good, told, rfl, ht8, hor8⟩
              have HT8 := Lib.hid ht8
              rcases hor8 with ⟨rfl, rfl, j8, hj8, htp8, hm8⟩ | ⟨rfl, rfl, j8, hj8, htp8, hm8⟩ | ⟨rfl, rfl, xx, aa, hm8, hn8, hw8⟩
              · have HTW8 : Hid (Tw w8 p A cap i j8 T w.heap.size B Z) := Lib.hid ⟨htp8, ToldAt.one HTW7.out.tp (by intro x e; cases e) ht8 HTW7.out.told HTW7.out.far, (ht8.cell (p := ⟨w.heap.size, 0, none⟩) (lt_of_cell r0) hne7).trans r0, (ht8.cell (p := ⟨w.heap.size, 1, none⟩) (lt_of_cell r1) hne7).trans r1, HTW7.out.ne, HTW7.out.far, HTW7.out.cap0, HTW7.out.cap1, hj8⟩
                have HM8 := Lib.hid hm8
                clear htp8 hm8 ht8 r0 r1
                go_wp2
                go_roundw
                case rel => exact ⟨x - a, x + 8, x, j8, by go_num, by go_num, HTW8.out, HTT6.out.trans (HT7.out.trans HT8.out), by omega, by omega, .inr ⟨by omega, by omega, HM8.out⟩⟩
                case measure =>
                  have q1 : ¬ x - a = 0 := by omega
                  simp [intOf, q1]
              · have HTP8 := Lib.hid htp8
                have HM8 := Lib.hid hm8
                clear htp8 hm8 ht8 r0 r1
                go_wp2
                refine bodyPost_ret (v := .tuple #[.int .i64 0, .int .i64 0]) (by simp [results, Tryz.results17, go_sem]) rfl ?_
                exact fixSays_end (s := ⟨B, Z, a, (Z : Int), x, 0, .fin⟩) (by rw [HMI.out]; exact Fm.at_end HM8.out rfl hj8) rfl HZN.out (HTTL.out.trans (HT7.out.trans HT8.out)) HTP8.out
              · have HW8 := Lib.hid hw8
                have HM8 := Lib.hid (And.intro hm8 hn8)
                clear hw8 hm8 hn8 ht8 r0 r1
                go_wp2
                refine bodyPost_ret (v := .tuple #[.int .i64 0, .int .i64 10]) (by simp [results, Tryz.results17, go_sem]) rfl ?_
                exact fixSays_wants (s := ⟨B, Z, a, (Z : Int), x, 0, .down xx⟩) (by rw [HMI.out]; exact HM8.out.1) HM8.out.2 HZN.out (HTTL.out.trans (HT7.out.trans HT8.out)) HW8.out
          · have HWA := Lib.hid hwant
            have HJI := Lib.hid hji
            clear hwant k0 k1 hji
            go_wp2
            refine bodyPost_ret (v := .tuple #[.int .i64 0, .int .i64 10]) (by simp [results, Tryz.results17, go_sem]) rfl ?_
            exact fixSays_wants (s := ⟨B, Z, a, (Z : Int), mm, 0, .up x⟩) (by rw [HMI.out, ← HJI.out]; exact HST.out) HNX.out HZN.out (HTTL.out.trans HT7.out) HWA.out
        · have hdx : decide (x < (Z : Int)) = false := decide_eq_false hxb
          have HST : Hid (m.at T j = .live ⟨B, Z, a, (Z : Int), mm, 0, .fin⟩) := Lib.hid (by rw [HST0.out]; unfold Fs.ahead; rw [if_pos (by show (Z : Int) ≤ x; omega)])
          go_wp2
          refine bodyPost_ret (v := .tuple #[.int .i64 0, .int .i64 0]) (by simp [results, Tryz.results17, go_sem]) rfl ?_
          exact fixSays_end (s := ⟨B, Z, a, (Z : Int), mm, 0, .fin⟩) (by rw [HMI.out]; exact Fm.at_end HST.out rfl HTWL.out.le) rfl HZN.out HTTL.out HTWL.out.tp
      · have HST := Lib.hid hst
        clear hst
        have hnn : (n == 0) = false := by simp; omega
        have hnz : (n == 0) = false := by simp; omega
        have e5 : IntKind.i32.wrap n = n := (Hd.s32_wrap _).trans (Hd.s32_in _ (by omega) (by omega))
        have e6 : wrap32 n = n := by unfold wrap32; omega
        have e7 : IntKind.i64.wrap ((B : Int) + a) = B + a := IntWalk.i64_in _ (by omega)
        have r0 := HTWL.out.r0
        have r1 := HTWL.out.r1
        have hlr := lt_of_cell r0
        have hlp := HTWL.out.ne
        obtain ⟨Vp, hV, hVn⟩ : ∃ V : Nat, Hd.jn n (-1) = (V : Int) ∧ (Hd.jn n (-1)).toNat = V := rp_cast _ (Hd.jn_bounds _ _).1
        have HVN := Lib.hid hVn
        clear hVn
        go_wp2_with fail
        go_region_held3 (fun w' => w'.cell? ⟨w.heap.size, 0, none⟩ = some (.int .i64 B)) (go_keep)
          (first
            | (go_at_call 39; refine (tapeStore_any (HTWL.out.tp.below hb1) HTWL.out.le HTWL.out.cap0 HTWL.out.cap1 (HTWL.out.told.below hb1) HTWL.out.far _ 8 Vp).mono ?_; rintro e w6 ⟨ok, rfl, ht6, hor⟩; have HOR := Lib.hid hor; clear hor; have s0 := (ht6.cell (p := ⟨w.heap.size, 0, none⟩) (lt_of_cell q0) hlp).trans q0)
            | (go_at_call 40; refine (refRecord_any n (-1) _ (by omega) (by omega) (by omega) (by omega)).mono ?_; rintro e x1 ⟨rfl, hq1⟩; rw [hV]; have hb1 := below_drew hq1; have q0 := (hb1.cell (p := ⟨w.heap.size, 0, none⟩) hlr).trans r0))
        have HT6 := Lib.hid (HTTL.out.trans ((Touch.of_below (S := One p) hb1).trans ht6))
        clear r0 r1 q0 s0 hb1 hq1 ht6 hlr hnz
        rcases HOR.out with ⟨rfl, hji, _, htp⟩ | ⟨rfl, hji, _, hwant⟩
        · have HTP := Lib.hid htp
          clear htp HOR
          go_wp2
          refine bodyPost_ret (v := .tuple #[.int .i64 n, .int .i64 0]) (by simp [results, Tryz.results17, go_sem]) rfl ?_
          exact fixSays_end (s := { (⟨B, Z, a, (Z : Int), mm, 0, .hdr⟩ : Fs) with n := n, ph := .fin }) (by rw [HMI.out]; exact Fm.at_end (by rw [Fm.at_succ HST.out, fx_take_padd rfl]) rfl hji) rfl HZN.out HT6.out HTP.out
        · have HWA := Lib.hid hwant
          have HJI := Lib.hid hji
          clear hwant HOR hji
          go_wp2
          refine bodyPost_ret (v := .tuple #[.int .i64 0, .int .i64 10]) (by simp [results, Tryz.results17, go_sem]) rfl ?_
          exact fixSays_wants (s := { (⟨B, Z, a, (Z : Int), mm, 0, .hdr⟩ : Fs) with ph := .padd n }) (by rw [HMI.out, ← HJI.out]; exact HST.out) (by show some (⟨2, Rg.spot B Z a, 8, (Hd.jn n (-1)).toNat, 0, []⟩ : Ac) = _; rw [HVN.out, fx_spot ha0 ha1]) HZN.out HT6.out HWA.out
  · have hdl : decide (b0 ≤ a) = false := decide_eq_false hle
    have HS4 : Hid (m.at T 2 = .live ⟨B, Z, a, b0, 0, 0, .hdr⟩) := Lib.hid (by rw [HS3.out, if_neg hle])
    clear HS3 HAB
    go_upto_region 12 with (fail)
    have e3 : IntKind.i64.wrap ((B : Int) + a) = B + a := IntWalk.i64_in _ (by omega)
    go_upto_region 13 with (go_at_call 35; refine (twLoad HTW4.out _ _).mono ?_; rintro e w5 ⟨v2, ok, rfl, ht5, hor⟩; have HOR := Lib.hid hor; have HT5 := Lib.hid (HT4.out.trans ht5); clear hor ht5)
    clear r0 r1
    rcases HOR.out with ⟨rfl, hv2, hv2n, hj2, htw5⟩ | ⟨rfl, rfl, hji, hwant, k0, k1⟩
    rotate_left
    · have HWA := Lib.hid hwant
      have HJI := Lib.hid hji
      clear hwant HOR k0 k1 hji
      go_wp2
      refine bodyPost_ret (v := .tuple #[.int .i64 0, .int .i64 10]) (by simp [results, Tryz.results17, go_sem]) rfl ?_
      exact fixSays_wants (s := ⟨B, Z, a, b0, 0, 0, .hdr⟩) (by rw [HMI.out, ← HJI.out]; exact HS4.out) (by show some (⟨1, Rg.spot B Z a, 8, 0, 0, []⟩ : Ac) = _; rw [fx_spot ha0 ha1]) HZN.out HT5.out HWA.out
    have HTW5 := Lib.hid htw5
    obtain ⟨l, hl⟩ : ∃ l : Int, l = Hd.s32 v2 := ⟨_, rfl⟩
    have hlb : -2147483648 ≤ l ∧ l ≤ 2147483647 := by rw [hl]; exact Hd.s32_bounds _
    have HS5 : Hid (m.at T 3 = .live ((⟨B, Z, a, b0, 0, 0, .hdr⟩ : Fs).judge l)) := Lib.hid (by rw [Fm.at_succ HS4.out, hl, hv2]; rfl)
    have HL := Lib.hid hl
    clear htw5 HOR HTW4 HT4 hv2 hj2 hl
    go_upto_region 16 with (go_at_call 37; refine (refSplit_any v2 _ (by omega) (by omega)).mono ?_; rintro e w6 ⟨rfl, hb6⟩; rw [← HL.out])
    have HTW6 := Lib.hid (HTW5.out.below hb6)
    have HT6 := Lib.hid (HT5.out.trans (Touch.of_below hb6))
    generalize Hd.s32 ((v2 : Int) / 4294967296) = ty
    clear hb6 HTW5 HT5 HL hv2n
    have r1 := HTW6.out.r1
    have e8 : IntKind.i64.wrap l = l := IntWalk.i64_in _ (by omega)
    have e9 : IntKind.i64.wrap ((Z : Int) - a) = Z - a := IntWalk.i64_in _ (by omega)
    have e10 : IntKind.i64.wrap (-((Z : Int) - a)) = -((Z : Int) - a) := IntWalk.i64_in _ (by omega)
    by_cases hl0 : 0 < l
    · have hd0 : decide (0 < l) = true := decide_eq_true hl0
      have HS6 : Hid (m.at T 3 = .live ⟨B, Z, a, b0, 0, 0, .fin⟩) := Lib.hid (by rw [HS5.out]; unfold Fs.judge; rw [if_neg (by omega), if_neg (fun h => by omega)])
      go_wp2
      refine bodyPost_ret (v := .tuple #[.int .i64 0, .int .i64 0]) (by simp [results, Tryz.results17, go_sem]) rfl ?_
      exact fixSays_end (s := ⟨B, Z, a, b0, 0, 0, .fin⟩) (by rw [HMI.out]; exact Fm.at_end HS6.out rfl HTW6.out.le) rfl HZN.out HT6.out HTW6.out.tp
    have hd0 : decide (0 < l) = false := decide_eq_false hl0
    by_cases hl1 : l < -((Z : Int) - a)
    · have hd1 : decide (l < -((Z : Int) - a)) = true := decide_eq_true hl1
      have HS6 : Hid (m.at T 3 = .live ⟨B, Z, a, b0, 0, 0, .fin⟩) := Lib.hid (by rw [HS5.out]; unfold Fs.judge; rw [if_neg (by omega), if_neg (fun h => by have h2 : a - l ≤ (Z : Int) := h.2; omega)])
      go_wp2
      refine bodyPost_ret (v := .tuple #[.int .i64 0, .int .i64 0]) (by simp [results, Tryz.results17, go_sem]) rfl ?_
      exact fixSays_end (s := ⟨B, Z, a, b0, 0, 0, .fin⟩) (by rw [HMI.out]; exact Fm.at_end HS6.out rfl HTW6.out.le) rfl HZN.out HT6.out HTW6.out.tp
    have hd1 : decide (l < -((Z : Int) - a)) = false := decide_eq_false hl1
    have e12 : IntKind.i64.wrap (a + 8) = a + 8 := IntWalk.i64_in _ (by omega)
    by_cases hl2 : l < 0
    · have hd2 : decide (l < 0) = true := decide_eq_true hl2
      have e13 : IntKind.i32.wrap (-l) = -l := (Hd.s32_wrap _).trans (Hd.s32_in _ (by omega) (by omega))
      have e14 : IntKind.i64.wrap (-l) = -l := IntWalk.i64_in _ (by omega)
      have e15 : wrap32 (-l) = -l := by unfold wrap32; omega
      have HS6 : Hid (m.at T 3 = .live ⟨B, Z, a, b0, 0, 0, .padd (-l)⟩) := Lib.hid (by rw [HS5.out]; unfold Fs.judge; rw [if_neg (by omega), if_pos ⟨hl2, by show a - l ≤ (Z : Int); omega⟩])
      obtain ⟨n, hn⟩ : ∃ n : Int, n = -l := ⟨_, rfl⟩
      have hn0 : 1 ≤ n := by omega
      have hn1 : n ≤ 8192 := by omega
      rw [← hn] at HS6 e13 e14 e15
      have HN := Lib.hid hn
      go_wp2_with fail
      try rw [← HN.out]
      clear hd0 hd1 hd2 e8 e9 e10 hl0 hl1 hl2 hlb r1 hn HN
      go_loopw [15, 16] (fun vn vx wr => vn = .int .i64 n ∧ vx = .int .i64 (a + 8) ∧ wr = w6) (fun _ _ _ => 0)
      case atStart => exact ⟨rfl, rfl, rfl⟩
      case round =>
        obtain ⟨rfl, rfl, rfl⟩ := hrel
        have hnn : (n == 0) = false := by simp; omega
        have HST := HS6
        have HTWL := HTW6
        have HTTL := HT6
        have hnz : (n == 0) = false := by simp; omega
        have e5 : IntKind.i32.wrap n = n := (Hd.s32_wrap _).trans (Hd.s32_in _ (by omega) (by omega))
        have e6 : wrap32 n = n := by unfold wrap32; omega
        have e7 : IntKind.i64.wrap ((B : Int) + a) = B + a := IntWalk.i64_in _ (by omega)
        have r0 := HTWL.out.r0
        have r1 := HTWL.out.r1
        have hlr := lt_of_cell r0
        have hlp := HTWL.out.ne
        obtain ⟨Vp, hV, hVn⟩ : ∃ V : Nat, Hd.jn n (-1) = (V : Int) ∧ (Hd.jn n (-1)).toNat = V := rp_cast _ (Hd.jn_bounds _ _).1
        have HVN := Lib.hid hVn
        clear hVn
        go_wp2_with fail
        go_region_held3 (fun w' => w'.cell? ⟨w.heap.size, 0, none⟩ = some (.int .i64 B)) (go_keep)
          (first
            | (go_at_call 39; refine (tapeStore_any (HTWL.out.tp.below hb1) HTWL.out.le HTWL.out.cap0 HTWL.out.cap1 (HTWL.out.told.below hb1) HTWL.out.far _ 8 Vp).mono ?_; rintro e w6 ⟨ok, rfl, ht6, hor⟩; have HOR := Lib.hid hor; clear hor; have s0 := (ht6.cell (p := ⟨w.heap.size, 0, none⟩) (lt_of_cell q0) hlp).trans q0)
            | (go_at_call 40; refine (refRecord_any n (-1) _ (by omega) (by omega) (by omega) (by omega)).mono ?_; rintro e x1 ⟨rfl, hq1⟩; rw [hV]; have hb1 := below_drew hq1; have q0 := (hb1.cell (p := ⟨w.heap.size, 0, none⟩) hlr).trans r0))
        have HT6 := Lib.hid (HTTL.out.trans ((Touch.of_below (S := One p) hb1).trans ht6))
        clear r0 r1 q0 s0 hb1 hq1 ht6 hlr hnz
        rcases HOR.out with ⟨rfl, hji, _, htp⟩ | ⟨rfl, hji, _, hwant⟩
        · have HTP := Lib.hid htp
          clear htp HOR
          go_wp2
          refine bodyPost_ret (v := .tuple #[.int .i64 n, .int .i64 0]) (by simp [results, Tryz.results17, go_sem]) rfl ?_
          exact fixSays_end (s := { (⟨B, Z, a, b0, 0, 0, .hdr⟩ : Fs) with n := n, ph := .fin }) (by rw [HMI.out]; exact Fm.at_end (by rw [Fm.at_succ HST.out, fx_take_padd rfl]) rfl hji) rfl HZN.out HT6.out HTP.out
        · have HWA := Lib.hid hwant
          have HJI := Lib.hid hji
          clear hwant HOR hji
          go_wp2
          refine bodyPost_ret (v := .tuple #[.int .i64 0, .int .i64 10]) (by simp [results, Tryz.results17, go_sem]) rfl ?_
          exact fixSays_wants (s := { (⟨B, Z, a, b0, 0, 0, .hdr⟩ : Fs) with ph := .padd n }) (by rw [HMI.out, ← HJI.out]; exact HST.out) (by show some (⟨2, Rg.spot B Z a, 8, (Hd.jn n (-1)).toNat, 0, []⟩ : Ac) = _; rw [HVN.out, fx_spot ha0 ha1]) HZN.out HT6.out HWA.out
    have hl3 : l = 0 := by omega
    subst hl3
    have HS6 : Hid (m.at T 3 = .live ((⟨B, Z, a, b0, 0, 0, .hdr⟩ : Fs).ahead (a + 8))) := Lib.hid (by rw [HS5.out]; unfold Fs.judge; rw [if_pos rfl])
    go_wp2_with fail
    clear hd0 hd1 e8 e9 e10 hl0 hl1 hl2 hlb r1 HS5
    go_loopw [15, 16] (fun vn vx wr => ∃ (n x mm : Int) (j : Nat), vn = .int .i64 n ∧ vx = .int .i64 x ∧ Tw wr p A cap i j T w.heap.size B Z ∧ Touch (One p) w6 wr ∧ a + 8 ≤ x ∧ x ≤ 16384 ∧
        ((n = 0 ∧ m.at T j = .live ((⟨B, Z, a, b0, mm, 0, .hdr⟩ : Fs).ahead x)) ∨ (1 ≤ n ∧ n ≤ 8192 ∧ m.at T j = .live ⟨B, Z, a, b0, mm, 0, .padd n⟩))) (fun vn vx _ => if intOf vn = 0 then (20000 - intOf vx).toNat + 1 else 0)
    case atStart => exact ⟨0, a + 8, 0, _, rfl, rfl, HTW6.out, Touch.refl _ _, by omega, by omega, .inl ⟨rfl, HS6.out⟩⟩
    case round =>
      obtain ⟨n, x, mm, j, rfl, rfl, htw, htt, hx0, hx1, hor⟩ := hrel
      have HTWL := Lib.hid htw
      have HTTL := Lib.hid (HT6.out.trans htt)
      have HTT6 := Lib.hid htt
      clear htw htt
      rcases hor with ⟨rfl, hst⟩ | ⟨hn0, hn1, hst⟩
      · have HST0 := Lib.hid hst
        clear hst
        by_cases hxb : x < b0
        · have hdx : decide (x < b0) = true := decide_eq_true hxb
          have HST : Hid (m.at T j = .live ⟨B, Z, a, b0, mm, 0, .up x⟩) := Lib.hid (by rw [HST0.out]; unfold Fs.ahead; rw [if_neg (by show ¬ b0 ≤ x; omega)])
          have HNX : Hid ((⟨B, Z, a, b0, mm, 0, .up x⟩ : Fs).next = some ⟨1, (B : Int) + x, 4, 0, 0, []⟩) := Lib.hid (by
            show some (⟨1, Rg.spot B Z x, 4, 0, 0, []⟩ : Ac) = _
            rw [fx_spot (by omega) (by omega)])
          have r0 := HTWL.out.r0
          have r1 := HTWL.out.r1
          have f1 : IntKind.i64.wrap ((B : Int) + x) = B + x := IntWalk.i64_in _ (by omega)
          have f2 : IntKind.i64.wrap (x + 8) = x + 8 := IntWalk.i64_in _ (by omega)
          have f3 : IntKind.i64.wrap (x - 8) = x - 8 := IntWalk.i64_in _ (by omega)
          have f4 : IntKind.i64.wrap (x - a) = x - a := IntWalk.i64_in _ (by omega)
          go_wp2_with fail
          refine (twLoad HTWL.out _ _).mono ?_
          rintro e w7 ⟨v, ok, rfl, ht7, hor⟩
          have HT7 := Lib.hid ht7
          clear ht7 r0 r1
          rcases hor with ⟨rfl, hv, hvn, hji, htw7⟩ | ⟨rfl, rfl, hji, hwant, k0, k1⟩
          · have hlow : v < 4294967296 := by
              rw [hv]
              exact HH.out j hji _ (by rw [HST.out]; exact HNX.out) rfl
            have HTW7 := Lib.hid htw7
            have r0 := htw7.r0
            have r1 := htw7.r1
            have hne7 := htw7.ne
            clear htw7
            by_cases hv0 : v = 0
            · have HN2 : Hid (m.at T (j + 1) = .live ((⟨B, Z, a, b0, mm, 0, .hdr⟩ : Fs).ahead (x + 8))) := Lib.hid (by
                rw [Fm.at_succ HST.out, fx_take_up rfl, if_pos (by show (T j).V % 4294967296 = 0; rw [← hv, hv0])]
                rfl)
              subst hv0
              clear hv
              go_wp2
              go_roundw
              case rel => exact ⟨0, x + 8, mm, j + 1, rfl, by go_num, HTW7.out, HTT6.out.trans HT7.out, by omega, by omega, .inl ⟨rfl, HN2.out⟩⟩
              case measure => simp [intOf]; omega
            · have HN2 : Hid (m.at T (j + 1) = .live ((⟨B, Z, a, b0, x, 0, .hdr⟩ : Fs).back (x - 8 + 8))) := Lib.hid (by
                rw [Fm.at_succ HST.out, fx_take_up rfl, if_neg (by show ¬ (T j).V % 4294967296 = 0; rw [← hv]; omega), show x - 8 + 8 = x by omega]
                rfl)
              have hv1 : ((v : Int) == 0) = false := by simp; omega
              clear hv
              have HEM := Lib.hid (refEmpty_any (s := ⟨B, Z, a, b0, x, 0, .hdr⟩) HRG.out ⟨ha0, ha1⟩ (x - 8) ⟨by show a - 8 ≤ x - 8; omega, by show x - 8 < (Z : Int); omega⟩ HTW7.out.le HTW7.out.cap0 HTW7.out.cap1 HTW7.out.far HTW7.out.tp HTW7.out.told HN2.out HH.out)
              go_wp2_with fail
              refine HEM.out.mono ?_
              rintro e w8 ⟨good, told, rfl, ht8, hor8⟩
              have HT8 := Lib.hid ht8
              rcases hor8 with ⟨rfl, rfl, j8, hj8, htp8, hm8⟩ | ⟨rfl, rfl, j8, hj8, htp8, hm8⟩ | ⟨rfl, rfl, xx, aa, hm8, hn8, hw8⟩
              · have HTW8 : Hid (Tw w8 p A cap i j8 T w.heap.size B Z) := Lib.hid ⟨htp8, ToldAt.one HTW7.out.tp (by intro x e; cases e) ht8 HTW7.out.told HTW7.out.far, (ht8.cell (p := ⟨w.heap.size, 0, none⟩) (lt_of_cell r0) hne7).trans r0, (ht8.cell (p := ⟨w.heap.size, 1, none⟩) (lt_of_cell r1) hne7).trans r1, HTW7.out.ne, HTW7.out.far, HTW7.out.cap0, HTW7.out.cap1, hj8⟩
                have HM8 := Lib.hid hm8
                clear htp8 hm8 ht8 r0 r1
                go_wp2
                go_roundw
                case rel => exact ⟨x - a, x + 8, x, j8, by go_num, by go_num, HTW8.out, HTT6.out.trans (HT7.out.trans HT8.out), by omega, by omega, .inr ⟨by omega, by omega, HM8.out⟩⟩
                case measure =>
                  have q1 : ¬ x - a = 0 := by omega
                  simp [intOf, q1]
              · have HTP8 := Lib.hid htp8
                have HM8 := Lib.hid hm8
                clear htp8 hm8 ht8 r0 r1
                go_wp2
                refine bodyPost_ret (v := .tuple #[.int .i64 0, .int .i64 0]) (by simp [results, Tryz.results17, go_sem]) rfl ?_
                exact fixSays_end (s := ⟨B, Z, a, b0, x, 0, .fin⟩) (by rw [HMI.out]; exact Fm.at_end HM8.out rfl hj8) rfl HZN.out (HTTL.out.trans (HT7.out.trans HT8.out)) HTP8.out
              · have HW8 := Lib.hid hw8
                have HM8 := Lib.hid (And.intro hm8 hn8)
                clear hw8 hm8 hn8 ht8 r0 r1
                go_wp2
                refine bodyPost_ret (v := .tuple #[.int .i64 0, .int .i64 10]) (by simp [results, Tryz.results17, go_sem]) rfl ?_
                exact fixSays_wants (s := ⟨B, Z, a, b0, x, 0, .down xx⟩) (by rw [HMI.out]; exact HM8.out.1) HM8.out.2 HZN.out (HTTL.out.trans (HT7.out.trans HT8.out)) HW8.out
          · have HWA := Lib.hid hwant
            have HJI := Lib.hid hji
            clear hwant k0 k1 hji
            go_wp2
            refine bodyPost_ret (v := .tuple #[.int .i64 0, .int .i64 10]) (by simp [results, Tryz.results17, go_sem]) rfl ?_
            exact fixSays_wants (s := ⟨B, Z, a, b0, mm, 0, .up x⟩) (by rw [HMI.out, ← HJI.out]; exact HST.out) HNX.out HZN.out (HTTL.out.trans HT7.out) HWA.out
        · have hdx : decide (x < b0) = false := decide_eq_false hxb
          have HST : Hid (m.at T j = .live ⟨B, Z, a, b0, mm, 0, .fin⟩) := Lib.hid (by rw [HST0.out]; unfold Fs.ahead; rw [if_pos (by show b0 ≤ x; omega)])
          go_wp2
          refine bodyPost_ret (v := .tuple #[.int .i64 0, .int .i64 0]) (by simp [results, Tryz.results17, go_sem]) rfl ?_
          exact fixSays_end (s := ⟨B, Z, a, b0, mm, 0, .fin⟩) (by rw [HMI.out]; exact Fm.at_end HST.out rfl HTWL.out.le) rfl HZN.out HTTL.out HTWL.out.tp
      · have HST := Lib.hid hst
        clear hst
        have hnn : (n == 0) = false := by simp; omega
        have hnz : (n == 0) = false := by simp; omega
        have e5 : IntKind.i32.wrap n = n := (Hd.s32_wrap _).trans (Hd.s32_in _ (by omega) (by omega))
        have e6 : wrap32 n = n := by unfold wrap32; omega
        have e7 : IntKind.i64.wrap ((B : Int) + a) = B + a := IntWalk.i64_in _ (by omega)
        have r0 := HTWL.out.r0
        have r1 := HTWL.out.r1
        have hlr := lt_of_cell r0
        have hlp := HTWL.out.ne
        obtain ⟨Vp, hV, hVn⟩ : ∃ V : Nat, Hd.jn n (-1) = (V : Int) ∧ (Hd.jn n (-1)).toNat = V := rp_cast _ (Hd.jn_bounds _ _).1
        have HVN := Lib.hid hVn
        clear hVn
        go_wp2_with fail
        go_region_held3 (fun w' => w'.cell? ⟨w.heap.size, 0, none⟩ = some (.int .i64 B)) (go_keep)
          (first
            | (go_at_call 39; refine (tapeStore_any (HTWL.out.tp.below hb1) HTWL.out.le HTWL.out.cap0 HTWL.out.cap1 (HTWL.out.told.below hb1) HTWL.out.far _ 8 Vp).mono ?_; rintro e w6 ⟨ok, rfl, ht6, hor⟩; have HOR := Lib.hid hor; clear hor; have s0 := (ht6.cell (p := ⟨w.heap.size, 0, none⟩) (lt_of_cell q0) hlp).trans q0)
            | (go_at_call 40; refine (refRecord_any n (-1) _ (by omega) (by omega) (by omega) (by omega)).mono ?_; rintro e x1 ⟨rfl, hq1⟩; rw [hV]; have hb1 := below_drew hq1; have q0 := (hb1.cell (p := ⟨w.heap.size, 0, none⟩) hlr).trans r0))
        have HT6 := Lib.hid (HTTL.out.trans ((Touch.of_below (S := One p) hb1).trans ht6))
        clear r0 r1 q0 s0 hb1 hq1 ht6 hlr hnz
        rcases HOR.out with ⟨rfl, hji, _, htp⟩ | ⟨rfl, hji, _, hwant⟩
        · have HTP := Lib.hid htp
          clear htp HOR
          go_wp2
          refine bodyPost_ret (v := .tuple #[.int .i64 n, .int .i64 0]) (by simp [results, Tryz.results17, go_sem]) rfl ?_
          exact fixSays_end (s := { (⟨B, Z, a, b0, mm, 0, .hdr⟩ : Fs) with n := n, ph := .fin }) (by rw [HMI.out]; exact Fm.at_end (by rw [Fm.at_succ HST.out, fx_take_padd rfl]) rfl hji) rfl HZN.out HT6.out HTP.out
        · have HWA := Lib.hid hwant
          have HJI := Lib.hid hji
          clear hwant HOR hji
          go_wp2
          refine bodyPost_ret (v := .tuple #[.int .i64 0, .int .i64 10]) (by simp [results, Tryz.results17, go_sem]) rfl ?_
          exact fixSays_wants (s := { (⟨B, Z, a, b0, mm, 0, .hdr⟩ : Fs) with ph := .padd n }) (by rw [HMI.out, ← HJI.out]; exact HST.out) (by show some (⟨2, Rg.spot B Z a, 8, (Hd.jn n (-1)).toNat, 0, []⟩ : Ac) = _; rw [HVN.out, fx_spot ha0 ha1]) HZN.out HT6.out HWA.out
end Go.Proofs.YtaomkamdfbibbaaGreat
namespace Go.Proofs.YtaomkamdfbibbaaGreat
open Go.RowKit

set_option maxRecDepth 100000 in
set_option maxHeartbeats 1000000 in
theorem same_any (K P N : Int) (V U : Int) (A B : Option Addr) (L M cp cq : Nat) (xs : List Int) (w : World) (ha : BytesAt w (.slice A L cp) xs) (hb : BytesAt w (.slice B M cq) xs) :
    Calls Tryz.prog 18 #[.agg #[.int .i64 K, .int .i64 P, .int .i64 N, .int .u64 V, .int .u64 U, .slice A L cp], .agg #[.int .i64 K, .int .i64 P, .int .i64 N, .int .u64 V, .int .u64 U, .slice B M cq]] w (TrueBelow w) := by
  have HW := ((Below.refl w.heap.size w).alloc (Nat.le_refl _) (.cells #[.int .i64 K, .int .i64 P, .int .i64 N, .int .u64 V, .int .u64 U, .slice A L cp] 32)).alloc (by simp) (.cells #[.int .i64 K, .int .i64 P, .int .i64 N, .int .u64 V, .int .u64 U, .slice B M cq] 32)
  have h1 := (ha.below HW).conv
  have h2 := (hb.below HW).conv
  go_enter Tryz.func18, Tryz.ntmps18
  go_wp2
  go_ret
  exact ⟨rfl, HW⟩
end Go.Proofs.YtaomkamdfbibbaaGreat
namespace Go.Proofs.YtaomkamdfbibbaaGreat
open Go.RowKit

set_option maxRecDepth 100000 in
set_option maxHeartbeats 1000000 in
theorem refFix_dead (B Z : Int) (hB : -9223372036854775808 ≤ B ∧ B ≤ 9223372036854775807) (hZ : -9223372036854775808 ≤ Z ∧ Z ≤ 9223372036854775807) (hbad : ¬ Rg.right B Z) (p cap i : Nat) (A : Option Addr) (w : World) (ht : TpOpen w p A cap i 0) (T : Nat → Ans) :
    Calls Tryz.prog 17 #[.pointer (some ⟨p, 0, none⟩), .agg #[.int .i64 B, .int .i64 Z]] w (FixSays p A cap i ((Fm.new B Z).at T i) w) := by
  have hb0 := un_below w (.int .i64 B) (.int .i64 Z) 23
  obtain ⟨r0, r1⟩ := rg_box w B Z
  have HBZ := Lib.hid (And.intro hB hZ)
  have HR := Lib.hid (decide_eq_false hbad)
  have HM : Hid ((Fm.new B Z).at T i = .dead) := Lib.hid (Fm.at_dead (by unfold Fm.new; rw [if_neg hbad]) i)
  have HTP := Lib.hid (ht.below hb0)
  obtain ⟨mi, hmi⟩ : ∃ mi, mi = (Fm.new B Z).at T i := ⟨_, rfl⟩
  rw [← hmi] at HM ⊢
  clear hB hZ hbad ht hmi
  go_enter Tryz.func17, Tryz.ntmps17
  go_upto_region 1 with (fail)
  generalize w.alloc (.cells #[.int .i64 B, .int .i64 Z] 23) = W at hb0 HTP r0 r1 ⊢
  go_wp2_with (go_at_call 34; refine (refRight_any B Z HBZ.out.1 HBZ.out.2 W).mono ?_; rintro e w1 ⟨rfl, hb1⟩; rw [HR.out])
  refine bodyPost_ret (v := .tuple #[.int .i64 0, .int .i64 1]) (by simp [results, Tryz.results17, go_sem]) rfl ?_
  rw [HM.out]
  exact ⟨rfl, (Touch.of_below hb0).trans (Touch.of_below hb1), Ac.zero, none, 0, 0, 0, HTP.out.below hb1, BytesAt.nil _, rfl⟩

/-- The document's fix, of whatever ring, on a tape that was told i answers. -/
theorem refFix_any (B Z : Int) (hB : -9223372036854775808 ≤ B ∧ B ≤ 9223372036854775807) (hZ : -9223372036854775808 ≤ Z ∧ Z ≤ 9223372036854775807) (p cap i : Nat) (A : Option Addr) (hi : i ≤ cap) (hcap : cap ≤ 9223372036854775807) (T : Nat → Ans) (hA : 0 < i → ∀ a, A = some a → a.block ≠ p) (w : World)
    (hT : ToldAt w A i T) (ht : TpOpen w p A cap i 0) (hh : (Fm.new B Z).Half T i) :
    Calls Tryz.prog 17 #[.pointer (some ⟨p, 0, none⟩), .agg #[.int .i64 B, .int .i64 Z]] w (FixSays p A cap i ((Fm.new B Z).at T i) w) := by
  by_cases h1 : Rg.right B Z
  · have hb : ((B.toNat : Nat) : Int) = B := Int.toNat_of_nonneg h1.2.2.2.1
    have hz : ((Z.toNat : Nat) : Int) = Z := Int.toNat_of_nonneg (by have := h1.2.1; omega)
    have hm : Fm.new B Z = .live ⟨B.toNat, Z.toNat, 0, 0, 0, 0, .head⟩ := by unfold Fm.new; rw [if_pos h1]
    have := refFix_live B.toNat Z.toNat (by rw [hb]; exact hB) (by rw [hz]; exact hZ) (by rw [hb, hz]; exact h1) p cap i A hi hcap T hA w hT ht _ hm hh
    rw [hb, hz] at this
    exact this
  · exact refFix_dead B Z hB hZ h1 p cap i A w ht T

theorem fixNextU {w : World} {F : Nat → Prop} {g : Nat} {m : Fm} (h : FmAt w F g m) (hF : ∀ k, F k → k < w.heap.size) {a : Ac} (ha : a = m.next.getD Ac.zero) :
    Calls Tryz.prog 8 #[.pointer (some ⟨g, 0, none⟩)] w (fun e w' => ∃ A l c, e = .returned (.tuple #[.agg #[.int .i64 a.K, .int .i64 a.P, .int .i64 a.N, .int .u64 a.V, .int .u64 a.U, .slice A l c], .bool m.busy]) ∧ BytesAt w' (.slice A l c) a.bs ∧ Below w.heap.size w w') := by
  have hb : m.busy = m.next.isSome := by cases m <;> rfl
  refine (fixNext h hF).mono ?_
  subst ha
  rw [hb]
  cases m.next with
  | none =>
    rintro e w' ⟨hb, rfl⟩
    exact ⟨none, 0, 0, rfl, BytesAt.nil _, hb⟩
  | some a =>
    rintro e w' ⟨hb, A, l, c, rfl, ho⟩
    exact ⟨A, l, c, rfl, ho.bytes, hb⟩

set_option linter.unusedSimpArgs false in
set_option maxRecDepth 100000 in
set_option maxHeartbeats 2000000 in
theorem same9_any (B Z : Int) (hB : -9223372036854775808 ≤ B ∧ B ≤ 9223372036854775807) (hZ : -9223372036854775808 ≤ Z ∧ Z ≤ 9223372036854775807)
    (cap i : Nat) (A : Option Addr) (hi : i ≤ cap) (hcap : cap ≤ 9223372036854775807) (T : Nat → Ans) (w : World) (hT : ToldAt w A i T) (hh : (Fm.new B Z).Half T i) {F : Nat → Prop} {g : Nat} (hp : FmAt w F g ((Fm.new B Z).at T i)) (hF : ∀ k, F k → k < w.heap.size) :
    Calls Tryz.prog 7 #[.pointer (some ⟨g, 0, none⟩), .slice A i cap, .agg #[.int .i64 B, .int .i64 Z]] w (TrueBelow w) := by
  obtain ⟨m, hm⟩ : ∃ m : Fm, m = (Fm.new B Z).at T i := ⟨_, rfl⟩
  rw [← hm] at hp
  obtain ⟨W, hW⟩ : ∃ W, W = (w.alloc (.cells #[.int .i64 B, .int .i64 Z] 23)).alloc (.cells #[.slice A i cap, .int .i64 0, .int .i64 0, .int .i64 0, .int .i64 0, .int .u64 0, .int .u64 0, .slice none 0 0, .bool false] 60) := ⟨_, rfl⟩
  have hbW : Below w.heap.size w W := by rw [hW]; exact (un_below w (.int .i64 B) (.int .i64 Z) 23).alloc (un_below w (.int .i64 B) (.int .i64 Z) 23).size _
  have htp : Tp W (w.heap.size + 1) A cap i 0 0 0 0 0 0 (.slice none 0 0) false := ⟨by
    rw [hW]
    have := Go.Deep.blk_alloc_new (w.alloc (.cells #[.int .i64 B, .int .i64 Z] 23)) (.cells #[.slice A i cap, .int .i64 0, .int .i64 0, .int .i64 0, .int .i64 0, .int .u64 0, .int .u64 0, .slice none 0 0, .bool false] 60)
    rw [show (w.alloc (.cells #[.int .i64 B, .int .i64 Z] 23)).heap.size = w.heap.size + 1 by simp] at this
    exact this⟩
  have hA : 0 < i → ∀ a, A = some a → a.block ≠ w.heap.size + 1 := fun h0 a ha e => by
    obtain ⟨b, off, e2, hlt, _⟩ := hT h0
    rw [ha] at e2
    injection e2 with e2
    rw [e2] at e
    simp only at e
    omega
  have HFIX := Lib.hid (refFix_any B Z hB hZ (w.heap.size + 1) cap i A hi hcap T hA W (hT.below hbW) htp hh)
  rw [← hm] at HFIX
  have HPW := Lib.hid (hp.keep fun k hk => hbW.block k (hF k hk))
  have HFW := Lib.hid hF
  have HBW := Lib.hid hbW
  clear hB hZ hi hcap hT hp hF hbW htp hA hm hh
  go_enter Tryz.func7, Tryz.ntmps7
  go_wp2_with fail
  rw [← hW]
  clear hW
  refine HFIX.out.mono ?_
  rintro e w3 ⟨rfl, hto, a, Bs, ls, cs, j, htq, hbq, ha⟩
  have hlow : Below w.heap.size w w3 := hto.below HBW.out HBW.out.size fun k hk => by have e : k = w.heap.size + 1 := hk; omega
  have HL3 := Lib.hid hlow
  have HP3 := Lib.hid (HPW.out.keep fun k hk => hto.block k (Nat.lt_of_lt_of_le (HFW.out k hk) HBW.out.size) fun e => by have := HFW.out k hk; have e : k = w.heap.size + 1 := e; omega)
  have HQ := Lib.hid (And.intro htq hbq)
  have HAA := Lib.hid ha
  clear hto hlow htq hbq ha HFIX HPW
  obtain ⟨r1, hr1⟩ : ∃ r, r = m.result.1 := ⟨_, rfl⟩
  obtain ⟨r2, hr2⟩ : ∃ r, r = m.result.2 := ⟨_, rfl⟩
  rw [← hr1, ← hr2]
  have HRR := Lib.hid (And.intro hr1 hr2)
  clear hr1 hr2
  go_wp2_with fail
  refine (fixNextU HP3.out (fun k hk => Nat.lt_of_lt_of_le (HFW.out k hk) HL3.out.size) HAA.out).mono ?_
  rintro e w4 ⟨An, ln, cn, rfl, hbn, hb4⟩
  have HN4 := Lib.hid hbn
  have HB4 := Lib.hid hb4
  clear hbn hb4
  go_wp2_with fail
  have hx5 := Go.Deep.blk_alloc_new w4 (.cells #[.int .i64 a.K, .int .i64 a.P, .int .i64 a.N, .int .u64 a.V, .int .u64 a.U, .slice An ln cn] 32)
  have hb5 := (Below.refl w4.heap.size w4).alloc (Nat.le_refl _) (.cells #[.int .i64 a.K, .int .i64 a.P, .int .i64 a.N, .int .u64 a.V, .int .u64 a.U, .slice An ln cn] 32)
  generalize w4.alloc (.cells #[.int .i64 a.K, .int .i64 a.P, .int .i64 a.N, .int .u64 a.V, .int .u64 a.U, .slice An ln cn] 32) = w8 at hx5 hb5 ⊢
  have hb35 := HB4.out.trans (hb5.mono HB4.out.size)
  have HP5 := Lib.hid (HP3.out.keep fun k hk => hb35.block k (Nat.lt_of_lt_of_le (HFW.out k hk) HL3.out.size))
  have htape := HQ.out.1.below hb35
  have HS1 := Lib.hid (HN4.out.below hb5)
  have HS2 := Lib.hid (HQ.out.2.below hb35)
  have HL7 := Lib.hid (HL3.out.trans (hb35.mono HL3.out.size))
  have hxb := hx5
  clear hx5 hb5 hb35 HP3 HQ HN4 HB4 HL3
  refine (fixResult HP5.out).mono ?_
  rintro e w9 ⟨rfl, rfl⟩
  rw [← HRR.out.1, ← HRR.out.2]
  have d0 : w8.cell? ⟨w4.heap.size, 0, none⟩ = some (.int .i64 a.K) := by simp [World.cell?, hxb]
  have d1 : w8.cell? ⟨w4.heap.size, 1, none⟩ = some (.int .i64 a.P) := by simp [World.cell?, hxb]
  have d2 : w8.cell? ⟨w4.heap.size, 2, none⟩ = some (.int .i64 a.N) := by simp [World.cell?, hxb]
  have d3 : w8.cell? ⟨w4.heap.size, 3, none⟩ = some (.int .u64 a.V) := by simp [World.cell?, hxb]
  have d4 : w8.cell? ⟨w4.heap.size, 4, none⟩ = some (.int .u64 a.U) := by simp [World.cell?, hxb]
  have d5 : w8.cell? ⟨w4.heap.size, 5, none⟩ = some (.slice An ln cn) := by simp [World.cell?, hxb]
  have t2 := htape.c2
  have t3 := htape.c3
  have t4 := htape.c4
  have t5 := htape.c5
  have t6 := htape.c6
  have t7 := htape.c7
  have t8 := htape.c8
  generalize m.busy = mb at *
  clear htape hxb HRR HP5 HAA
  go_wp2_with fail
  go_region_held3 (fun w' => w'.cell? ⟨w.heap.size + 1, 8, none⟩ = some (.bool mb) ∧ w'.cell? ⟨w.heap.size + 1, 2, none⟩ = some (.int .i64 a.K) ∧ w'.cell? ⟨w.heap.size + 1, 3, none⟩ = some (.int .i64 a.P) ∧ w'.cell? ⟨w.heap.size + 1, 4, none⟩ = some (.int .i64 a.N) ∧ w'.cell? ⟨w.heap.size + 1, 5, none⟩ = some (.int .u64 (a.V : Int)) ∧ w'.cell? ⟨w.heap.size + 1, 6, none⟩ = some (.int .u64 (a.U : Int)) ∧ w'.cell? ⟨w.heap.size + 1, 7, none⟩ = some (.slice Bs ls cs) ∧ w'.cell? ⟨w4.heap.size, 0, none⟩ = some (.int .i64 a.K) ∧ w'.cell? ⟨w4.heap.size, 1, none⟩ = some (.int .i64 a.P) ∧ w'.cell? ⟨w4.heap.size, 2, none⟩ = some (.int .i64 a.N) ∧ w'.cell? ⟨w4.heap.size, 3, none⟩ = some (.int .u64 a.V) ∧ w'.cell? ⟨w4.heap.size, 4, none⟩ = some (.int .u64 a.U) ∧ w'.cell? ⟨w4.heap.size, 5, none⟩ = some (.slice An ln cn)) (go_keep)
    (first | (go_at_call 18; refine (same_any a.K a.P a.N (a.V : Int) (a.U : Int) An Bs ln ls cn cs a.bs w8.drew (HS1.out.below (Below.refl w8.heap.size w8).drew) (HS2.out.below (Below.refl w8.heap.size w8).drew)).mono ?_; rintro e w9 ⟨rfl, hb9⟩; have hb9d := below_drew hb9; have kt8 := (hb9d.cell (p := ⟨w.heap.size + 1, 8, none⟩) (lt_of_cell t8)).trans t8; have kt2 := (hb9d.cell (p := ⟨w.heap.size + 1, 2, none⟩) (lt_of_cell t2)).trans t2; have kt3 := (hb9d.cell (p := ⟨w.heap.size + 1, 3, none⟩) (lt_of_cell t3)).trans t3; have kt4 := (hb9d.cell (p := ⟨w.heap.size + 1, 4, none⟩) (lt_of_cell t4)).trans t4; have kt5 := (hb9d.cell (p := ⟨w.heap.size + 1, 5, none⟩) (lt_of_cell t5)).trans t5; have kt6 := (hb9d.cell (p := ⟨w.heap.size + 1, 6, none⟩) (lt_of_cell t6)).trans t6; have kt7 := (hb9d.cell (p := ⟨w.heap.size + 1, 7, none⟩) (lt_of_cell t7)).trans t7; have kd0 := (hb9d.cell (p := ⟨w4.heap.size, 0, none⟩) (lt_of_cell d0)).trans d0; have kd1 := (hb9d.cell (p := ⟨w4.heap.size, 1, none⟩) (lt_of_cell d1)).trans d1; have kd2 := (hb9d.cell (p := ⟨w4.heap.size, 2, none⟩) (lt_of_cell d2)).trans d2; have kd3 := (hb9d.cell (p := ⟨w4.heap.size, 3, none⟩) (lt_of_cell d3)).trans d3; have kd4 := (hb9d.cell (p := ⟨w4.heap.size, 4, none⟩) (lt_of_cell d4)).trans d4; have kd5 := (hb9d.cell (p := ⟨w4.heap.size, 5, none⟩) (lt_of_cell d5)).trans d5))
  all_goals
    have h9 := HL7.out.trans (hb9d.mono HL7.out.size)
    go_wp2
    go_ret
    exact ⟨rfl, h9⟩
end Go.Proofs.YtaomkamdfbibbaaGreat
