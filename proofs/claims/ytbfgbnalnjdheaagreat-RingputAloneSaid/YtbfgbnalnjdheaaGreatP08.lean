/-
  Proved: for every size of a ring and every list of messages the statement RingputAlone (alone, on a ring of which all is 0, messages stand one behind the other, whole, as many as have room; the next one is refused) answers true, and its arguments read as before.
  Conditions: none beyond the row's own.
-/
import Derived.Test.YtbfgbnalnjdheaaGreatP01
import Derived.Test.YtbfgbnalnjdheaaGreatP03
import Derived.Test.YtbfgbnalnjdheaaGreatP07
import Derived.Deep.QuietTactic
import Derived.BigQuiet
import Derived.WalkSmall
import Derived.Test.YtbfgbnalnjdheaaGreatP02
import Derived.Test.YtbfgbnalnjdheaaGreatP04
import Derived.Test.YtbfgbnalnjdheaaGreatP06
import Derived.Deep.CutRange
import Derived.Test.YtbfgbnalnjdheaaGreatP05
import Derived.Deep.RegionHeld3
namespace Go.Proofs.YtbfgbnalnjdheaaGreat
namespace Wd

theorem num_join (a b : List Int) : num (a ++ b) = num a + num b * 2 ^ (a.length * 8) := by
  induction a with
  | nil => simp [num]
  | cons x r ih =>
    have e : ((2 : Int) ^ ((r.length + 1) * 8)) = 256 * 2 ^ (r.length * 8) := by
      rw [Nat.add_mul, Int.pow_add, Int.mul_comm]; rfl
    show x + 256 * num (r ++ b) = x + 256 * num r + num b * 2 ^ ((r.length + 1) * 8)
    rw [ih, e, Int.mul_add, Int.mul_left_comm (num b) 256, Int.add_assoc]

theorem bs2 (v : Int) : bs v 2 = [v % 256, v / 256 % 256] := by simp [bs, List.range_succ]
theorem bs4 (v : Int) : bs v 4 = [v % 256, v / 256 % 256, v / 65536 % 256, v / 16777216 % 256] := by simp [bs, List.range_succ]
theorem bs8 (v : Int) : bs v 8 = [v % 256, v / 256 % 256, v / 65536 % 256, v / 16777216 % 256, v / 4294967296 % 256, v / 1099511627776 % 256, v / 281474976710656 % 256, v / 72057594037927936 % 256] := by
  simp [bs, List.range_succ]
theorem num2 (a b : Int) : num [a, b] = a + 256 * b := by simp [num]
theorem num4 (a b c d : Int) : num [a, b, c, d] = a + 256 * b + 65536 * c + 16777216 * d := by simp only [num]; omega
theorem num8 (a b c d e f g h : Int) : num [a, b, c, d, e, f, g, h] = a + 256 * b + 65536 * c + 16777216 * d + 4294967296 * e + 1099511627776 * f + 281474976710656 * g + 72057594037927936 * h := by
  simp only [num]; omega
theorem num_bs4 (v : Int) : num (bs v 4) = v % 4294967296 := by rw [bs4, num4]; omega
theorem num_bs8 (v : Int) (h0 : 0 ≤ v) (h1 : v < 18446744073709551616) : num (bs v 8) = v := by rw [bs8, num8]; omega
theorem bs_in (v : Int) (n : Nat) : Bytes8 (bs v n) := by
  intro x hx
  unfold bs at hx
  obtain ⟨i, _, rfl⟩ := List.mem_map.1 hx
  omega
theorem Bytes8.app {a b : List Int} (ha : Bytes8 a) (hb : Bytes8 b) : Bytes8 (a ++ b) := fun x hx => by
  rcases List.mem_append.1 hx with h | h
  · exact ha x h
  · exact hb x h
theorem bs8_low (v : Int) : (bs v 8).take 4 = bs v 4 := by rw [bs8, bs4]; rfl
theorem bs8_high (v : Int) : (bs v 8).drop 4 = bs (v / 4294967296) 4 := by
  rw [bs8, bs4]
  show [_, _, _, _] = [_, _, _, _]
  congr 1
  congr 1
  · omega
  congr 1
  · omega
  congr 1
  omega
end Wd

namespace Hd
open Wd Go
/-- A record's header, by its bytes. -/
theorem num_record (l h : Int) : num (bs (l % 18446744073709551616) 4 ++ bs (h % 18446744073709551616) 4) = jn l h := by
  rw [num_join, bs_length, num_bs4, num_bs4]
  unfold jn
  omega
theorem num_low (v : Int) : s32 (num ((bs v 8).take 4)) = s32 v := by rw [bs8_low, num_bs4]; exact s32_eq _ _ (by omega)
theorem num_high (v : Int) : s32 (num ((bs v 8).drop 4)) = s32 (v / 4294967296) := by rw [bs8_high, num_bs4]; exact s32_eq _ _ (by omega)

/-- A frame's header's bytes. -/
def fb (l v f t o s m r z : Int) : List Int :=
  bs (l % 18446744073709551616) 4 ++ [v, f] ++ bs (t % 18446744073709551616) 2 ++ bs (o % 18446744073709551616) 4 ++ bs (s % 18446744073709551616) 4 ++
    bs (m % 18446744073709551616) 4 ++ bs (r % 18446744073709551616) 4 ++ bs z 8
/-- The bytes of four words. -/
def wb (a b c d : Int) : List Int := bs a 8 ++ bs b 8 ++ bs c 8 ++ bs d 8

/-- The bytes of the first k of four numbers of four bytes. -/
def sel (o s m r : Int) (k : Nat) : Int := [o, s, m, r].getD k 0
def part (o s m r : Int) : Nat → List Int
  | 0 => []
  | k + 1 => part o s m r k ++ bs (sel o s m r k % 18446744073709551616) 4
theorem part_length (o s m r : Int) (k : Nat) : (part o s m r k).length = 4 * k := by
  induction k with
  | zero => rfl
  | succ k ih => simp only [part, List.length_append, ih, bs_length]; omega
theorem fb_part (l v f t o s m r z : Int) : bs (l % 18446744073709551616) 4 ++ [v, f] ++ bs (t % 18446744073709551616) 2 ++ part o s m r 4 ++ bs z 8 = fb l v f t o s m r z := by
  simp [fb, part, sel, List.append_assoc]
theorem wrap_mod (x : Int) : IntKind.i64.wrap x % 18446744073709551616 = x % 18446744073709551616 := by rw [IntKind.wrap_i64]; omega

theorem bs_jn (l h : Int) : bs (jn l h) 8 = bs (l % 18446744073709551616) 4 ++ bs (h % 18446744073709551616) 4 := by
  rw [bs8, bs4, bs4]
  unfold jn
  simp only [List.cons_append, List.nil_append, List.cons.injEq, and_true]
  omega
theorem bs_fw (l v f t : Int) (v0 : 0 ≤ v) (v1 : v ≤ 255) (f0 : 0 ≤ f) (f1 : f ≤ 255) (t0 : 0 ≤ t) (t1 : t ≤ 65535) :
    bs (fw l v f t) 8 = bs (l % 18446744073709551616) 4 ++ [v, f] ++ bs (t % 18446744073709551616) 2 := by
  rw [bs8, bs4, bs2]
  unfold fw
  simp only [List.cons_append, List.nil_append, List.cons.injEq, and_true]
  omega
theorem fb_wb (l v f t o s m r z : Int) (v0 : 0 ≤ v) (v1 : v ≤ 255) (f0 : 0 ≤ f) (f1 : f ≤ 255) (t0 : 0 ≤ t) (t1 : t ≤ 65535) :
    fb l v f t o s m r z = wb (fw l v f t) (jn o s) (jn m r) z := by
  unfold fb wb
  rw [bs_fw l v f t v0 v1 f0 f1 t0 t1, bs_jn, bs_jn]
  simp only [List.append_assoc]
theorem wb_length (a b c d : Int) : (wb a b c d).length = 32 := by unfold wb; simp [bs_length]
theorem wb_in (a b c d : Int) : Bytes8 (wb a b c d) := ((((bs_in _ _).app (bs_in _ _)).app (bs_in _ _)).app (bs_in _ _))
theorem wb_0 (a b c d : Int) : ((wb a b c d).drop 0).take 8 = bs a 8 := by unfold wb; rw [bs8, bs8, bs8, bs8]; rfl
theorem wb_1 (a b c d : Int) : ((wb a b c d).drop 8).take 8 = bs b 8 := by unfold wb; rw [bs8, bs8, bs8, bs8]; rfl
theorem wb_2 (a b c d : Int) : ((wb a b c d).drop 16).take 8 = bs c 8 := by unfold wb; rw [bs8, bs8, bs8, bs8]; rfl
theorem wb_3 (a b c d : Int) : ((wb a b c d).drop 24).take 8 = bs d 8 := by unfold wb; rw [bs8, bs8, bs8, bs8]; rfl
theorem s32_low (v : Int) : s32 (num (bs v 4)) = s32 v := by rw [num_bs4]; exact s32_eq _ _ (by omega)
theorem wb_a0 (a b c d : Int) : ((wb a b c d).drop 0).take 4 = bs a 4 := by unfold wb; rw [bs8, bs8, bs8, bs8, bs4]; rfl
theorem wb_b0 (a b c d : Int) : ((wb a b c d).drop 8).take 4 = bs b 4 := by unfold wb; rw [bs8, bs8, bs8, bs8, bs4]; rfl
theorem wb_b1 (a b c d : Int) : ((wb a b c d).drop 12).take 4 = bs (b / 4294967296) 4 := by rw [← bs8_high]; unfold wb; rw [bs8, bs8, bs8, bs8]; rfl
theorem wb_c0 (a b c d : Int) : ((wb a b c d).drop 16).take 4 = bs c 4 := by unfold wb; rw [bs8, bs8, bs8, bs8, bs4]; rfl
theorem wb_c1 (a b c d : Int) : ((wb a b c d).drop 20).take 4 = bs (c / 4294967296) 4 := by rw [← bs8_high]; unfold wb; rw [bs8, bs8, bs8, bs8]; rfl
theorem wb_4 (a b c d : Int) : (wb a b c d).getD 4 0 = a / 4294967296 % 256 := by unfold wb; rw [bs8, bs8, bs8, bs8]; rfl
theorem wb_5 (a b c d : Int) : (wb a b c d).getD 5 0 = a / 1099511627776 % 256 := by unfold wb; rw [bs8, bs8, bs8, bs8]; rfl
theorem wb_6 (a b c d : Int) : (wb a b c d).getD 6 0 = a / 281474976710656 % 256 := by unfold wb; rw [bs8, bs8, bs8, bs8]; rfl
theorem wb_7 (a b c d : Int) : (wb a b c d).getD 7 0 = a / 72057594037927936 % 256 := by unfold wb; rw [bs8, bs8, bs8, bs8]; rfl
/-- Two bytes' number, as the plain answer reckons it. -/
theorem u16_two (x : Int) : IntKind.u16.wrap (IntKind.u16.wrap (x / 281474976710656 % 256) + IntKind.u16.wrap (256 * IntKind.u16.wrap (x / 72057594037927936 % 256))) = x / 281474976710656 % 65536 := by
  simp only [IntKind.wrap, IntKind.bits, IntKind.signed]
  simp
  omega
end Hd
end Go.Proofs.YtbfgbnalnjdheaaGreat
namespace Go.Proofs.YtbfgbnalnjdheaaGreat
open Go.RowKit

/-- A contract 'w = w'' met in a region that draws its order. -/
theorem quiet_same {P : Program} {f : FuncId} {args : Array Value} {w : World} {n : Nat} {v : Value}
    (h : Calls P f args (w.drewN n) fun e w' => e = .returned v ∧ w.drewN n = w') : Calls P f args (w.drewN n) fun e w'' => e = .returned v ∧ ∃ m, w'' = w.drewN m :=
  h.mono fun _ _ ⟨he, hm⟩ => ⟨he, n, hm.symm⟩

theorem hbytes_any (v : Int) (n : Nat) (w : World) (hn : n ≤ 8) :
    Calls Tryz.prog 30 #[.int .i64 v, .int .i64 n] w fun e w' => ∃ x, e = .returned x ∧ Owns w.heap.size w' x (Wd.bs (v % 18446744073709551616) n) ∧ Below w.heap.size w w' := by
  have H := Lib.hid (refBytes_own (v % 18446744073709551616) n w (by omega) (by omega) hn)
  go_enter Tryz.func30, Tryz.ntmps30
  go_wp2_with (go_at_call 44; refine H.out.mono ?_; rintro e w' ⟨x, rfl, hx, hb⟩)
  go_ret
  exact ⟨x, rfl, hx, hb⟩

set_option maxHeartbeats 400000 in
theorem refRecord_any (l h : Int) (w : World) (l0 : -2147483648 ≤ l) (l1 : l ≤ 2147483647) (h0 : -2147483648 ≤ h) (h1 : h ≤ 2147483647) :
    Calls Tryz.prog 13 #[.int .i32 l, .int .i32 h] w fun e w' => e = .returned (.int .u64 (Hd.jn l h)) ∧ Below w.heap.size w w' := by
  have H8 : Wd.Bytes8 (Wd.bs (l % 18446744073709551616) 4 ++ Wd.bs (h % 18446744073709551616) 4) := (Wd.bs_in _ _).app (Wd.bs_in _ _)
  have HN := Lib.hid (Hd.num_record l h)
  have HL : Hid ((Wd.bs (l % 18446744073709551616) 4 ++ Wd.bs (h % 18446744073709551616) 4).take 8 = Wd.bs (l % 18446744073709551616) 4 ++ Wd.bs (h % 18446744073709551616) 4) := Lib.hid (by rw [List.take_of_length_le]; simp [Wd.bs_length])
  go_enter Tryz.func13, Tryz.ntmps13
  go_wp2_with fail
  refine (hbytes_any l 4 w (by omega)).mono ?_
  rintro e w1 ⟨x, rfl, hx, hb1⟩
  go_wp2_with fail
  refine (hbytes_any h 4 w1 (by omega)).mono ?_
  rintro e w2 ⟨y, rfl, hy, hb2⟩
  have hx2 := hx.below hb2
  have hy2 := hy.bytes
  have hs1 := hb1.size
  have hs2 := hb2.size
  have HB := Lib.hid (hb1.after hb2)
  clear hx hy hb1 hb2
  go_wp2_with (first
    | (at_builtin; refine wpList_app rfl _ _ rfl w.heap.size x y _ _ rfl rfl hx2 hy2 (by simp [Wd.bs_length]) (by simp [Wd.bs_length]) (by omega) ?_; intro v3 w3 hv3 hb3 _; have hc := refNumber_any v3 _ w3 H8 hv3.bytes)
    | (go_at_call 29; refine hc.mono ?_; rintro e w' ⟨rfl, rfl⟩; rw [HL.out, HN.out]))
  go_ret
  exact ⟨rfl, HB.out.trans hb3⟩

set_option maxHeartbeats 400000 in
theorem refSize_any (n head tz : Int) (w : World) (a0 : 0 ≤ head) (a1 : head ≤ 1000) :
    Calls Tryz.prog 28 #[.int .i64 n, .int .i64 head, .int .i64 tz] w fun e w' => e = .returned (.tuple #[.int .i64 (sz n head tz), .int .i64 (szE n head tz)]) ∧ w = w' := by
  by_cases h0 : 0 ≤ n
  · by_cases h1 : n ≤ 131072
    · have hk : szOk n = true := by unfold szOk; simp [h0, h1]
      have e1 : sz n head tz = Wd.al (n + head) tz := by unfold sz; rw [if_pos hk, Int.add_comm]
      have e2 : szE n head tz = alE (n + head) tz := by unfold szE; rw [if_pos hk, Int.add_comm]
      rw [e1, e2]
      clear e1 e2 hk
      have hw : IntKind.i64.wrap (n + head) = n + head := IntWalk.i64_in _ (by omega)
      go_enter Tryz.func28, Tryz.ntmps28
      go_wp2_with (go_at_call 54; refine (refAlign_any _ _ _).mono ?_; rintro e w' ⟨rfl, rfl⟩)
      go_ret2
      exact ⟨rfl, rfl⟩
    · have hk : szOk n = false := by unfold szOk; simp; omega
      have e1 : sz n head tz = 0 := by unfold sz; rw [hk]; rfl
      have e2 : szE n head tz = 1 := by unfold szE; rw [hk]; rfl
      rw [e1, e2]
      have h1' : 131072 < n := by omega
      clear e1 e2 hk h1
      go_enter Tryz.func28, Tryz.ntmps28
      go_wp2
      go_ret2
      exact ⟨rfl, rfl⟩
  · have hk : szOk n = false := by unfold szOk; simp; omega
    have e1 : sz n head tz = 0 := by unfold sz; rw [hk]; rfl
    have e2 : szE n head tz = 1 := by unfold szE; rw [hk]; rfl
    rw [e1, e2]
    have h0' : n < 0 := by omega
    clear e1 e2 hk h0
    go_enter Tryz.func28, Tryz.ntmps28
    go_wp2
    go_ret2
    exact ⟨rfl, rfl⟩

theorem refRecordSize_any (n : Int) (w : World) :
    Calls Tryz.prog 12 #[.int .i64 n] w fun e w' => e = .returned (.tuple #[.int .i64 (sz n 8 8), .int .i64 (szE n 8 8)]) ∧ w = w' := by
  go_enter Tryz.func12, Tryz.ntmps12
  go_wp2_with (go_at_call 28; refine (refSize_any _ 8 8 _ (by omega) (by omega)).mono ?_; rintro e w' ⟨rfl, rfl⟩)
  go_ret2
  exact ⟨rfl, rfl⟩

end Go.Proofs.YtbfgbnalnjdheaaGreat
namespace Go.Proofs.YtbfgbnalnjdheaaGreat
open Go.RowKit


theorem read_all {w : World} {g h n : Nat} {m : Nat → Nat} {c : Int} (B : Buf w g h m n c) :
    Calls Tryz.prog 31 #[.pointer (some ⟨g, 0, none⟩), .int .i64 0, .int .i64 (8 * (n : Int))] w (MadeBytes (Mb.bl m 0 (8 * n)) w) := by
  simpa using read_any B 0 (8 * n) (by omega)

theorem read_nil (w : World) : Calls Tryz.prog 31 #[.pointer none, .int .i64 0, .int .i64 0] w (MadeBytes [] w) := by
  obtain ⟨i0, hi, hz0, hz1, hz2⟩ := info_parts infoU8
  go_enter Tryz.func31, Tryz.ntmps31
  go_wp2_with (refine wpList_make_own _ rfl _ _ 30 rfl w.heap.size 5 i0 (.int .u8 0) 1 Tryz.underlying30 hi hz0 hz1 .i64 .i64 _ 0 rfl rfl rfl (by rw [hz2]; omega) (by unfold maxLen; omega) (Nat.le_refl _) ?_; intro w0 hown0 hg0)
  have hbel0 : Below w.heap.size w w0 := (Below.refl _ w).grown hg0 (Nat.le_refl _) (fun g hg => by cases hg)
  clear hg0
  refine wp_loop_rounds 1 ?_
  rw [rounds_succ]
  go_wp2
  go_ret
  exact ⟨_, rfl, BytesAt.of_own (xs := []) hown0, hbel0⟩

set_option maxHeartbeats 400000 in
theorem allBytes_any {w : World} {g h n : Nat} {m : Nat → Nat} {c : Int} (B : Buf w g h m n c) :
    Calls Tryz.prog 14 #[.pointer (some ⟨g, 0, none⟩)] w (MadeBytes (Mb.bl m 0 (8 * n)) w) := by
  have HB := Lib.hid B
  clear B
  go_enter Tryz.func14, Tryz.ntmps14
  go_wp2_with (first
    | (go_at_call 32; refine (size_any HB.out).mono ?_; rintro e w' ⟨rfl, rfl⟩)
    | (go_at_call 31; refine (read_all HB.out).mono ?_; rintro e w1 ⟨x, rfl, hx, hb⟩))
  go_ret
  exact ⟨_, rfl, hx, hb⟩

set_option maxHeartbeats 400000 in
theorem allBytes_nil (w : World) :
    Calls Tryz.prog 14 #[.pointer none] w (MadeBytes [] w) := by
  go_enter Tryz.func14, Tryz.ntmps14
  go_wp2_with (first
    | (go_at_call 32; refine (size_nil _).mono ?_; rintro e w' ⟨rfl, rfl⟩)
    | (go_at_call 31; refine (read_nil _).mono ?_; rintro e w1 ⟨x, rfl, hx, hb⟩))
  go_ret
  exact ⟨_, rfl, hx, hb⟩
end Go.Proofs.YtbfgbnalnjdheaaGreat
namespace Go.Proofs.YtbfgbnalnjdheaaGreat
open Go.RowKit

set_option maxRecDepth 100000 in
set_option maxHeartbeats 1000000 in
theorem refCheck_ok (n : Nat) (K P N V U : Int) (A : Option Addr) (L cap : Nat) (w : World) (hK : K = 5 ∨ (K = 6 ∧ N = (L : Int))) (h0 : 0 ≤ N) (h1 : N ≤ 8) (h2 : 0 ≤ P) (hn : n ≤ 1000000) (h : P + N ≤ n) :
    Calls Tryz.prog 43 #[.int .i64 n, .agg #[.int .i64 K, .int .i64 P, .int .i64 N, .int .u64 V, .int .u64 U, .slice A L cap]] w fun e w' => e = .returned (.int .i64 0) ∧ Below w.heap.size w w' := by
  have hb := (Below.refl w.heap.size w).alloc (Nat.le_refl _) (.cells #[.int .i64 K, .int .i64 P, .int .i64 N, .int .u64 V, .int .u64 U, .slice A L cap] 58)
  have g1 : P ≤ n := by omega
  have g2 : N ≤ n - P := by omega
  have HB := Lib.hid hb
  clear h hb
  rcases hK with rfl | ⟨rfl, rfl⟩
  · go_enter Tryz.func43, Tryz.ntmps43
    go_wp2
    go_ret
    exact ⟨rfl, HB.out⟩
  · go_enter Tryz.func43, Tryz.ntmps43
    go_wp2
    go_ret
    exact ⟨rfl, HB.out⟩

set_option maxRecDepth 100000 in
set_option maxHeartbeats 1000000 in
theorem refCheck_no (n : Nat) (K P N V U : Int) (A : Option Addr) (L cap : Nat) (w : World) (hK : K = 5 ∨ (K = 6 ∧ N = (L : Int))) (h0 : 0 ≤ N) (h1 : N ≤ 8) (h2 : 0 ≤ P) (h : n < P + N) :
    Calls Tryz.prog 43 #[.int .i64 n, .agg #[.int .i64 K, .int .i64 P, .int .i64 N, .int .u64 V, .int .u64 U, .slice A L cap]] w fun e w' => e = .returned (.int .i64 2) ∧ Below w.heap.size w w' := by
  have hb := (Below.refl w.heap.size w).alloc (Nat.le_refl _) (.cells #[.int .i64 K, .int .i64 P, .int .i64 N, .int .u64 V, .int .u64 U, .slice A L cap] 58)
  have HB := Lib.hid hb
  clear hb
  by_cases g1 : P ≤ n
  · have g2 : n - P < N := by omega
    clear h
    rcases hK with rfl | ⟨rfl, rfl⟩
    · go_enter Tryz.func43, Tryz.ntmps43
      go_wp2
      go_ret
      exact ⟨rfl, HB.out⟩
    · go_enter Tryz.func43, Tryz.ntmps43
      go_wp2
      go_ret
      exact ⟨rfl, HB.out⟩
  · have g3 : n < P := by omega
    clear h g1
    rcases hK with rfl | ⟨rfl, rfl⟩
    · go_enter Tryz.func43, Tryz.ntmps43
      go_wp2
      go_ret
      exact ⟨rfl, HB.out⟩
    · go_enter Tryz.func43, Tryz.ntmps43
      go_wp2
      go_ret
      exact ⟨rfl, HB.out⟩
end Go.Proofs.YtbfgbnalnjdheaaGreat
namespace Go.Proofs.YtbfgbnalnjdheaaGreat
open Go.RowKit

/-- A row of n bytes stands at block q. -/
abbrev PlainAt (w : World) (q n : Nat) (u : Nat → Nat) : Prop := w.rowIs q 5 n (fun j => .int .u8 ((u j : Nat) : Int))

theorem PlainAt.part {w : World} {q n : Nat} {u : Nat → Nat} (h : PlainAt w q n u) (a k c : Nat) (hk : a + k ≤ n) : BytesAt w (.slice (some ⟨q, a, none⟩) k c) (Mb.bl u a k) := by
  refine ⟨some ⟨q, a, none⟩, c, by rw [Mb.bl_length], fun _ => ⟨q, a, rfl, h.lt, fun i hi => ?_⟩⟩
  rw [Mb.bl_length] at hi
  rw [h.cell (i := a + i) (by omega), Mb.bl_getD _ _ _ _ hi]

set_option maxRecDepth 100000 in
set_option maxHeartbeats 1000000 in
theorem refDo_no (q n : Nat) (K P N V U : Int) (A : Option Addr) (L cap : Nat) (w : World) (hK : K = 5 ∨ (K = 6 ∧ N = (L : Int))) (h0 : 0 ≤ N) (h1 : N ≤ 8) (h2 : 0 ≤ P) (h : n < P + N) :
    Calls Tryz.prog 21 #[.slice (some ⟨q, 0, none⟩) n n, .agg #[.int .i64 K, .int .i64 P, .int .i64 N, .int .u64 V, .int .u64 U, .slice A L cap]] w
      fun e w' => e = .returned (.tuple #[.agg #[.int .u64 0, .bool false, .slice none 0 0], .int .i64 2]) ∧ Below w.heap.size w w' := by
  have HK := fun W => Lib.hid (refCheck_no n K P N V U A L cap W hK h0 h1 h2 h)
  clear hK h0 h1 h2 h
  have HC := Lib.hid (acc_made w K P N V U (.slice A L cap) (.cells #[.int .u64 0, .bool false, .slice none 0 0] 50))
  have HA := Lib.hid (ans_made w (.cells #[.int .i64 K, .int .i64 P, .int .i64 N, .int .u64 V, .int .u64 U, .slice A L cap] 58))
  have HW := Lib.hid (((Below.refl w.heap.size w).alloc (Nat.le_refl _) (.cells #[.int .i64 K, .int .i64 P, .int .i64 N, .int .u64 V, .int .u64 U, .slice A L cap] 58)).alloc (by simp) (.cells #[.int .u64 0, .bool false, .slice none 0 0] 50))
  go_enter Tryz.func21, Tryz.ntmps21
  go_upto_region 1 with (fail)
  generalize (w.alloc (.cells #[.int .i64 K, .int .i64 P, .int .i64 N, .int .u64 V, .int .u64 U, .slice A L cap] 58)).alloc (.cells #[.int .u64 0, .bool false, .slice none 0 0] 50) = W at HC HA HW ⊢
  obtain ⟨c0, c1, c2, c3, c4, c5⟩ := HC.out
  go_wp2_with (go_at_call 43; refine (HK _).out.mono ?_; rintro e w1 ⟨rfl, hb1⟩; obtain ⟨a0, a1, a2, f0, f1, f2, _⟩ := HA.out.later hb1)
  refine bodyPost_ret (v := .tuple #[.agg #[.int .u64 0, .bool false, .slice none 0 0], .int .i64 2]) (by simp [results, Tryz.results21, go_sem, a0, a1, a2]) rfl ?_
  exact ⟨rfl, (((HW.out.trans (hb1.mono HW.out.size)).setCell (Nat.le_succ _) _).setCell (Nat.le_succ _) _).setCell (Nat.le_succ _) _⟩

set_option maxRecDepth 100000 in
set_option maxHeartbeats 1000000 in
theorem refDo_read {w : World} {q n : Nat} {u : Nat → Nat} (hr : PlainAt w q n u) (hu : Mb.IsB u) (P N : Nat) (V U : Int) (A : Option Addr) (L cap : Nat) (h1 : N ≤ 8) (h2 : 1 ≤ N) (hn : n ≤ 1000000) (h : P + N ≤ n) :
    Calls Tryz.prog 21 #[.slice (some ⟨q, 0, none⟩) n n, .agg #[.int .i64 5, .int .i64 P, .int .i64 N, .int .u64 V, .int .u64 U, .slice A L cap]] w
      fun e w' => ∃ A' l c, e = .returned (.tuple #[.agg #[.int .u64 0, .bool false, .slice A' l c], .int .i64 0]) ∧ Owns w.heap.size w' (.slice A' l c) (Mb.bl u P N) ∧ Below w.heap.size w w' := by
  have HK := fun W => Lib.hid (refCheck_ok n 5 P N V U A L cap W (.inl rfl) (by omega) (by omega) (by omega) hn (by omega))
  have HR := Lib.hid hr
  have HU := Lib.hid hu
  clear hr hu
  have HC := Lib.hid (acc_made w 5 P N V U (.slice A L cap) (.cells #[.int .u64 0, .bool false, .slice none 0 0] 50))
  have HA := Lib.hid (ans_made w (.cells #[.int .i64 5, .int .i64 P, .int .i64 N, .int .u64 V, .int .u64 U, .slice A L cap] 58))
  have HW := Lib.hid (((Below.refl w.heap.size w).alloc (Nat.le_refl _) (.cells #[.int .i64 5, .int .i64 P, .int .i64 N, .int .u64 V, .int .u64 U, .slice A L cap] 58)).alloc (by simp) (.cells #[.int .u64 0, .bool false, .slice none 0 0] 50))
  go_enter Tryz.func21, Tryz.ntmps21
  go_upto_region 1 with (fail)
  generalize (w.alloc (.cells #[.int .i64 5, .int .i64 P, .int .i64 N, .int .u64 V, .int .u64 U, .slice A L cap] 58)).alloc (.cells #[.int .u64 0, .bool false, .slice none 0 0] 50) = W at HC HA HW ⊢
  obtain ⟨c0, c1, c2, c3, c4, c5⟩ := HC.out
  go_upto_region 2 with (go_at_call 43; refine (HK _).out.mono ?_; rintro e w1 ⟨rfl, hb1⟩)
  have HA1 := Lib.hid (HA.out.later hb1)
  have HW1 := Lib.hid (HW.out.trans (hb1.mono HW.out.size))
  have hw1 : w.heap.size + 1 < w1.heap.size := Nat.lt_of_lt_of_le (lt_of_cell HA.out.a0) hb1.size
  obtain ⟨c0, c1, c2, c3, c4, c5⟩ := HC.out.below hb1
  have hr1 : PlainAt w1 q n u := HR.out.of_block (HW1.out.block q HR.out.lt)
  have HP := Lib.hid (hr1.part P N (n - P) h)
  have hpq : (P : Int) + N ≤ n := by omega
  have hpq2 : (P : Int) ≤ P + N := by omega
  have h8 : Hid (Wd.Bytes8 (Mb.bl u P N)) := Lib.hid (fun x hx => by have := Bys.bl HU.out P N x hx; omega)
  clear hb1 hr1
  go_upto_region 5 with (fail)
  have hown := Lib.hid (own_empty w1)
  have hby := Lib.hid (HP.out.below ((Below.refl w1.heap.size w1).alloc (Nat.le_refl _) (.cells #[] 5)))
  go_wp2_with (first
    | (go_at_call 29; refine (refNumber_any _ (Mb.bl u P N) _ h8.out HP.out).mono ?_; rintro e w2 ⟨rfl, rfl⟩)
    | (at_builtin; refine wpList_app_any rfl _ _ rfl w1.heap.size _ _ [] (Mb.bl u P N) rfl rfl hown.out hby.out (by simp [Mb.bl_length]; omega) (by simp) ?_; intro v' w3 happ; obtain ⟨A', c', rfl, _⟩ := happ.own.bytes; have hb3 := happ.below hown.out ((Below.refl _ w1).alloc (Nat.le_refl _) _) (by simp); have hap := Lib.hid happ.own; clear happ; obtain ⟨a0, a1, a2, f0, f1, f2, _⟩ := HA1.out.later hb3))
  refine bodyPost_ret (v := .tuple #[.agg #[.int .u64 0, .bool false, .slice A' (Mb.bl u P N).length c'], .int .i64 0]) (by simp [results, Tryz.results21, go_sem, a0, a1, a2]) rfl ?_
  have hsz : w.heap.size + 1 < w1.heap.size := hw1
  have how : Owns w1.heap.size w3 (.slice A' (Mb.bl u P N).length c') (Mb.bl u P N) := hap.out
  refine ⟨A', _, c', rfl, ?_, ((((HW1.out.trans (hb3.mono (by omega))).setCell (Nat.le_succ _) _).setCell (Nat.le_succ _) _).setCell (Nat.le_succ _) _)⟩
  exact (((how.setCell (p := ⟨w.heap.size + 1, 0, none⟩) hsz _).setCell (p := ⟨w.heap.size + 1, 1, none⟩) hsz _).setCell (p := ⟨w.heap.size + 1, 2, none⟩) hsz _).down (by omega)

set_option maxRecDepth 100000 in
set_option maxHeartbeats 1000000 in
theorem refDo_write {w : World} {q n : Nat} {u : Nat → Nat} (hr : PlainAt w q n u) (hu : Mb.IsB u) (P N : Nat) (V U : Int) (A : Option Addr) (cap : Nat) (f : Nat → Nat) (hB : BytesAt w (.slice A N cap) (Mb.bl f 0 N)) (h1 : N ≤ 8) (h2 : 1 ≤ N) (hn : n ≤ 1000000) (h : P + N ≤ n) :
    Calls Tryz.prog 21 #[.slice (some ⟨q, 0, none⟩) n n, .agg #[.int .i64 6, .int .i64 P, .int .i64 N, .int .u64 V, .int .u64 U, .slice A N cap]] w
      fun e w' => e = .returned (.tuple #[.agg #[.int .u64 0, .bool false, .slice none 0 0], .int .i64 0]) ∧ PlainAt w' q n (Cy.lay u f P N) ∧ Touch (Lone q) w w' := by
  have HK := fun W => Lib.hid (refCheck_ok n 6 P N V U A N cap W (.inr ⟨rfl, rfl⟩) (by omega) (by omega) (by omega) hn (by omega))
  have HR := Lib.hid hr
  have hql := hr.lt
  have HU := Lib.hid hu
  have HBY := Lib.hid hB
  clear hr hu hB
  have HC := Lib.hid (acc_made w 6 P N V U (.slice A N cap) (.cells #[.int .u64 0, .bool false, .slice none 0 0] 50))
  have HA := Lib.hid (ans_made w (.cells #[.int .i64 6, .int .i64 P, .int .i64 N, .int .u64 V, .int .u64 U, .slice A N cap] 58))
  have HW := Lib.hid (((Below.refl w.heap.size w).alloc (Nat.le_refl _) (.cells #[.int .i64 6, .int .i64 P, .int .i64 N, .int .u64 V, .int .u64 U, .slice A N cap] 58)).alloc (by simp) (.cells #[.int .u64 0, .bool false, .slice none 0 0] 50))
  go_enter Tryz.func21, Tryz.ntmps21
  go_upto_region 1 with (fail)
  generalize (w.alloc (.cells #[.int .i64 6, .int .i64 P, .int .i64 N, .int .u64 V, .int .u64 U, .slice A N cap] 58)).alloc (.cells #[.int .u64 0, .bool false, .slice none 0 0] 50) = W at HC HA HW ⊢
  obtain ⟨c0, c1, c2, c3, c4, c5⟩ := HC.out
  go_upto_region 2 with (go_at_call 43; refine (HK _).out.mono ?_; rintro e w1 ⟨rfl, hb1⟩)
  have HA1 := Lib.hid (HA.out.later hb1)
  have HW1 := Lib.hid (HW.out.trans (hb1.mono HW.out.size))
  have hw1 : w.heap.size + 1 < w1.heap.size := Nat.lt_of_lt_of_le (lt_of_cell HA.out.a0) hb1.size
  obtain ⟨c0, c1, c2, c3, c4, c5⟩ := HC.out.below hb1
  have hr1 : PlainAt w1 q n u := HR.out.of_block (HW1.out.block q HR.out.lt)
  have HP := Lib.hid (hr1.part P N (n - P) h)
  have hpq : (P : Int) + N ≤ n := by omega
  have hpq2 : (P : Int) ≤ P + N := by omega
  have h8 : Hid (Wd.Bytes8 (Mb.bl u P N)) := Lib.hid (fun x hx => by have := Bys.bl HU.out P N x hx; omega)
  have HR1 := Lib.hid hr1
  have HB1 := Lib.hid (HBY.out.below HW1.out)
  clear hb1 hr1
  go_upto_region 5 with (fail)
  obtain ⟨w3, hrun3, hr3, ht3⟩ := run_copy_bytes (dLen := N) (dCap := n - P) (off := P) HR1.out A N cap HB1.out h (Nat.le_refl _) 3
  have ht4 := Lib.hid ht3
  have hr4 := Lib.hid hr3
  obtain ⟨a0, a1, a2, f0, f1, f2, _⟩ := AnsAt.of_blk ((ht3.block _ hw1 fun e => by have e : w.heap.size + 1 = q := e; omega).trans HA1.out.blk)
  clear ht3 hr3
  go_wp2_with (go_at_call 29; refine (refNumber_any _ (Mb.bl u P N) _ h8.out HP.out).mono ?_; rintro e w2 ⟨rfl, rfl⟩)
  refine bodyPost_ret (v := .tuple #[.agg #[.int .u64 0, .bool false, .slice none 0 0], .int .i64 0]) (by simp [results, Tryz.results21, go_sem, a0, a1, a2]) rfl ?_
  have hq3 : q ≠ w.heap.size + 1 := by omega
  refine ⟨rfl, hr4.out.of_block ((Below.heap_setCell _ _ _ _ hq3).trans ((Below.heap_setCell _ _ _ _ hq3).trans (Below.heap_setCell _ _ _ _ hq3))), ?_⟩
  have ht5 : Touch (Lone q) w w3 := (Touch.of_below HW1.out).trans ht4.out
  exact ((ht5.setNew (p := ⟨w.heap.size + 1, 0, none⟩) (Nat.le_succ _) _).setNew (p := ⟨w.heap.size + 1, 1, none⟩) (Nat.le_succ _) _).setNew (p := ⟨w.heap.size + 1, 2, none⟩) (Nat.le_succ _) _
end Go.Proofs.YtbfgbnalnjdheaaGreat
namespace Go.Proofs.YtbfgbnalnjdheaaGreat
open Go.RowKit

theorem al_size {L : Nat} (hL : L ≤ 131072) : sz (L : Int) 8 8 = ((alN L : Nat) : Int) := by
  have hk : szOk (L : Int) = true := by unfold szOk; simp; omega
  have ho : Wd.alOk (8 + (L : Int)) 8 = true := by
    have hp : Wd.isP 8 = true := by decide
    unfold Wd.alOk
    simp [hp]
    omega
  unfold sz
  rw [if_pos hk]
  unfold Wd.al
  rw [if_pos ho]
  unfold alN
  omega

theorem cut_from (f : Nat → Nat) (a d n L : Nat) (h : d + n ≤ L) : ((Mb.bl f a L).drop d).take n = Mb.bl f (a + d) n := by
  unfold Mb.bl
  apply List.ext_getElem
  · simp; omega
  · intro i h1 h2
    simp [Nat.add_assoc]

/-- All bytes, in memory of the call's own. -/
theorem allBytes_own {w : World} {g h : Nat} {m : Nat → Nat} {c : Int} (B : Buf w g h m 128 c) :
    Calls Tryz.prog 14 #[.pointer (some ⟨g, 0, none⟩)] w (fun e w' => ∃ b c, e = .returned (.slice (some ⟨b, 0, none⟩) 1024 c) ∧ 1024 ≤ c ∧ c ≤ 9223372036854775807 ∧ BytesAt w' (.slice (some ⟨b, 0, none⟩) 1024 c) (Mb.bl m 0 1024) ∧ Below w.heap.size w w') := by
  have HB := Lib.hid B
  clear B
  go_enter Tryz.func14, Tryz.ntmps14
  go_wp2_with (first
    | (go_at_call 32; refine (size_any HB.out).mono ?_; rintro e w' ⟨rfl, rfl⟩)
    | (go_at_call 31; refine (read_own HB.out 0 1024 (by omega)).mono ?_; rintro e w1 ⟨x, rfl, hx, hb⟩))
  go_ret
  obtain ⟨g9, cap9, hv, _⟩ := hx.form (by rw [Mb.bl_length]; decide)
  have hx2 := hx
  rcases hx.2 with ⟨e1, _⟩ | ⟨g8, cap8, cur, e1, _, _, e2, e3, _⟩
  · rw [hv] at e1; cases e1
  · rw [Mb.bl_length] at e1 e2
    unfold maxLen at e3
    have hby := hx2.bytes
    rw [e1] at hby ⊢
    exact ⟨g8, cap8, rfl, e2, by omega, hby, hb⟩

/-- How a put alone goes. -/
theorem al_goes {Z L t : Nat} {f m : Nat → Nat} (hf : Mb.IsB f) (hZ : Z = 64 ∨ Z = 128 ∨ Z = 256 ∨ Z = 512) (ht : t ≤ Z) (ht8 : t % 8 = 0) (h : Alone Z m t) :
    ∃ (p' : Pm) (m' : Nat → Nat) (k : Nat), Runs 128 (Pm.new 16 Z 7 f L) m k p' m' ∧ k < 2000 ∧
      ((Z < 8 * L ∧ p'.result = (0, 4) ∧ m' = m) ∨ (8 * L ≤ Z ∧ Z < t + alN L ∧ p'.result = (0, 5) ∧ m' = m) ∨ (8 * L ≤ Z ∧ t + alN L ≤ Z ∧ p'.result = ((t : Int), 0) ∧ m' = alM m f Z L t)) := by
  have hr : Rg.right 16 Z := by rcases hZ with rfl | rfl | rfl | rfl <;> decide
  have hz : 64 ≤ Z ∧ Z ≤ 512 ∧ Z % 8 = 0 := by omega
  by_cases h1 : Z < 8 * L
  · rw [al_long hr h1]
    exact ⟨_, m, 0, .stop rfl, by omega, .inl ⟨h1, by unfold Pm.result; rw [if_neg (by show ¬ (Z : Int) = 0; omega)]; rfl, rfl⟩⟩
  · rw [al_new hr (by omega)]
    by_cases h2 : Z < t + alN L
    · refine ⟨_, m, 3, al_full hz ht h h2, by omega, .inr (.inl ⟨by omega, h2, ?_, rfl⟩)⟩
      unfold Pm.result
      rw [if_neg (by show ¬ (Z : Int) = 0; omega)]
      rfl
    · obtain ⟨k, hk, hr⟩ := al_fit (L := L) hf hz ht8 h (by omega) (by omega)
      refine ⟨_, _, k, hr, by omega, .inr (.inr ⟨by omega, by omega, ?_, rfl⟩)⟩
      unfold Pm.result
      rw [if_neg (by show ¬ (Z : Int) = 0; omega)]
      rfl

set_option linter.unusedSimpArgs false in
set_option maxRecDepth 100000 in
set_option maxHeartbeats 8000000 in
theorem ringputAlone_main (bq : Nat) (A : Option Addr) (M cap : Nat) (R : Nat → Bl) (w : World) (hR : BlsAt w A M R) (hM2 : M ≤ 40) (Z : Nat) (hZ : Z = 64 ∨ Z = 128 ∨ Z = 256 ∨ Z = 512) (hzq : wrap64 (64 * 2 ^ (bq % 4)) = (Z : Int)) :
    Calls Tryz.prog 3 #[.int .u8 bq, .slice A M cap] w (TrueBelow w) := by
  have HR := Lib.hid hR
  have HZ0 := Lib.hid hZ
  have HZQ := Lib.hid hzq
  have hM2' : (M : Int) ≤ 40 := by omega
  have hz64 : 64 ≤ Z ∧ Z ≤ 512 ∧ Z % 8 = 0 := by omega
  have hzi : (Z : Int) ≤ 512 := by omega
  have hzi0 : (64 : Int) ≤ Z := by omega
  have hmk := make_bytes Z (by omega)
  clear hR hZ hzq
  go_enter Tryz.func3, Tryz.ntmps3
  go_wp2_with fail
  refine (fixed7_any w).mono ?_
  rintro e w1 ⟨rfl, hq1⟩
  have HW1 := Lib.hid hq1
  have hsw1 := hq1.size
  clear hq1
  go_upto_region 6 with (fail)
  simp only [HZQ.out]
  have hrb := un_below w1 (.int .i64 16) (.int .i64 Z) 25
  obtain ⟨r0, r1⟩ := rg_cells w1 16 Z
  have hsz2 : (w1.alloc (.cells #[.int .i64 16, .int .i64 Z] 25)).heap.size = w1.heap.size + 1 := by simp
  generalize w1.alloc (.cells #[.int .i64 16, .int .i64 Z] 25) = w2 at hrb r0 r1 hsz2 ⊢
  go_upto_region 7 with (go_at_call 7; refine (new_yes 1024 128 w2 (by decide) (by decide) (by decide) (by decide)).mono ?_; rintro e w3 ⟨gb, hb, rfl, hB3, hgb, hhb, hb3⟩)
  have q0 := (hb3.cell (p := ⟨w1.heap.size, 0, none⟩) (lt_of_cell r0)).trans r0
  have q1 := (hb3.cell (p := ⟨w1.heap.size, 1, none⟩) (lt_of_cell r0)).trans r1
  have HW3 := Lib.hid ((HW1.out.trans (hrb.mono hsw1)).trans (hb3.mono (by have := hrb.size; omega)))
  have hs3 := hb3.size
  have HB3 := Lib.hid hB3
  have hgl3 := hB3.g_lt
  have hhl3 := hB3.h_lt
  clear r0 r1 hrb hb3 hB3
  go_upto_region 8 with (fail)
  have hb4 := (Below.refl w3.heap.size w3).alloc (Nat.le_refl _) (.cells (madeCells #[.int .u8 0] Z) 5)
  have hrow4 : PlainAt (w3.alloc (.cells (madeCells #[.int .u8 0] Z) 5)) w3.heap.size Z (fun _ => 0) := World.rowIs_made w3 (.int .u8 0) Z 5
  have hsz4 : (w3.alloc (.cells (madeCells #[.int .u8 0] Z) 5)).heap.size = w3.heap.size + 1 := by simp
  generalize w3.alloc (.cells (madeCells #[.int .u8 0] Z) 5) = w4 at hb4 hrow4 hsz4 ⊢
  obtain ⟨q, hq⟩ : ∃ q, q = w3.heap.size := ⟨_, rfl⟩
  rw [← hq] at hrow4 ⊢
  have p0 := (hb4.cell (p := ⟨w1.heap.size, 0, none⟩) (lt_of_cell q0)).trans q0
  have p1 := (hb4.cell (p := ⟨w1.heap.size, 1, none⟩) (lt_of_cell q0)).trans q1
  have HB4 := Lib.hid (HB3.out.below hb4)
  have HW4 := Lib.hid (HW3.out.trans (hb4.mono HW3.out.size))
  have HR4 := Lib.hid hrow4
  have hs4 := hb4.size
  have hqq1 : w3.heap.size ≤ q := by omega
  have hqq2 : q < w4.heap.size := by omega
  have HP := Lib.hid (And.intro p0 p1)
  clear q0 q1 hb4 hrow4 hmk HB3 hq p0 p1
  go_wp2_with fail
  go_loopw [9, 37] (fun t9 t37 wr => ∃ (t i : Nat) (m u : Nat → Nat) (c : Int), t9 = .int .i64 t ∧ t37 = .int .i64 i ∧ i ≤ M ∧ t ≤ Z ∧ t % 8 = 0 ∧ Alone Z m t ∧ (∀ j, j < Z → m (16 + j) = u j) ∧ Buf wr gb hb m 128 c ∧ PlainAt wr q Z u ∧ Below w.heap.size w wr ∧ w4.heap.size ≤ wr.heap.size ∧ wr.cell? ⟨w1.heap.size, 0, none⟩ = some (.int .i64 16) ∧ wr.cell? ⟨w1.heap.size, 1, none⟩ = some (.int .i64 Z)) (fun _ t37 _ => M - (intOf t37).toNat)
  case atStart =>
    have hn0 : ∀ a, Mb.nm (fun _ => 0) a 8 = 0 := fun a => by simp [Mb.nm]
    exact ⟨0, 0, fun _ => 0, fun _ => 0, 0, rfl, rfl, Nat.zero_le _, Nat.zero_le _, rfl, ⟨Mb.zero_isB, hn0 _, hn0 _, hn0 _⟩, fun _ _ => rfl, HB4.out, HR4.out, HW4.out, Nat.le_refl _, HP.out.1, HP.out.2⟩
  case round =>
    obtain ⟨t, i, m, u, c, rfl, rfl, hi, ht, ht8, hal, heq, hbf, hrw, hbw, hsz, r0, r1⟩ := hrel
    have HAL := Lib.hid hal
    have HEQ := Lib.hid heq
    have HBF := Lib.hid hbf
    have HRW := Lib.hid hrw
    have HBW := Lib.hid hbw
    have hti : (t : Int) ≤ Z := by omega
    clear hal heq hbf hrw hbw HP
    by_cases hlt : i < M
    · have hg5 : (i : Int) < M := by omega
      have hg6 : (0 : Int) ≤ i := by omega
      obtain ⟨tb, tz, rfl, htb, htc⟩ := HR.out (by omega)
      obtain ⟨y00, his⟩ := htc i hlt
      have y0 := (HBW.out.cell (p := ⟨tb, tz + i, none⟩) htb).trans y00
      generalize R i = x at y0 his
      obtain ⟨Ab, L, cb, f⟩ := x
      have hroom : L ≤ cb := his.room
      have hfew : cb ≤ 9223372036854775807 := his.few
      have HIB : Hid (Mb.IsB f) := Lib.hid his.isB
      have HBY0 : Hid (BytesAt w (.slice Ab L cb) (Mb.bl f 0 L)) := Lib.hid his.bytes
      have HBY := Lib.hid (HBY0.out.below HBW.out)
      replace y0 : wr.cell? ⟨tb, tz + i, none⟩ = some (.slice Ab L cb) := y0
      clear htc his y00
      have hl63 : (L : Int) ≤ 9223372036854775807 := by omega
      by_cases hl : 2000 < L
      · have hl' : (2000 : Int) < L := by omega
        go_wp2
        go_ret
        exact ⟨rfl, HBW.out⟩
      have hl2 : L ≤ 2000 := by omega
      have hl2' : (L : Int) ≤ 2000 := by omega
      clear hl
      obtain ⟨p', m', k, hruns, hk, hcase⟩ := al_goes (L := L) HIB.out HZ0.out ht ht8 HAL.out
      have HRU := Lib.hid (robin_runs hruns c 2000 hk)
      have HCA := Lib.hid hcase
      clear hruns hcase hk
      go_upto_region 15 with (go_at_call 8; refine (rpNew 16 Z 7 (by decide) ⟨by omega, by omega⟩ (by decide) Ab L cb f HIB.out wr HBY.out).mono ?_; rintro e w5 ⟨gp, rfl, hp5, hb5⟩; have HP5 := Lib.hid hp5; have HB5 := Lib.hid hb5; clear hp5 hb5)
      have HNEW := Lib.hid (oneNew (y := .pointer (some ⟨gp, 0, none⟩)) (T0 := 31) (mc := .put (Pm.new 16 Z 7 f L)) HBF.out ⟨gp, rfl, HP5.out⟩ HB5.out)
      go_upto_region 16 with (first
        | (go_at_call 9; refine (HNEW.out _).mono ?_; rintro e w6 ⟨gw, rfl, hs6⟩; have HS6 := Lib.hid hs6; clear hs6)
        | (go_at_call 10; refine (oneRobin HS6.out 2000 (by show (0 : Nat) + 2000 ≤ 1000000; omega)).mono ?_; rintro e w7 ⟨rfl, hs7⟩; have HS7 := Lib.hid hs7; clear hs7))
      have hbuf7 := HS7.out.buf
      have hmac := HS7.out.mach (by rw [HRU.out.2.2.2]; exact Nat.one_pos)
      have htt7 := HS7.out.touch
      rw [HRU.out.1] at hmac
      rw [HRU.out.2.1, HRU.out.2.2.1] at hbuf7
      obtain ⟨F7, ⟨gp', he7, hpm7⟩, _⟩ := hmac
      injection he7 with _ he7
      injection he7 with he7
      injection he7 with he7
      injection he7 with he7
      subst he7
      obtain ⟨c7, hbuf7⟩ : ∃ c7, Buf w7 gb hb m' 128 c7 := ⟨_, hbuf7⟩
      have HPM7 := Lib.hid hpm7
      have HBF7 := Lib.hid hbuf7
      have HTT7 := Lib.hid htt7
      have hns : ∀ k, k < w3.heap.size → k ≠ gb → k ≠ hb → ¬ Two gb hb k := fun k _ h1 h2 e => by rcases e with e | e; exact h1 e; exact h2 e
      have hq7 : ¬ Two gb hb q := fun e => by rcases e with e | e <;> (have e : q = _ := e; omega)
      have hr7 : ¬ Two gb hb w1.heap.size := fun e => by rcases e with e | e <;> (have e : w1.heap.size = _ := e; omega)
      have HR7 := Lib.hid (HRW.out.of_block (htt7.block q HRW.out.lt hq7))
      have k0 := (htt7.cell (p := ⟨w1.heap.size, 0, none⟩) (lt_of_cell r0) hr7).trans r0
      have k1 := (htt7.cell (p := ⟨w1.heap.size, 1, none⟩) (lt_of_cell r0) hr7).trans r1
      have HBW7 := Lib.hid (htt7.below HBW.out HBW.out.size fun k hk => by rcases hk with e | e <;> (have e : k = _ := e; omega))
      have hsz7 := htt7.size
      clear hbuf7 hpm7 htt7 r0 r1 y0 HNEW HP5 HS6 HS7 HRU HBF HRW
      obtain ⟨x1, x2, hx⟩ : ∃ x1 x2, p'.result = (x1, x2) := ⟨_, _, rfl⟩
      have hpr := putResult HPM7.out
      rw [hx] at hpr
      have HPR := Lib.hid hpr
      have HX := Lib.hid hx
      obtain ⟨N, hN⟩ : ∃ N, N = alN L := ⟨_, rfl⟩
      have hsL : sz (L : Int) 8 8 = (N : Int) := by rw [hN]; exact al_size (by omega)
      have hne : N = 8 * ((L + 15) / 8) := hN
      have hNb : N ≤ 3000 ∧ N % 8 = 0 ∧ 8 + L ≤ N := by omega
      have hN8 := hNb.2.1
      have hNL := hNb.2.2
      have HN := Lib.hid (And.intro hN hne)
      clear hpr hx hN hne
      go_upto_region 17 with (go_at_call 11; refine HPR.out.mono ?_; rintro e w8 ⟨rfl, j8, hw8⟩; have hb8 : Below w7.heap.size w7 w8 := (by rw [hw8]; exact below_drewN (Below.refl _ _) j8); have HB8 := Lib.hid hb8; clear hw8 hb8)
      have r0 := (HB8.out.cell (p := ⟨w1.heap.size, 0, none⟩) (lt_of_cell k0)).trans k0
      have r1 := (HB8.out.cell (p := ⟨w1.heap.size, 1, none⟩) (lt_of_cell k0)).trans k1
      have HBF8 := Lib.hid (HBF7.out.below HB8.out)
      have HR8 := Lib.hid (HR7.out.of_block (HB8.out.block q HR7.out.lt))
      have HBW8 := Lib.hid (HBW7.out.trans (HB8.out.mono HBW7.out.size))
      have hsz8 : w4.heap.size ≤ w8.heap.size := by have := HB8.out.size; omega
      clear k0 k1 HPR HPM7 HBF7 HR7
      go_upto_region 18 with (go_at_call 12; refine (refRecordSize_any (L : Int) w8).mono ?_; rintro e w9 ⟨rfl, rfl⟩; rw [hsL])
      have hdv : (Z : Int).tdiv 8 = ((Z / 8 : Nat) : Int) := by rw [Int.tdiv_eq_ediv_of_nonneg (by omega)]; omega
      have hdw : IntKind.i64.wrap ((Z / 8 : Nat) : Int) = ((Z / 8 : Nat) : Int) := IntWalk.i64_in _ (by omega)
      have HCB := HCA
      rw [← HN.out.1] at HCB
      have htn : IntKind.i64.wrap ((t : Int) + (N : Int)) = t + N := IntWalk.i64_in _ (by omega)
      rcases HCB.out with ⟨hc1, hc2, hc3⟩ | ⟨hc1, hc2, hc3, hc4⟩ | ⟨hc1, hc2, hc3, hc4⟩
      · rw [HX.out] at hc2
        injection hc2 with hx1 hx2
        subst hx1 hx2 hc3
        have hlg : ((Z / 8 : Nat) : Int) < L := by omega
        clear HCB HCA
        go_wp2
        go_roundw
        case rel => exact ⟨t, i + 1, _, u, _, rfl, by go_num, by omega, ht, ht8, HAL.out, HEQ.out, HBF8.out, HR8.out, HBW8.out, hsz8, r0, r1⟩
        case measure => simp [intOf]; omega
      · rw [HX.out] at hc3
        injection hc3 with hx1 hx2
        subst hx1 hx2 hc4
        have hlg : ¬ ((Z / 8 : Nat) : Int) < L := by omega
        have hfl : (Z : Int) < (t : Int) + N := by omega
        clear HCB HCA
        go_wp2
        go_roundw
        case rel => exact ⟨t, i + 1, _, u, _, rfl, by go_num, by omega, ht, ht8, HAL.out, HEQ.out, HBF8.out, HR8.out, HBW8.out, hsz8, r0, r1⟩
        case measure => simp [intOf]; omega
      · rw [HX.out] at hc3
        injection hc3 with hx1 hx2
        subst hx1 hx2
        have hlg : ¬ ((Z / 8 : Nat) : Int) < L := by omega
        have hfl : ¬ (Z : Int) < (t : Int) + N := by omega
        have HM : Hid (m' = alM m f Z L t) := Lib.hid hc4
        have hc2' : t + alN L ≤ Z := by rw [← HN.out.1]; exact hc2
        have HAL2 : Hid (Alone Z m' (t + N)) := Lib.hid (by rw [HM.out, HN.out.1]; exact alM_alone HIB.out hz64.2.1 HAL.out hc2')
        obtain ⟨V, hV, hVn⟩ : ∃ V : Nat, Hd.jn (8 + (L : Int)) 7 = (V : Int) ∧ (Hd.jn (8 + (L : Int)) 7).toNat = V := rp_cast _ (Hd.jn_bounds _ _).1
        have HVN := Lib.hid (And.intro hV hVn)
        have HBY8 := Lib.hid (HBY0.out.below HBW8.out)
        clear HCB HCA hVn hV
        clear hc4 hc1
        have HC2 := Lib.hid hc2
        clear hc2' hc2
        go_upto_region 21 with (fail)
        clear hlg hdv hdw
        go_upto_region 24 with (fail)
        clear hfl htn
        go_upto_region 26 with (fail)
        obtain ⟨l8, hl8⟩ : ∃ l8 : Int, l8 = 8 + (L : Int) := ⟨_, rfl⟩
        have h8L : IntKind.i64.wrap (8 + (L : Int)) = l8 := by rw [hl8]; exact IntWalk.i64_in _ (by omega)
        have hl80 : 8 ≤ l8 := by omega
        have hl81 : l8 ≤ 2008 := by omega
        have h8w : IntKind.i32.wrap l8 = l8 := (Hd.s32_wrap _).trans (Hd.s32_in _ (by omega) (by omega))
        have h8x : wrap32 l8 = l8 := by unfold wrap32; omega
        have HL8 := Lib.hid hl8
        clear hl8
        go_upto_region 27 with (go_at_call 13; refine (refRecord_any l8 7 _ (by omega) (by omega) (by decide) (by decide)).mono ?_; rintro e w9 ⟨rfl, hb9⟩; rw [HL8.out, HVN.out.1]; have HB9 := Lib.hid hb9; clear hb9)
        have k0 := (HB9.out.cell (p := ⟨w1.heap.size, 0, none⟩) (lt_of_cell r0)).trans r0
        have k1 := (HB9.out.cell (p := ⟨w1.heap.size, 1, none⟩) (lt_of_cell r0)).trans r1
        have HBF9 := Lib.hid (HBF8.out.below HB9.out)
        have HR9 := Lib.hid (HR8.out.of_block (HB9.out.block q HR8.out.lt))
        have HBW9 := Lib.hid (HBW8.out.trans (HB9.out.mono HBW8.out.size))
        have hsz9 : w4.heap.size ≤ w9.heap.size := by have := HB9.out.size; omega
        clear r0 r1 HBF8 HR8 HB9
        go_wp2_with fail
        go_loopw [92] (fun t92 wl => ∃ j : Nat, t92 = .int .i64 j ∧ j ≤ 8 ∧ PlainAt wl q Z (fun x => if t ≤ x ∧ x < t + j then Mb.byt V (x - t) else u x) ∧ Touch (Lone q) w9 wl) (fun t92 _ => 8 - (intOf t92).toNat)
        case atStart => exact ⟨0, rfl, by omega, HR9.out.congr fun x _ => by show Value.int .u8 ((u x : Nat) : Int) = Value.int .u8 (((if t ≤ x ∧ x < t + 0 then Mb.byt V (x - t) else u x : Nat)) : Int); rw [if_neg (by omega)], Touch.refl _ _⟩
        case round =>
          obtain ⟨j, rfl, hj, hrl, htl⟩ := hrel
          have HRL := Lib.hid hrl
          have HTL := Lib.hid htl
          clear hrl htl
          by_cases hjl : j < 8
          · have hj8 : (j : Int) < 8 := by omega
            have hj0 : (0 : Int) ≤ (t : Int) + j ∧ (t : Int) + j < Z := by have := HC2.out; exact ⟨by omega, by omega⟩
            have f0 := HRL.out.frozen (t + j)
            have c0 := HRL.out.cell (i := t + j) (by have := HC2.out; omega)
            have g1 : IntKind.i64.wrap ((t : Int) + (j : Int)) = t + j := IntWalk.i64_in _ (by omega)
            have g2 : IntKind.u64.wrap ((j : Nat) : Int) = (j : Int) := IntWalk.u64_in _ (by omega)
            have g3 : IntKind.u64.wrap (8 * (j : Int)) = 8 * j := IntWalk.u64_in _ (by omega)
            go_wp2
            go_roundw
            case rel =>
              refine ⟨j + 1, by go_num, by omega, (HRL.out.set (t + j) _).congr fun x _ => ?_, HTL.out.setCell (p := ⟨q, t + j, none⟩) rfl _⟩
              have hv : ((V : Int) / 2 ^ (8 * j) % 256) = ((Mb.byt V j : Nat) : Int) := by unfold Mb.byt; push_cast; rfl
              rw [hv]
              show (if x = t + j then Value.int .u8 ((Mb.byt V j : Nat) : Int) else Value.int .u8 (((if t ≤ x ∧ x < t + j then Mb.byt V (x - t) else u x : Nat)) : Int)) = Value.int .u8 (((if t ≤ x ∧ x < t + (j + 1) then Mb.byt V (x - t) else u x : Nat)) : Int)
              by_cases hxj : x = t + j
              · rw [if_pos hxj, if_pos (by omega), show x - t = j by omega]
              · rw [if_neg hxj]
                by_cases hx2 : t ≤ x ∧ x < t + j
                · rw [if_pos hx2, if_pos (by omega)]
                · rw [if_neg hx2, if_neg (by omega)]
            case measure => simp [intOf]; omega
          · obtain rfl : j = 8 := by omega
            have hc2 := HC2.out
            have htn : IntKind.i64.wrap ((t : Int) + (N : Int)) = t + N := IntWalk.i64_in _ (by omega)
            have ht8w : IntKind.i64.wrap ((t : Int) + 8) = t + 8 := IntWalk.i64_in _ (by omega)
            have ht80 : (0 : Int) ≤ (t : Int) + 8 := by omega
            have ht8z : (t : Int) + 8 ≤ Z := by omega
            have hqb : gb ≠ q ∧ hb ≠ q ∧ w1.heap.size ≠ q := ⟨by omega, by omega, by omega⟩
            rename World => wl
            have hBw : Below w.heap.size w wl := HTL.out.below HBW9.out HBW9.out.size fun k hk => by have e : k = q := hk; omega
            have HBYl := Lib.hid (HBY0.out.below hBw)
            have fin : ∀ (w10 : World) (u2 : Nat → Nat), PlainAt w10 q Z u2 → Touch (Lone q) wl w10 → (∀ j, j < Z → u2 j = Cy.lay (fun x => if t ≤ x ∧ x < t + 8 then Mb.byt V (x - t) else u x) f (t + 8) L j) →
                (∃ (t2 i2 : Nat) (m2 u3 : Nat → Nat) (c2 : Int), Value.int .i64 ((t : Int) + N) = .int .i64 t2 ∧ Value.int .i64 ((i : Int) + 1) = .int .i64 i2 ∧ i2 ≤ M ∧ t2 ≤ Z ∧ t2 % 8 = 0 ∧ Alone Z m2 t2 ∧ (∀ j, j < Z → m2 (16 + j) = u3 j) ∧ Buf w10 gb hb m2 128 c2 ∧ PlainAt w10 q Z u3 ∧ Below w.heap.size w w10 ∧ w4.heap.size ≤ w10.heap.size ∧ w10.cell? ⟨w1.heap.size, 0, none⟩ = some (.int .i64 16) ∧ w10.cell? ⟨w1.heap.size, 1, none⟩ = some (.int .i64 Z)) := by
              intro w10 u2 hr10 ht10 hu2
              have htt := HTL.out.trans ht10
              refine ⟨t + N, i + 1, m', u2, c7, by push_cast; rfl, by push_cast; rfl, by omega, hc2, by omega, HAL2.out, fun j hj => ?_, HBF9.out.of_blocks (htt.block gb HBF9.out.g_lt fun e => hqb.1 e) (htt.block hb HBF9.out.h_lt fun e => hqb.2.1 e), hr10, htt.below HBW9.out HBW9.out.size (fun k hk => by have e : k = q := hk; omega), by have := htt.size; omega, (htt.cell (p := ⟨w1.heap.size, 0, none⟩) (lt_of_cell k0) fun e => hqb.2.2 e).trans k0, (htt.cell (p := ⟨w1.heap.size, 1, none⟩) (lt_of_cell k0) fun e => hqb.2.2 e).trans k1⟩
              rw [hu2 j hj, HM.out, alM_at (by omega) hj]
              unfold alB Cy.lay
              rw [HVN.out.2]
              by_cases h1 : t ≤ j ∧ j < t + 8
              · rw [if_pos h1, if_neg (by omega)]
                show _ = (if t ≤ j ∧ j < t + 8 then Mb.byt V (j - t) else u j)
                rw [if_pos h1]
              · rw [if_neg h1]
                by_cases h2 : t + 8 ≤ j ∧ j < t + 8 + L
                · rw [if_pos h2, if_pos h2]
                · rw [if_neg h2, if_neg h2]
                  show m (16 + j) = (if t ≤ j ∧ j < t + 8 then Mb.byt V (j - t) else u j)
                  rw [if_neg h1]
                  exact HEQ.out j hj
            have HFIN := Lib.hid fin
            clear fin hBw k0 k1 hqb
            by_cases hte : t + 8 = Z
            · have hL0 : L = 0 := by omega
              obtain ⟨w10, hrun10, hr10, ht10⟩ := run_copy_bytes (off := 0) (dLen := 0) (dCap := 0) (f := f) HRL.out Ab L cb HBYl.out (by omega) (by omega) 3
              have HR10 := Lib.hid hr10
              have HT10 := Lib.hid ht10
              have hte2 : (t : Int) + 8 = Z := by omega
              have HU10 : Hid (∀ j, j < Z → Cy.lay (fun x => if t ≤ x ∧ x < t + 8 then Mb.byt V (x - t) else u x) f 0 L j = Cy.lay (fun x => if t ≤ x ∧ x < t + 8 then Mb.byt V (x - t) else u x) f (t + 8) L j) := Lib.hid fun j hj => by rw [hL0, Cy.lay_zero, Cy.lay_zero]
              clear hr10 ht10 hte hL0
              go_wp2
              go_roundw
              case rel => exact HFIN.out w10 _ HR10.out HT10.out HU10.out
              case measure => simp [intOf]; omega
            · have hte2 : ¬ (t : Int) + 8 = Z := by omega
              obtain ⟨w10, hrun10, hr10, ht10⟩ := run_copy_bytes (off := t + 8) (dLen := Z - (t + 8)) (dCap := Z - (t + 8)) (f := f) HRL.out Ab L cb HBYl.out (by omega) (by omega) 3
              have HR10 := Lib.hid hr10
              have HT10 := Lib.hid ht10
              clear hr10 ht10
              clear hte
              go_wp2
              go_roundw
              case rel => exact HFIN.out w10 _ HR10.out HT10.out fun _ _ => rfl
              case measure => simp [intOf]; omega
    · have hge : (M : Int) ≤ i := by omega
      have hzc : (16 : Int) + Z ≤ 1024 := by omega
      have hz16 : (16 : Int) ≤ 16 + Z := by omega
      have hzw : IntKind.i64.wrap (16 + (Z : Int)) = 16 + Z := IntWalk.i64_in _ (by omega)
      have HE : Hid (Mb.bl m 16 Z = Mb.bl u 0 Z) := Lib.hid (by
        unfold Mb.bl
        refine List.map_congr_left fun j hj => ?_
        rw [Nat.zero_add, HEQ.out j (List.mem_range.1 hj)])
      have hcvo : (convert 30 9 (.slice (some ⟨q, 0, none⟩) Z Z)).run Tryz.prog wr.drew = .ok (.string (strOfNums (Mb.bl u 0 Z))) wr.drew := by
        have hrd : PlainAt wr.drew q Z u := HRW.out.of_block ((Below.refl wr.heap.size wr).drew.block q HRW.out.lt)
        exact (hrd.part 0 Z Z (by omega)).conv
      go_upto_region 35 with (fail)
      refine wp_region_noPanic ?_
      refine wp_region_held_drew (S := fun w' => w'.cell? ⟨w1.heap.size, 1, none⟩ = some (.int .i64 Z) ∧ (convert 30 9 (.slice (some ⟨q, 0, none⟩) Z Z)).run Tryz.prog w' = .ok (.string (strOfNums (Mb.bl u 0 Z))) w') (by kernel_rfl) ?_ (fun hHeld => ?_)
      · (try dsimp only); go_keep
      refine wpAnyH_take (i := 0) (oi := _) (v := ?_) rfl (by kernel_rfl) (by kernel_rfl) (by kernel_rfl) (fun _ _ _ h => h) (Or.inl ⟨by rfl, ?_⟩) (by assumption) ?_
      rotate_left
      · (intro w hSw; (try dsimp only at hSw); go_simp; try (with_reducible rfl))
      try simp only [Act.put, Array.reduceGetElem, List.setIfInBounds_toArray, List.set_cons_zero, List.set_cons_succ]
      refine wpAnyH_take (i := 1) (oi := _) (v := ?_) rfl (by kernel_rfl) (by kernel_rfl) (by kernel_rfl) (fun _ _ _ h => h) (Or.inl ⟨by rfl, ?_⟩) (by assumption) ?_
      rotate_left
      · (intro w hSw; (try dsimp only at hSw); go_simp; try (with_reducible rfl))
      try simp only [Act.put, Array.reduceGetElem, List.setIfInBounds_toArray, List.set_cons_zero, List.set_cons_succ]
      refine wpAnyH_take (i := 2) (oi := _) (v := ?_) rfl (by kernel_rfl) (by kernel_rfl) (by kernel_rfl) (fun _ _ _ h => h) (Or.inl ⟨by rfl, ?_⟩) (by assumption) ?_
      rotate_left
      · (intro w hSw; (try dsimp only at hSw); go_simp; try (with_reducible rfl))
      try simp only [Act.put, Array.reduceGetElem, List.setIfInBounds_toArray, List.set_cons_zero, List.set_cons_succ]
      refine wpAnyH_take (i := 3) (oi := _) (v := ?_) rfl (by kernel_rfl) (by kernel_rfl) (by kernel_rfl) (fun _ _ _ h => h) (Or.inl ⟨by rfl, ?_⟩) (by assumption) ?_
      rotate_left
      · (intro w hSw; (try dsimp only at hSw); go_simp; try (with_reducible rfl))
      try simp only [Act.put, Array.reduceGetElem, List.setIfInBounds_toArray, List.set_cons_zero, List.set_cons_succ]
      refine wpAnyH_take (i := 5) (oi := _) (v := ?_) rfl (by kernel_rfl) (by kernel_rfl) (by kernel_rfl) (fun _ _ _ h => h) (Or.inl ⟨by rfl, ?_⟩) (by assumption) ?_
      rotate_left
      · (intro w hSw; (try dsimp only at hSw); go_simp; try (with_reducible rfl))
      try simp only [Act.put, Array.reduceGetElem, List.setIfInBounds_toArray, List.set_cons_zero, List.set_cons_succ]
      refine wpAnyH_take (i := 6) (oi := _) (v := ?_) rfl (by kernel_rfl) (by kernel_rfl) (by kernel_rfl) (fun _ _ _ h => h) (Or.inl ⟨by rfl, ?_⟩) (by assumption) ?_
      rotate_left
      · (intro w hSw; (try dsimp only at hSw); go_simp; try (with_reducible rfl))
      try simp only [Act.put, Array.reduceGetElem, List.setIfInBounds_toArray, List.set_cons_zero, List.set_cons_succ]
      refine wpAnyH_take (i := 7) (oi := _) (v := ?_) rfl (by kernel_rfl) (by kernel_rfl) (by kernel_rfl) (fun _ _ _ h => h) (Or.inl ⟨by rfl, ?_⟩) (by assumption) ?_
      rotate_left
      · (intro w hSw; (try dsimp only at hSw); go_simp; try (with_reducible rfl))
      try simp only [Act.put, Array.reduceGetElem, List.setIfInBounds_toArray, List.set_cons_zero, List.set_cons_succ]
      refine wpAnyH_take (i := 10) (oi := _) (v := ?_) rfl (by kernel_rfl) (by kernel_rfl) (by kernel_rfl) (fun _ _ _ h => h) (Or.inl ⟨by rfl, ?_⟩) (by assumption) ?_
      rotate_left
      · (intro w hSw; (try dsimp only at hSw); go_simp; try (with_reducible rfl))
      try simp only [Act.put, Array.reduceGetElem, List.setIfInBounds_toArray, List.set_cons_zero, List.set_cons_succ]
      refine wpAnyH_take (i := 11) (oi := _) (v := ?_) rfl (by kernel_rfl) (by kernel_rfl) (by kernel_rfl) (fun _ _ _ h => h) (Or.inl ⟨by rfl, ?_⟩) (by assumption) ?_
      rotate_left
      · (intro w hSw; (try dsimp only at hSw); go_simp; try (with_reducible rfl))
      try simp only [Act.put, Array.reduceGetElem, List.setIfInBounds_toArray, List.set_cons_zero, List.set_cons_succ]
      refine wpAnyH_ready (rs := [4]) (by kernel_rfl) (by simp) ?_
      refine AllReadyH.cons (o := _) rfl (fun K9 hK => ?_) ?_
      rotate_left
      · exact AllReadyH.nil
      go_simp
      go_at_call 14
      refine (allBytes_own (HBF.out.below (Below.refl _ _).drew)).mono ?_
      rintro e w40 ⟨b40, c40, rfl, hc40, hc41, hby40, hb40⟩
      have hb41 := below_drew hb40
      have k1 := (hb41.cell (p := ⟨w1.heap.size, 1, none⟩) (lt_of_cell r1)).trans r1
      have hrd40 : PlainAt w40 q Z u := HRW.out.of_block (hb41.block q HRW.out.lt)
      have kc : (convert 30 9 (.slice (some ⟨q, 0, none⟩) Z Z)).run Tryz.prog w40 = .ok (.string (strOfNums (Mb.bl u 0 Z))) w40 := (hrd40.part 0 Z Z (by omega)).conv
      have hcut := (hby40.cut 16 Z (c40 - 16) (by rw [Mb.bl_length]; omega)).conv
      rw [cut_from m 0 16 Z 1024 (by omega), HE.out] at hcut
      have kd : (convert 30 9 (.slice (some ⟨b40, 16, none⟩) Z (c40 - 16))).run Tryz.prog w40 = .ok (.string (strOfNums (Mb.bl u 0 Z))) w40 := hcut
      have hcz : (16 : Int) + Z ≤ c40 := by omega
      have hcne : ¬ c40 = 16 := by omega
      have hzn : (16 + (Z : Int)).toNat - 16 = Z := by omega
      have HB41 := Lib.hid hb41
      clear hb40 hb41 hby40 hcvo hcut hrd40
      refine hK.out _ _ ?_ (fun hHeld => ?_)
      · (try dsimp only); go_keep
      clear hK K9
      try simp only [Act.put, Array.reduceGetElem, List.setIfInBounds_toArray, List.set_cons_zero, List.set_cons_succ]
      refine wpAnyH_ready (rs := [8]) (by kernel_rfl) (by simp) ?_
      refine AllReadyH.cons (o := _) rfl (fun K9 hK => ?_) ?_
      rotate_left
      · exact AllReadyH.nil
      go_simp
      refine hK.out _ _ ?_ (fun hHeld => ?_)
      · (try dsimp only); go_keep
      clear hK K9
      try simp only [Act.put, Array.reduceGetElem, List.setIfInBounds_toArray, List.set_cons_zero, List.set_cons_succ]
      refine wpAnyH_ready (rs := [9]) (by kernel_rfl) (by simp) ?_
      refine AllReadyH.cons (o := _) rfl (fun K9 hK => ?_) ?_
      rotate_left
      · exact AllReadyH.nil
      go_simp
      refine hK.out _ _ ?_ (fun hHeld => ?_)
      · (try dsimp only); go_keep
      clear hK K9
      try simp only [Act.put, Array.reduceGetElem, List.setIfInBounds_toArray, List.set_cons_zero, List.set_cons_succ]
      refine wpAnyH_take (i := 12) (oi := _) (v := ?_) rfl (by kernel_rfl) (by kernel_rfl) (by kernel_rfl) (fun _ _ _ h => h) (Or.inl ⟨by rfl, ?_⟩) (by assumption) ?_
      rotate_left
      · (intro w hSw; (try dsimp only at hSw); go_simp; try (with_reducible rfl))
      try simp only [Act.put, Array.reduceGetElem, List.setIfInBounds_toArray, List.set_cons_zero, List.set_cons_succ]
      refine wpAnyH_take (i := 13) (oi := _) (v := ?_) rfl (by kernel_rfl) (by kernel_rfl) (by kernel_rfl) (fun _ _ _ h => h) (Or.inl ⟨by rfl, ?_⟩) (by assumption) ?_
      rotate_left
      · (intro w hSw; (try dsimp only at hSw); go_simp; try (with_reducible rfl))
      try simp only [Act.put, Array.reduceGetElem, List.setIfInBounds_toArray, List.set_cons_zero, List.set_cons_succ]
      refine wpAnyH_take (i := 14) (oi := _) (v := ?_) rfl (by kernel_rfl) (by kernel_rfl) (by kernel_rfl) (fun _ _ _ h => h) (Or.inl ⟨by rfl, ?_⟩) (by assumption) ?_
      rotate_left
      · (intro w hSw; (try dsimp only at hSw); go_simp; try (with_reducible rfl))
      try simp only [Act.put, Array.reduceGetElem, List.setIfInBounds_toArray, List.set_cons_zero, List.set_cons_succ]
      refine wpAnyH_done (by kernel_rfl) ?_ _
      refine NoPanic.normal ?_
      go_wp2
      go_ret
      exact ⟨by simp, HBW.out.trans (HB41.out.mono HBW.out.size)⟩
end Go.Proofs.YtbfgbnalnjdheaaGreat
namespace Go.Proofs.YtbfgbnalnjdheaaGreat
open Go.RowKit

set_option maxRecDepth 100000 in
set_option maxHeartbeats 2000000 in
theorem ringputAlone_out (bq : Int) (A : Option Addr) (M cap : Nat) (w : World) (h : 40 < M) :
    Calls Tryz.prog 3 #[.int .u8 bq, .slice A M cap] w (TrueBelow w) := by
  have h2' : (40 : Int) < M := by omega
  clear h
  go_enter Tryz.func3, Tryz.ntmps3
  go_wp2_with fail
  refine (fixed7_any w).mono ?_
  rintro e w1 ⟨rfl, hq1⟩
  go_wp2_with fail
  go_ret
  exact ⟨rfl, hq1⟩

theorem ringputAlone_any (bq : Int) (hb0 : 0 ≤ bq) (A : Option Addr) (M cap : Nat) (R : Nat → Bl) (w : World) (hR : BlsAt w A M R) :
    Calls Tryz.prog 3 #[.int .u8 bq, .slice A M cap] w (TrueBelow w) := by
  by_cases h : 40 < M
  · exact ringputAlone_out bq A M cap w h
  · obtain ⟨b, rfl⟩ := Int.eq_ofNat_of_zero_le hb0
    have h3 : b % 4 = 0 ∨ b % 4 = 1 ∨ b % 4 = 2 ∨ b % 4 = 3 := by omega
    rcases h3 with e | e | e | e
    · exact ringputAlone_main b A M cap R w hR (by omega) 64 (.inl rfl) (by rw [e]; unfold wrap64; omega)
    · exact ringputAlone_main b A M cap R w hR (by omega) 128 (.inr (.inl rfl)) (by rw [e]; unfold wrap64; omega)
    · exact ringputAlone_main b A M cap R w hR (by omega) 256 (.inr (.inr (.inl rfl))) (by rw [e]; unfold wrap64; omega)
    · exact ringputAlone_main b A M cap R w hR (by omega) 512 (.inr (.inr (.inr rfl))) (by rw [e]; unfold wrap64; omega)
end Go.Proofs.YtbfgbnalnjdheaaGreat
namespace Go.Proofs.YtbfgbnalnjdheaaGreat
open Go.ChangeShapes Go.WideShapes Go.ChangeAt Go.RowKit

set_option maxRecDepth 100000 in
theorem ringputAlone_lifted (os : Os) (started : os.Started) (H : Type) (enc : TypeId × Value → H) :
    ReturnsInHanded {} Tryz.checked os 3 .any (Rows.ringputAloneSpec.pre6 enc Tryz.prog Tryz.f3 Rows.ringputAloneRow.domain false) (Rows.ringputAloneSpec.post enc Tryz.prog Tryz.f3 false true false false) := by
  refine returnsInHanded_of_change (C := Tryz.checked) own started (by kernel_rfl) Tryz.func3
    (ChangeSpec.witness6 (enc := enc) (C := Tryz.checked) false ⟨#[], #[.int .u8 0, .slice none 0 0], []⟩ 8 (by kernel_rfl) (by kernel_rfl) (by kernel_rfl) (by kernel_rfl)) ?_
  intro W base args ds gs before hval0 hW _ _
  have hval : ∀ (j : Nat) t v, Tryz.f3.params[j]? = some t → args[j]? = some v → Value.okWide Tryz.prog W .any base t v := hval0
  have hW' := hW
  obtain ⟨p, q, hA0, hV, rfl, hfz, hnd⟩ := hW
  have hA : DataW.TrodAll enc Tryz.prog W 0 (fun _ => true) true Tryz.f3.params.toList args.toList ds p := hA0
  rw [Tryz.params3] at hA hval
  obtain ⟨v0, v1, d0, d1, p0, p1, rfl, rfl, rfl, h0, h1⟩ := trodAll_two hA
  obtain ⟨rfl, rfl⟩ := trodVars_none hV
  obtain ⟨a0, rfl, rfl, rfl, wa0⟩ := open_int Tryz.underlying5 (hval 0 5 v0 rfl rfl) h0
  have k0 := bounds_u8 wa0
  obtain ⟨A1, L1, cap1, R1, rfl, hR1, hl1, hc1⟩ := open_rows (hval 1 22 v1 rfl rfl) h1
  clear hA0 hval0
  exact (ringputAlone_any a0 k0.1 A1 L1 cap1 R1 W hR1).mono fun e W' ⟨he, hbel⟩ => ⟨_, he, law_post laidOut (by kernel_rfl) rfl Tryz.underlying4 rfl hW' rfl hbel⟩

theorem ringputAlone_row : Rows.RingputAloneSaid :=
  OpenClaim.holds_of_wide 3 Tryz.f3 rfl rfl rfl rfl rfl rfl rfl ⟨rfl, rfl, rfl, rfl, rfl⟩ rfl rfl rfl rfl rfl (by kernel_rfl) Tryz.func3 (by kernel_rfl)
    (of_decide_eq_true (by kernel_rfl)) (by unfold Func.isWrapper; first | (rw [if_pos (by decide +kernel)]; kernel_rfl) | (rw [if_neg (by decide +kernel)]; exact ⟨rfl, rfl⟩))
    (fun os started H enc _ => ringputAlone_lifted os started H enc)

theorem ringputAlone_holds : Rows.RingputAloneSaid := ringputAlone_row
end Go.Proofs.YtbfgbnalnjdheaaGreat
