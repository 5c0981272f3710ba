/-
  The statement on frames' headers (layer 3), walked: it answers true and leaves alone what was there.
-/
import Derived.Test.YtbkabjdbohhjeaaHeadRefFrame
import Derived.Test.YtbkabjdbohhjeaaHeadLaws
import Derived.ChangeKeysEq
namespace Go.Proofs.Ytbkabjdbohhjeaa
open Go.RowKit

/-- A frame in block a, words in block b, words in block c, a frame in block d. -/
def Box (a b c d : Nat) (l v f t o s m r z y0 y1 y2 y3 x0 x1 x2 x3 g0 g1 g2 g3 g4 g5 g6 g7 g8 : Int) (W : World) : Prop :=
  W.cell? ⟨a, 0, none⟩ = some (.int .i32 l) ∧ W.cell? ⟨a, 1, none⟩ = some (.int .u8 v) ∧ W.cell? ⟨a, 2, none⟩ = some (.int .u8 f) ∧ W.cell? ⟨a, 3, none⟩ = some (.int .u16 t) ∧ W.cell? ⟨a, 4, none⟩ = some (.int .i32 o) ∧ W.cell? ⟨a, 5, none⟩ = some (.int .i32 s) ∧ W.cell? ⟨a, 6, none⟩ = some (.int .i32 m) ∧ W.cell? ⟨a, 7, none⟩ = some (.int .i32 r) ∧ W.cell? ⟨a, 8, none⟩ = some (.int .u64 z) ∧ W.cell? ⟨b, 0, none⟩ = some (.int .u64 y0) ∧ W.cell? ⟨b, 1, none⟩ = some (.int .u64 y1) ∧ W.cell? ⟨b, 2, none⟩ = some (.int .u64 y2) ∧ W.cell? ⟨b, 3, none⟩ = some (.int .u64 y3) ∧ W.cell? ⟨c, 0, none⟩ = some (.int .u64 x0) ∧ W.cell? ⟨c, 1, none⟩ = some (.int .u64 x1) ∧ W.cell? ⟨c, 2, none⟩ = some (.int .u64 x2) ∧ W.cell? ⟨c, 3, none⟩ = some (.int .u64 x3) ∧ W.cell? ⟨d, 0, none⟩ = some (.int .i32 g0) ∧ W.cell? ⟨d, 1, none⟩ = some (.int .u8 g1) ∧ W.cell? ⟨d, 2, none⟩ = some (.int .u8 g2) ∧ W.cell? ⟨d, 3, none⟩ = some (.int .u16 g3) ∧ W.cell? ⟨d, 4, none⟩ = some (.int .i32 g4) ∧ W.cell? ⟨d, 5, none⟩ = some (.int .i32 g5) ∧ W.cell? ⟨d, 6, none⟩ = some (.int .i32 g6) ∧ W.cell? ⟨d, 7, none⟩ = some (.int .i32 g7) ∧ W.cell? ⟨d, 8, none⟩ = some (.int .u64 g8)

theorem Box.mk_ {a b c d : Nat} {l v f t o s m r z y0 y1 y2 y3 x0 x1 x2 x3 g0 g1 g2 g3 g4 g5 g6 g7 g8 : Int} {W : World} (ha : FrAt a l v f t o s m r z W) (hb : WdAt b y0 y1 y2 y3 W) (hc : WdAt c x0 x1 x2 x3 W)
    (hd : FrAt d g0 g1 g2 g3 g4 g5 g6 g7 g8 W) : Box a b c d l v f t o s m r z y0 y1 y2 y3 x0 x1 x2 x3 g0 g1 g2 g3 g4 g5 g6 g7 g8 W :=
  ⟨ha.c0, ha.c1, ha.c2, ha.c3, ha.c4, ha.c5, ha.c6, ha.c7, ha.c8, hb.c0, hb.c1, hb.c2, hb.c3, hc.c0, hc.c1, hc.c2, hc.c3, hd.c0, hd.c1, hd.c2, hd.c3, hd.c4, hd.c5, hd.c6, hd.c7, hd.c8⟩

theorem Box.below {B a b c d : Nat} {l v f t o s m r z y0 y1 y2 y3 x0 x1 x2 x3 g0 g1 g2 g3 g4 g5 g6 g7 g8 : Int} {W W' : World}
    (h : Box a b c d l v f t o s m r z y0 y1 y2 y3 x0 x1 x2 x3 g0 g1 g2 g3 g4 g5 g6 g7 g8 W) (hw : Below B W W') (ha : a < B) (hb : b < B) (hc : c < B) (hd : d < B) :
    Box a b c d l v f t o s m r z y0 y1 y2 y3 x0 x1 x2 x3 g0 g1 g2 g3 g4 g5 g6 g7 g8 W' := by
  obtain ⟨h0, h1, h2, h3, h4, h5, h6, h7, h8, h9, h10, h11, h12, h13, h14, h15, h16, h17, h18, h19, h20, h21, h22, h23, h24, h25⟩ := h
  exact .mk_ ((FrAt.mk h0 h1 h2 h3 h4 h5 h6 h7 h8).below hw ha) ((WdAt.mk h9 h10 h11 h12).below hw hb) ((WdAt.mk h13 h14 h15 h16).below hw hc) ((FrAt.mk h17 h18 h19 h20 h21 h22 h23 h24 h25).below hw hd)

theorem arr_self (a b c d : Int) (w : World) : (Op.equalIn 10000 31 (.agg #[.int .u64 a, .int .u64 b, .int .u64 c, .int .u64 d]) (.agg #[.int .u64 a, .int .u64 b, .int .u64 c, .int .u64 d])).run Try.prog w = .ok true w := by
  obtain ⟨i, hi, _⟩ := info_parts (show (Try.prog.info? 22).map (fun i => (i.zero, i.size, i.bytes)) = some (some (.int .u64 0), 1, 8) by kernel_rfl)
  have hc : Try.prog.cellsOf 22 = 1 := by kernel_rfl
  rw [run_equalIn_array w 9999 _ _ Try.underlying31 hi, hc]
  have hr : List.range 4 = [0, 1, 2, 3] := rfl
  rw [hr]
  simp [Op.eqItems, go_sem]

/-- What the words of a frame tell. -/
theorem frOf_back (l v f t o s m r z : Int) (l0 : -2147483648 ≤ l) (l1 : l ≤ 2147483647) (v0 : 0 ≤ v) (v1 : v ≤ 255) (f0 : 0 ≤ f) (f1 : f ≤ 255) (t0 : 0 ≤ t) (t1 : t ≤ 65535)
    (o0 : -2147483648 ≤ o) (o1 : o ≤ 2147483647) (s0 : -2147483648 ≤ s) (s1 : s ≤ 2147483647) (m0 : -2147483648 ≤ m) (m1 : m ≤ 2147483647) (r0 : -2147483648 ≤ r) (r1 : r ≤ 2147483647) :
    frOf (Hd.fw l v f t) (Hd.jn o s) (Hd.jn m r) z = .agg #[.int .i32 l, .int .u8 v, .int .u8 f, .int .u16 t, .int .i32 o, .int .i32 s, .int .i32 m, .int .i32 r, .int .u64 z] := by
  obtain ⟨e1, e2, e3⟩ := Hd.fw_tells l v f t v0 v1 f0 f1 t0 t1
  unfold frOf
  rw [Hd.fw_low l v f t l0 l1, e1, e2, e3, Hd.jn_low o s o0 o1, Hd.jn_high o s s0 s1, Hd.jn_low m r m0 m1, Hd.jn_high m r r0 r1]

set_option maxHeartbeats 2000000 in
theorem framesLaw_any (l v f t o s m r z y0 y1 y2 y3 : Int) (w : World) (l0 : -2147483648 ≤ l) (l1 : l ≤ 2147483647) (v0 : 0 ≤ v) (v1 : v ≤ 255) (f0 : 0 ≤ f) (f1 : f ≤ 255) (t0 : 0 ≤ t) (t1 : t ≤ 65535)
    (o0 : -2147483648 ≤ o) (o1 : o ≤ 2147483647) (s0 : -2147483648 ≤ s) (s1 : s ≤ 2147483647) (m0 : -2147483648 ≤ m) (m1 : m ≤ 2147483647) (r0 : -2147483648 ≤ r) (r1 : r ≤ 2147483647)
    (z0 : 0 ≤ z) (z1 : z ≤ 18446744073709551615) (a0 : 0 ≤ y0) (a1 : y0 ≤ 18446744073709551615) (b0 : 0 ≤ y1) (b1 : y1 ≤ 18446744073709551615) (c0 : 0 ≤ y2) (c1 : y2 ≤ 18446744073709551615)
    (d0 : 0 ≤ y3) (d1 : y3 ≤ 18446744073709551615) :
    Calls Try.prog 4 #[.agg #[.int .i32 l, .int .u8 v, .int .u8 f, .int .u16 t, .int .i32 o, .int .i32 s, .int .i32 m, .int .i32 r, .int .u64 z], .agg #[.int .u64 y0, .int .u64 y1, .int .u64 y2, .int .u64 y3]] w (TrueBelow w) := by
  have HB := Lib.hid (frOf_back l v f t o s m r z l0 l1 v0 v1 f0 f1 t0 t1 o0 o1 s0 s1 m0 m1 r0 r1)
  have HC1 := Lib.hid (fun W => words_any l v f t o s m r z W v0 v1 f0 f1 t0 t1)
  have HC2 := Lib.hid (fun W => refWords_any l v f t o s m r z W v0 v1 f0 f1 t0 t1 z0 z1)
  have HC3 := Lib.hid (fun W => refFrame_any y0 y1 y2 y3 W a0 a1 b0 b1 c0 c1 d0 d1)
  have HC4 := Lib.hid (fun W => words_any (Hd.s32 y0) (y0 / 4294967296 % 256) (y0 / 1099511627776 % 256) (y0 / 281474976710656 % 65536) (Hd.s32 y1) (Hd.s32 (y1 / 4294967296)) (Hd.s32 y2) (Hd.s32 (y2 / 4294967296)) y3 W (by omega) (by omega) (by omega) (by omega) (by omega) (by omega))
  have e1 := Lib.hid (Hd.fw_back y0 a0 (by omega))
  have e2 := Lib.hid (Hd.jn_back y1 b0 (by omega))
  have e3 := Lib.hid (Hd.jn_back y2 c0 (by omega))
  have HE := Lib.hid arr_self
  clear l0 l1 v0 v1 f0 f1 t0 t1 o0 o1 s0 s1 m0 m1 r0 r1 z0 z1 a0 a1 b0 b1 c0 c1 d0 d1
  have HF := (FrAt.made w l v f t o s m r z).below ((Below.refl _ _).alloc (Nat.le_refl _) (.cells #[.int .u64 y0, .int .u64 y1, .int .u64 y2, .int .u64 y3] 31)) (by simp)
  have HD : WdAt (w.heap.size + 1) y0 y1 y2 y3 ((w.alloc (.cells #[.int .i32 l, .int .u8 v, .int .u8 f, .int .u16 t, .int .i32 o, .int .i32 s, .int .i32 m, .int .i32 r, .int .u64 z] 30)).alloc (.cells #[.int .u64 y0, .int .u64 y1, .int .u64 y2, .int .u64 y3] 31)) := by simpa using WdAt.made (w.alloc (.cells #[.int .i32 l, .int .u8 v, .int .u8 f, .int .u16 t, .int .i32 o, .int .i32 s, .int .i32 m, .int .i32 r, .int .u64 z] 30)) y0 y1 y2 y3
  have HW := ((Below.refl w.heap.size w).alloc (Nat.le_refl _) (.cells #[.int .i32 l, .int .u8 v, .int .u8 f, .int .u16 t, .int .i32 o, .int .i32 s, .int .i32 m, .int .i32 r, .int .u64 z] 30)).alloc (by simp) (.cells #[.int .u64 y0, .int .u64 y1, .int .u64 y2, .int .u64 y3] 31)
  have hsz : ((w.alloc (.cells #[.int .i32 l, .int .u8 v, .int .u8 f, .int .u16 t, .int .i32 o, .int .i32 s, .int .i32 m, .int .i32 r, .int .u64 z] 30)).alloc (.cells #[.int .u64 y0, .int .u64 y1, .int .u64 y2, .int .u64 y3] 31)).heap.size = w.heap.size + 2 := by simp
  go_enter Try.func4, Try.ntmps4
  go_wp2_with fail
  generalize (w.alloc (.cells #[.int .i32 l, .int .u8 v, .int .u8 f, .int .u16 t, .int .i32 o, .int .i32 s, .int .i32 m, .int .i32 r, .int .u64 z] 30)).alloc (.cells #[.int .u64 y0, .int .u64 y1, .int .u64 y2, .int .u64 y3] 31) = W at HF HD HW hsz ⊢
  refine (fixed_any _).mono ?_
  rintro e w' ⟨rfl, rfl⟩
  have HF0 := Lib.hid HF
  have HD0 := Lib.hid HD
  obtain ⟨k0, k1, k2, k3, k4, k5, k6, k7, k8⟩ := HF
  go_wp2_with fail
  refine (HC1.out _).mono ?_
  rintro e w1 ⟨rfl, hb1⟩
  clear k0 k1 k2 k3 k4 k5 k6 k7 k8
  have HF1 := HF0.out.below hb1 (by omega)
  have HD1 := Lib.hid (HD0.out.below hb1 (by omega))
  have HW1 := HW.trans (hb1.mono HW.size)
  have hsz1 : w.heap.size + 1 < w1.heap.size := by have := hb1.size; omega
  obtain ⟨q0, q1, q2, q3⟩ := (HD1.out)
  go_wp2_with fail
  have HX := WdAt.made w1 (Hd.fw l v f t) (Hd.jn o s) (Hd.jn m r) z
  have hwx : Below w1.heap.size w1 (w1.alloc (.cells #[.int .u64 (Hd.fw l v f t), .int .u64 (Hd.jn o s), .int .u64 (Hd.jn m r), .int .u64 z] 31)) := (Below.refl _ _).alloc (Nat.le_refl _) _
  have hszx : (w1.alloc (.cells #[.int .u64 (Hd.fw l v f t), .int .u64 (Hd.jn o s), .int .u64 (Hd.jn m r), .int .u64 z] 31)).heap.size = w1.heap.size + 1 := by simp
  generalize w1.alloc (.cells #[.int .u64 (Hd.fw l v f t), .int .u64 (Hd.jn o s), .int .u64 (Hd.jn m r), .int .u64 z] 31) = U at HX hwx hszx ⊢
  refine (frame_any _ _ _ _ _).mono ?_
  rintro e w2 ⟨rfl, hb2⟩
  unfold frOf
  have HF2 := (HF1.below hwx (by omega)).below hb2 (by omega)
  have HD2 := ((HD1.out).below hwx (by omega)).below hb2 (by omega)
  have HX2 := HX.below hb2 (by omega)
  have HW2 := HW1.trans ((hwx.mono HW1.size).trans (hb2.mono (Nat.le_trans HW1.size hwx.size)))
  have hsz2 : w1.heap.size < w2.heap.size := by have := hb2.size; omega
  clear HF1 HD1 HX hwx hb1 hb2 HW1 q0 q1 q2 q3 HF0 HD0 HD
  go_wp2_with fail
  have hw3 : Below w2.heap.size w2 (w2.alloc (.cells #[.int .i32 (Hd.s32 y0), .int .u8 (y0 / 4294967296 % 256), .int .u8 (y0 / 1099511627776 % 256), .int .u16 (y0 / 281474976710656 % 65536), .int .i32 (Hd.s32 y1), .int .i32 (Hd.s32 (y1 / 4294967296)), .int .i32 (Hd.s32 y2), .int .i32 (Hd.s32 (y2 / 4294967296)), .int .u64 y3] 30)) := (Below.refl _ _).alloc (Nat.le_refl _) _
  have HB3 : Box w.heap.size (w.heap.size + 1) w1.heap.size w2.heap.size l v f t o s m r z y0 y1 y2 y3 (Hd.fw l v f t) (Hd.jn o s) (Hd.jn m r) z (Hd.s32 y0) (y0 / 4294967296 % 256) (y0 / 1099511627776 % 256) (y0 / 281474976710656 % 65536) (Hd.s32 y1) (Hd.s32 (y1 / 4294967296)) (Hd.s32 y2) (Hd.s32 (y2 / 4294967296)) y3 (w2.alloc (.cells #[.int .i32 (Hd.s32 y0), .int .u8 (y0 / 4294967296 % 256), .int .u8 (y0 / 1099511627776 % 256), .int .u16 (y0 / 281474976710656 % 65536), .int .i32 (Hd.s32 y1), .int .i32 (Hd.s32 (y1 / 4294967296)), .int .i32 (Hd.s32 y2), .int .i32 (Hd.s32 (y2 / 4294967296)), .int .u64 y3] 30)) :=
    .mk_ (HF2.below hw3 (by omega)) (HD2.below hw3 (by omega)) (HX2.below hw3 (by omega)) (FrAt.made w2 (Hd.s32 y0) (y0 / 4294967296 % 256) (y0 / 1099511627776 % 256) (y0 / 281474976710656 % 65536) (Hd.s32 y1) (Hd.s32 (y1 / 4294967296)) (Hd.s32 y2) (Hd.s32 (y2 / 4294967296)) y3)
  have hsz3 : (w2.alloc (.cells #[.int .i32 (Hd.s32 y0), .int .u8 (y0 / 4294967296 % 256), .int .u8 (y0 / 1099511627776 % 256), .int .u16 (y0 / 281474976710656 % 65536), .int .i32 (Hd.s32 y1), .int .i32 (Hd.s32 (y1 / 4294967296)), .int .i32 (Hd.s32 y2), .int .i32 (Hd.s32 (y2 / 4294967296)), .int .u64 y3] 30)).heap.size = w2.heap.size + 1 := by simp
  have HW3 := HW2.trans (hw3.mono HW2.size)
  clear HF2 HD2 HX2 hw3 HW2
  generalize w2.alloc (.cells #[.int .i32 (Hd.s32 y0), .int .u8 (y0 / 4294967296 % 256), .int .u8 (y0 / 1099511627776 % 256), .int .u16 (y0 / 281474976710656 % 65536), .int .i32 (Hd.s32 y1), .int .i32 (Hd.s32 (y1 / 4294967296)), .int .i32 (Hd.s32 y2), .int .i32 (Hd.s32 (y2 / 4294967296)), .int .u64 y3] 30) = W3 at HB3 hsz3 HW3 ⊢
  have arr := HE.out
  go_region_held3 (fun w' => w'.cell? ⟨w.heap.size, 0, none⟩ = some (.int .i32 l) ∧ w'.cell? ⟨w.heap.size, 1, none⟩ = some (.int .u8 v) ∧ w'.cell? ⟨w.heap.size, 2, none⟩ = some (.int .u8 f) ∧ w'.cell? ⟨w.heap.size, 3, none⟩ = some (.int .u16 t) ∧ w'.cell? ⟨w.heap.size, 4, none⟩ = some (.int .i32 o) ∧ w'.cell? ⟨w.heap.size, 5, none⟩ = some (.int .i32 s) ∧ w'.cell? ⟨w.heap.size, 6, none⟩ = some (.int .i32 m) ∧ w'.cell? ⟨w.heap.size, 7, none⟩ = some (.int .i32 r) ∧ w'.cell? ⟨w.heap.size, 8, none⟩ = some (.int .u64 z) ∧ w'.cell? ⟨w.heap.size + 1, 0, none⟩ = some (.int .u64 y0) ∧ w'.cell? ⟨w.heap.size + 1, 1, none⟩ = some (.int .u64 y1) ∧ w'.cell? ⟨w.heap.size + 1, 2, none⟩ = some (.int .u64 y2) ∧ w'.cell? ⟨w.heap.size + 1, 3, none⟩ = some (.int .u64 y3) ∧ w'.cell? ⟨w1.heap.size, 0, none⟩ = some (.int .u64 (Hd.fw l v f t)) ∧ w'.cell? ⟨w1.heap.size, 1, none⟩ = some (.int .u64 (Hd.jn o s)) ∧ w'.cell? ⟨w1.heap.size, 2, none⟩ = some (.int .u64 (Hd.jn m r)) ∧ w'.cell? ⟨w1.heap.size, 3, none⟩ = some (.int .u64 z) ∧ w'.cell? ⟨w2.heap.size, 0, none⟩ = some (.int .i32 (Hd.s32 y0)) ∧ w'.cell? ⟨w2.heap.size, 1, none⟩ = some (.int .u8 (y0 / 4294967296 % 256)) ∧ w'.cell? ⟨w2.heap.size, 2, none⟩ = some (.int .u8 (y0 / 1099511627776 % 256)) ∧ w'.cell? ⟨w2.heap.size, 3, none⟩ = some (.int .u16 (y0 / 281474976710656 % 65536)) ∧ w'.cell? ⟨w2.heap.size, 4, none⟩ = some (.int .i32 (Hd.s32 y1)) ∧ w'.cell? ⟨w2.heap.size, 5, none⟩ = some (.int .i32 (Hd.s32 (y1 / 4294967296))) ∧ w'.cell? ⟨w2.heap.size, 6, none⟩ = some (.int .i32 (Hd.s32 y2)) ∧ w'.cell? ⟨w2.heap.size, 7, none⟩ = some (.int .i32 (Hd.s32 (y2 / 4294967296))) ∧ w'.cell? ⟨w2.heap.size, 8, none⟩ = some (.int .u64 y3))
    (first | assumption | exact HB7 | exact HB6 | exact HB5 | exact HB4 | exact HB3 | go_keep)
    (first
      | (go_at_call 13; refine (HC2.out _).mono ?_; rintro e w4 ⟨rfl, hb4⟩; have hb4 := below_drew hb4; have HB4 := HB3.below hb4 (by omega) (by omega) (by omega) (by omega); have HW4 := HW3.trans (hb4.mono HW3.size); have hsz4 : w2.heap.size < w4.heap.size := by have := hb4.size; omega)
      | (go_at_call 12; refine (frame_any _ _ _ _ _).mono ?_; rintro e w5 ⟨rfl, hb5⟩; rw [HB.out]; have HB5 := HB4.below hb5 (by omega) (by omega) (by omega) (by omega); have HW5 := HW4.trans (hb5.mono HW4.size); have hsz5 : w2.heap.size < w5.heap.size := by have := hb5.size; omega)
      | (go_at_call 14; refine (HC3.out _).mono ?_; rintro e w6 ⟨rfl, hb6⟩; unfold frOf; have HB6 := HB5.below hb6 (by omega) (by omega) (by omega) (by omega); have HW6 := HW5.trans (hb6.mono HW5.size); have hsz6 : w2.heap.size < w6.heap.size := by have := hb6.size; omega)
      | (go_at_call 11; refine (HC4.out _).mono ?_; rintro e w7 ⟨rfl, hb7⟩; rw [e1.out, e2.out, e3.out]; have HB7 := HB6.below hb7 (by omega) (by omega) (by omega) (by omega); have HW7 := HW6.trans (hb7.mono HW6.size)))
  go_wp2
  go_ret
  exact ⟨rfl, HW7⟩
end Go.Proofs.Ytbkabjdbohhjeaa
