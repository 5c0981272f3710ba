/-
  The plain answer to what four words tell of a frame (layer 3), walked.
-/
import Derived.Test.YtbkabjdbohhjeaaHeadRefWords
import Derived.StillTailTactics
namespace Go.Proofs.Ytbkabjdbohhjeaa
open Go.RowKit

theorem refBytes_8 (v : Int) (w : World) (hv : 0 ≤ v) (hv1 : v ≤ 18446744073709551615) :
    Calls Try.prog 22 #[.int .u64 v, .int .i64 8] w fun e w' => ∃ x, e = .returned x ∧ Owns w.heap.size w' x (Wd.bs v 8) ∧ Below w.heap.size w w' :=
  refBytes_own v 8 w hv hv1 (by omega)

/-- A region that draws, of which all but the last operations read or call what leaves the world as it is. -/
theorem region_still {P : Program} {id : Nat} {Q : Exit → Act → World → Prop} {a : Act} {w : World} {l : List Oper} (n : Nat) (hm : P.follows .mixedOrders = true) (hB : Region.lexTailB .any l.toArray n = true)
    (h : wpStill P l.toArray w.drew (fun a' => wpList P l.toArray Q (l.drop n) a' w.drew) (l.take n) a) : (Code.region id l.toArray true).wp P Q a w := wp_region_still_tail n hm hB h

theorem flip_ {P : Program} {f : FuncId} {args : Array Value} {w : World} {v : Value} (h : Calls P f args w fun e w' => e = .returned v ∧ w = w') :
    Calls P f args w fun e w' => e = .returned v ∧ w' = w := h.mono fun _ _ ⟨he, hw⟩ => ⟨he, hw.symm⟩

/-- signed, over four of thirty-two bytes. -/
theorem signed_at {w : World} {g cap : Nat} {x0 x1 x2 x3 : Int} (h : BytesAt w (.slice (some ⟨g, 0, none⟩) 32 cap) (Hd.wb x0 x1 x2 x3)) (lo c : Nat) (hlo : lo + 4 ≤ 32) (x : Int)
    (hx : ((Hd.wb x0 x1 x2 x3).drop lo).take 4 = Wd.bs x 4) :
    Calls Try.prog 23 #[.slice (some ⟨g, lo, none⟩) 4 c] w fun e w' => e = .returned (.int .i32 (Hd.s32 x)) ∧ w' = w := by
  have hl := Hd.wb_length x0 x1 x2 x3
  have hc := h.cut lo 4 c (by omega)
  rw [Nat.zero_add] at hc
  have hs := signed_any _ _ w (Wd.take_bytes (Wd.drop_bytes (Hd.wb_in x0 x1 x2 x3) lo) 4) (by rw [List.length_take, List.length_drop]; omega) hc
  rw [hx, Hd.s32_low] at hs
  exact flip_ hs

set_option maxHeartbeats 2000000 in
theorem refFrame_any (x0 x1 x2 x3 : Int) (w : World) (a0 : 0 ≤ x0) (a1 : x0 ≤ 18446744073709551615) (b0 : 0 ≤ x1) (b1 : x1 ≤ 18446744073709551615) (c0 : 0 ≤ x2) (c1 : x2 ≤ 18446744073709551615)
    (d0 : 0 ≤ x3) (d1 : x3 ≤ 18446744073709551615) :
    Calls Try.prog 14 #[.agg #[.int .u64 x0, .int .u64 x1, .int .u64 x2, .int .u64 x3]] w (Made (frOf x0 x1 x2 x3) w) := by
  have B0 := Lib.hid (fun w => refBytes_8 x0 w a0 a1)
  have B1 := Lib.hid (fun w => refBytes_8 x1 w b0 b1)
  have B2 := Lib.hid (fun w => refBytes_8 x2 w c0 c1)
  have B3 := Lib.hid (fun w => refBytes_8 x3 w d0 d1)
  have HW := ((Below.refl w.heap.size w).alloc (Nat.le_refl _) (.cells #[.int .u64 x0, .int .u64 x1, .int .u64 x2, .int .u64 x3] 31)).alloc (by simp) (.cells #[.int .i32 0, .int .u8 0, .int .u8 0, .int .u16 0, .int .i32 0, .int .i32 0, .int .i32 0, .int .i32 0, .int .u64 0] 30)
  have HR : FrAt (w.heap.size + 1) 0 0 0 0 0 0 0 0 0 ((w.alloc (.cells #[.int .u64 x0, .int .u64 x1, .int .u64 x2, .int .u64 x3] 31)).alloc (.cells #[.int .i32 0, .int .u8 0, .int .u8 0, .int .u16 0, .int .i32 0, .int .i32 0, .int .i32 0, .int .i32 0, .int .u64 0] 30)) := by simpa using FrAt.made (w.alloc (.cells #[.int .u64 x0, .int .u64 x1, .int .u64 x2, .int .u64 x3] 31)) 0 0 0 0 0 0 0 0 0
  have HZ : Free (w.heap.size + 1) 9 ((w.alloc (.cells #[.int .u64 x0, .int .u64 x1, .int .u64 x2, .int .u64 x3] 31)).alloc (.cells #[.int .i32 0, .int .u8 0, .int .u8 0, .int .u16 0, .int .i32 0, .int .i32 0, .int .i32 0, .int .i32 0, .int .u64 0] 30)) := ⟨_, _, by simpa using Go.Deep.blk_alloc_new (w.alloc (.cells #[.int .u64 x0, .int .u64 x1, .int .u64 x2, .int .u64 x3] 31)) (.cells #[.int .i32 0, .int .u8 0, .int .u8 0, .int .u16 0, .int .i32 0, .int .i32 0, .int .i32 0, .int .i32 0, .int .u64 0] 30), rfl⟩
  have hsz : ((w.alloc (.cells #[.int .u64 x0, .int .u64 x1, .int .u64 x2, .int .u64 x3] 31)).alloc (.cells #[.int .i32 0, .int .u8 0, .int .u8 0, .int .u16 0, .int .i32 0, .int .i32 0, .int .i32 0, .int .i32 0, .int .u64 0] 30)).heap.size = w.heap.size + 2 := by simp
  clear a0 a1 b0 b1 c0 c1
  have i0 : ∀ w : World, (Instr.index 31 (.agg #[.int .u64 x0, .int .u64 x1, .int .u64 x2, .int .u64 x3]) (.int .i64 0)).run Try.prog w = .ok (.int .u64 x0) w := fun _ => by kernel_rfl
  have i1 : ∀ w : World, (Instr.index 31 (.agg #[.int .u64 x0, .int .u64 x1, .int .u64 x2, .int .u64 x3]) (.int .i64 1)).run Try.prog w = .ok (.int .u64 x1) w := fun _ => by kernel_rfl
  have i2 : ∀ w : World, (Instr.index 31 (.agg #[.int .u64 x0, .int .u64 x1, .int .u64 x2, .int .u64 x3]) (.int .i64 2)).run Try.prog w = .ok (.int .u64 x2) w := fun _ => by kernel_rfl
  have i3 : ∀ w : World, (Instr.index 31 (.agg #[.int .u64 x0, .int .u64 x1, .int .u64 x2, .int .u64 x3]) (.int .i64 3)).run Try.prog w = .ok (.int .u64 x3) w := fun _ => by kernel_rfl
  go_enter Try.func14, Try.ntmps14
  go_wp2_with fail
  generalize (w.alloc (.cells #[.int .u64 x0, .int .u64 x1, .int .u64 x2, .int .u64 x3] 31)).alloc (.cells #[.int .i32 0, .int .u8 0, .int .u8 0, .int .u16 0, .int .i32 0, .int .i32 0, .int .i32 0, .int .i32 0, .int .u64 0] 30) = W at HR HZ HW hsz ⊢
  have V0 : Owns W.heap.size W (.slice none 0 0) [] := World.ownsRow_nil _ _ _ _
  have H0 := Below.refl W.heap.size W
  refine wp_loop_rounds 5 ?_
  rw [rounds_succ]
  go_wp2_with (first
    | (go_at_call 22; with_reducible refine (B0.out _).mono ?_; rintro e u0 ⟨y0, rfl, hy, hb⟩; have hv0 := V0.below hb; have hy0 := hy.bytes; have HX0 := H0.trans (hb.mono H0.size); clear hy hb)
    | (at_builtin; refine wpList_app rfl _ _ rfl W.heap.size _ _ _ _ rfl rfl hv0 hy0 (by simp [Wd.bs_length]) (by simp [Wd.bs_length]) HX0.size ?_; intro p1 w1 V1 hb hk; clear hk; have H1 := HX0.trans hb; clear hb hv0 hy0 HX0))
  clear V0 H0
  rw [rounds_succ]
  go_wp2_with (first
    | (go_at_call 22; with_reducible refine (B1.out _).mono ?_; rintro e u1 ⟨y1, rfl, hy, hb⟩; have hv1 := V1.below hb; have hy1 := hy.bytes; have HX1 := H1.trans (hb.mono H1.size); clear hy hb)
    | (at_builtin; refine wpList_app rfl _ _ rfl W.heap.size _ _ _ _ rfl rfl hv1 hy1 (by simp [Wd.bs_length]) (by simp [Wd.bs_length]) HX1.size ?_; intro p2 w2 V2 hb hk; clear hk; have H2 := HX1.trans hb; clear hb hv1 hy1 HX1))
  clear V1 H1
  rw [rounds_succ]
  go_wp2_with (first
    | (go_at_call 22; with_reducible refine (B2.out _).mono ?_; rintro e u2 ⟨y2, rfl, hy, hb⟩; have hv2 := V2.below hb; have hy2 := hy.bytes; have HX2 := H2.trans (hb.mono H2.size); clear hy hb)
    | (at_builtin; refine wpList_app rfl _ _ rfl W.heap.size _ _ _ _ rfl rfl hv2 hy2 (by simp [Wd.bs_length]) (by simp [Wd.bs_length]) HX2.size ?_; intro p3 w3 V3 hb hk; clear hk; have H3 := HX2.trans hb; clear hb hv2 hy2 HX2))
  clear V2 H2
  rw [rounds_succ]
  go_wp2_with (first
    | (go_at_call 22; with_reducible refine (B3.out _).mono ?_; rintro e u3 ⟨y3, rfl, hy, hb⟩; have hv3 := V3.below hb; have hy3 := hy.bytes; have HX3 := H3.trans (hb.mono H3.size); clear hy hb)
    | (at_builtin; refine wpList_app rfl _ _ rfl W.heap.size _ _ _ _ rfl rfl hv3 hy3 (by simp [Wd.bs_length]) (by simp [Wd.bs_length]) HX3.size ?_; intro p4 w4 V4 hb hk; clear hk; have H4 := HX3.trans hb; clear hb hv3 hy3 HX3))
  clear V3 H3
  rw [rounds_succ]
  go_wp2_with fail
  rw [List.nil_append] at V4
  have hx0 := V4.bytes
  obtain ⟨g, cap, rfl, hn, hm, _, hgl, hc⟩ := V4.form (by rw [show Wd.bs x0 8 ++ Wd.bs x1 8 ++ Wd.bs x2 8 ++ Wd.bs x3 8 = Hd.wb x0 x1 x2 x3 from rfl, Hd.wb_length]; decide)
  rw [show Wd.bs x0 8 ++ Wd.bs x1 8 ++ Wd.bs x2 8 ++ Wd.bs x3 8 = Hd.wb x0 x1 x2 x3 from rfl] at hx0 hn hc
  rw [show (Wd.bs x0 8 ++ Wd.bs x1 8 ++ Wd.bs x2 8 ++ Wd.bs x3 8).length = 32 from Hd.wb_length x0 x1 x2 x3]
  rw [Hd.wb_length] at hx0 hn hc
  have hx : BytesAt w4.drew (.slice (some ⟨g, 0, none⟩) 32 cap) (Hd.wb x0 x1 x2 x3) := hx0
  have H5 : Below W.heap.size W w4.drew := H4.drew
  have k4 : w4.drew.cell? ⟨g, 4, none⟩ = some (.int .u8 (x0 / 4294967296 % 256)) := by rw [← Hd.wb_4 x0 x1 x2 x3]; exact hc 4 (by omega)
  have k5 : w4.drew.cell? ⟨g, 5, none⟩ = some (.int .u8 (x0 / 1099511627776 % 256)) := by rw [← Hd.wb_5 x0 x1 x2 x3]; exact hc 5 (by omega)
  have k6 : w4.drew.cell? ⟨g, 6, none⟩ = some (.int .u8 (x0 / 281474976710656 % 256)) := by rw [← Hd.wb_6 x0 x1 x2 x3]; exact hc 6 (by omega)
  have k7 : w4.drew.cell? ⟨g, 7, none⟩ = some (.int .u8 (x0 / 72057594037927936 % 256)) := by rw [← Hd.wb_7 x0 x1 x2 x3]; exact hc 7 (by omega)
  have hc4 : (4 : Int) ≤ (cap : Int) := by omega
  have hc8 : (8 : Int) ≤ (cap : Int) := by omega
  have hc12 : (12 : Int) ≤ (cap : Int) := by omega
  have hc16 : (16 : Int) ≤ (cap : Int) := by omega
  have hc20 : (20 : Int) ≤ (cap : Int) := by omega
  have hc24 : (24 : Int) ≤ (cap : Int) := by omega
  have hc32 : (32 : Int) ≤ (cap : Int) := by omega
  have hn0 : ¬ cap = 0 := by omega
  have hn4 : ¬ cap = 4 := by omega
  have hn8 : ¬ cap = 8 := by omega
  have hn12 : ¬ cap = 12 := by omega
  have hn16 : ¬ cap = 16 := by omega
  have hn20 : ¬ cap = 20 := by omega
  have hn24 : ¬ cap = 24 := by omega
  have hcap2 : (cap : Int) ≤ 9223372036854775807 := by unfold maxLen at hm; omega
  clear hc V4 hx0 H4 hm hn hgl
  refine region_still 35 (by kernel_rfl) (by kernel_rfl) ?_
  simp only [List.take_succ_cons, List.take_zero, List.drop_succ_cons, List.drop_zero]
  generalize w4.drew = w5 at hx H5 k4 k5 k6 k7 ⊢
  have S0 := fun c => signed_at hx 0 c (by omega) _ (Hd.wb_a0 x0 x1 x2 x3)
  have S1 := fun c => signed_at hx 8 c (by omega) _ (Hd.wb_b0 x0 x1 x2 x3)
  have S2 := fun c => signed_at hx 12 c (by omega) _ (Hd.wb_b1 x0 x1 x2 x3)
  have S3 := fun c => signed_at hx 16 c (by omega) _ (Hd.wb_c0 x0 x1 x2 x3)
  have S4 := fun c => signed_at hx 20 c (by omega) _ (Hd.wb_c1 x0 x1 x2 x3)
  have S5 := fun c => word_at hx (Hd.wb_in _ _ _ _) (Hd.wb_length _ _ _ _) 24 c (by omega) _ ((congrArg Wd.num (Hd.wb_3 x0 x1 x2 x3)).trans (Wd.num_bs8 _ d0 (by omega)))
  have S5 := Lib.hid (fun c => flip_ (S5 c))
  have S0 := Lib.hid S0
  have S1 := Lib.hid S1
  have S2 := Lib.hid S2
  have S3 := Lib.hid S3
  have S4 := Lib.hid S4
  repeat still_step
  still_call (S0.out _)
  repeat still_step
  still_call (S1.out _)
  repeat still_step
  still_call (S2.out _)
  repeat still_step
  still_call (S3.out _)
  repeat still_step
  still_call (S4.out _)
  repeat still_step
  still_call (S5.out _)
  repeat still_step
  refine wpStill_nil ?_
  obtain ⟨e0, e1, e2, e3, e4, e5, e6, e7, e8⟩ := HR.below H5 (by omega)
  have HZ2 := HZ.below H5 (by omega)
  have y0 := HZ2.frozen 0
  have y1 := HZ2.frozen 1
  have y2 := HZ2.frozen 2
  have y3 := HZ2.frozen 3
  have y4 := HZ2.frozen 4
  have y5 := HZ2.frozen 5
  have y6 := HZ2.frozen 6
  have y7 := HZ2.frozen 7
  have y8 := HZ2.frozen 8
  have HW5 := HW.trans (H5.mono HW.size)
  clear i0 i1 i2 i3 k4 k5 k6 k7 B0 B1 B2 B3 S0 S1 S2 S3 S4 S5
  go_wp2
  refine bodyPost_ret (v := frOf x0 x1 x2 x3) ?_ rfl ?_
  · simp [results, Try.results14, go_sem, frOf, e0, e1, e2, e3, e4, e5, e6, e7, e8]
    have hu := Hd.u16_two x0
    omega
  · refine ⟨rfl, ?_⟩
    repeat (with_reducible refine Below.setCell ?_ (Nat.le_succ _) _)
    exact HW5
end Go.Proofs.Ytbkabjdbohhjeaa
