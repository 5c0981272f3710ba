/-
  The plain answer to a frame's header's words (layer 3), walked.
-/
import Derived.Test.YtbkabjdbohhjeaaHeadRefBytes
import Derived.LoopN
namespace Go.Proofs.Ytbkabjdbohhjeaa
open Go.RowKit

/-- Number, over eight of thirty-two bytes. -/
theorem word_at {w : World} {g cap : Nat} {xs : List Int} (h : BytesAt w (.slice (some ⟨g, 0, none⟩) 32 cap) xs) (h8 : Wd.Bytes8 xs) (hl : xs.length = 32) (lo c : Nat) (hlo : lo + 8 ≤ 32) (x : Int)
    (hx : Wd.num ((xs.drop lo).take 8) = x) : Calls Try.prog 24 #[.slice (some ⟨g, lo, none⟩) 8 c] w fun e w' => e = .returned (.int .u64 x) ∧ w = w' := by
  have hc := h.cut lo 8 c (by omega)
  rw [Nat.zero_add] at hc
  have hn := refNumber_any _ _ w (Wd.take_bytes (Wd.drop_bytes h8 lo) 8) hc
  rw [List.take_of_length_le (l := (xs.drop lo).take 8) (by rw [List.length_take]; omega), hx] at hn
  exact hn

theorem frBytes_wb (l v f t o s m r z : Int) (w : World) (v0 : 0 ≤ v) (v1 : v ≤ 255) (f0 : 0 ≤ f) (f1 : f ≤ 255) (t0 : 0 ≤ t) (t1 : t ≤ 65535) (z0 : 0 ≤ z) (z1 : z ≤ 18446744073709551615) :
    Calls Try.prog 27 #[.agg #[.int .i32 l, .int .u8 v, .int .u8 f, .int .u16 t, .int .i32 o, .int .i32 s, .int .i32 m, .int .i32 r, .int .u64 z]] w fun e w' => ∃ g cap, e = .returned (.slice (some ⟨g, 0, none⟩) 32 cap) ∧ 32 ≤ cap ∧ cap ≤ maxLen ∧
      BytesAt w' (.slice (some ⟨g, 0, none⟩) 32 cap) (Hd.wb (Hd.fw l v f t) (Hd.jn o s) (Hd.jn m r) z) ∧ Below w.heap.size w w' := by
  refine (frBytes_any l v f t o s m r z w t0 t1 z0 z1).mono ?_
  rintro e w' ⟨x, rfl, hx, hb⟩
  rw [Hd.fb_wb l v f t o s m r z v0 v1 f0 f1 t0 t1] at hx
  have ha := hx.bytes
  obtain ⟨g, cap, rfl, hn, hm, _⟩ := hx.form (by rw [Hd.wb_length]; decide)
  rw [Hd.wb_length] at ha hn ⊢
  exact ⟨g, cap, rfl, hn, hm, ha, hb⟩

set_option maxHeartbeats 2000000 in
theorem refWords_any (l v f t o s m r z : Int) (w : World) (v0 : 0 ≤ v) (v1 : v ≤ 255) (f0 : 0 ≤ f) (f1 : f ≤ 255) (t0 : 0 ≤ t) (t1 : t ≤ 65535) (z0 : 0 ≤ z) (z1 : z ≤ 18446744073709551615) :
    Calls Try.prog 13 #[.agg #[.int .i32 l, .int .u8 v, .int .u8 f, .int .u16 t, .int .i32 o, .int .i32 s, .int .i32 m, .int .i32 r, .int .u64 z]] w (Made (.agg #[.int .u64 (Hd.fw l v f t), .int .u64 (Hd.jn o s), .int .u64 (Hd.jn m r), .int .u64 z]) w) := by
  have HC := Lib.hid (fun w => frBytes_wb l v f t o s m r z w v0 v1 f0 f1 t0 t1 z0 z1)
  have b1 := Hd.fw_bounds l v f t v0 v1 f0 f1 t0 t1
  have b2 := Hd.jn_bounds o s
  have b3 := Hd.jn_bounds m r
  have HN0 := Lib.hid ((congrArg Wd.num (Hd.wb_0 (Hd.fw l v f t) (Hd.jn o s) (Hd.jn m r) z)).trans (Wd.num_bs8 _ b1.1 b1.2))
  have HN1 := Lib.hid ((congrArg Wd.num (Hd.wb_1 (Hd.fw l v f t) (Hd.jn o s) (Hd.jn m r) z)).trans (Wd.num_bs8 _ b2.1 b2.2))
  have HN2 := Lib.hid ((congrArg Wd.num (Hd.wb_2 (Hd.fw l v f t) (Hd.jn o s) (Hd.jn m r) z)).trans (Wd.num_bs8 _ b3.1 b3.2))
  have HN3 := Lib.hid ((congrArg Wd.num (Hd.wb_3 (Hd.fw l v f t) (Hd.jn o s) (Hd.jn m r) z)).trans (Wd.num_bs8 _ z0 (by omega)))
  clear b1 b2 b3 v0 v1 f0 f1 t0 t1 z0 z1
  have HR := WdAt.made (w.alloc (.cells #[.int .i32 l, .int .u8 v, .int .u8 f, .int .u16 t, .int .i32 o, .int .i32 s, .int .i32 m, .int .i32 r, .int .u64 z] 30)) 0 0 0 0
  have HZ : Free (w.heap.size + 1) 4 ((w.alloc (.cells #[.int .i32 l, .int .u8 v, .int .u8 f, .int .u16 t, .int .i32 o, .int .i32 s, .int .i32 m, .int .i32 r, .int .u64 z] 30)).alloc (.cells #[.int .u64 0, .int .u64 0, .int .u64 0, .int .u64 0] 31)) := ⟨_, _, by simpa using Go.Deep.blk_alloc_new (w.alloc (.cells #[.int .i32 l, .int .u8 v, .int .u8 f, .int .u16 t, .int .i32 o, .int .i32 s, .int .i32 m, .int .i32 r, .int .u64 z] 30)) (.cells #[.int .u64 0, .int .u64 0, .int .u64 0, .int .u64 0] 31), rfl⟩
  have HW := ((Below.refl w.heap.size w).alloc (Nat.le_refl _) (.cells #[.int .i32 l, .int .u8 v, .int .u8 f, .int .u16 t, .int .i32 o, .int .i32 s, .int .i32 m, .int .i32 r, .int .u64 z] 30)).alloc (by simp) (.cells #[.int .u64 0, .int .u64 0, .int .u64 0, .int .u64 0] 31)
  have hsz : ((w.alloc (.cells #[.int .i32 l, .int .u8 v, .int .u8 f, .int .u16 t, .int .i32 o, .int .i32 s, .int .i32 m, .int .i32 r, .int .u64 z] 30)).alloc (.cells #[.int .u64 0, .int .u64 0, .int .u64 0, .int .u64 0] 31)).heap.size = w.heap.size + 2 := by simp
  rw [show (w.alloc (.cells #[.int .i32 l, .int .u8 v, .int .u8 f, .int .u16 t, .int .i32 o, .int .i32 s, .int .i32 m, .int .i32 r, .int .u64 z] 30)).heap.size = w.heap.size + 1 by simp] at HR
  go_enter Try.func13, Try.ntmps13
  go_wp2_with fail
  generalize (w.alloc (.cells #[.int .i32 l, .int .u8 v, .int .u8 f, .int .u16 t, .int .i32 o, .int .i32 s, .int .i32 m, .int .i32 r, .int .u64 z] 30)).alloc (.cells #[.int .u64 0, .int .u64 0, .int .u64 0, .int .u64 0] 31) = W at HR HZ HW hsz ⊢
  refine (HC.out _).mono ?_
  rintro e w2 ⟨g, cap, rfl, hn, hm, hx, hb⟩
  have hcap : (32 : Int) ≤ (cap : Int) := by omega
  have hcap2 : (cap : Int) ≤ 9223372036854775807 := by unfold maxLen at hm; omega
  obtain ⟨a0, a1, a2, a3⟩ := HR.below hb (by omega)
  have HZ2 := HZ.below hb (by omega)
  have y0 := HZ2.frozen 0
  have y1 := HZ2.frozen 1
  have y2 := HZ2.frozen 2
  have y3 := HZ2.frozen 3
  have HW2 := HW.trans (hb.mono HW.size)
  have hsz2 : w.heap.size + 1 < w2.heap.size := by have := hb.size; omega
  have N0 := Lib.hid (fun o c => word_at (hx.alloc o) (Hd.wb_in _ _ _ _) (Hd.wb_length _ _ _ _) 0 c (by omega) _ HN0.out)
  have N1 := Lib.hid (fun o c => word_at (hx.alloc o) (Hd.wb_in _ _ _ _) (Hd.wb_length _ _ _ _) 8 c (by omega) _ HN1.out)
  have N2 := Lib.hid (fun o c => word_at (hx.alloc o) (Hd.wb_in _ _ _ _) (Hd.wb_length _ _ _ _) 16 c (by omega) _ HN2.out)
  have N3 := Lib.hid (fun o c => word_at (hx.alloc o) (Hd.wb_in _ _ _ _) (Hd.wb_length _ _ _ _) 24 c (by omega) _ HN3.out)
  have HX := Lib.hid hx
  clear hx HN0 HN1 HN2 HN3 hn hm HC HR HZ HW hb HZ2
  go_wp2_with fail
  refine wp_loop_rounds 5 ?_
  rw [rounds_succ]
  go_wp2_with ((go_at_call 24; with_reducible refine (N0.out _ _).mono ?_; rintro e w' ⟨rfl, rfl⟩))
  rw [rounds_succ]
  go_wp2_with ((go_at_call 24; with_reducible refine (N1.out _ _).mono ?_; rintro e w' ⟨rfl, rfl⟩))
  rw [rounds_succ]
  go_wp2_with ((go_at_call 24; with_reducible refine (N2.out _ _).mono ?_; rintro e w' ⟨rfl, rfl⟩))
  rw [rounds_succ]
  go_wp2_with ((go_at_call 24; with_reducible refine (N3.out _ _).mono ?_; rintro e w' ⟨rfl, rfl⟩))
  rw [rounds_succ]
  go_wp2_with fail
  have HW3 : Below w.heap.size w ((((w2.setCell ⟨w.heap.size + 1, 0, none⟩ (.int .u64 (Hd.fw l v f t))).setCell ⟨w.heap.size + 1, 1, none⟩ (.int .u64 (Hd.jn o s))).setCell ⟨w.heap.size + 1, 2, none⟩ (.int .u64 (Hd.jn m r))).setCell ⟨w.heap.size + 1, 3, none⟩ (.int .u64 z)) :=
    (((HW2.setCell (Nat.le_succ _) _).setCell (Nat.le_succ _) _).setCell (Nat.le_succ _) _).setCell (Nat.le_succ _) _
  have s0 : ((((w2.setCell ⟨w.heap.size + 1, 0, none⟩ (.int .u64 (Hd.fw l v f t))).setCell ⟨w.heap.size + 1, 1, none⟩ (.int .u64 (Hd.jn o s))).setCell ⟨w.heap.size + 1, 2, none⟩ (.int .u64 (Hd.jn m r))).setCell ⟨w.heap.size + 1, 3, none⟩ (.int .u64 z)).cell? ⟨w.heap.size + 1, 0, none⟩ = some (.int .u64 (Hd.fw l v f t)) := by go_simp
  have s1 : ((((w2.setCell ⟨w.heap.size + 1, 0, none⟩ (.int .u64 (Hd.fw l v f t))).setCell ⟨w.heap.size + 1, 1, none⟩ (.int .u64 (Hd.jn o s))).setCell ⟨w.heap.size + 1, 2, none⟩ (.int .u64 (Hd.jn m r))).setCell ⟨w.heap.size + 1, 3, none⟩ (.int .u64 z)).cell? ⟨w.heap.size + 1, 1, none⟩ = some (.int .u64 (Hd.jn o s)) := by go_simp
  have s2 : ((((w2.setCell ⟨w.heap.size + 1, 0, none⟩ (.int .u64 (Hd.fw l v f t))).setCell ⟨w.heap.size + 1, 1, none⟩ (.int .u64 (Hd.jn o s))).setCell ⟨w.heap.size + 1, 2, none⟩ (.int .u64 (Hd.jn m r))).setCell ⟨w.heap.size + 1, 3, none⟩ (.int .u64 z)).cell? ⟨w.heap.size + 1, 2, none⟩ = some (.int .u64 (Hd.jn m r)) := by go_simp
  have s3 : ((((w2.setCell ⟨w.heap.size + 1, 0, none⟩ (.int .u64 (Hd.fw l v f t))).setCell ⟨w.heap.size + 1, 1, none⟩ (.int .u64 (Hd.jn o s))).setCell ⟨w.heap.size + 1, 2, none⟩ (.int .u64 (Hd.jn m r))).setCell ⟨w.heap.size + 1, 3, none⟩ (.int .u64 z)).cell? ⟨w.heap.size + 1, 3, none⟩ = some (.int .u64 z) := by go_simp
  generalize ((((w2.setCell ⟨w.heap.size + 1, 0, none⟩ (.int .u64 (Hd.fw l v f t))).setCell ⟨w.heap.size + 1, 1, none⟩ (.int .u64 (Hd.jn o s))).setCell ⟨w.heap.size + 1, 2, none⟩ (.int .u64 (Hd.jn m r))).setCell ⟨w.heap.size + 1, 3, none⟩ (.int .u64 z)) = W3 at HW3 s0 s1 s2 s3 ⊢
  refine bodyPost_ret (v := .agg #[.int .u64 (Hd.fw l v f t), .int .u64 (Hd.jn o s), .int .u64 (Hd.jn m r), .int .u64 z]) ?_ rfl ?_
  · simp [results, Try.results13, go_sem, World.cell?_alloc_some, s0, s1, s2, s3]
  · exact ⟨rfl, HW3.alloc HW3.size _⟩
end Go.Proofs.Ytbkabjdbohhjeaa
