/-
  Layer 3's frames, walked: first, Words, Frame.
-/
import Derived.Test.YtbkabjdbohhjeaaHeadRef
import Derived.Deep.RegionHeld3
namespace Go.Proofs.Ytbkabjdbohhjeaa
open Go.RowKit

/-- A call that answered v, and left alone what was there. -/
def Made (v : Value) (w : World) (e : Ending) (w' : World) : Prop := e = .returned v ∧ Below w.heap.size w w'

/-- A frame by value, boxed in block b. -/
structure FrAt (b : Nat) (l v f t o s m r z : Int) (W : World) : Prop where
  c0 : W.cell? ⟨b, 0, none⟩ = some (.int .i32 l)
  c1 : W.cell? ⟨b, 1, none⟩ = some (.int .u8 v)
  c2 : W.cell? ⟨b, 2, none⟩ = some (.int .u8 f)
  c3 : W.cell? ⟨b, 3, none⟩ = some (.int .u16 t)
  c4 : W.cell? ⟨b, 4, none⟩ = some (.int .i32 o)
  c5 : W.cell? ⟨b, 5, none⟩ = some (.int .i32 s)
  c6 : W.cell? ⟨b, 6, none⟩ = some (.int .i32 m)
  c7 : W.cell? ⟨b, 7, none⟩ = some (.int .i32 r)
  c8 : W.cell? ⟨b, 8, none⟩ = some (.int .u64 z)

/-- Four words, boxed in block b. -/
structure WdAt (b : Nat) (x0 x1 x2 x3 : Int) (W : World) : Prop where
  c0 : W.cell? ⟨b, 0, none⟩ = some (.int .u64 x0)
  c1 : W.cell? ⟨b, 1, none⟩ = some (.int .u64 x1)
  c2 : W.cell? ⟨b, 2, none⟩ = some (.int .u64 x2)
  c3 : W.cell? ⟨b, 3, none⟩ = some (.int .u64 x3)

theorem below_drew {w w' : World} (h : Below w.drew.heap.size w.drew w') : Below w.heap.size w w' := ((Below.refl w.heap.size w).drew).trans h

theorem below_drew_alloc {w w' : World} {o : Obj} (h : Below (w.drew.alloc o).heap.size (w.drew.alloc o) w') : Below w.heap.size w w' :=
  ((Below.refl w.heap.size w).drew.alloc (Nat.le_refl _) o).trans (h.mono (by simp))

theorem FrAt.of_cells {b : Nat} {l v f t o s m r z : Int} {W W' : World} (h : FrAt b l v f t o s m r z W) (k : ∀ i, W'.cell? ⟨b, i, none⟩ = W.cell? ⟨b, i, none⟩) : FrAt b l v f t o s m r z W' :=
  ⟨(k 0).trans h.c0, (k 1).trans h.c1, (k 2).trans h.c2, (k 3).trans h.c3, (k 4).trans h.c4, (k 5).trans h.c5, (k 6).trans h.c6, (k 7).trans h.c7, (k 8).trans h.c8⟩
theorem FrAt.below {b B : Nat} {l v f t o s m r z : Int} {W W' : World} (h : FrAt b l v f t o s m r z W) (hb : Below B W W') (hB : b < B) : FrAt b l v f t o s m r z W' :=
  h.of_cells fun i => hb.cell (p := ⟨b, i, none⟩) hB
theorem WdAt.of_cells {b : Nat} {x0 x1 x2 x3 : Int} {W W' : World} (h : WdAt b x0 x1 x2 x3 W) (k : ∀ i, W'.cell? ⟨b, i, none⟩ = W.cell? ⟨b, i, none⟩) : WdAt b x0 x1 x2 x3 W' :=
  ⟨(k 0).trans h.c0, (k 1).trans h.c1, (k 2).trans h.c2, (k 3).trans h.c3⟩
theorem WdAt.below {b B : Nat} {x0 x1 x2 x3 : Int} {W W' : World} (h : WdAt b x0 x1 x2 x3 W) (hb : Below B W W') (hB : b < B) : WdAt b x0 x1 x2 x3 W' :=
  h.of_cells fun i => hb.cell (p := ⟨b, i, none⟩) hB

theorem FrAt.made (w : World) (l v f t o s m r z : Int) :
    FrAt w.heap.size l v f t o s m r z (w.alloc (.cells #[.int .i32 l, .int .u8 v, .int .u8 f, .int .u16 t, .int .i32 o, .int .i32 s, .int .i32 m, .int .i32 r, .int .u64 z] 30)) := by
  refine ⟨?_, ?_, ?_, ?_, ?_, ?_, ?_, ?_, ?_⟩ <;> go_simp
theorem WdAt.made (w : World) (x0 x1 x2 x3 : Int) :
    WdAt w.heap.size x0 x1 x2 x3 (w.alloc (.cells #[.int .u64 x0, .int .u64 x1, .int .u64 x2, .int .u64 x3] 31)) := by
  refine ⟨?_, ?_, ?_, ?_⟩ <;> go_simp

set_option maxHeartbeats 400000 in
theorem first_any (l v f t o s m r z : Int) (w : World) (v0 : 0 ≤ v) (v1 : v ≤ 255) (f0 : 0 ≤ f) (f1 : f ≤ 255) (t0 : 0 ≤ t) (t1 : t ≤ 65535) :
    Calls Try.prog 26 #[.agg #[.int .i32 l, .int .u8 v, .int .u8 f, .int .u16 t, .int .i32 o, .int .i32 s, .int .i32 m, .int .i32 r, .int .u64 z]] w (Made (.int .u64 (Hd.fw l v f t)) w) := by
  have H := Lib.hid (Hd.fw_bits' l v f t v0 v1 f0 f1 t0 t1)
  go_enter Try.func26, Try.ntmps26
  go_wp2
  go_ret
  exact ⟨ret_k H.out.symm, (Below.refl _ _).alloc (Nat.le_refl _) _⟩

/-- A place for a frame, or for four words, in block b: it may be written. -/
structure Free (b n : Nat) (W : World) : Prop where
  blk : ∃ cs t, W.heap[b]? = some (.cells cs t (0, 0)) ∧ cs.size = n
theorem Free.frozen {b n : Nat} {W : World} (h : Free b n W) (i : Nat) : W.frozen? ⟨b, i, none⟩ = false := by
  obtain ⟨cs, t, hb, _⟩ := h.blk
  simp [World.frozen?, hb]
theorem Free.below {b n B : Nat} {W W' : World} (h : Free b n W) (hb : Below B W W') (hB : b < B) : Free b n W' := by
  obtain ⟨cs, t, hc, hn⟩ := h.blk
  exact ⟨cs, t, (hb.block b hB).trans hc, hn⟩

set_option maxHeartbeats 1000000 in
theorem words_any (l v f t o s m r z : Int) (w : World) (v0 : 0 ≤ v) (v1 : v ≤ 255) (f0 : 0 ≤ f) (f1 : f ≤ 255) (t0 : 0 ≤ t) (t1 : t ≤ 65535) :
    Calls Try.prog 11 #[.agg #[.int .i32 l, .int .u8 v, .int .u8 f, .int .u16 t, .int .i32 o, .int .i32 s, .int .i32 m, .int .i32 r, .int .u64 z]] w (Made (.agg #[.int .u64 (Hd.fw l v f t), .int .u64 (Hd.jn o s), .int .u64 (Hd.jn m r), .int .u64 z]) w) := by
  have HF := ((FrAt.made w l v f t o s m r z).below ((Below.refl _ _).alloc (Nat.le_refl _) (.cells #[.int .u64 0, .int .u64 0, .int .u64 0, .int .u64 0] 31)) (by simp))
  have HR := WdAt.made (w.alloc (.cells #[.int .i32 l, .int .u8 v, .int .u8 f, .int .u16 t, .int .i32 o, .int .i32 s, .int .i32 m, .int .i32 r, .int .u64 z] 30)) 0 0 0 0
  have HZ : Free (w.heap.size + 1) 4 ((w.alloc (.cells #[.int .i32 l, .int .u8 v, .int .u8 f, .int .u16 t, .int .i32 o, .int .i32 s, .int .i32 m, .int .i32 r, .int .u64 z] 30)).alloc (.cells #[.int .u64 0, .int .u64 0, .int .u64 0, .int .u64 0] 31)) := ⟨_, _, by simpa using Go.Deep.blk_alloc_new (w.alloc (.cells #[.int .i32 l, .int .u8 v, .int .u8 f, .int .u16 t, .int .i32 o, .int .i32 s, .int .i32 m, .int .i32 r, .int .u64 z] 30)) (.cells #[.int .u64 0, .int .u64 0, .int .u64 0, .int .u64 0] 31), rfl⟩
  have HW := ((Below.refl w.heap.size w).alloc (Nat.le_refl _) (.cells #[.int .i32 l, .int .u8 v, .int .u8 f, .int .u16 t, .int .i32 o, .int .i32 s, .int .i32 m, .int .i32 r, .int .u64 z] 30)).alloc (by simp) (.cells #[.int .u64 0, .int .u64 0, .int .u64 0, .int .u64 0] 31)
  have hsz : ((w.alloc (.cells #[.int .i32 l, .int .u8 v, .int .u8 f, .int .u16 t, .int .i32 o, .int .i32 s, .int .i32 m, .int .i32 r, .int .u64 z] 30)).alloc (.cells #[.int .u64 0, .int .u64 0, .int .u64 0, .int .u64 0] 31)).heap.size = w.heap.size + 2 := by simp
  rw [show (w.alloc (.cells #[.int .i32 l, .int .u8 v, .int .u8 f, .int .u16 t, .int .i32 o, .int .i32 s, .int .i32 m, .int .i32 r, .int .u64 z] 30)).heap.size = w.heap.size + 1 by simp] at HR
  have H1 := fun W => first_any l v f t o s m r z W v0 v1 f0 f1 t0 t1
  have HC := Lib.hid H1
  clear H1 v0 v1 f0 f1 t0 t1
  go_enter Try.func11, Try.ntmps11
  go_wp2
  generalize (w.alloc (.cells #[.int .i32 l, .int .u8 v, .int .u8 f, .int .u16 t, .int .i32 o, .int .i32 s, .int .i32 m, .int .i32 r, .int .u64 z] 30)).alloc (.cells #[.int .u64 0, .int .u64 0, .int .u64 0, .int .u64 0] 31) = W at HF HR HZ HW hsz ⊢
  obtain ⟨c0, c1, c2, c3, c4, c5, c6, c7, c8⟩ := HF
  go_region_held3 (fun w' => w'.cell? ⟨w.heap.size, 0, none⟩ = some (.int .i32 l) ∧ w'.cell? ⟨w.heap.size, 1, none⟩ = some (.int .u8 v) ∧ w'.cell? ⟨w.heap.size, 2, none⟩ = some (.int .u8 f) ∧ w'.cell? ⟨w.heap.size, 3, none⟩ = some (.int .u16 t) ∧ w'.cell? ⟨w.heap.size, 4, none⟩ = some (.int .i32 o) ∧ w'.cell? ⟨w.heap.size, 5, none⟩ = some (.int .i32 s) ∧ w'.cell? ⟨w.heap.size, 6, none⟩ = some (.int .i32 m) ∧ w'.cell? ⟨w.heap.size, 7, none⟩ = some (.int .i32 r) ∧ w'.cell? ⟨w.heap.size, 8, none⟩ = some (.int .u64 z))
    (go_keep)
    (first
      | (go_at_call 26; refine (HC.out _).mono ?_; rintro e w1 ⟨rfl, hb1⟩; have hb2 := below_drew hb1; clear hb1; have HF1 := (FrAt.mk c0 c1 c2 c3 c4 c5 c6 c7 c8).below hb2 (by omega); have HR1 := HR.below hb2 (by omega); have HZ1 := HZ.below hb2 (by omega); obtain ⟨k0, k1, k2, k3, k4, k5, k6, k7, k8⟩ := HF1; obtain ⟨a0, a1, a2, a3⟩ := HR1; have y0 := HZ1.frozen 0; have y1 := HZ1.frozen 1; have y2 := HZ1.frozen 2; have y3 := HZ1.frozen 3)
      | (go_at_call 20; refine (joined_any _ _ _).mono ?_; rintro e w' ⟨rfl, rfl⟩))
  go_wp2
  refine bodyPost_ret (v := .agg #[.int .u64 (Hd.fw l v f t), .int .u64 (Hd.jn o s), .int .u64 (Hd.jn m r), .int .u64 z]) ?_ rfl ?_
  · simp [results, Try.results11, go_sem, a0, a1, a2, a3]
  · refine ⟨rfl, ?_⟩
    have hb3 := HW.trans (hb2.mono HW.size)
    exact (((hb3.setCell (Nat.le_succ _) _).setCell (Nat.le_succ _) _).setCell (Nat.le_succ _) _).setCell (Nat.le_succ _) _

/-- The frame that four words tell. -/
def frOf (x0 x1 x2 x3 : Int) : Value := .agg #[.int .i32 (Hd.s32 x0), .int .u8 (x0 / 4294967296 % 256), .int .u8 (x0 / 1099511627776 % 256), .int .u16 (x0 / 281474976710656 % 65536), .int .i32 (Hd.s32 x1), .int .i32 (Hd.s32 (x1 / 4294967296)), .int .i32 (Hd.s32 x2), .int .i32 (Hd.s32 (x2 / 4294967296)), .int .u64 x3]

set_option maxHeartbeats 1000000 in
theorem frame_any (x0 x1 x2 x3 : Int) (w : World) :
    Calls Try.prog 12 #[.agg #[.int .u64 x0, .int .u64 x1, .int .u64 x2, .int .u64 x3]] w (Made (frOf x0 x1 x2 x3) w) := by
  go_enter Try.func12, Try.ntmps12
  go_wp2_with (go_at_call 21; refine (halves_any _ _).mono ?_; rintro e w' ⟨rfl, rfl⟩)
  refine bodyPost_ret (v := frOf x0 x1 x2 x3) ?_ rfl ?_
  · simp [results, Try.results12, go_sem, frOf, IntKind.wrap, IntKind.bits, IntKind.signed]
  · refine ⟨rfl, ?_⟩
    exact ((Below.refl w.heap.size w).alloc (Nat.le_refl _) _).alloc (by simp) _
end Go.Proofs.Ytbkabjdbohhjeaa
