/-
  Layer 2's access by its kind, walked: loads, stores, compares, reads, writes.
-/
import Derived.Test.YtplomefkmgkdjaaMembufAdd
namespace Go.Proofs.Ytplomefkmgkdjaa
open Go.RowKit

/-- The place for an answer, in block b. -/
structure AnsAt (b : Nat) (W : World) : Prop where
  a0 : W.cell? ⟨b, 0, none⟩ = some (.int .u64 0)
  a1 : W.cell? ⟨b, 1, none⟩ = some (.bool false)
  a2 : W.cell? ⟨b, 2, none⟩ = some (.slice none 0 0)
  f0 : W.frozen? ⟨b, 0, none⟩ = false
  f1 : W.frozen? ⟨b, 1, none⟩ = false
  f2 : W.frozen? ⟨b, 2, none⟩ = false
  blk : W.heap[b]? = some (.cells #[.int .u64 0, .bool false, .slice none 0 0] 39 (0, 0))

theorem AnsAt.of_blk {b : Nat} {W : World} (hb : W.heap[b]? = some (.cells #[.int .u64 0, .bool false, .slice none 0 0] 39 (0, 0))) : AnsAt b W := by
  refine ⟨?_, ?_, ?_, ?_, ?_, ?_, hb⟩
  all_goals simp [World.cell?, World.frozen?, hb]

theorem ans_touch {w w1 : World} {o : Obj} {g h : Nat} (ht : Touch (Two g h) ((w.alloc o).alloc (.cells #[.int .u64 0, .bool false, .slice none 0 0] 39)) w1) (hg : g < w.heap.size) (hh : h < w.heap.size) : AnsAt (w.heap.size + 1) w1 := by
  have hn : ¬ Two g h (w.heap.size + 1) := fun e => by rcases e with e | e <;> omega
  have hk := ht.block (w.heap.size + 1) (by simp) hn
  have e : (w.alloc o).heap.size = w.heap.size + 1 := by simp
  have hb : w1.heap[w.heap.size + 1]? = some (.cells #[.int .u64 0, .bool false, .slice none 0 0] 39 (0, 0)) := by
    rw [hk, ← e]
    exact Go.Deep.blk_alloc_new _ _
  exact .of_blk hb

/-- An answer is stored: bytes that stand elsewhere stay. -/
theorem BytesAt.answer {W : World} {v : Value} {xs : List Int} {b : Nat} (hv : BytesAt W v xs) (ha : AnsAt b W) (x y z : Value) : BytesAt (((W.setCell ⟨b, 0, none⟩ x).setCell ⟨b, 1, none⟩ y).setCell ⟨b, 2, none⟩ z) v xs := by
  obtain ⟨A, cap, hv, h⟩ := hv
  refine ⟨A, cap, hv, fun hp => ?_⟩
  obtain ⟨d, off, h1, h3, h4⟩ := h hp
  have hne : d ≠ b := by
    intro e
    subst e
    have h5 := h4 0 hp
    simp only [World.cell?, ha.blk] at h5
    match off, h5 with
    | 0, h5 => simp at h5
    | 1, h5 => simp at h5
    | 2, h5 => simp at h5
    | k + 3, h5 => simp at h5
  refine ⟨d, off, h1, by simpa [World.setCell] using h3, fun i hi => ?_⟩
  rw [← h4 i hi]
  refine World.cell?_of_block ?_
  rw [Below.heap_setCell _ _ _ _ hne, Below.heap_setCell _ _ _ _ hne, Below.heap_setCell _ _ _ _ hne]

theorem boxes_touch (S : Nat → Prop) (w : World) (o p : Obj) : Touch S w ((w.alloc o).alloc p) := ((Touch.refl S w).alloc o).alloc p

set_option maxHeartbeats 1000000 in
theorem access_load {w : World} {g h n : Nat} {m : Nat → Nat} {c : Int} (B : Buf w g h m n c) (a k : Nat) (hk : a % 8 + k ≤ 8) (ha : a / 8 < n) (v u : Int) (s : Value) :
    Calls Try.prog 37 #[.pointer (some ⟨g, 0, none⟩), .agg #[.int .i64 1, .int .i64 a, .int .i64 k, .int .u64 v, .int .u64 u, s]] w
      (Answered (Mb.nm m a k) false [] g h m n c w) := by
  have hg := B.g_lt
  have hh := B.h_lt
  have HB := Lib.hid B
  clear B
  go_enter Try.func37, Try.ntmps37
  go_wp2_with (go_at_call 42; refine (load_any ((HB.out.alloc _).alloc _) a k hk ha).mono ?_; rintro e w' ⟨rfl, j, rfl⟩)
  refine bodyPost_ret (v := .agg #[.int .u64 (Mb.nm m a k : Nat), .bool false, .slice none 0 0]) ?_ rfl ?_
  · simp [results, Try.results37, go_sem]
  · refine ⟨_, rfl, BytesAt.nil _, ?_⟩
    have HST := Stored.mk_ (((HB.out.alloc (.cells #[.int .i64 1, .int .i64 a, .int .i64 k, .int .u64 v, .int .u64 u, s] 30)).alloc (.cells #[.int .u64 0, .bool false, .slice none 0 0] 39)).drewN j) ((boxes_touch (Two g h) w _ _).drewN j)
    exact ((HST.setNew hg hh (Nat.le_succ _) _).setNew hg hh (Nat.le_succ _) _).setNew hg hh (Nat.le_succ _) _

set_option maxHeartbeats 1000000 in
theorem access_store {w : World} {g h n : Nat} {m : Nat → Nat} {c : Int} (B : Buf w g h m n c) (a k v : Nat) (hk : a % 8 + k ≤ 8) (ha : a / 8 < n) (hv : v < 18446744073709551616) (u : Int) (s : Value) :
    Calls Try.prog 37 #[.pointer (some ⟨g, 0, none⟩), .agg #[.int .i64 2, .int .i64 a, .int .i64 k, .int .u64 v, .int .u64 u, s]] w
      (Answered 0 false [] g h (Mb.put m a k v) n c w) := by
  have hg := B.g_lt
  have hh := B.h_lt
  have HB := Lib.hid B
  clear B
  go_enter Try.func37, Try.ntmps37
  go_wp2_with (go_at_call 43; refine (store_any ((HB.out.alloc _).alloc _) a k v hk ha hv).mono ?_; rintro e w1 ⟨rfl, hst⟩; obtain ⟨a0, a1, a2, f0, f1, f2, _⟩ := ans_touch hst.2 hg hh; have HST0 := Lib.hid hst; clear hst)
  refine bodyPost_ret (v := .agg #[.int .u64 0, .bool false, .slice none 0 0]) ?_ rfl ?_
  · simp [results, Try.results37, go_sem, a0, a1, a2]
  · refine ⟨_, rfl, BytesAt.nil _, ?_⟩
    have HST := HST0.out.from_ (boxes_touch (Two g h) w _ _)
    exact ((HST.setNew hg hh (Nat.le_succ _) _).setNew hg hh (Nat.le_succ _) _).setNew hg hh (Nat.le_succ _) _

set_option maxHeartbeats 1000000 in
theorem access_write {w : World} {g h n : Nat} {m : Nat → Nat} {c : Int} (B : Buf w g h m n c) (a k : Nat) (hin : a + k ≤ 8 * n) (hk8 : k ≤ 8) (v u : Int) {f : Nat → Nat} (hf : Mb.IsB f) (A : Option Addr) (cap : Nat) (hcap : k ≤ cap) (hcap2 : cap ≤ 9223372036854775807)
    (hv : BytesAt w (.slice A k cap) (Mb.bl f 0 k)) (N : Int) :
    Calls Try.prog 37 #[.pointer (some ⟨g, 0, none⟩), .agg #[.int .i64 6, .int .i64 a, .int .i64 N, .int .u64 v, .int .u64 u, .slice A k cap]] w
      (Answered 0 false [] g h (Mb.put m a k (Mb.nm f 0 k)) n c w) := by
  have hg := B.g_lt
  have hh := B.h_lt
  have HB := Lib.hid B
  have HV := Lib.hid hv
  clear B hv
  go_enter Try.func37, Try.ntmps37
  go_wp2_with (go_at_call 47; refine (write_any ((HB.out.alloc _).alloc _) a k hin hk8 hf A cap hcap hcap2 (HV.out.below (((Below.refl _ w).alloc (Nat.le_refl _) _).alloc (by simp) _))).mono ?_; rintro e w1 ⟨rfl, hst⟩; obtain ⟨a0, a1, a2, f0, f1, f2, _⟩ := ans_touch hst.2 hg hh; have HST0 := Lib.hid hst; clear hst)
  refine bodyPost_ret (v := .agg #[.int .u64 0, .bool false, .slice none 0 0]) ?_ rfl ?_
  · simp [results, Try.results37, go_sem, a0, a1, a2]
  · refine ⟨_, rfl, BytesAt.nil _, ?_⟩
    have HST := HST0.out.from_ (boxes_touch (Two g h) w _ _)
    exact ((HST.setNew hg hh (Nat.le_succ _) _).setNew hg hh (Nat.le_succ _) _).setNew hg hh (Nat.le_succ _) _

set_option maxHeartbeats 1000000 in
theorem access_read {w : World} {g h n : Nat} {m : Nat → Nat} {c : Int} (B : Buf w g h m n c) (a k : Nat) (hin : a + k ≤ 8 * n) (v u : Int) (s : Value) :
    Calls Try.prog 37 #[.pointer (some ⟨g, 0, none⟩), .agg #[.int .i64 5, .int .i64 a, .int .i64 k, .int .u64 v, .int .u64 u, s]] w
      (Answered 0 false (Mb.bl m a k) g h m n c w) := by
  have hg := B.g_lt
  have hh := B.h_lt
  have HB := Lib.hid B
  clear B
  go_enter Try.func37, Try.ntmps37
  go_wp2_with (go_at_call 46; refine (read_any ((HB.out.alloc _).alloc _) a k hin).mono ?_; rintro e w1 ⟨x, rfl, ⟨A, cp, rfl, hx⟩, hb⟩; have HA := Lib.hid (ans_touch (Touch.of_below (S := Two g h) hb) hg hh); obtain ⟨a0, a1, a2, f0, f1, f2, fb⟩ := HA.out; have HBe := Lib.hid hb; have HX : Hid (BytesAt w1 (.slice A (Mb.bl m a k).length cp) (Mb.bl m a k)) := Lib.hid ⟨A, cp, rfl, hx⟩; clear hb hx fb)
  refine bodyPost_ret (v := .agg #[.int .u64 0, .bool false, .slice A (Mb.bl m a k).length cp]) ?_ rfl ?_
  · simp [results, Try.results37, go_sem, a0, a1, a2]
  · refine ⟨_, rfl, HX.out.answer HA.out _ _ _, ?_⟩
    have HST := Stored.mk_ (((HB.out.alloc _).alloc _).below HBe.out) ((boxes_touch (Two g h) w _ _).trans (Touch.of_below HBe.out))
    exact ((HST.setNew hg hh (Nat.le_succ _) _).setNew hg hh (Nat.le_succ _) _).setNew hg hh (Nat.le_succ _) _
end Go.Proofs.Ytplomefkmgkdjaa
