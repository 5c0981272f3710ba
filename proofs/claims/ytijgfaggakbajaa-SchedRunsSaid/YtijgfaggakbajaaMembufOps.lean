/-
  Layer 2's compare-and-swap, walked: where what is awaited stands, and where it does not.
  Layer 2's access by its kind, walked: what adds.
  Layer 2's access by its kind, walked: loads, stores, compares, reads, writes.
  Layer 2's Do: an access that may be, walked whole.
-/
import Derived.Test.YtijgfaggakbajaaMembufCheck
import Derived.Deep.RegionHeld3
namespace Go.Proofs.Ytijgfaggakbajaa
open Go.RowKit

theorem and_mask_u64 (v k : Nat) (hv : v < 18446744073709551616) (hk : k ≤ 8) : bits BinOp.and IntKind.u64 (v : Int) ((2 ^ (8 * k) - 1 : Nat) : Int) = ((v % 2 ^ (8 * k) : Nat) : Int) := by
  have h3 : 2 ^ (8 * k) ≤ 2 ^ 64 := Nat.pow_le_pow_right (by decide) (by omega)
  have h4 : 0 < 2 ^ (8 * k) := Nat.two_pow_pos _
  rw [u64_and_nat _ _ hv (by omega), Nat.and_two_pow_sub_one_eq_mod]

/-- A call that answered v, and stored. -/
def Ended (v : Value) (g h : Nat) (m : Nat → Nat) (n : Nat) (c : Int) (w : World) (e : Ending) (w' : World) : Prop := e = .returned v ∧ Stored g h m n c w w'

theorem Stored.from_ {g h n : Nat} {m : Nat → Nat} {c : Int} {w w1 w2 : World} (hs : Stored g h m n c w1 w2) (ht : Touch (Two g h) w w1) : Stored g h m n c w w2 := ⟨hs.1, ht.trans hs.2⟩
theorem Stored.mk_ {g h n : Nat} {m : Nat → Nat} {c : Int} {w w1 : World} (hb : Buf w1 g h m n c) (ht : Touch (Two g h) w w1) : Stored g h m n c w w1 := ⟨hb, ht⟩
/-- A store into a block that was not there before. -/
theorem Stored.setNew {g h n : Nat} {m : Nat → Nat} {c : Int} {w w1 : World} (hs : Stored g h m n c w w1) (hg : g < w.heap.size) (hh : h < w.heap.size) {p : Addr} (hp : w.heap.size ≤ p.block) (u : Value) : Stored g h m n c w (w1.setCell p u) :=
  ⟨hs.1.setOther (by omega) (by omega) u, hs.2.setNew hp u⟩

set_option maxHeartbeats 1000000 in
theorem cas_hit {w : World} {g h n : Nat} {m : Nat → Nat} {c : Int} (B : Buf w g h m n c) (a k v u : Nat) (hk : a % 8 + k ≤ 8) (ha : a / 8 < n) (hv : v < 18446744073709551616) (hit : Mb.nm m a k = v % 2 ^ (8 * k)) (K : Int) (s : Value) :
    Calls Try.prog 80 #[.pointer (some ⟨g, 0, none⟩), .agg #[.int .i64 K, .int .i64 a, .int .i64 k, .int .u64 v, .int .u64 u, s]] w
      (Ended (.agg #[.int .u64 (Mb.nm m a k : Nat), .bool true, .slice none 0 0]) g h (Mb.put m a k u) n c w) := by
  have hs := B.slice
  have hw := B.word ha
  have hz := B.word_free (a / 8)
  have hf := B.few
  have hx := Mb.wd_lt B.bytes (a / 8)
  have hP := Mb.part_nm B.bytes a k hk
  have hM := Mb.mix_wd B.bytes a k u hk
  have hA := and_mask_u64 v k hv (by omega)
  rw [← hit] at hA
  have HB := Lib.hid B
  have HP := Lib.hid hP
  have HM := Lib.hid hM
  have HA := Lib.hid hA
  have hg := B.g_lt
  have hh := B.h_lt
  clear B hP hM hA hit hv
  go_enter Try.func80, Try.ntmps80
  go_wp2
  go_quiet (fail)
  go_wp2
  refine wp_loop_rounds 1 ?_
  rw [rounds_succ]
  go_wp2_with (first
    | (go_at_call 74; refine (load64 _ _ _ _ ((((HB.out.alloc _).alloc _).drewN _).word ha)).mono ?_; rintro e w' ⟨rfl, rfl⟩)
    | (go_at_call 73; refine (part_any _ _ _ _ hx (by omega) (by omega)).mono ?_; rintro e w' ⟨rfl, j, rfl⟩; rw [HP.out]))
  have hA := HA.out
  go_quiet ((go_at_call 83; exact quiet_of_eq2 (mbMask_any _ _ (by omega))))
  go_wp2_with (first
    | (go_at_call 87; refine (mixed_any _ _ _ _ _ hx (by omega) hk).mono ?_; rintro e w' ⟨rfl, rfl⟩; rw [HM.out])
    | (go_at_call 86; refine (cas64 _ _ _ _ _ ((((HB.out.alloc _).alloc _).drewN _).word ha) ((((HB.out.alloc _).alloc _).drewN _).word_free _)).mono ?_; rintro e w' ⟨rfl, rfl⟩))
  refine bodyPost_ret (v := .agg #[.int .u64 (Mb.nm m a k : Nat), .bool true, .slice none 0 0]) ?_ rfl ?_
  · simp [results, Try.results80, go_sem]
  · refine ⟨rfl, ?_⟩
    have hB3 := fun N => ((HB.out.alloc (.cells #[.int .i64 K, .int .i64 a, .int .i64 k, .int .u64 v, .int .u64 u, s] 47)).alloc (.cells #[.int .u64 0, .bool false, .slice none 0 0] 49)).drewN N
    have ht := fun N => ((((Touch.refl (Two g h) w).alloc (.cells #[.int .i64 K, .int .i64 a, .int .i64 k, .int .u64 v, .int .u64 u, s] 47)).alloc (.cells #[.int .u64 0, .bool false, .slice none 0 0] 49)).drewN N)
    exact (((((hB3 _).stored a k u hk).from_ (ht _)).setNew hg hh (Nat.le_succ _) _).setNew hg hh (Nat.le_succ _) _).setNew hg hh (Nat.le_succ _) _

set_option maxHeartbeats 1000000 in
theorem cas_miss {w : World} {g h n : Nat} {m : Nat → Nat} {c : Int} (B : Buf w g h m n c) (a k v u : Nat) (hk : a % 8 + k ≤ 8) (ha : a / 8 < n) (hv : v < 18446744073709551616) (miss : ¬ Mb.nm m a k = v % 2 ^ (8 * k)) (K : Int) (s : Value) :
    Calls Try.prog 80 #[.pointer (some ⟨g, 0, none⟩), .agg #[.int .i64 K, .int .i64 a, .int .i64 k, .int .u64 v, .int .u64 u, s]] w
      (Ended (.agg #[.int .u64 (Mb.nm m a k : Nat), .bool false, .slice none 0 0]) g h m n c w) := by
  have hs := B.slice
  have hf := B.few
  have hx := Mb.wd_lt B.bytes (a / 8)
  have hP := Mb.part_nm B.bytes a k hk
  have hA := and_mask_u64 v k hv (by omega)
  have hne : ((Mb.nm m a k : Nat) : Int) ≠ ((v % 2 ^ (8 * k) : Nat) : Int) := fun e => miss (Int.ofNat_inj.1 e)
  generalize hq : v % 2 ^ (8 * k) = q at hA hne
  have hN : (((Mb.nm m a k : Nat) : Int) != (q : Int)) = true := by simpa using hne
  have HB := Lib.hid B
  have HP := Lib.hid hP
  have HA := Lib.hid hA
  have hg := B.g_lt
  have hh := B.h_lt
  clear B hP hA miss hv hne hq
  go_enter Try.func80, Try.ntmps80
  go_wp2
  go_quiet (fail)
  go_wp2
  refine wp_loop_rounds 1 ?_
  rw [rounds_succ]
  go_wp2_with (first
    | (go_at_call 74; refine (load64 _ _ _ _ ((((HB.out.alloc _).alloc _).drewN _).word ha)).mono ?_; rintro e w' ⟨rfl, rfl⟩)
    | (go_at_call 73; refine (part_any _ _ _ _ hx (by omega) (by omega)).mono ?_; rintro e w' ⟨rfl, j, rfl⟩; rw [HP.out]))
  have hA := HA.out
  go_quiet ((go_at_call 83; exact quiet_of_eq2 (mbMask_any _ _ (by omega))))
  go_wp2
  refine bodyPost_ret (v := .agg #[.int .u64 (Mb.nm m a k : Nat), .bool false, .slice none 0 0]) ?_ rfl ?_
  · simp [results, Try.results80, go_sem]
  · refine ⟨rfl, ?_⟩
    have hB3 := fun N => ((HB.out.alloc (.cells #[.int .i64 K, .int .i64 a, .int .i64 k, .int .u64 v, .int .u64 u, s] 47)).alloc (.cells #[.int .u64 0, .bool false, .slice none 0 0] 49)).drewN N
    have ht := fun N => ((((Touch.refl (Two g h) w).alloc (.cells #[.int .i64 K, .int .i64 a, .int .i64 k, .int .u64 v, .int .u64 u, s] 47)).alloc (.cells #[.int .u64 0, .bool false, .slice none 0 0] 49)).drewN N)
    exact (((Stored.mk_ (hB3 _) (ht _)).setNew hg hh (Nat.le_succ _) _).setNew hg hh (Nat.le_succ _) _).setNew hg hh (Nat.le_succ _) _
end Go.Proofs.Ytijgfaggakbajaa
namespace Go.Proofs.Ytijgfaggakbajaa
open Go.RowKit

/-- A call that answered V, D and the bytes xs, and left the buffer with the bytes m. -/
def Answered (V : Nat) (D : Bool) (xs : List Int) (g h : Nat) (m : Nat → Nat) (n : Nat) (c : Int) (w : World) (e : Ending) (w' : World) : Prop :=
  ∃ s, e = .returned (.agg #[.int .u64 V, .bool D, s]) ∧ BytesAt w' s xs ∧ Stored g h m n c w w'

/-- An access was boxed, and a place for the answer made: what stands where. -/
structure Boxed (w W : World) (K P N V U : Int) (s : Value) : Prop where
  c0 : W.cell? ⟨w.heap.size, 0, none⟩ = some (.int .i64 K)
  c1 : W.cell? ⟨w.heap.size, 1, none⟩ = some (.int .i64 P)
  c2 : W.cell? ⟨w.heap.size, 2, none⟩ = some (.int .i64 N)
  c3 : W.cell? ⟨w.heap.size, 3, none⟩ = some (.int .u64 V)
  c4 : W.cell? ⟨w.heap.size, 4, none⟩ = some (.int .u64 U)
  c5 : W.cell? ⟨w.heap.size, 5, none⟩ = some s
  a0 : W.cell? ⟨w.heap.size + 1, 0, none⟩ = some (.int .u64 0)
  a1 : W.cell? ⟨w.heap.size + 1, 1, none⟩ = some (.bool false)
  a2 : W.cell? ⟨w.heap.size + 1, 2, none⟩ = some (.slice none 0 0)
  f0 : W.frozen? ⟨w.heap.size + 1, 0, none⟩ = false
  f1 : W.frozen? ⟨w.heap.size + 1, 1, none⟩ = false
  f2 : W.frozen? ⟨w.heap.size + 1, 2, none⟩ = false
  size : W.heap.size = w.heap.size + 2
  below : Below w.heap.size w W

theorem boxed (w : World) (K P N V U : Int) (s : Value) :
    Boxed w ((w.alloc (.cells #[.int .i64 K, .int .i64 P, .int .i64 N, .int .u64 V, .int .u64 U, s] 47)).alloc (.cells #[.int .u64 0, .bool false, .slice none 0 0] 49)) K P N V U s := by
  refine ⟨?_, ?_, ?_, ?_, ?_, ?_, ?_, ?_, ?_, ?_, ?_, ?_, ?_, ((Below.refl _ _).alloc (Nat.le_refl _) _).alloc (by simp) _⟩
  all_goals go_simp

theorem Stored.drew {g h n : Nat} {m : Nat → Nat} {c : Int} {w w1 : World} (hs : Stored g h m n c w w1) : Stored g h m n c w w1.drew := ⟨hs.1.drew, hs.2.drew⟩

set_option maxHeartbeats 1000000 in
theorem access_add {w : World} {g h n : Nat} {m : Nat → Nat} {c : Int} (B : Buf w g h m n c) (a v : Nat) (hk : a % 8 = 0) (ha : a / 8 < n) (u : Int) (s : Value) :
    Calls Try.prog 72 #[.pointer (some ⟨g, 0, none⟩), .agg #[.int .i64 3, .int .i64 a, .int .i64 8, .int .u64 v, .int .u64 u, s]] w
      (Answered (Mb.nm m a 8) false [] g h (Mb.put m a 8 (Mb.nm m a 8 + v)) n c w) := by
  have hg := B.g_lt
  have hh := B.h_lt
  have HX := boxed w 3 a 8 v u s
  have HB0 := (B.alloc (.cells #[.int .i64 3, .int .i64 a, .int .i64 8, .int .u64 v, .int .u64 u, s] 47)).alloc (.cells #[.int .u64 0, .bool false, .slice none 0 0] 49)
  have hf := B.few
  have hi1 : (a : Int) / 8 < (n : Int) := by omega
  have hi0 : 0 ≤ (a : Int) / 8 := by omega
  have hi2 : ((a : Int) / 8).toNat = a / 8 := by omega
  have hi3 : IntKind.i64.wrap ((a : Int) / 8) = (a : Int) / 8 := IntWalk.i64_in _ (by omega)
  go_enter Try.func72, Try.ntmps72
  go_wp2
  generalize (w.alloc (.cells #[.int .i64 3, .int .i64 (a : Int), .int .i64 8, .int .u64 (v : Int), .int .u64 u, s] 47)).alloc (.cells #[.int .u64 0, .bool false, .slice none 0 0] 49) = W at HX HB0 ⊢
  have hs := HB0.slice
  have n0 : ¬ h = g := fun e => HB0.ne e.symm
  have n1 : ¬ h = w.heap.size := by omega
  have n3 : ¬ h = w.heap.size + 1 := by omega
  have n4 : ¬ w.heap.size + 1 = h := by omega
  have n5 : ¬ w.heap.size + 1 = g := by omega
  obtain ⟨c0, c1, c2, c3, c4, c5, a0, a1, a2, f0, f1, f2, hz, hb⟩ := HX
  go_region_held3 (fun w' => w'.cell? ⟨g, 0, none⟩ = some (.slice (some ⟨h, 0, none⟩) n n) ∧ w'.cell? ⟨w.heap.size, 1, none⟩ = some (.int .i64 (a : Int)) ∧ w'.cell? ⟨w.heap.size, 3, none⟩ = some (.int .u64 (v : Int)))
    (go_keep)
    (first | (go_at_call 79; refine (add64 h (a / 8) _ _ _ (HB0.drew.word ha) (HB0.drew.word_free _)).mono ?_; rintro e w' ⟨rfl, rfl⟩))
  go_wp2
  refine bodyPost_ret (v := .agg #[.int .u64 (Mb.nm m a 8 : Nat), .bool false, .slice none 0 0]) ?_ rfl ?_
  · simp [results, Try.results72, go_sem, a0, a1, a2]
    rw [Mb.wd_nm m a hk, IntKind.wrap_u64, IntKind.wrap_u64]
    have := Mb.nm_lt HB0.bytes a 8
    omega
  · refine ⟨_, rfl, BytesAt.nil _, ?_⟩
    have e : IntKind.u64.wrap (((Mb.wd m (a / 8) : Nat) : Int) + (v : Int)) = ((Mb.wd (Mb.put m a 8 (Mb.nm m a 8 + v)) (a / 8) : Nat) : Int) := by
      rw [Mb.wd_put_mod _ _ _ hk, Mb.wd_nm m a hk, IntKind.wrap_u64]
      omega
    rw [e]
    exact ((((HB0.stored a 8 (Mb.nm m a 8 + v) (by omega)).from_ (Touch.of_below hb)).setNew hg hh (Nat.le_succ _) _).setNew hg hh (Nat.le_succ _) _).setNew hg hh (Nat.le_succ _) _ |>.drew
end Go.Proofs.Ytijgfaggakbajaa
namespace Go.Proofs.Ytijgfaggakbajaa
open Go.RowKit

/-- The place for an answer, in block b. -/
structure AnsAt (b : Nat) (W : World) : Prop where
  a0 : W.cell? ⟨b, 0, none⟩ = some (.int .u64 0)
  a1 : W.cell? ⟨b, 1, none⟩ = some (.bool false)
  a2 : W.cell? ⟨b, 2, none⟩ = some (.slice none 0 0)
  f0 : W.frozen? ⟨b, 0, none⟩ = false
  f1 : W.frozen? ⟨b, 1, none⟩ = false
  f2 : W.frozen? ⟨b, 2, none⟩ = false
  blk : W.heap[b]? = some (.cells #[.int .u64 0, .bool false, .slice none 0 0] 49 (0, 0))

theorem AnsAt.of_blk {b : Nat} {W : World} (hb : W.heap[b]? = some (.cells #[.int .u64 0, .bool false, .slice none 0 0] 49 (0, 0))) : AnsAt b W := by
  refine ⟨?_, ?_, ?_, ?_, ?_, ?_, hb⟩
  all_goals simp [World.cell?, World.frozen?, hb]

theorem ans_touch {w w1 : World} {o : Obj} {g h : Nat} (ht : Touch (Two g h) ((w.alloc o).alloc (.cells #[.int .u64 0, .bool false, .slice none 0 0] 49)) w1) (hg : g < w.heap.size) (hh : h < w.heap.size) : AnsAt (w.heap.size + 1) w1 := by
  have hn : ¬ Two g h (w.heap.size + 1) := fun e => by rcases e with e | e <;> omega
  have hk := ht.block (w.heap.size + 1) (by simp) hn
  have e : (w.alloc o).heap.size = w.heap.size + 1 := by simp
  have hb : w1.heap[w.heap.size + 1]? = some (.cells #[.int .u64 0, .bool false, .slice none 0 0] 49 (0, 0)) := by
    rw [hk, ← e]
    exact Go.Deep.blk_alloc_new _ _
  exact .of_blk hb

/-- An answer is stored: bytes that stand elsewhere stay. -/
theorem BytesAt.answer {W : World} {v : Value} {xs : List Int} {b : Nat} (hv : BytesAt W v xs) (ha : AnsAt b W) (x y z : Value) : BytesAt (((W.setCell ⟨b, 0, none⟩ x).setCell ⟨b, 1, none⟩ y).setCell ⟨b, 2, none⟩ z) v xs := by
  obtain ⟨A, cap, hv, h⟩ := hv
  refine ⟨A, cap, hv, fun hp => ?_⟩
  obtain ⟨d, off, h1, h3, h4⟩ := h hp
  have hne : d ≠ b := by
    intro e
    subst e
    have h5 := h4 0 hp
    simp only [World.cell?, ha.blk] at h5
    match off, h5 with
    | 0, h5 => simp at h5
    | 1, h5 => simp at h5
    | 2, h5 => simp at h5
    | k + 3, h5 => simp at h5
  refine ⟨d, off, h1, by simpa [World.setCell] using h3, fun i hi => ?_⟩
  rw [← h4 i hi]
  refine World.cell?_of_block ?_
  rw [Below.heap_setCell _ _ _ _ hne, Below.heap_setCell _ _ _ _ hne, Below.heap_setCell _ _ _ _ hne]

theorem boxes_touch (S : Nat → Prop) (w : World) (o p : Obj) : Touch S w ((w.alloc o).alloc p) := ((Touch.refl S w).alloc o).alloc p

set_option maxHeartbeats 1000000 in
theorem access_load {w : World} {g h n : Nat} {m : Nat → Nat} {c : Int} (B : Buf w g h m n c) (a k : Nat) (hk : a % 8 + k ≤ 8) (ha : a / 8 < n) (v u : Int) (s : Value) :
    Calls Try.prog 72 #[.pointer (some ⟨g, 0, none⟩), .agg #[.int .i64 1, .int .i64 a, .int .i64 k, .int .u64 v, .int .u64 u, s]] w
      (Answered (Mb.nm m a k) false [] g h m n c w) := by
  have hg := B.g_lt
  have hh := B.h_lt
  have HB := Lib.hid B
  clear B
  go_enter Try.func72, Try.ntmps72
  go_wp2_with (go_at_call 63; refine (load_any ((HB.out.alloc _).alloc _) a k hk ha).mono ?_; rintro e w' ⟨rfl, j, rfl⟩)
  refine bodyPost_ret (v := .agg #[.int .u64 (Mb.nm m a k : Nat), .bool false, .slice none 0 0]) ?_ rfl ?_
  · simp [results, Try.results72, go_sem]
  · refine ⟨_, rfl, BytesAt.nil _, ?_⟩
    have HST := Stored.mk_ (((HB.out.alloc (.cells #[.int .i64 1, .int .i64 a, .int .i64 k, .int .u64 v, .int .u64 u, s] 47)).alloc (.cells #[.int .u64 0, .bool false, .slice none 0 0] 49)).drewN j) ((boxes_touch (Two g h) w _ _).drewN j)
    exact ((HST.setNew hg hh (Nat.le_succ _) _).setNew hg hh (Nat.le_succ _) _).setNew hg hh (Nat.le_succ _) _

set_option maxHeartbeats 1000000 in
theorem access_store {w : World} {g h n : Nat} {m : Nat → Nat} {c : Int} (B : Buf w g h m n c) (a k v : Nat) (hk : a % 8 + k ≤ 8) (ha : a / 8 < n) (hv : v < 18446744073709551616) (u : Int) (s : Value) :
    Calls Try.prog 72 #[.pointer (some ⟨g, 0, none⟩), .agg #[.int .i64 2, .int .i64 a, .int .i64 k, .int .u64 v, .int .u64 u, s]] w
      (Answered 0 false [] g h (Mb.put m a k v) n c w) := by
  have hg := B.g_lt
  have hh := B.h_lt
  have HB := Lib.hid B
  clear B
  go_enter Try.func72, Try.ntmps72
  go_wp2_with (go_at_call 78; refine (store_any ((HB.out.alloc _).alloc _) a k v hk ha hv).mono ?_; rintro e w1 ⟨rfl, hst⟩; obtain ⟨a0, a1, a2, f0, f1, f2, _⟩ := ans_touch hst.2 hg hh; have HST0 := Lib.hid hst; clear hst)
  refine bodyPost_ret (v := .agg #[.int .u64 0, .bool false, .slice none 0 0]) ?_ rfl ?_
  · simp [results, Try.results72, go_sem, a0, a1, a2]
  · refine ⟨_, rfl, BytesAt.nil _, ?_⟩
    have HST := HST0.out.from_ (boxes_touch (Two g h) w _ _)
    exact ((HST.setNew hg hh (Nat.le_succ _) _).setNew hg hh (Nat.le_succ _) _).setNew hg hh (Nat.le_succ _) _

set_option maxHeartbeats 1000000 in
theorem access_write {w : World} {g h n : Nat} {m : Nat → Nat} {c : Int} (B : Buf w g h m n c) (a k : Nat) (hin : a + k ≤ 8 * n) (hk8 : k ≤ 8) (v u : Int) {f : Nat → Nat} (hf : Mb.IsB f) (A : Option Addr) (cap : Nat) (hcap : k ≤ cap) (hcap2 : cap ≤ 9223372036854775807)
    (hv : BytesAt w (.slice A k cap) (Mb.bl f 0 k)) (N : Int) :
    Calls Try.prog 72 #[.pointer (some ⟨g, 0, none⟩), .agg #[.int .i64 6, .int .i64 a, .int .i64 N, .int .u64 v, .int .u64 u, .slice A k cap]] w
      (Answered 0 false [] g h (Mb.put m a k (Mb.nm f 0 k)) n c w) := by
  have hg := B.g_lt
  have hh := B.h_lt
  have HB := Lib.hid B
  have HV := Lib.hid hv
  clear B hv
  go_enter Try.func72, Try.ntmps72
  go_wp2_with (go_at_call 81; refine (write_any ((HB.out.alloc _).alloc _) a k hin hk8 hf A cap hcap hcap2 (HV.out.below (((Below.refl _ w).alloc (Nat.le_refl _) _).alloc (by simp) _))).mono ?_; rintro e w1 ⟨rfl, hst⟩; obtain ⟨a0, a1, a2, f0, f1, f2, _⟩ := ans_touch hst.2 hg hh; have HST0 := Lib.hid hst; clear hst)
  refine bodyPost_ret (v := .agg #[.int .u64 0, .bool false, .slice none 0 0]) ?_ rfl ?_
  · simp [results, Try.results72, go_sem, a0, a1, a2]
  · refine ⟨_, rfl, BytesAt.nil _, ?_⟩
    have HST := HST0.out.from_ (boxes_touch (Two g h) w _ _)
    exact ((HST.setNew hg hh (Nat.le_succ _) _).setNew hg hh (Nat.le_succ _) _).setNew hg hh (Nat.le_succ _) _

set_option maxHeartbeats 1000000 in
theorem access_read {w : World} {g h n : Nat} {m : Nat → Nat} {c : Int} (B : Buf w g h m n c) (a k : Nat) (hin : a + k ≤ 8 * n) (v u : Int) (s : Value) :
    Calls Try.prog 72 #[.pointer (some ⟨g, 0, none⟩), .agg #[.int .i64 5, .int .i64 a, .int .i64 k, .int .u64 v, .int .u64 u, s]] w
      (Answered 0 false (Mb.bl m a k) g h m n c w) := by
  have hg := B.g_lt
  have hh := B.h_lt
  have HB := Lib.hid B
  clear B
  go_enter Try.func72, Try.ntmps72
  go_wp2_with (go_at_call 36; refine (read_any ((HB.out.alloc _).alloc _) a k hin).mono ?_; rintro e w1 ⟨x, rfl, ⟨A, cp, rfl, hx⟩, hb⟩; have HA := Lib.hid (ans_touch (Touch.of_below (S := Two g h) hb) hg hh); obtain ⟨a0, a1, a2, f0, f1, f2, fb⟩ := HA.out; have HBe := Lib.hid hb; have HX : Hid (BytesAt w1 (.slice A (Mb.bl m a k).length cp) (Mb.bl m a k)) := Lib.hid ⟨A, cp, rfl, hx⟩; clear hb hx fb)
  refine bodyPost_ret (v := .agg #[.int .u64 0, .bool false, .slice A (Mb.bl m a k).length cp]) ?_ rfl ?_
  · simp [results, Try.results72, go_sem, a0, a1, a2]
  · refine ⟨_, rfl, HX.out.answer HA.out _ _ _, ?_⟩
    have HST := Stored.mk_ (((HB.out.alloc _).alloc _).below HBe.out) ((boxes_touch (Two g h) w _ _).trans (Touch.of_below HBe.out))
    exact ((HST.setNew hg hh (Nat.le_succ _) _).setNew hg hh (Nat.le_succ _) _).setNew hg hh (Nat.le_succ _) _
end Go.Proofs.Ytijgfaggakbajaa
namespace Go.Proofs.Ytijgfaggakbajaa
open Go.RowKit

namespace Mb
/-- What was there, where an access tells it. -/
def ansV (m : Nat → Nat) (K : Int) (a k : Nat) : Nat := if K = 1 ∨ K = 3 ∨ K = 4 then nm m a k else 0
/-- Did it store what it compared for? -/
def ansD (m : Nat → Nat) (K : Int) (a k v : Nat) : Bool := decide (K = 4) && decide (nm m a k = v % 2 ^ (8 * k))
/-- What was read. -/
def ansB (m : Nat → Nat) (K : Int) (a k : Nat) : List Int := if K = 5 then bl m a k else []
/-- The bytes behind it. -/
def aft (m : Nat → Nat) (K : Int) (a k v u : Nat) (f : Nat → Nat) : Nat → Nat :=
  if K = 2 then put m a k v
  else if K = 3 then put m a k (nm m a k + v)
  else if K = 4 then (if nm m a k = v % 2 ^ (8 * k) then put m a k u else m)
  else if K = 6 then put m a k (nm f 0 k)
  else m
end Mb

set_option maxHeartbeats 1000000 in
theorem access_cas {w : World} {g h n : Nat} {m : Nat → Nat} {c : Int} (B : Buf w g h m n c) (a k v u : Nat) (hk : a % 8 + k ≤ 8) (ha : a / 8 < n) (hv : v < 18446744073709551616) (s : Value) :
    Calls Try.prog 72 #[.pointer (some ⟨g, 0, none⟩), .agg #[.int .i64 4, .int .i64 a, .int .i64 k, .int .u64 v, .int .u64 u, s]] w
      (Answered (Mb.nm m a k) (decide (Mb.nm m a k = v % 2 ^ (8 * k))) [] g h (if Mb.nm m a k = v % 2 ^ (8 * k) then Mb.put m a k u else m) n c w) := by
  have hg := B.g_lt
  have hh := B.h_lt
  have HB := Lib.hid B
  clear B
  by_cases hit : Mb.nm m a k = v % 2 ^ (8 * k)
  · rw [if_pos hit, decide_eq_true hit]
    have HH := Lib.hid hit
    clear hit
    go_enter Try.func72, Try.ntmps72
    go_wp2_with (go_at_call 80; refine (cas_hit ((HB.out.alloc _).alloc _) a k v u hk ha hv HH.out 4 s).mono ?_; rintro e w1 ⟨rfl, hst⟩; obtain ⟨a0, a1, a2, f0, f1, f2, _⟩ := ans_touch hst.2 hg hh; have HST0 := Lib.hid hst; clear hst)
    refine bodyPost_ret (v := .agg #[.int .u64 (Mb.nm m a k : Nat), .bool true, .slice none 0 0]) ?_ rfl ?_
    · simp [results, Try.results72, go_sem, a0, a1, a2]
    · refine ⟨_, rfl, BytesAt.nil _, ?_⟩
      have HST := HST0.out.from_ (boxes_touch (Two g h) w _ _)
      exact ((HST.setNew hg hh (Nat.le_succ _) _).setNew hg hh (Nat.le_succ _) _).setNew hg hh (Nat.le_succ _) _
  · rw [if_neg hit, decide_eq_false hit]
    have HH := Lib.hid hit
    clear hit
    go_enter Try.func72, Try.ntmps72
    go_wp2_with (go_at_call 80; refine (cas_miss ((HB.out.alloc _).alloc _) a k v u hk ha hv HH.out 4 s).mono ?_; rintro e w1 ⟨rfl, hst⟩; obtain ⟨a0, a1, a2, f0, f1, f2, _⟩ := ans_touch hst.2 hg hh; have HST0 := Lib.hid hst; clear hst)
    refine bodyPost_ret (v := .agg #[.int .u64 (Mb.nm m a k : Nat), .bool false, .slice none 0 0]) ?_ rfl ?_
    · simp [results, Try.results72, go_sem, a0, a1, a2]
    · refine ⟨_, rfl, BytesAt.nil _, ?_⟩
      have HST := HST0.out.from_ (boxes_touch (Two g h) w _ _)
      exact ((HST.setNew hg hh (Nat.le_succ _) _).setNew hg hh (Nat.le_succ _) _).setNew hg hh (Nat.le_succ _) _

/-- Which kinds there are, of those that may be. -/
theorem kinds {S K P N : Int} {L : Nat} (h : chk S K P N L = 0) :
    ((K = 1 ∨ K = 2 ∨ K = 4) ∧ (N = 4 ∨ N = 8) ∧ P % N = 0) ∨ (K = 3 ∧ N = 8 ∧ P % 8 = 0) ∨ (K = 5 ∧ 0 ≤ N ∧ N ≤ 8) ∨ (K = 6 ∧ N = L ∧ N ≤ 8) := by
  obtain ⟨hf, h0, h1, h2, h3⟩ := chk_ok h
  have hf0 := hf
  unfold formed at hf
  by_cases c1 : K = 1 ∨ K = 2 ∨ K = 4
  · have hk : numB K = true := by rcases c1 with rfl | rfl | rfl <;> rfl
    exact .inl ⟨c1, formed_num hf0 hk, h3 hk⟩
  · rw [if_neg c1] at hf
    by_cases c3 : K = 3
    · rw [if_pos c3] at hf
      have hk : numB K = true := by subst c3; rfl
      have hN : N = 8 := by simpa using hf
      have hm := h3 hk
      rw [hN] at hm
      exact .inr (.inl ⟨c3, hN, hm⟩)
    · rw [if_neg c3] at hf
      by_cases c5 : K = 5
      · rw [if_pos c5] at hf
        have := formed_len hf0
        exact .inr (.inr (.inl ⟨c5, this.1, this.2⟩))
      · rw [if_neg c5] at hf
        by_cases c6 : K = 6
        · rw [if_pos c6] at hf
          simp at hf
          exact .inr (.inr (.inr ⟨c6, hf.1, hf.2⟩))
        · rw [if_neg c6] at hf
          cases hf

theorem access_any {w : World} {g h n : Nat} {m : Nat → Nat} {c : Int} (B : Buf w g h m n c) (K : Int) (a k v u : Nat) {f : Nat → Nat} (hf : Mb.IsB f) (A : Option Addr) (L cap : Nat) (hcap : L ≤ cap) (hcap2 : cap ≤ 9223372036854775807)
    (hb : BytesAt w (.slice A L cap) (Mb.bl f 0 L)) (hv : v < 18446744073709551616) (ok : chk (8 * (n : Int)) K a k L = 0) :
    Calls Try.prog 72 #[.pointer (some ⟨g, 0, none⟩), .agg #[.int .i64 K, .int .i64 a, .int .i64 k, .int .u64 v, .int .u64 u, .slice A L cap]] w
      (Answered (Mb.ansV m K a k) (Mb.ansD m K a k v) (Mb.ansB m K a k) g h (Mb.aft m K a k v u f) n c w) := by
  obtain ⟨_, _, h1, h2, _⟩ := chk_ok ok
  have hkn := kinds ok
  rcases hkn with ⟨hk, hN, hm⟩ | ⟨rfl, hN, hm⟩ | ⟨rfl, hN0, hN⟩ | ⟨rfl, hN, hN8⟩
  · have ha : a % 8 + k ≤ 8 ∧ a / 8 < n := by
      rcases hN with hN | hN
      · have : k = 4 := by omega
        subst this
        omega
      · have : k = 8 := by omega
        subst this
        omega
    rcases hk with rfl | rfl | rfl
    · exact access_load B a k ha.1 ha.2 v u _
    · exact access_store B a k v ha.1 ha.2 hv u _
    · exact access_cas B a k v u ha.1 ha.2 hv _
  · have : k = 8 := by omega
    subst this
    exact access_add B a v (by omega) (by omega) u _
  · exact access_read B a k (by omega) v u _
  · have : L = k := by omega
    subst this
    exact access_write B a L (by omega) (by omega) v u hf A cap hcap hcap2 hb _

/-- Six cells of an access, in block b. -/
structure AccAt (b : Nat) (W : World) (K P N V U : Int) (s : Value) : Prop where
  c0 : W.cell? ⟨b, 0, none⟩ = some (.int .i64 K)
  c1 : W.cell? ⟨b, 1, none⟩ = some (.int .i64 P)
  c2 : W.cell? ⟨b, 2, none⟩ = some (.int .i64 N)
  c3 : W.cell? ⟨b, 3, none⟩ = some (.int .u64 V)
  c4 : W.cell? ⟨b, 4, none⟩ = some (.int .u64 U)
  c5 : W.cell? ⟨b, 5, none⟩ = some s
theorem AccAt.below {b : Nat} {W W' : World} {K P N V U : Int} {s : Value} (h : AccAt b W K P N V U s) (hb : Below W.heap.size W W') : AccAt b W' K P N V U s := by
  have hlt : b < W.heap.size := by
    rcases Nat.lt_or_ge b W.heap.size with hlt | hge
    · exact hlt
    · have := h.c0
      simp [World.cell?, Array.getElem?_eq_none hge] at this
  have hc := fun i => hb.cell (p := ⟨b, i, none⟩) hlt
  exact ⟨(hc 0).trans h.c0, (hc 1).trans h.c1, (hc 2).trans h.c2, (hc 3).trans h.c3, (hc 4).trans h.c4, (hc 5).trans h.c5⟩

/-- The place for an answer, whose cells stand in W, in a world behind a call. -/
theorem AnsAt.later {b : Nat} {W W' : World} (h : AnsAt b W) (hb : Below W.heap.size W W') : AnsAt b W' := by
  have hlt : b < W.heap.size := (Array.getElem?_eq_some_iff.1 h.blk).1
  exact .of_blk ((hb.block b hlt).trans h.blk)
theorem ans_made (w : World) (o : Obj) : AnsAt (w.heap.size + 1) ((w.alloc o).alloc (.cells #[.int .u64 0, .bool false, .slice none 0 0] 49)) := by
  have e : (w.alloc o).heap.size = w.heap.size + 1 := by simp
  refine .of_blk ?_
  rw [← e]
  exact Go.Deep.blk_alloc_new _ _
theorem acc_made (w : World) (K P N V U : Int) (s : Value) (p : Obj) : AccAt w.heap.size ((w.alloc (.cells #[.int .i64 K, .int .i64 P, .int .i64 N, .int .u64 V, .int .u64 U, s] 47)).alloc p) K P N V U s := by
  refine ⟨?_, ?_, ?_, ?_, ?_, ?_⟩
  all_goals go_simp
theorem AccAt.lt {b : Nat} {W : World} {K P N V U : Int} {s : Value} (h : AccAt b W K P N V U s) : b < W.heap.size := by
  rcases Nat.lt_or_ge b W.heap.size with hlt | hge
  · exact hlt
  · have := h.c0
    simp [World.cell?, Array.getElem?_eq_none hge] at this

set_option maxHeartbeats 1000000 in
theorem do_no {w : World} {g h n : Nat} {m : Nat → Nat} {c : Int} (B : Buf w g h m n c) (K P N V U : Int) (A : Option Addr) (L cap : Nat) (no : chk (8 * (n : Int)) K P N L ≠ 0) :
    Calls Try.prog 55 #[.pointer (some ⟨g, 0, none⟩), .agg #[.int .i64 K, .int .i64 P, .int .i64 N, .int .u64 V, .int .u64 U, .slice A L cap]] w
      (Made (.tuple #[.agg #[.int .u64 0, .bool false, .slice none 0 0], .int .i64 (chk (8 * (n : Int)) K P N L)]) w) := by
  have hf := B.few
  have HB0 := (B.alloc (.cells #[.int .i64 K, .int .i64 P, .int .i64 N, .int .u64 V, .int .u64 U, .slice A L cap] 47)).alloc (.cells #[.int .u64 0, .bool false, .slice none 0 0] 49)
  have HC := acc_made w K P N V U (.slice A L cap) (.cells #[.int .u64 0, .bool false, .slice none 0 0] 49)
  have HA := ans_made w (.cells #[.int .i64 K, .int .i64 P, .int .i64 N, .int .u64 V, .int .u64 U, .slice A L cap] 47)
  have HW := ((Below.refl w.heap.size w).alloc (Nat.le_refl _) (.cells #[.int .i64 K, .int .i64 P, .int .i64 N, .int .u64 V, .int .u64 U, .slice A L cap] 47)).alloc (by simp) (.cells #[.int .u64 0, .bool false, .slice none 0 0] 49)
  generalize hq : chk (8 * (n : Int)) K P N L = q at no ⊢
  have hno : (q != 0) = true := by simpa using no
  have HQ := Lib.hid hq
  clear B hq no
  go_enter Try.func55, Try.ntmps55
  go_wp2
  generalize (w.alloc (.cells #[.int .i64 K, .int .i64 P, .int .i64 N, .int .u64 V, .int .u64 U, .slice A L cap] 47)).alloc (.cells #[.int .u64 0, .bool false, .slice none 0 0] 49) = W at HC HA HB0 HW ⊢
  have HC2 := HC
  obtain ⟨c0, c1, c2, c3, c4, c5⟩ := HC2
  go_region_held3 (fun w' => w'.cell? ⟨w.heap.size, 0, none⟩ = some (.int .i64 K) ∧ w'.cell? ⟨w.heap.size, 1, none⟩ = some (.int .i64 P) ∧ w'.cell? ⟨w.heap.size, 2, none⟩ = some (.int .i64 N) ∧ w'.cell? ⟨w.heap.size, 3, none⟩ = some (.int .u64 V) ∧ w'.cell? ⟨w.heap.size, 4, none⟩ = some (.int .u64 U) ∧ w'.cell? ⟨w.heap.size, 5, none⟩ = some (.slice A L cap))
    (go_keep)
    (first
      | (go_at_call 37; refine (size_any HB0.drew).mono ?_; rintro e w' ⟨rfl, rfl⟩)
      | (go_at_call 70; refine (check_any _ K P N V U A L cap _ (by omega)).mono ?_; rintro e w1 ⟨rfl, hb1⟩; rw [HQ.out]; have hb2 := below_drew hb1; clear hb1; obtain ⟨k0, k1, k2, k3, k4, k5⟩ := HC.below hb2; have HA1 := HA.later hb2; obtain ⟨a0, a1, a2, f0, f1, f2, _⟩ := HA1))
  go_wp2
  refine bodyPost_ret (v := .tuple #[.agg #[.int .u64 0, .bool false, .slice none 0 0], .int .i64 q]) ?_ rfl ?_
  · simp [results, Try.results55, go_sem, a0, a1, a2]
  · refine ⟨rfl, ?_⟩
    exact (((HW.trans (hb2.mono HW.size)).setCell (Nat.le_succ _) _).setCell (Nat.le_succ _) _).setCell (Nat.le_succ _) _

theorem AccAt.touch {b g h : Nat} {W W' : World} {K P N V U : Int} {s : Value} (ha : AccAt b W K P N V U s) (ht : Touch (Two g h) W W') (hg : b ≠ g) (hh : b ≠ h) : AccAt b W' K P N V U s := by
  have hn : ¬ Two g h b := fun e => e.elim hg hh
  have hc := fun i => ht.cell (p := ⟨b, i, none⟩) ha.lt hn
  exact ⟨(hc 0).trans ha.c0, (hc 1).trans ha.c1, (hc 2).trans ha.c2, (hc 3).trans ha.c3, (hc 4).trans ha.c4, (hc 5).trans ha.c5⟩
theorem AnsAt.touch {b g h : Nat} {W W' : World} (ha : AnsAt b W) (ht : Touch (Two g h) W W') (hg : b ≠ g) (hh : b ≠ h) : AnsAt b W' :=
  .of_blk ((ht.block b (Array.getElem?_eq_some_iff.1 ha.blk).1 fun e => e.elim hg hh).trans ha.blk)

/-- A call that told an answer beside no error, and left the buffer with the bytes m, one access more counted. -/
def Did (V : Nat) (D : Bool) (xs : List Int) (g h : Nat) (m : Nat → Nat) (n : Nat) (c : Int) (w : World) (e : Ending) (w' : World) : Prop :=
  ∃ s, e = .returned (.tuple #[.agg #[.int .u64 V, .bool D, s], .int .i64 0]) ∧ BytesAt w' s xs ∧ Stored g h m n c w w'

set_option maxHeartbeats 1000000 in
theorem do_ok {w : World} {g h n : Nat} {m : Nat → Nat} {c : Int} (B : Buf w g h m n c) (K : Int) (a k v u : Nat) {f : Nat → Nat} (hf : Mb.IsB f) (A : Option Addr) (L cap : Nat) (hcap : L ≤ cap) (hcap2 : cap ≤ 9223372036854775807)
    (hb : BytesAt w (.slice A L cap) (Mb.bl f 0 L)) (hv : v < 18446744073709551616) (ok : chk (8 * (n : Int)) K a k L = 0) :
    Calls Try.prog 55 #[.pointer (some ⟨g, 0, none⟩), .agg #[.int .i64 K, .int .i64 a, .int .i64 k, .int .u64 v, .int .u64 u, .slice A L cap]] w
      (Did (Mb.ansV m K a k) (Mb.ansD m K a k v) (Mb.ansB m K a k) g h (Mb.aft m K a k v u f) n (nxt c) w) := by
  have hg := B.g_lt
  have hh := B.h_lt
  have hfw := B.few
  have HB0 := (B.alloc (.cells #[.int .i64 K, .int .i64 a, .int .i64 k, .int .u64 v, .int .u64 u, .slice A L cap] 47)).alloc (.cells #[.int .u64 0, .bool false, .slice none 0 0] 49)
  have HC := acc_made w K a k v u (.slice A L cap) (.cells #[.int .u64 0, .bool false, .slice none 0 0] 49)
  have HA := ans_made w (.cells #[.int .i64 K, .int .i64 a, .int .i64 k, .int .u64 v, .int .u64 u, .slice A L cap] 47)
  have HW := ((Below.refl w.heap.size w).alloc (Nat.le_refl _) (.cells #[.int .i64 K, .int .i64 a, .int .i64 k, .int .u64 v, .int .u64 u, .slice A L cap] 47)).alloc (by simp) (.cells #[.int .u64 0, .bool false, .slice none 0 0] 49)
  have HV := hb.below HW
  have HQ := Lib.hid ok
  have HF := Lib.hid hf
  clear B ok hb hf
  go_enter Try.func55, Try.ntmps55
  go_wp2
  generalize (w.alloc (.cells #[.int .i64 K, .int .i64 (a : Int), .int .i64 (k : Int), .int .u64 (v : Int), .int .u64 (u : Int), .slice A L cap] 47)).alloc (.cells #[.int .u64 0, .bool false, .slice none 0 0] 49) = W at HC HA HB0 HW HV ⊢
  have HC2 := HC
  obtain ⟨c0, c1, c2, c3, c4, c5⟩ := HC2
  go_region_held3 (fun w' => w'.cell? ⟨w.heap.size, 0, none⟩ = some (.int .i64 K) ∧ w'.cell? ⟨w.heap.size, 1, none⟩ = some (.int .i64 a) ∧ w'.cell? ⟨w.heap.size, 2, none⟩ = some (.int .i64 k) ∧ w'.cell? ⟨w.heap.size, 3, none⟩ = some (.int .u64 v) ∧ w'.cell? ⟨w.heap.size, 4, none⟩ = some (.int .u64 u) ∧ w'.cell? ⟨w.heap.size, 5, none⟩ = some (.slice A L cap))
    (go_keep)
    (first
      | (go_at_call 37; refine (size_any HB0.drew).mono ?_; rintro e w' ⟨rfl, rfl⟩)
      | (go_at_call 70; refine (check_any _ K a k v u A L cap _ (by omega)).mono ?_; rintro e w1 ⟨rfl, hb1⟩; rw [HQ.out]; have hb2 := below_drew hb1; clear hb1; obtain ⟨k0, k1, k2, k3, k4, k5⟩ := HC.below hb2))
  have HB1 := HB0.below hb2
  have hn0 := HB1.count
  have hn1 := HB1.count_free
  have HB2 := HB1.setCount (nxt c)
  have HT2 := (Touch.refl (Two g h) w1).setCell (p := ⟨g, 1, none⟩) (.inl rfl) (.int .i64 (nxt c))
  have HC2 := (HC.below hb2).touch HT2 (by omega) (by omega)
  have HA2 := (HA.later hb2).touch HT2 (by omega) (by omega)
  have HV2 := (HV.below hb2).touch HB1 HT2
  have HT1 := (Touch.of_below (S := Two g h) HW).trans ((Touch.of_below (S := Two g h) hb2).trans HT2)
  clear c0 c1 c2 c3 c4 c5 k0 k1 k2 k3 k4 k5 HB0 HC HA HV HW hb2 HB1
  go_wp2_with (first
    | (go_at_call 71; refine (addOne g 1 c _ hn0 hn1).mono ?_; rintro e w2 ⟨rfl, hw2⟩; rw [hw2] at HB2 HT2 HC2 HA2 HV2 HT1; clear hw2 hn0 hn1; obtain ⟨c0, c1, c2, c3, c4, c5⟩ := HC2)
    | (go_at_call 72; refine (access_any HB2 K a k v u HF.out A L cap hcap hcap2 HV2 hv HQ.out).mono ?_; rintro e w3 ⟨x, rfl, ⟨A3, cp3, rfl, hx⟩, hst⟩; have HX : Hid (BytesAt w3 (.slice A3 (Mb.ansB m K a k).length cp3) (Mb.ansB m K a k)) := Lib.hid ⟨A3, cp3, rfl, hx⟩; have HA3 := HA2.touch hst.2 (by omega) (by omega); have HA4 := HA3; obtain ⟨a0, a1, a2, f0, f1, f2, _⟩ := HA4; have HST := Lib.hid (hst.from_ HT1); clear hx hst))
  refine bodyPost_ret (v := .tuple #[.agg #[.int .u64 (Mb.ansV m K a k : Nat), .bool (Mb.ansD m K a k v), .slice A3 (Mb.ansB m K a k).length cp3], .int .i64 0]) ?_ rfl ?_
  · simp [results, Try.results55, go_sem, a0, a1, a2]
  · refine ⟨_, rfl, HX.out.answer HA3 _ _ _, ?_⟩
    exact ((HST.out.setNew hg hh (Nat.le_succ _) _).setNew hg hh (Nat.le_succ _) _).setNew hg hh (Nat.le_succ _) _

/-- The error of an access to no buffer. -/
def chkNil (K P N : Int) (L : Nat) : Int := if chk 0 K P N L = 0 then 2 else chk 0 K P N L

set_option maxHeartbeats 1000000 in
theorem do_nil (w : World) (K P N V U : Int) (A : Option Addr) (L cap : Nat) :
    Calls Try.prog 55 #[.pointer none, .agg #[.int .i64 K, .int .i64 P, .int .i64 N, .int .u64 V, .int .u64 U, .slice A L cap]] w
      (Made (.tuple #[.agg #[.int .u64 0, .bool false, .slice none 0 0], .int .i64 (chkNil K P N L)]) w) := by
  have HC := acc_made w K P N V U (.slice A L cap) (.cells #[.int .u64 0, .bool false, .slice none 0 0] 49)
  have HA := ans_made w (.cells #[.int .i64 K, .int .i64 P, .int .i64 N, .int .u64 V, .int .u64 U, .slice A L cap] 47)
  have HW := ((Below.refl w.heap.size w).alloc (Nat.le_refl _) (.cells #[.int .i64 K, .int .i64 P, .int .i64 N, .int .u64 V, .int .u64 U, .slice A L cap] 47)).alloc (by simp) (.cells #[.int .u64 0, .bool false, .slice none 0 0] 49)
  have HN := Lib.hid (show chkNil K P N L = if chk 0 K P N L = 0 then 2 else chk 0 K P N L by rfl)
  generalize chkNil K P N L = r at HN ⊢
  generalize hq : chk 0 K P N L = q at HN
  have HQ := Lib.hid hq
  clear hq
  by_cases h0 : q = 0
  · have hr : r = 2 := by rw [HN.out, if_pos h0]
    subst hr
    subst h0
    clear HN
    go_enter Try.func55, Try.ntmps55
    go_wp2
    generalize (w.alloc (.cells #[.int .i64 K, .int .i64 P, .int .i64 N, .int .u64 V, .int .u64 U, .slice A L cap] 47)).alloc (.cells #[.int .u64 0, .bool false, .slice none 0 0] 49) = W at HC HA HW ⊢
    have HC2 := HC
    obtain ⟨c0, c1, c2, c3, c4, c5⟩ := HC2
    go_region_held3 (fun w' => w'.cell? ⟨w.heap.size, 0, none⟩ = some (.int .i64 K) ∧ w'.cell? ⟨w.heap.size, 1, none⟩ = some (.int .i64 P) ∧ w'.cell? ⟨w.heap.size, 2, none⟩ = some (.int .i64 N) ∧ w'.cell? ⟨w.heap.size, 3, none⟩ = some (.int .u64 V) ∧ w'.cell? ⟨w.heap.size, 4, none⟩ = some (.int .u64 U) ∧ w'.cell? ⟨w.heap.size, 5, none⟩ = some (.slice A L cap))
      (go_keep)
      (first
        | (go_at_call 37; refine (size_nil _).mono ?_; rintro e w' ⟨rfl, rfl⟩)
        | (go_at_call 70; refine (check_any 0 K P N V U A L cap _ (by omega)).mono ?_; rintro e w1 ⟨rfl, hb1⟩; rw [HQ.out]; have hb2 := below_drew hb1; clear hb1; obtain ⟨k0, k1, k2, k3, k4, k5⟩ := HC.below hb2; have HA1 := HA.later hb2; obtain ⟨a0, a1, a2, f0, f1, f2, _⟩ := HA1))
    go_wp2
    refine bodyPost_ret (v := .tuple #[.agg #[.int .u64 0, .bool false, .slice none 0 0], .int .i64 2]) ?_ rfl ?_
    · simp [results, Try.results55, go_sem, a0, a1, a2]
    · refine ⟨rfl, ?_⟩
      exact (((HW.trans (hb2.mono HW.size)).setCell (Nat.le_succ _) _).setCell (Nat.le_succ _) _).setCell (Nat.le_succ _) _
  · have hr : r = q := by rw [HN.out, if_neg h0]
    subst hr
    have hno : (r != 0) = true := by simpa using h0
    clear HN h0
    go_enter Try.func55, Try.ntmps55
    go_wp2
    generalize (w.alloc (.cells #[.int .i64 K, .int .i64 P, .int .i64 N, .int .u64 V, .int .u64 U, .slice A L cap] 47)).alloc (.cells #[.int .u64 0, .bool false, .slice none 0 0] 49) = W at HC HA HW ⊢
    have HC2 := HC
    obtain ⟨c0, c1, c2, c3, c4, c5⟩ := HC2
    go_region_held3 (fun w' => w'.cell? ⟨w.heap.size, 0, none⟩ = some (.int .i64 K) ∧ w'.cell? ⟨w.heap.size, 1, none⟩ = some (.int .i64 P) ∧ w'.cell? ⟨w.heap.size, 2, none⟩ = some (.int .i64 N) ∧ w'.cell? ⟨w.heap.size, 3, none⟩ = some (.int .u64 V) ∧ w'.cell? ⟨w.heap.size, 4, none⟩ = some (.int .u64 U) ∧ w'.cell? ⟨w.heap.size, 5, none⟩ = some (.slice A L cap))
      (go_keep)
      (first
        | (go_at_call 37; refine (size_nil _).mono ?_; rintro e w' ⟨rfl, rfl⟩)
        | (go_at_call 70; refine (check_any 0 K P N V U A L cap _ (by omega)).mono ?_; rintro e w1 ⟨rfl, hb1⟩; rw [HQ.out]; have hb2 := below_drew hb1; clear hb1; obtain ⟨k0, k1, k2, k3, k4, k5⟩ := HC.below hb2; have HA1 := HA.later hb2; obtain ⟨a0, a1, a2, f0, f1, f2, _⟩ := HA1))
    go_wp2
    refine bodyPost_ret (v := .tuple #[.agg #[.int .u64 0, .bool false, .slice none 0 0], .int .i64 r]) ?_ rfl ?_
    · simp [results, Try.results55, go_sem, a0, a1, a2]
    · refine ⟨rfl, ?_⟩
      exact (((HW.trans (hb2.mono HW.size)).setCell (Nat.le_succ _) _).setCell (Nat.le_succ _) _).setCell (Nat.le_succ _) _

theorem chkNil_12 (K P N : Int) (L : Nat) : chkNil K P N L = 1 ∨ chkNil K P N L = 2 := by
  unfold chkNil chk
  by_cases h1 : formed K N L = false
  · simp [h1]
  · rw [if_neg h1]
    by_cases h2 : P < 0 ∨ 0 < P ∨ 0 - P < N
    · rw [if_pos h2]
      exact .inr (by decide)
    · rw [if_neg h2]
      by_cases h3 : numB K = true ∧ P % N ≠ 0
      · have := formed_num (by simpa using h1) h3.1
        omega
      · simp [if_neg h3]

theorem do_plain {w : World} {g h n : Nat} {m : Nat → Nat} {c : Int} (B : Buf w g h m n c) (K : Int) (a k v u : Nat) (hv : v < 18446744073709551616) (ok : chk (8 * (n : Int)) K a k 0 = 0) :
    Calls Try.prog 55 #[.pointer (some ⟨g, 0, none⟩), .agg #[.int .i64 K, .int .i64 a, .int .i64 k, .int .u64 v, .int .u64 u, .slice none 0 0]] w
      (Did (Mb.ansV m K a k) (Mb.ansD m K a k v) (Mb.ansB m K a k) g h (Mb.aft m K a k v u (fun _ => 0)) n (nxt c) w) :=
  do_ok B K a k v u Mb.zero_isB none 0 0 (Nat.le_refl _) (by decide) (bytesAt_none _ _ _ _) hv ok

theorem acc_one (w : World) (K P N V U : Int) (s : Value) : AccAt w.heap.size (w.alloc (.cells #[.int .i64 K, .int .i64 P, .int .i64 N, .int .u64 V, .int .u64 U, s] 47)) K P N V U s := by
  refine ⟨?_, ?_, ?_, ?_, ?_, ?_⟩
  all_goals go_simp

/-- .. told of one access: where the answer stands is said outright. -/
def Told3 (V : Nat) (D : Bool) (g h : Nat) (m : Nat → Nat) (n : Nat) (c : Int) (w : World) (e : Ending) (w' : World) : Prop :=
  ∃ A l cap, e = .returned (.tuple #[.agg #[.int .u64 V, .bool D, .slice A l cap], .int .i64 0]) ∧ Stored g h m n c w w'

theorem Did.told {V : Nat} {D : Bool} {xs : List Int} {g h : Nat} {m : Nat → Nat} {n : Nat} {c : Int} {w : World} {e : Ending} {w' : World} (hd : Did V D xs g h m n c w e w') : Told3 V D g h m n c w e w' := by
  obtain ⟨s, he, ⟨A, cap, hs, _⟩, hst⟩ := hd
  subst hs
  exact ⟨A, _, cap, he, hst⟩

end Go.Proofs.Ytijgfaggakbajaa
