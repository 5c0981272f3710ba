/-
  Layer 2's Do: an access that may be, walked whole.
-/
import Derived.Test.YtplomefkmgkdjaaMembufAccess
namespace Go.Proofs.Ytplomefkmgkdjaa
open Go.RowKit

namespace Mb
/-- What was there, where an access tells it. -/
def ansV (m : Nat → Nat) (K : Int) (a k : Nat) : Nat := if K = 1 ∨ K = 3 ∨ K = 4 then nm m a k else 0
/-- Did it store what it compared for? -/
def ansD (m : Nat → Nat) (K : Int) (a k v : Nat) : Bool := decide (K = 4) && decide (nm m a k = v % 2 ^ (8 * k))
/-- What was read. -/
def ansB (m : Nat → Nat) (K : Int) (a k : Nat) : List Int := if K = 5 then bl m a k else []
/-- The bytes behind it. -/
def aft (m : Nat → Nat) (K : Int) (a k v u : Nat) (f : Nat → Nat) : Nat → Nat :=
  if K = 2 then put m a k v
  else if K = 3 then put m a k (nm m a k + v)
  else if K = 4 then (if nm m a k = v % 2 ^ (8 * k) then put m a k u else m)
  else if K = 6 then put m a k (nm f 0 k)
  else m
end Mb

set_option maxHeartbeats 1000000 in
theorem access_cas {w : World} {g h n : Nat} {m : Nat → Nat} {c : Int} (B : Buf w g h m n c) (a k v u : Nat) (hk : a % 8 + k ≤ 8) (ha : a / 8 < n) (hv : v < 18446744073709551616) (s : Value) :
    Calls Try.prog 37 #[.pointer (some ⟨g, 0, none⟩), .agg #[.int .i64 4, .int .i64 a, .int .i64 k, .int .u64 v, .int .u64 u, s]] w
      (Answered (Mb.nm m a k) (decide (Mb.nm m a k = v % 2 ^ (8 * k))) [] g h (if Mb.nm m a k = v % 2 ^ (8 * k) then Mb.put m a k u else m) n c w) := by
  have hg := B.g_lt
  have hh := B.h_lt
  have HB := Lib.hid B
  clear B
  by_cases hit : Mb.nm m a k = v % 2 ^ (8 * k)
  · rw [if_pos hit, decide_eq_true hit]
    have HH := Lib.hid hit
    clear hit
    go_enter Try.func37, Try.ntmps37
    go_wp2_with (go_at_call 45; refine (cas_hit ((HB.out.alloc _).alloc _) a k v u hk ha hv HH.out 4 s).mono ?_; rintro e w1 ⟨rfl, hst⟩; obtain ⟨a0, a1, a2, f0, f1, f2, _⟩ := ans_touch hst.2 hg hh; have HST0 := Lib.hid hst; clear hst)
    refine bodyPost_ret (v := .agg #[.int .u64 (Mb.nm m a k : Nat), .bool true, .slice none 0 0]) ?_ rfl ?_
    · simp [results, Try.results37, go_sem, a0, a1, a2]
    · refine ⟨_, rfl, BytesAt.nil _, ?_⟩
      have HST := HST0.out.from_ (boxes_touch (Two g h) w _ _)
      exact ((HST.setNew hg hh (Nat.le_succ _) _).setNew hg hh (Nat.le_succ _) _).setNew hg hh (Nat.le_succ _) _
  · rw [if_neg hit, decide_eq_false hit]
    have HH := Lib.hid hit
    clear hit
    go_enter Try.func37, Try.ntmps37
    go_wp2_with (go_at_call 45; refine (cas_miss ((HB.out.alloc _).alloc _) a k v u hk ha hv HH.out 4 s).mono ?_; rintro e w1 ⟨rfl, hst⟩; obtain ⟨a0, a1, a2, f0, f1, f2, _⟩ := ans_touch hst.2 hg hh; have HST0 := Lib.hid hst; clear hst)
    refine bodyPost_ret (v := .agg #[.int .u64 (Mb.nm m a k : Nat), .bool false, .slice none 0 0]) ?_ rfl ?_
    · simp [results, Try.results37, go_sem, a0, a1, a2]
    · refine ⟨_, rfl, BytesAt.nil _, ?_⟩
      have HST := HST0.out.from_ (boxes_touch (Two g h) w _ _)
      exact ((HST.setNew hg hh (Nat.le_succ _) _).setNew hg hh (Nat.le_succ _) _).setNew hg hh (Nat.le_succ _) _

/-- Which kinds there are, of those that may be. -/
theorem kinds {S K P N : Int} {L : Nat} (h : chk S K P N L = 0) :
    ((K = 1 ∨ K = 2 ∨ K = 4) ∧ (N = 4 ∨ N = 8) ∧ P % N = 0) ∨ (K = 3 ∧ N = 8 ∧ P % 8 = 0) ∨ (K = 5 ∧ 0 ≤ N ∧ N ≤ 8) ∨ (K = 6 ∧ N = L ∧ N ≤ 8) := by
  obtain ⟨hf, h0, h1, h2, h3⟩ := chk_ok h
  have hf0 := hf
  unfold formed at hf
  by_cases c1 : K = 1 ∨ K = 2 ∨ K = 4
  · have hk : numB K = true := by rcases c1 with rfl | rfl | rfl <;> rfl
    exact .inl ⟨c1, formed_num hf0 hk, h3 hk⟩
  · rw [if_neg c1] at hf
    by_cases c3 : K = 3
    · rw [if_pos c3] at hf
      have hk : numB K = true := by subst c3; rfl
      have hN : N = 8 := by simpa using hf
      have hm := h3 hk
      rw [hN] at hm
      exact .inr (.inl ⟨c3, hN, hm⟩)
    · rw [if_neg c3] at hf
      by_cases c5 : K = 5
      · rw [if_pos c5] at hf
        have := formed_len hf0
        exact .inr (.inr (.inl ⟨c5, this.1, this.2⟩))
      · rw [if_neg c5] at hf
        by_cases c6 : K = 6
        · rw [if_pos c6] at hf
          simp at hf
          exact .inr (.inr (.inr ⟨c6, hf.1, hf.2⟩))
        · rw [if_neg c6] at hf
          cases hf

theorem access_any {w : World} {g h n : Nat} {m : Nat → Nat} {c : Int} (B : Buf w g h m n c) (K : Int) (a k v u : Nat) {f : Nat → Nat} (hf : Mb.IsB f) (A : Option Addr) (L cap : Nat) (hcap : L ≤ cap) (hcap2 : cap ≤ 9223372036854775807)
    (hb : BytesAt w (.slice A L cap) (Mb.bl f 0 L)) (hv : v < 18446744073709551616) (ok : chk (8 * (n : Int)) K a k L = 0) :
    Calls Try.prog 37 #[.pointer (some ⟨g, 0, none⟩), .agg #[.int .i64 K, .int .i64 a, .int .i64 k, .int .u64 v, .int .u64 u, .slice A L cap]] w
      (Answered (Mb.ansV m K a k) (Mb.ansD m K a k v) (Mb.ansB m K a k) g h (Mb.aft m K a k v u f) n c w) := by
  obtain ⟨_, _, h1, h2, _⟩ := chk_ok ok
  have hkn := kinds ok
  rcases hkn with ⟨hk, hN, hm⟩ | ⟨rfl, hN, hm⟩ | ⟨rfl, hN0, hN⟩ | ⟨rfl, hN, hN8⟩
  · have ha : a % 8 + k ≤ 8 ∧ a / 8 < n := by
      rcases hN with hN | hN
      · have : k = 4 := by omega
        subst this
        omega
      · have : k = 8 := by omega
        subst this
        omega
    rcases hk with rfl | rfl | rfl
    · exact access_load B a k ha.1 ha.2 v u _
    · exact access_store B a k v ha.1 ha.2 hv u _
    · exact access_cas B a k v u ha.1 ha.2 hv _
  · have : k = 8 := by omega
    subst this
    exact access_add B a v (by omega) (by omega) u _
  · exact access_read B a k (by omega) v u _
  · have : L = k := by omega
    subst this
    exact access_write B a L (by omega) (by omega) v u hf A cap hcap hcap2 hb _

/-- Six cells of an access, in block b. -/
structure AccAt (b : Nat) (W : World) (K P N V U : Int) (s : Value) : Prop where
  c0 : W.cell? ⟨b, 0, none⟩ = some (.int .i64 K)
  c1 : W.cell? ⟨b, 1, none⟩ = some (.int .i64 P)
  c2 : W.cell? ⟨b, 2, none⟩ = some (.int .i64 N)
  c3 : W.cell? ⟨b, 3, none⟩ = some (.int .u64 V)
  c4 : W.cell? ⟨b, 4, none⟩ = some (.int .u64 U)
  c5 : W.cell? ⟨b, 5, none⟩ = some s
theorem AccAt.below {b : Nat} {W W' : World} {K P N V U : Int} {s : Value} (h : AccAt b W K P N V U s) (hb : Below W.heap.size W W') : AccAt b W' K P N V U s := by
  have hlt : b < W.heap.size := by
    rcases Nat.lt_or_ge b W.heap.size with hlt | hge
    · exact hlt
    · have := h.c0
      simp [World.cell?, Array.getElem?_eq_none hge] at this
  have hc := fun i => hb.cell (p := ⟨b, i, none⟩) hlt
  exact ⟨(hc 0).trans h.c0, (hc 1).trans h.c1, (hc 2).trans h.c2, (hc 3).trans h.c3, (hc 4).trans h.c4, (hc 5).trans h.c5⟩

/-- The place for an answer, whose cells stand in W, in a world behind a call. -/
theorem AnsAt.later {b : Nat} {W W' : World} (h : AnsAt b W) (hb : Below W.heap.size W W') : AnsAt b W' := by
  have hlt : b < W.heap.size := (Array.getElem?_eq_some_iff.1 h.blk).1
  exact .of_blk ((hb.block b hlt).trans h.blk)
theorem ans_made (w : World) (o : Obj) : AnsAt (w.heap.size + 1) ((w.alloc o).alloc (.cells #[.int .u64 0, .bool false, .slice none 0 0] 39)) := by
  have e : (w.alloc o).heap.size = w.heap.size + 1 := by simp
  refine .of_blk ?_
  rw [← e]
  exact Go.Deep.blk_alloc_new _ _
theorem acc_made (w : World) (K P N V U : Int) (s : Value) (p : Obj) : AccAt w.heap.size ((w.alloc (.cells #[.int .i64 K, .int .i64 P, .int .i64 N, .int .u64 V, .int .u64 U, s] 30)).alloc p) K P N V U s := by
  refine ⟨?_, ?_, ?_, ?_, ?_, ?_⟩
  all_goals go_simp
theorem AccAt.lt {b : Nat} {W : World} {K P N V U : Int} {s : Value} (h : AccAt b W K P N V U s) : b < W.heap.size := by
  rcases Nat.lt_or_ge b W.heap.size with hlt | hge
  · exact hlt
  · have := h.c0
    simp [World.cell?, Array.getElem?_eq_none hge] at this

set_option maxHeartbeats 1000000 in
theorem do_no {w : World} {g h n : Nat} {m : Nat → Nat} {c : Int} (B : Buf w g h m n c) (K P N V U : Int) (A : Option Addr) (L cap : Nat) (no : chk (8 * (n : Int)) K P N L ≠ 0) :
    Calls Try.prog 27 #[.pointer (some ⟨g, 0, none⟩), .agg #[.int .i64 K, .int .i64 P, .int .i64 N, .int .u64 V, .int .u64 U, .slice A L cap]] w
      (Made (.tuple #[.agg #[.int .u64 0, .bool false, .slice none 0 0], .int .i64 (chk (8 * (n : Int)) K P N L)]) w) := by
  have hf := B.few
  have HB0 := (B.alloc (.cells #[.int .i64 K, .int .i64 P, .int .i64 N, .int .u64 V, .int .u64 U, .slice A L cap] 30)).alloc (.cells #[.int .u64 0, .bool false, .slice none 0 0] 39)
  have HC := acc_made w K P N V U (.slice A L cap) (.cells #[.int .u64 0, .bool false, .slice none 0 0] 39)
  have HA := ans_made w (.cells #[.int .i64 K, .int .i64 P, .int .i64 N, .int .u64 V, .int .u64 U, .slice A L cap] 30)
  have HW := ((Below.refl w.heap.size w).alloc (Nat.le_refl _) (.cells #[.int .i64 K, .int .i64 P, .int .i64 N, .int .u64 V, .int .u64 U, .slice A L cap] 30)).alloc (by simp) (.cells #[.int .u64 0, .bool false, .slice none 0 0] 39)
  generalize hq : chk (8 * (n : Int)) K P N L = q at no ⊢
  have hno : (q != 0) = true := by simpa using no
  have HQ := Lib.hid hq
  clear B hq no
  go_enter Try.func27, Try.ntmps27
  go_wp2
  generalize (w.alloc (.cells #[.int .i64 K, .int .i64 P, .int .i64 N, .int .u64 V, .int .u64 U, .slice A L cap] 30)).alloc (.cells #[.int .u64 0, .bool false, .slice none 0 0] 39) = W at HC HA HB0 HW ⊢
  have HC2 := HC
  obtain ⟨c0, c1, c2, c3, c4, c5⟩ := HC2
  go_region_held3 (fun w' => w'.cell? ⟨w.heap.size, 0, none⟩ = some (.int .i64 K) ∧ w'.cell? ⟨w.heap.size, 1, none⟩ = some (.int .i64 P) ∧ w'.cell? ⟨w.heap.size, 2, none⟩ = some (.int .i64 N) ∧ w'.cell? ⟨w.heap.size, 3, none⟩ = some (.int .u64 V) ∧ w'.cell? ⟨w.heap.size, 4, none⟩ = some (.int .u64 U) ∧ w'.cell? ⟨w.heap.size, 5, none⟩ = some (.slice A L cap))
    (go_keep)
    (first
      | (go_at_call 35; refine (size_any HB0.drew).mono ?_; rintro e w' ⟨rfl, rfl⟩)
      | (go_at_call 34; refine (check_any _ K P N V U A L cap _ (by omega)).mono ?_; rintro e w1 ⟨rfl, hb1⟩; rw [HQ.out]; have hb2 := below_drew hb1; clear hb1; obtain ⟨k0, k1, k2, k3, k4, k5⟩ := HC.below hb2; have HA1 := HA.later hb2; obtain ⟨a0, a1, a2, f0, f1, f2, _⟩ := HA1))
  go_wp2
  refine bodyPost_ret (v := .tuple #[.agg #[.int .u64 0, .bool false, .slice none 0 0], .int .i64 q]) ?_ rfl ?_
  · simp [results, Try.results27, go_sem, a0, a1, a2]
  · refine ⟨rfl, ?_⟩
    exact (((HW.trans (hb2.mono HW.size)).setCell (Nat.le_succ _) _).setCell (Nat.le_succ _) _).setCell (Nat.le_succ _) _

theorem AccAt.touch {b g h : Nat} {W W' : World} {K P N V U : Int} {s : Value} (ha : AccAt b W K P N V U s) (ht : Touch (Two g h) W W') (hg : b ≠ g) (hh : b ≠ h) : AccAt b W' K P N V U s := by
  have hn : ¬ Two g h b := fun e => e.elim hg hh
  have hc := fun i => ht.cell (p := ⟨b, i, none⟩) ha.lt hn
  exact ⟨(hc 0).trans ha.c0, (hc 1).trans ha.c1, (hc 2).trans ha.c2, (hc 3).trans ha.c3, (hc 4).trans ha.c4, (hc 5).trans ha.c5⟩
theorem AnsAt.touch {b g h : Nat} {W W' : World} (ha : AnsAt b W) (ht : Touch (Two g h) W W') (hg : b ≠ g) (hh : b ≠ h) : AnsAt b W' :=
  .of_blk ((ht.block b (Array.getElem?_eq_some_iff.1 ha.blk).1 fun e => e.elim hg hh).trans ha.blk)

/-- A call that told an answer beside no error, and left the buffer with the bytes m, one access more counted. -/
def Did (V : Nat) (D : Bool) (xs : List Int) (g h : Nat) (m : Nat → Nat) (n : Nat) (c : Int) (w : World) (e : Ending) (w' : World) : Prop :=
  ∃ s, e = .returned (.tuple #[.agg #[.int .u64 V, .bool D, s], .int .i64 0]) ∧ BytesAt w' s xs ∧ Stored g h m n c w w'

set_option maxHeartbeats 1000000 in
theorem do_ok {w : World} {g h n : Nat} {m : Nat → Nat} {c : Int} (B : Buf w g h m n c) (K : Int) (a k v u : Nat) {f : Nat → Nat} (hf : Mb.IsB f) (A : Option Addr) (L cap : Nat) (hcap : L ≤ cap) (hcap2 : cap ≤ 9223372036854775807)
    (hb : BytesAt w (.slice A L cap) (Mb.bl f 0 L)) (hv : v < 18446744073709551616) (ok : chk (8 * (n : Int)) K a k L = 0) :
    Calls Try.prog 27 #[.pointer (some ⟨g, 0, none⟩), .agg #[.int .i64 K, .int .i64 a, .int .i64 k, .int .u64 v, .int .u64 u, .slice A L cap]] w
      (Did (Mb.ansV m K a k) (Mb.ansD m K a k v) (Mb.ansB m K a k) g h (Mb.aft m K a k v u f) n (nxt c) w) := by
  have hg := B.g_lt
  have hh := B.h_lt
  have hfw := B.few
  have HB0 := (B.alloc (.cells #[.int .i64 K, .int .i64 a, .int .i64 k, .int .u64 v, .int .u64 u, .slice A L cap] 30)).alloc (.cells #[.int .u64 0, .bool false, .slice none 0 0] 39)
  have HC := acc_made w K a k v u (.slice A L cap) (.cells #[.int .u64 0, .bool false, .slice none 0 0] 39)
  have HA := ans_made w (.cells #[.int .i64 K, .int .i64 a, .int .i64 k, .int .u64 v, .int .u64 u, .slice A L cap] 30)
  have HW := ((Below.refl w.heap.size w).alloc (Nat.le_refl _) (.cells #[.int .i64 K, .int .i64 a, .int .i64 k, .int .u64 v, .int .u64 u, .slice A L cap] 30)).alloc (by simp) (.cells #[.int .u64 0, .bool false, .slice none 0 0] 39)
  have HV := hb.below HW
  have HQ := Lib.hid ok
  have HF := Lib.hid hf
  clear B ok hb hf
  go_enter Try.func27, Try.ntmps27
  go_wp2
  generalize (w.alloc (.cells #[.int .i64 K, .int .i64 (a : Int), .int .i64 (k : Int), .int .u64 (v : Int), .int .u64 (u : Int), .slice A L cap] 30)).alloc (.cells #[.int .u64 0, .bool false, .slice none 0 0] 39) = W at HC HA HB0 HW HV ⊢
  have HC2 := HC
  obtain ⟨c0, c1, c2, c3, c4, c5⟩ := HC2
  go_region_held3 (fun w' => w'.cell? ⟨w.heap.size, 0, none⟩ = some (.int .i64 K) ∧ w'.cell? ⟨w.heap.size, 1, none⟩ = some (.int .i64 a) ∧ w'.cell? ⟨w.heap.size, 2, none⟩ = some (.int .i64 k) ∧ w'.cell? ⟨w.heap.size, 3, none⟩ = some (.int .u64 v) ∧ w'.cell? ⟨w.heap.size, 4, none⟩ = some (.int .u64 u) ∧ w'.cell? ⟨w.heap.size, 5, none⟩ = some (.slice A L cap))
    (go_keep)
    (first
      | (go_at_call 35; refine (size_any HB0.drew).mono ?_; rintro e w' ⟨rfl, rfl⟩)
      | (go_at_call 34; refine (check_any _ K a k v u A L cap _ (by omega)).mono ?_; rintro e w1 ⟨rfl, hb1⟩; rw [HQ.out]; have hb2 := below_drew hb1; clear hb1; obtain ⟨k0, k1, k2, k3, k4, k5⟩ := HC.below hb2))
  have HB1 := HB0.below hb2
  have hn0 := HB1.count
  have hn1 := HB1.count_free
  have HB2 := HB1.setCount (nxt c)
  have HT2 := (Touch.refl (Two g h) w1).setCell (p := ⟨g, 1, none⟩) (.inl rfl) (.int .i64 (nxt c))
  have HC2 := (HC.below hb2).touch HT2 (by omega) (by omega)
  have HA2 := (HA.later hb2).touch HT2 (by omega) (by omega)
  have HV2 := (HV.below hb2).touch HB1 HT2
  have HT1 := (Touch.of_below (S := Two g h) HW).trans ((Touch.of_below (S := Two g h) hb2).trans HT2)
  clear c0 c1 c2 c3 c4 c5 k0 k1 k2 k3 k4 k5 HB0 HC HA HV HW hb2 HB1
  go_wp2_with (first
    | (go_at_call 36; refine (addOne g 1 c _ hn0 hn1).mono ?_; rintro e w2 ⟨rfl, hw2⟩; rw [hw2] at HB2 HT2 HC2 HA2 HV2 HT1; clear hw2 hn0 hn1; obtain ⟨c0, c1, c2, c3, c4, c5⟩ := HC2)
    | (go_at_call 37; refine (access_any HB2 K a k v u HF.out A L cap hcap hcap2 HV2 hv HQ.out).mono ?_; rintro e w3 ⟨x, rfl, ⟨A3, cp3, rfl, hx⟩, hst⟩; have HX : Hid (BytesAt w3 (.slice A3 (Mb.ansB m K a k).length cp3) (Mb.ansB m K a k)) := Lib.hid ⟨A3, cp3, rfl, hx⟩; have HA3 := HA2.touch hst.2 (by omega) (by omega); have HA4 := HA3; obtain ⟨a0, a1, a2, f0, f1, f2, _⟩ := HA4; have HST := Lib.hid (hst.from_ HT1); clear hx hst))
  refine bodyPost_ret (v := .tuple #[.agg #[.int .u64 (Mb.ansV m K a k : Nat), .bool (Mb.ansD m K a k v), .slice A3 (Mb.ansB m K a k).length cp3], .int .i64 0]) ?_ rfl ?_
  · simp [results, Try.results27, go_sem, a0, a1, a2]
  · refine ⟨_, rfl, HX.out.answer HA3 _ _ _, ?_⟩
    exact ((HST.out.setNew hg hh (Nat.le_succ _) _).setNew hg hh (Nat.le_succ _) _).setNew hg hh (Nat.le_succ _) _

/-- The error of an access to no buffer. -/
def chkNil (K P N : Int) (L : Nat) : Int := if chk 0 K P N L = 0 then 2 else chk 0 K P N L

set_option maxHeartbeats 1000000 in
theorem do_nil (w : World) (K P N V U : Int) (A : Option Addr) (L cap : Nat) :
    Calls Try.prog 27 #[.pointer none, .agg #[.int .i64 K, .int .i64 P, .int .i64 N, .int .u64 V, .int .u64 U, .slice A L cap]] w
      (Made (.tuple #[.agg #[.int .u64 0, .bool false, .slice none 0 0], .int .i64 (chkNil K P N L)]) w) := by
  have HC := acc_made w K P N V U (.slice A L cap) (.cells #[.int .u64 0, .bool false, .slice none 0 0] 39)
  have HA := ans_made w (.cells #[.int .i64 K, .int .i64 P, .int .i64 N, .int .u64 V, .int .u64 U, .slice A L cap] 30)
  have HW := ((Below.refl w.heap.size w).alloc (Nat.le_refl _) (.cells #[.int .i64 K, .int .i64 P, .int .i64 N, .int .u64 V, .int .u64 U, .slice A L cap] 30)).alloc (by simp) (.cells #[.int .u64 0, .bool false, .slice none 0 0] 39)
  have HN := Lib.hid (show chkNil K P N L = if chk 0 K P N L = 0 then 2 else chk 0 K P N L by rfl)
  generalize chkNil K P N L = r at HN ⊢
  generalize hq : chk 0 K P N L = q at HN
  have HQ := Lib.hid hq
  clear hq
  by_cases h0 : q = 0
  · have hr : r = 2 := by rw [HN.out, if_pos h0]
    subst hr
    subst h0
    clear HN
    go_enter Try.func27, Try.ntmps27
    go_wp2
    generalize (w.alloc (.cells #[.int .i64 K, .int .i64 P, .int .i64 N, .int .u64 V, .int .u64 U, .slice A L cap] 30)).alloc (.cells #[.int .u64 0, .bool false, .slice none 0 0] 39) = W at HC HA HW ⊢
    have HC2 := HC
    obtain ⟨c0, c1, c2, c3, c4, c5⟩ := HC2
    go_region_held3 (fun w' => w'.cell? ⟨w.heap.size, 0, none⟩ = some (.int .i64 K) ∧ w'.cell? ⟨w.heap.size, 1, none⟩ = some (.int .i64 P) ∧ w'.cell? ⟨w.heap.size, 2, none⟩ = some (.int .i64 N) ∧ w'.cell? ⟨w.heap.size, 3, none⟩ = some (.int .u64 V) ∧ w'.cell? ⟨w.heap.size, 4, none⟩ = some (.int .u64 U) ∧ w'.cell? ⟨w.heap.size, 5, none⟩ = some (.slice A L cap))
      (go_keep)
      (first
        | (go_at_call 35; refine (size_nil _).mono ?_; rintro e w' ⟨rfl, rfl⟩)
        | (go_at_call 34; refine (check_any 0 K P N V U A L cap _ (by omega)).mono ?_; rintro e w1 ⟨rfl, hb1⟩; rw [HQ.out]; have hb2 := below_drew hb1; clear hb1; obtain ⟨k0, k1, k2, k3, k4, k5⟩ := HC.below hb2; have HA1 := HA.later hb2; obtain ⟨a0, a1, a2, f0, f1, f2, _⟩ := HA1))
    go_wp2
    refine bodyPost_ret (v := .tuple #[.agg #[.int .u64 0, .bool false, .slice none 0 0], .int .i64 2]) ?_ rfl ?_
    · simp [results, Try.results27, go_sem, a0, a1, a2]
    · refine ⟨rfl, ?_⟩
      exact (((HW.trans (hb2.mono HW.size)).setCell (Nat.le_succ _) _).setCell (Nat.le_succ _) _).setCell (Nat.le_succ _) _
  · have hr : r = q := by rw [HN.out, if_neg h0]
    subst hr
    have hno : (r != 0) = true := by simpa using h0
    clear HN h0
    go_enter Try.func27, Try.ntmps27
    go_wp2
    generalize (w.alloc (.cells #[.int .i64 K, .int .i64 P, .int .i64 N, .int .u64 V, .int .u64 U, .slice A L cap] 30)).alloc (.cells #[.int .u64 0, .bool false, .slice none 0 0] 39) = W at HC HA HW ⊢
    have HC2 := HC
    obtain ⟨c0, c1, c2, c3, c4, c5⟩ := HC2
    go_region_held3 (fun w' => w'.cell? ⟨w.heap.size, 0, none⟩ = some (.int .i64 K) ∧ w'.cell? ⟨w.heap.size, 1, none⟩ = some (.int .i64 P) ∧ w'.cell? ⟨w.heap.size, 2, none⟩ = some (.int .i64 N) ∧ w'.cell? ⟨w.heap.size, 3, none⟩ = some (.int .u64 V) ∧ w'.cell? ⟨w.heap.size, 4, none⟩ = some (.int .u64 U) ∧ w'.cell? ⟨w.heap.size, 5, none⟩ = some (.slice A L cap))
      (go_keep)
      (first
        | (go_at_call 35; refine (size_nil _).mono ?_; rintro e w' ⟨rfl, rfl⟩)
        | (go_at_call 34; refine (check_any 0 K P N V U A L cap _ (by omega)).mono ?_; rintro e w1 ⟨rfl, hb1⟩; rw [HQ.out]; have hb2 := below_drew hb1; clear hb1; obtain ⟨k0, k1, k2, k3, k4, k5⟩ := HC.below hb2; have HA1 := HA.later hb2; obtain ⟨a0, a1, a2, f0, f1, f2, _⟩ := HA1))
    go_wp2
    refine bodyPost_ret (v := .tuple #[.agg #[.int .u64 0, .bool false, .slice none 0 0], .int .i64 r]) ?_ rfl ?_
    · simp [results, Try.results27, go_sem, a0, a1, a2]
    · refine ⟨rfl, ?_⟩
      exact (((HW.trans (hb2.mono HW.size)).setCell (Nat.le_succ _) _).setCell (Nat.le_succ _) _).setCell (Nat.le_succ _) _

theorem chkNil_12 (K P N : Int) (L : Nat) : chkNil K P N L = 1 ∨ chkNil K P N L = 2 := by
  unfold chkNil chk
  by_cases h1 : formed K N L = false
  · simp [h1]
  · rw [if_neg h1]
    by_cases h2 : P < 0 ∨ 0 < P ∨ 0 - P < N
    · rw [if_pos h2]
      exact .inr (by decide)
    · rw [if_neg h2]
      by_cases h3 : numB K = true ∧ P % N ≠ 0
      · have := formed_num (by simpa using h1) h3.1
        omega
      · simp [if_neg h3]

theorem do_plain {w : World} {g h n : Nat} {m : Nat → Nat} {c : Int} (B : Buf w g h m n c) (K : Int) (a k v u : Nat) (hv : v < 18446744073709551616) (ok : chk (8 * (n : Int)) K a k 0 = 0) :
    Calls Try.prog 27 #[.pointer (some ⟨g, 0, none⟩), .agg #[.int .i64 K, .int .i64 a, .int .i64 k, .int .u64 v, .int .u64 u, .slice none 0 0]] w
      (Did (Mb.ansV m K a k) (Mb.ansD m K a k v) (Mb.ansB m K a k) g h (Mb.aft m K a k v u (fun _ => 0)) n (nxt c) w) :=
  do_ok B K a k v u Mb.zero_isB none 0 0 (Nat.le_refl _) (by decide) (bytesAt_none _ _ _ _) hv ok

theorem acc_one (w : World) (K P N V U : Int) (s : Value) : AccAt w.heap.size (w.alloc (.cells #[.int .i64 K, .int .i64 P, .int .i64 N, .int .u64 V, .int .u64 U, s] 30)) K P N V U s := by
  refine ⟨?_, ?_, ?_, ?_, ?_, ?_⟩
  all_goals go_simp

/-- .. told of one access: where the answer stands is said outright. -/
def Told3 (V : Nat) (D : Bool) (g h : Nat) (m : Nat → Nat) (n : Nat) (c : Int) (w : World) (e : Ending) (w' : World) : Prop :=
  ∃ A l cap, e = .returned (.tuple #[.agg #[.int .u64 V, .bool D, .slice A l cap], .int .i64 0]) ∧ Stored g h m n c w w'

theorem Did.told {V : Nat} {D : Bool} {xs : List Int} {g h : Nat} {m : Nat → Nat} {n : Nat} {c : Int} {w : World} {e : Ending} {w' : World} (hd : Did V D xs g h m n c w e w') : Told3 V D g h m n c w e w' := by
  obtain ⟨s, he, ⟨A, cap, hs, _⟩, hst⟩ := hd
  subst hs
  exact ⟨A, _, cap, he, hst⟩

end Go.Proofs.Ytplomefkmgkdjaa
