/-
  Layer 2's Do: an access that may be, walked whole.
  Layer 6's guard: a call whose panic would be caught; what is called returns.
  The parts of a copy: layer 1's Chunks and its plain answer, walked; a slice that reads as a list of ints.
  Layer 5's plain facts: a copy's parts, one behind the other.
  Bytes appended to a row of the call's own, whatever they are (none, too), and where the row lies; a slice of bytes cloned.
  Layer 5's closures that tell the next access, walked.
  Layer 5's machine in memory: where its parts, its place, its closures and what it read stand; Next, walked.
  Layer 5's Next, walked: what a machine's steps do next, for each of the three that copy.
  Layer 5's Take, walked: what was read is kept behind what was read so far.
  Layer 5's Take, walked: a machine goes one part further.
-/
import Derived.Test.YtbfgbnalnjdheaaGreatP01
import Derived.Tactics2
import Derived.Defers
import Derived.Recover
import Derived.Deep.QuietTactic
import Derived.BigQuiet
import Derived.RegionTactic
import Derived.Lib.SliceRun
import Derived.OwnWalk
import Derived.Deep.RegionHeld3
import Derived.BigRegion
import Derived.Deep.RegionLaw
namespace Go.Proofs.YtbfgbnalnjdheaaGreat
open Go.RowKit

namespace Mb
/-- What was there, where an access tells it. -/
def ansV (m : Nat → Nat) (K : Int) (a k : Nat) : Nat := if K = 1 ∨ K = 3 ∨ K = 4 then nm m a k else 0
/-- Did it store what it compared for? -/
def ansD (m : Nat → Nat) (K : Int) (a k v : Nat) : Bool := decide (K = 4) && decide (nm m a k = v % 2 ^ (8 * k))
/-- What was read. -/
def ansB (m : Nat → Nat) (K : Int) (a k : Nat) : List Int := if K = 5 then bl m a k else []
/-- The bytes behind it. -/
def aft (m : Nat → Nat) (K : Int) (a k v u : Nat) (f : Nat → Nat) : Nat → Nat :=
  if K = 2 then put m a k v
  else if K = 3 then put m a k (nm m a k + v)
  else if K = 4 then (if nm m a k = v % 2 ^ (8 * k) then put m a k u else m)
  else if K = 6 then put m a k (nm f 0 k)
  else m
end Mb

set_option maxHeartbeats 1000000 in
theorem access_cas {w : World} {g h n : Nat} {m : Nat → Nat} {c : Int} (B : Buf w g h m n c) (a k v u : Nat) (hk : a % 8 + k ≤ 8) (ha : a / 8 < n) (hv : v < 18446744073709551616) (s : Value) :
    Calls Tryz.prog 41 #[.pointer (some ⟨g, 0, none⟩), .agg #[.int .i64 4, .int .i64 a, .int .i64 k, .int .u64 v, .int .u64 u, s]] w
      (Answered (Mb.nm m a k) (decide (Mb.nm m a k = v % 2 ^ (8 * k))) [] g h (if Mb.nm m a k = v % 2 ^ (8 * k) then Mb.put m a k u else m) n c w) := by
  have hg := B.g_lt
  have hh := B.h_lt
  have HB := Lib.hid B
  clear B
  by_cases hit : Mb.nm m a k = v % 2 ^ (8 * k)
  · rw [if_pos hit, decide_eq_true hit]
    have HH := Lib.hid hit
    clear hit
    go_enter Tryz.func41, Tryz.ntmps41
    go_wp2_with (go_at_call 70; refine (cas_hit ((HB.out.alloc _).alloc _) a k v u hk ha hv HH.out 4 s).mono ?_; rintro e w1 ⟨rfl, hst⟩; obtain ⟨a0, a1, a2, f0, f1, f2, _⟩ := ans_touch hst.2 hg hh; have HST0 := Lib.hid hst; clear hst)
    refine bodyPost_ret (v := .agg #[.int .u64 (Mb.nm m a k : Nat), .bool true, .slice none 0 0]) ?_ rfl ?_
    · simp [results, Tryz.results41, go_sem, a0, a1, a2]
    · refine ⟨_, rfl, BytesAt.nil _, ?_⟩
      have HST := HST0.out.from_ (boxes_touch (Two g h) w _ _)
      exact ((HST.setNew hg hh (Nat.le_succ _) _).setNew hg hh (Nat.le_succ _) _).setNew hg hh (Nat.le_succ _) _
  · rw [if_neg hit, decide_eq_false hit]
    have HH := Lib.hid hit
    clear hit
    go_enter Tryz.func41, Tryz.ntmps41
    go_wp2_with (go_at_call 70; refine (cas_miss ((HB.out.alloc _).alloc _) a k v u hk ha hv HH.out 4 s).mono ?_; rintro e w1 ⟨rfl, hst⟩; obtain ⟨a0, a1, a2, f0, f1, f2, _⟩ := ans_touch hst.2 hg hh; have HST0 := Lib.hid hst; clear hst)
    refine bodyPost_ret (v := .agg #[.int .u64 (Mb.nm m a k : Nat), .bool false, .slice none 0 0]) ?_ rfl ?_
    · simp [results, Tryz.results41, go_sem, a0, a1, a2]
    · refine ⟨_, rfl, BytesAt.nil _, ?_⟩
      have HST := HST0.out.from_ (boxes_touch (Two g h) w _ _)
      exact ((HST.setNew hg hh (Nat.le_succ _) _).setNew hg hh (Nat.le_succ _) _).setNew hg hh (Nat.le_succ _) _

/-- Which kinds there are, of those that may be. -/
theorem kinds {S K P N : Int} {L : Nat} (h : chk S K P N L = 0) :
    ((K = 1 ∨ K = 2 ∨ K = 4) ∧ (N = 4 ∨ N = 8) ∧ P % N = 0) ∨ (K = 3 ∧ N = 8 ∧ P % 8 = 0) ∨ (K = 5 ∧ 0 ≤ N ∧ N ≤ 8) ∨ (K = 6 ∧ N = L ∧ N ≤ 8) := by
  obtain ⟨hf, h0, h1, h2, h3⟩ := chk_ok h
  have hf0 := hf
  unfold formed at hf
  by_cases c1 : K = 1 ∨ K = 2 ∨ K = 4
  · have hk : numB K = true := by rcases c1 with rfl | rfl | rfl <;> rfl
    exact .inl ⟨c1, formed_num hf0 hk, h3 hk⟩
  · rw [if_neg c1] at hf
    by_cases c3 : K = 3
    · rw [if_pos c3] at hf
      have hk : numB K = true := by subst c3; rfl
      have hN : N = 8 := by simpa using hf
      have hm := h3 hk
      rw [hN] at hm
      exact .inr (.inl ⟨c3, hN, hm⟩)
    · rw [if_neg c3] at hf
      by_cases c5 : K = 5
      · rw [if_pos c5] at hf
        have := formed_len hf0
        exact .inr (.inr (.inl ⟨c5, this.1, this.2⟩))
      · rw [if_neg c5] at hf
        by_cases c6 : K = 6
        · rw [if_pos c6] at hf
          simp at hf
          exact .inr (.inr (.inr ⟨c6, hf.1, hf.2⟩))
        · rw [if_neg c6] at hf
          cases hf

theorem access_any {w : World} {g h n : Nat} {m : Nat → Nat} {c : Int} (B : Buf w g h m n c) (K : Int) (a k v u : Nat) {f : Nat → Nat} (hf : Mb.IsB f) (A : Option Addr) (L cap : Nat) (hcap : L ≤ cap) (hcap2 : cap ≤ 9223372036854775807)
    (hb : BytesAt w (.slice A L cap) (Mb.bl f 0 L)) (hv : v < 18446744073709551616) (ok : chk (8 * (n : Int)) K a k L = 0) :
    Calls Tryz.prog 41 #[.pointer (some ⟨g, 0, none⟩), .agg #[.int .i64 K, .int .i64 a, .int .i64 k, .int .u64 v, .int .u64 u, .slice A L cap]] w
      (Answered (Mb.ansV m K a k) (Mb.ansD m K a k v) (Mb.ansB m K a k) g h (Mb.aft m K a k v u f) n c w) := by
  obtain ⟨_, _, h1, h2, _⟩ := chk_ok ok
  have hkn := kinds ok
  rcases hkn with ⟨hk, hN, hm⟩ | ⟨rfl, hN, hm⟩ | ⟨rfl, hN0, hN⟩ | ⟨rfl, hN, hN8⟩
  · have ha : a % 8 + k ≤ 8 ∧ a / 8 < n := by
      rcases hN with hN | hN
      · have : k = 4 := by omega
        subst this
        omega
      · have : k = 8 := by omega
        subst this
        omega
    rcases hk with rfl | rfl | rfl
    · exact access_load B a k ha.1 ha.2 v u _
    · exact access_store B a k v ha.1 ha.2 hv u _
    · exact access_cas B a k v u ha.1 ha.2 hv _
  · have : k = 8 := by omega
    subst this
    exact access_add B a v (by omega) (by omega) u _
  · exact access_read B a k (by omega) v u _
  · have : L = k := by omega
    subst this
    exact access_write B a L (by omega) (by omega) v u hf A cap hcap hcap2 hb _

/-- Six cells of an access, in block b. -/
structure AccAt (b : Nat) (W : World) (K P N V U : Int) (s : Value) : Prop where
  c0 : W.cell? ⟨b, 0, none⟩ = some (.int .i64 K)
  c1 : W.cell? ⟨b, 1, none⟩ = some (.int .i64 P)
  c2 : W.cell? ⟨b, 2, none⟩ = some (.int .i64 N)
  c3 : W.cell? ⟨b, 3, none⟩ = some (.int .u64 V)
  c4 : W.cell? ⟨b, 4, none⟩ = some (.int .u64 U)
  c5 : W.cell? ⟨b, 5, none⟩ = some s
theorem AccAt.below {b : Nat} {W W' : World} {K P N V U : Int} {s : Value} (h : AccAt b W K P N V U s) (hb : Below W.heap.size W W') : AccAt b W' K P N V U s := by
  have hlt : b < W.heap.size := by
    rcases Nat.lt_or_ge b W.heap.size with hlt | hge
    · exact hlt
    · have := h.c0
      simp [World.cell?, Array.getElem?_eq_none hge] at this
  have hc := fun i => hb.cell (p := ⟨b, i, none⟩) hlt
  exact ⟨(hc 0).trans h.c0, (hc 1).trans h.c1, (hc 2).trans h.c2, (hc 3).trans h.c3, (hc 4).trans h.c4, (hc 5).trans h.c5⟩

/-- The place for an answer, whose cells stand in W, in a world behind a call. -/
theorem AnsAt.later {b : Nat} {W W' : World} (h : AnsAt b W) (hb : Below W.heap.size W W') : AnsAt b W' := by
  have hlt : b < W.heap.size := (Array.getElem?_eq_some_iff.1 h.blk).1
  exact .of_blk ((hb.block b hlt).trans h.blk)
theorem ans_made (w : World) (o : Obj) : AnsAt (w.heap.size + 1) ((w.alloc o).alloc (.cells #[.int .u64 0, .bool false, .slice none 0 0] 50)) := by
  have e : (w.alloc o).heap.size = w.heap.size + 1 := by simp
  refine .of_blk ?_
  rw [← e]
  exact Go.Deep.blk_alloc_new _ _
theorem acc_made (w : World) (K P N V U : Int) (s : Value) (p : Obj) : AccAt w.heap.size ((w.alloc (.cells #[.int .i64 K, .int .i64 P, .int .i64 N, .int .u64 V, .int .u64 U, s] 58)).alloc p) K P N V U s := by
  refine ⟨?_, ?_, ?_, ?_, ?_, ?_⟩
  all_goals go_simp
theorem AccAt.lt {b : Nat} {W : World} {K P N V U : Int} {s : Value} (h : AccAt b W K P N V U s) : b < W.heap.size := by
  rcases Nat.lt_or_ge b W.heap.size with hlt | hge
  · exact hlt
  · have := h.c0
    simp [World.cell?, Array.getElem?_eq_none hge] at this

set_option maxHeartbeats 1000000 in
theorem do_no {w : World} {g h n : Nat} {m : Nat → Nat} {c : Int} (B : Buf w g h m n c) (K P N V U : Int) (A : Option Addr) (L cap : Nat) (no : chk (8 * (n : Int)) K P N L ≠ 0) :
    Calls Tryz.prog 19 #[.pointer (some ⟨g, 0, none⟩), .agg #[.int .i64 K, .int .i64 P, .int .i64 N, .int .u64 V, .int .u64 U, .slice A L cap]] w
      (Made (.tuple #[.agg #[.int .u64 0, .bool false, .slice none 0 0], .int .i64 (chk (8 * (n : Int)) K P N L)]) w) := by
  have hf := B.few
  have HB0 := (B.alloc (.cells #[.int .i64 K, .int .i64 P, .int .i64 N, .int .u64 V, .int .u64 U, .slice A L cap] 58)).alloc (.cells #[.int .u64 0, .bool false, .slice none 0 0] 50)
  have HC := acc_made w K P N V U (.slice A L cap) (.cells #[.int .u64 0, .bool false, .slice none 0 0] 50)
  have HA := ans_made w (.cells #[.int .i64 K, .int .i64 P, .int .i64 N, .int .u64 V, .int .u64 U, .slice A L cap] 58)
  have HW := ((Below.refl w.heap.size w).alloc (Nat.le_refl _) (.cells #[.int .i64 K, .int .i64 P, .int .i64 N, .int .u64 V, .int .u64 U, .slice A L cap] 58)).alloc (by simp) (.cells #[.int .u64 0, .bool false, .slice none 0 0] 50)
  generalize hq : chk (8 * (n : Int)) K P N L = q at no ⊢
  have hno : (q != 0) = true := by simpa using no
  have HQ := Lib.hid hq
  clear B hq no
  go_enter Tryz.func19, Tryz.ntmps19
  go_wp2
  generalize (w.alloc (.cells #[.int .i64 K, .int .i64 P, .int .i64 N, .int .u64 V, .int .u64 U, .slice A L cap] 58)).alloc (.cells #[.int .u64 0, .bool false, .slice none 0 0] 50) = W at HC HA HB0 HW ⊢
  have HC2 := HC
  obtain ⟨c0, c1, c2, c3, c4, c5⟩ := HC2
  go_region_held3 (fun w' => w'.cell? ⟨w.heap.size, 0, none⟩ = some (.int .i64 K) ∧ w'.cell? ⟨w.heap.size, 1, none⟩ = some (.int .i64 P) ∧ w'.cell? ⟨w.heap.size, 2, none⟩ = some (.int .i64 N) ∧ w'.cell? ⟨w.heap.size, 3, none⟩ = some (.int .u64 V) ∧ w'.cell? ⟨w.heap.size, 4, none⟩ = some (.int .u64 U) ∧ w'.cell? ⟨w.heap.size, 5, none⟩ = some (.slice A L cap))
    (go_keep)
    (first
      | (go_at_call 32; refine (size_any HB0.drew).mono ?_; rintro e w' ⟨rfl, rfl⟩)
      | (go_at_call 39; refine (check_any _ K P N V U A L cap _ (by omega)).mono ?_; rintro e w1 ⟨rfl, hb1⟩; rw [HQ.out]; have hb2 := below_drew hb1; clear hb1; obtain ⟨k0, k1, k2, k3, k4, k5⟩ := HC.below hb2; have HA1 := HA.later hb2; obtain ⟨a0, a1, a2, f0, f1, f2, _⟩ := HA1))
  go_wp2
  refine bodyPost_ret (v := .tuple #[.agg #[.int .u64 0, .bool false, .slice none 0 0], .int .i64 q]) ?_ rfl ?_
  · simp [results, Tryz.results19, go_sem, a0, a1, a2]
  · refine ⟨rfl, ?_⟩
    exact (((HW.trans (hb2.mono HW.size)).setCell (Nat.le_succ _) _).setCell (Nat.le_succ _) _).setCell (Nat.le_succ _) _

theorem AccAt.touch {b g h : Nat} {W W' : World} {K P N V U : Int} {s : Value} (ha : AccAt b W K P N V U s) (ht : Touch (Two g h) W W') (hg : b ≠ g) (hh : b ≠ h) : AccAt b W' K P N V U s := by
  have hn : ¬ Two g h b := fun e => e.elim hg hh
  have hc := fun i => ht.cell (p := ⟨b, i, none⟩) ha.lt hn
  exact ⟨(hc 0).trans ha.c0, (hc 1).trans ha.c1, (hc 2).trans ha.c2, (hc 3).trans ha.c3, (hc 4).trans ha.c4, (hc 5).trans ha.c5⟩
theorem AnsAt.touch {b g h : Nat} {W W' : World} (ha : AnsAt b W) (ht : Touch (Two g h) W W') (hg : b ≠ g) (hh : b ≠ h) : AnsAt b W' :=
  .of_blk ((ht.block b (Array.getElem?_eq_some_iff.1 ha.blk).1 fun e => e.elim hg hh).trans ha.blk)

/-- A call that told an answer beside no error, and left the buffer with the bytes m, one access more counted. -/
def Did (V : Nat) (D : Bool) (xs : List Int) (g h : Nat) (m : Nat → Nat) (n : Nat) (c : Int) (w : World) (e : Ending) (w' : World) : Prop :=
  ∃ s, e = .returned (.tuple #[.agg #[.int .u64 V, .bool D, s], .int .i64 0]) ∧ BytesAt w' s xs ∧ Stored g h m n c w w'

set_option maxHeartbeats 1000000 in
theorem do_ok {w : World} {g h n : Nat} {m : Nat → Nat} {c : Int} (B : Buf w g h m n c) (K : Int) (a k v u : Nat) {f : Nat → Nat} (hf : Mb.IsB f) (A : Option Addr) (L cap : Nat) (hcap : L ≤ cap) (hcap2 : cap ≤ 9223372036854775807)
    (hb : BytesAt w (.slice A L cap) (Mb.bl f 0 L)) (hv : v < 18446744073709551616) (ok : chk (8 * (n : Int)) K a k L = 0) :
    Calls Tryz.prog 19 #[.pointer (some ⟨g, 0, none⟩), .agg #[.int .i64 K, .int .i64 a, .int .i64 k, .int .u64 v, .int .u64 u, .slice A L cap]] w
      (Did (Mb.ansV m K a k) (Mb.ansD m K a k v) (Mb.ansB m K a k) g h (Mb.aft m K a k v u f) n (nxt c) w) := by
  have hg := B.g_lt
  have hh := B.h_lt
  have hfw := B.few
  have HB0 := (B.alloc (.cells #[.int .i64 K, .int .i64 a, .int .i64 k, .int .u64 v, .int .u64 u, .slice A L cap] 58)).alloc (.cells #[.int .u64 0, .bool false, .slice none 0 0] 50)
  have HC := acc_made w K a k v u (.slice A L cap) (.cells #[.int .u64 0, .bool false, .slice none 0 0] 50)
  have HA := ans_made w (.cells #[.int .i64 K, .int .i64 a, .int .i64 k, .int .u64 v, .int .u64 u, .slice A L cap] 58)
  have HW := ((Below.refl w.heap.size w).alloc (Nat.le_refl _) (.cells #[.int .i64 K, .int .i64 a, .int .i64 k, .int .u64 v, .int .u64 u, .slice A L cap] 58)).alloc (by simp) (.cells #[.int .u64 0, .bool false, .slice none 0 0] 50)
  have HV := hb.below HW
  have HQ := Lib.hid ok
  have HF := Lib.hid hf
  clear B ok hb hf
  go_enter Tryz.func19, Tryz.ntmps19
  go_wp2
  generalize (w.alloc (.cells #[.int .i64 K, .int .i64 (a : Int), .int .i64 (k : Int), .int .u64 (v : Int), .int .u64 (u : Int), .slice A L cap] 58)).alloc (.cells #[.int .u64 0, .bool false, .slice none 0 0] 50) = W at HC HA HB0 HW HV ⊢
  have HC2 := HC
  obtain ⟨c0, c1, c2, c3, c4, c5⟩ := HC2
  go_region_held3 (fun w' => w'.cell? ⟨w.heap.size, 0, none⟩ = some (.int .i64 K) ∧ w'.cell? ⟨w.heap.size, 1, none⟩ = some (.int .i64 a) ∧ w'.cell? ⟨w.heap.size, 2, none⟩ = some (.int .i64 k) ∧ w'.cell? ⟨w.heap.size, 3, none⟩ = some (.int .u64 v) ∧ w'.cell? ⟨w.heap.size, 4, none⟩ = some (.int .u64 u) ∧ w'.cell? ⟨w.heap.size, 5, none⟩ = some (.slice A L cap))
    (go_keep)
    (first
      | (go_at_call 32; refine (size_any HB0.drew).mono ?_; rintro e w' ⟨rfl, rfl⟩)
      | (go_at_call 39; refine (check_any _ K a k v u A L cap _ (by omega)).mono ?_; rintro e w1 ⟨rfl, hb1⟩; rw [HQ.out]; have hb2 := below_drew hb1; clear hb1; obtain ⟨k0, k1, k2, k3, k4, k5⟩ := HC.below hb2))
  have HB1 := HB0.below hb2
  have hn0 := HB1.count
  have hn1 := HB1.count_free
  have HB2 := HB1.setCount (nxt c)
  have HT2 := (Touch.refl (Two g h) w1).setCell (p := ⟨g, 1, none⟩) (.inl rfl) (.int .i64 (nxt c))
  have HC2 := (HC.below hb2).touch HT2 (by omega) (by omega)
  have HA2 := (HA.later hb2).touch HT2 (by omega) (by omega)
  have HV2 := (HV.below hb2).touch HB1 HT2
  have HT1 := (Touch.of_below (S := Two g h) HW).trans ((Touch.of_below (S := Two g h) hb2).trans HT2)
  clear c0 c1 c2 c3 c4 c5 k0 k1 k2 k3 k4 k5 HB0 HC HA HV HW hb2 HB1
  go_wp2_with (first
    | (go_at_call 40; refine (addOne g 1 c _ hn0 hn1).mono ?_; rintro e w2 ⟨rfl, hw2⟩; rw [hw2] at HB2 HT2 HC2 HA2 HV2 HT1; clear hw2 hn0 hn1; obtain ⟨c0, c1, c2, c3, c4, c5⟩ := HC2)
    | (go_at_call 41; refine (access_any HB2 K a k v u HF.out A L cap hcap hcap2 HV2 hv HQ.out).mono ?_; rintro e w3 ⟨x, rfl, ⟨A3, cp3, rfl, hx⟩, hst⟩; have HX : Hid (BytesAt w3 (.slice A3 (Mb.ansB m K a k).length cp3) (Mb.ansB m K a k)) := Lib.hid ⟨A3, cp3, rfl, hx⟩; have HA3 := HA2.touch hst.2 (by omega) (by omega); have HA4 := HA3; obtain ⟨a0, a1, a2, f0, f1, f2, _⟩ := HA4; have HST := Lib.hid (hst.from_ HT1); clear hx hst))
  refine bodyPost_ret (v := .tuple #[.agg #[.int .u64 (Mb.ansV m K a k : Nat), .bool (Mb.ansD m K a k v), .slice A3 (Mb.ansB m K a k).length cp3], .int .i64 0]) ?_ rfl ?_
  · simp [results, Tryz.results19, go_sem, a0, a1, a2]
  · refine ⟨_, rfl, HX.out.answer HA3 _ _ _, ?_⟩
    exact ((HST.out.setNew hg hh (Nat.le_succ _) _).setNew hg hh (Nat.le_succ _) _).setNew hg hh (Nat.le_succ _) _

/-- The error of an access to no buffer. -/
def chkNil (K P N : Int) (L : Nat) : Int := if chk 0 K P N L = 0 then 2 else chk 0 K P N L

set_option maxHeartbeats 1000000 in
theorem do_nil (w : World) (K P N V U : Int) (A : Option Addr) (L cap : Nat) :
    Calls Tryz.prog 19 #[.pointer none, .agg #[.int .i64 K, .int .i64 P, .int .i64 N, .int .u64 V, .int .u64 U, .slice A L cap]] w
      (Made (.tuple #[.agg #[.int .u64 0, .bool false, .slice none 0 0], .int .i64 (chkNil K P N L)]) w) := by
  have HC := acc_made w K P N V U (.slice A L cap) (.cells #[.int .u64 0, .bool false, .slice none 0 0] 50)
  have HA := ans_made w (.cells #[.int .i64 K, .int .i64 P, .int .i64 N, .int .u64 V, .int .u64 U, .slice A L cap] 58)
  have HW := ((Below.refl w.heap.size w).alloc (Nat.le_refl _) (.cells #[.int .i64 K, .int .i64 P, .int .i64 N, .int .u64 V, .int .u64 U, .slice A L cap] 58)).alloc (by simp) (.cells #[.int .u64 0, .bool false, .slice none 0 0] 50)
  have HN := Lib.hid (show chkNil K P N L = if chk 0 K P N L = 0 then 2 else chk 0 K P N L by rfl)
  generalize chkNil K P N L = r at HN ⊢
  generalize hq : chk 0 K P N L = q at HN
  have HQ := Lib.hid hq
  clear hq
  by_cases h0 : q = 0
  · have hr : r = 2 := by rw [HN.out, if_pos h0]
    subst hr
    subst h0
    clear HN
    go_enter Tryz.func19, Tryz.ntmps19
    go_wp2
    generalize (w.alloc (.cells #[.int .i64 K, .int .i64 P, .int .i64 N, .int .u64 V, .int .u64 U, .slice A L cap] 58)).alloc (.cells #[.int .u64 0, .bool false, .slice none 0 0] 50) = W at HC HA HW ⊢
    have HC2 := HC
    obtain ⟨c0, c1, c2, c3, c4, c5⟩ := HC2
    go_region_held3 (fun w' => w'.cell? ⟨w.heap.size, 0, none⟩ = some (.int .i64 K) ∧ w'.cell? ⟨w.heap.size, 1, none⟩ = some (.int .i64 P) ∧ w'.cell? ⟨w.heap.size, 2, none⟩ = some (.int .i64 N) ∧ w'.cell? ⟨w.heap.size, 3, none⟩ = some (.int .u64 V) ∧ w'.cell? ⟨w.heap.size, 4, none⟩ = some (.int .u64 U) ∧ w'.cell? ⟨w.heap.size, 5, none⟩ = some (.slice A L cap))
      (go_keep)
      (first
        | (go_at_call 32; refine (size_nil _).mono ?_; rintro e w' ⟨rfl, rfl⟩)
        | (go_at_call 39; refine (check_any 0 K P N V U A L cap _ (by omega)).mono ?_; rintro e w1 ⟨rfl, hb1⟩; rw [HQ.out]; have hb2 := below_drew hb1; clear hb1; obtain ⟨k0, k1, k2, k3, k4, k5⟩ := HC.below hb2; have HA1 := HA.later hb2; obtain ⟨a0, a1, a2, f0, f1, f2, _⟩ := HA1))
    go_wp2
    refine bodyPost_ret (v := .tuple #[.agg #[.int .u64 0, .bool false, .slice none 0 0], .int .i64 2]) ?_ rfl ?_
    · simp [results, Tryz.results19, go_sem, a0, a1, a2]
    · refine ⟨rfl, ?_⟩
      exact (((HW.trans (hb2.mono HW.size)).setCell (Nat.le_succ _) _).setCell (Nat.le_succ _) _).setCell (Nat.le_succ _) _
  · have hr : r = q := by rw [HN.out, if_neg h0]
    subst hr
    have hno : (r != 0) = true := by simpa using h0
    clear HN h0
    go_enter Tryz.func19, Tryz.ntmps19
    go_wp2
    generalize (w.alloc (.cells #[.int .i64 K, .int .i64 P, .int .i64 N, .int .u64 V, .int .u64 U, .slice A L cap] 58)).alloc (.cells #[.int .u64 0, .bool false, .slice none 0 0] 50) = W at HC HA HW ⊢
    have HC2 := HC
    obtain ⟨c0, c1, c2, c3, c4, c5⟩ := HC2
    go_region_held3 (fun w' => w'.cell? ⟨w.heap.size, 0, none⟩ = some (.int .i64 K) ∧ w'.cell? ⟨w.heap.size, 1, none⟩ = some (.int .i64 P) ∧ w'.cell? ⟨w.heap.size, 2, none⟩ = some (.int .i64 N) ∧ w'.cell? ⟨w.heap.size, 3, none⟩ = some (.int .u64 V) ∧ w'.cell? ⟨w.heap.size, 4, none⟩ = some (.int .u64 U) ∧ w'.cell? ⟨w.heap.size, 5, none⟩ = some (.slice A L cap))
      (go_keep)
      (first
        | (go_at_call 32; refine (size_nil _).mono ?_; rintro e w' ⟨rfl, rfl⟩)
        | (go_at_call 39; refine (check_any 0 K P N V U A L cap _ (by omega)).mono ?_; rintro e w1 ⟨rfl, hb1⟩; rw [HQ.out]; have hb2 := below_drew hb1; clear hb1; obtain ⟨k0, k1, k2, k3, k4, k5⟩ := HC.below hb2; have HA1 := HA.later hb2; obtain ⟨a0, a1, a2, f0, f1, f2, _⟩ := HA1))
    go_wp2
    refine bodyPost_ret (v := .tuple #[.agg #[.int .u64 0, .bool false, .slice none 0 0], .int .i64 r]) ?_ rfl ?_
    · simp [results, Tryz.results19, go_sem, a0, a1, a2]
    · refine ⟨rfl, ?_⟩
      exact (((HW.trans (hb2.mono HW.size)).setCell (Nat.le_succ _) _).setCell (Nat.le_succ _) _).setCell (Nat.le_succ _) _

theorem chkNil_12 (K P N : Int) (L : Nat) : chkNil K P N L = 1 ∨ chkNil K P N L = 2 := by
  unfold chkNil chk
  by_cases h1 : formed K N L = false
  · simp [h1]
  · rw [if_neg h1]
    by_cases h2 : P < 0 ∨ 0 < P ∨ 0 - P < N
    · rw [if_pos h2]
      exact .inr (by decide)
    · rw [if_neg h2]
      by_cases h3 : numB K = true ∧ P % N ≠ 0
      · have := formed_num (by simpa using h1) h3.1
        omega
      · simp [if_neg h3]

theorem do_plain {w : World} {g h n : Nat} {m : Nat → Nat} {c : Int} (B : Buf w g h m n c) (K : Int) (a k v u : Nat) (hv : v < 18446744073709551616) (ok : chk (8 * (n : Int)) K a k 0 = 0) :
    Calls Tryz.prog 19 #[.pointer (some ⟨g, 0, none⟩), .agg #[.int .i64 K, .int .i64 a, .int .i64 k, .int .u64 v, .int .u64 u, .slice none 0 0]] w
      (Did (Mb.ansV m K a k) (Mb.ansD m K a k v) (Mb.ansB m K a k) g h (Mb.aft m K a k v u (fun _ => 0)) n (nxt c) w) :=
  do_ok B K a k v u Mb.zero_isB none 0 0 (Nat.le_refl _) (by decide) (bytesAt_none _ _ _ _) hv ok

theorem acc_one (w : World) (K P N V U : Int) (s : Value) : AccAt w.heap.size (w.alloc (.cells #[.int .i64 K, .int .i64 P, .int .i64 N, .int .u64 V, .int .u64 U, s] 58)) K P N V U s := by
  refine ⟨?_, ?_, ?_, ?_, ?_, ?_⟩
  all_goals go_simp

/-- .. told of one access: where the answer stands is said outright. -/
def Told3 (V : Nat) (D : Bool) (g h : Nat) (m : Nat → Nat) (n : Nat) (c : Int) (w : World) (e : Ending) (w' : World) : Prop :=
  ∃ A l cap, e = .returned (.tuple #[.agg #[.int .u64 V, .bool D, .slice A l cap], .int .i64 0]) ∧ Stored g h m n c w w'

theorem Did.told {V : Nat} {D : Bool} {xs : List Int} {g h : Nat} {m : Nat → Nat} {n : Nat} {c : Int} {w : World} {e : Ending} {w' : World} (hd : Did V D xs g h m n c w e w') : Told3 V D g h m n c w e w' := by
  obtain ⟨s, he, ⟨A, cap, hs, _⟩, hst⟩ := hd
  subst hs
  exact ⟨A, _, cap, he, hst⟩

end Go.Proofs.YtbfgbnalnjdheaaGreat
namespace Go.Proofs.YtbfgbnalnjdheaaGreat
open Go.RowKit

set_option maxRecDepth 100000 in
theorem caught_idle (w : World) :
    CallsD Tryz.prog 100 #[] .returning w fun e u' w' => e = .returned (.tuple #[]) ∧ u' = .returning ∧ w' = w := by
  refine callsD_of_wpS Tryz.func100 rfl fun c₀ cs hu => ?_
  apply wpS_region
  cases c₀
  simp_all [wpOpsS, go_sem, recoverD, Tryz.ntmps100, bodyPostS, results, Tryz.results100]

set_option maxRecDepth 100000 in
theorem caught_any (k : FuncId) (caps : Array Value) (w : World) {Q : World → Prop} (hent : ∀ w, (callFunc k caps).run Tryz.prog w = .ok (.enter k caps) w)
    (h : Calls Tryz.prog k caps w fun e w' => e = .returned (.tuple #[]) ∧ Q w') :
    Calls Tryz.prog 78 #[.func (.func k) #[] caps] w fun e w' => e = .returned (.tuple #[]) ∧ Q w' := by
  have H := Lib.hid h
  have HE := Lib.hid hent
  clear h hent
  go_enter_defers Tryz.func78, Tryz.ntmps78
  go_wp2
  rw [HE.out w, Oper.upon_enter]
  refine H.out.mono ?_
  rintro e w1 ⟨rfl, hq⟩
  have HQ := Lib.hid hq
  clear hq
  go_wp2
  refine leaves_cons (f := 100) (args := #[]) (by simp) (by simp [go_sem]) ?_
  refine (caught_idle w1).mono ?_
  rintro e u' w2 ⟨rfl, rfl, rfl⟩
  exact ⟨_, results_none rfl _ _ _, rfl, HQ.out⟩
end Go.Proofs.YtbfgbnalnjdheaaGreat
namespace Go.Proofs.YtbfgbnalnjdheaaGreat
open Go.RowKit

namespace Wd
/-- The parts of n (at least 1): eights, and what is left, which is at least 1. -/
def ck (n : Nat) : List Int := List.replicate ((n - 1) / 8) 8 ++ [((n - 8 * ((n - 1) / 8) : Nat) : Int)]

theorem ck_length (n : Nat) : (ck n).length = (n - 1) / 8 + 1 := by simp [ck]

theorem ck_at (n i : Nat) (hn : 1 ≤ n) (hi : i < (ck n).length) : 1 ≤ (ck n).getD i 0 ∧ (ck n).getD i 0 ≤ 8 := by
  rw [ck_length] at hi
  have hm : (ck n).getD i 0 = if i < (n - 1) / 8 then 8 else ((n - 8 * ((n - 1) / 8) : Nat) : Int) := by
    unfold ck
    rw [List.getD_eq_getElem?_getD]
    by_cases h : i < (n - 1) / 8
    · rw [List.getElem?_append_left (by simpa using h), if_pos h]
      simp [h]
    · rw [List.getElem?_append_right (by simp; omega), if_neg h]
      have e : i - (List.replicate ((n - 1) / 8) (8 : Int)).length = 0 := by simp; omega
      rw [e]
      rfl
  rw [hm]
  split <;> omega

theorem sum_replicate (k : Nat) : (List.replicate k (8 : Int)).sum = 8 * k := by
  induction k with
  | zero => rfl
  | succ k ih => rw [List.replicate_succ, List.sum_cons, ih]; omega

theorem ck_sum (n : Nat) (hn : 1 ≤ n) : (ck n).sum = n := by
  unfold ck
  rw [List.sum_append, sum_replicate]
  simp
  omega

theorem take_sum (xs : List Int) (k : Nat) (h : k < xs.length) : (xs.take (k + 1)).sum = (xs.take k).sum + xs.getD k 0 := by
  rw [List.take_succ_eq_append_getElem h, List.sum_append]
  simp [List.getD, h]

theorem ck_take (n k : Nat) (hn : 1 ≤ n) (hk : k ≤ (ck n).length) : 0 ≤ ((ck n).take k).sum ∧ ((ck n).take k).sum ≤ 8 * k := by
  induction k with
  | zero => simp
  | succ k ih =>
    have h1 := ih (by omega)
    have h2 := ck_at n k hn (by omega)
    rw [take_sum _ _ (by omega)]
    omega
end Wd

/-- The slice value v reads as the ints xs. -/
def IntsAt (w : World) (v : Value) (xs : List Int) : Prop :=
  ∃ A cap, v = .slice A xs.length cap ∧ (0 < xs.length → ∃ b off, A = some ⟨b, off, none⟩ ∧ b < w.heap.size ∧ ∀ i, i < xs.length → w.cell? ⟨b, off + i, none⟩ = some (.int .i64 (xs.getD i 0)))

theorem IntsAt.nil (w : World) : IntsAt w (.slice none 0 0) [] := ⟨none, 0, rfl, fun h => absurd h (by simp)⟩

theorem IntsAt.below {w w' : World} {v : Value} {xs : List Int} (h : IntsAt w v xs) (hb : Below w.heap.size w w') : IntsAt w' v xs := by
  obtain ⟨A, cap, hv, h⟩ := h
  refine ⟨A, cap, hv, fun hp => ?_⟩
  obtain ⟨b, off, h1, h3, h4⟩ := h hp
  exact ⟨b, off, h1, Nat.lt_of_lt_of_le h3 hb.size, fun i hi => (hb.cell (p := ⟨b, off + i, none⟩) h3).trans (h4 i hi)⟩

theorem IntsAt.of_own {w : World} {base : Nat} {v : Value} {xs : List Int} (h : w.ownsRow base 3 1 v xs.length (xs.map (Value.int .i64))) : IntsAt w v xs := by
  rcases h.2 with ⟨rfl, h0⟩ | ⟨g, cap, cur, rfl, _, hh, hnc, _⟩
  · have hx : xs = [] := List.eq_nil_of_length_eq_zero h0
    subst hx
    exact IntsAt.nil w
  · refine ⟨_, cap, rfl, fun _ => ⟨g, 0, rfl, ?_, fun i hi => ?_⟩⟩
    · rcases Nat.lt_or_ge g w.heap.size with hlt | hge
      · exact hlt
      · rw [Array.getElem?_eq_none hge] at hh; cases hh
    · have hc := h.cells (g := g) rfl i (.int .i64 (xs.getD i 0)) (by simp [List.getElem?_eq_getElem hi, List.getD])
      have e : (⟨g, 0, none⟩ : Addr).add i = ⟨g, 0 + i, none⟩ := by unfold Addr.add; split <;> simp_all
      rw [e] at hc
      exact hc

/-- The call made the ints xs, and left alone what was there. -/
def MadeInts (xs : List Int) (w : World) (e : Ending) (w' : World) : Prop :=
  ∃ v, e = .returned v ∧ w'.ownsRow w.heap.size 3 1 v xs.length (xs.map (Value.int .i64)) ∧ Below w.heap.size w w'

theorem infoInt : (Tryz.prog.info? 3).map (fun i => (i.zero, i.size, i.bytes)) = some (some (.int .i64 0), 1, 8) := by kernel_rfl

theorem repl_snoc (k : Nat) : (List.replicate k (8 : Int)).map (Value.int .i64) ++ [Value.int .i64 8] = (List.replicate (k + 1) (8 : Int)).map (Value.int .i64) := by
  rw [List.replicate_succ']; simp

theorem repl_end (n : Nat) (k : Nat) (hn : 1 ≤ n) (hk : k = (n - 1) / 8) (x : Int) (hx : x = n - 8 * k) :
    (List.replicate k (8 : Int)).map (Value.int .i64) ++ [Value.int .i64 x] = (Wd.ck n).map (Value.int .i64) := by
  subst hk
  unfold Wd.ck
  rw [List.map_append]
  congr 1
  simp
  omega

theorem one_cell (w : World) (x : Value) (t : TypeId) : ∀ j u, [x][j]? = some u → (w.alloc (.cells #[x] t)).cell? ((⟨w.heap.size, 0, none⟩ : Addr).add j) = some u := by
  intro j u hj
  match j, hj with
  | 0, hj => simp at hj; subst hj; simp [Addr.add]

set_option maxRecDepth 100000 in
set_option maxHeartbeats 400000 in
theorem chunks_no (n : Int) (w : World) (h : n < 1 ∨ 131072 < n) :
    Calls Tryz.prog 123 #[.int .i64 n] w fun e w' => e = .returned (.slice none 0 0) ∧ w = w' := by
  rcases h with h | h
  · go_enter Tryz.func123, Tryz.ntmps123
    go_wp2
    go_ret
    exact ⟨rfl, rfl⟩
  · have h' : 1 ≤ n := by omega
    go_enter Tryz.func123, Tryz.ntmps123
    go_wp2
    go_ret
    exact ⟨rfl, rfl⟩

set_option maxRecDepth 100000 in
set_option maxHeartbeats 400000 in
theorem refChunks_no (n : Int) (w : World) (h : n < 1 ∨ 131072 < n) :
    Calls Tryz.prog 85 #[.int .i64 n] w fun e w' => e = .returned (.slice none 0 0) ∧ w = w' := by
  rcases h with h | h
  · have h1 : n ≤ 131072 := by omega
    have h2 : n ≤ 8 := by omega
    go_enter Tryz.func85, Tryz.ntmps85
    go_wp2
    refine wp_loop_rounds 1 ?_
    rw [rounds_succ]
    go_wp2
    go_ret
    exact ⟨rfl, rfl⟩
  · go_enter Tryz.func85, Tryz.ntmps85
    go_wp2
    go_ret
    exact ⟨rfl, rfl⟩

set_option maxRecDepth 100000 in
set_option maxHeartbeats 400000 in
theorem refChunks_yes (n : Nat) (w : World) (h1 : 1 ≤ n) (h2 : n ≤ 131072) :
    Calls Tryz.prog 85 #[.int .i64 n] w (MadeInts (Wd.ck n) w) := by
  obtain ⟨i0, hi, hz0, hz1, hz2⟩ := info_parts infoInt
  go_enter Tryz.func85, Tryz.ntmps85
  go_wp2
  go_loopw [0, 3] (fun x r wr => ∃ k : Nat, 8 * k < n ∧ x = .int .i64 ((n : Int) - 8 * k) ∧ Below w.heap.size w wr ∧ wr.ownsRow w.heap.size 3 1 r k ((List.replicate k (8 : Int)).map (Value.int .i64))) (fun x _ _ => (intOf x).toNat)
  case atStart => exact ⟨0, by omega, by first | rfl | (congr 1; omega), Below.refl _ _, World.ownsRow_nil _ _ _ _⟩
  case round =>
    obtain ⟨k, hk, rfl, hbel, hown⟩ := hrel
    have hsz := hbel.size
    by_cases hlt : 8 < n - 8 * k
    · have hlt' : (8 : Int) < (n : Int) - 8 * k := by omega
      go_wp2_with (at_builtin; refine wpList_append_own _ rfl (.tmp 10) (.tmp 11) 148 rfl w.heap.size 3 i0 (.int .i64 0) 1 8 Tryz.underlying148 hi hz0 hz1 hz2 rfl (by decide) _ _ _ rfl (hown.alloc _) ⟨wr.heap.size, 0, none⟩ 1 1 [.int .i64 8] rfl rfl (one_cell _ _ _) (by intro u hu; simp at hu; subst hu; rfl) (by unfold maxLen; omega) (by omega) (by simp; omega) ?_; intro v' w1 hown' hgrow _; have hown2 := hown'; rw [repl_snoc] at hown2; have hbel2 : Below w.heap.size w w1 := (hbel.alloc hsz _).grown hgrow (by simp; omega) (fun g hg => (hown.lt g hg).1); clear hown' hgrow hown hbel)
      go_roundw
      case rel => exact ⟨k + 1, by omega, by go_num, hbel2, hown2⟩
      case measure => simp [intOf]; omega
    · have hkn : k = (n - 1) / 8 := by omega
      have HK := Lib.hid hkn
      clear hkn
      have hlt' : (n : Int) - 8 * k ≤ 8 := by omega
      have hlt2 : 0 < (n : Int) - 8 * k := by omega
      go_wp2_with (at_builtin; refine wpList_append_own _ rfl (.tmp 15) (.tmp 17) 148 rfl w.heap.size 3 i0 (.int .i64 0) 1 8 Tryz.underlying148 hi hz0 hz1 hz2 rfl (by decide) _ _ _ rfl (hown.alloc _) ⟨wr.heap.size, 0, none⟩ 1 1 [.int .i64 ((n : Int) - 8 * k)] rfl rfl (one_cell _ _ _) (by intro u hu; simp at hu; subst hu; rfl) (by unfold maxLen; omega) (by omega) (by simp; omega) ?_; intro v' w1 hown' hgrow _; have hown2 := hown'; rw [repl_end n k h1 HK.out _ rfl] at hown2; have hbel2 : Below w.heap.size w w1 := (hbel.alloc hsz _).grown hgrow (by simp; omega) (fun g hg => (hown.lt g hg).1); clear hown' hgrow hown hbel)
      go_ret
      have hl : k + 1 = (Wd.ck n).length := by rw [Wd.ck_length, ← HK.out]
      rw [hl] at hown2
      exact ⟨_, rfl, hown2, hbel2⟩

set_option maxRecDepth 100000 in
set_option maxHeartbeats 400000 in
theorem chunks_yes (n : Nat) (w : World) (h1 : 1 ≤ n) (h2 : n ≤ 131072) :
    Calls Tryz.prog 123 #[.int .i64 n] w (MadeInts (Wd.ck n) w) := by
  obtain ⟨i0, hi, hz0, hz1, hz2⟩ := info_parts infoInt
  have hdv : (n : Int) / 8 + 1 = ((n / 8 + 1 : Nat) : Int) := by omega
  have HD := Lib.hid hdv
  clear hdv
  go_enter Tryz.func123, Tryz.ntmps123
  go_wp2_with (refine wpList_make_own _ rfl _ _ 148 rfl w.heap.size 3 i0 (.int .i64 0) 1 Tryz.underlying148 hi hz0 hz1 .i64 .i64 _ (n / 8 + 1) rfl rfl HD.out (by rw [hz2]; omega) (by unfold maxLen; omega) (Nat.le_refl _) ?_; intro w0 hown0 hg0)
  have hbel0 : Below w.heap.size w w0 := (Below.refl _ w).grown hg0 (Nat.le_refl _) (fun g hg => by cases hg)
  clear hg0
  go_loopw [3, 17] (fun r i wr => ∃ k : Nat, k ≤ n / 8 ∧ i = .int .i64 k ∧ Below w.heap.size w wr ∧ wr.ownsRow w.heap.size 3 1 r k ((List.replicate k (8 : Int)).map (Value.int .i64))) (fun _ i _ => n - (intOf i).toNat)
  case atStart => exact ⟨0, by omega, rfl, hbel0, hown0⟩
  case round =>
    obtain ⟨k, hk, rfl, hbel, hown⟩ := hrel
    clear hown0 hbel0
    have hsz := hbel.size
    by_cases hlt : k < n / 8
    · have hlt' : (k : Int) < (n : Int) / 8 := by omega
      go_wp2_with (at_builtin; refine wpList_append_own _ rfl (.tmp 19) (.tmp 20) 148 rfl w.heap.size 3 i0 (.int .i64 0) 1 8 Tryz.underlying148 hi hz0 hz1 hz2 rfl (by decide) _ _ _ rfl (hown.alloc _) ⟨wr.heap.size, 0, none⟩ 1 1 [.int .i64 8] rfl rfl (one_cell _ _ _) (by intro u hu; simp at hu; subst hu; rfl) (by unfold maxLen; omega) (by omega) (by simp; omega) ?_; intro v' w1 hown' hgrow _; have hown2 := hown'; rw [repl_snoc] at hown2; have hbel2 : Below w.heap.size w w1 := (hbel.alloc hsz _).grown hgrow (by simp; omega) (fun g hg => (hown.lt g hg).1); clear hown' hgrow hown hbel)
      go_roundw
      case rel => exact ⟨k + 1, by omega, by go_num, hbel2, hown2⟩
      case measure => simp [intOf]; omega
    · have hkn : k = n / 8 := by omega
      have HK := Lib.hid hkn
      clear hkn
      have hlt' : (n : Int) / 8 ≤ (k : Int) := by omega
      by_cases hr : 0 < n % 8
      · have hr' : 0 < (n : Int) % 8 := by omega
        go_wp2_with (at_builtin; refine wpList_append_own _ rfl (.tmp 27) (.tmp 29) 148 rfl w.heap.size 3 i0 (.int .i64 0) 1 8 Tryz.underlying148 hi hz0 hz1 hz2 rfl (by decide) _ _ _ rfl (hown.alloc _) ⟨wr.heap.size, 0, none⟩ 1 1 [.int .i64 ((n : Int) % 8)] rfl rfl (one_cell _ _ _) (by intro u hu; simp at hu; subst hu; rfl) (by unfold maxLen; omega) (by omega) (by simp; omega) ?_; intro v' w1 hown' hgrow _; have hown2 := hown'; rw [repl_end n k h1 (by have := HK.out; omega) _ (by have := HK.out; omega)] at hown2; have hbel2 : Below w.heap.size w w1 := (hbel.alloc hsz _).grown hgrow (by simp; omega) (fun g hg => (hown.lt g hg).1); clear hown' hgrow hown hbel)
        go_ret
        have hl : k + 1 = (Wd.ck n).length := by have := HK.out; rw [Wd.ck_length]; omega
        rw [hl] at hown2
        exact ⟨_, rfl, hown2, hbel2⟩
      · have hr' : (n : Int) % 8 ≤ 0 := by omega
        go_wp2
        go_ret
        have hk1 := HK.out
        obtain ⟨j, rfl⟩ : ∃ j, k = j + 1 := ⟨k - 1, by omega⟩
        rw [← repl_snoc, repl_end n j h1 (by omega) 8 (by omega)] at hown
        have hl : j + 1 = (Wd.ck n).length := by rw [Wd.ck_length]; omega
        rw [hl] at hown
        exact ⟨_, rfl, hown, hbel⟩

/-- What the statement needs of a call: the parts, or none. -/
def ckOf (n : Int) : List Int := if 1 ≤ n ∧ n ≤ 131072 then Wd.ck n.toNat else []

theorem chunks_any (n : Int) (w : World) : Calls Tryz.prog 123 #[.int .i64 n] w (MadeInts (ckOf n) w) := by
  unfold ckOf
  by_cases h : 1 ≤ n ∧ n ≤ 131072
  · rw [if_pos h]
    obtain ⟨k, rfl⟩ := Int.eq_ofNat_of_zero_le (by omega : 0 ≤ n)
    exact chunks_yes k w (by omega) (by omega)
  · rw [if_neg h]
    exact (chunks_no n w (by omega)).mono fun _ _ ⟨he, hw⟩ => ⟨_, he, World.ownsRow_nil _ _ _ _, by subst hw; exact Below.refl _ _⟩

theorem refChunks_any (n : Int) (w : World) : Calls Tryz.prog 85 #[.int .i64 n] w (MadeInts (ckOf n) w) := by
  unfold ckOf
  by_cases h : 1 ≤ n ∧ n ≤ 131072
  · rw [if_pos h]
    obtain ⟨k, rfl⟩ := Int.eq_ofNat_of_zero_le (by omega : 0 ≤ n)
    exact refChunks_yes k w (by omega) (by omega)
  · rw [if_neg h]
    exact (refChunks_no n w (by omega)).mono fun _ _ ⟨he, hw⟩ => ⟨_, he, World.ownsRow_nil _ _ _ _, by subst hw; exact Below.refl _ _⟩

/-- A call that made ints, in the walk's spelling: some of them, or none. -/
def SomeInts (xs : List Int) (w : World) (e : Ending) (w' : World) : Prop :=
  ∃ b off cap, e = .returned (.slice (some ⟨b, off, none⟩) xs.length cap) ∧ b < w'.heap.size ∧ (∀ i, i < xs.length → w'.cell? ⟨b, off + i, none⟩ = some (.int .i64 (xs.getD i 0))) ∧ Below w.heap.size w w'

theorem made_some {xs : List Int} {w w' : World} {e : Ending} (hp : 0 < xs.length) (h : MadeInts xs w e w') : SomeInts xs w e w' := by
  obtain ⟨v, he, ho, hb⟩ := h
  obtain ⟨A, cap, rfl, h⟩ := IntsAt.of_own ho
  obtain ⟨b, off, rfl, h1, h2⟩ := h hp
  exact ⟨b, off, cap, he, h1, h2, hb⟩
end Go.Proofs.YtbfgbnalnjdheaaGreat
namespace Go.Proofs.YtbfgbnalnjdheaaGreat
open Go.RowKit

namespace Cy
/-- The parts of n bytes; none of none. -/
def cks (n : Nat) : List Int := if n = 0 then [] else Wd.ck n
/-- The part that is next, of r bytes that are left. -/
def nx (r : Nat) : Nat := if r ≤ 8 then r else 8
/-- So many bytes are copied, of so many that were asked for. -/
def few (n : Int) : Nat := if 1 ≤ n ∧ n ≤ 131072 then n.toNat else 0

theorem cks_zero : cks 0 = [] := rfl
theorem nx_le (r : Nat) : nx r ≤ r ∧ nx r ≤ 8 := by unfold nx; split <;> omega
theorem nx_pos {r : Nat} (h : 0 < r) : 0 < nx r := by unfold nx; split <;> omega
theorem few_le (n : Int) : few n ≤ 131072 := by unfold few; split <;> omega
theorem few_nat {n : Nat} (h : n ≤ 131072) : few n = n := by
  unfold few
  by_cases h0 : 1 ≤ (n : Int)
  · rw [if_pos ⟨h0, by omega⟩]; simp
  · rw [if_neg (fun hh => h0 hh.1)]; omega

theorem ckOf_few (n : Int) : ckOf n = cks (few n) := by
  unfold ckOf few cks
  by_cases h : 1 ≤ n ∧ n ≤ 131072
  · rw [if_pos h, if_pos h, if_neg (by omega)]
  · rw [if_neg h, if_neg h, if_pos rfl]

theorem cks_step {r : Nat} (h : 0 < r) : cks r = ((nx r : Nat) : Int) :: cks (r - nx r) := by
  unfold cks nx
  rw [if_neg (by omega)]
  by_cases h8 : r ≤ 8
  · rw [if_pos h8, if_pos (by omega)]
    unfold Wd.ck
    have e : (r - 1) / 8 = 0 := by omega
    rw [e]
    simp
  · rw [if_neg h8, if_neg (by omega)]
    unfold Wd.ck
    obtain ⟨k, hk⟩ : ∃ k, (r - 1) / 8 = k + 1 := ⟨(r - 1) / 8 - 1, by omega⟩
    have hk2 : (r - 8 - 1) / 8 = k := by omega
    rw [hk, hk2, List.replicate_succ]
    simp only [List.cons_append, List.cons.injEq]
    refine ⟨by omega, ?_⟩
    congr 2
    omega

theorem cks_length (n : Nat) : (cks n).length = (n + 7) / 8 := by
  unfold cks
  split
  · subst_vars; rfl
  · rw [Wd.ck_length]; omega

theorem cks_getD (n j : Nat) (h : 8 * j < n) : (cks n).getD j 0 = ((nx (n - 8 * j) : Nat) : Int) := by
  induction j generalizing n with
  | zero => rw [cks_step (by omega)]; simp
  | succ j ih =>
    rw [cks_step (by omega)]
    have e : nx n = 8 := by unfold nx; rw [if_neg (by omega)]
    rw [List.getD_cons_succ, e, ih (n - 8) (by omega)]
    congr 2
    omega

/-- So many bytes were copied behind i parts. -/
def at_ (n i : Nat) : Nat := if 8 * i ≤ n then 8 * i else n
theorem at_zero (n : Nat) : at_ n 0 = 0 := by unfold at_; rw [if_pos (by omega)]
theorem at_le (n i : Nat) : at_ n i ≤ n := by unfold at_; split <;> omega
theorem at_next {n i : Nat} (h : 8 * i < n) : at_ n (i + 1) = at_ n i + nx (n - at_ n i) := by
  unfold at_ nx
  rw [if_pos (by omega : 8 * i ≤ n)]
  split <;> split <;> omega
theorem at_here {n i : Nat} (h : 8 * i < n) : at_ n i = 8 * i := by unfold at_; rw [if_pos (by omega)]
theorem at_end {n i : Nat} (h : n ≤ 8 * i) : at_ n i = n := by unfold at_; split <;> omega
end Cy

/-- The slice value v reads as the ints xs, which stand in a block of those that K names; there is room for them. -/
def Parts (K : Nat → Prop) (w : World) (v : Value) (xs : List Int) : Prop :=
  ∃ A cap, v = .slice A xs.length cap ∧ xs.length ≤ cap ∧ cap ≤ maxLen ∧ (0 < xs.length → ∃ b off, A = some ⟨b, off, none⟩ ∧ K b ∧ b < w.heap.size ∧ ∀ i, i < xs.length → w.cell? ⟨b, off + i, none⟩ = some (.int .i64 (xs.getD i 0)))

theorem Parts.of_blocks {K : Nat → Prop} {w w' : World} {v : Value} {xs : List Int} (h : Parts K w v xs) (hs : w.heap.size ≤ w'.heap.size) (hb : ∀ k, K k → w'.heap[k]? = w.heap[k]?) : Parts K w' v xs := by
  obtain ⟨A, cap, hv, h1, h2, h⟩ := h
  refine ⟨A, cap, hv, h1, h2, fun hp => ?_⟩
  obtain ⟨b, off, h1, hK, h3, h4⟩ := h hp
  exact ⟨b, off, h1, hK, by omega, fun i hi => (World.cell?_of_block (w := w) (a := ⟨b, off + i, none⟩) (hb b hK)).trans (h4 i hi)⟩

theorem Parts.mono {K L : Nat → Prop} {w : World} {v : Value} {xs : List Int} (h : Parts K w v xs) (hK : ∀ k, K k → L k) : Parts L w v xs := by
  obtain ⟨A, cap, hv, h1, h2, h⟩ := h
  refine ⟨A, cap, hv, h1, h2, fun hp => ?_⟩
  obtain ⟨b, off, h1, hk, h3⟩ := h hp
  exact ⟨b, off, h1, hK b hk, h3⟩

theorem Parts.nil (K : Nat → Prop) (w : World) : Parts K w (.slice none 0 0) [] := ⟨none, 0, rfl, Nat.le_refl _, by unfold maxLen; decide, fun h => absurd h (by simp)⟩

theorem Parts.of_own {w : World} {base : Nat} {v : Value} {xs : List Int} (h : w.ownsRow base 3 1 v xs.length (xs.map (Value.int .i64))) : Parts (fun k => base ≤ k ∧ k < w.heap.size) w v xs := by
  have hi := IntsAt.of_own h
  rcases h.2 with ⟨rfl, h0⟩ | ⟨g, cap, cur, rfl, hbase, hh, hnc, hm, _⟩
  · have hx : xs = [] := List.eq_nil_of_length_eq_zero h0
    subst hx
    exact Parts.nil _ w
  · refine ⟨_, cap, rfl, hnc, hm, fun hp => ?_⟩
    obtain ⟨A, cap', hv', hc⟩ := hi
    obtain ⟨b, off, e, hlt, hc2⟩ := hc hp
    injection hv' with e1 e2 e3
    subst e1
    exact ⟨b, off, e, ⟨by injection e with e; injection e with e5 e6; omega, hlt⟩, hlt, hc2⟩

/-- The call made the parts xs in a block of its own, and left alone what was there. -/
def MadeParts (xs : List Int) (w : World) (e : Ending) (w' : World) : Prop :=
  ∃ v, e = .returned v ∧ Parts (fun k => w.heap.size ≤ k ∧ k < w'.heap.size) w' v xs ∧ Below w.heap.size w w'
end Go.Proofs.YtbfgbnalnjdheaaGreat
namespace Go.Proofs.YtbfgbnalnjdheaaGreat
open Go.RowKit

/-- Onto a row of the call's own nothing at all is appended. -/
theorem run_app_none {w : World} {base : Nat} {v : Value} {xs : List Int} (hv : Owns base w v xs) (c : Nat) (ty : TypeId) :
    (Builtin.append_ #[30, 30] ty #[v, .slice none 0 c]).run Tryz.prog w = .ok v w := by
  obtain ⟨i0, hi, _⟩ := info_parts infoU8
  have ht := Tryz.underlying30
  rcases hv.2 with ⟨rfl, hx⟩ | ⟨g, cap, cur, rfl, _, _, hnc, _⟩
  · simp [Builtin.append_, run_underlying ht, sizeOf, typeInfo, hi, Builtin.lenOf, Builtin.firstCells]
  · simp [Builtin.append_, run_underlying ht, sizeOf, typeInfo, hi, Builtin.lenOf, Builtin.firstCells, hnc, storeCells]

theorem run_app {w : World} {base : Nat} {v y : Value} {xs ys : List Int} (hv : Owns base w v xs) (hy : BytesAt w y ys) (hl : xs.length + ys.length ≤ 1073741824) (hb : base ≤ w.heap.size) (ty : TypeId) :
    ∃ v' w', (Builtin.append_ #[30, 30] ty #[v, y]).run Tryz.prog w = .ok v' w' ∧ Owns base w' v' (xs ++ ys) ∧ w.grownBy w' v.ownBlock ∧ (v'.ownBlock = v.ownBlock ∨ v'.ownBlock = some w.heap.size) := by
  obtain ⟨i0, hi, hz0, hz1, hz2⟩ := info_parts infoU8
  obtain ⟨A, cap, rfl, hc⟩ := hy
  by_cases hp : 0 < ys.length
  · obtain ⟨b, off, rfl, hlt, hc⟩ := hc hp
    obtain ⟨v', w', hrun, h2, h3, _, h5⟩ := run_append_own_at (P := Tryz.prog) w base 30 ty 5 i0 (.int .u8 0) 1 1 Tryz.underlying30 hi hz0 hz1 hz2 rfl (by decide) v xs.length _ hv ⟨b, off, none⟩ ys.length cap (ys.map (Value.int .u8)) (by simp) (by
        intro j u hj
        rw [List.getElem?_map] at hj
        by_cases hjl : j < ys.length
        · rw [List.getElem?_eq_getElem hjl] at hj
          obtain rfl : Value.int .u8 ys[j] = u := by simpa using hj
          have e : (⟨b, off, none⟩ : Addr).add j = ⟨b, off + j, none⟩ := by unfold Addr.add; split <;> simp_all
          rw [e, hc j hjl]
          simp [List.getD, hjl]
        · rw [List.getElem?_eq_none (by omega)] at hj
          simp at hj) (by
        intro u hu
        obtain ⟨z, _, rfl⟩ := List.mem_map.1 hu
        rfl) (by unfold maxLen; omega) (by omega) hb
    refine ⟨v', w', hrun, ?_, h3, h5⟩
    unfold Owns
    rw [List.length_append, List.map_append]
    exact h2
  · have hys : ys = [] := List.eq_nil_of_length_eq_zero (by omega)
    subst hys
    cases A with
    | none => exact ⟨v, w, run_app_none hv cap ty, by simpa using hv, World.grownBy.refl w _, .inl rfl⟩
    | some a =>
      obtain ⟨v', w', hrun, h2, h3, _, h5⟩ := run_append_own_at (P := Tryz.prog) w base 30 ty 5 i0 (.int .u8 0) 1 1 Tryz.underlying30 hi hz0 hz1 hz2 rfl (by decide) v xs.length _ hv a 0 cap [] (by simp) (by simp) (by simp) (by unfold maxLen; omega) (by omega) hb
      refine ⟨v', w', hrun, ?_, h3, h5⟩
      simpa [Owns] using h2

/-- What the appending left. -/
structure App (base : Nat) (v : Value) (zs : List Int) (w : World) (v' : Value) (w' : World) : Prop where
  own : Owns base w' v' zs
  grown : w.grownBy w' v.ownBlock
  lies : v'.ownBlock = v.ownBlock ∨ v'.ownBlock = some w.heap.size

theorem wp_app_any {w : World} {o : Oper} {a : Act} {K : Act → World → Prop} {Q : Exit → Act → World → Prop} (s x : Operand)
    (ho : o.op = .call { callee := .builtin .append, args := #[s, x], argTypes := #[30, 30] }) (base : Nat) (v y : Value) (xs ys : List Int)
    (hs : a.eval s = v) (hx : a.eval x = y) (hv : Owns base w v xs) (hy : BytesAt w y ys) (hl : xs.length + ys.length ≤ 1073741824) (hb : base ≤ w.heap.size)
    (h : ∀ v' w', App base v (xs ++ ys) w v' w' → K (a.put o.dst v') w') : o.wp Tryz.prog a w K Q := by
  obtain ⟨v', w', hrun, h2, h3, h4⟩ := run_app hv hy hl hb o.type
  unfold Oper.wp execOp
  simp only [ho, resolve, invoke, builtin, Sem.run_bind, Sem.run_pure, Result.andThen_ok, List.map_toArray, List.map_cons, List.map_nil, hs, hx, hrun]
  exact h v' w' ⟨h2, h3, h4⟩

theorem wpList_app_any {w : World} {ops : Array Oper} {rest : List Oper} {o : Oper} {a : Act} {Q : Exit → Act → World → Prop} (hgd : o.guard = none) (s x : Operand)
    (ho : o.op = .call { callee := .builtin .append, args := #[s, x], argTypes := #[30, 30] }) (base : Nat) (v y : Value) (xs ys : List Int)
    (hs : a.eval s = v) (hx : a.eval x = y) (hv : Owns base w v xs) (hy : BytesAt w y ys) (hl : xs.length + ys.length ≤ 1073741824) (hb : base ≤ w.heap.size)
    (h : ∀ v' w', App base v (xs ++ ys) w v' w' → wpList Tryz.prog ops Q rest (a.put o.dst v') w') : wpList Tryz.prog ops Q (o :: rest) a w :=
  wpList_plain hgd fun _ hK => wp_app_any s x ho base v y xs ys hs hx hv hy hl hb fun v' w' h2 => hK _ _ (h v' w' h2)

theorem step_app_any {w : World} {ops : Array Oper} {o : Oper} {a : Act} {K : Act → World → Prop} {Q : Exit → Act → World → Prop} {E : Prop} (hgd : o.guard = none) (s x : Operand)
    (ho : o.op = .call { callee := .builtin .append, args := #[s, x], argTypes := #[30, 30] }) (base : Nat) (v y : Value) (xs ys : List Int)
    (hs : a.eval s = v) (hx : a.eval x = y) (hv : Owns base w v xs) (hy : BytesAt w y ys) (hl : xs.length + ys.length ≤ 1073741824) (hb : base ≤ w.heap.size)
    (h : ∀ v' w', App base v (xs ++ ys) w v' w' → K (a.put o.dst v') w') : if Region.wanted o (yielded ops a.tmps) = true then Oper.wp Tryz.prog o a w K Q else E := by
  have hw : Region.wanted o (yielded ops a.tmps) = true := by simp [Region.wanted, hgd]
  rw [if_pos hw]
  exact wp_app_any s x ho base v y xs ys hs hx hv hy hl hb h

theorem App.below {base : Nat} {v v' : Value} {xs zs : List Int} {w w' W : World} (h : App base v zs w v' w') (hv : Owns base w v xs) (hW : Below base W w) (hb : base ≤ w.heap.size) : Below base W w' :=
  hW.grown h.grown hb fun k hk => (hv.lt k hk).1

/-- The call made the bytes xs in a block of its own, or none. -/
def MadeOwn (xs : List Int) (w : World) (e : Ending) (w' : World) : Prop :=
  ∃ v, e = .returned v ∧ Owns w.heap.size w' v xs ∧ Below w.heap.size w w'

theorem own_empty (w : World) : Owns w.heap.size (w.alloc (.cells #[] 5)) (.slice (some ⟨w.heap.size, 0, none⟩) 0 0) [] :=
  ⟨by simp, .inr ⟨w.heap.size, 0, #[], rfl, Nat.le_refl _, Go.Deep.blk_alloc_new _ _, Nat.le_refl _, by unfold maxLen; decide, by simp, by simp⟩⟩

set_option maxRecDepth 100000 in
set_option maxHeartbeats 400000 in
theorem clone_any (A : Option Addr) (L cap : Nat) (xs : List Int) (w : World) (hb : BytesAt w (.slice A L cap) xs) (hl : L ≤ 1073741824) :
    Calls Tryz.prog 24 #[.slice A L cap] w (MadeOwn xs w) := by
  have heq := fun (w : World) (a : Option Addr) => Lib.run_eql_slice_nil (P := Tryz.prog) w 30 5 a L cap 0 0 Tryz.underlying30
  have hL : xs.length = L := by obtain ⟨_, _, e, _⟩ := hb; injection e with _ e _; exact e.symm
  have HL := Lib.hid hL
  have HB := Lib.hid hb
  have hown := Lib.hid (own_empty w)
  cases A with
  | none =>
    have hx : xs = [] := by
      by_cases hp : 0 < xs.length
      · obtain ⟨_, _, e, h⟩ := hb
        obtain ⟨_, _, e2, _⟩ := h hp
        injection e with e _ _
        rw [← e] at e2
        cases e2
      · exact List.eq_nil_of_length_eq_zero (by omega)
    subst hx
    clear hL hb
    go_enter Tryz.func24, Tryz.ntmps24
    go_wp2
    go_ret
    exact ⟨_, rfl, World.ownsRow_nil _ _ _ _, Below.refl _ _⟩
  | some a =>
    clear hL hb
    go_enter Tryz.func24, Tryz.ntmps24
    go_wp2_with (at_builtin; refine wpList_app_any rfl _ _ rfl w.heap.size _ _ [] xs rfl rfl hown.out (HB.out.below ((Below.refl _ _).alloc (Nat.le_refl _) _)) (by have := HL.out; simp; omega) (by simp) ?_; intro v' w1 happ)
    go_ret
    refine ⟨_, rfl, by simpa using happ.own, ?_⟩
    exact happ.below hown.out ((Below.refl _ _).alloc (Nat.le_refl _) _) (by simp)

/-- .. in the walk's spelling. -/
def MadeSl (L : Nat) (xs : List Int) (w : World) (e : Ending) (w' : World) : Prop :=
  ∃ A c, e = .returned (.slice A L c) ∧ Owns w.heap.size w' (.slice A L c) xs ∧ Below w.heap.size w w'

theorem clone_sl (A : Option Addr) (L cap : Nat) (xs : List Int) (w : World) (hb : BytesAt w (.slice A L cap) xs) (hl : L ≤ 1073741824) :
    Calls Tryz.prog 24 #[.slice A L cap] w (MadeSl L xs w) := by
  have hL : xs.length = L := by obtain ⟨_, _, e, _⟩ := hb; injection e with _ e _; exact e.symm
  refine (clone_any A L cap xs w hb hl).mono ?_
  rintro e w' ⟨v, rfl, ho, hbl⟩
  obtain ⟨A5, c5, hv, _⟩ := ho.bytes
  subst hv
  rw [hL] at ho ⊢
  exact ⟨A5, c5, rfl, ho, hbl⟩
end Go.Proofs.YtbfgbnalnjdheaaGreat
namespace Go.Proofs.YtbfgbnalnjdheaaGreat
open Go.RowKit

/-- An access of kind k to n bytes at p, with those bytes b in new memory (or none). -/
def MadeAcc (k p n : Int) (b : List Int) (w : World) (e : Ending) (w' : World) : Prop :=
  ∃ A l c, e = .returned (.agg #[.int .i64 k, .int .i64 p, .int .i64 n, .int .u64 0, .int .u64 0, .slice A l c]) ∧ Owns w.heap.size w' (.slice A l c) b ∧ Below w.heap.size w w'

theorem lt_of_cell {w : World} {b o : Nat} {v : Value} (h : w.cell? ⟨b, o, none⟩ = some v) : b < w.heap.size := World.block_lt_of_cell? w ⟨b, o, none⟩ h

set_option maxRecDepth 100000 in
set_option maxHeartbeats 400000 in
theorem writeAcc_any (p : Int) (A : Option Addr) (L cap : Nat) (w : World) :
    Calls Tryz.prog 122 #[.int .i64 p, .slice A L cap] w (Made (.agg #[.int .i64 6, .int .i64 p, .int .i64 L, .int .u64 0, .int .u64 0, .slice A L cap]) w) := by
  go_enter Tryz.func122, Tryz.ntmps122
  go_wp2
  refine bodyPost_ret (v := .agg #[.int .i64 6, .int .i64 p, .int .i64 L, .int .u64 0, .int .u64 0, .slice A L cap]) (by simp [results, Tryz.results122, go_sem]) rfl ?_
  exact ⟨rfl, (Below.refl _ w).alloc (Nat.le_refl _) _⟩


/-- A place for an access, in block b: it is there, and may be written. -/
structure AccNew (b : Nat) (W : World) : Prop where
  c0 : W.cell? ⟨b, 0, none⟩ = some (.int .i64 0)
  c1 : W.cell? ⟨b, 1, none⟩ = some (.int .i64 0)
  c2 : W.cell? ⟨b, 2, none⟩ = some (.int .i64 0)
  c3 : W.cell? ⟨b, 3, none⟩ = some (.int .u64 0)
  c4 : W.cell? ⟨b, 4, none⟩ = some (.int .u64 0)
  c5 : W.cell? ⟨b, 5, none⟩ = some (.slice none 0 0)
  f0 : W.frozen? ⟨b, 0, none⟩ = false
  f1 : W.frozen? ⟨b, 1, none⟩ = false
  f2 : W.frozen? ⟨b, 2, none⟩ = false
  f3 : W.frozen? ⟨b, 3, none⟩ = false
  f4 : W.frozen? ⟨b, 4, none⟩ = false
  f5 : W.frozen? ⟨b, 5, none⟩ = false
  blk : W.heap[b]? = some (.cells #[.int .i64 0, .int .i64 0, .int .i64 0, .int .u64 0, .int .u64 0, .slice none 0 0] 58 (0, 0))
theorem AccNew.of_blk {b : Nat} {W : World} (h : W.heap[b]? = some (.cells #[.int .i64 0, .int .i64 0, .int .i64 0, .int .u64 0, .int .u64 0, .slice none 0 0] 58 (0, 0))) : AccNew b W := by
  refine ⟨?_, ?_, ?_, ?_, ?_, ?_, ?_, ?_, ?_, ?_, ?_, ?_, h⟩
  all_goals first | simp [World.cell?, h] | simp [World.frozen?, h]
theorem AccNew.later {b : Nat} {W W' : World} (h : AccNew b W) (hb : Below W.heap.size W W') : AccNew b W' := by
  have hlt : b < W.heap.size := (Array.getElem?_eq_some_iff.1 h.blk).1
  exact .of_blk ((hb.block b hlt).trans h.blk)
theorem AccNew.made (w : World) : AccNew w.heap.size (w.alloc (.cells #[.int .i64 0, .int .i64 0, .int .i64 0, .int .u64 0, .int .u64 0, .slice none 0 0] 58)) := .of_blk (Go.Deep.blk_alloc_new _ _)
theorem AccNew.alloc {b : Nat} {W : World} (h : AccNew b W) (o : Obj) : AccNew b (W.alloc o) := h.later ((Below.refl _ _).alloc (Nat.le_refl _) _)

theorem Owns.setCell {base : Nat} {w : World} {v : Value} {xs : List Int} (h : Owns base w v xs) {p : Addr} (hp : p.block < base) (u : Value) : Owns base (w.setCell p u) v xs := by
  obtain ⟨h1, h2⟩ := h
  refine ⟨h1, ?_⟩
  rcases h2 with h2 | ⟨g, cap, cur, hv, hg, hh, r⟩
  · exact .inl h2
  · exact .inr ⟨g, cap, cur, hv, hg, (Below.heap_setCell w p u g (by omega)).trans hh, r⟩

theorem Owns.of_block {base : Nat} {w w' : World} {v : Value} {xs : List Int} (h : Owns base w v xs) (hb : ∀ k, v.ownBlock = some k → w'.heap[k]? = w.heap[k]?) : Owns base w' v xs := by
  obtain ⟨h1, h2⟩ := h
  refine ⟨h1, ?_⟩
  rcases h2 with h2 | ⟨g, cap, cur, hv, hg, hh, r⟩
  · exact .inl h2
  · exact .inr ⟨g, cap, cur, hv, hg, (hb g (by rw [hv]; rfl)).trans hh, r⟩

theorem Owns.ge {base : Nat} {w : World} {v : Value} {xs : List Int} (h : Owns base w v xs) {k : Nat} (hk : v.ownBlock = some k) : base ≤ k ∧ k < w.heap.size := World.ownsRow.lt h k hk

theorem Owns.keepTouch {S : Nat → Prop} {base : Nat} {w w' : World} {v : Value} {xs : List Int} (h : Owns base w v xs) (ht : Touch S w w') (hn : ∀ k, v.ownBlock = some k → ¬ S k) : Owns base w' v xs :=
  h.of_block fun k hk => ht.block k (h.ge hk).2 (hn k hk)

/-- An access is stored in its place: the world behind it. -/
def six (w : World) (b : Nat) (u0 u1 u2 u3 u4 u5 : Value) : World :=
  (((((w.setCell ⟨b, 0, none⟩ u0).setCell ⟨b, 1, none⟩ u1).setCell ⟨b, 2, none⟩ u2).setCell ⟨b, 3, none⟩ u3).setCell ⟨b, 4, none⟩ u4).setCell ⟨b, 5, none⟩ u5

theorem six_own {base b : Nat} {w : World} {v : Value} {xs : List Int} (h : Owns base w v xs) (hb : b < base) (u0 u1 u2 u3 u4 u5 : Value) : Owns base (six w b u0 u1 u2 u3 u4 u5) v xs :=
  (((((h.setCell (p := ⟨b, 0, none⟩) hb u0).setCell (p := ⟨b, 1, none⟩) hb u1).setCell (p := ⟨b, 2, none⟩) hb u2).setCell (p := ⟨b, 3, none⟩) hb u3).setCell (p := ⟨b, 4, none⟩) hb u4).setCell (p := ⟨b, 5, none⟩) hb u5

theorem six_below {B b : Nat} {w W : World} (h : Below B w W) (hb : B ≤ b) (u0 u1 u2 u3 u4 u5 : Value) : Below B w (six W b u0 u1 u2 u3 u4 u5) :=
  (((((h.setCell (p := ⟨b, 0, none⟩) hb u0).setCell (p := ⟨b, 1, none⟩) hb u1).setCell (p := ⟨b, 2, none⟩) hb u2).setCell (p := ⟨b, 3, none⟩) hb u3).setCell (p := ⟨b, 4, none⟩) hb u4).setCell (p := ⟨b, 5, none⟩) hb u5

theorem zeros_len (n : Nat) : (Mb.bl (fun _ => 0) 0 n).length = n := Mb.bl_length _ _ _

/-- Bytes that are 0, in new memory. -/
theorem zeros_made (w : World) (n : Nat) (hn : n ≤ 1073741824) : Owns w.heap.size (w.alloc (.cells (madeCells #[.int .u8 0] n) 5)) (.slice (some ⟨w.heap.size, 0, none⟩) n n) (Mb.bl (fun _ => 0) 0 n) := by
  have e : (Mb.bl (fun _ => 0) 0 n).map (Value.int .u8) = (madeCells #[.int .u8 0] n).toList := by
    apply List.ext_getElem
    · simp [Mb.bl, size_madeCells]
    · intro i h1 h2
      simp [Mb.bl, madeCells, Nat.mod_one]
  unfold Owns
  rw [zeros_len]
  refine ⟨by simp [Mb.bl_length], .inr ⟨w.heap.size, n, _, rfl, Nat.le_refl _, Go.Deep.blk_alloc_new _ _, Nat.le_refl _, by unfold maxLen; omega, ?_, ?_⟩⟩
  · simp [size_madeCells]
  · rw [e, Nat.mul_one, List.take_of_length_le (by simp [size_madeCells])]

theorem make_bytes (n : Nat) (hn : n ≤ 1073741824) (W : World) :
    (Instr.makeSlice 30 (.int .i64 (n : Int)) (.int .i64 (n : Int))).run Tryz.prog W = .ok (.slice (some ⟨W.heap.size, 0, none⟩) n n) (W.alloc (.cells (madeCells #[.int .u8 0] n) 5)) := by
  obtain ⟨i, hi, hz, hs, hby⟩ := info_parts infoU8
  have hr := run_make (P := Tryz.prog) W 30 5 i (.int .u8 0) Tryz.underlying30 hi hz .i64 .i64 (n : Int) (n : Int) (by omega) (Int.le_refl _) (by rw [hby]; omega) (by omega)
  rw [hs] at hr
  simpa [Value.cells] using hr


theorem cut_bl (f : Nat → Nat) (d n L : Nat) (h : d + n ≤ L) : ((Mb.bl f 0 L).drop d).take n = Mb.bl f d n := by
  have e : L = d + (n + (L - d - n)) := by omega
  rw [e, Mb.bl_append, Mb.bl_append, List.drop_left' (Mb.bl_length _ _ _), List.take_left' (by rw [Mb.bl_length]), Nat.zero_add]

set_option maxRecDepth 100000 in
set_option maxHeartbeats 400000 in
theorem inNext_any (d n L cap : Nat) (a b g : Nat) (f : Nat → Nat) (at_ : Int) (w : World) (hc : w.cell? ⟨a, 0, none⟩ = some (.int .i64 at_)) (hk : w.cell? ⟨b, 0, none⟩ = some (.slice (some ⟨g, 0, none⟩) L cap))
    (hB : BytesAt w (.slice (some ⟨g, 0, none⟩) L cap) (Mb.bl f 0 L)) (h0 : -4611686018427387904 ≤ at_) (h1 : at_ ≤ 4611686018427387904) (hn : 0 < n) (hL : L ≤ 131072) (hdn : d + n ≤ L) (hcap : L ≤ cap) (hm : cap ≤ maxLen) :
    Calls Tryz.prog 121 #[.int .i64 d, .int .i64 n, .pointer (some ⟨a, 0, none⟩), .pointer (some ⟨b, 0, none⟩)] w (MadeAcc 6 (at_ + d) n (Mb.bl f d n) w) := by
  have hlt := lt_of_cell hc
  have hltb := lt_of_cell hk
  have hm2 : cap ≤ 9223372036854775807 := by unfold maxLen at hm; omega
  have hw1 : IntKind.i64.wrap (at_ + (d : Int)) = at_ + d := IntWalk.i64_in _ (by omega)
  have hw2 : IntKind.i64.wrap ((d : Int) + (n : Int)) = d + n := IntWalk.i64_in _ (by omega)
  have hs1 : (0 : Int) ≤ d := by omega
  have hs2 : (d : Int) ≤ d + n := by omega
  have hs3 : (d : Int) + n ≤ cap := by omega
  have hs4 : ((d : Int) + (n : Int)).toNat - d = n := by omega
  have hs5 : cap ≠ d := by omega
  have HA := AccNew.made w
  have HW := (Below.refl w.heap.size w).alloc (Nat.le_refl _) (.cells #[.int .i64 0, .int .i64 0, .int .i64 0, .int .u64 0, .int .u64 0, .slice none 0 0] 58)
  have hc1 : (w.alloc (.cells #[.int .i64 0, .int .i64 0, .int .i64 0, .int .u64 0, .int .u64 0, .slice none 0 0] 58)).cell? ⟨a, 0, none⟩ = some (.int .i64 at_) := (HW.cell (p := ⟨a, 0, none⟩) hlt).trans hc
  have hk1 : (w.alloc (.cells #[.int .i64 0, .int .i64 0, .int .i64 0, .int .u64 0, .int .u64 0, .slice none 0 0] 58)).cell? ⟨b, 0, none⟩ = some (.slice (some ⟨g, 0, none⟩) L cap) := (HW.cell (p := ⟨b, 0, none⟩) hltb).trans hk
  have hnew : w.heap.size ≠ a := by omega
  have hnew2 : w.heap.size ≠ b := by omega
  have HB := Lib.hid (hB.below HW)
  clear hB
  go_enter Tryz.func121, Tryz.ntmps121
  go_wp2
  generalize w.alloc (.cells #[.int .i64 0, .int .i64 0, .int .i64 0, .int .u64 0, .int .u64 0, .slice none 0 0] 58) = W at hc1 hk1 HA HB HW ⊢
  have hltW := lt_of_cell hc1
  have hltbW := lt_of_cell hk1
  go_region_held3 (fun w' => w'.cell? ⟨a, 0, none⟩ = some (.int .i64 at_) ∧ w'.cell? ⟨b, 0, none⟩ = some (.slice (some ⟨g, 0, none⟩) L cap)) (go_keep)
    (first
      | (go_at_call 24; refine (clone_sl _ _ _ (Mb.bl f d n) _ ?_ ?_).mono ?_; (have := HB.out.cut d n (cap - d) (by rw [Mb.bl_length]; omega); rw [Nat.zero_add, cut_bl f d n L hdn] at this; exact this.drew); omega; rintro e w1 ⟨A5, c5, rfl, ho1, hb1⟩; have hkc1 : w1.cell? ⟨a, 0, none⟩ = some (.int .i64 at_) := (hb1.cell (p := ⟨a, 0, none⟩) (by simp; omega)).trans (by go_keep); have hkb1 : w1.cell? ⟨b, 0, none⟩ = some (.slice (some ⟨g, 0, none⟩) L cap) := (hb1.cell (p := ⟨b, 0, none⟩) (by simp; omega)).trans (by go_keep))
      | (go_at_call 122; refine (writeAcc_any _ _ _ _ _).mono ?_; rintro e w2 ⟨rfl, hb2⟩; have hkc2 : w2.cell? ⟨a, 0, none⟩ = some (.int .i64 at_) := (hb2.cell (p := ⟨a, 0, none⟩) (by have := hb1.size; simp at this; simp; omega)).trans (by go_keep); have hkb2 : w2.cell? ⟨b, 0, none⟩ = some (.slice (some ⟨g, 0, none⟩) L cap) := (hb2.cell (p := ⟨b, 0, none⟩) (by have := hb1.size; simp at this; simp; omega)).trans (by go_keep); have HA1 := HA.later ((below_drew hb1).trans (hb2.mono (below_drew hb1).size)); obtain ⟨a0, a1, a2, a3, a4, a5, f0, f1, f2, f3, f4, f5, _⟩ := HA1))
  go_wp2
  refine bodyPost_ret (v := .agg #[.int .i64 6, .int .i64 (at_ + d), .int .i64 n, .int .u64 0, .int .u64 0, .slice A5 n c5]) (by simp [results, Tryz.results121, go_sem, a0, a1, a2, a3, a4, a5]) rfl ?_
  refine ⟨_, _, _, rfl, (six_own (base := W.heap.size) (ho1.below hb2) (by have := HA.blk; exact (Array.getElem?_eq_some_iff.1 this).1) _ _ _ _ _ _).down HW.size, six_below ((HW.trans ?_)) (Nat.le_refl _) _ _ _ _ _ _⟩
  exact ((below_drew hb1).trans (hb2.mono (below_drew hb1).size)).mono HW.size
end Go.Proofs.YtbfgbnalnjdheaaGreat
namespace Go.Proofs.YtbfgbnalnjdheaaGreat
open Go.RowKit

/-- What a copy does: it writes the bytes f at a place, or zeros, or it reads. -/
inductive Kd where
  | wr (at_ : Int) (f : Nat → Nat)
  | ze (at_ : Int)
  | rd (at_ : Int)

namespace Kd
def place : Kd → Int
  | .wr a _ => a
  | .ze a => a
  | .rd a => a
/-- The access' kind. -/
def kind : Kd → Int
  | .wr _ _ => 6
  | .ze _ => 6
  | .rd _ => 5
/-- The bytes that it writes. -/
def bytes : Kd → Nat → Nat → List Int
  | .wr _ f, d, c => Mb.bl f d c
  | .ze _, d, c => Mb.bl (fun _ => 0) d c
  | .rd _, _, _ => []
/-- Does it read? -/
def reads : Kd → Bool
  | .wr _ _ => false
  | .ze _ => false
  | .rd _ => true
end Kd

/-- The blocks of a machine that are written once. -/
def Fixed (base top g k : Nat) : Prop := base ≤ k ∧ k < top ∧ k ≠ g

/-- The closures of a machine that is to copy n bytes. -/
def Body (w : World) (base top g n : Nat) : Kd → Value → Value → Prop
  | .wr at_ f, nx, th => ∃ a b gk cap, nx = .func (.func 121) #[] #[.pointer (some ⟨a, 0, none⟩), .pointer (some ⟨b, 0, none⟩)] ∧ th = .func (.func 124) #[] #[] ∧
      Fixed base top g a ∧ Fixed base top g b ∧ Fixed base top g gk ∧ w.cell? ⟨a, 0, none⟩ = some (.int .i64 at_) ∧ w.cell? ⟨b, 0, none⟩ = some (.slice (some ⟨gk, 0, none⟩) n cap) ∧
      BytesAt w (.slice (some ⟨gk, 0, none⟩) n cap) (Mb.bl f 0 n) ∧ n ≤ cap ∧ cap ≤ maxLen
  | .ze _, _, _ => False
  | .rd _, _, _ => False

theorem BytesAt.of_block {w w' : World} {g o n cap : Nat} {xs : List Int} (h : BytesAt w (.slice (some ⟨g, o, none⟩) n cap) xs) (hs : w.heap.size ≤ w'.heap.size) (hb : w'.heap[g]? = w.heap[g]?) : BytesAt w' (.slice (some ⟨g, o, none⟩) n cap) xs := by
  obtain ⟨A, c, hv, h⟩ := h
  refine ⟨A, c, hv, fun hp => ?_⟩
  obtain ⟨b, off, e, h3, h4⟩ := h hp
  injection hv with e1 _ _
  rw [← e1] at e
  injection e with e
  injection e with e5 e6
  subst e5 e6
  rw [← e1]
  exact ⟨g, o, rfl, by omega, fun i hi => (World.cell?_of_block (w := w) (a := ⟨g, o + i, none⟩) hb).trans (h4 i hi)⟩

theorem Body.keep {w w' : World} {base top g n : Nat} {kd : Kd} {nx th : Value} (h : Body w base top g n kd nx th) (hs : w.heap.size ≤ w'.heap.size) (hb : ∀ k, Fixed base top g k → w'.heap[k]? = w.heap[k]?) : Body w' base top g n kd nx th := by
  have hc : ∀ k o, Fixed base top g k → w'.cell? ⟨k, o, none⟩ = w.cell? ⟨k, o, none⟩ := fun k o hk => World.cell?_of_block (w := w) (a := ⟨k, o, none⟩) (hb k hk)
  cases kd with
  | wr at_ f =>
    obtain ⟨a, b, gk, cap, e1, e2, ka, kb, kg, h1, h2, h3, h4, h5⟩ := h
    exact ⟨a, b, gk, cap, e1, e2, ka, kb, kg, (hc a 0 ka).trans h1, (hc b 0 kb).trans h2, h3.of_block hs (hb gk kg), h4, h5⟩
  | ze at_ => exact False.elim h
  | rd at_ => exact False.elim h

/-- A machine stands at block g; its other blocks lie from base on, below top; d bytes are copied, r are left; it read the bytes ys, which lie above. -/
structure Cp (w : World) (base top g : Nat) (kd : Kd) (d r : Nat) (v : Value) (ys : List Int) : Prop where
  above : base ≤ g
  under : g < top
  there : top ≤ w.heap.size
  few : d + r ≤ 131072
  near : -4611686018427387904 ≤ kd.place ∧ kd.place ≤ 4611686018427387904
  head : ∃ cv nx th, w.heap[g]? = some (.cells #[cv, .int .i64 d, nx, th, v] 175 (0, 0)) ∧ Parts (Fixed base top g) w cv (Cy.cks r) ∧ (0 < d + r → Body w base top g (d + r) kd nx th)
  own : Owns top w v ys

namespace Cp
variable {w w' : World} {base top g d r : Nat} {kd : Kd} {v : Value} {ys : List Int}
theorem keep (h : Cp w base top g kd d r v ys) (hs : w.heap.size ≤ w'.heap.size) (hb : ∀ k, base ≤ k → k < top → w'.heap[k]? = w.heap[k]?) (ho : ∀ k, v.ownBlock = some k → w'.heap[k]? = w.heap[k]?) : Cp w' base top g kd d r v ys := by
  obtain ⟨cv, nx, th, h1, h2, h3⟩ := h.head
  exact ⟨h.above, h.under, Nat.le_trans h.there hs, h.few, h.near, ⟨cv, nx, th, (hb g h.above h.under).trans h1, h2.of_blocks hs fun k hk => hb k hk.1 hk.2.1, fun hn => (h3 hn).keep hs fun k hk => hb k hk.1 hk.2.1⟩, h.own.of_block ho⟩
theorem touch {S : Nat → Prop} (h : Cp w base top g kd d r v ys) (ht : Touch S w w') (hb : ∀ k, base ≤ k → k < top → ¬ S k) (ho : ∀ k, v.ownBlock = some k → ¬ S k) : Cp w' base top g kd d r v ys :=
  h.keep ht.size (fun k h1 h2 => ht.block k (Nat.lt_of_lt_of_le h2 h.there) (hb k h1 h2)) fun k hk => ht.block k (h.own.ge hk).2 (ho k hk)
theorem below (h : Cp w base top g kd d r v ys) (hb : Below w.heap.size w w') : Cp w' base top g kd d r v ys := h.touch (S := fun _ => False) (Touch.of_below hb) (fun _ _ _ => id) fun _ _ => id
theorem lt (h : Cp w base top g kd d r v ys) : g < w.heap.size := Nat.lt_of_lt_of_le h.under h.there
theorem alloc (h : Cp w base top g kd d r v ys) (o : Obj) : Cp (w.alloc o) base top g kd d r v ys := h.below ((Below.refl _ _).alloc (Nat.le_refl _) _)
theorem drew (h : Cp w base top g kd d r v ys) : Cp w.drew base top g kd d r v ys := h.below (Below.refl _ _).drew
end Cp

/-- A machine told its next access: it is of that kind, with those bytes in new memory. -/
def NextIs (kd : Kd) (d c : Nat) (w : World) (e : Ending) (w' : World) : Prop :=
  ∃ A l cp, e = .returned (.tuple #[.agg #[.int .i64 kd.kind, .int .i64 (kd.place + d), .int .i64 c, .int .u64 0, .int .u64 0, .slice A l cp], .bool true]) ∧ Owns w.heap.size w' (.slice A l cp) (kd.bytes d c) ∧ Below w.heap.size w w'

/-- .. or it is at its end. -/
def NextNo (w : World) (e : Ending) (w' : World) : Prop :=
  e = .returned (.tuple #[.agg #[.int .i64 0, .int .i64 0, .int .i64 0, .int .u64 0, .int .u64 0, .slice none 0 0], .bool false]) ∧ Below w.heap.size w w'

set_option maxRecDepth 100000 in
set_option maxHeartbeats 400000 in
theorem stepsNext_no {w : World} {base top g d : Nat} {kd : Kd} {v : Value} {ys : List Int} (h : Cp w base top g kd d 0 v ys) :
    Calls Tryz.prog 147 #[.pointer (some ⟨g, 0, none⟩)] w (NextNo w) := by
  obtain ⟨cv, nx, th, h1, ⟨A, cap, rfl, _, _, _⟩, _⟩ := h.head
  have hlt := h.lt
  have hc : w.cell? ⟨g, 0, none⟩ = some (.slice A 0 cap) := by simp [World.cell?, h1, Cy.cks_zero]
  clear h h1
  go_enter Tryz.func147, Tryz.ntmps147
  go_wp2
  refine bodyPost_ret (v := .tuple #[.agg #[.int .i64 0, .int .i64 0, .int .i64 0, .int .u64 0, .int .u64 0, .slice none 0 0], .bool false]) (by simp [results, Tryz.results147, go_sem]) rfl ?_
  exact ⟨rfl, (Below.refl _ w).alloc (Nat.le_refl _) _⟩
end Go.Proofs.YtbfgbnalnjdheaaGreat
namespace Go.Proofs.YtbfgbnalnjdheaaGreat
open Go.RowKit


set_option maxRecDepth 100000 in
set_option maxHeartbeats 1000000 in
theorem stepsNext_wr (at_ : Int) (f : Nat → Nat) {w : World} {base top g d r : Nat} {v : Value} {ys : List Int} (h : Cp w base top g (.wr at_ f) d r v ys) (hr : 0 < r) :
    Calls Tryz.prog 147 #[.pointer (some ⟨g, 0, none⟩)] w (NextIs (.wr at_ f) d (Cy.nx r) w) := by
  have hlt := h.lt
  have hnp := Cy.nx_pos hr
  have hnl := Cy.nx_le r
  have hfew := h.few
  obtain ⟨hat0, hat1⟩ := h.near
  simp only [Kd.place] at hat0 hat1
  have HW := (Below.refl w.heap.size w).alloc (Nat.le_refl _) (.cells #[.int .i64 0, .int .i64 0, .int .i64 0, .int .u64 0, .int .u64 0, .slice none 0 0] 58)
  obtain ⟨cv, nx, th, h1, hp, hbd⟩ := (h.below HW).head
  obtain ⟨ca, cb, gk, kcap, rfl, rfl, ka, kb, kg, q1, q2, q3, q4, q5⟩ := hbd (by omega)
  rw [Cy.cks_step hr] at hp
  obtain ⟨A, cap, rfl, hcl, hcm, hp⟩ := hp
  obtain ⟨pb, po, rfl, hpf, hpl, hpc⟩ := hp (by simp)
  have hp0 := hpc 0 (by simp)
  have hm2 : cap ≤ 9223372036854775807 := by unfold maxLen at hcm; omega
  simp only [List.getD_cons_zero, Nat.add_zero, List.length_cons] at hp0 hcl h1
  generalize hLq : (Cy.cks (r - Cy.nx r)).length = L at hcl h1
  clear hLq hpc hp hbd
  have hpos : 0 < L + 1 := by omega
  have hpos2 : (0 : Int) < (L : Int) + 1 := by omega
  have hne0 : ¬ ((L : Int) + 1 = 0) := by omega
  have HA := AccNew.made w
  have hnewg : w.heap.size ≠ g := by omega
  have hub := h.there
  have hug := h.under
  have hnewp : w.heap.size ≠ pb := by have := hpf.2.1; omega
  have hnewa : w.heap.size ≠ ca := by have := ka.2.1; omega
  have hnewb : w.heap.size ≠ cb := by have := kb.2.1; omega
  have hpne : pb ≠ g := hpf.2.2
  clear h
  have HH := Lib.hid h1
  have hcw : w.cell? ⟨g, 0, none⟩ = some (.slice (some ⟨pb, po, none⟩) (L + 1) cap) := by rw [← World.cell?_of_block (w := w) (w' := w.alloc (.cells #[.int .i64 0, .int .i64 0, .int .i64 0, .int .u64 0, .int .u64 0, .slice none 0 0] 58)) (a := ⟨g, 0, none⟩) (HW.block g hlt)]; simp [World.cell?, h1]
  clear h1
  have HB3 := Lib.hid q3
  clear q3
  go_enter Tryz.func147, Tryz.ntmps147
  go_wp2_with fail
  clear hcw
  generalize w.alloc (.cells #[.int .i64 0, .int .i64 0, .int .i64 0, .int .u64 0, .int .u64 0, .slice none 0 0] 58) = W at q1 q2 HB3 hp0 HA HH HW hpl ⊢
  have hc0 : W.cell? ⟨g, 0, none⟩ = some (.slice (some ⟨pb, po, none⟩) (L + 1) cap) := by simp [World.cell?, HH.out]
  have hc1 : W.cell? ⟨g, 1, none⟩ = some (.int .i64 d) := by simp [World.cell?, HH.out]
  have hc2 : W.cell? ⟨g, 2, none⟩ = some (.func (.func 121) #[] #[.pointer (some ⟨ca, 0, none⟩), .pointer (some ⟨cb, 0, none⟩)]) := by simp [World.cell?, HH.out]
  have hgW : g < W.heap.size := Nat.lt_of_lt_of_le hlt HW.size
  have hAb : w.heap.size < W.heap.size := (Array.getElem?_eq_some_iff.1 HA.blk).1
  go_region_held3 (fun w' => w'.cell? ⟨g, 0, none⟩ = some (.slice (some ⟨pb, po, none⟩) (L + 1) cap) ∧ w'.cell? ⟨g, 1, none⟩ = some (.int .i64 d) ∧ w'.cell? ⟨g, 2, none⟩ = some (.func (.func 121) #[] #[.pointer (some ⟨ca, 0, none⟩), .pointer (some ⟨cb, 0, none⟩)]) ∧ w'.cell? ⟨pb, po, none⟩ = some (.int .i64 (Cy.nx r : Nat))) (go_keep)
    (first | (go_at_call 121; refine (inNext_any d (Cy.nx r) (d + r) kcap ca cb gk f at_ W.drew q1 q2 HB3.out.drew hat0 hat1 hnp (by omega) (by omega) q4 q5).mono ?_; rintro e w1 ⟨A1, l1, c1, rfl, ho1, hb1⟩; have hb2 := below_drew hb1; have hk0 := (hb2.cell (p := ⟨g, 0, none⟩) hgW).trans hc0; have hk1 := (hb2.cell (p := ⟨g, 1, none⟩) hgW).trans hc1; have hk2 := (hb2.cell (p := ⟨g, 2, none⟩) hgW).trans hc2; have hk3 := (hb2.cell (p := ⟨pb, po, none⟩) hpl).trans hp0; have HA1 := HA.later hb2; obtain ⟨a0, a1, a2, a3, a4, a5, f0, f1, f2, f3, f4, f5, _⟩ := HA1))
  go_wp2
  refine bodyPost_ret (v := .tuple #[.agg #[.int .i64 6, .int .i64 (at_ + d), .int .i64 (Cy.nx r : Nat), .int .u64 0, .int .u64 0, .slice A1 l1 c1], .bool true]) (by simp [results, Tryz.results147, go_sem, a0, a1, a2, a3, a4, a5]) rfl ?_
  refine ⟨_, _, _, rfl, (six_own (base := W.heap.size) ho1 hAb _ _ _ _ _ _).down HW.size, six_below (HW.trans (hb2.mono HW.size)) (Nat.le_refl _) _ _ _ _ _ _⟩


theorem stepsNext_any {kd : Kd} {w : World} {base top g d r : Nat} {v : Value} {ys : List Int} (h : Cp w base top g kd d r v ys) (hr : 0 < r) :
    Calls Tryz.prog 147 #[.pointer (some ⟨g, 0, none⟩)] w (NextIs kd d (Cy.nx r) w) := by
  cases kd with
  | wr at_ f => exact stepsNext_wr at_ f h hr
  | ze at_ => obtain ⟨_, _, _, _, _, hb⟩ := h.head; exact (hb (by omega)).elim
  | rd at_ => obtain ⟨_, _, _, _, _, hb⟩ := h.head; exact (hb (by omega)).elim

set_option maxRecDepth 100000 in
set_option maxHeartbeats 400000 in
theorem next_any {kd : Kd} {w : World} {base top g d r : Nat} {v : Value} {ys : List Int} (h : Cp w base top g kd d r v ys) (hr : 0 < r) :
    Calls Tryz.prog 145 #[.pointer (some ⟨g, 0, none⟩)] w (NextIs kd d (Cy.nx r) w) := by
  have hlt := h.lt
  have HA := AccNew.made w
  have HW := (Below.refl w.heap.size w).alloc (Nat.le_refl _) (.cells #[.int .i64 0, .int .i64 0, .int .i64 0, .int .u64 0, .int .u64 0, .slice none 0 0] 58)
  have HC := Lib.hid (stepsNext_any (h.below HW) hr)
  clear h
  go_enter Tryz.func145, Tryz.ntmps145
  go_wp2_with fail
  generalize w.alloc (.cells #[.int .i64 0, .int .i64 0, .int .i64 0, .int .u64 0, .int .u64 0, .slice none 0 0] 58) = W at HA HW HC ⊢
  have hAb : w.heap.size < W.heap.size := (Array.getElem?_eq_some_iff.1 HA.blk).1
  refine HC.out.mono ?_
  rintro e w1 ⟨A1, l1, c1, rfl, ho1, hb1⟩
  have HA1 := HA.later hb1
  obtain ⟨a0, a1, a2, a3, a4, a5, f0, f1, f2, f3, f4, f5, _⟩ := HA1
  have HO := Lib.hid ho1
  clear ho1
  go_wp2
  refine bodyPost_ret (v := .tuple #[.agg #[.int .i64 kd.kind, .int .i64 (kd.place + d), .int .i64 (Cy.nx r : Nat), .int .u64 0, .int .u64 0, .slice A1 l1 c1], .bool true]) (by simp [results, Tryz.results145, go_sem, a0, a1, a2, a3, a4, a5]) rfl ?_
  exact ⟨_, _, _, rfl, (six_own (base := W.heap.size) HO.out hAb _ _ _ _ _ _).down HW.size, six_below (HW.trans (hb1.mono HW.size)) (Nat.le_refl _) _ _ _ _ _ _⟩

set_option maxRecDepth 100000 in
set_option maxHeartbeats 400000 in
theorem next_no {kd : Kd} {w : World} {base top g d : Nat} {v : Value} {ys : List Int} (h : Cp w base top g kd d 0 v ys) :
    Calls Tryz.prog 145 #[.pointer (some ⟨g, 0, none⟩)] w (NextNo w) := by
  have HA := AccNew.made w
  have HW := (Below.refl w.heap.size w).alloc (Nat.le_refl _) (.cells #[.int .i64 0, .int .i64 0, .int .i64 0, .int .u64 0, .int .u64 0, .slice none 0 0] 58)
  have HC := Lib.hid (stepsNext_no (h.below HW))
  clear h
  go_enter Tryz.func145, Tryz.ntmps145
  go_wp2_with fail
  generalize w.alloc (.cells #[.int .i64 0, .int .i64 0, .int .i64 0, .int .u64 0, .int .u64 0, .slice none 0 0] 58) = W at HA HW HC ⊢
  refine HC.out.mono ?_
  rintro e w1 ⟨rfl, hb1⟩
  have HA1 := HA.later hb1
  obtain ⟨a0, a1, a2, a3, a4, a5, f0, f1, f2, f3, f4, f5, _⟩ := HA1
  go_wp2
  refine bodyPost_ret (v := .tuple #[.agg #[.int .i64 0, .int .i64 0, .int .i64 0, .int .u64 0, .int .u64 0, .slice none 0 0], .bool false]) (by simp [results, Tryz.results145, go_sem, a0, a1, a2, a3, a4, a5]) rfl ?_
  exact ⟨rfl, six_below (HW.trans (hb1.mono HW.size)) (Nat.le_refl _) _ _ _ _ _ _⟩

set_option maxRecDepth 100000 in
set_option maxHeartbeats 400000 in
theorem next_nil (w : World) : Calls Tryz.prog 145 #[.pointer none] w (NextNo w) := by
  go_enter Tryz.func145, Tryz.ntmps145
  go_wp2
  refine bodyPost_ret (v := .tuple #[.agg #[.int .i64 0, .int .i64 0, .int .i64 0, .int .u64 0, .int .u64 0, .slice none 0 0], .bool false]) (by simp [results, Tryz.results145, go_sem]) rfl ?_
  exact ⟨rfl, (Below.refl _ w).alloc (Nat.le_refl _) _⟩

/-- A machine's next access, its fields written out. -/
def NextAs (K P N : Int) (b : List Int) (w : World) (e : Ending) (w' : World) : Prop :=
  ∃ A l cp, e = .returned (.tuple #[.agg #[.int .i64 K, .int .i64 P, .int .i64 N, .int .u64 0, .int .u64 0, .slice A l cp], .bool true]) ∧ Owns w.heap.size w' (.slice A l cp) b ∧ Below w.heap.size w w'

theorem next_as {kd : Kd} {w : World} {base top g d r : Nat} {v : Value} {ys : List Int} (h : Cp w base top g kd d r v ys) (hr : 0 < r) {K P N : Int} {b : List Int} (hK : kd.kind = K) (hP : kd.place + d = P) (hN : ((Cy.nx r : Nat) : Int) = N) (hb : kd.bytes d (Cy.nx r) = b) :
    Calls Tryz.prog 145 #[.pointer (some ⟨g, 0, none⟩)] w (NextAs K P N b w) := by
  subst hK hP hN hb
  exact next_any h hr
end Go.Proofs.YtbfgbnalnjdheaaGreat
namespace Go.Proofs.YtbfgbnalnjdheaaGreat
open Go.RowKit

/-- The blocks that Take writes: the machine's own, and the one that holds what it read. -/
def Mine (g : Nat) (v : Value) (k : Nat) : Prop := k = g ∨ v.ownBlock = some k

/-- What was read lies where it lay, or in new memory. -/
def Lies (v v' : Value) (w : World) : Prop := ∀ k, v'.ownBlock = some k → v.ownBlock = some k ∨ w.heap.size ≤ k

/-- A call that kept bytes behind those that were read. -/
def Kept (g : Nat) (cv : Value) (d : Int) (nx th : Value) (top : Nat) (v : Value) (zs : List Int) (w : World) (e : Ending) (w' : World) : Prop :=
  ∃ v', e = .returned (.tuple #[]) ∧ w'.heap[g]? = some (.cells #[cv, .int .i64 d, nx, th, v'] 175 (0, 0)) ∧ Owns top w' v' zs ∧ Touch (Mine g v) w w' ∧ Lies v v' w

set_option maxRecDepth 100000 in
set_option maxHeartbeats 400000 in
theorem writingThen_any (V : Nat) (D : Bool) (A : Option Addr) (L cp : Nat) (w : World) :
    Calls Tryz.prog 124 #[.agg #[.int .u64 V, .bool D, .slice A L cp]] w (Made (.tuple #[]) w) := by
  go_enter Tryz.func124, Tryz.ntmps124
  go_wp2
  go_end0
  exact ⟨rfl, (Below.refl _ w).alloc (Nat.le_refl _) _⟩

theorem kept_end {w W w1 : World} {g top : Nat} {cv nx th v v' : Value} {d : Int} {zs : List Int} (HW : Below w.heap.size w W) (hgt : g < top) (happ : App top v zs W.drew v' w1)
    (hg1 : w1.heap[g]? = some (.cells #[cv, .int .i64 d, nx, th, v] 175 (0, 0))) : Kept g cv d nx th top v zs w (.returned (.tuple #[])) (w1.setCell ⟨g, 4, none⟩ v') := by
  refine ⟨v', rfl, ?_, happ.own.setCell (p := ⟨g, 4, none⟩) hgt _, ?_, ?_⟩
  · simp [World.setCell, Array.getElem?_modify, hg1]
  · have h1 : Touch (Mine g v) w W.drew := (Touch.of_below HW).drew
    have h2 : Touch (Mine g v) W.drew w1 := ⟨happ.grown.os, happ.grown.tape, happ.grown.output, happ.grown.size, fun k hk hn => happ.grown.block k hk fun e => hn (.inr e.symm)⟩
    exact (h1.trans h2).setCell (p := ⟨g, 4, none⟩) (.inl rfl) _
  · intro k hk
    rcases happ.lies with e | e <;> rw [e] at hk
    · exact .inl hk
    · injection hk with hk
      exact .inr (by rw [← hk]; exact HW.size)


/-- A machine took an answer with the bytes zs: it is one part further. -/
def TookIs (base top g : Nat) (kd : Kd) (d r : Nat) (v : Value) (ys zs : List Int) (w : World) (e : Ending) (w' : World) : Prop :=
  ∃ v', e = .returned (.tuple #[]) ∧ Cp w' base top g kd (d + Cy.nx r) (r - Cy.nx r) v' (ys ++ if kd.reads then zs else []) ∧ Touch (Mine g v) w w' ∧ Lies v v' w

set_option linter.unusedVariables false in
/-- The closure that takes an answer keeps its bytes, if the machine reads. -/
theorem then_any (kd : Kd) {w : World} {base top g n d : Nat} {cv nx th v : Value} {ys zs : List Int} (V : Nat) (D : Bool) (A : Option Addr) (L cp : Nat) (hgt : g < top) (ht : top ≤ w.heap.size)
    (hg : w.heap[g]? = some (.cells #[cv, .int .i64 d, nx, th, v] 175 (0, 0))) (ho : Owns top w v ys) (hb : Body w base top g n kd nx th) (hz : BytesAt w (.slice A L cp) zs) (hl : kd.reads = true → ys.length + zs.length ≤ 1073741824) :
    False ∨
    (kd.reads = false ∧ th = .func (.func 124) #[] #[] ∧ Calls Tryz.prog 124 #[.agg #[.int .u64 V, .bool D, .slice A L cp]] w (Kept g cv d nx th top v ys w)) := by
  have hw : Calls Tryz.prog 124 #[.agg #[.int .u64 V, .bool D, .slice A L cp]] w (Kept g cv d nx th top v ys w) := by
    refine (writingThen_any V D A L cp w).mono ?_
    rintro e w' ⟨rfl, hbl⟩
    exact ⟨v, rfl, (hbl.block g (Nat.lt_of_lt_of_le hgt ht)).trans hg, ho.below hbl, Touch.of_below hbl, fun k hk => .inl hk⟩
  cases kd with
  | wr at_ f =>
    obtain ⟨_, _, _, _, _, e2, _⟩ := hb
    exact .inr ⟨rfl, e2, hw⟩
  | ze at_ => exact False.elim hb
  | rd at_ => exact False.elim hb

set_option maxRecDepth 100000 in
set_option maxHeartbeats 1000000 in
theorem stepsTake_no {kd : Kd} {w : World} {base top g d : Nat} {v : Value} {ys : List Int} (h : Cp w base top g kd d 0 v ys) (V : Nat) (D : Bool) (A : Option Addr) (L cp : Nat) :
    Calls Tryz.prog 148 #[.pointer (some ⟨g, 0, none⟩), .agg #[.int .u64 V, .bool D, .slice A L cp]] w (Made (.tuple #[]) w) := by
  obtain ⟨cv, nx, th, h1, ⟨A1, cap, rfl, _, _, _⟩, _⟩ := h.head
  have hlt := h.lt
  have hc : w.cell? ⟨g, 0, none⟩ = some (.slice A1 0 cap) := by simp [World.cell?, h1, Cy.cks_zero]
  clear h h1
  go_enter Tryz.func148, Tryz.ntmps148
  go_wp2
  refine bodyPost_ret (results_none rfl _ _ _) rfl ?_
  exact ⟨rfl, (Below.refl _ w).alloc (Nat.le_refl _) _⟩
end Go.Proofs.YtbfgbnalnjdheaaGreat
namespace Go.Proofs.YtbfgbnalnjdheaaGreat
open Go.RowKit

theorem took_end {kd : Kd} {w W w1 : World} {base top g d r n2 pb po po' cap cap' : Nat} {nx th v v1 : Value} {ys zs zs' : List Int} (h : Cp w base top g kd d r v ys)
    (hbd : Body w base top g (d + r) kd nx th) (hcp : Parts (Fixed base top g) w (.slice (some ⟨pb, po, none⟩) (n2 + 1) cap) (((Cy.nx r : Nat) : Int) :: Cy.cks (r - Cy.nx r))) (hn2 : (Cy.cks (r - Cy.nx r)).length = n2)
    (hzs : ys ++ (if kd.reads then zs else []) = zs') (HW : Below w.heap.size w W) (HT1 : Touch (Mine g v) W w1) (HL1 : Lies v v1 W) (HO1 : Owns top w1 v1 zs')
    (HG1 : w1.heap[g]? = some (.cells #[.slice (some ⟨pb, po, none⟩) (n2 + 1) cap, .int .i64 d, nx, th, v1] 175 (0, 0))) (hpo : 0 < n2 → po' = po + 1) (hc1 : n2 ≤ cap') (hc2 : cap' ≤ cap) :
    TookIs base top g kd d r v ys zs w (.returned (.tuple #[])) ((w1.setCell ⟨g, 1, none⟩ (.int .i64 ((d : Int) + (Cy.nx r : Nat)))).setCell ⟨g, 0, none⟩ (.slice (some ⟨pb, po', none⟩) n2 cap')).drew := by
  have hnl := Cy.nx_le r
  have hne : ∀ k, k ≠ g → (((w1.setCell ⟨g, 1, none⟩ (.int .i64 ((d : Int) + (Cy.nx r : Nat)))).setCell ⟨g, 0, none⟩ (.slice (some ⟨pb, po', none⟩) n2 cap')).drew).heap[k]? = w1.heap[k]? := fun k hk =>
    (Below.heap_setCell _ _ _ _ hk).trans (Below.heap_setCell _ _ _ _ hk)
  have hs1 : W.heap.size ≤ w1.heap.size := HT1.size
  have hT : Touch (Mine g v) w w1 := (Touch.of_below HW).trans HT1
  have hfix : ∀ k, Fixed base top g k → w1.heap[k]? = w.heap[k]? := fun k hk => hT.block k (Nat.lt_of_lt_of_le hk.2.1 h.there) fun hm => by
    rcases hm with hm | hm
    · exact hk.2.2 hm
    · have := (h.own.ge hm).1
      have := hk.2.1
      omega
  have hsz : w.heap.size ≤ (((w1.setCell ⟨g, 1, none⟩ (.int .i64 ((d : Int) + (Cy.nx r : Nat)))).setCell ⟨g, 0, none⟩ (.slice (some ⟨pb, po', none⟩) n2 cap')).drew).heap.size := by
    have := hT.size
    simpa [World.setCell, World.drew] using this
  refine ⟨v1, rfl, ⟨h.above, h.under, Nat.le_trans h.there hsz, by have := h.few; omega, h.near, ⟨.slice (some ⟨pb, po', none⟩) n2 cap', nx, th, ?_, ?_, fun _ => ?_⟩, ?_⟩, ?_, ?_⟩
  · have e : (((d + Cy.nx r : Nat) : Nat) : Int) = (d : Int) + (Cy.nx r : Nat) := by omega
    rw [e]
    simp [World.setCell, World.drew, Array.getElem?_modify, HG1]
  · obtain ⟨A, cp, hv, hcl, hcm, hp⟩ := hcp
    injection hv with e1 e2 e3
    refine ⟨some ⟨pb, po', none⟩, cap', by rw [hn2], by rw [hn2]; exact hc1, by omega, fun hpos => ?_⟩
    obtain ⟨b, off, eA, hK, hlt, hc⟩ := hp (by simp)
    rw [← e1] at eA
    injection eA with eA
    injection eA with e5 e6
    subst e5 e6
    refine ⟨pb, po', rfl, hK, by omega, fun i hi => ?_⟩
    have hcell := hc (i + 1) (by simpa using hi)
    rw [List.getD_cons_succ] at hcell
    have ho : po' + i = po + (i + 1) := by have := hpo (by omega); omega
    rw [ho, ← hcell]
    exact World.cell?_of_block (w := w) (a := ⟨pb, po + (i + 1), none⟩) ((hne pb hK.2.2).trans (hfix pb hK))
  · have e : d + Cy.nx r + (r - Cy.nx r) = d + r := by omega
    rw [e]
    exact hbd.keep hsz fun k hk => (hne k hk.2.2).trans (hfix k hk)
  · rw [hzs]
    exact HO1.of_block fun k hk => hne k (by have := (HO1.ge hk).1; have := h.under; omega)
  · exact ((hT.setCell (p := ⟨g, 1, none⟩) (.inl rfl) _).setCell (p := ⟨g, 0, none⟩) (.inl rfl) _).drew
  · intro k hk
    rcases HL1 k hk with e | e
    · exact .inl e
    · exact .inr (Nat.le_trans HW.size e)


set_option maxRecDepth 100000 in
set_option maxHeartbeats 1000000 in
theorem stepsTake_wr {kd : Kd} {w : World} {base top g d r : Nat} {v : Value} {ys : List Int} (h : Cp w base top g kd d r v ys) (hr : 0 < r) (V : Nat) (D : Bool) (A : Option Addr) (L cp : Nat) (zs zs' : List Int) {cv nx : Value}
    (hg : w.heap[g]? = some (.cells #[cv, .int .i64 d, nx, .func (.func 124) #[] #[], v] 175 (0, 0))) (hcp : Parts (Fixed base top g) w cv (Cy.cks r)) (hbd : Body w base top g (d + r) kd nx (.func (.func 124) #[] #[]))
    (hcall : ∀ W : World, Below w.heap.size w W → Calls Tryz.prog 124 #[.agg #[.int .u64 V, .bool D, .slice A L cp]] W (Kept g cv d nx (.func (.func 124) #[] #[]) top v zs' W)) (hzs : ys ++ (if kd.reads then zs else []) = zs') :
    Calls Tryz.prog 148 #[.pointer (some ⟨g, 0, none⟩), .agg #[.int .u64 V, .bool D, .slice A L cp]] w (TookIs base top g kd d r v ys zs w) := by
  have hlt := h.lt
  have hnp := Cy.nx_pos hr
  have hnl := Cy.nx_le r
  have hfew := h.few
  have hnear := Lib.hid h.near
  have hbase := h.above
  have hub := h.there
  have hug := h.under
  have hown := Lib.hid (fun k hk => h.own.ge (k := k) hk)
  have HW := (Below.refl w.heap.size w).alloc (Nat.le_refl _) (.cells #[.int .u64 V, .bool D, .slice A L cp] 50)
  have HX := Go.Deep.blk_alloc_new w (.cells #[.int .u64 V, .bool D, .slice A L cp] 50)
  rw [Cy.cks_step hr] at hcp
  have HCP := Lib.hid hcp
  obtain ⟨A0, cap, hcv, hcl, hcm, hp⟩ := hcp
  subst hcv
  obtain ⟨pb, po, rfl, hpf, hpl, hpc⟩ := hp (by simp)
  have hp0 := hpc 0 (by simp)
  have hm2 : cap ≤ 9223372036854775807 := by unfold maxLen at hcm; omega
  simp only [List.getD_cons_zero, Nat.add_zero, List.length_cons] at hp0 hcl hg hcall HCP
  have HPC := Lib.hid hpc
  have HLQ : Hid (∃ L2, (Cy.cks (r - Cy.nx r)).length = L2) := ⟨_, rfl⟩
  obtain ⟨n2, hn2⟩ := HLQ.out
  rw [hn2] at hcl hg hcall HCP
  have HN2 := Lib.hid hn2
  clear HLQ hn2 hpc hp
  have hpos2 : (0 : Int) < (n2 : Int) + 1 := by omega
  have hne0 : ¬ ((n2 : Int) + 1 = 0) := by omega
  have hbdH := Lib.hid hbd
  have hgH := Lib.hid hg
  have hcw : w.cell? ⟨g, 0, none⟩ = some (.slice (some ⟨pb, po, none⟩) (n2 + 1) cap) := by simp [World.cell?, hg]
  have hcalls := Lib.hid hcall
  have hhz := Lib.hid hzs
  have HC0 := Lib.hid h
  clear h hg hcall hbd hzs
  go_enter Tryz.func148, Tryz.ntmps148
  go_wp2_with fail
  clear hcw
  generalize hxq : w.heap.size = x
  rw [hxq] at HX HW hub hlt hpl hown
  have HXQ := Lib.hid hxq
  generalize w.alloc (.cells #[.int .u64 V, .bool D, .slice A L cp] 50) = W at HW HX ⊢
  clear hxq
  have hgW := (HW.block g hlt).trans hgH.out
  have hc3 : W.cell? ⟨g, 3, none⟩ = some (.func (.func 124) #[] #[]) := by simp [World.cell?, hgW]
  have hx0 : W.cell? ⟨x, 0, none⟩ = some (.int .u64 V) := by simp [World.cell?, HX]
  have hx1 : W.cell? ⟨x, 1, none⟩ = some (.bool D) := by simp [World.cell?, HX]
  have hx2 : W.cell? ⟨x, 2, none⟩ = some (.slice A L cp) := by simp [World.cell?, HX]
  have HGW := Lib.hid hgW
  have HHX := Lib.hid HX
  clear hgW HX
  go_region_held3 (fun w' => w'.cell? ⟨g, 3, none⟩ = some (.func (.func 124) #[] #[]) ∧ w'.cell? ⟨x, 0, none⟩ = some (.int .u64 V) ∧ w'.cell? ⟨x, 1, none⟩ = some (.bool D) ∧ w'.cell? ⟨x, 2, none⟩ = some (.slice A L cp)) (go_keep)
    (first | (go_at_call 124; refine (hcalls.out _ (HXQ.out ▸ HW.drew)).mono ?_; rintro e w1 ⟨v1, rfl, hg1, ho1, ht1, hl1⟩; have hxg := (ht1.block x (Array.getElem?_eq_some_iff.1 HHX.out).1 (fun hm => by rcases hm with hm | hm; omega; have := hown.out x hm; omega)).trans HHX.out; have hk3 : w1.cell? ⟨g, 3, none⟩ = some (.func (.func 124) #[] #[]) := (by simp [World.cell?, hg1]); have hy0 : w1.cell? ⟨x, 0, none⟩ = some (.int .u64 V) := (by simp [World.cell?, hxg]); have hy1 : w1.cell? ⟨x, 1, none⟩ = some (.bool D) := (by simp [World.cell?, hxg]); have hy2 : w1.cell? ⟨x, 2, none⟩ = some (.slice A L cp) := (by simp [World.cell?, hxg]); have HG1 := Lib.hid hg1; have HO1 := Lib.hid ho1; have HT1 := Lib.hid ht1; have HL1 := Lib.hid hl1; clear hg1 ho1 ht1 hl1 hxg))
  have hh0 : w1.cell? ⟨g, 0, none⟩ = some (.slice (some ⟨pb, po, none⟩) (n2 + 1) cap) := by simp [World.cell?, HG1.out]
  have hh1 : w1.cell? ⟨g, 1, none⟩ = some (.int .i64 d) := by simp [World.cell?, HG1.out]
  have hf0 : w1.frozen? ⟨g, 0, none⟩ = false := by simp [World.frozen?, HG1.out]
  have hf1 : w1.frozen? ⟨g, 1, none⟩ = false := by simp [World.frozen?, HG1.out]
  have hpb1 := ((HT1.out.block pb (Nat.lt_of_lt_of_le hpl (HXQ.out ▸ HW.size)) (fun hm => by rcases hm with hm | hm; exact hpf.2.2 hm; have := hown.out pb hm; have := hpf.2.1; omega)).trans (HW.block pb hpl))
  have hp1 : w1.cell? ⟨pb, po, none⟩ = some (.int .i64 (Cy.nx r : Nat)) := (World.cell?_of_block (w := w) (a := ⟨pb, po, none⟩) hpb1).trans hp0
  have hpg : pb ≠ g := hpf.2.2
  have hpos3 : 0 < n2 + 1 := by omega
  clear hpb1 hc3 hx0 hx1 hx2 hy0 hy1 hy2 hk3
  go_wp2_with fail
  go_region
  have hsl1 : (1 : Int) ≤ (n2 : Int) + 1 := by omega
  have hsl2 : (n2 : Int) + 1 ≤ cap := by omega
  by_cases hc1 : cap = 1
  · subst hc1
    have hn20 : n2 = 0 := by omega
    subst hn20
    go_wp2
    go_end0
    exact took_end (po' := po) (cap' := 0) HC0.out hbdH.out HCP.out HN2.out hhz.out (HXQ.out ▸ HW.drew) HT1.out HL1.out HO1.out HG1.out (fun h => absurd h (Nat.lt_irrefl 0)) (Nat.le_refl _) (by omega)
  · go_wp2
    go_end0
    exact took_end (po' := po + 1) (cap' := cap - 1) HC0.out hbdH.out HCP.out HN2.out hhz.out (HXQ.out ▸ HW.drew) HT1.out HL1.out HO1.out HG1.out (fun _ => rfl) (by omega) (by omega)


theorem TookIs.from_ {kd : Kd} {w W w' : World} {base top g d r : Nat} {v : Value} {ys zs : List Int} {e : Ending} (HW : Below w.heap.size w W) (h : TookIs base top g kd d r v ys zs W e w') : TookIs base top g kd d r v ys zs w e w' := by
  obtain ⟨v', he, hc, ht, hl⟩ := h
  refine ⟨v', he, hc, (Touch.of_below HW).trans ht, fun k hk => ?_⟩
  rcases hl k hk with e | e
  · exact .inl e
  · exact .inr (Nat.le_trans HW.size e)

theorem stepsTake_any {kd : Kd} {w : World} {base top g d r : Nat} {v : Value} {ys zs : List Int} (h : Cp w base top g kd d r v ys) (hr : 0 < r) (V : Nat) (D : Bool) (A : Option Addr) (L cp : Nat) (hz : BytesAt w (.slice A L cp) zs) (hl : kd.reads = true → ys.length + zs.length ≤ 1073741824) :
    Calls Tryz.prog 148 #[.pointer (some ⟨g, 0, none⟩), .agg #[.int .u64 V, .bool D, .slice A L cp]] w (TookIs base top g kd d r v ys zs w) := by
  obtain ⟨cv, nx, th, hg, hcp, hbd⟩ := h.head
  have hb := hbd (by omega)
  have hthen := fun (W : World) (HW : Below w.heap.size w W) => then_any kd (n := d + r) (cv := cv) (d := d) (nx := nx) (th := th) V D A L cp h.under (Nat.le_trans h.there HW.size) ((HW.block g h.lt).trans hg) (h.own.below HW) (hb.keep HW.size fun k hk => HW.block k (Nat.lt_of_lt_of_le hk.2.1 h.there)) (hz.below HW) hl
  rcases hthen w (Below.refl _ _) with hf | ⟨hk, hth, _⟩
  · exact hf.elim
  · subst hth
    refine stepsTake_wr h hr V D A L cp zs ys hg hcp hb (fun W HW => ?_) (by rw [hk]; simp)
    rcases hthen W HW with hf | ⟨_, _, hc⟩
    · exact hf.elim
    · exact hc

set_option maxRecDepth 100000 in
set_option maxHeartbeats 1000000 in
theorem take_gen {kd : Kd} {w : World} {base top g d r : Nat} {v : Value} {ys zs : List Int} (h : Cp w base top g kd d r v ys) (hr : 0 < r) (V : Nat) (D : Bool) (A : Option Addr) (L cp : Nat) (hz : BytesAt w (.slice A L cp) zs) (hl : kd.reads = true → ys.length + zs.length ≤ 1073741824) :
    Calls Tryz.prog 146 #[.pointer (some ⟨g, 0, none⟩), .agg #[.int .u64 V, .bool D, .slice A L cp]] w (TookIs base top g kd d r v ys zs w) := by
  have hlt := h.lt
  have hub := h.there
  have hug := h.under
  have hown := Lib.hid (fun k hk => h.own.ge (k := k) hk)
  have HW := (Below.refl w.heap.size w).alloc (Nat.le_refl _) (.cells #[.int .u64 V, .bool D, .slice A L cp] 50)
  have HX := Go.Deep.blk_alloc_new w (.cells #[.int .u64 V, .bool D, .slice A L cp] 50)
  have HC := Lib.hid (stepsTake_any (h.below (HW.drew)) hr V D A L cp (hz.below HW.drew) hl)
  clear h hz
  go_enter Tryz.func146, Tryz.ntmps146
  go_wp2_with fail
  generalize w.alloc (.cells #[.int .u64 V, .bool D, .slice A L cp] 50) = W at HW HX HC ⊢
  have hx0 : W.cell? ⟨w.heap.size, 0, none⟩ = some (.int .u64 V) := by simp [World.cell?, HX]
  have hx1 : W.cell? ⟨w.heap.size, 1, none⟩ = some (.bool D) := by simp [World.cell?, HX]
  have hx2 : W.cell? ⟨w.heap.size, 2, none⟩ = some (.slice A L cp) := by simp [World.cell?, HX]
  have HHX := Lib.hid HX
  clear HX
  go_region_held3 (fun w' => w'.cell? ⟨w.heap.size, 0, none⟩ = some (.int .u64 V) ∧ w'.cell? ⟨w.heap.size, 1, none⟩ = some (.bool D) ∧ w'.cell? ⟨w.heap.size, 2, none⟩ = some (.slice A L cp)) (go_keep)
    (first | (go_at_call 148; refine HC.out.mono ?_; rintro e w1 ⟨v1, rfl, hc1, ht1, hl1⟩; have hxg := (ht1.block w.heap.size (Array.getElem?_eq_some_iff.1 HHX.out).1 (fun hm => by rcases hm with hm | hm; omega; have := hown.out _ hm; omega)).trans HHX.out; have hy0 : w1.cell? ⟨w.heap.size, 0, none⟩ = some (.int .u64 V) := (by simp [World.cell?, hxg]); have hy1 : w1.cell? ⟨w.heap.size, 1, none⟩ = some (.bool D) := (by simp [World.cell?, hxg]); have hy2 : w1.cell? ⟨w.heap.size, 2, none⟩ = some (.slice A L cp) := (by simp [World.cell?, hxg]); have HH1 := Lib.hid (show TookIs base top g kd d r v ys zs W.drew (.returned (.tuple #[])) w1 from ⟨v1, rfl, hc1, ht1, hl1⟩); clear hc1 ht1 hl1 hxg))
  go_wp2
  go_end0
  exact HH1.out.from_ HW.drew

theorem take_any {kd : Kd} {w : World} {base top g d r : Nat} {v : Value} {ys zs : List Int} (h : Cp w base top g kd d r v ys) (hr : 0 < r) (V : Nat) (D : Bool) (A : Option Addr) (L cp : Nat) (hz : BytesAt w (.slice A L cp) zs) (hl : ys.length + zs.length ≤ 1073741824) :
    Calls Tryz.prog 146 #[.pointer (some ⟨g, 0, none⟩), .agg #[.int .u64 V, .bool D, .slice A L cp]] w (TookIs base top g kd d r v ys zs w) := take_gen h hr V D A L cp hz fun _ => hl

set_option maxRecDepth 100000 in
set_option maxHeartbeats 1000000 in
theorem take_no {kd : Kd} {w : World} {base top g d : Nat} {v : Value} {ys : List Int} (h : Cp w base top g kd d 0 v ys) (V : Nat) (D : Bool) (A : Option Addr) (L cp : Nat) :
    Calls Tryz.prog 146 #[.pointer (some ⟨g, 0, none⟩), .agg #[.int .u64 V, .bool D, .slice A L cp]] w (Made (.tuple #[]) w) := by
  have HW := (Below.refl w.heap.size w).alloc (Nat.le_refl _) (.cells #[.int .u64 V, .bool D, .slice A L cp] 50)
  have HX := Go.Deep.blk_alloc_new w (.cells #[.int .u64 V, .bool D, .slice A L cp] 50)
  have HC := Lib.hid (stepsTake_no (h.below (HW.drew)) V D A L cp)
  clear h
  go_enter Tryz.func146, Tryz.ntmps146
  go_wp2_with fail
  generalize w.alloc (.cells #[.int .u64 V, .bool D, .slice A L cp] 50) = W at HW HX HC ⊢
  have hx0 : W.cell? ⟨w.heap.size, 0, none⟩ = some (.int .u64 V) := by simp [World.cell?, HX]
  have hx1 : W.cell? ⟨w.heap.size, 1, none⟩ = some (.bool D) := by simp [World.cell?, HX]
  have hx2 : W.cell? ⟨w.heap.size, 2, none⟩ = some (.slice A L cp) := by simp [World.cell?, HX]
  have HHX := Lib.hid HX
  clear HX
  go_region_held3 (fun w' => w'.cell? ⟨w.heap.size, 0, none⟩ = some (.int .u64 V) ∧ w'.cell? ⟨w.heap.size, 1, none⟩ = some (.bool D) ∧ w'.cell? ⟨w.heap.size, 2, none⟩ = some (.slice A L cp)) (go_keep)
    (first | (go_at_call 148; refine HC.out.mono ?_; rintro e w1 ⟨rfl, hb1⟩; have hxg := (hb1.block w.heap.size (Array.getElem?_eq_some_iff.1 HHX.out).1).trans HHX.out; have hy0 : w1.cell? ⟨w.heap.size, 0, none⟩ = some (.int .u64 V) := (by simp [World.cell?, hxg]); have hy1 : w1.cell? ⟨w.heap.size, 1, none⟩ = some (.bool D) := (by simp [World.cell?, hxg]); have hy2 : w1.cell? ⟨w.heap.size, 2, none⟩ = some (.slice A L cp) := (by simp [World.cell?, hxg]); clear hxg))
  go_wp2
  go_end0
  exact ⟨rfl, HW.drew.trans (hb1.mono HW.size)⟩

set_option maxRecDepth 100000 in
set_option maxHeartbeats 400000 in
theorem take_nil (V : Nat) (D : Bool) (A : Option Addr) (L cp : Nat) (w : World) :
    Calls Tryz.prog 146 #[.pointer none, .agg #[.int .u64 V, .bool D, .slice A L cp]] w (Made (.tuple #[]) w) := by
  go_enter Tryz.func146, Tryz.ntmps146
  go_wp2
  go_end0
  exact ⟨rfl, (Below.refl _ w).alloc (Nat.le_refl _) _⟩
end Go.Proofs.YtbfgbnalnjdheaaGreat
