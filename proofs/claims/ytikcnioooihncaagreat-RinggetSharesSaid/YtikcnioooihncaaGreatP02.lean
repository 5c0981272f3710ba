/-
  Layer 2's Do: an access that may be, walked whole.
  Bytes laid over bytes, and copied into a row, in memory (parted from layer 5's texts).
  The parts of a copy: layer 1's Chunks and its plain answer, walked; a slice that reads as a list of ints.
  Layer 5's plain facts: a copy's parts, one behind the other.
  Bytes appended to a row of the call's own, whatever they are (none, too), and where the row lies; a slice of bytes cloned.
  Layer 5's closures that tell the next access, walked.
  Layer 5's machine in memory: where its parts, its place, its closures and what it read stand; Next, walked.
  Layer 5's In, Zero, Out and Bytes, walked.
  The plain answer to layer 1's Bytes, walked.
  The plain answer to layer 1's Number, walked over any slice that reads as bytes.
  Layer 2's plain Check, for accesses that read or write some bytes (what copies ask for), walked.
  Layer 6's guard: a call whose panic would be caught; what is called returns.
-/
import Derived.Test.YtikcnioooihncaaGreatP01
import Derived.Laws.CopyOwn
import Derived.Deep.QuietTactic
import Derived.BigQuiet
import Derived.RegionTactic
import Derived.Lib.SliceRun
import Derived.OwnWalk
import Derived.Deep.RegionHeld3
import Derived.Laws.EntriesVeiled
import Derived.Tactics2
import Derived.Defers
import Derived.Recover
namespace Go.Proofs.YtikcnioooihncaaGreat
open Go.RowKit

namespace Mb
/-- What was there, where an access tells it. -/
def ansV (m : Nat → Nat) (K : Int) (a k : Nat) : Nat := if K = 1 ∨ K = 3 ∨ K = 4 then nm m a k else 0
/-- Did it store what it compared for? -/
def ansD (m : Nat → Nat) (K : Int) (a k v : Nat) : Bool := decide (K = 4) && decide (nm m a k = v % 2 ^ (8 * k))
/-- What was read. -/
def ansB (m : Nat → Nat) (K : Int) (a k : Nat) : List Int := if K = 5 then bl m a k else []
/-- The bytes behind it. -/
def aft (m : Nat → Nat) (K : Int) (a k v u : Nat) (f : Nat → Nat) : Nat → Nat :=
  if K = 2 then put m a k v
  else if K = 3 then put m a k (nm m a k + v)
  else if K = 4 then (if nm m a k = v % 2 ^ (8 * k) then put m a k u else m)
  else if K = 6 then put m a k (nm f 0 k)
  else m
end Mb

set_option maxHeartbeats 1000000 in
theorem access_cas {w : World} {g h n : Nat} {m : Nat → Nat} {c : Int} (B : Buf w g h m n c) (a k v u : Nat) (hk : a % 8 + k ≤ 8) (ha : a / 8 < n) (hv : v < 18446744073709551616) (s : Value) :
    Calls Tryz.prog 38 #[.pointer (some ⟨g, 0, none⟩), .agg #[.int .i64 4, .int .i64 a, .int .i64 k, .int .u64 v, .int .u64 u, s]] w
      (Answered (Mb.nm m a k) (decide (Mb.nm m a k = v % 2 ^ (8 * k))) [] g h (if Mb.nm m a k = v % 2 ^ (8 * k) then Mb.put m a k u else m) n c w) := by
  have hg := B.g_lt
  have hh := B.h_lt
  have HB := Lib.hid B
  clear B
  by_cases hit : Mb.nm m a k = v % 2 ^ (8 * k)
  · rw [if_pos hit, decide_eq_true hit]
    have HH := Lib.hid hit
    clear hit
    go_enter Tryz.func38, Tryz.ntmps38
    go_wp2_with (go_at_call 72; refine (cas_hit ((HB.out.alloc _).alloc _) a k v u hk ha hv HH.out 4 s).mono ?_; rintro e w1 ⟨rfl, hst⟩; obtain ⟨a0, a1, a2, f0, f1, f2, _⟩ := ans_touch hst.2 hg hh; have HST0 := Lib.hid hst; clear hst)
    refine bodyPost_ret (v := .agg #[.int .u64 (Mb.nm m a k : Nat), .bool true, .slice none 0 0]) ?_ rfl ?_
    · simp [results, Tryz.results38, go_sem, a0, a1, a2]
    · refine ⟨_, rfl, BytesAt.nil _, ?_⟩
      have HST := HST0.out.from_ (boxes_touch (Two g h) w _ _)
      exact ((HST.setNew hg hh (Nat.le_succ _) _).setNew hg hh (Nat.le_succ _) _).setNew hg hh (Nat.le_succ _) _
  · rw [if_neg hit, decide_eq_false hit]
    have HH := Lib.hid hit
    clear hit
    go_enter Tryz.func38, Tryz.ntmps38
    go_wp2_with (go_at_call 72; refine (cas_miss ((HB.out.alloc _).alloc _) a k v u hk ha hv HH.out 4 s).mono ?_; rintro e w1 ⟨rfl, hst⟩; obtain ⟨a0, a1, a2, f0, f1, f2, _⟩ := ans_touch hst.2 hg hh; have HST0 := Lib.hid hst; clear hst)
    refine bodyPost_ret (v := .agg #[.int .u64 (Mb.nm m a k : Nat), .bool false, .slice none 0 0]) ?_ rfl ?_
    · simp [results, Tryz.results38, go_sem, a0, a1, a2]
    · refine ⟨_, rfl, BytesAt.nil _, ?_⟩
      have HST := HST0.out.from_ (boxes_touch (Two g h) w _ _)
      exact ((HST.setNew hg hh (Nat.le_succ _) _).setNew hg hh (Nat.le_succ _) _).setNew hg hh (Nat.le_succ _) _

/-- Which kinds there are, of those that may be. -/
theorem kinds {S K P N : Int} {L : Nat} (h : chk S K P N L = 0) :
    ((K = 1 ∨ K = 2 ∨ K = 4) ∧ (N = 4 ∨ N = 8) ∧ P % N = 0) ∨ (K = 3 ∧ N = 8 ∧ P % 8 = 0) ∨ (K = 5 ∧ 0 ≤ N ∧ N ≤ 8) ∨ (K = 6 ∧ N = L ∧ N ≤ 8) := by
  obtain ⟨hf, h0, h1, h2, h3⟩ := chk_ok h
  have hf0 := hf
  unfold formed at hf
  by_cases c1 : K = 1 ∨ K = 2 ∨ K = 4
  · have hk : numB K = true := by rcases c1 with rfl | rfl | rfl <;> rfl
    exact .inl ⟨c1, formed_num hf0 hk, h3 hk⟩
  · rw [if_neg c1] at hf
    by_cases c3 : K = 3
    · rw [if_pos c3] at hf
      have hk : numB K = true := by subst c3; rfl
      have hN : N = 8 := by simpa using hf
      have hm := h3 hk
      rw [hN] at hm
      exact .inr (.inl ⟨c3, hN, hm⟩)
    · rw [if_neg c3] at hf
      by_cases c5 : K = 5
      · rw [if_pos c5] at hf
        have := formed_len hf0
        exact .inr (.inr (.inl ⟨c5, this.1, this.2⟩))
      · rw [if_neg c5] at hf
        by_cases c6 : K = 6
        · rw [if_pos c6] at hf
          simp at hf
          exact .inr (.inr (.inr ⟨c6, hf.1, hf.2⟩))
        · rw [if_neg c6] at hf
          cases hf

theorem access_any {w : World} {g h n : Nat} {m : Nat → Nat} {c : Int} (B : Buf w g h m n c) (K : Int) (a k v u : Nat) {f : Nat → Nat} (hf : Mb.IsB f) (A : Option Addr) (L cap : Nat) (hcap : L ≤ cap) (hcap2 : cap ≤ 9223372036854775807)
    (hb : BytesAt w (.slice A L cap) (Mb.bl f 0 L)) (hv : v < 18446744073709551616) (ok : chk (8 * (n : Int)) K a k L = 0) :
    Calls Tryz.prog 38 #[.pointer (some ⟨g, 0, none⟩), .agg #[.int .i64 K, .int .i64 a, .int .i64 k, .int .u64 v, .int .u64 u, .slice A L cap]] w
      (Answered (Mb.ansV m K a k) (Mb.ansD m K a k v) (Mb.ansB m K a k) g h (Mb.aft m K a k v u f) n c w) := by
  obtain ⟨_, _, h1, h2, _⟩ := chk_ok ok
  have hkn := kinds ok
  rcases hkn with ⟨hk, hN, hm⟩ | ⟨rfl, hN, hm⟩ | ⟨rfl, hN0, hN⟩ | ⟨rfl, hN, hN8⟩
  · have ha : a % 8 + k ≤ 8 ∧ a / 8 < n := by
      rcases hN with hN | hN
      · have : k = 4 := by omega
        subst this
        omega
      · have : k = 8 := by omega
        subst this
        omega
    rcases hk with rfl | rfl | rfl
    · exact access_load B a k ha.1 ha.2 v u _
    · exact access_store B a k v ha.1 ha.2 hv u _
    · exact access_cas B a k v u ha.1 ha.2 hv _
  · have : k = 8 := by omega
    subst this
    exact access_add B a v (by omega) (by omega) u _
  · exact access_read B a k (by omega) v u _
  · have : L = k := by omega
    subst this
    exact access_write B a L (by omega) (by omega) v u hf A cap hcap hcap2 hb _

/-- Six cells of an access, in block b. -/
structure AccAt (b : Nat) (W : World) (K P N V U : Int) (s : Value) : Prop where
  c0 : W.cell? ⟨b, 0, none⟩ = some (.int .i64 K)
  c1 : W.cell? ⟨b, 1, none⟩ = some (.int .i64 P)
  c2 : W.cell? ⟨b, 2, none⟩ = some (.int .i64 N)
  c3 : W.cell? ⟨b, 3, none⟩ = some (.int .u64 V)
  c4 : W.cell? ⟨b, 4, none⟩ = some (.int .u64 U)
  c5 : W.cell? ⟨b, 5, none⟩ = some s
theorem AccAt.below {b : Nat} {W W' : World} {K P N V U : Int} {s : Value} (h : AccAt b W K P N V U s) (hb : Below W.heap.size W W') : AccAt b W' K P N V U s := by
  have hlt : b < W.heap.size := by
    rcases Nat.lt_or_ge b W.heap.size with hlt | hge
    · exact hlt
    · have := h.c0
      simp [World.cell?, Array.getElem?_eq_none hge] at this
  have hc := fun i => hb.cell (p := ⟨b, i, none⟩) hlt
  exact ⟨(hc 0).trans h.c0, (hc 1).trans h.c1, (hc 2).trans h.c2, (hc 3).trans h.c3, (hc 4).trans h.c4, (hc 5).trans h.c5⟩

/-- The place for an answer, whose cells stand in W, in a world behind a call. -/
theorem AnsAt.later {b : Nat} {W W' : World} (h : AnsAt b W) (hb : Below W.heap.size W W') : AnsAt b W' := by
  have hlt : b < W.heap.size := (Array.getElem?_eq_some_iff.1 h.blk).1
  exact .of_blk ((hb.block b hlt).trans h.blk)
theorem ans_made (w : World) (o : Obj) : AnsAt (w.heap.size + 1) ((w.alloc o).alloc (.cells #[.int .u64 0, .bool false, .slice none 0 0] 25)) := by
  have e : (w.alloc o).heap.size = w.heap.size + 1 := by simp
  refine .of_blk ?_
  rw [← e]
  exact Go.Deep.blk_alloc_new _ _
theorem acc_made (w : World) (K P N V U : Int) (s : Value) (p : Obj) : AccAt w.heap.size ((w.alloc (.cells #[.int .i64 K, .int .i64 P, .int .i64 N, .int .u64 V, .int .u64 U, s] 30)).alloc p) K P N V U s := by
  refine ⟨?_, ?_, ?_, ?_, ?_, ?_⟩
  all_goals go_simp
theorem AccAt.lt {b : Nat} {W : World} {K P N V U : Int} {s : Value} (h : AccAt b W K P N V U s) : b < W.heap.size := by
  rcases Nat.lt_or_ge b W.heap.size with hlt | hge
  · exact hlt
  · have := h.c0
    simp [World.cell?, Array.getElem?_eq_none hge] at this

set_option maxHeartbeats 1000000 in
theorem do_no {w : World} {g h n : Nat} {m : Nat → Nat} {c : Int} (B : Buf w g h m n c) (K P N V U : Int) (A : Option Addr) (L cap : Nat) (no : chk (8 * (n : Int)) K P N L ≠ 0) :
    Calls Tryz.prog 15 #[.pointer (some ⟨g, 0, none⟩), .agg #[.int .i64 K, .int .i64 P, .int .i64 N, .int .u64 V, .int .u64 U, .slice A L cap]] w
      (Made (.tuple #[.agg #[.int .u64 0, .bool false, .slice none 0 0], .int .i64 (chk (8 * (n : Int)) K P N L)]) w) := by
  have hf := B.few
  have HB0 := (B.alloc (.cells #[.int .i64 K, .int .i64 P, .int .i64 N, .int .u64 V, .int .u64 U, .slice A L cap] 30)).alloc (.cells #[.int .u64 0, .bool false, .slice none 0 0] 25)
  have HC := acc_made w K P N V U (.slice A L cap) (.cells #[.int .u64 0, .bool false, .slice none 0 0] 25)
  have HA := ans_made w (.cells #[.int .i64 K, .int .i64 P, .int .i64 N, .int .u64 V, .int .u64 U, .slice A L cap] 30)
  have HW := ((Below.refl w.heap.size w).alloc (Nat.le_refl _) (.cells #[.int .i64 K, .int .i64 P, .int .i64 N, .int .u64 V, .int .u64 U, .slice A L cap] 30)).alloc (by simp) (.cells #[.int .u64 0, .bool false, .slice none 0 0] 25)
  generalize hq : chk (8 * (n : Int)) K P N L = q at no ⊢
  have hno : (q != 0) = true := by simpa using no
  have HQ := Lib.hid hq
  clear B hq no
  go_enter Tryz.func15, Tryz.ntmps15
  go_wp2
  generalize (w.alloc (.cells #[.int .i64 K, .int .i64 P, .int .i64 N, .int .u64 V, .int .u64 U, .slice A L cap] 30)).alloc (.cells #[.int .u64 0, .bool false, .slice none 0 0] 25) = W at HC HA HB0 HW ⊢
  have HC2 := HC
  obtain ⟨c0, c1, c2, c3, c4, c5⟩ := HC2
  go_region_held3 (fun w' => w'.cell? ⟨w.heap.size, 0, none⟩ = some (.int .i64 K) ∧ w'.cell? ⟨w.heap.size, 1, none⟩ = some (.int .i64 P) ∧ w'.cell? ⟨w.heap.size, 2, none⟩ = some (.int .i64 N) ∧ w'.cell? ⟨w.heap.size, 3, none⟩ = some (.int .u64 V) ∧ w'.cell? ⟨w.heap.size, 4, none⟩ = some (.int .u64 U) ∧ w'.cell? ⟨w.heap.size, 5, none⟩ = some (.slice A L cap))
    (go_keep)
    (first
      | (go_at_call 36; refine (size_any HB0.drew).mono ?_; rintro e w' ⟨rfl, rfl⟩)
      | (go_at_call 35; refine (check_any _ K P N V U A L cap _ (by omega)).mono ?_; rintro e w1 ⟨rfl, hb1⟩; rw [HQ.out]; have hb2 := below_drew hb1; clear hb1; obtain ⟨k0, k1, k2, k3, k4, k5⟩ := HC.below hb2; have HA1 := HA.later hb2; obtain ⟨a0, a1, a2, f0, f1, f2, _⟩ := HA1))
  go_wp2
  refine bodyPost_ret (v := .tuple #[.agg #[.int .u64 0, .bool false, .slice none 0 0], .int .i64 q]) ?_ rfl ?_
  · simp [results, Tryz.results15, go_sem, a0, a1, a2]
  · refine ⟨rfl, ?_⟩
    exact (((HW.trans (hb2.mono HW.size)).setCell (Nat.le_succ _) _).setCell (Nat.le_succ _) _).setCell (Nat.le_succ _) _

theorem AccAt.touch {b g h : Nat} {W W' : World} {K P N V U : Int} {s : Value} (ha : AccAt b W K P N V U s) (ht : Touch (Two g h) W W') (hg : b ≠ g) (hh : b ≠ h) : AccAt b W' K P N V U s := by
  have hn : ¬ Two g h b := fun e => e.elim hg hh
  have hc := fun i => ht.cell (p := ⟨b, i, none⟩) ha.lt hn
  exact ⟨(hc 0).trans ha.c0, (hc 1).trans ha.c1, (hc 2).trans ha.c2, (hc 3).trans ha.c3, (hc 4).trans ha.c4, (hc 5).trans ha.c5⟩
theorem AnsAt.touch {b g h : Nat} {W W' : World} (ha : AnsAt b W) (ht : Touch (Two g h) W W') (hg : b ≠ g) (hh : b ≠ h) : AnsAt b W' :=
  .of_blk ((ht.block b (Array.getElem?_eq_some_iff.1 ha.blk).1 fun e => e.elim hg hh).trans ha.blk)

/-- A call that told an answer beside no error, and left the buffer with the bytes m, one access more counted. -/
def Did (V : Nat) (D : Bool) (xs : List Int) (g h : Nat) (m : Nat → Nat) (n : Nat) (c : Int) (w : World) (e : Ending) (w' : World) : Prop :=
  ∃ s, e = .returned (.tuple #[.agg #[.int .u64 V, .bool D, s], .int .i64 0]) ∧ BytesAt w' s xs ∧ Stored g h m n c w w'

set_option maxHeartbeats 1000000 in
theorem do_ok {w : World} {g h n : Nat} {m : Nat → Nat} {c : Int} (B : Buf w g h m n c) (K : Int) (a k v u : Nat) {f : Nat → Nat} (hf : Mb.IsB f) (A : Option Addr) (L cap : Nat) (hcap : L ≤ cap) (hcap2 : cap ≤ 9223372036854775807)
    (hb : BytesAt w (.slice A L cap) (Mb.bl f 0 L)) (hv : v < 18446744073709551616) (ok : chk (8 * (n : Int)) K a k L = 0) :
    Calls Tryz.prog 15 #[.pointer (some ⟨g, 0, none⟩), .agg #[.int .i64 K, .int .i64 a, .int .i64 k, .int .u64 v, .int .u64 u, .slice A L cap]] w
      (Did (Mb.ansV m K a k) (Mb.ansD m K a k v) (Mb.ansB m K a k) g h (Mb.aft m K a k v u f) n (nxt c) w) := by
  have hg := B.g_lt
  have hh := B.h_lt
  have hfw := B.few
  have HB0 := (B.alloc (.cells #[.int .i64 K, .int .i64 a, .int .i64 k, .int .u64 v, .int .u64 u, .slice A L cap] 30)).alloc (.cells #[.int .u64 0, .bool false, .slice none 0 0] 25)
  have HC := acc_made w K a k v u (.slice A L cap) (.cells #[.int .u64 0, .bool false, .slice none 0 0] 25)
  have HA := ans_made w (.cells #[.int .i64 K, .int .i64 a, .int .i64 k, .int .u64 v, .int .u64 u, .slice A L cap] 30)
  have HW := ((Below.refl w.heap.size w).alloc (Nat.le_refl _) (.cells #[.int .i64 K, .int .i64 a, .int .i64 k, .int .u64 v, .int .u64 u, .slice A L cap] 30)).alloc (by simp) (.cells #[.int .u64 0, .bool false, .slice none 0 0] 25)
  have HV := hb.below HW
  have HQ := Lib.hid ok
  have HF := Lib.hid hf
  clear B ok hb hf
  go_enter Tryz.func15, Tryz.ntmps15
  go_wp2
  generalize (w.alloc (.cells #[.int .i64 K, .int .i64 (a : Int), .int .i64 (k : Int), .int .u64 (v : Int), .int .u64 (u : Int), .slice A L cap] 30)).alloc (.cells #[.int .u64 0, .bool false, .slice none 0 0] 25) = W at HC HA HB0 HW HV ⊢
  have HC2 := HC
  obtain ⟨c0, c1, c2, c3, c4, c5⟩ := HC2
  go_region_held3 (fun w' => w'.cell? ⟨w.heap.size, 0, none⟩ = some (.int .i64 K) ∧ w'.cell? ⟨w.heap.size, 1, none⟩ = some (.int .i64 a) ∧ w'.cell? ⟨w.heap.size, 2, none⟩ = some (.int .i64 k) ∧ w'.cell? ⟨w.heap.size, 3, none⟩ = some (.int .u64 v) ∧ w'.cell? ⟨w.heap.size, 4, none⟩ = some (.int .u64 u) ∧ w'.cell? ⟨w.heap.size, 5, none⟩ = some (.slice A L cap))
    (go_keep)
    (first
      | (go_at_call 36; refine (size_any HB0.drew).mono ?_; rintro e w' ⟨rfl, rfl⟩)
      | (go_at_call 35; refine (check_any _ K a k v u A L cap _ (by omega)).mono ?_; rintro e w1 ⟨rfl, hb1⟩; rw [HQ.out]; have hb2 := below_drew hb1; clear hb1; obtain ⟨k0, k1, k2, k3, k4, k5⟩ := HC.below hb2))
  have HB1 := HB0.below hb2
  have hn0 := HB1.count
  have hn1 := HB1.count_free
  have HB2 := HB1.setCount (nxt c)
  have HT2 := (Touch.refl (Two g h) w1).setCell (p := ⟨g, 1, none⟩) (.inl rfl) (.int .i64 (nxt c))
  have HC2 := (HC.below hb2).touch HT2 (by omega) (by omega)
  have HA2 := (HA.later hb2).touch HT2 (by omega) (by omega)
  have HV2 := (HV.below hb2).touch HB1 HT2
  have HT1 := (Touch.of_below (S := Two g h) HW).trans ((Touch.of_below (S := Two g h) hb2).trans HT2)
  clear c0 c1 c2 c3 c4 c5 k0 k1 k2 k3 k4 k5 HB0 HC HA HV HW hb2 HB1
  go_wp2_with (first
    | (go_at_call 37; refine (addOne g 1 c _ hn0 hn1).mono ?_; rintro e w2 ⟨rfl, hw2⟩; rw [hw2] at HB2 HT2 HC2 HA2 HV2 HT1; clear hw2 hn0 hn1; obtain ⟨c0, c1, c2, c3, c4, c5⟩ := HC2)
    | (go_at_call 38; refine (access_any HB2 K a k v u HF.out A L cap hcap hcap2 HV2 hv HQ.out).mono ?_; rintro e w3 ⟨x, rfl, ⟨A3, cp3, rfl, hx⟩, hst⟩; have HX : Hid (BytesAt w3 (.slice A3 (Mb.ansB m K a k).length cp3) (Mb.ansB m K a k)) := Lib.hid ⟨A3, cp3, rfl, hx⟩; have HA3 := HA2.touch hst.2 (by omega) (by omega); have HA4 := HA3; obtain ⟨a0, a1, a2, f0, f1, f2, _⟩ := HA4; have HST := Lib.hid (hst.from_ HT1); clear hx hst))
  refine bodyPost_ret (v := .tuple #[.agg #[.int .u64 (Mb.ansV m K a k : Nat), .bool (Mb.ansD m K a k v), .slice A3 (Mb.ansB m K a k).length cp3], .int .i64 0]) ?_ rfl ?_
  · simp [results, Tryz.results15, go_sem, a0, a1, a2]
  · refine ⟨_, rfl, HX.out.answer HA3 _ _ _, ?_⟩
    exact ((HST.out.setNew hg hh (Nat.le_succ _) _).setNew hg hh (Nat.le_succ _) _).setNew hg hh (Nat.le_succ _) _

/-- The error of an access to no buffer. -/
def chkNil (K P N : Int) (L : Nat) : Int := if chk 0 K P N L = 0 then 2 else chk 0 K P N L

set_option maxHeartbeats 1000000 in
theorem do_nil (w : World) (K P N V U : Int) (A : Option Addr) (L cap : Nat) :
    Calls Tryz.prog 15 #[.pointer none, .agg #[.int .i64 K, .int .i64 P, .int .i64 N, .int .u64 V, .int .u64 U, .slice A L cap]] w
      (Made (.tuple #[.agg #[.int .u64 0, .bool false, .slice none 0 0], .int .i64 (chkNil K P N L)]) w) := by
  have HC := acc_made w K P N V U (.slice A L cap) (.cells #[.int .u64 0, .bool false, .slice none 0 0] 25)
  have HA := ans_made w (.cells #[.int .i64 K, .int .i64 P, .int .i64 N, .int .u64 V, .int .u64 U, .slice A L cap] 30)
  have HW := ((Below.refl w.heap.size w).alloc (Nat.le_refl _) (.cells #[.int .i64 K, .int .i64 P, .int .i64 N, .int .u64 V, .int .u64 U, .slice A L cap] 30)).alloc (by simp) (.cells #[.int .u64 0, .bool false, .slice none 0 0] 25)
  have HN := Lib.hid (show chkNil K P N L = if chk 0 K P N L = 0 then 2 else chk 0 K P N L by rfl)
  generalize chkNil K P N L = r at HN ⊢
  generalize hq : chk 0 K P N L = q at HN
  have HQ := Lib.hid hq
  clear hq
  by_cases h0 : q = 0
  · have hr : r = 2 := by rw [HN.out, if_pos h0]
    subst hr
    subst h0
    clear HN
    go_enter Tryz.func15, Tryz.ntmps15
    go_wp2
    generalize (w.alloc (.cells #[.int .i64 K, .int .i64 P, .int .i64 N, .int .u64 V, .int .u64 U, .slice A L cap] 30)).alloc (.cells #[.int .u64 0, .bool false, .slice none 0 0] 25) = W at HC HA HW ⊢
    have HC2 := HC
    obtain ⟨c0, c1, c2, c3, c4, c5⟩ := HC2
    go_region_held3 (fun w' => w'.cell? ⟨w.heap.size, 0, none⟩ = some (.int .i64 K) ∧ w'.cell? ⟨w.heap.size, 1, none⟩ = some (.int .i64 P) ∧ w'.cell? ⟨w.heap.size, 2, none⟩ = some (.int .i64 N) ∧ w'.cell? ⟨w.heap.size, 3, none⟩ = some (.int .u64 V) ∧ w'.cell? ⟨w.heap.size, 4, none⟩ = some (.int .u64 U) ∧ w'.cell? ⟨w.heap.size, 5, none⟩ = some (.slice A L cap))
      (go_keep)
      (first
        | (go_at_call 36; refine (size_nil _).mono ?_; rintro e w' ⟨rfl, rfl⟩)
        | (go_at_call 35; refine (check_any 0 K P N V U A L cap _ (by omega)).mono ?_; rintro e w1 ⟨rfl, hb1⟩; rw [HQ.out]; have hb2 := below_drew hb1; clear hb1; obtain ⟨k0, k1, k2, k3, k4, k5⟩ := HC.below hb2; have HA1 := HA.later hb2; obtain ⟨a0, a1, a2, f0, f1, f2, _⟩ := HA1))
    go_wp2
    refine bodyPost_ret (v := .tuple #[.agg #[.int .u64 0, .bool false, .slice none 0 0], .int .i64 2]) ?_ rfl ?_
    · simp [results, Tryz.results15, go_sem, a0, a1, a2]
    · refine ⟨rfl, ?_⟩
      exact (((HW.trans (hb2.mono HW.size)).setCell (Nat.le_succ _) _).setCell (Nat.le_succ _) _).setCell (Nat.le_succ _) _
  · have hr : r = q := by rw [HN.out, if_neg h0]
    subst hr
    have hno : (r != 0) = true := by simpa using h0
    clear HN h0
    go_enter Tryz.func15, Tryz.ntmps15
    go_wp2
    generalize (w.alloc (.cells #[.int .i64 K, .int .i64 P, .int .i64 N, .int .u64 V, .int .u64 U, .slice A L cap] 30)).alloc (.cells #[.int .u64 0, .bool false, .slice none 0 0] 25) = W at HC HA HW ⊢
    have HC2 := HC
    obtain ⟨c0, c1, c2, c3, c4, c5⟩ := HC2
    go_region_held3 (fun w' => w'.cell? ⟨w.heap.size, 0, none⟩ = some (.int .i64 K) ∧ w'.cell? ⟨w.heap.size, 1, none⟩ = some (.int .i64 P) ∧ w'.cell? ⟨w.heap.size, 2, none⟩ = some (.int .i64 N) ∧ w'.cell? ⟨w.heap.size, 3, none⟩ = some (.int .u64 V) ∧ w'.cell? ⟨w.heap.size, 4, none⟩ = some (.int .u64 U) ∧ w'.cell? ⟨w.heap.size, 5, none⟩ = some (.slice A L cap))
      (go_keep)
      (first
        | (go_at_call 36; refine (size_nil _).mono ?_; rintro e w' ⟨rfl, rfl⟩)
        | (go_at_call 35; refine (check_any 0 K P N V U A L cap _ (by omega)).mono ?_; rintro e w1 ⟨rfl, hb1⟩; rw [HQ.out]; have hb2 := below_drew hb1; clear hb1; obtain ⟨k0, k1, k2, k3, k4, k5⟩ := HC.below hb2; have HA1 := HA.later hb2; obtain ⟨a0, a1, a2, f0, f1, f2, _⟩ := HA1))
    go_wp2
    refine bodyPost_ret (v := .tuple #[.agg #[.int .u64 0, .bool false, .slice none 0 0], .int .i64 r]) ?_ rfl ?_
    · simp [results, Tryz.results15, go_sem, a0, a1, a2]
    · refine ⟨rfl, ?_⟩
      exact (((HW.trans (hb2.mono HW.size)).setCell (Nat.le_succ _) _).setCell (Nat.le_succ _) _).setCell (Nat.le_succ _) _

theorem chkNil_12 (K P N : Int) (L : Nat) : chkNil K P N L = 1 ∨ chkNil K P N L = 2 := by
  unfold chkNil chk
  by_cases h1 : formed K N L = false
  · simp [h1]
  · rw [if_neg h1]
    by_cases h2 : P < 0 ∨ 0 < P ∨ 0 - P < N
    · rw [if_pos h2]
      exact .inr (by decide)
    · rw [if_neg h2]
      by_cases h3 : numB K = true ∧ P % N ≠ 0
      · have := formed_num (by simpa using h1) h3.1
        omega
      · simp [if_neg h3]

theorem do_plain {w : World} {g h n : Nat} {m : Nat → Nat} {c : Int} (B : Buf w g h m n c) (K : Int) (a k v u : Nat) (hv : v < 18446744073709551616) (ok : chk (8 * (n : Int)) K a k 0 = 0) :
    Calls Tryz.prog 15 #[.pointer (some ⟨g, 0, none⟩), .agg #[.int .i64 K, .int .i64 a, .int .i64 k, .int .u64 v, .int .u64 u, .slice none 0 0]] w
      (Did (Mb.ansV m K a k) (Mb.ansD m K a k v) (Mb.ansB m K a k) g h (Mb.aft m K a k v u (fun _ => 0)) n (nxt c) w) :=
  do_ok B K a k v u Mb.zero_isB none 0 0 (Nat.le_refl _) (by decide) (bytesAt_none _ _ _ _) hv ok

theorem acc_one (w : World) (K P N V U : Int) (s : Value) : AccAt w.heap.size (w.alloc (.cells #[.int .i64 K, .int .i64 P, .int .i64 N, .int .u64 V, .int .u64 U, s] 30)) K P N V U s := by
  refine ⟨?_, ?_, ?_, ?_, ?_, ?_⟩
  all_goals go_simp

/-- .. told of one access: where the answer stands is said outright. -/
def Told3 (V : Nat) (D : Bool) (g h : Nat) (m : Nat → Nat) (n : Nat) (c : Int) (w : World) (e : Ending) (w' : World) : Prop :=
  ∃ A l cap, e = .returned (.tuple #[.agg #[.int .u64 V, .bool D, .slice A l cap], .int .i64 0]) ∧ Stored g h m n c w w'

theorem Did.told {V : Nat} {D : Bool} {xs : List Int} {g h : Nat} {m : Nat → Nat} {n : Nat} {c : Int} {w : World} {e : Ending} {w' : World} (hd : Did V D xs g h m n c w e w') : Told3 V D g h m n c w e w' := by
  obtain ⟨s, he, ⟨A, cap, hs, _⟩, hst⟩ := hd
  subst hs
  exact ⟨A, _, cap, he, hst⟩

end Go.Proofs.YtikcnioooihncaaGreat
namespace Go.Proofs.YtikcnioooihncaaGreat
open Go.RowKit

namespace Cy
/-- The bytes m, and d of f laid over them at a. -/
def lay (m f : Nat → Nat) (a d : Nat) : Nat → Nat := fun i => if a ≤ i ∧ i < a + d then f (i - a) else m i

theorem lay_isB {m f : Nat → Nat} (hm : Mb.IsB m) (hf : Mb.IsB f) (a d : Nat) : Mb.IsB (lay m f a d) := fun i => by
  unfold lay
  split
  · exact hf _
  · exact hm _

theorem lay_zero (m f : Nat → Nat) (a : Nat) : lay m f a 0 = m := by
  funext i
  unfold lay
  rw [if_neg (by omega)]

theorem lay_step {m f : Nat → Nat} (hf : Mb.IsB f) (a d c : Nat) : Mb.put (lay m f a d) (a + d) c (Mb.nm (fun i => f (d + i)) 0 c) = lay m f a (d + c) := by
  funext i
  unfold Mb.put lay
  by_cases h1 : a + d ≤ i ∧ i < a + d + c
  · rw [if_pos h1, if_pos (by omega), Mb.byt_nm (m := fun i => f (d + i)) (fun _ => hf _) 0 c _ (by omega)]
    show f (d + (0 + (i - (a + d)))) = _
    congr 1
    omega
  · rw [if_neg h1]
    by_cases h2 : a ≤ i ∧ i < a + d
    · rw [if_pos h2, if_pos (by omega)]
    · rw [if_neg h2, if_neg (by omega)]
end Cy

/-- The one block q. -/
def Lone (q k : Nat) : Prop := k = q

theorem addr_add (b o j : Nat) : (⟨b, o, none⟩ : Addr).add j = ⟨b, o + j, none⟩ := by unfold Addr.add; split <;> simp_all

theorem map_bl_at (f : Nat → Nat) (a L j : Nat) (h : j < L) : ((Mb.bl f a L).map (Value.int .u8))[j]? = some (.int .u8 ((f (a + j) : Nat) : Int)) := by
  unfold Mb.bl
  rw [List.getElem?_map, List.getElem?_map, List.getElem?_range h]
  rfl

theorem splice_at {cur : Array Value} {u f : Nat → Nat} {off L n j : Nat} (hn : cur.size = n) (hcur : ∀ i, i < n → cur[i]? = some (.int .u8 ((u i : Nat) : Int))) (hfit : off + L ≤ n) (hj : j < n) :
    (cur.toList.take off ++ (Mb.bl f 0 L).map (Value.int .u8) ++ cur.toList.drop (off + L)).toArray[j]? = some (.int .u8 ((Cy.lay u f off L j : Nat) : Int)) := by
  have hcl : cur.toList.length = n := by rw [Array.length_toList]; exact hn
  have hlen : ((Mb.bl f 0 L).map (Value.int .u8)).length = L := by rw [List.length_map, Mb.bl_length]
  have htl : (cur.toList.take off).length = off := by rw [List.length_take, hcl]; omega
  have hcj := hcur j hj
  rw [List.getElem?_toArray, List.append_assoc]
  unfold Cy.lay
  by_cases h1 : j < off
  · rw [if_neg (by omega), List.getElem?_append_left (by omega), List.getElem?_take, if_pos h1, Array.getElem?_toList]
    exact hcj
  · rw [List.getElem?_append_right (by omega), htl]
    by_cases h2 : j < off + L
    · rw [if_pos (by omega), List.getElem?_append_left (by omega), map_bl_at f 0 L (j - off) (by omega), Nat.zero_add]
    · rw [if_neg (by omega), List.getElem?_append_right (by omega), hlen, List.getElem?_drop, Array.getElem?_toList]
      have e : off + L + (j - off - L) = j := by omega
      rw [e]
      exact hcj

/-- Bytes are copied into a row. -/
theorem run_copy_bytes {w : World} {q off n dLen dCap : Nat} {u f : Nat → Nat} (hr : w.rowIs q 5 n (fun j => .int .u8 ((u j : Nat) : Int))) (B : Option Addr) (L cp : Nat) (hB : BytesAt w (.slice B L cp) (Mb.bl f 0 L)) (hfit : off + L ≤ n) (hL : L ≤ dLen) (ty : TypeId) :
    ∃ w', (Builtin.copy_ #[23, 23] ty #[.slice (some ⟨q, off, none⟩) dLen dCap, .slice B L cp]).run Tryz.prog w = .ok (goInt L) w' ∧ w'.rowIs q 5 n (fun j => .int .u8 ((Cy.lay u f off L j : Nat) : Int)) ∧ Touch (Lone q) w w' := by
  obtain ⟨i0, hi, hz0, hz1, hz2⟩ := info_parts infoU8
  have hsz : (Tryz.prog.info? 5).map (·.size) = some 1 := by rw [hi]; simp [hz1]
  by_cases h0 : L = 0
  · subst h0
    refine ⟨w, run_copy_none (P := Tryz.prog) w _ _ ty 5 _ _ _ _ _ _ Tryz.underlying23 hsz (by simp), ?_, Touch.refl _ _⟩
    rw [Cy.lay_zero]
    exact hr
  · obtain ⟨A2, c2, hv, hx⟩ := hB
    obtain ⟨b, o, rfl, hlt, hc⟩ := hx (by rw [Mb.bl_length]; omega)
    injection hv with e1 _ _
    subst e1
    rw [Mb.bl_length] at hc
    obtain ⟨cur, hb, hn, hcur⟩ := hr
    have hlen : ((Mb.bl f 0 L).map (Value.int .u8)).length = L := by rw [List.length_map, Mb.bl_length]
    have hrun := run_copy_row (P := Tryz.prog) w 23 23 ty 5 q off dLen dCap ⟨b, o, none⟩ L cp cur _ ((Mb.bl f 0 L).map (Value.int .u8)) Tryz.underlying23 hsz hb (by rw [hlen]; exact (Nat.min_eq_left hL).symm)
      (by
        intro j v hj
        have hjl : j < L := by
          have := (List.getElem?_eq_some_iff.1 hj).1
          rw [hlen] at this
          exact this
        rw [addr_add b o j, hc j hjl, ← hj, map_bl_at f 0 L j hjl, Mb.bl_getD _ _ _ _ hjl]) (by rw [hlen, hn]; exact hfit) (by intro v hv; obtain ⟨z, _, rfl⟩ := List.mem_map.1 hv; rfl)
    rw [hlen] at hrun
    exact ⟨_, hrun, ⟨_, setRow_heap w q _ _ _ _ hb, by rw [List.size_toArray, List.length_append, List.length_append, hlen, List.length_take, List.length_drop, Array.length_toList, hn]; omega, fun j hj => splice_at hn hcur hfit hj⟩, ⟨rfl, rfl, rfl, by simp [World.setRow], fun k _ hk => setRow_other w q k _ hk⟩⟩

theorem wpList_copy_bytes {w : World} {ops : Array Oper} {rest : List Oper} {o : Oper} {ac : Act} {Q : Exit → Act → World → Prop} (hgd : o.guard = none) (d s : Operand)
    (ho : o.op = .call { callee := .builtin .copy, args := #[d, s], argTypes := #[23, 23] }) {q off n dLen dCap : Nat} {u f : Nat → Nat} (B : Option Addr) (L cp : Nat) (hd : ac.eval d = .slice (some ⟨q, off, none⟩) dLen dCap) (hs : ac.eval s = .slice B L cp)
    (hr : w.rowIs q 5 n (fun j => .int .u8 ((u j : Nat) : Int))) (hB : BytesAt w (.slice B L cp) (Mb.bl f 0 L)) (hfit : off + L ≤ n) (hL : L ≤ dLen)
    (h : ∀ w', w'.rowIs q 5 n (fun j => .int .u8 ((Cy.lay u f off L j : Nat) : Int)) → Touch (Lone q) w w' → wpList Tryz.prog ops Q rest (ac.put o.dst (goInt L)) w') : wpList Tryz.prog ops Q (o :: rest) ac w := by
  refine wpList_plain hgd fun K hK => ?_
  obtain ⟨w', hrun, h1, h2⟩ := run_copy_bytes hr B L cp hB hfit hL o.type (dCap := dCap)
  unfold Oper.wp
  simp [execOp, ho, resolve, invoke, builtin, hd, hs, hrun, Result.andThen]
  exact hK _ _ (h w' h1 h2)
end Go.Proofs.YtikcnioooihncaaGreat
namespace Go.Proofs.YtikcnioooihncaaGreat
open Go.RowKit

namespace Wd
/-- The parts of n (at least 1): eights, and what is left, which is at least 1. -/
def ck (n : Nat) : List Int := List.replicate ((n - 1) / 8) 8 ++ [((n - 8 * ((n - 1) / 8) : Nat) : Int)]

theorem ck_length (n : Nat) : (ck n).length = (n - 1) / 8 + 1 := by simp [ck]

theorem ck_at (n i : Nat) (hn : 1 ≤ n) (hi : i < (ck n).length) : 1 ≤ (ck n).getD i 0 ∧ (ck n).getD i 0 ≤ 8 := by
  rw [ck_length] at hi
  have hm : (ck n).getD i 0 = if i < (n - 1) / 8 then 8 else ((n - 8 * ((n - 1) / 8) : Nat) : Int) := by
    unfold ck
    rw [List.getD_eq_getElem?_getD]
    by_cases h : i < (n - 1) / 8
    · rw [List.getElem?_append_left (by simpa using h), if_pos h]
      simp [h]
    · rw [List.getElem?_append_right (by simp; omega), if_neg h]
      have e : i - (List.replicate ((n - 1) / 8) (8 : Int)).length = 0 := by simp; omega
      rw [e]
      rfl
  rw [hm]
  split <;> omega

theorem sum_replicate (k : Nat) : (List.replicate k (8 : Int)).sum = 8 * k := by
  induction k with
  | zero => rfl
  | succ k ih => rw [List.replicate_succ, List.sum_cons, ih]; omega

theorem ck_sum (n : Nat) (hn : 1 ≤ n) : (ck n).sum = n := by
  unfold ck
  rw [List.sum_append, sum_replicate]
  simp
  omega

theorem take_sum (xs : List Int) (k : Nat) (h : k < xs.length) : (xs.take (k + 1)).sum = (xs.take k).sum + xs.getD k 0 := by
  rw [List.take_succ_eq_append_getElem h, List.sum_append]
  simp [List.getD, h]

theorem ck_take (n k : Nat) (hn : 1 ≤ n) (hk : k ≤ (ck n).length) : 0 ≤ ((ck n).take k).sum ∧ ((ck n).take k).sum ≤ 8 * k := by
  induction k with
  | zero => simp
  | succ k ih =>
    have h1 := ih (by omega)
    have h2 := ck_at n k hn (by omega)
    rw [take_sum _ _ (by omega)]
    omega
end Wd

/-- The slice value v reads as the ints xs. -/
def IntsAt (w : World) (v : Value) (xs : List Int) : Prop :=
  ∃ A cap, v = .slice A xs.length cap ∧ (0 < xs.length → ∃ b off, A = some ⟨b, off, none⟩ ∧ b < w.heap.size ∧ ∀ i, i < xs.length → w.cell? ⟨b, off + i, none⟩ = some (.int .i64 (xs.getD i 0)))

theorem IntsAt.nil (w : World) : IntsAt w (.slice none 0 0) [] := ⟨none, 0, rfl, fun h => absurd h (by simp)⟩

theorem IntsAt.below {w w' : World} {v : Value} {xs : List Int} (h : IntsAt w v xs) (hb : Below w.heap.size w w') : IntsAt w' v xs := by
  obtain ⟨A, cap, hv, h⟩ := h
  refine ⟨A, cap, hv, fun hp => ?_⟩
  obtain ⟨b, off, h1, h3, h4⟩ := h hp
  exact ⟨b, off, h1, Nat.lt_of_lt_of_le h3 hb.size, fun i hi => (hb.cell (p := ⟨b, off + i, none⟩) h3).trans (h4 i hi)⟩

theorem IntsAt.of_own {w : World} {base : Nat} {v : Value} {xs : List Int} (h : w.ownsRow base 3 1 v xs.length (xs.map (Value.int .i64))) : IntsAt w v xs := by
  rcases h.2 with ⟨rfl, h0⟩ | ⟨g, cap, cur, rfl, _, hh, hnc, _⟩
  · have hx : xs = [] := List.eq_nil_of_length_eq_zero h0
    subst hx
    exact IntsAt.nil w
  · refine ⟨_, cap, rfl, fun _ => ⟨g, 0, rfl, ?_, fun i hi => ?_⟩⟩
    · rcases Nat.lt_or_ge g w.heap.size with hlt | hge
      · exact hlt
      · rw [Array.getElem?_eq_none hge] at hh; cases hh
    · have hc := h.cells (g := g) rfl i (.int .i64 (xs.getD i 0)) (by simp [List.getElem?_eq_getElem hi, List.getD])
      have e : (⟨g, 0, none⟩ : Addr).add i = ⟨g, 0 + i, none⟩ := by unfold Addr.add; split <;> simp_all
      rw [e] at hc
      exact hc

/-- The call made the ints xs, and left alone what was there. -/
def MadeInts (xs : List Int) (w : World) (e : Ending) (w' : World) : Prop :=
  ∃ v, e = .returned v ∧ w'.ownsRow w.heap.size 3 1 v xs.length (xs.map (Value.int .i64)) ∧ Below w.heap.size w w'

theorem infoInt : (Tryz.prog.info? 3).map (fun i => (i.zero, i.size, i.bytes)) = some (some (.int .i64 0), 1, 8) := by kernel_rfl

theorem repl_snoc (k : Nat) : (List.replicate k (8 : Int)).map (Value.int .i64) ++ [Value.int .i64 8] = (List.replicate (k + 1) (8 : Int)).map (Value.int .i64) := by
  rw [List.replicate_succ']; simp

theorem repl_end (n : Nat) (k : Nat) (hn : 1 ≤ n) (hk : k = (n - 1) / 8) (x : Int) (hx : x = n - 8 * k) :
    (List.replicate k (8 : Int)).map (Value.int .i64) ++ [Value.int .i64 x] = (Wd.ck n).map (Value.int .i64) := by
  subst hk
  unfold Wd.ck
  rw [List.map_append]
  congr 1
  simp
  omega

theorem one_cell (w : World) (x : Value) (t : TypeId) : ∀ j u, [x][j]? = some u → (w.alloc (.cells #[x] t)).cell? ((⟨w.heap.size, 0, none⟩ : Addr).add j) = some u := by
  intro j u hj
  match j, hj with
  | 0, hj => simp at hj; subst hj; simp [Addr.add]

set_option maxRecDepth 100000 in
set_option maxHeartbeats 400000 in
theorem chunks_no (n : Int) (w : World) (h : n < 1 ∨ 131072 < n) :
    Calls Tryz.prog 152 #[.int .i64 n] w fun e w' => e = .returned (.slice none 0 0) ∧ w = w' := by
  rcases h with h | h
  · go_enter Tryz.func152, Tryz.ntmps152
    go_wp2
    go_ret
    exact ⟨rfl, rfl⟩
  · have h' : 1 ≤ n := by omega
    go_enter Tryz.func152, Tryz.ntmps152
    go_wp2
    go_ret
    exact ⟨rfl, rfl⟩

set_option maxRecDepth 100000 in
set_option maxHeartbeats 400000 in
theorem refChunks_no (n : Int) (w : World) (h : n < 1 ∨ 131072 < n) :
    Calls Tryz.prog 96 #[.int .i64 n] w fun e w' => e = .returned (.slice none 0 0) ∧ w = w' := by
  rcases h with h | h
  · have h1 : n ≤ 131072 := by omega
    have h2 : n ≤ 8 := by omega
    go_enter Tryz.func96, Tryz.ntmps96
    go_wp2
    refine wp_loop_rounds 1 ?_
    rw [rounds_succ]
    go_wp2
    go_ret
    exact ⟨rfl, rfl⟩
  · go_enter Tryz.func96, Tryz.ntmps96
    go_wp2
    go_ret
    exact ⟨rfl, rfl⟩

set_option maxRecDepth 100000 in
set_option maxHeartbeats 400000 in
theorem refChunks_yes (n : Nat) (w : World) (h1 : 1 ≤ n) (h2 : n ≤ 131072) :
    Calls Tryz.prog 96 #[.int .i64 n] w (MadeInts (Wd.ck n) w) := by
  obtain ⟨i0, hi, hz0, hz1, hz2⟩ := info_parts infoInt
  go_enter Tryz.func96, Tryz.ntmps96
  go_wp2
  go_loopw [0, 3] (fun x r wr => ∃ k : Nat, 8 * k < n ∧ x = .int .i64 ((n : Int) - 8 * k) ∧ Below w.heap.size w wr ∧ wr.ownsRow w.heap.size 3 1 r k ((List.replicate k (8 : Int)).map (Value.int .i64))) (fun x _ _ => (intOf x).toNat)
  case atStart => exact ⟨0, by omega, by first | rfl | (congr 1; omega), Below.refl _ _, World.ownsRow_nil _ _ _ _⟩
  case round =>
    obtain ⟨k, hk, rfl, hbel, hown⟩ := hrel
    have hsz := hbel.size
    by_cases hlt : 8 < n - 8 * k
    · have hlt' : (8 : Int) < (n : Int) - 8 * k := by omega
      go_wp2_with (at_builtin; refine wpList_append_own _ rfl (.tmp 10) (.tmp 11) 162 rfl w.heap.size 3 i0 (.int .i64 0) 1 8 Tryz.underlying162 hi hz0 hz1 hz2 rfl (by decide) _ _ _ rfl (hown.alloc _) ⟨wr.heap.size, 0, none⟩ 1 1 [.int .i64 8] rfl rfl (one_cell _ _ _) (by intro u hu; simp at hu; subst hu; rfl) (by unfold maxLen; omega) (by omega) (by simp; omega) ?_; intro v' w1 hown' hgrow _; have hown2 := hown'; rw [repl_snoc] at hown2; have hbel2 : Below w.heap.size w w1 := (hbel.alloc hsz _).grown hgrow (by simp; omega) (fun g hg => (hown.lt g hg).1); clear hown' hgrow hown hbel)
      go_roundw
      case rel => exact ⟨k + 1, by omega, by go_num, hbel2, hown2⟩
      case measure => simp [intOf]; omega
    · have hkn : k = (n - 1) / 8 := by omega
      have HK := Lib.hid hkn
      clear hkn
      have hlt' : (n : Int) - 8 * k ≤ 8 := by omega
      have hlt2 : 0 < (n : Int) - 8 * k := by omega
      go_wp2_with (at_builtin; refine wpList_append_own _ rfl (.tmp 15) (.tmp 17) 162 rfl w.heap.size 3 i0 (.int .i64 0) 1 8 Tryz.underlying162 hi hz0 hz1 hz2 rfl (by decide) _ _ _ rfl (hown.alloc _) ⟨wr.heap.size, 0, none⟩ 1 1 [.int .i64 ((n : Int) - 8 * k)] rfl rfl (one_cell _ _ _) (by intro u hu; simp at hu; subst hu; rfl) (by unfold maxLen; omega) (by omega) (by simp; omega) ?_; intro v' w1 hown' hgrow _; have hown2 := hown'; rw [repl_end n k h1 HK.out _ rfl] at hown2; have hbel2 : Below w.heap.size w w1 := (hbel.alloc hsz _).grown hgrow (by simp; omega) (fun g hg => (hown.lt g hg).1); clear hown' hgrow hown hbel)
      go_ret
      have hl : k + 1 = (Wd.ck n).length := by rw [Wd.ck_length, ← HK.out]
      rw [hl] at hown2
      exact ⟨_, rfl, hown2, hbel2⟩

set_option maxRecDepth 100000 in
set_option maxHeartbeats 400000 in
theorem chunks_yes (n : Nat) (w : World) (h1 : 1 ≤ n) (h2 : n ≤ 131072) :
    Calls Tryz.prog 152 #[.int .i64 n] w (MadeInts (Wd.ck n) w) := by
  obtain ⟨i0, hi, hz0, hz1, hz2⟩ := info_parts infoInt
  have hdv : (n : Int) / 8 + 1 = ((n / 8 + 1 : Nat) : Int) := by omega
  have HD := Lib.hid hdv
  clear hdv
  go_enter Tryz.func152, Tryz.ntmps152
  go_wp2_with (refine wpList_make_own _ rfl _ _ 162 rfl w.heap.size 3 i0 (.int .i64 0) 1 Tryz.underlying162 hi hz0 hz1 .i64 .i64 _ (n / 8 + 1) rfl rfl HD.out (by rw [hz2]; omega) (by unfold maxLen; omega) (Nat.le_refl _) ?_; intro w0 hown0 hg0)
  have hbel0 : Below w.heap.size w w0 := (Below.refl _ w).grown hg0 (Nat.le_refl _) (fun g hg => by cases hg)
  clear hg0
  go_loopw [3, 17] (fun r i wr => ∃ k : Nat, k ≤ n / 8 ∧ i = .int .i64 k ∧ Below w.heap.size w wr ∧ wr.ownsRow w.heap.size 3 1 r k ((List.replicate k (8 : Int)).map (Value.int .i64))) (fun _ i _ => n - (intOf i).toNat)
  case atStart => exact ⟨0, by omega, rfl, hbel0, hown0⟩
  case round =>
    obtain ⟨k, hk, rfl, hbel, hown⟩ := hrel
    clear hown0 hbel0
    have hsz := hbel.size
    by_cases hlt : k < n / 8
    · have hlt' : (k : Int) < (n : Int) / 8 := by omega
      go_wp2_with (at_builtin; refine wpList_append_own _ rfl (.tmp 19) (.tmp 20) 162 rfl w.heap.size 3 i0 (.int .i64 0) 1 8 Tryz.underlying162 hi hz0 hz1 hz2 rfl (by decide) _ _ _ rfl (hown.alloc _) ⟨wr.heap.size, 0, none⟩ 1 1 [.int .i64 8] rfl rfl (one_cell _ _ _) (by intro u hu; simp at hu; subst hu; rfl) (by unfold maxLen; omega) (by omega) (by simp; omega) ?_; intro v' w1 hown' hgrow _; have hown2 := hown'; rw [repl_snoc] at hown2; have hbel2 : Below w.heap.size w w1 := (hbel.alloc hsz _).grown hgrow (by simp; omega) (fun g hg => (hown.lt g hg).1); clear hown' hgrow hown hbel)
      go_roundw
      case rel => exact ⟨k + 1, by omega, by go_num, hbel2, hown2⟩
      case measure => simp [intOf]; omega
    · have hkn : k = n / 8 := by omega
      have HK := Lib.hid hkn
      clear hkn
      have hlt' : (n : Int) / 8 ≤ (k : Int) := by omega
      by_cases hr : 0 < n % 8
      · have hr' : 0 < (n : Int) % 8 := by omega
        go_wp2_with (at_builtin; refine wpList_append_own _ rfl (.tmp 27) (.tmp 29) 162 rfl w.heap.size 3 i0 (.int .i64 0) 1 8 Tryz.underlying162 hi hz0 hz1 hz2 rfl (by decide) _ _ _ rfl (hown.alloc _) ⟨wr.heap.size, 0, none⟩ 1 1 [.int .i64 ((n : Int) % 8)] rfl rfl (one_cell _ _ _) (by intro u hu; simp at hu; subst hu; rfl) (by unfold maxLen; omega) (by omega) (by simp; omega) ?_; intro v' w1 hown' hgrow _; have hown2 := hown'; rw [repl_end n k h1 (by have := HK.out; omega) _ (by have := HK.out; omega)] at hown2; have hbel2 : Below w.heap.size w w1 := (hbel.alloc hsz _).grown hgrow (by simp; omega) (fun g hg => (hown.lt g hg).1); clear hown' hgrow hown hbel)
        go_ret
        have hl : k + 1 = (Wd.ck n).length := by have := HK.out; rw [Wd.ck_length]; omega
        rw [hl] at hown2
        exact ⟨_, rfl, hown2, hbel2⟩
      · have hr' : (n : Int) % 8 ≤ 0 := by omega
        go_wp2
        go_ret
        have hk1 := HK.out
        obtain ⟨j, rfl⟩ : ∃ j, k = j + 1 := ⟨k - 1, by omega⟩
        rw [← repl_snoc, repl_end n j h1 (by omega) 8 (by omega)] at hown
        have hl : j + 1 = (Wd.ck n).length := by rw [Wd.ck_length]; omega
        rw [hl] at hown
        exact ⟨_, rfl, hown, hbel⟩

/-- What the statement needs of a call: the parts, or none. -/
def ckOf (n : Int) : List Int := if 1 ≤ n ∧ n ≤ 131072 then Wd.ck n.toNat else []

theorem chunks_any (n : Int) (w : World) : Calls Tryz.prog 152 #[.int .i64 n] w (MadeInts (ckOf n) w) := by
  unfold ckOf
  by_cases h : 1 ≤ n ∧ n ≤ 131072
  · rw [if_pos h]
    obtain ⟨k, rfl⟩ := Int.eq_ofNat_of_zero_le (by omega : 0 ≤ n)
    exact chunks_yes k w (by omega) (by omega)
  · rw [if_neg h]
    exact (chunks_no n w (by omega)).mono fun _ _ ⟨he, hw⟩ => ⟨_, he, World.ownsRow_nil _ _ _ _, by subst hw; exact Below.refl _ _⟩

theorem refChunks_any (n : Int) (w : World) : Calls Tryz.prog 96 #[.int .i64 n] w (MadeInts (ckOf n) w) := by
  unfold ckOf
  by_cases h : 1 ≤ n ∧ n ≤ 131072
  · rw [if_pos h]
    obtain ⟨k, rfl⟩ := Int.eq_ofNat_of_zero_le (by omega : 0 ≤ n)
    exact refChunks_yes k w (by omega) (by omega)
  · rw [if_neg h]
    exact (refChunks_no n w (by omega)).mono fun _ _ ⟨he, hw⟩ => ⟨_, he, World.ownsRow_nil _ _ _ _, by subst hw; exact Below.refl _ _⟩

/-- A call that made ints, in the walk's spelling: some of them, or none. -/
def SomeInts (xs : List Int) (w : World) (e : Ending) (w' : World) : Prop :=
  ∃ b off cap, e = .returned (.slice (some ⟨b, off, none⟩) xs.length cap) ∧ b < w'.heap.size ∧ (∀ i, i < xs.length → w'.cell? ⟨b, off + i, none⟩ = some (.int .i64 (xs.getD i 0))) ∧ Below w.heap.size w w'

theorem made_some {xs : List Int} {w w' : World} {e : Ending} (hp : 0 < xs.length) (h : MadeInts xs w e w') : SomeInts xs w e w' := by
  obtain ⟨v, he, ho, hb⟩ := h
  obtain ⟨A, cap, rfl, h⟩ := IntsAt.of_own ho
  obtain ⟨b, off, rfl, h1, h2⟩ := h hp
  exact ⟨b, off, cap, he, h1, h2, hb⟩
end Go.Proofs.YtikcnioooihncaaGreat
namespace Go.Proofs.YtikcnioooihncaaGreat
open Go.RowKit

namespace Cy
/-- The parts of n bytes; none of none. -/
def cks (n : Nat) : List Int := if n = 0 then [] else Wd.ck n
/-- The part that is next, of r bytes that are left. -/
def nx (r : Nat) : Nat := if r ≤ 8 then r else 8
/-- So many bytes are copied, of so many that were asked for. -/
def few (n : Int) : Nat := if 1 ≤ n ∧ n ≤ 131072 then n.toNat else 0

theorem cks_zero : cks 0 = [] := rfl
theorem nx_le (r : Nat) : nx r ≤ r ∧ nx r ≤ 8 := by unfold nx; split <;> omega
theorem nx_pos {r : Nat} (h : 0 < r) : 0 < nx r := by unfold nx; split <;> omega
theorem few_le (n : Int) : few n ≤ 131072 := by unfold few; split <;> omega
theorem few_nat {n : Nat} (h : n ≤ 131072) : few n = n := by
  unfold few
  by_cases h0 : 1 ≤ (n : Int)
  · rw [if_pos ⟨h0, by omega⟩]; simp
  · rw [if_neg (fun hh => h0 hh.1)]; omega

theorem ckOf_few (n : Int) : ckOf n = cks (few n) := by
  unfold ckOf few cks
  by_cases h : 1 ≤ n ∧ n ≤ 131072
  · rw [if_pos h, if_pos h, if_neg (by omega)]
  · rw [if_neg h, if_neg h, if_pos rfl]

theorem cks_step {r : Nat} (h : 0 < r) : cks r = ((nx r : Nat) : Int) :: cks (r - nx r) := by
  unfold cks nx
  rw [if_neg (by omega)]
  by_cases h8 : r ≤ 8
  · rw [if_pos h8, if_pos (by omega)]
    unfold Wd.ck
    have e : (r - 1) / 8 = 0 := by omega
    rw [e]
    simp
  · rw [if_neg h8, if_neg (by omega)]
    unfold Wd.ck
    obtain ⟨k, hk⟩ : ∃ k, (r - 1) / 8 = k + 1 := ⟨(r - 1) / 8 - 1, by omega⟩
    have hk2 : (r - 8 - 1) / 8 = k := by omega
    rw [hk, hk2, List.replicate_succ]
    simp only [List.cons_append, List.cons.injEq]
    refine ⟨by omega, ?_⟩
    congr 2
    omega

theorem cks_length (n : Nat) : (cks n).length = (n + 7) / 8 := by
  unfold cks
  split
  · subst_vars; rfl
  · rw [Wd.ck_length]; omega

theorem cks_getD (n j : Nat) (h : 8 * j < n) : (cks n).getD j 0 = ((nx (n - 8 * j) : Nat) : Int) := by
  induction j generalizing n with
  | zero => rw [cks_step (by omega)]; simp
  | succ j ih =>
    rw [cks_step (by omega)]
    have e : nx n = 8 := by unfold nx; rw [if_neg (by omega)]
    rw [List.getD_cons_succ, e, ih (n - 8) (by omega)]
    congr 2
    omega

/-- So many bytes were copied behind i parts. -/
def at_ (n i : Nat) : Nat := if 8 * i ≤ n then 8 * i else n
theorem at_zero (n : Nat) : at_ n 0 = 0 := by unfold at_; rw [if_pos (by omega)]
theorem at_le (n i : Nat) : at_ n i ≤ n := by unfold at_; split <;> omega
theorem at_next {n i : Nat} (h : 8 * i < n) : at_ n (i + 1) = at_ n i + nx (n - at_ n i) := by
  unfold at_ nx
  rw [if_pos (by omega : 8 * i ≤ n)]
  split <;> split <;> omega
theorem at_here {n i : Nat} (h : 8 * i < n) : at_ n i = 8 * i := by unfold at_; rw [if_pos (by omega)]
theorem at_end {n i : Nat} (h : n ≤ 8 * i) : at_ n i = n := by unfold at_; split <;> omega
end Cy

/-- The slice value v reads as the ints xs, which stand in a block of those that K names; there is room for them. -/
def Parts (K : Nat → Prop) (w : World) (v : Value) (xs : List Int) : Prop :=
  ∃ A cap, v = .slice A xs.length cap ∧ xs.length ≤ cap ∧ cap ≤ maxLen ∧ (0 < xs.length → ∃ b off, A = some ⟨b, off, none⟩ ∧ K b ∧ b < w.heap.size ∧ ∀ i, i < xs.length → w.cell? ⟨b, off + i, none⟩ = some (.int .i64 (xs.getD i 0)))

theorem Parts.of_blocks {K : Nat → Prop} {w w' : World} {v : Value} {xs : List Int} (h : Parts K w v xs) (hs : w.heap.size ≤ w'.heap.size) (hb : ∀ k, K k → w'.heap[k]? = w.heap[k]?) : Parts K w' v xs := by
  obtain ⟨A, cap, hv, h1, h2, h⟩ := h
  refine ⟨A, cap, hv, h1, h2, fun hp => ?_⟩
  obtain ⟨b, off, h1, hK, h3, h4⟩ := h hp
  exact ⟨b, off, h1, hK, by omega, fun i hi => (World.cell?_of_block (w := w) (a := ⟨b, off + i, none⟩) (hb b hK)).trans (h4 i hi)⟩

theorem Parts.mono {K L : Nat → Prop} {w : World} {v : Value} {xs : List Int} (h : Parts K w v xs) (hK : ∀ k, K k → L k) : Parts L w v xs := by
  obtain ⟨A, cap, hv, h1, h2, h⟩ := h
  refine ⟨A, cap, hv, h1, h2, fun hp => ?_⟩
  obtain ⟨b, off, h1, hk, h3⟩ := h hp
  exact ⟨b, off, h1, hK b hk, h3⟩

theorem Parts.nil (K : Nat → Prop) (w : World) : Parts K w (.slice none 0 0) [] := ⟨none, 0, rfl, Nat.le_refl _, by unfold maxLen; decide, fun h => absurd h (by simp)⟩

theorem Parts.of_own {w : World} {base : Nat} {v : Value} {xs : List Int} (h : w.ownsRow base 3 1 v xs.length (xs.map (Value.int .i64))) : Parts (fun k => base ≤ k ∧ k < w.heap.size) w v xs := by
  have hi := IntsAt.of_own h
  rcases h.2 with ⟨rfl, h0⟩ | ⟨g, cap, cur, rfl, hbase, hh, hnc, hm, _⟩
  · have hx : xs = [] := List.eq_nil_of_length_eq_zero h0
    subst hx
    exact Parts.nil _ w
  · refine ⟨_, cap, rfl, hnc, hm, fun hp => ?_⟩
    obtain ⟨A, cap', hv', hc⟩ := hi
    obtain ⟨b, off, e, hlt, hc2⟩ := hc hp
    injection hv' with e1 e2 e3
    subst e1
    exact ⟨b, off, e, ⟨by injection e with e; injection e with e5 e6; omega, hlt⟩, hlt, hc2⟩

/-- The call made the parts xs in a block of its own, and left alone what was there. -/
def MadeParts (xs : List Int) (w : World) (e : Ending) (w' : World) : Prop :=
  ∃ v, e = .returned v ∧ Parts (fun k => w.heap.size ≤ k ∧ k < w'.heap.size) w' v xs ∧ Below w.heap.size w w'
end Go.Proofs.YtikcnioooihncaaGreat
namespace Go.Proofs.YtikcnioooihncaaGreat
open Go.RowKit

/-- Onto a row of the call's own nothing at all is appended. -/
theorem run_app_none {w : World} {base : Nat} {v : Value} {xs : List Int} (hv : Owns base w v xs) (c : Nat) (ty : TypeId) :
    (Builtin.append_ #[23, 23] ty #[v, .slice none 0 c]).run Tryz.prog w = .ok v w := by
  obtain ⟨i0, hi, _⟩ := info_parts infoU8
  have ht := Tryz.underlying23
  rcases hv.2 with ⟨rfl, hx⟩ | ⟨g, cap, cur, rfl, _, _, hnc, _⟩
  · simp [Builtin.append_, run_underlying ht, sizeOf, typeInfo, hi, Builtin.lenOf, Builtin.firstCells]
  · simp [Builtin.append_, run_underlying ht, sizeOf, typeInfo, hi, Builtin.lenOf, Builtin.firstCells, hnc, storeCells]

theorem run_app {w : World} {base : Nat} {v y : Value} {xs ys : List Int} (hv : Owns base w v xs) (hy : BytesAt w y ys) (hl : xs.length + ys.length ≤ 1073741824) (hb : base ≤ w.heap.size) (ty : TypeId) :
    ∃ v' w', (Builtin.append_ #[23, 23] ty #[v, y]).run Tryz.prog w = .ok v' w' ∧ Owns base w' v' (xs ++ ys) ∧ w.grownBy w' v.ownBlock ∧ (v'.ownBlock = v.ownBlock ∨ v'.ownBlock = some w.heap.size) := by
  obtain ⟨i0, hi, hz0, hz1, hz2⟩ := info_parts infoU8
  obtain ⟨A, cap, rfl, hc⟩ := hy
  by_cases hp : 0 < ys.length
  · obtain ⟨b, off, rfl, hlt, hc⟩ := hc hp
    obtain ⟨v', w', hrun, h2, h3, _, h5⟩ := run_append_own_at (P := Tryz.prog) w base 23 ty 5 i0 (.int .u8 0) 1 1 Tryz.underlying23 hi hz0 hz1 hz2 rfl (by decide) v xs.length _ hv ⟨b, off, none⟩ ys.length cap (ys.map (Value.int .u8)) (by simp) (by
        intro j u hj
        rw [List.getElem?_map] at hj
        by_cases hjl : j < ys.length
        · rw [List.getElem?_eq_getElem hjl] at hj
          obtain rfl : Value.int .u8 ys[j] = u := by simpa using hj
          have e : (⟨b, off, none⟩ : Addr).add j = ⟨b, off + j, none⟩ := by unfold Addr.add; split <;> simp_all
          rw [e, hc j hjl]
          simp [List.getD, hjl]
        · rw [List.getElem?_eq_none (by omega)] at hj
          simp at hj) (by
        intro u hu
        obtain ⟨z, _, rfl⟩ := List.mem_map.1 hu
        rfl) (by unfold maxLen; omega) (by omega) hb
    refine ⟨v', w', hrun, ?_, h3, h5⟩
    unfold Owns
    rw [List.length_append, List.map_append]
    exact h2
  · have hys : ys = [] := List.eq_nil_of_length_eq_zero (by omega)
    subst hys
    cases A with
    | none => exact ⟨v, w, run_app_none hv cap ty, by simpa using hv, World.grownBy.refl w _, .inl rfl⟩
    | some a =>
      obtain ⟨v', w', hrun, h2, h3, _, h5⟩ := run_append_own_at (P := Tryz.prog) w base 23 ty 5 i0 (.int .u8 0) 1 1 Tryz.underlying23 hi hz0 hz1 hz2 rfl (by decide) v xs.length _ hv a 0 cap [] (by simp) (by simp) (by simp) (by unfold maxLen; omega) (by omega) hb
      refine ⟨v', w', hrun, ?_, h3, h5⟩
      simpa [Owns] using h2

/-- What the appending left. -/
structure App (base : Nat) (v : Value) (zs : List Int) (w : World) (v' : Value) (w' : World) : Prop where
  own : Owns base w' v' zs
  grown : w.grownBy w' v.ownBlock
  lies : v'.ownBlock = v.ownBlock ∨ v'.ownBlock = some w.heap.size

theorem wp_app_any {w : World} {o : Oper} {a : Act} {K : Act → World → Prop} {Q : Exit → Act → World → Prop} (s x : Operand)
    (ho : o.op = .call { callee := .builtin .append, args := #[s, x], argTypes := #[23, 23] }) (base : Nat) (v y : Value) (xs ys : List Int)
    (hs : a.eval s = v) (hx : a.eval x = y) (hv : Owns base w v xs) (hy : BytesAt w y ys) (hl : xs.length + ys.length ≤ 1073741824) (hb : base ≤ w.heap.size)
    (h : ∀ v' w', App base v (xs ++ ys) w v' w' → K (a.put o.dst v') w') : o.wp Tryz.prog a w K Q := by
  obtain ⟨v', w', hrun, h2, h3, h4⟩ := run_app hv hy hl hb o.type
  unfold Oper.wp execOp
  simp only [ho, resolve, invoke, builtin, Sem.run_bind, Sem.run_pure, Result.andThen_ok, List.map_toArray, List.map_cons, List.map_nil, hs, hx, hrun]
  exact h v' w' ⟨h2, h3, h4⟩

theorem wpList_app_any {w : World} {ops : Array Oper} {rest : List Oper} {o : Oper} {a : Act} {Q : Exit → Act → World → Prop} (hgd : o.guard = none) (s x : Operand)
    (ho : o.op = .call { callee := .builtin .append, args := #[s, x], argTypes := #[23, 23] }) (base : Nat) (v y : Value) (xs ys : List Int)
    (hs : a.eval s = v) (hx : a.eval x = y) (hv : Owns base w v xs) (hy : BytesAt w y ys) (hl : xs.length + ys.length ≤ 1073741824) (hb : base ≤ w.heap.size)
    (h : ∀ v' w', App base v (xs ++ ys) w v' w' → wpList Tryz.prog ops Q rest (a.put o.dst v') w') : wpList Tryz.prog ops Q (o :: rest) a w :=
  wpList_plain hgd fun _ hK => wp_app_any s x ho base v y xs ys hs hx hv hy hl hb fun v' w' h2 => hK _ _ (h v' w' h2)

theorem step_app_any {w : World} {ops : Array Oper} {o : Oper} {a : Act} {K : Act → World → Prop} {Q : Exit → Act → World → Prop} {E : Prop} (hgd : o.guard = none) (s x : Operand)
    (ho : o.op = .call { callee := .builtin .append, args := #[s, x], argTypes := #[23, 23] }) (base : Nat) (v y : Value) (xs ys : List Int)
    (hs : a.eval s = v) (hx : a.eval x = y) (hv : Owns base w v xs) (hy : BytesAt w y ys) (hl : xs.length + ys.length ≤ 1073741824) (hb : base ≤ w.heap.size)
    (h : ∀ v' w', App base v (xs ++ ys) w v' w' → K (a.put o.dst v') w') : if Region.wanted o (yielded ops a.tmps) = true then Oper.wp Tryz.prog o a w K Q else E := by
  have hw : Region.wanted o (yielded ops a.tmps) = true := by simp [Region.wanted, hgd]
  rw [if_pos hw]
  exact wp_app_any s x ho base v y xs ys hs hx hv hy hl hb h

theorem App.below {base : Nat} {v v' : Value} {xs zs : List Int} {w w' W : World} (h : App base v zs w v' w') (hv : Owns base w v xs) (hW : Below base W w) (hb : base ≤ w.heap.size) : Below base W w' :=
  hW.grown h.grown hb fun k hk => (hv.lt k hk).1

/-- The call made the bytes xs in a block of its own, or none. -/
def MadeOwn (xs : List Int) (w : World) (e : Ending) (w' : World) : Prop :=
  ∃ v, e = .returned v ∧ Owns w.heap.size w' v xs ∧ Below w.heap.size w w'

theorem own_empty (w : World) : Owns w.heap.size (w.alloc (.cells #[] 5)) (.slice (some ⟨w.heap.size, 0, none⟩) 0 0) [] :=
  ⟨by simp, .inr ⟨w.heap.size, 0, #[], rfl, Nat.le_refl _, Go.Deep.blk_alloc_new _ _, Nat.le_refl _, by unfold maxLen; decide, by simp, by simp⟩⟩

set_option maxRecDepth 100000 in
set_option maxHeartbeats 400000 in
theorem clone_any (A : Option Addr) (L cap : Nat) (xs : List Int) (w : World) (hb : BytesAt w (.slice A L cap) xs) (hl : L ≤ 1073741824) :
    Calls Tryz.prog 46 #[.slice A L cap] w (MadeOwn xs w) := by
  have heq := fun (w : World) (a : Option Addr) => Lib.run_eql_slice_nil (P := Tryz.prog) w 23 5 a L cap 0 0 Tryz.underlying23
  have hL : xs.length = L := by obtain ⟨_, _, e, _⟩ := hb; injection e with _ e _; exact e.symm
  have HL := Lib.hid hL
  have HB := Lib.hid hb
  have hown := Lib.hid (own_empty w)
  cases A with
  | none =>
    have hx : xs = [] := by
      by_cases hp : 0 < xs.length
      · obtain ⟨_, _, e, h⟩ := hb
        obtain ⟨_, _, e2, _⟩ := h hp
        injection e with e _ _
        rw [← e] at e2
        cases e2
      · exact List.eq_nil_of_length_eq_zero (by omega)
    subst hx
    clear hL hb
    go_enter Tryz.func46, Tryz.ntmps46
    go_wp2
    go_ret
    exact ⟨_, rfl, World.ownsRow_nil _ _ _ _, Below.refl _ _⟩
  | some a =>
    clear hL hb
    go_enter Tryz.func46, Tryz.ntmps46
    go_wp2_with (at_builtin; refine wpList_app_any rfl _ _ rfl w.heap.size _ _ [] xs rfl rfl hown.out (HB.out.below ((Below.refl _ _).alloc (Nat.le_refl _) _)) (by have := HL.out; simp; omega) (by simp) ?_; intro v' w1 happ)
    go_ret
    refine ⟨_, rfl, by simpa using happ.own, ?_⟩
    exact happ.below hown.out ((Below.refl _ _).alloc (Nat.le_refl _) _) (by simp)

/-- .. in the walk's spelling. -/
def MadeSl (L : Nat) (xs : List Int) (w : World) (e : Ending) (w' : World) : Prop :=
  ∃ A c, e = .returned (.slice A L c) ∧ Owns w.heap.size w' (.slice A L c) xs ∧ Below w.heap.size w w'

theorem clone_sl (A : Option Addr) (L cap : Nat) (xs : List Int) (w : World) (hb : BytesAt w (.slice A L cap) xs) (hl : L ≤ 1073741824) :
    Calls Tryz.prog 46 #[.slice A L cap] w (MadeSl L xs w) := by
  have hL : xs.length = L := by obtain ⟨_, _, e, _⟩ := hb; injection e with _ e _; exact e.symm
  refine (clone_any A L cap xs w hb hl).mono ?_
  rintro e w' ⟨v, rfl, ho, hbl⟩
  obtain ⟨A5, c5, hv, _⟩ := ho.bytes
  subst hv
  rw [hL] at ho ⊢
  exact ⟨A5, c5, rfl, ho, hbl⟩
end Go.Proofs.YtikcnioooihncaaGreat
namespace Go.Proofs.YtikcnioooihncaaGreat
open Go.RowKit

/-- An access of kind k to n bytes at p, with those bytes b in new memory (or none). -/
def MadeAcc (k p n : Int) (b : List Int) (w : World) (e : Ending) (w' : World) : Prop :=
  ∃ A l c, e = .returned (.agg #[.int .i64 k, .int .i64 p, .int .i64 n, .int .u64 0, .int .u64 0, .slice A l c]) ∧ Owns w.heap.size w' (.slice A l c) b ∧ Below w.heap.size w w'

theorem lt_of_cell {w : World} {b o : Nat} {v : Value} (h : w.cell? ⟨b, o, none⟩ = some v) : b < w.heap.size := World.block_lt_of_cell? w ⟨b, o, none⟩ h

set_option maxRecDepth 100000 in
set_option maxHeartbeats 400000 in
theorem writeAcc_any (p : Int) (A : Option Addr) (L cap : Nat) (w : World) :
    Calls Tryz.prog 142 #[.int .i64 p, .slice A L cap] w (Made (.agg #[.int .i64 6, .int .i64 p, .int .i64 L, .int .u64 0, .int .u64 0, .slice A L cap]) w) := by
  go_enter Tryz.func142, Tryz.ntmps142
  go_wp2
  refine bodyPost_ret (v := .agg #[.int .i64 6, .int .i64 p, .int .i64 L, .int .u64 0, .int .u64 0, .slice A L cap]) (by simp [results, Tryz.results142, go_sem]) rfl ?_
  exact ⟨rfl, (Below.refl _ w).alloc (Nat.le_refl _) _⟩

set_option maxRecDepth 100000 in
set_option maxHeartbeats 400000 in
theorem outNext_any (d n : Nat) (a : Nat) (at_ : Int) (w : World) (hc : w.cell? ⟨a, 0, none⟩ = some (.int .i64 at_)) (h0 : -4611686018427387904 ≤ at_) (h1 : at_ ≤ 4611686018427387904) (hd : d ≤ 131072) :
    Calls Tryz.prog 154 #[.int .i64 d, .int .i64 n, .pointer (some ⟨a, 0, none⟩)] w (MadeAcc 5 (at_ + d) n [] w) := by
  have hlt := lt_of_cell hc
  go_enter Tryz.func154, Tryz.ntmps154
  go_wp2
  refine bodyPost_ret (v := .agg #[.int .i64 5, .int .i64 (at_ + d), .int .i64 n, .int .u64 0, .int .u64 0, .slice none 0 0]) (by simp [results, Tryz.results154, go_sem]) rfl ?_
  exact ⟨_, _, _, rfl, World.ownsRow_nil _ _ _ _, (Below.refl _ w).alloc (Nat.le_refl _) _⟩

/-- A place for an access, in block b: it is there, and may be written. -/
structure AccNew (b : Nat) (W : World) : Prop where
  c0 : W.cell? ⟨b, 0, none⟩ = some (.int .i64 0)
  c1 : W.cell? ⟨b, 1, none⟩ = some (.int .i64 0)
  c2 : W.cell? ⟨b, 2, none⟩ = some (.int .i64 0)
  c3 : W.cell? ⟨b, 3, none⟩ = some (.int .u64 0)
  c4 : W.cell? ⟨b, 4, none⟩ = some (.int .u64 0)
  c5 : W.cell? ⟨b, 5, none⟩ = some (.slice none 0 0)
  f0 : W.frozen? ⟨b, 0, none⟩ = false
  f1 : W.frozen? ⟨b, 1, none⟩ = false
  f2 : W.frozen? ⟨b, 2, none⟩ = false
  f3 : W.frozen? ⟨b, 3, none⟩ = false
  f4 : W.frozen? ⟨b, 4, none⟩ = false
  f5 : W.frozen? ⟨b, 5, none⟩ = false
  blk : W.heap[b]? = some (.cells #[.int .i64 0, .int .i64 0, .int .i64 0, .int .u64 0, .int .u64 0, .slice none 0 0] 30 (0, 0))
theorem AccNew.of_blk {b : Nat} {W : World} (h : W.heap[b]? = some (.cells #[.int .i64 0, .int .i64 0, .int .i64 0, .int .u64 0, .int .u64 0, .slice none 0 0] 30 (0, 0))) : AccNew b W := by
  refine ⟨?_, ?_, ?_, ?_, ?_, ?_, ?_, ?_, ?_, ?_, ?_, ?_, h⟩
  all_goals first | simp [World.cell?, h] | simp [World.frozen?, h]
theorem AccNew.later {b : Nat} {W W' : World} (h : AccNew b W) (hb : Below W.heap.size W W') : AccNew b W' := by
  have hlt : b < W.heap.size := (Array.getElem?_eq_some_iff.1 h.blk).1
  exact .of_blk ((hb.block b hlt).trans h.blk)
theorem AccNew.made (w : World) : AccNew w.heap.size (w.alloc (.cells #[.int .i64 0, .int .i64 0, .int .i64 0, .int .u64 0, .int .u64 0, .slice none 0 0] 30)) := .of_blk (Go.Deep.blk_alloc_new _ _)
theorem AccNew.alloc {b : Nat} {W : World} (h : AccNew b W) (o : Obj) : AccNew b (W.alloc o) := h.later ((Below.refl _ _).alloc (Nat.le_refl _) _)

theorem Owns.setCell {base : Nat} {w : World} {v : Value} {xs : List Int} (h : Owns base w v xs) {p : Addr} (hp : p.block < base) (u : Value) : Owns base (w.setCell p u) v xs := by
  obtain ⟨h1, h2⟩ := h
  refine ⟨h1, ?_⟩
  rcases h2 with h2 | ⟨g, cap, cur, hv, hg, hh, r⟩
  · exact .inl h2
  · exact .inr ⟨g, cap, cur, hv, hg, (Below.heap_setCell w p u g (by omega)).trans hh, r⟩

theorem Owns.of_block {base : Nat} {w w' : World} {v : Value} {xs : List Int} (h : Owns base w v xs) (hb : ∀ k, v.ownBlock = some k → w'.heap[k]? = w.heap[k]?) : Owns base w' v xs := by
  obtain ⟨h1, h2⟩ := h
  refine ⟨h1, ?_⟩
  rcases h2 with h2 | ⟨g, cap, cur, hv, hg, hh, r⟩
  · exact .inl h2
  · exact .inr ⟨g, cap, cur, hv, hg, (hb g (by rw [hv]; rfl)).trans hh, r⟩

theorem Owns.ge {base : Nat} {w : World} {v : Value} {xs : List Int} (h : Owns base w v xs) {k : Nat} (hk : v.ownBlock = some k) : base ≤ k ∧ k < w.heap.size := World.ownsRow.lt h k hk

theorem Owns.keepTouch {S : Nat → Prop} {base : Nat} {w w' : World} {v : Value} {xs : List Int} (h : Owns base w v xs) (ht : Touch S w w') (hn : ∀ k, v.ownBlock = some k → ¬ S k) : Owns base w' v xs :=
  h.of_block fun k hk => ht.block k (h.ge hk).2 (hn k hk)

/-- An access is stored in its place: the world behind it. -/
def six (w : World) (b : Nat) (u0 u1 u2 u3 u4 u5 : Value) : World :=
  (((((w.setCell ⟨b, 0, none⟩ u0).setCell ⟨b, 1, none⟩ u1).setCell ⟨b, 2, none⟩ u2).setCell ⟨b, 3, none⟩ u3).setCell ⟨b, 4, none⟩ u4).setCell ⟨b, 5, none⟩ u5

theorem six_own {base b : Nat} {w : World} {v : Value} {xs : List Int} (h : Owns base w v xs) (hb : b < base) (u0 u1 u2 u3 u4 u5 : Value) : Owns base (six w b u0 u1 u2 u3 u4 u5) v xs :=
  (((((h.setCell (p := ⟨b, 0, none⟩) hb u0).setCell (p := ⟨b, 1, none⟩) hb u1).setCell (p := ⟨b, 2, none⟩) hb u2).setCell (p := ⟨b, 3, none⟩) hb u3).setCell (p := ⟨b, 4, none⟩) hb u4).setCell (p := ⟨b, 5, none⟩) hb u5

theorem six_below {B b : Nat} {w W : World} (h : Below B w W) (hb : B ≤ b) (u0 u1 u2 u3 u4 u5 : Value) : Below B w (six W b u0 u1 u2 u3 u4 u5) :=
  (((((h.setCell (p := ⟨b, 0, none⟩) hb u0).setCell (p := ⟨b, 1, none⟩) hb u1).setCell (p := ⟨b, 2, none⟩) hb u2).setCell (p := ⟨b, 3, none⟩) hb u3).setCell (p := ⟨b, 4, none⟩) hb u4).setCell (p := ⟨b, 5, none⟩) hb u5

theorem zeros_len (n : Nat) : (Mb.bl (fun _ => 0) 0 n).length = n := Mb.bl_length _ _ _

/-- Bytes that are 0, in new memory. -/
theorem zeros_made (w : World) (n : Nat) (hn : n ≤ 1073741824) : Owns w.heap.size (w.alloc (.cells (madeCells #[.int .u8 0] n) 5)) (.slice (some ⟨w.heap.size, 0, none⟩) n n) (Mb.bl (fun _ => 0) 0 n) := by
  have e : (Mb.bl (fun _ => 0) 0 n).map (Value.int .u8) = (madeCells #[.int .u8 0] n).toList := by
    apply List.ext_getElem
    · simp [Mb.bl, size_madeCells]
    · intro i h1 h2
      simp [Mb.bl, madeCells, Nat.mod_one]
  unfold Owns
  rw [zeros_len]
  refine ⟨by simp [Mb.bl_length], .inr ⟨w.heap.size, n, _, rfl, Nat.le_refl _, Go.Deep.blk_alloc_new _ _, Nat.le_refl _, by unfold maxLen; omega, ?_, ?_⟩⟩
  · simp [size_madeCells]
  · rw [e, Nat.mul_one, List.take_of_length_le (by simp [size_madeCells])]

theorem make_bytes (n : Nat) (hn : n ≤ 1073741824) (W : World) :
    (Instr.makeSlice 23 (.int .i64 (n : Int)) (.int .i64 (n : Int))).run Tryz.prog W = .ok (.slice (some ⟨W.heap.size, 0, none⟩) n n) (W.alloc (.cells (madeCells #[.int .u8 0] n) 5)) := by
  obtain ⟨i, hi, hz, hs, hby⟩ := info_parts infoU8
  have hr := run_make (P := Tryz.prog) W 23 5 i (.int .u8 0) Tryz.underlying23 hi hz .i64 .i64 (n : Int) (n : Int) (by omega) (Int.le_refl _) (by rw [hby]; omega) (by omega)
  rw [hs] at hr
  simpa [Value.cells] using hr

set_option maxRecDepth 100000 in
set_option maxHeartbeats 400000 in
theorem zeroNext_any (d n : Nat) (a : Nat) (at_ : Int) (w : World) (hc : w.cell? ⟨a, 0, none⟩ = some (.int .i64 at_)) (h0 : -4611686018427387904 ≤ at_) (h1 : at_ ≤ 4611686018427387904) (hd : d ≤ 131072) (hn : n ≤ 131072) :
    Calls Tryz.prog 141 #[.int .i64 d, .int .i64 n, .pointer (some ⟨a, 0, none⟩)] w (MadeAcc 6 (at_ + d) n (Mb.bl (fun _ => 0) 0 n) w) := by
  have hlt := lt_of_cell hc
  have hmk := make_bytes n (by omega)
  have hw1 : IntKind.i64.wrap (at_ + (d : Int)) = at_ + d := IntWalk.i64_in _ (by omega)
  have HA := AccNew.made w
  have hnew : w.heap.size ≠ a := by omega
  have hz := zeros_made (w.alloc (.cells #[.int .i64 0, .int .i64 0, .int .i64 0, .int .u64 0, .int .u64 0, .slice none 0 0] 30)) n (by omega)
  have HZ := Lib.hid hz
  have HW := (Below.refl w.heap.size w).alloc (Nat.le_refl _) (.cells #[.int .i64 0, .int .i64 0, .int .i64 0, .int .u64 0, .int .u64 0, .slice none 0 0] 30)
  have hc1 : (w.alloc (.cells #[.int .i64 0, .int .i64 0, .int .i64 0, .int .u64 0, .int .u64 0, .slice none 0 0] 30)).cell? ⟨a, 0, none⟩ = some (.int .i64 at_) := (HW.cell (p := ⟨a, 0, none⟩) hlt).trans hc
  clear hz
  go_enter Tryz.func141, Tryz.ntmps141
  go_wp2
  generalize w.alloc (.cells #[.int .i64 0, .int .i64 0, .int .i64 0, .int .u64 0, .int .u64 0, .slice none 0 0] 30) = W at hc1 HA HZ HW ⊢
  have hltW := lt_of_cell hc1
  go_region_held3 (fun w' => w'.cell? ⟨a, 0, none⟩ = some (.int .i64 at_)) (go_keep) (first | (go_at_call 142; refine (writeAcc_any _ _ _ _ _).mono ?_; rintro e w1 ⟨rfl, hb1⟩; have hkc : w1.cell? ⟨a, 0, none⟩ = some (.int .i64 at_) := (hb1.cell (p := ⟨a, 0, none⟩) (by simp; omega)).trans (by go_keep); have HA1 := HA.later (((Below.refl _ W).drew.alloc (Nat.le_refl _) _).trans (hb1.mono (by simp))); obtain ⟨a0, a1, a2, a3, a4, a5, f0, f1, f2, f3, f4, f5, _⟩ := HA1))
  go_wp2
  refine bodyPost_ret (v := .agg #[.int .i64 6, .int .i64 (at_ + d), .int .i64 n, .int .u64 0, .int .u64 0, .slice (some ⟨W.heap.size, 0, none⟩) n n]) (by simp [results, Tryz.results141, go_sem, a0, a1, a2, a3, a4, a5]) rfl ?_
  refine ⟨_, _, _, rfl, (six_own (base := W.heap.size) ?_ (by have := HA.blk; exact (Array.getElem?_eq_some_iff.1 this).1) _ _ _ _ _ _).down HW.size, six_below ((HW.trans ?_)) (Nat.le_refl _) _ _ _ _ _ _⟩
  · exact HZ.out.drew.below hb1
  · exact ((Below.refl _ W).drew.alloc HW.size _).trans (hb1.mono (by have := HW.size; simp; omega))

theorem cut_bl (f : Nat → Nat) (d n L : Nat) (h : d + n ≤ L) : ((Mb.bl f 0 L).drop d).take n = Mb.bl f d n := by
  have e : L = d + (n + (L - d - n)) := by omega
  rw [e, Mb.bl_append, Mb.bl_append, List.drop_left' (Mb.bl_length _ _ _), List.take_left' (by rw [Mb.bl_length]), Nat.zero_add]

set_option maxRecDepth 100000 in
set_option maxHeartbeats 400000 in
theorem inNext_any (d n L cap : Nat) (a b g : Nat) (f : Nat → Nat) (at_ : Int) (w : World) (hc : w.cell? ⟨a, 0, none⟩ = some (.int .i64 at_)) (hk : w.cell? ⟨b, 0, none⟩ = some (.slice (some ⟨g, 0, none⟩) L cap))
    (hB : BytesAt w (.slice (some ⟨g, 0, none⟩) L cap) (Mb.bl f 0 L)) (h0 : -4611686018427387904 ≤ at_) (h1 : at_ ≤ 4611686018427387904) (hn : 0 < n) (hL : L ≤ 131072) (hdn : d + n ≤ L) (hcap : L ≤ cap) (hm : cap ≤ maxLen) :
    Calls Tryz.prog 161 #[.int .i64 d, .int .i64 n, .pointer (some ⟨a, 0, none⟩), .pointer (some ⟨b, 0, none⟩)] w (MadeAcc 6 (at_ + d) n (Mb.bl f d n) w) := by
  have hlt := lt_of_cell hc
  have hltb := lt_of_cell hk
  have hm2 : cap ≤ 9223372036854775807 := by unfold maxLen at hm; omega
  have hw1 : IntKind.i64.wrap (at_ + (d : Int)) = at_ + d := IntWalk.i64_in _ (by omega)
  have hw2 : IntKind.i64.wrap ((d : Int) + (n : Int)) = d + n := IntWalk.i64_in _ (by omega)
  have hs1 : (0 : Int) ≤ d := by omega
  have hs2 : (d : Int) ≤ d + n := by omega
  have hs3 : (d : Int) + n ≤ cap := by omega
  have hs4 : ((d : Int) + (n : Int)).toNat - d = n := by omega
  have hs5 : cap ≠ d := by omega
  have HA := AccNew.made w
  have HW := (Below.refl w.heap.size w).alloc (Nat.le_refl _) (.cells #[.int .i64 0, .int .i64 0, .int .i64 0, .int .u64 0, .int .u64 0, .slice none 0 0] 30)
  have hc1 : (w.alloc (.cells #[.int .i64 0, .int .i64 0, .int .i64 0, .int .u64 0, .int .u64 0, .slice none 0 0] 30)).cell? ⟨a, 0, none⟩ = some (.int .i64 at_) := (HW.cell (p := ⟨a, 0, none⟩) hlt).trans hc
  have hk1 : (w.alloc (.cells #[.int .i64 0, .int .i64 0, .int .i64 0, .int .u64 0, .int .u64 0, .slice none 0 0] 30)).cell? ⟨b, 0, none⟩ = some (.slice (some ⟨g, 0, none⟩) L cap) := (HW.cell (p := ⟨b, 0, none⟩) hltb).trans hk
  have hnew : w.heap.size ≠ a := by omega
  have hnew2 : w.heap.size ≠ b := by omega
  have HB := Lib.hid (hB.below HW)
  clear hB
  go_enter Tryz.func161, Tryz.ntmps161
  go_wp2
  generalize w.alloc (.cells #[.int .i64 0, .int .i64 0, .int .i64 0, .int .u64 0, .int .u64 0, .slice none 0 0] 30) = W at hc1 hk1 HA HB HW ⊢
  have hltW := lt_of_cell hc1
  have hltbW := lt_of_cell hk1
  go_region_held3 (fun w' => w'.cell? ⟨a, 0, none⟩ = some (.int .i64 at_) ∧ w'.cell? ⟨b, 0, none⟩ = some (.slice (some ⟨g, 0, none⟩) L cap)) (go_keep)
    (first
      | (go_at_call 46; refine (clone_sl _ _ _ (Mb.bl f d n) _ ?_ ?_).mono ?_; (have := HB.out.cut d n (cap - d) (by rw [Mb.bl_length]; omega); rw [Nat.zero_add, cut_bl f d n L hdn] at this; exact this.drew); omega; rintro e w1 ⟨A5, c5, rfl, ho1, hb1⟩; have hkc1 : w1.cell? ⟨a, 0, none⟩ = some (.int .i64 at_) := (hb1.cell (p := ⟨a, 0, none⟩) (by simp; omega)).trans (by go_keep); have hkb1 : w1.cell? ⟨b, 0, none⟩ = some (.slice (some ⟨g, 0, none⟩) L cap) := (hb1.cell (p := ⟨b, 0, none⟩) (by simp; omega)).trans (by go_keep))
      | (go_at_call 142; refine (writeAcc_any _ _ _ _ _).mono ?_; rintro e w2 ⟨rfl, hb2⟩; have hkc2 : w2.cell? ⟨a, 0, none⟩ = some (.int .i64 at_) := (hb2.cell (p := ⟨a, 0, none⟩) (by have := hb1.size; simp at this; simp; omega)).trans (by go_keep); have hkb2 : w2.cell? ⟨b, 0, none⟩ = some (.slice (some ⟨g, 0, none⟩) L cap) := (hb2.cell (p := ⟨b, 0, none⟩) (by have := hb1.size; simp at this; simp; omega)).trans (by go_keep); have HA1 := HA.later ((below_drew hb1).trans (hb2.mono (below_drew hb1).size)); obtain ⟨a0, a1, a2, a3, a4, a5, f0, f1, f2, f3, f4, f5, _⟩ := HA1))
  go_wp2
  refine bodyPost_ret (v := .agg #[.int .i64 6, .int .i64 (at_ + d), .int .i64 n, .int .u64 0, .int .u64 0, .slice A5 n c5]) (by simp [results, Tryz.results161, go_sem, a0, a1, a2, a3, a4, a5]) rfl ?_
  refine ⟨_, _, _, rfl, (six_own (base := W.heap.size) (ho1.below hb2) (by have := HA.blk; exact (Array.getElem?_eq_some_iff.1 this).1) _ _ _ _ _ _).down HW.size, six_below ((HW.trans ?_)) (Nat.le_refl _) _ _ _ _ _ _⟩
  exact ((below_drew hb1).trans (hb2.mono (below_drew hb1).size)).mono HW.size
end Go.Proofs.YtikcnioooihncaaGreat
namespace Go.Proofs.YtikcnioooihncaaGreat
open Go.RowKit

/-- What a copy does: it writes the bytes f at a place, or zeros, or it reads. -/
inductive Kd where
  | wr (at_ : Int) (f : Nat → Nat)
  | ze (at_ : Int)
  | rd (at_ : Int)

namespace Kd
def place : Kd → Int
  | .wr a _ => a
  | .ze a => a
  | .rd a => a
/-- The access' kind. -/
def kind : Kd → Int
  | .wr _ _ => 6
  | .ze _ => 6
  | .rd _ => 5
/-- The bytes that it writes. -/
def bytes : Kd → Nat → Nat → List Int
  | .wr _ f, d, c => Mb.bl f d c
  | .ze _, d, c => Mb.bl (fun _ => 0) d c
  | .rd _, _, _ => []
/-- Does it read? -/
def reads : Kd → Bool
  | .wr _ _ => false
  | .ze _ => false
  | .rd _ => true
end Kd

/-- The blocks of a machine that are written once. -/
def Fixed (base top g k : Nat) : Prop := base ≤ k ∧ k < top ∧ k ≠ g

/-- The closures of a machine that is to copy n bytes. -/
def Body (w : World) (base top g n : Nat) : Kd → Value → Value → Prop
  | .wr at_ f, nx, th => ∃ a b gk cap, nx = .func (.func 161) #[] #[.pointer (some ⟨a, 0, none⟩), .pointer (some ⟨b, 0, none⟩)] ∧ th = .func (.func 153) #[] #[] ∧
      Fixed base top g a ∧ Fixed base top g b ∧ Fixed base top g gk ∧ w.cell? ⟨a, 0, none⟩ = some (.int .i64 at_) ∧ w.cell? ⟨b, 0, none⟩ = some (.slice (some ⟨gk, 0, none⟩) n cap) ∧
      BytesAt w (.slice (some ⟨gk, 0, none⟩) n cap) (Mb.bl f 0 n) ∧ n ≤ cap ∧ cap ≤ maxLen
  | .ze at_, nx, th => ∃ a, nx = .func (.func 141) #[] #[.pointer (some ⟨a, 0, none⟩)] ∧ th = .func (.func 153) #[] #[] ∧ Fixed base top g a ∧ w.cell? ⟨a, 0, none⟩ = some (.int .i64 at_)
  | .rd at_, nx, th => ∃ a b, nx = .func (.func 154) #[] #[.pointer (some ⟨a, 0, none⟩)] ∧ th = .func (.func 155) #[] #[.pointer (some ⟨b, 0, none⟩)] ∧ Fixed base top g a ∧ Fixed base top g b ∧ w.cell? ⟨a, 0, none⟩ = some (.int .i64 at_) ∧ w.cell? ⟨b, 0, none⟩ = some (.pointer (some ⟨g, 0, none⟩))

theorem BytesAt.of_block {w w' : World} {g o n cap : Nat} {xs : List Int} (h : BytesAt w (.slice (some ⟨g, o, none⟩) n cap) xs) (hs : w.heap.size ≤ w'.heap.size) (hb : w'.heap[g]? = w.heap[g]?) : BytesAt w' (.slice (some ⟨g, o, none⟩) n cap) xs := by
  obtain ⟨A, c, hv, h⟩ := h
  refine ⟨A, c, hv, fun hp => ?_⟩
  obtain ⟨b, off, e, h3, h4⟩ := h hp
  injection hv with e1 _ _
  rw [← e1] at e
  injection e with e
  injection e with e5 e6
  subst e5 e6
  rw [← e1]
  exact ⟨g, o, rfl, by omega, fun i hi => (World.cell?_of_block (w := w) (a := ⟨g, o + i, none⟩) hb).trans (h4 i hi)⟩

theorem Body.keep {w w' : World} {base top g n : Nat} {kd : Kd} {nx th : Value} (h : Body w base top g n kd nx th) (hs : w.heap.size ≤ w'.heap.size) (hb : ∀ k, Fixed base top g k → w'.heap[k]? = w.heap[k]?) : Body w' base top g n kd nx th := by
  have hc : ∀ k o, Fixed base top g k → w'.cell? ⟨k, o, none⟩ = w.cell? ⟨k, o, none⟩ := fun k o hk => World.cell?_of_block (w := w) (a := ⟨k, o, none⟩) (hb k hk)
  cases kd with
  | wr at_ f =>
    obtain ⟨a, b, gk, cap, e1, e2, ka, kb, kg, h1, h2, h3, h4, h5⟩ := h
    exact ⟨a, b, gk, cap, e1, e2, ka, kb, kg, (hc a 0 ka).trans h1, (hc b 0 kb).trans h2, h3.of_block hs (hb gk kg), h4, h5⟩
  | ze at_ =>
    obtain ⟨a, e1, e2, ka, h1⟩ := h
    exact ⟨a, e1, e2, ka, (hc a 0 ka).trans h1⟩
  | rd at_ =>
    obtain ⟨a, b, e1, e2, ka, kb, h1, h2⟩ := h
    exact ⟨a, b, e1, e2, ka, kb, (hc a 0 ka).trans h1, (hc b 0 kb).trans h2⟩

/-- A machine stands at block g; its other blocks lie from base on, below top; d bytes are copied, r are left; it read the bytes ys, which lie above. -/
structure Cp (w : World) (base top g : Nat) (kd : Kd) (d r : Nat) (v : Value) (ys : List Int) : Prop where
  above : base ≤ g
  under : g < top
  there : top ≤ w.heap.size
  few : d + r ≤ 131072
  near : -4611686018427387904 ≤ kd.place ∧ kd.place ≤ 4611686018427387904
  head : ∃ cv nx th, w.heap[g]? = some (.cells #[cv, .int .i64 d, nx, th, v] 200 (0, 0)) ∧ Parts (Fixed base top g) w cv (Cy.cks r) ∧ (0 < d + r → Body w base top g (d + r) kd nx th)
  own : Owns top w v ys

namespace Cp
variable {w w' : World} {base top g d r : Nat} {kd : Kd} {v : Value} {ys : List Int}
theorem keep (h : Cp w base top g kd d r v ys) (hs : w.heap.size ≤ w'.heap.size) (hb : ∀ k, base ≤ k → k < top → w'.heap[k]? = w.heap[k]?) (ho : ∀ k, v.ownBlock = some k → w'.heap[k]? = w.heap[k]?) : Cp w' base top g kd d r v ys := by
  obtain ⟨cv, nx, th, h1, h2, h3⟩ := h.head
  exact ⟨h.above, h.under, Nat.le_trans h.there hs, h.few, h.near, ⟨cv, nx, th, (hb g h.above h.under).trans h1, h2.of_blocks hs fun k hk => hb k hk.1 hk.2.1, fun hn => (h3 hn).keep hs fun k hk => hb k hk.1 hk.2.1⟩, h.own.of_block ho⟩
theorem touch {S : Nat → Prop} (h : Cp w base top g kd d r v ys) (ht : Touch S w w') (hb : ∀ k, base ≤ k → k < top → ¬ S k) (ho : ∀ k, v.ownBlock = some k → ¬ S k) : Cp w' base top g kd d r v ys :=
  h.keep ht.size (fun k h1 h2 => ht.block k (Nat.lt_of_lt_of_le h2 h.there) (hb k h1 h2)) fun k hk => ht.block k (h.own.ge hk).2 (ho k hk)
theorem below (h : Cp w base top g kd d r v ys) (hb : Below w.heap.size w w') : Cp w' base top g kd d r v ys := h.touch (S := fun _ => False) (Touch.of_below hb) (fun _ _ _ => id) fun _ _ => id
theorem lt (h : Cp w base top g kd d r v ys) : g < w.heap.size := Nat.lt_of_lt_of_le h.under h.there
theorem alloc (h : Cp w base top g kd d r v ys) (o : Obj) : Cp (w.alloc o) base top g kd d r v ys := h.below ((Below.refl _ _).alloc (Nat.le_refl _) _)
theorem drew (h : Cp w base top g kd d r v ys) : Cp w.drew base top g kd d r v ys := h.below (Below.refl _ _).drew
end Cp

/-- A machine told its next access: it is of that kind, with those bytes in new memory. -/
def NextIs (kd : Kd) (d c : Nat) (w : World) (e : Ending) (w' : World) : Prop :=
  ∃ A l cp, e = .returned (.tuple #[.agg #[.int .i64 kd.kind, .int .i64 (kd.place + d), .int .i64 c, .int .u64 0, .int .u64 0, .slice A l cp], .bool true]) ∧ Owns w.heap.size w' (.slice A l cp) (kd.bytes d c) ∧ Below w.heap.size w w'

/-- .. or it is at its end. -/
def NextNo (w : World) (e : Ending) (w' : World) : Prop :=
  e = .returned (.tuple #[.agg #[.int .i64 0, .int .i64 0, .int .i64 0, .int .u64 0, .int .u64 0, .slice none 0 0], .bool false]) ∧ Below w.heap.size w w'

set_option maxRecDepth 100000 in
set_option maxHeartbeats 400000 in
theorem stepsNext_no {w : World} {base top g d : Nat} {kd : Kd} {v : Value} {ys : List Int} (h : Cp w base top g kd d 0 v ys) :
    Calls Tryz.prog 182 #[.pointer (some ⟨g, 0, none⟩)] w (NextNo w) := by
  obtain ⟨cv, nx, th, h1, ⟨A, cap, rfl, _, _, _⟩, _⟩ := h.head
  have hlt := h.lt
  have hc : w.cell? ⟨g, 0, none⟩ = some (.slice A 0 cap) := by simp [World.cell?, h1, Cy.cks_zero]
  clear h h1
  go_enter Tryz.func182, Tryz.ntmps182
  go_wp2
  refine bodyPost_ret (v := .tuple #[.agg #[.int .i64 0, .int .i64 0, .int .i64 0, .int .u64 0, .int .u64 0, .slice none 0 0], .bool false]) (by simp [results, Tryz.results182, go_sem]) rfl ?_
  exact ⟨rfl, (Below.refl _ w).alloc (Nat.le_refl _) _⟩
end Go.Proofs.YtikcnioooihncaaGreat
namespace Go.Proofs.YtikcnioooihncaaGreat
open Go.RowKit

theorem chunks_parts (n : Int) (w : World) : Calls Tryz.prog 152 #[.int .i64 n] w (MadeParts (Cy.cks (Cy.few n)) w) := by
  refine (chunks_any n w).mono ?_
  rintro e w' ⟨v, rfl, ho, hb⟩
  rw [Cy.ckOf_few] at ho
  exact ⟨v, rfl, (Parts.of_own ho), hb⟩

/-- A machine that writes was made at block g: its parts lie below it. -/
def MadeMach (fn : Value) (n : Nat) (w : World) (e : Ending) (w' : World) : Prop :=
  ∃ g cv, e = .returned (.pointer (some ⟨g, 0, none⟩)) ∧ w'.heap[g]? = some (.cells #[cv, .int .i64 0, fn, .func (.func 153) #[] #[], .slice none 0 0] 200 (0, 0)) ∧
    w.heap.size ≤ g ∧ g + 1 = w'.heap.size ∧ Parts (fun k => w.heap.size ≤ k ∧ k < g) w' cv (Cy.cks n) ∧ Below w.heap.size w w'

set_option maxRecDepth 100000 in
set_option maxHeartbeats 400000 in
theorem writing_any (n : Int) (k : FuncId) (caps : Array Value) (w : World) :
    Calls Tryz.prog 140 #[.int .i64 n, .func (.func k) #[] caps] w (MadeMach (.func (.func k) #[] caps) (Cy.few n) w) := by
  go_enter Tryz.func140, Tryz.ntmps140
  go_wp2_with (go_at_call 152; refine (chunks_parts n _).mono ?_; rintro e w1 ⟨v1, rfl, ⟨A1, c1, rfl, h1, h2, h3⟩, hb1⟩)
  go_ret
  refine ⟨w1.heap.size, .slice A1 (Cy.cks (Cy.few n)).length c1, rfl, Go.Deep.blk_alloc_new _ _, hb1.size, by simp, ?_, hb1.alloc hb1.size _⟩
  refine Parts.of_blocks (w := w1) ⟨A1, c1, rfl, h1, h2, fun hp => ?_⟩ (by simp) fun k hk => Below.heap_alloc _ _ _ hk.2
  obtain ⟨b, off, e, hK, h4⟩ := h3 hp
  exact ⟨b, off, e, hK, h4⟩

/-- A machine was made: it copied nothing so far, n bytes are left. -/
def MadeCp (kd : Kd) (n : Nat) (w : World) (e : Ending) (w' : World) : Prop :=
  ∃ g, e = .returned (.pointer (some ⟨g, 0, none⟩)) ∧ Cp w' w.heap.size w'.heap.size g kd 0 n (.slice none 0 0) [] ∧ Below w.heap.size w w'

theorem cp_made {kd : Kd} {w w1 w2 : World} {n g : Nat} {cv nx th : Value} (hnear : -4611686018427387904 ≤ kd.place ∧ kd.place ≤ 4611686018427387904) (hn : n ≤ 131072) (HW : Below w.heap.size w w1) (hbl : Below w1.heap.size w1 w2)
    (hg : w2.heap[g]? = some (.cells #[cv, .int .i64 0, nx, th, .slice none 0 0] 200 (0, 0))) (h1 : w1.heap.size ≤ g) (h2 : g + 1 = w2.heap.size) (hp : Parts (fun k => w1.heap.size ≤ k ∧ k < g) w2 cv (Cy.cks n))
    (hb : 0 < n → Body w2 w.heap.size w2.heap.size g n kd nx th) : MadeCp kd n w (.returned (.pointer (some ⟨g, 0, none⟩))) w2 := by
  have hs := HW.size
  refine ⟨g, rfl, ⟨by omega, by omega, Nat.le_refl _, by omega, hnear, ⟨cv, nx, th, hg, hp.mono fun k hk => ⟨by omega, by omega, by omega⟩, fun hn => ?_⟩, World.ownsRow_nil _ _ _ _⟩, HW.trans (hbl.mono hs)⟩
  rw [Nat.zero_add] at hn ⊢
  exact hb hn

set_option maxRecDepth 100000 in
set_option maxHeartbeats 400000 in
theorem zero_any (at_ n : Int) (w : World) (hnear : -4611686018427387904 ≤ at_ ∧ at_ ≤ 4611686018427387904) :
    Calls Tryz.prog 119 #[.int .i64 at_, .int .i64 n] w (MadeCp (.ze at_) (Cy.few n) w) := by
  have hmf : ∀ (fn : Fn) (first cap : Array Value) (w : World), (Instr.makeFunc fn first cap).run Tryz.prog w = .ok (.func fn first cap) w := fun _ _ _ _ => rfl
  have HW := (Below.refl w.heap.size w).alloc (Nat.le_refl _) (.cells #[.int .i64 at_] 3)
  have HX := Go.Deep.blk_alloc_new w (.cells #[.int .i64 at_] 3)
  have HN := Lib.hid hnear
  clear hnear
  go_enter Tryz.func119, Tryz.ntmps119
  go_wp2_with fail
  generalize w.alloc (.cells #[.int .i64 at_] 3) = W at HW HX ⊢
  have HXX := Lib.hid HX
  have hxl := (Array.getElem?_eq_some_iff.1 HX).1
  clear HX
  refine (writing_any n 141 #[.pointer (some ⟨w.heap.size, 0, none⟩)] W).mono ?_
  rintro e w1 ⟨g, cv, rfl, hg, h1, h2, hp, hb⟩
  have HH := Lib.hid (And.intro hg hp)
  clear hg hp
  go_wp2
  go_ret
  refine cp_made HN.out (Cy.few_le n) HW hb HH.out.1 h1 h2 HH.out.2 fun _ => ⟨w.heap.size, rfl, rfl, ⟨Nat.le_refl _, by omega, by omega⟩, ?_⟩
  have := (hb.block w.heap.size hxl).trans HXX.out
  simp [World.cell?, this]

set_option maxRecDepth 100000 in
set_option maxHeartbeats 400000 in
theorem in_any (at_ : Int) (A : Option Addr) (L cap : Nat) (f : Nat → Nat) (w : World) (hnear : -4611686018427387904 ≤ at_ ∧ at_ ≤ 4611686018427387904) (hB : BytesAt w (.slice A L cap) (Mb.bl f 0 L)) (hL : L ≤ 131072) :
    Calls Tryz.prog 157 #[.int .i64 at_, .slice A L cap] w (MadeCp (.wr at_ f) L w) := by
  have hmf : ∀ (fn : Fn) (first cap : Array Value) (w : World), (Instr.makeFunc fn first cap).run Tryz.prog w = .ok (.func fn first cap) w := fun _ _ _ _ => rfl
  have HW := (Below.refl w.heap.size w).alloc (Nat.le_refl _) (.cells #[.int .i64 at_] 3)
  have HX := Go.Deep.blk_alloc_new w (.cells #[.int .i64 at_] 3)
  have HB := Lib.hid (hB.below HW)
  have HN := Lib.hid hnear
  clear hnear hB
  go_enter Tryz.func157, Tryz.ntmps157
  go_wp2_with fail
  generalize w.alloc (.cells #[.int .i64 at_] 3) = W at HW HX HB ⊢
  have HXX := Lib.hid HX
  have hxl := (Array.getElem?_eq_some_iff.1 HX).1
  clear HX
  refine (clone_sl A L cap _ W HB.out (by omega)).mono ?_
  rintro e w1 ⟨A1, c1, rfl, ho1, hb1⟩
  have HO1 := Lib.hid ho1
  clear ho1
  have HK := Go.Deep.blk_alloc_new w1 (.cells #[.slice A1 L c1] 23)
  have HW2 := HW.trans ((hb1.alloc hb1.size (.cells #[.slice A1 L c1] 23)).mono HW.size)
  go_wp2_with fail
  refine (writing_any L 161 #[.pointer (some ⟨w.heap.size, 0, none⟩), .pointer (some ⟨w1.heap.size, 0, none⟩)] _).mono ?_
  rintro e w2 ⟨g, cv, rfl, hg, h1, h2, hp, hb⟩
  have HH := Lib.hid (And.intro hg hp)
  clear hg hp
  go_wp2
  go_ret
  have hbW1 : Below w1.heap.size w1 w2 := ((Below.refl _ w1).alloc (Nat.le_refl _) _).after hb
  have hs1 := hb1.size
  have hs2 : w1.heap.size + 1 ≤ g := by simpa using h1
  rw [Cy.few_nat hL] at HH
  refine cp_made HN.out hL HW2 hb HH.out.1 h1 h2 HH.out.2 fun hpos => ?_
  obtain ⟨gk, kc, hv, hk1, hk2, hk3, hk4, _⟩ := HO1.out.form (by rw [Mb.bl_length]; exact hpos)
  rw [Mb.bl_length] at hv hk1
  injection hv with e1 _ e3
  subst e1 e3
  have hbt := HO1.out.bytes.below hbW1
  refine ⟨w.heap.size, w1.heap.size, gk, c1, rfl, rfl, ⟨Nat.le_refl _, by omega, by omega⟩, ⟨by omega, by omega, by omega⟩, ⟨by omega, by omega, by omega⟩, ?_, ?_, hbt, hk1, hk2⟩
  · have := ((hbW1.block w.heap.size (by omega)).trans (hb1.block w.heap.size hxl)).trans HXX.out
    simp [World.cell?, this]
  · have := (hb.block w1.heap.size (by simp)).trans HK
    simp [World.cell?, this]

/-- An empty machine's cells, in block b. -/
structure CpNew (b : Nat) (W : World) : Prop where
  c0 : W.cell? ⟨b, 0, none⟩ = some (.slice none 0 0)
  c1 : W.cell? ⟨b, 1, none⟩ = some (.int .i64 0)
  c2 : W.cell? ⟨b, 2, none⟩ = some .nilFunc
  c3 : W.cell? ⟨b, 3, none⟩ = some .nilFunc
  f0 : W.frozen? ⟨b, 0, none⟩ = false
  f1 : W.frozen? ⟨b, 1, none⟩ = false
  f2 : W.frozen? ⟨b, 2, none⟩ = false
  f3 : W.frozen? ⟨b, 3, none⟩ = false
  blk : W.heap[b]? = some (.cells #[.slice none 0 0, .int .i64 0, .nilFunc, .nilFunc, .slice none 0 0] 200 (0, 0))
theorem CpNew.of_blk {b : Nat} {W : World} (h : W.heap[b]? = some (.cells #[.slice none 0 0, .int .i64 0, .nilFunc, .nilFunc, .slice none 0 0] 200 (0, 0))) : CpNew b W := by
  refine ⟨?_, ?_, ?_, ?_, ?_, ?_, ?_, ?_, h⟩
  all_goals first | simp [World.cell?, h] | simp [World.frozen?, h]

theorem out_made {at_ : Int} {w W w1 : World} {n : Nat} {cv : Value} (hnear : -4611686018427387904 ≤ at_ ∧ at_ ≤ 4611686018427387904) (hn : n ≤ 131072) (HW : Below w.heap.size w W) (hS : w.heap.size + 1 + 1 + 1 ≤ W.heap.size)
    (H0 : W.heap[w.heap.size]? = some (.cells #[.int .i64 at_] 3 (0, 0))) (H2 : W.heap[w.heap.size + 1 + 1]? = some (.cells #[.pointer (some ⟨w.heap.size + 1, 0, none⟩)] 179 (0, 0))) (hb : Below W.heap.size W w1)
    (HM : w1.heap[w.heap.size + 1]? = some (.cells #[.slice none 0 0, .int .i64 0, .nilFunc, .nilFunc, .slice none 0 0] 200 (0, 0))) (hp : Parts (fun k => W.heap.size ≤ k ∧ k < w1.heap.size) w1 cv (Cy.cks n)) :
    MadeCp (.rd at_) n w (.returned (.pointer (some ⟨w.heap.size + 1, 0, none⟩))) ((((w1.setCell ⟨w.heap.size + 1, 0, none⟩ cv).setCell ⟨w.heap.size + 1, 1, none⟩ (.int .i64 0)).setCell ⟨w.heap.size + 1, 2, none⟩ (.func (.func 154) #[] #[.pointer (some ⟨w.heap.size, 0, none⟩)])).setCell ⟨w.heap.size + 1, 3, none⟩ (.func (.func 155) #[] #[.pointer (some ⟨w.heap.size + 1 + 1, 0, none⟩)])) := by
  generalize hw2 : (((w1.setCell ⟨w.heap.size + 1, 0, none⟩ cv).setCell ⟨w.heap.size + 1, 1, none⟩ (.int .i64 0)).setCell ⟨w.heap.size + 1, 2, none⟩ (.func (.func 154) #[] #[.pointer (some ⟨w.heap.size, 0, none⟩)])).setCell ⟨w.heap.size + 1, 3, none⟩ (.func (.func 155) #[] #[.pointer (some ⟨w.heap.size + 1 + 1, 0, none⟩)]) = w2
  have hne : ∀ k, k ≠ w.heap.size + 1 → w2.heap[k]? = w1.heap[k]? := fun k hk => by
    subst hw2
    exact (Below.heap_setCell _ _ _ _ hk).trans ((Below.heap_setCell _ _ _ _ hk).trans ((Below.heap_setCell _ _ _ _ hk).trans (Below.heap_setCell _ _ _ _ hk)))
  have hsz : w2.heap.size = w1.heap.size := by subst hw2; simp [World.setCell]
  have hs1 := hb.size
  have hfr : Below w.heap.size w w2 := by
    subst hw2
    exact ((((HW.trans (hb.mono (by omega))).setCell (p := ⟨w.heap.size + 1, 0, none⟩) (Nat.le_succ _) _).setCell (p := ⟨w.heap.size + 1, 1, none⟩) (Nat.le_succ _) _).setCell (p := ⟨w.heap.size + 1, 2, none⟩) (Nat.le_succ _) _).setCell (p := ⟨w.heap.size + 1, 3, none⟩) (Nat.le_succ _) _
  have hhead : w2.heap[w.heap.size + 1]? = some (.cells #[cv, .int .i64 0, .func (.func 154) #[] #[.pointer (some ⟨w.heap.size, 0, none⟩)], .func (.func 155) #[] #[.pointer (some ⟨w.heap.size + 1 + 1, 0, none⟩)], .slice none 0 0] 200 (0, 0)) := by
    subst hw2
    simp [World.setCell, Array.getElem?_modify, HM]
  clear hw2
  refine ⟨w.heap.size + 1, rfl, ⟨by omega, by omega, Nat.le_refl _, by omega, hnear, ⟨cv, _, _, hhead, (hp.mono fun k hk => ⟨by omega, by omega, by omega⟩).of_blocks (Nat.le_of_eq hsz.symm) fun k hk => hne k hk.2.2, fun _ => ?_⟩, World.ownsRow_nil _ _ _ _⟩, hfr⟩
  refine ⟨w.heap.size, w.heap.size + 1 + 1, rfl, rfl, ⟨by omega, by omega, by omega⟩, ⟨by omega, by omega, by omega⟩, ?_, ?_⟩
  · have := ((hne w.heap.size (by omega)).trans (hb.block w.heap.size (by omega))).trans H0
    simp [World.cell?, this]
  · have := ((hne (w.heap.size + 1 + 1) (by omega)).trans (hb.block (w.heap.size + 1 + 1) (by omega))).trans H2
    simp [World.cell?, this]

set_option maxRecDepth 100000 in
set_option maxHeartbeats 400000 in
theorem out_any (at_ n : Int) (w : World) (hnear : -4611686018427387904 ≤ at_ ∧ at_ ≤ 4611686018427387904) :
    Calls Tryz.prog 144 #[.int .i64 at_, .int .i64 n] w (MadeCp (.rd at_) (Cy.few n) w) := by
  have hmf : ∀ (fn : Fn) (first cap : Array Value) (w : World), (Instr.makeFunc fn first cap).run Tryz.prog w = .ok (.func fn first cap) w := fun _ _ _ _ => rfl
  have HN := Lib.hid hnear
  clear hnear
  have HW := (((Below.refl w.heap.size w).alloc (Nat.le_refl _) (.cells #[.int .i64 at_] 3)).alloc (by simp) (.cells #[.slice none 0 0, .int .i64 0, .nilFunc, .nilFunc, .slice none 0 0] 200)).alloc (by simp; omega) (.cells #[.pointer (some ⟨w.heap.size + 1, 0, none⟩)] 179)
  have hX0 := Go.Deep.blk_alloc_new w (.cells #[.int .i64 at_] 3)
  have hX1 := Go.Deep.blk_alloc_new (w.alloc (.cells #[.int .i64 at_] 3)) (.cells #[.slice none 0 0, .int .i64 0, .nilFunc, .nilFunc, .slice none 0 0] 200)
  have hX2 := Go.Deep.blk_alloc_new ((w.alloc (.cells #[.int .i64 at_] 3)).alloc (.cells #[.slice none 0 0, .int .i64 0, .nilFunc, .nilFunc, .slice none 0 0] 200)) (.cells #[.pointer (some ⟨w.heap.size + 1, 0, none⟩)] 179)
  have hX0' := (Below.heap_alloc _ (.cells #[.pointer (some ⟨w.heap.size + 1, 0, none⟩)] 179) w.heap.size (by simp; omega)).trans ((Below.heap_alloc (w.alloc (.cells #[.int .i64 at_] 3)) (.cells #[.slice none 0 0, .int .i64 0, .nilFunc, .nilFunc, .slice none 0 0] 200) w.heap.size (by simp)).trans hX0)
  have hX1' := (Below.heap_alloc _ (.cells #[.pointer (some ⟨w.heap.size + 1, 0, none⟩)] 179) _ (by simp)).trans hX1
  have e1 : (w.alloc (.cells #[.int .i64 at_] 3)).heap.size = w.heap.size + 1 := by simp
  have e2 : ((w.alloc (.cells #[.int .i64 at_] 3)).alloc (.cells #[.slice none 0 0, .int .i64 0, .nilFunc, .nilFunc, .slice none 0 0] 200)).heap.size = w.heap.size + 1 + 1 := by simp
  have e3 : (((w.alloc (.cells #[.int .i64 at_] 3)).alloc (.cells #[.slice none 0 0, .int .i64 0, .nilFunc, .nilFunc, .slice none 0 0] 200)).alloc (.cells #[.pointer (some ⟨w.heap.size + 1, 0, none⟩)] 179)).heap.size = w.heap.size + 1 + 1 + 1 := by simp
  rw [e1] at hX1'
  rw [e2] at hX2
  have hS := Nat.le_of_eq e3.symm
  clear hX0 hX1 e1 e2 e3
  go_enter Tryz.func144, Tryz.ntmps144
  go_wp2_with fail
  generalize ((w.alloc (.cells #[.int .i64 at_] 3)).alloc (.cells #[.slice none 0 0, .int .i64 0, .nilFunc, .nilFunc, .slice none 0 0] 200)).alloc (.cells #[.pointer (some ⟨w.heap.size + 1, 0, none⟩)] 179) = W at HW hX0' hX1' hX2 hS ⊢
  have hc : W.cell? ⟨w.heap.size + 1 + 1, 0, none⟩ = some (.pointer (some ⟨w.heap.size + 1, 0, none⟩)) := by simp [World.cell?, hX2]
  have H0 := Lib.hid hX0'
  have H1 := Lib.hid hX1'
  have H2 := Lib.hid hX2
  clear hX0' hX1' hX2
  go_region_held3 (fun w' => w'.cell? ⟨w.heap.size + 1 + 1, 0, none⟩ = some (.pointer (some ⟨w.heap.size + 1, 0, none⟩))) (go_keep)
    (first | (go_at_call 152; refine (chunks_parts n _).mono ?_; rintro e w1 ⟨v1, rfl, ⟨A1, c1, rfl, p1, p2, p3⟩, hb1⟩; have hb2 := below_drew hb1; have hk := (hb2.cell (p := ⟨w.heap.size + 1 + 1, 0, none⟩) (by simp; omega)).trans hc; have HM := CpNew.of_blk ((hb2.block (w.heap.size + 1) (by omega)).trans H1.out); obtain ⟨m0, m1, m2, m3, f0, f1, f2, f3, mb⟩ := HM; have HMB := Lib.hid mb; have HP3 := Lib.hid p3; clear p3 mb))
  all_goals
    go_wp2
    go_ret
    exact out_made HN.out (Cy.few_le n) HW hS H0.out H2.out hb2 HMB.out ⟨A1, c1, rfl, p1, p2, HP3.out⟩
end Go.Proofs.YtikcnioooihncaaGreat
namespace Go.Proofs.YtikcnioooihncaaGreat
open Go.RowKit

set_option maxHeartbeats 400000 in
theorem refBytes_no (v n : Int) (w : World) (h : n < 0 ∨ 8 < n) :
    Calls Tryz.prog 41 #[.int .u64 v, .int .i64 n] w fun e w' => e = .returned (.slice none 0 0) ∧ w = w' := by
  rcases h with h | h
  · go_enter Tryz.func41, Tryz.ntmps41
    go_wp2
    go_ret
    exact ⟨rfl, rfl⟩
  · have h' : 0 ≤ n := by omega
    go_enter Tryz.func41, Tryz.ntmps41
    go_wp2
    go_ret
    exact ⟨rfl, rfl⟩

theorem quo_u64 (x : Int) (h0 : 0 ≤ x) (h1 : x ≤ 18446744073709551615) : IntKind.u64.wrap (x.tdiv 256) = x / 256 := by
  rw [Int.tdiv_eq_ediv_of_nonneg h0, IntKind.wrap_u64]
  omega

theorem div_next (v : Int) (k : Nat) : v / 2 ^ (k * 8) / 256 = v / 2 ^ ((k + 1) * 8) := by
  have e : ((2 : Int) ^ ((k + 1) * 8)) = 2 ^ (k * 8) * 256 := by
    rw [Nat.add_mul, Int.pow_add]; rfl
  rw [e, Int.ediv_ediv_of_nonneg (Int.pow_nonneg (by decide))]

set_option maxRecDepth 100000 in
set_option maxHeartbeats 400000 in
theorem refBytes_own (v : Int) (n : Nat) (w : World) (hv : 0 ≤ v) (hv1 : v ≤ 18446744073709551615) (hn : n ≤ 8) :
    Calls Tryz.prog 41 #[.int .u64 v, .int .i64 n] w fun e w' => ∃ x, e = .returned x ∧ Owns w.heap.size w' x (Wd.bs v n) ∧ Below w.heap.size w w' := by
  obtain ⟨i0, hi, hz0, hz1, hz2⟩ := info_parts infoU8
  go_enter Tryz.func41, Tryz.ntmps41
  go_wp2
  go_loopw [0, 5, 6] (fun x r i wr => ∃ k : Nat, k ≤ n ∧ i = .int .i64 k ∧ x = .int .u64 (v / 2 ^ (k * 8)) ∧ Below w.heap.size w wr ∧ wr.ownsRow w.heap.size 5 1 r k ((Wd.bs v k).map (Value.int .u8))) (fun _ _ i _ => n - (intOf i).toNat)
  case atStart =>
    exact ⟨0, by omega, rfl, by simp, Below.refl _ _, World.ownsRow_nil _ _ _ _⟩
  case round =>
    obtain ⟨k, hk, rfl, rfl, hbel, hown⟩ := hrel
    by_cases hlt : k < n
    · have hpos : 0 ≤ v / 2 ^ (k * 8) := Int.ediv_nonneg hv (Int.pow_nonneg (by decide))
      have hsz := hbel.size
      go_wp2_with (at_builtin; refine wpList_append_own _ rfl _ _ 23 rfl w.heap.size 5 i0 (.int .u8 0) 1 1 Tryz.underlying23 hi hz0 hz1 hz2 rfl (by decide) _ _ _ rfl (hown.alloc _) ⟨wr.heap.size, 0, none⟩ 1 1 [.int .u8 (v / 2 ^ (k * 8) % 256)] rfl rfl ?c1 ?c2 ?c3 ?c4 ?c5 ?_)
      case c1 =>
        intro j u hj
        match j, hj with
        | 0, hj => simp at hj; subst hj; simp [Addr.add]
      case c2 => intro u hu; simp at hu; subst hu; rfl
      case c3 => unfold maxLen; omega
      case c4 => omega
      case c5 => simp; omega
      · intro v' w1 hown' hgrow _
        have hown2 : w1.ownsRow w.heap.size 5 1 v' (k + 1) ((Wd.bs v (k + 1)).map (Value.int .u8)) := by
          rw [bs_snoc, List.map_append]; exact hown'
        have hbel2 : Below w.heap.size w w1 := (hbel.alloc hsz _).grown hgrow (by simp; omega) (fun g hg => (hown.lt g hg).1)
        clear hown' hgrow hown hbel
        go_wp2
        go_roundw
        case rel => exact ⟨k + 1, by omega, by go_num, by rw [← div_next, quo_u64 _ hpos (by have := Int.ediv_le_self (2 ^ (k * 8)) hv; omega)], hbel2, hown2⟩
        case measure => simp [intOf]; omega
    · have hkn : k = n := by omega
      have HK := Lib.hid hkn
      clear hkn
      go_wp2
      go_ret
      have hkn := HK.out
      subst hkn
      exact ⟨_, rfl, by unfold Owns; rw [Wd.bs_length]; exact hown, hbel⟩

theorem refBytes_yes (v : Int) (n : Nat) (w : World) (hv : 0 ≤ v) (hv1 : v ≤ 18446744073709551615) (hn : n ≤ 8) :
    Calls Tryz.prog 41 #[.int .u64 v, .int .i64 n] w (MadeBytes (Wd.bs v n) w) :=
  (refBytes_own v n w hv hv1 hn).mono fun _ _ ⟨x, he, hx, hb⟩ => ⟨x, he, hx.bytes, hb⟩

end Go.Proofs.YtikcnioooihncaaGreat
namespace Go.Proofs.YtikcnioooihncaaGreat
open Go.RowKit

set_option maxHeartbeats 400000 in
theorem refNumber_short (b off cap : Nat) (xs : List Int) (w : World) (h8 : Wd.Bytes8 xs) (hm : xs.length ≤ 8)
    (hc : ∀ i, i < xs.length → w.cell? ⟨b, off + i, none⟩ = some (.int .u8 (xs.getD i 0))) :
    Calls Tryz.prog 40 #[.slice (some ⟨b, off, none⟩) xs.length cap] w fun e w' => e = .returned (.int .u64 (Wd.num (xs.take 8))) ∧ w = w' := by
  go_enter Tryz.func40, Tryz.ntmps40
  go_wp2
  go_loop [3, 4] (fun v i => ∃ k : Nat, k ≤ xs.length ∧ i = .int .i64 ((k : Int) - 1) ∧ v = .int .u64 (Wd.num ((xs.take 8).drop k))) (fun _ i => (intOf i + 1).toNat)
  case atStart =>
    have hl : (xs.take 8).length = xs.length := by rw [List.length_take]; omega
    exact ⟨xs.length, by omega, by first | rfl | (congr 1; omega), by rw [List.drop_of_length_le (by omega)]; rfl⟩
  case round =>
    obtain ⟨k, hk, rfl, rfl⟩ := hrel
    by_cases hlt : 0 < k
    · obtain ⟨j, rfl⟩ : ∃ j, k = j + 1 := ⟨k - 1, by omega⟩
      have hl : (xs.take 8).length = xs.length := by rw [List.length_take]; omega
      have hcell := hc j (by omega)
      obtain ⟨hb0, hb1⟩ := h8.at_ (show j < xs.length by omega)
      have hg : (xs.take 8).getD j 0 = xs.getD j 0 := by simp [List.getD, show j < 8 by omega]
      have hstep := Wd.drop_num (xs.take 8) j (by omega)
      rw [hg] at hstep
      have hn := Wd.num_small _ (Wd.drop_bytes (Wd.take_bytes h8 8) j) (by rw [List.length_drop]; omega)
      have hn0 := (Wd.num_bounds _ (Wd.drop_bytes (Wd.take_bytes h8 8) (j + 1))).1
      have H2 := Lib.hid hstep
      have HN := Lib.hid hn
      have H5 := Lib.hid h8
      have H6 := Lib.hid hc
      have hxl : j < xs.length := by omega
      have e0 : ((j + 1 : Nat) : Int) - 1 = j := by omega
      rw [e0]
      clear hl hg hstep h8 hc hn e0
      go_wp2
      go_round
      case rel =>
        refine ⟨j, by omega, by go_num, ?_⟩
        rw [H2.out]
        have e1 : xs.getD j 0 = xs[j] := by simp [List.getD, hxl]
        have hn2 := HN.out
        rw [H2.out] at hn2
        rw [e1] at hn2 hb0 hb1 ⊢
        rw [Wd.wrap_next _ _ hn0 hb0 hb1 hn2]
      case measure => simp [intOf]
    · obtain rfl : k = 0 := by omega
      go_wp2
      go_ret
      exact ⟨rfl, rfl⟩

set_option maxHeartbeats 400000 in
theorem refNumber_long (b off cap : Nat) (xs : List Int) (w : World) (h8 : Wd.Bytes8 xs) (hm : 8 < xs.length)
    (hc : ∀ i, i < xs.length → w.cell? ⟨b, off + i, none⟩ = some (.int .u8 (xs.getD i 0))) :
    Calls Tryz.prog 40 #[.slice (some ⟨b, off, none⟩) xs.length cap] w fun e w' => e = .returned (.int .u64 (Wd.num (xs.take 8))) ∧ w = w' := by
  go_enter Tryz.func40, Tryz.ntmps40
  go_wp2
  go_loop [3, 4] (fun v i => ∃ k : Nat, k ≤ 8 ∧ i = .int .i64 ((k : Int) - 1) ∧ v = .int .u64 (Wd.num ((xs.take 8).drop k))) (fun _ i => (intOf i + 1).toNat)
  case atStart =>
    have hl : (xs.take 8).length = 8 := by rw [List.length_take]; omega
    exact ⟨8, by omega, by first | rfl | (congr 1; omega), by rw [List.drop_of_length_le (by omega)]; rfl⟩
  case round =>
    obtain ⟨k, hk, rfl, rfl⟩ := hrel
    by_cases hlt : 0 < k
    · obtain ⟨j, rfl⟩ : ∃ j, k = j + 1 := ⟨k - 1, by omega⟩
      have hl : (xs.take 8).length = 8 := by rw [List.length_take]; omega
      have hcell := hc j (by omega)
      obtain ⟨hb0, hb1⟩ := h8.at_ (show j < xs.length by omega)
      have hg : (xs.take 8).getD j 0 = xs.getD j 0 := by simp [List.getD, show j < 8 by omega]
      have hstep := Wd.drop_num (xs.take 8) j (by omega)
      rw [hg] at hstep
      have hn := Wd.num_small _ (Wd.drop_bytes (Wd.take_bytes h8 8) j) (by rw [List.length_drop]; omega)
      have hn0 := (Wd.num_bounds _ (Wd.drop_bytes (Wd.take_bytes h8 8) (j + 1))).1
      have H2 := Lib.hid hstep
      have HN := Lib.hid hn
      have H5 := Lib.hid h8
      have H6 := Lib.hid hc
      have hxl : j < xs.length := by omega
      have e0 : ((j + 1 : Nat) : Int) - 1 = j := by omega
      rw [e0]
      clear hl hg hstep h8 hc hn e0
      go_wp2
      go_round
      case rel =>
        refine ⟨j, by omega, by go_num, ?_⟩
        rw [H2.out]
        have e1 : xs.getD j 0 = xs[j] := by simp [List.getD, hxl]
        have hn2 := HN.out
        rw [H2.out] at hn2
        rw [e1] at hn2 hb0 hb1 ⊢
        rw [Wd.wrap_next _ _ hn0 hb0 hb1 hn2]
      case measure => simp [intOf]
    · obtain rfl : k = 0 := by omega
      go_wp2
      go_ret
      exact ⟨rfl, rfl⟩

set_option maxHeartbeats 400000 in
theorem refNumber_zero (A : Option Addr) (cap : Nat) (w : World) :
    Calls Tryz.prog 40 #[.slice A 0 cap] w fun e w' => e = .returned (.int .u64 0) ∧ w = w' := by
  go_enter Tryz.func40, Tryz.ntmps40
  go_wp2
  refine wp_loop_rounds 1 ?_
  rw [rounds_succ]
  go_wp2
  go_ret
  exact ⟨rfl, rfl⟩

/-- Number, over whatever slice that reads as bytes. -/
theorem refNumber_any (v : Value) (xs : List Int) (w : World) (h8 : Wd.Bytes8 xs) (h : BytesAt w v xs) :
    Calls Tryz.prog 40 #[v] w fun e w' => e = .returned (.int .u64 (Wd.num (xs.take 8))) ∧ w = w' := by
  obtain ⟨A, cap, rfl, h⟩ := h
  by_cases hp : 0 < xs.length
  · obtain ⟨b, off, rfl, _, hc⟩ := h hp
    by_cases hl : xs.length ≤ 8
    · exact refNumber_short b off cap xs w h8 hl hc
    · exact refNumber_long b off cap xs w h8 (by omega) hc
  · have hx : xs = [] := List.eq_nil_of_length_eq_zero (by omega)
    subst hx
    exact refNumber_zero A cap w

end Go.Proofs.YtikcnioooihncaaGreat
namespace Go.Proofs.YtikcnioooihncaaGreat
open Go.RowKit

set_option maxRecDepth 100000 in
set_option maxHeartbeats 1000000 in
theorem refCheck_ok (n : Nat) (K P N V U : Int) (A : Option Addr) (L cap : Nat) (w : World) (hK : K = 5 ∨ (K = 6 ∧ N = (L : Int))) (h0 : 0 ≤ N) (h1 : N ≤ 8) (h2 : 0 ≤ P) (hn : n ≤ 1000000) (h : P + N ≤ n) :
    Calls Tryz.prog 39 #[.int .i64 n, .agg #[.int .i64 K, .int .i64 P, .int .i64 N, .int .u64 V, .int .u64 U, .slice A L cap]] w fun e w' => e = .returned (.int .i64 0) ∧ Below w.heap.size w w' := by
  have hb := (Below.refl w.heap.size w).alloc (Nat.le_refl _) (.cells #[.int .i64 K, .int .i64 P, .int .i64 N, .int .u64 V, .int .u64 U, .slice A L cap] 30)
  have g1 : P ≤ n := by omega
  have g2 : N ≤ n - P := by omega
  have HB := Lib.hid hb
  clear h hb
  rcases hK with rfl | ⟨rfl, rfl⟩
  · go_enter Tryz.func39, Tryz.ntmps39
    go_wp2
    go_ret
    exact ⟨rfl, HB.out⟩
  · go_enter Tryz.func39, Tryz.ntmps39
    go_wp2
    go_ret
    exact ⟨rfl, HB.out⟩

set_option maxRecDepth 100000 in
set_option maxHeartbeats 1000000 in
theorem refCheck_no (n : Nat) (K P N V U : Int) (A : Option Addr) (L cap : Nat) (w : World) (hK : K = 5 ∨ (K = 6 ∧ N = (L : Int))) (h0 : 0 ≤ N) (h1 : N ≤ 8) (h2 : 0 ≤ P) (h : n < P + N) :
    Calls Tryz.prog 39 #[.int .i64 n, .agg #[.int .i64 K, .int .i64 P, .int .i64 N, .int .u64 V, .int .u64 U, .slice A L cap]] w fun e w' => e = .returned (.int .i64 2) ∧ Below w.heap.size w w' := by
  have hb := (Below.refl w.heap.size w).alloc (Nat.le_refl _) (.cells #[.int .i64 K, .int .i64 P, .int .i64 N, .int .u64 V, .int .u64 U, .slice A L cap] 30)
  have HB := Lib.hid hb
  clear hb
  by_cases g1 : P ≤ n
  · have g2 : n - P < N := by omega
    clear h
    rcases hK with rfl | ⟨rfl, rfl⟩
    · go_enter Tryz.func39, Tryz.ntmps39
      go_wp2
      go_ret
      exact ⟨rfl, HB.out⟩
    · go_enter Tryz.func39, Tryz.ntmps39
      go_wp2
      go_ret
      exact ⟨rfl, HB.out⟩
  · have g3 : n < P := by omega
    clear h g1
    rcases hK with rfl | ⟨rfl, rfl⟩
    · go_enter Tryz.func39, Tryz.ntmps39
      go_wp2
      go_ret
      exact ⟨rfl, HB.out⟩
    · go_enter Tryz.func39, Tryz.ntmps39
      go_wp2
      go_ret
      exact ⟨rfl, HB.out⟩
end Go.Proofs.YtikcnioooihncaaGreat
namespace Go.Proofs.YtikcnioooihncaaGreat
open Go.RowKit

set_option maxRecDepth 100000 in
theorem caught_idle (w : World) :
    CallsD Tryz.prog 137 #[] .returning w fun e u' w' => e = .returned (.tuple #[]) ∧ u' = .returning ∧ w' = w := by
  refine callsD_of_wpS Tryz.func137 rfl fun c₀ cs hu => ?_
  apply wpS_region
  cases c₀
  simp_all [wpOpsS, go_sem, recoverD, Tryz.ntmps137, bodyPostS, results, Tryz.results137]

set_option maxRecDepth 100000 in
theorem caught_any (k : FuncId) (caps : Array Value) (w : World) {Q : World → Prop} (hent : ∀ w, (callFunc k caps).run Tryz.prog w = .ok (.enter k caps) w)
    (h : Calls Tryz.prog k caps w fun e w' => e = .returned (.tuple #[]) ∧ Q w') :
    Calls Tryz.prog 113 #[.func (.func k) #[] caps] w fun e w' => e = .returned (.tuple #[]) ∧ Q w' := by
  have H := Lib.hid h
  have HE := Lib.hid hent
  clear h hent
  go_enter_defers Tryz.func113, Tryz.ntmps113
  go_wp2
  rw [HE.out w, Oper.upon_enter]
  refine H.out.mono ?_
  rintro e w1 ⟨rfl, hq⟩
  have HQ := Lib.hid hq
  clear hq
  go_wp2
  refine leaves_cons (f := 137) (args := #[]) (by simp) (by simp [go_sem]) ?_
  refine (caught_idle w1).mono ?_
  rintro e u' w2 ⟨rfl, rfl, rfl⟩
  exact ⟨_, results_none rfl _ _ _, rfl, HQ.out⟩
end Go.Proofs.YtikcnioooihncaaGreat
