/-
  Layer 2's Do once more: what was read lies in new memory.
  Layer 6's scheduler in memory: who owns which block; what turns, and what stays.
  Layer 6's small calls, walked: whether there is an actor, whether a pick may be, the clock, who is dead, who is at its end, silence.
  Layer 6's check of a pick, walked.
  Layer 6's ticks, walked: a machine is told the clock if it is one that is told; all that live are.
-/
import Derived.Test.YtikcnioooihncaaGreatP02
import Derived.Test.YtikcnioooihncaaGreatP04
import Derived.Test.YtikcnioooihncaaGreatP09
import Derived.Deep.QuietTactic
import Derived.BigQuiet
import Derived.Deep.RegionHeld3
import Derived.LoopTactic
import Derived.Stop.Asserts
namespace Go.Proofs.YtikcnioooihncaaGreat
open Go.RowKit

/-- A call that read bytes into new memory. -/
def MadeRead (xs : List Int) (w : World) (e : Ending) (w' : World) : Prop :=
  ∃ v, e = .returned v ∧ Owns w.heap.size w' v xs ∧ Below w.heap.size w w'

/-- An access answered; the bytes of the answer lie in new memory, if there are any. -/
def AnsweredIn (V : Nat) (D : Bool) (xs : List Int) (g h : Nat) (m : Nat → Nat) (n : Nat) (c : Int) (w : World) (e : Ending) (w' : World) : Prop :=
  ∃ s, e = .returned (.agg #[.int .u64 V, .bool D, s]) ∧ BytesIn (fun k => w.heap.size ≤ k) w' s xs ∧ Stored g h m n c w w'

/-- An access was done; the bytes of the answer lie in new memory. -/
def DidIn (V : Nat) (D : Bool) (xs : List Int) (g h : Nat) (m : Nat → Nat) (n : Nat) (c : Int) (w : World) (e : Ending) (w' : World) : Prop :=
  ∃ s, e = .returned (.tuple #[.agg #[.int .u64 V, .bool D, s], .int .i64 0]) ∧ BytesIn (fun k => w.heap.size ≤ k) w' s xs ∧ Stored g h m n c w w'

theorem BytesIn.answer' {K : Nat → Prop} {W : World} {v : Value} {xs : List Int} {b : Nat} (hv : BytesIn K W v xs) (ha : AnsAt b W) (x y z : Value) : BytesIn K (((W.setCell ⟨b, 0, Option.none⟩ x).setCell ⟨b, 1, Option.none⟩ y).setCell ⟨b, 2, Option.none⟩ z) v xs := by
  obtain ⟨A, cap, hv, h⟩ := hv
  refine ⟨A, cap, hv, fun hp => ?_⟩
  obtain ⟨d, off, h1, hK, h3, h4⟩ := h hp
  have hne : d ≠ b := by
    intro e
    subst e
    have h5 := h4 0 hp
    simp only [World.cell?, ha.blk] at h5
    match off, h5 with
    | 0, h5 => simp at h5
    | 1, h5 => simp at h5
    | 2, h5 => simp at h5
    | k + 3, h5 => simp at h5
  refine ⟨d, off, h1, hK, by simpa [World.setCell] using h3, fun i hi => ?_⟩
  rw [← h4 i hi]
  refine World.cell?_of_block ?_
  rw [Below.heap_setCell _ _ _ _ hne, Below.heap_setCell _ _ _ _ hne, Below.heap_setCell _ _ _ _ hne]

set_option maxHeartbeats 1000000 in
theorem read_own {w : World} {g h n : Nat} {m : Nat → Nat} {c : Int} (B : Buf w g h m n c) (a k : Nat) (hin : a + k ≤ 8 * n) :
    Calls Tryz.prog 43 #[.pointer (some ⟨g, 0, none⟩), .int .i64 a, .int .i64 k] w (MadeRead (Mb.bl m a k) w) := by
  obtain ⟨i0, hi, hz0, hz1, hz2⟩ := info_parts infoU8
  have hf := B.few
  have HB := Lib.hid B
  clear B
  go_enter Tryz.func43, Tryz.ntmps43
  go_wp2_with (refine wpList_make_own _ rfl _ _ 23 rfl w.heap.size 5 i0 (.int .u8 0) 1 Tryz.underlying23 hi hz0 hz1 .i64 .i64 _ k rfl rfl rfl (by rw [hz2]; omega) (by unfold maxLen; omega) (Nat.le_refl _) ?_; intro w0 hown0 hg0)
  have hbel0 : Below w.heap.size w w0 := (Below.refl _ w).grown hg0 (Nat.le_refl _) (fun g hg => by cases hg)
  clear hg0
  go_loopw [1, 2, 7] (fun t1 t2 r wr => ∃ p q : Nat, a ≤ p ∧ p + q = a + k ∧ t1 = .int .i64 p ∧ t2 = .int .i64 q ∧ Below w.heap.size w wr ∧ wr.ownsRow w.heap.size 5 1 r (p - a) ((Mb.bl m a (p - a)).map (Value.int .u8))) (fun _ t2 _ _ => (intOf t2).toNat)
  case atStart => exact ⟨a, k, by omega, rfl, rfl, rfl, hbel0, by rw [Nat.sub_self]; exact hown0⟩
  case round =>
    obtain ⟨p, q, hp, hpq, rfl, rfl, hbel, hown⟩ := hrel
    clear hown0 hbel0
    by_cases hlt : 0 < q
    · obtain ⟨j, hj⟩ : ∃ j, j = min q (8 - p % 8) := ⟨_, rfl⟩
      have hj1 : 1 ≤ j := by omega
      have hj2 : j ≤ q := by omega
      have hj3 : p % 8 + j ≤ 8 := by omega
      have hpb : p ≤ 131072 := by omega
      have hqb : q ≤ 131072 := by omega
      have hj4 : p / 8 < n := by omega
      have HJ := Lib.hid hj
      have HQ := Lib.hid hpq
      have hBr := HB.out.below hbel
      have HBr := Lib.hid hBr
      have HBel := Lib.hid hbel
      have HO := Lib.hid hown
      clear hj hpq hBr hbel hown
      go_wp2_with (first
        | (go_at_call 74; refine (inWord_at p q j _ (by omega) HJ.out).mono ?_; rintro e w' ⟨rfl, rfl⟩)
        | (go_at_call 69; refine (load_any HBr.out p j hj3 hj4).mono ?_; rintro e w1 ⟨rfl, nd, rfl⟩)
        | (go_at_call 75; refine (bytes_at HBr.out.bytes p j _ hj1 (by omega)).mono ?_; rintro e w2 ⟨sb, so, cp, rfl, hcs, hb2⟩; have hb3 : Below wr.heap.size wr w2 := (drewN_below wr nd).after hb2; clear hb2)
        | (at_builtin; refine wpList_append_own _ rfl (.tmp 16) (.tmp 22) 23 rfl w.heap.size 5 i0 (.int .u8 0) 1 1 Tryz.underlying23 hi hz0 hz1 hz2 rfl (by decide) _ _ _ rfl (ownsRow_below HO.out hb3) ⟨sb, so, none⟩ j cp ((Mb.bl m p j).map (Value.int .u8)) rfl (by simp [Mb.bl_length]) hcs (u8_one _) (by unfold maxLen; omega) (by omega) (Nat.le_trans HBel.out.size hb3.size) ?_; intro v' w3 hown' hgrow _; have hbel3 : Below w.heap.size w w3 := (HBel.out.trans (hb3.mono HBel.out.size)).grown hgrow (Nat.le_trans HBel.out.size hb3.size) (fun g hg => (HO.out.lt g hg).1); rw [Mb.bl_next m a p j hp, show p - a + j = p + j - a by omega] at hown'; have HO3 := Lib.hid hown'; have HB3 := Lib.hid hbel3; clear hown' hgrow hbel3))
      go_roundw
      case rel =>
        have hpq := HQ.out
        exact ⟨p + j, q - j, by omega, by omega, by go_num, by go_num, HB3.out, HO3.out⟩
      case measure => simp [intOf]; omega
    · have hq0 : q = 0 := by omega
      have HQ := Lib.hid (show p - a = k by omega)
      subst hq0
      have HBel := Lib.hid hbel
      have HO := Lib.hid hown
      clear hpq hbel hown
      go_wp2
      go_ret
      have hO := HO.out
      rw [HQ.out] at hO
      exact ⟨_, rfl, by unfold Owns; rw [Mb.bl_length]; exact hO, HBel.out⟩

set_option maxHeartbeats 1000000 in
theorem access_read_own {w : World} {g h n : Nat} {m : Nat → Nat} {c : Int} (B : Buf w g h m n c) (a k : Nat) (hin : a + k ≤ 8 * n) (v u : Int) (s : Value) :
    Calls Tryz.prog 38 #[.pointer (some ⟨g, 0, none⟩), .agg #[.int .i64 5, .int .i64 a, .int .i64 k, .int .u64 v, .int .u64 u, s]] w
      (AnsweredIn 0 false (Mb.bl m a k) g h m n c w) := by
  have hg := B.g_lt
  have hh := B.h_lt
  have HB := Lib.hid B
  clear B
  go_enter Tryz.func38, Tryz.ntmps38
  go_wp2_with (go_at_call 43; refine (read_own ((HB.out.alloc _).alloc _) a k hin).mono ?_; rintro e w1 ⟨x, rfl, hx0, hb⟩; obtain ⟨A, cp, rfl, hx⟩ := hx0.bytes; have HA := Lib.hid (ans_touch (Touch.of_below (S := Two g h) hb) hg hh); obtain ⟨a0, a1, a2, f0, f1, f2, fb⟩ := HA.out; have HBe := Lib.hid hb; have HX := Lib.hid hx0; clear hb hx hx0 fb)
  refine bodyPost_ret (v := .agg #[.int .u64 0, .bool false, .slice A (Mb.bl m a k).length cp]) ?_ rfl ?_
  · simp [results, Tryz.results38, go_sem, a0, a1, a2]
  · refine ⟨_, rfl, ((BytesIn.of_own HX.out).mono fun k hk _ => by simp at hk; omega).answer' HA.out _ _ _, ?_⟩
    have HST := Stored.mk_ (((HB.out.alloc _).alloc _).below HBe.out) ((boxes_touch (Two g h) w _ _).trans (Touch.of_below HBe.out))
    exact ((HST.setNew hg hh (Nat.le_succ _) _).setNew hg hh (Nat.le_succ _) _).setNew hg hh (Nat.le_succ _) _

theorem access_in {w : World} {g h n : Nat} {m : Nat → Nat} {c : Int} (B : Buf w g h m n c) (K : Int) (a k v u : Nat) {f : Nat → Nat} (hf : Mb.IsB f) (A : Option Addr) (L cap : Nat) (hcap : L ≤ cap) (hcap2 : cap ≤ 9223372036854775807)
    (hb : BytesAt w (.slice A L cap) (Mb.bl f 0 L)) (hv : v < 18446744073709551616) (ok : chk (8 * (n : Int)) K a k L = 0) :
    Calls Tryz.prog 38 #[.pointer (some ⟨g, 0, none⟩), .agg #[.int .i64 K, .int .i64 a, .int .i64 k, .int .u64 v, .int .u64 u, .slice A L cap]] w
      (AnsweredIn (Mb.ansV m K a k) (Mb.ansD m K a k v) (Mb.ansB m K a k) g h (Mb.aft m K a k v u f) n c w) := by
  by_cases h5 : K = 5
  · subst h5
    obtain ⟨_, _, h1, h2, _⟩ := chk_ok ok
    refine (access_read_own B a k (by omega) v u _).mono ?_
    rintro e w' ⟨s, rfl, ho, hs⟩
    exact ⟨s, rfl, ho, hs⟩
  · have e : Mb.ansB m K a k = [] := by unfold Mb.ansB; rw [if_neg h5]
    refine (access_any B K a k v u hf A L cap hcap hcap2 hb hv ok).mono ?_
    rintro e' w' ⟨s, rfl, ho, hs⟩
    rw [e] at ho ⊢
    exact ⟨s, rfl, BytesIn.empty ho _, hs⟩

set_option maxHeartbeats 1000000 in
theorem do_in {w : World} {g h n : Nat} {m : Nat → Nat} {c : Int} (B : Buf w g h m n c) (K : Int) (a k v u : Nat) {f : Nat → Nat} (hf : Mb.IsB f) (A : Option Addr) (L cap : Nat) (hcap : L ≤ cap) (hcap2 : cap ≤ 9223372036854775807)
    (hb : BytesAt w (.slice A L cap) (Mb.bl f 0 L)) (hv : v < 18446744073709551616) (ok : chk (8 * (n : Int)) K a k L = 0) :
    Calls Tryz.prog 15 #[.pointer (some ⟨g, 0, none⟩), .agg #[.int .i64 K, .int .i64 a, .int .i64 k, .int .u64 v, .int .u64 u, .slice A L cap]] w
      (DidIn (Mb.ansV m K a k) (Mb.ansD m K a k v) (Mb.ansB m K a k) g h (Mb.aft m K a k v u f) n (nxt c) w) := by
  have hg := B.g_lt
  have hh := B.h_lt
  have hfw := B.few
  have HB0 := (B.alloc (.cells #[.int .i64 K, .int .i64 a, .int .i64 k, .int .u64 v, .int .u64 u, .slice A L cap] 30)).alloc (.cells #[.int .u64 0, .bool false, .slice none 0 0] 25)
  have HC := acc_made w K a k v u (.slice A L cap) (.cells #[.int .u64 0, .bool false, .slice none 0 0] 25)
  have HA := ans_made w (.cells #[.int .i64 K, .int .i64 a, .int .i64 k, .int .u64 v, .int .u64 u, .slice A L cap] 30)
  have HW := ((Below.refl w.heap.size w).alloc (Nat.le_refl _) (.cells #[.int .i64 K, .int .i64 a, .int .i64 k, .int .u64 v, .int .u64 u, .slice A L cap] 30)).alloc (by simp) (.cells #[.int .u64 0, .bool false, .slice none 0 0] 25)
  have HV := hb.below HW
  have HQ := Lib.hid ok
  have HF := Lib.hid hf
  clear B ok hb hf
  go_enter Tryz.func15, Tryz.ntmps15
  go_wp2
  generalize (w.alloc (.cells #[.int .i64 K, .int .i64 (a : Int), .int .i64 (k : Int), .int .u64 (v : Int), .int .u64 (u : Int), .slice A L cap] 30)).alloc (.cells #[.int .u64 0, .bool false, .slice none 0 0] 25) = W at HC HA HB0 HW HV ⊢
  have HC2 := HC
  obtain ⟨c0, c1, c2, c3, c4, c5⟩ := HC2
  go_region_held3 (fun w' => w'.cell? ⟨w.heap.size, 0, none⟩ = some (.int .i64 K) ∧ w'.cell? ⟨w.heap.size, 1, none⟩ = some (.int .i64 a) ∧ w'.cell? ⟨w.heap.size, 2, none⟩ = some (.int .i64 k) ∧ w'.cell? ⟨w.heap.size, 3, none⟩ = some (.int .u64 v) ∧ w'.cell? ⟨w.heap.size, 4, none⟩ = some (.int .u64 u) ∧ w'.cell? ⟨w.heap.size, 5, none⟩ = some (.slice A L cap))
    (go_keep)
    (first
      | (go_at_call 36; refine (size_any HB0.drew).mono ?_; rintro e w' ⟨rfl, rfl⟩)
      | (go_at_call 35; refine (check_any _ K a k v u A L cap _ (by omega)).mono ?_; rintro e w1 ⟨rfl, hb1⟩; rw [HQ.out]; have hb2 := below_drew hb1; clear hb1; obtain ⟨k0, k1, k2, k3, k4, k5⟩ := HC.below hb2))
  have HB1 := HB0.below hb2
  have hn0 := HB1.count
  have hn1 := HB1.count_free
  have HB2 := HB1.setCount (nxt c)
  have HT2 := (Touch.refl (Two g h) w1).setCell (p := ⟨g, 1, none⟩) (.inl rfl) (.int .i64 (nxt c))
  have HC2 := (HC.below hb2).touch HT2 (by omega) (by omega)
  have HA2 := (HA.later hb2).touch HT2 (by omega) (by omega)
  have HV2 := (HV.below hb2).touch HB1 HT2
  have hszW := HW.size
  have hszb := hb2.size
  have HT1 := (Touch.of_below (S := Two g h) HW).trans ((Touch.of_below (S := Two g h) hb2).trans HT2)
  clear c0 c1 c2 c3 c4 c5 k0 k1 k2 k3 k4 k5 HB0 HC HA HV HW hb2 HB1
  go_wp2_with (first
    | (go_at_call 37; refine (addOne g 1 c _ hn0 hn1).mono ?_; rintro e w2 ⟨rfl, hw2⟩; rw [hw2] at HB2 HT2 HC2 HA2 HV2 HT1; clear hw2 hn0 hn1; obtain ⟨c0, c1, c2, c3, c4, c5⟩ := HC2)
    | (go_at_call 38; refine (access_in HB2 K a k v u HF.out A L cap hcap hcap2 HV2 hv HQ.out).mono ?_; rintro e w3 ⟨x, rfl, hx, hst⟩; obtain ⟨A3, cp3, rfl⟩ := hx.length; have HX := Lib.hid hx; have hsz2 := hst.2.size; have HA3 := HA2.touch hst.2 (by omega) (by omega); have HA4 := HA3; obtain ⟨a0, a1, a2, f0, f1, f2, _⟩ := HA4; have HST := Lib.hid (hst.from_ HT1); clear hx hst))
  refine bodyPost_ret (v := .tuple #[.agg #[.int .u64 (Mb.ansV m K a k : Nat), .bool (Mb.ansD m K a k v), .slice A3 (Mb.ansB m K a k).length cp3], .int .i64 0]) ?_ rfl ?_
  · simp [results, Tryz.results15, go_sem, a0, a1, a2]
  · refine ⟨_, rfl, (HX.out.mono fun k hk _ => ?_).answer' HA3 _ _ _, ?_⟩
    · have := HT1.size
      exact Nat.le_trans this hk
    · exact ((HST.out.setNew hg hh (Nat.le_succ _) _).setNew hg hh (Nat.le_succ _) _).setNew hg hh (Nat.le_succ _) _
end Go.Proofs.YtikcnioooihncaaGreat
namespace Go.Proofs.YtikcnioooihncaaGreat
open Go.RowKit

/-- Whose a block is: nobody's, the scheduler's own, its actors', its buffer's, a machine's, its trace's row's, its trace's bytes'. -/
inductive Pt where
  | no
  | wd
  | ac
  | bf
  | ma (i : Nat)
  | ro
  | tx

/-- An event, and where its bytes stand. -/
structure Tx where
  e : Ev
  s1 : Value
  s2 : Value

/-- Its cells. -/
def Tx.cells (t : Tx) : List Value := [.int .i64 t.e.pk.K, .int .i64 t.e.pk.A, .int .i64 t.e.pk.N, .int .i64 t.e.ac.K, .int .i64 t.e.ac.P, .int .i64 t.e.ac.N, .int .u64 t.e.ac.V, .int .u64 t.e.ac.U, t.s1, .int .u64 t.e.an.V, .bool t.e.an.D, t.s2]

/-- An event's bytes are few. -/
def Ev.Small (e : Ev) : Prop := e.ac.bs.length ≤ 1073741824 ∧ e.an.bs.length ≤ 1073741824

/-- A scheduler's state. -/
structure St where
  na : Nat
  ms : Nat → Mc
  dead : Nat → Bool
  m : Nat → Nat
  nw : Nat
  c : Int
  clock : Int
  tr : List Ev

/-- The cells of an actor's row. -/
def acCell (ax : Nat → Value) (dead : Nat → Bool) (j : Nat) : Value := if j % 2 = 0 then ax (j / 2) else .bool (dead (j / 2))

theorem acCell_even (ax : Nat → Value) (dead : Nat → Bool) (i : Nat) : acCell ax dead (i * 2) = ax i := by
  unfold acCell
  rw [if_pos (by omega)]
  congr 1
  omega
theorem acCell_odd (ax : Nat → Value) (dead : Nat → Bool) (i : Nat) : acCell ax dead (i * 2 + 1) = .bool (dead i) := by
  unfold acCell
  rw [if_neg (by omega)]
  congr 2
  omega

/-- A trace stands in memory. -/
structure TrAt (w : World) (o : Nat → Pt) (tv : Value) (ts : List Tx) : Prop where
  row : w.ownsRow 0 154 12 tv ts.length (ts.flatMap Tx.cells)
  txt : ∀ t ∈ ts, BytesIn (fun k => o k = .tx) w t.s1 t.e.ac.bs ∧ BytesIn (fun k => o k = .tx) w t.s2 t.e.an.bs
  own : ∀ k, tv.ownBlock = some k → o k = .ro

theorem ownsRow_keep {w w' : World} {base : Nat} {T : TypeId} {n k : Nat} {v : Value} {xs : List Value} (h : w.ownsRow base T n v k xs) (hb : ∀ q, v.ownBlock = some q → w'.heap[q]? = w.heap[q]?) : w'.ownsRow base T n v k xs := by
  obtain ⟨h1, h2⟩ := h
  refine ⟨h1, ?_⟩
  rcases h2 with h2 | ⟨g, cap, cur, hv, h3, h4, h5⟩
  · exact .inl h2
  · exact .inr ⟨g, cap, cur, hv, h3, (hb g (by rw [hv]; rfl)).trans h4, h5⟩

namespace TrAt
variable {w w' : World} {o o' : Nat → Pt} {tv : Value} {ts : List Tx}
theorem keep (h : TrAt w o tv ts) (hs : w.heap.size ≤ w'.heap.size) (hb : ∀ k, o k ≠ .no → w'.heap[k]? = w.heap[k]?) : TrAt w' o tv ts :=
  ⟨ownsRow_keep h.row fun q hq => hb q (by rw [h.own q hq]; simp), fun t ht => ⟨(h.txt t ht).1.keep hs fun k hk _ => hb k (by rw [hk]; simp), (h.txt t ht).2.keep hs fun k hk _ => hb k (by rw [hk]; simp)⟩, h.own⟩
theorem own_to (h : TrAt w o tv ts) (ho : ∀ k, k < w.heap.size → o' k = o k) : TrAt w o' tv ts :=
  ⟨h.row, fun t ht => ⟨(h.txt t ht).1.mono fun k hk hl => (ho k hl).trans hk, (h.txt t ht).2.mono fun k hk hl => (ho k hl).trans hk⟩, fun k hk => (ho k (World.ownsRow.lt h.row k hk).2).trans (h.own k hk)⟩
end TrAt

/-- A scheduler stands in memory: its own block gw, its actors' block ga, its buffer's blocks gb and hb; who owns what. -/
structure Sw (w : World) (o : Nat → Pt) (gw ga gb hb : Nat) (ax : Nat → Value) (tv : Value) (ts : List Tx) (st : St) : Prop where
  head : w.heap[gw]? = some (.cells #[.pointer (some ⟨gb, 0, none⟩), .slice (some ⟨ga, 0, none⟩) st.na st.na, .int .i64 st.clock, tv] 111 (0, 0))
  row : w.rowIs ga 115 (2 * st.na) (acCell ax st.dead)
  buf : Buf w gb hb st.m st.nw st.c
  mach : ∀ i, i < st.na → MRep w (fun k => o k = .ma i) (ax i) (st.ms i)
  tr : TrAt w o tv ts
  told : st.tr = ts.map Tx.e
  ogw : o gw = .wd
  oga : o ga = .ac
  ogb : o gb = .bf
  ohb : o hb = .bf
  lt : ∀ k, o k ≠ .no → k < w.heap.size
  few : st.na ≤ 1000
  small : ∀ e ∈ st.tr, e.Small

/-- The blocks of a scheduler. -/
def Own (o : Nat → Pt) (k : Nat) : Prop := o k ≠ .no

/-- New blocks of F become p's. -/
noncomputable def claimed (o : Nat → Pt) (n : Nat) (F : Nat → Prop) (p : Pt) : Nat → Pt := fun k => @ite _ (n ≤ k ∧ F k) (Classical.propDecidable _) p (o k)
theorem claimed_new {o : Nat → Pt} {n : Nat} {F : Nat → Prop} {p : Pt} {k : Nat} (h : n ≤ k) (hF : F k) : claimed o n F p k = p := @if_pos _ (Classical.propDecidable _) ⟨h, hF⟩ _ _ _
theorem claimed_not {o : Nat → Pt} {n : Nat} {F : Nat → Prop} {p : Pt} {k : Nat} (h : ¬ (n ≤ k ∧ F k)) : claimed o n F p k = o k := @if_neg _ (Classical.propDecidable _) h _ _ _
theorem claimed_old {o : Nat → Pt} {n : Nat} {F : Nat → Prop} {p : Pt} {k : Nat} (h : k < n) : claimed o n F p k = o k := claimed_not fun e => by omega

namespace Sw
variable {w w' : World} {o o' : Nat → Pt} {gw ga gb hb : Nat} {ax : Nat → Value} {tv : Value} {ts : List Tx} {st : St}
theorem keep (h : Sw w o gw ga gb hb ax tv ts st) (hs : w.heap.size ≤ w'.heap.size) (hk : ∀ k, o k ≠ .no → w'.heap[k]? = w.heap[k]?) : Sw w' o gw ga gb hb ax tv ts st :=
  ⟨(hk gw (by rw [h.ogw]; simp)).trans h.head, h.row.of_block (hk ga (by rw [h.oga]; simp)), h.buf.of_blocks (hk gb (by rw [h.ogb]; simp)) (hk hb (by rw [h.ohb]; simp)),
    fun i hi => (h.mach i hi).keep hs fun k hm => hk k (by rw [hm]; simp), h.tr.keep hs hk, h.told, h.ogw, h.oga, h.ogb, h.ohb, fun k hn => Nat.lt_of_lt_of_le (h.lt k hn) hs, h.few, h.small⟩
theorem below (h : Sw w o gw ga gb hb ax tv ts st) (hb' : Below w.heap.size w w') : Sw w' o gw ga gb hb ax tv ts st := h.keep hb'.size fun k hk => hb'.block k (h.lt k hk)
theorem touch {S : Nat → Prop} (h : Sw w o gw ga gb hb ax tv ts st) (ht : Touch S w w') (hn : ∀ k, o k ≠ .no → ¬ S k) : Sw w' o gw ga gb hb ax tv ts st := h.keep ht.size fun k hk => ht.block k (h.lt k hk) (hn k hk)
theorem alloc (h : Sw w o gw ga gb hb ax tv ts st) (q : Obj) : Sw (w.alloc q) o gw ga gb hb ax tv ts st := h.below ((Below.refl _ _).alloc (Nat.le_refl _) q)
theorem drew (h : Sw w o gw ga gb hb ax tv ts st) : Sw w.drew o gw ga gb hb ax tv ts st := h.below ((Below.refl _ _).drew)

theorem gw_lt (h : Sw w o gw ga gb hb ax tv ts st) : gw < w.heap.size := h.lt gw (by rw [h.ogw]; simp)
theorem ga_lt (h : Sw w o gw ga gb hb ax tv ts st) : ga < w.heap.size := h.lt ga (by rw [h.oga]; simp)
theorem ne_wa (h : Sw w o gw ga gb hb ax tv ts st) : gw ≠ ga := fun e => by have h1 := h.ogw; rw [e, h.oga] at h1; cases h1
theorem w0 (h : Sw w o gw ga gb hb ax tv ts st) : w.cell? ⟨gw, 0, none⟩ = some (.pointer (some ⟨gb, 0, none⟩)) := by simp [World.cell?, h.head]
theorem w1 (h : Sw w o gw ga gb hb ax tv ts st) : w.cell? ⟨gw, 1, none⟩ = some (.slice (some ⟨ga, 0, none⟩) st.na st.na) := by simp [World.cell?, h.head]
theorem w2 (h : Sw w o gw ga gb hb ax tv ts st) : w.cell? ⟨gw, 2, none⟩ = some (.int .i64 st.clock) := by simp [World.cell?, h.head]
theorem w3 (h : Sw w o gw ga gb hb ax tv ts st) : w.cell? ⟨gw, 3, none⟩ = some tv := by simp [World.cell?, h.head]
theorem wfree (h : Sw w o gw ga gb hb ax tv ts st) (i : Nat) : w.frozen? ⟨gw, i, none⟩ = false := by simp [World.frozen?, h.head]
theorem amach (h : Sw w o gw ga gb hb ax tv ts st) {i : Nat} (hi : i < st.na) : w.cell? ⟨ga, i * 2, none⟩ = some (ax i) := by
  rw [h.row.cell (by omega), acCell_even]
theorem adead (h : Sw w o gw ga gb hb ax tv ts st) {i : Nat} (hi : i < st.na) : w.cell? ⟨ga, i * 2 + 1, none⟩ = some (.bool (st.dead i)) := by
  rw [h.row.cell (by omega), acCell_odd]
theorem afree (h : Sw w o gw ga gb hb ax tv ts st) (i : Nat) : w.frozen? ⟨ga, i, none⟩ = false := h.row.frozen i

/-- Blocks that were not there may be anybody's. -/
theorem own_to (h : Sw w o gw ga gb hb ax tv ts st) (ho : ∀ k, k < w.heap.size → o' k = o k) (hl : ∀ k, o' k ≠ .no → k < w.heap.size) : Sw w o' gw ga gb hb ax tv ts st :=
  ⟨h.head, h.row, h.buf, fun i hi => (h.mach i hi).mono fun k hk => (ho k (h.lt k (by rw [hk]; simp))).trans hk, h.tr.own_to ho, h.told, (ho gw h.gw_lt).trans h.ogw, (ho ga h.ga_lt).trans h.oga, (ho gb h.buf.g_lt).trans h.ogb, (ho hb h.buf.h_lt).trans h.ohb, hl, h.few, h.small⟩

/-- An actor is killed. -/
theorem setDead (h : Sw w o gw ga gb hb ax tv ts st) {i : Nat} : Sw (w.setCell ⟨ga, i * 2 + 1, none⟩ (.bool true)) o gw ga gb hb ax tv ts { st with dead := upd st.dead i true } := by
  have hne : ∀ k, k ≠ ga → (w.setCell ⟨ga, i * 2 + 1, none⟩ (.bool true)).heap[k]? = w.heap[k]? := fun k hk => Below.heap_setCell _ _ _ _ hk
  have hpt : ∀ k, o k ≠ .ac → k ≠ ga := fun k hk e => hk (e ▸ h.oga)
  have hs : w.heap.size ≤ (w.setCell ⟨ga, i * 2 + 1, none⟩ (.bool true)).heap.size := by simp [World.setCell]
  refine ⟨(hne gw h.ne_wa).trans h.head, ?_, h.buf.of_blocks (hne gb (hpt gb (by rw [h.ogb]; simp))) (hne hb (hpt hb (by rw [h.ohb]; simp))), fun j hj => (h.mach j hj).keep hs fun k hk => hne k (hpt k (by rw [hk]; simp)),
    ⟨ownsRow_keep h.tr.row fun q hq => hne q (hpt q (by rw [h.tr.own q hq]; simp)), fun t ht => ⟨(h.tr.txt t ht).1.keep hs fun k hk _ => hne k (hpt k (by rw [hk]; simp)), (h.tr.txt t ht).2.keep hs fun k hk _ => hne k (hpt k (by rw [hk]; simp))⟩, h.tr.own⟩,
    h.told, h.ogw, h.oga, h.ogb, h.ohb, fun k hk => Nat.lt_of_lt_of_le (h.lt k hk) hs, h.few, h.small⟩
  refine (h.row.set (i * 2 + 1) (.bool true)).congr fun j hj => ?_
  show _ = acCell ax (upd st.dead i true) j
  unfold acCell
  by_cases e : j = i * 2 + 1
  · subst e
    rw [if_pos rfl, if_neg (by omega), show (i * 2 + 1) / 2 = i by omega, upd_same]
  · rw [if_neg e]
    by_cases e2 : j % 2 = 0
    · rw [if_pos e2, if_pos e2]
    · rw [if_neg e2, if_neg e2, upd_other _ _ _ (by omega)]

/-- The clock is another. -/
theorem setClock (h : Sw w o gw ga gb hb ax tv ts st) (x : Int) : Sw (w.setCell ⟨gw, 2, none⟩ (.int .i64 x)) o gw ga gb hb ax tv ts { st with clock := x } := by
  have hne : ∀ k, k ≠ gw → (w.setCell ⟨gw, 2, none⟩ (.int .i64 x)).heap[k]? = w.heap[k]? := fun k hk => Below.heap_setCell _ _ _ _ hk
  have hpt : ∀ k, o k ≠ .wd → k ≠ gw := fun k hk e => hk (e ▸ h.ogw)
  have hs : w.heap.size ≤ (w.setCell ⟨gw, 2, none⟩ (.int .i64 x)).heap.size := by simp [World.setCell]
  refine ⟨blkS h.head _, h.row.of_block (hne ga h.ne_wa.symm), h.buf.of_blocks (hne gb (hpt gb (by rw [h.ogb]; simp))) (hne hb (hpt hb (by rw [h.ohb]; simp))), fun j hj => (h.mach j hj).keep hs fun k hk => hne k (hpt k (by rw [hk]; simp)),
    ⟨ownsRow_keep h.tr.row fun q hq => hne q (hpt q (by rw [h.tr.own q hq]; simp)), fun t ht => ⟨(h.tr.txt t ht).1.keep hs fun k hk _ => hne k (hpt k (by rw [hk]; simp)), (h.tr.txt t ht).2.keep hs fun k hk _ => hne k (hpt k (by rw [hk]; simp))⟩, h.tr.own⟩,
    h.told, h.ogw, h.oga, h.ogb, h.ohb, fun k hk => Nat.lt_of_lt_of_le (h.lt k hk) hs, h.few, h.small⟩

/-- The buffer did an access. -/
theorem setBuf (h : Sw w o gw ga gb hb ax tv ts st) {m : Nat → Nat} {c : Int} (hst : Stored gb hb m st.nw c w w') : Sw w' o gw ga gb hb ax tv ts { st with m := m, c := c } := by
  have hpt : ∀ k, o k ≠ .bf → ¬ Two gb hb k := fun k hk e => by
    rcases e with e | e
    · exact hk (e ▸ h.ogb)
    · exact hk (e ▸ h.ohb)
  have hne : ∀ k, o k ≠ .bf → k < w.heap.size → w'.heap[k]? = w.heap[k]? := fun k hk hl => hst.2.block k hl (hpt k hk)
  have hn2 : ∀ k, o k ≠ .no → o k ≠ .bf → w'.heap[k]? = w.heap[k]? := fun k h1 h2 => hne k h2 (h.lt k h1)
  refine ⟨(hn2 gw (by rw [h.ogw]; simp) (by rw [h.ogw]; simp)).trans h.head, h.row.of_block (hn2 ga (by rw [h.oga]; simp) (by rw [h.oga]; simp)), hst.1, fun j hj => (h.mach j hj).keep hst.2.size fun k hk => hn2 k (by rw [hk]; simp) (by rw [hk]; simp),
    ⟨ownsRow_keep h.tr.row fun q hq => hn2 q (by rw [h.tr.own q hq]; simp) (by rw [h.tr.own q hq]; simp), fun t ht => ⟨(h.tr.txt t ht).1.keep hst.2.size fun k hk _ => hn2 k (by rw [hk]; simp) (by rw [hk]; simp), (h.tr.txt t ht).2.keep hst.2.size fun k hk _ => hn2 k (by rw [hk]; simp) (by rw [hk]; simp)⟩, h.tr.own⟩,
    h.told, h.ogw, h.oga, h.ogb, h.ohb, fun k hk => Nat.lt_of_lt_of_le (h.lt k hk) hst.2.size, h.few, h.small⟩

/-- A machine moved. -/
theorem setMach (h : Sw w o gw ga gb hb ax tv ts st) {i : Nat} (_hi : i < st.na) {s : Mc} (hm : Moved (fun k => o k = .ma i) (ax i) s w w') :
    ∃ o', Sw w' o' gw ga gb hb ax tv ts { st with ms := upd st.ms i s } ∧ Touch (Own o) w w' ∧ (∀ k, k < w.heap.size → o' k = o k) := by
  obtain ⟨F, hr, ht, hF⟩ := hm
  have hn2 : ∀ k, o k ≠ .no → o k ≠ .ma i → w'.heap[k]? = w.heap[k]? := fun k h1 h2 => ht.block k (h.lt k h1) h2
  refine ⟨claimed o w.heap.size F (.ma i), ⟨(hn2 gw (by rw [h.ogw]; simp) (by rw [h.ogw]; simp)).trans h.head, h.row.of_block (hn2 ga (by rw [h.oga]; simp) (by rw [h.oga]; simp)), h.buf.of_blocks (hn2 gb (by rw [h.ogb]; simp) (by rw [h.ogb]; simp)) (hn2 hb (by rw [h.ohb]; simp) (by rw [h.ohb]; simp)), fun j hj => ?_,
    ?_, h.told, ?_, ?_, ?_, ?_, fun k hk => ?_, h.few, h.small⟩, ht.mono fun k hk => by unfold Own; rw [hk]; simp, fun k hk => claimed_old hk⟩
  · by_cases e : j = i
    · subst e
      show MRep w' _ (ax j) (upd st.ms j s j)
      rw [upd_same]
      refine hr.mono fun k hk => ?_
      rcases hF k hk with e | ⟨e, _⟩
      · have := h.lt k (by rw [e]; simp)
        exact (claimed_old this).trans e
      · exact claimed_new e hk
    · show MRep w' _ (ax j) (upd st.ms i s j)
      rw [upd_other _ _ _ e]
      refine ((h.mach j hj).keep ht.size fun k hk => hn2 k (by rw [hk]; simp) (by rw [hk]; intro e2; injection e2 with e2; exact e e2)).mono fun k hk => ?_
      have := h.lt k (by rw [hk]; simp)
      exact (claimed_old this).trans hk
  · have h1 : TrAt w' o tv ts := ⟨ownsRow_keep h.tr.row fun q hq => hn2 q (by rw [h.tr.own q hq]; simp) (by rw [h.tr.own q hq]; simp), fun t ht2 => ⟨(h.tr.txt t ht2).1.keep ht.size fun k hk _ => hn2 k (by rw [hk]; simp) (by rw [hk]; simp), (h.tr.txt t ht2).2.keep ht.size fun k hk _ => hn2 k (by rw [hk]; simp) (by rw [hk]; simp)⟩, h.tr.own⟩
    have hlt : ∀ k, o k ≠ .no → ¬ (w.heap.size ≤ k ∧ F k) := fun k hk e => by have := h.lt k hk; omega
    exact ⟨h1.row, fun t ht2 => ⟨(h1.txt t ht2).1.mono fun k hk _ => (claimed_not (hlt k (by rw [hk]; simp))).trans hk, (h1.txt t ht2).2.mono fun k hk _ => (claimed_not (hlt k (by rw [hk]; simp))).trans hk⟩, fun k hk => (claimed_not (hlt k (by rw [h1.own k hk]; simp))).trans (h1.own k hk)⟩
  · exact (claimed_old h.gw_lt).trans h.ogw
  · exact (claimed_old h.ga_lt).trans h.oga
  · exact (claimed_old h.buf.g_lt).trans h.ogb
  · exact (claimed_old h.buf.h_lt).trans h.ohb
  · by_cases e : w.heap.size ≤ k ∧ F k
    · rcases hF k e.2 with e3 | e3
      · exact Nat.lt_of_lt_of_le (h.lt k (by rw [e3]; simp)) ht.size
      · exact e3.2
    · rw [claimed_not e] at hk
      exact Nat.lt_of_lt_of_le (h.lt k hk) ht.size
end Sw

/-- A scheduler stands in memory. -/
def SwX (w : World) (o : Nat → Pt) (gw gb hb : Nat) (st : St) : Prop := ∃ ga ax tv ts, Sw w o gw ga gb hb ax tv ts st

/-- What a call on a scheduler left: nothing but its own blocks was turned, and no block that was there changed hands. -/
def Went (o : Nat → Pt) (gw gb hb : Nat) (st : St) (w w' : World) (o' : Nat → Pt) : Prop :=
  SwX w' o' gw gb hb st ∧ Touch (Own o) w w' ∧ (∀ k, k < w.heap.size → o' k = o k)

theorem SwX.below {w w' : World} {o : Nat → Pt} {gw gb hb : Nat} {st : St} (h : SwX w o gw gb hb st) (hbl : Below w.heap.size w w') : SwX w' o gw gb hb st := by
  obtain ⟨ga, ax, tv, ts, h⟩ := h
  exact ⟨ga, ax, tv, ts, h.below hbl⟩
theorem SwX.touch {S : Nat → Prop} {w w' : World} {o : Nat → Pt} {gw gb hb : Nat} {st : St} (h : SwX w o gw gb hb st) (ht : Touch S w w') (hn : ∀ k, o k ≠ .no → ¬ S k) : SwX w' o gw gb hb st := by
  obtain ⟨ga, ax, tv, ts, h⟩ := h
  exact ⟨ga, ax, tv, ts, h.touch ht hn⟩
theorem SwX.lt {w : World} {o : Nat → Pt} {gw gb hb : Nat} {st : St} (h : SwX w o gw gb hb st) {k : Nat} (hk : o k ≠ .no) : k < w.heap.size := by
  obtain ⟨ga, ax, tv, ts, h⟩ := h
  exact h.lt k hk
end Go.Proofs.YtikcnioooihncaaGreat
namespace Go.Proofs.YtikcnioooihncaaGreat
open Go.RowKit

/-- Is there such an actor? -/
def hasB (na : Nat) (i : Int) : Bool := decide (0 ≤ i) && decide (i < (na : Int))
theorem hasB_yes {na : Nat} {i : Int} (h : hasB na i = true) : 0 ≤ i ∧ i < (na : Int) := by simpa [hasB] using h
theorem hasB_no {na : Nat} {i : Int} (h : hasB na i = false) : i < 0 ∨ (na : Int) ≤ i := by
  simp [hasB] at h
  omega


/-- Is there such an actor, and is it dead? -/
def St.deadB (st : St) (i : Int) : Bool := hasB st.na i && st.dead i.toNat

/-- Is there such an actor, and is it at its end? -/
def St.endB (st : St) (i : Int) : Bool := hasB st.na i && (st.ms i.toNat).next.isNone

end Go.Proofs.YtikcnioooihncaaGreat
namespace Go.Proofs.YtikcnioooihncaaGreat
open Go.RowKit

/-- The error of a pick, ahead of what its access may meet. -/
def St.chk (st : St) (p : Pk) : Int :=
  if p.K = 0 ∨ p.K = 1 then (if hasB st.na p.A = true then (if st.dead p.A.toNat = true then 11 else 0) else 2)
  else if p.K = 2 ∧ 0 ≤ p.N ∧ p.N ≤ 1099511627776 then 0 else 1

theorem cell_one {W : World} {b : Nat} {T : TypeId} {u0 u1 u2 : Value} (h : W.heap[b]? = some (.cells #[u0, u1, u2] T (0, 0))) : W.cell? ⟨b, 1, none⟩ = some u1 := by simp [World.cell?, h]

/-- What a step or a kill of an actor answers: it was killed, or not. -/
def deadErr (d : Bool) : Int := bif d then 11 else 0

end Go.Proofs.YtikcnioooihncaaGreat
namespace Go.Proofs.YtikcnioooihncaaGreat
open Go.RowKit

/-- The first i actors were told the clock c. -/
def St.ticks (st : St) (c : Int) (i : Nat) : St := { st with clock := c, ms := fun j => if j < i ∧ st.dead j = false then (st.ms j).tick c else st.ms j }

theorem St.ticks_zero (st : St) (c : Int) : { st with clock := c } = st.ticks c 0 := by
  unfold St.ticks
  congr 1

theorem St.ticks_dead (st : St) (c : Int) (i : Nat) (hd : st.dead i = true) : st.ticks c i = st.ticks c (i + 1) := by
  unfold St.ticks
  congr 1
  funext j
  by_cases e : j = i
  · subst e
    rw [if_neg (fun h => by omega), if_neg (fun h => by rw [hd] at h; cases h.2)]
  · by_cases h : j < i ∧ st.dead j = false
    · rw [if_pos h, if_pos ⟨by omega, h.2⟩]
    · rw [if_neg h, if_neg (fun h2 => h ⟨by omega, h2.2⟩)]

theorem St.ticks_next (st : St) (c : Int) (i : Nat) (hd : st.dead i = false) : { st.ticks c i with ms := upd (st.ticks c i).ms i (((st.ticks c i).ms i).tick c) } = st.ticks c (i + 1) := by
  have e : upd (st.ticks c i).ms i (((st.ticks c i).ms i).tick c) = (st.ticks c (i + 1)).ms := by
    funext j
    show upd (fun j => if j < i ∧ st.dead j = false then (st.ms j).tick c else st.ms j) i ((if i < i ∧ st.dead i = false then (st.ms i).tick c else st.ms i).tick c) j = if j < i + 1 ∧ st.dead j = false then (st.ms j).tick c else st.ms j
    by_cases e : j = i
    · subst e
      rw [upd_same, if_neg (fun h => by omega), if_pos ⟨by omega, hd⟩]
    · rw [upd_other _ _ _ e]
      by_cases h : j < i ∧ st.dead j = false
      · rw [if_pos h, if_pos ⟨by omega, h.2⟩]
      · rw [if_neg h, if_neg (fun h2 => h ⟨by omega, h2.2⟩)]
  rw [e]
  rfl

/-- What a call did, and what one behind it did. -/
theorem own_trans {o o1 o2 : Nat → Pt} {w w1 w2 : World} (ht : Touch (Own o) w w1) (ho : ∀ k, k < w.heap.size → o1 k = o k) (ht2 : Touch (Own o1) w1 w2) (ho2 : ∀ k, k < w1.heap.size → o2 k = o1 k) :
    Touch (Own o) w w2 ∧ ∀ k, k < w.heap.size → o2 k = o k :=
  ⟨⟨ht2.os.trans ht.os, ht2.tape.trans ht.tape, ht2.output.trans ht.output, Nat.le_trans ht.size ht2.size, fun k hk hn => (ht2.block k (Nat.lt_of_lt_of_le hk ht.size) (fun h => hn (by unfold Own at h ⊢; rw [ho k hk] at h; exact h))).trans (ht.block k hk hn)⟩,
    fun k hk => (ho2 k (Nat.lt_of_lt_of_le hk ht.size)).trans (ho k hk)⟩

theorem moved_cell {F : Nat → Prop} {x : Value} {s : Mc} {w w' : World} (h : Moved F x s w w') {p : Addr} (hp : p.block < w.heap.size) (hn : ¬ F p.block) : w'.cell? p = w.cell? p := by
  obtain ⟨_, _, ht, _⟩ := h
  exact ht.cell hp hn

theorem cell_box {W : World} {b : Nat} {T : TypeId} {u0 u1 : Value} (h : W.heap[b]? = some (.cells #[u0, u1] T (0, 0))) : W.cell? ⟨b, 0, none⟩ = some u0 := by simp [World.cell?, h]

end Go.Proofs.YtikcnioooihncaaGreat
