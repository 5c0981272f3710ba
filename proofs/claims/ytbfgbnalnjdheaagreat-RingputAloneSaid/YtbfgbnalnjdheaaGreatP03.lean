/-
  Layer 6's plain facts: accesses, answers, events; what an access does to a buffer's bytes; twelve cells of an event in a block; one copied, its bytes in new memory.
  Plain arithmetic for layer 1 (word): powers of two, what is left, the next multiple, as functions of integers; no statement of the program is proved here.
  Layer 1's IsPower, walked. Each contract says what a call returns; the world stays as it was.
  Layer 1's Mask, walked.
  What every law of this seat asks at its end: the call answered true, and nothing that was there before has turned: so each argument reads as it read.
  Arguments of layer 2's statements opened: an access by value, a list of bytes.
  The steps that machines are made of, and where a ring's numbers and places stand, walked: what is asked for next, what goes on from its answer.
  Layer 1's Align, walked. Each contract says what a call returns; the world stays as it was.
  Plain arithmetic for layer 3 (head): words joined of numbers, and what they tell; nothing of the program is walked here.
  Layer 3's functions that only reckon, walked: joined, halves, Record, Split, Flags, filled, RecordSize, FrameSize.
  Layer 7's put as a plain machine: its phases, the access of each, what an answer makes of it.
  Layer 7's small functions, walked: a put's block, is there room, the claim's access, what is asked for next.
-/
import Derived.Test.YtbfgbnalnjdheaaGreatP02
import Derived.RegionTactic
import Derived.ChangeAlike
import Derived.WalkKit
import Derived.Laws.Bits64b
import Derived.Laws.BitsAllLaws
import Derived.IntWalk
import Derived.Lib.TrailingZeros
import Derived.Test.YtbfgbnalnjdheaaGreatRows
import Derived.WalkSpells
import Derived.WalkLawsBesides
import Derived.Lib.Hide
import Derived.ProofKit
import Derived.LaidMore
import Derived.OpenShut
import Derived.Stop.Joined
import Derived.Lib.LaidTab
import Derived.Laws.BitsLemmas
import Derived.Laws.Bits64
import Derived.SevenTiedAt
import Derived.Test.YtbfgbnalnjdheaaGreatP01
import Derived.Deep.Fields
import Derived.Deep.CutRange
import Derived.Deep.QuietTactic
import Derived.Deep.RegionHeld3
import Derived.BigQuiet
import Derived.BigRegion
import Derived.Laws.EntriesVeiled
namespace Go.Proofs.YtbfgbnalnjdheaaGreat
open Go.RowKit

/-- An access: its numbers, its bytes. -/
structure Ac where
  K : Int
  P : Int
  N : Int
  V : Nat
  U : Nat
  bs : List Int
/-- No access. -/
def Ac.zero : Ac := ⟨0, 0, 0, 0, 0, []⟩
/-- An answer. -/
structure An where
  V : Nat
  D : Bool
  bs : List Int
/-- No answer. -/
def An.zero : An := ⟨0, false, []⟩
/-- A pick. -/
structure Pk where
  K : Int
  A : Int
  N : Int
/-- An event. -/
structure Ev where
  pk : Pk
  ac : Ac
  an : An
/-- No event. -/
def Ev.zero : Ev := ⟨⟨0, 0, 0⟩, Ac.zero, An.zero⟩
/-- An event without an access. -/
def Ev.bare (p : Pk) : Ev := ⟨p, Ac.zero, An.zero⟩

/-- Bytes as a function of their places. -/
def fnOf (bs : List Int) : Nat → Nat := fun i => (bs.getD i 0).toNat
/-- The numbers are bytes. -/
def Bys (bs : List Int) : Prop := ∀ x ∈ bs, 0 ≤ x ∧ x < 256

theorem fnOf_isB {bs : List Int} (h : Bys bs) : Mb.IsB (fnOf bs) := fun i => by
  unfold fnOf
  rcases Nat.lt_or_ge i bs.length with hi | hi
  · have hm := h (bs[i]) (List.getElem_mem hi)
    have e : bs.getD i 0 = bs[i] := by simp [List.getD, hi]
    rw [e]
    omega
  · have e : bs.getD i 0 = 0 := by simp [List.getD, hi]
    rw [e]; decide

theorem bl_fnOf {bs : List Int} (h : Bys bs) : Mb.bl (fnOf bs) 0 bs.length = bs := by
  apply List.ext_getElem
  · simp [Mb.bl]
  · intro i h1 h2
    have hm := h (bs[i]) (List.getElem_mem h2)
    have e : bs.getD i 0 = bs[i] := by simp [List.getD, h2]
    simp only [Mb.bl, List.getElem_map, List.getElem_range, Nat.zero_add, fnOf, e]
    omega

theorem Bys.nil : Bys [] := fun _ h => by cases h
theorem Bys.bl {m : Nat → Nat} (h : Mb.IsB m) (a n : Nat) : Bys (Mb.bl m a n) := fun x hx => by
  obtain ⟨i, _, rfl⟩ := List.mem_map.1 hx
  have := h (a + i)
  omega

namespace Ac
/-- The error of an access to a buffer of n words. -/
def err (a : Ac) (n : Nat) : Int := chk (8 * (n : Int)) a.K a.P a.N a.bs.length
/-- What it tells. -/
def ans (a : Ac) (m : Nat → Nat) : An := ⟨Mb.ansV m a.K a.P.toNat a.N.toNat, Mb.ansD m a.K a.P.toNat a.N.toNat a.V, Mb.ansB m a.K a.P.toNat a.N.toNat⟩
/-- The bytes behind it. -/
def aft (a : Ac) (m : Nat → Nat) : Nat → Nat := Mb.aft m a.K a.P.toNat a.N.toNat a.V a.U (fnOf a.bs)
/-- Its numbers are numbers, its bytes bytes. -/
structure Fine (a : Ac) : Prop where
  v : a.V < 18446744073709551616
  u : a.U < 18446744073709551616
  k0 : -9223372036854775808 ≤ a.K ∧ a.K ≤ 9223372036854775807
  p0 : -9223372036854775808 ≤ a.P ∧ a.P ≤ 9223372036854775807
  n0 : -9223372036854775808 ≤ a.N ∧ a.N ≤ 9223372036854775807
  bys : Bys a.bs
  few : a.bs.length ≤ 1073741824
end Ac

theorem ansB_few {m : Nat → Nat} {K : Int} {a k : Nat} (hk : k ≤ 8) : (Mb.ansB m K a k).length ≤ 8 := by
  unfold Mb.ansB
  split
  · rw [Mb.bl_length]; exact hk
  · simp

theorem ansB_bys {m : Nat → Nat} (h : Mb.IsB m) (K : Int) (a k : Nat) : Bys (Mb.ansB m K a k) := by
  unfold Mb.ansB
  split
  · exact Bys.bl h _ _
  · exact Bys.nil

theorem nm_in {m : Nat → Nat} (h : Mb.IsB m) (a k : Nat) (hk : k ≤ 8) : Mb.nm m a k < 18446744073709551616 :=
  Nat.lt_of_lt_of_le (Mb.nm_lt h a k) (Nat.pow_le_pow_right (n := 2) (i := 8 * k) (j := 64) (by decide) (by omega))

theorem ansV_in {m : Nat → Nat} (h : Mb.IsB m) (K : Int) (a k : Nat) (hk : k ≤ 8) : Mb.ansV m K a k < 18446744073709551616 := by
  unfold Mb.ansV
  split
  · exact nm_in h a k hk
  · decide

theorem aft_isB {m : Nat → Nat} (h : Mb.IsB m) (K : Int) (a k v u : Nat) (f : Nat → Nat) : Mb.IsB (Mb.aft m K a k v u f) := by
  unfold Mb.aft
  split
  · exact Mb.put_isB h _ _ _
  · split
    · exact Mb.put_isB h _ _ _
    · split
      · split
        · exact Mb.put_isB h _ _ _
        · exact h
      · split
        · exact Mb.put_isB h _ _ _
        · exact h

/-- The answer of an access that may be. -/
structure An.Fine (x : An) : Prop where
  v : x.V < 18446744073709551616
  bys : Bys x.bs
  few : x.bs.length ≤ 8

theorem Ac.ans_fine (a : Ac) {m : Nat → Nat} {n : Nat} (hm : Mb.IsB m) (h : a.err n = 0) : (a.ans m).Fine := by
  obtain ⟨hf, _⟩ := chk_ok h
  have hl := formed_len hf
  exact ⟨ansV_in hm _ _ _ (by omega), ansB_bys hm _ _ _, ansB_few (by omega)⟩

theorem Ac.aft_isB (a : Ac) {m : Nat → Nat} (hm : Mb.IsB m) : Mb.IsB (a.aft m) := Go.Proofs.YtbfgbnalnjdheaaGreat.aft_isB hm _ _ _ _ _ _

/-- A function with one value turned. -/
def upd {α : Type} (f : Nat → α) (i : Nat) (v : α) : Nat → α := fun j => if j = i then v else f j
theorem upd_same {α : Type} (f : Nat → α) (i : Nat) (v : α) : upd f i v i = v := if_pos rfl
theorem upd_other {α : Type} (f : Nat → α) (i : Nat) (v : α) {j : Nat} (h : j ≠ i) : upd f i v j = f j := if_neg h

theorem blkS {w : World} {g i : Nat} {cs : Array Value} {t : TypeId} (h : w.heap[g]? = some (.cells cs t (0, 0))) (u : Value) : (w.setCell ⟨g, i, none⟩ u).heap[g]? = some (.cells (cs.setIfInBounds i u) t (0, 0)) := by
  simp [World.setCell, Array.getElem?_modify, h]
theorem blkF {w : World} {g g' i : Nat} {o : Obj} (h : w.heap[g]? = some o) (hn : g ≠ g') (u : Value) : (w.setCell ⟨g', i, none⟩ u).heap[g]? = some o := (Below.heap_setCell w ⟨g', i, none⟩ u g hn).trans h

/-- What a machine wants next is told, its bytes in new memory. -/
def NextTold (o : Option Ac) (w : World) (e : Ending) (w' : World) : Prop :=
  Below w.heap.size w w' ∧ match o with
  | none => e = .returned (.tuple #[.agg #[.int .i64 0, .int .i64 0, .int .i64 0, .int .u64 0, .int .u64 0, .slice none 0 0], .bool false])
  | some a => ∃ A l c, e = .returned (.tuple #[.agg #[.int .i64 a.K, .int .i64 a.P, .int .i64 a.N, .int .u64 a.V, .int .u64 a.U, .slice A l c], .bool true]) ∧ Owns w.heap.size w' (.slice A l c) a.bs

theorem method_next (n : Nat) (g : Nat) (w : World) : (method (n + 100) 168 (.pointer (some ⟨g, 0, none⟩)) "Next").run Tryz.prog w = .ok (145, .pointer (some ⟨g, 0, none⟩)) w := by kernel_rfl
theorem method_next_at (g F : Nat) (w : World) (h : 100 ≤ F) : (method F 168 (.pointer (some ⟨g, 0, none⟩)) "Next").run Tryz.prog w = .ok (145, .pointer (some ⟨g, 0, none⟩)) w := by
  obtain ⟨n, rfl⟩ : ∃ n, F = n + 100 := ⟨F - 100, by omega⟩
  exact method_next n g w
theorem method_take (n : Nat) (g : Nat) (w : World) : (method (n + 100) 168 (.pointer (some ⟨g, 0, none⟩)) "Take").run Tryz.prog w = .ok (146, .pointer (some ⟨g, 0, none⟩)) w := by kernel_rfl
theorem method_take_at (g F : Nat) (w : World) (h : 100 ≤ F) : (method F 168 (.pointer (some ⟨g, 0, none⟩)) "Take").run Tryz.prog w = .ok (146, .pointer (some ⟨g, 0, none⟩)) w := by
  obtain ⟨n, rfl⟩ : ∃ n, F = n + 100 := ⟨F - 100, by omega⟩
  exact method_take n g w
end Go.Proofs.YtbfgbnalnjdheaaGreat
namespace Go.Proofs.YtbfgbnalnjdheaaGreat
open Go.RowKit

/-- An event's cells, in block b. -/
structure EvAt (b : Nat) (W : World) (p : Pk) (a : Ac) (x : An) (s1 s2 : Value) : Prop where
  blk : W.heap[b]? = some (.cells #[.int .i64 p.K, .int .i64 p.A, .int .i64 p.N, .int .i64 a.K, .int .i64 a.P, .int .i64 a.N, .int .u64 a.V, .int .u64 a.U, s1, .int .u64 x.V, .bool x.D, s2] 114 (0, 0))

namespace EvAt
variable {b : Nat} {W W' : World} {p : Pk} {a : Ac} {x : An} {s1 s2 : Value}
theorem lt (h : EvAt b W p a x s1 s2) : b < W.heap.size := (Array.getElem?_eq_some_iff.1 h.blk).1
theorem below (h : EvAt b W p a x s1 s2) (hb : Below W.heap.size W W') : EvAt b W' p a x s1 s2 := ⟨(hb.block b h.lt).trans h.blk⟩
theorem of_block (h : EvAt b W p a x s1 s2) (hb : W'.heap[b]? = W.heap[b]?) : EvAt b W' p a x s1 s2 := ⟨hb.trans h.blk⟩
theorem e0 (h : EvAt b W p a x s1 s2) : W.cell? ⟨b, 0, none⟩ = some (.int .i64 p.K) := by simp [World.cell?, h.blk]
theorem e1 (h : EvAt b W p a x s1 s2) : W.cell? ⟨b, 1, none⟩ = some (.int .i64 p.A) := by simp [World.cell?, h.blk]
theorem e2 (h : EvAt b W p a x s1 s2) : W.cell? ⟨b, 2, none⟩ = some (.int .i64 p.N) := by simp [World.cell?, h.blk]
theorem e3 (h : EvAt b W p a x s1 s2) : W.cell? ⟨b, 3, none⟩ = some (.int .i64 a.K) := by simp [World.cell?, h.blk]
theorem e4 (h : EvAt b W p a x s1 s2) : W.cell? ⟨b, 4, none⟩ = some (.int .i64 a.P) := by simp [World.cell?, h.blk]
theorem e5 (h : EvAt b W p a x s1 s2) : W.cell? ⟨b, 5, none⟩ = some (.int .i64 a.N) := by simp [World.cell?, h.blk]
theorem e6 (h : EvAt b W p a x s1 s2) : W.cell? ⟨b, 6, none⟩ = some (.int .u64 a.V) := by simp [World.cell?, h.blk]
theorem e7 (h : EvAt b W p a x s1 s2) : W.cell? ⟨b, 7, none⟩ = some (.int .u64 a.U) := by simp [World.cell?, h.blk]
theorem e8 (h : EvAt b W p a x s1 s2) : W.cell? ⟨b, 8, none⟩ = some s1 := by simp [World.cell?, h.blk]
theorem e9 (h : EvAt b W p a x s1 s2) : W.cell? ⟨b, 9, none⟩ = some (.int .u64 x.V) := by simp [World.cell?, h.blk]
theorem e10 (h : EvAt b W p a x s1 s2) : W.cell? ⟨b, 10, none⟩ = some (.bool x.D) := by simp [World.cell?, h.blk]
theorem e11 (h : EvAt b W p a x s1 s2) : W.cell? ⟨b, 11, none⟩ = some s2 := by simp [World.cell?, h.blk]
theorem free (h : EvAt b W p a x s1 s2) (i : Nat) : W.frozen? ⟨b, i, none⟩ = false := by simp [World.frozen?, h.blk]
theorem set8 (h : EvAt b W p a x s1 s2) (u : Value) : EvAt b (W.setCell ⟨b, 8, none⟩ u) p a x u s2 := ⟨blkS h.blk u⟩
theorem set11 (h : EvAt b W p a x s1 s2) (u : Value) : EvAt b (W.setCell ⟨b, 11, none⟩ u) p a x s1 u := ⟨blkS h.blk u⟩
end EvAt

/-- A new place for an event. -/
abbrev EvNew (b : Nat) (W : World) : Prop := EvAt b W ⟨0, 0, 0⟩ Ac.zero An.zero (.slice none 0 0) (.slice none 0 0)

/-- Twelve cells stored. -/
def twelve (W : World) (b : Nat) (u0 u1 u2 u3 u4 u5 u6 u7 u8 u9 u10 u11 : Value) : World :=
  (((((((((((W.setCell ⟨b, 0, none⟩ u0).setCell ⟨b, 1, none⟩ u1).setCell ⟨b, 2, none⟩ u2).setCell ⟨b, 3, none⟩ u3).setCell ⟨b, 4, none⟩ u4).setCell ⟨b, 5, none⟩ u5).setCell ⟨b, 6, none⟩ u6).setCell ⟨b, 7, none⟩ u7).setCell ⟨b, 8, none⟩ u8).setCell ⟨b, 9, none⟩ u9).setCell ⟨b, 10, none⟩ u10).setCell ⟨b, 11, none⟩ u11

theorem twelve_far (W : World) (b : Nat) (u0 u1 u2 u3 u4 u5 u6 u7 u8 u9 u10 u11 : Value) {k : Nat} (h : k ≠ b) : (twelve W b u0 u1 u2 u3 u4 u5 u6 u7 u8 u9 u10 u11).heap[k]? = W.heap[k]? := by
  unfold twelve
  rw [Below.heap_setCell _ _ _ _ h, Below.heap_setCell _ _ _ _ h, Below.heap_setCell _ _ _ _ h, Below.heap_setCell _ _ _ _ h, Below.heap_setCell _ _ _ _ h, Below.heap_setCell _ _ _ _ h, Below.heap_setCell _ _ _ _ h, Below.heap_setCell _ _ _ _ h, Below.heap_setCell _ _ _ _ h, Below.heap_setCell _ _ _ _ h, Below.heap_setCell _ _ _ _ h, Below.heap_setCell _ _ _ _ h]

theorem twelve_size (W : World) (b : Nat) (u0 u1 u2 u3 u4 u5 u6 u7 u8 u9 u10 u11 : Value) : (twelve W b u0 u1 u2 u3 u4 u5 u6 u7 u8 u9 u10 u11).heap.size = W.heap.size := by
  simp [twelve, World.setCell]

theorem twelve_touch (W : World) (b : Nat) (u0 u1 u2 u3 u4 u5 u6 u7 u8 u9 u10 u11 : Value) : Touch (fun k => k = b) W (twelve W b u0 u1 u2 u3 u4 u5 u6 u7 u8 u9 u10 u11) :=
  ((((((((((((Touch.refl (fun k => k = b) W).setCell (p := ⟨b, 0, none⟩) rfl u0).setCell (p := ⟨b, 1, none⟩) rfl u1).setCell (p := ⟨b, 2, none⟩) rfl u2).setCell (p := ⟨b, 3, none⟩) rfl u3).setCell (p := ⟨b, 4, none⟩) rfl u4).setCell (p := ⟨b, 5, none⟩) rfl u5).setCell (p := ⟨b, 6, none⟩) rfl u6).setCell (p := ⟨b, 7, none⟩) rfl u7).setCell (p := ⟨b, 8, none⟩) rfl u8).setCell (p := ⟨b, 9, none⟩) rfl u9).setCell (p := ⟨b, 10, none⟩) rfl u10).setCell (p := ⟨b, 11, none⟩) rfl u11

theorem twelve_blk {W : World} {b : Nat} {cs : Array Value} {t : TypeId} (h : W.heap[b]? = some (.cells cs t (0, 0))) (hs : cs.size = 12) (u0 u1 u2 u3 u4 u5 u6 u7 u8 u9 u10 u11 : Value) :
    (twelve W b u0 u1 u2 u3 u4 u5 u6 u7 u8 u9 u10 u11).heap[b]? = some (.cells #[u0, u1, u2, u3, u4, u5, u6, u7, u8, u9, u10, u11] t (0, 0)) := by
  match cs, hs with
  | ⟨[v0, v1, v2, v3, v4, v5, v6, v7, v8, v9, v10, v11]⟩, _ => simp [twelve, World.setCell, Array.getElem?_modify, h]

/-- A copy of an event: its bytes lie in new memory. -/
def CopyTold (p : Pk) (a : Ac) (x : An) (w : World) (e : Ending) (w' : World) : Prop :=
  ∃ A1 l1 c1 A2 l2 c2, e = .returned (.agg #[.int .i64 p.K, .int .i64 p.A, .int .i64 p.N, .int .i64 a.K, .int .i64 a.P, .int .i64 a.N, .int .u64 a.V, .int .u64 a.U, .slice A1 l1 c1, .int .u64 x.V, .bool x.D, .slice A2 l2 c2]) ∧ Owns w.heap.size w' (.slice A1 l1 c1) a.bs ∧ Owns w.heap.size w' (.slice A2 l2 c2) x.bs ∧ Below w.heap.size w w'

set_option maxRecDepth 100000 in
set_option maxHeartbeats 1000000 in
theorem copied_any (p : Pk) (a : Ac) (x : An) (A1 A2 : Option Addr) (l1 l2 c1 c2 : Nat) (w : World) (h1 : BytesAt w (.slice A1 l1 c1) a.bs) (h2 : BytesAt w (.slice A2 l2 c2) x.bs) (hl1 : a.bs.length ≤ 1073741824) (hl2 : x.bs.length ≤ 1073741824) :
    Calls Tryz.prog 80 #[.agg #[.int .i64 p.K, .int .i64 p.A, .int .i64 p.N, .int .i64 a.K, .int .i64 a.P, .int .i64 a.N, .int .u64 a.V, .int .u64 a.U, .slice A1 l1 c1, .int .u64 x.V, .bool x.D, .slice A2 l2 c2]] w (CopyTold p a x w) := by
  have e1 : a.bs.length = l1 := by obtain ⟨_, _, e, _⟩ := h1; injection e with _ e _; exact e.symm
  have e2 : x.bs.length = l2 := by obtain ⟨_, _, e, _⟩ := h2; injection e with _ e _; exact e.symm
  have HW := ((Below.refl w.heap.size w).alloc (Nat.le_refl _) (.cells #[.int .i64 p.K, .int .i64 p.A, .int .i64 p.N, .int .i64 a.K, .int .i64 a.P, .int .i64 a.N, .int .u64 a.V, .int .u64 a.U, .slice A1 l1 c1, .int .u64 x.V, .bool x.D, .slice A2 l2 c2] 114)).alloc (by simp) (.cells #[.int .i64 0, .int .i64 0, .int .i64 0, .int .i64 0, .int .i64 0, .int .i64 0, .int .u64 0, .int .u64 0, .slice none 0 0, .int .u64 0, .bool false, .slice none 0 0] 114)
  have hX : EvAt w.heap.size _ p a x (.slice A1 l1 c1) (.slice A2 l2 c2) := ⟨(Below.heap_alloc _ (.cells #[.int .i64 0, .int .i64 0, .int .i64 0, .int .i64 0, .int .i64 0, .int .i64 0, .int .u64 0, .int .u64 0, .slice none 0 0, .int .u64 0, .bool false, .slice none 0 0] 114) w.heap.size (by simp)).trans (Go.Deep.blk_alloc_new w (.cells #[.int .i64 p.K, .int .i64 p.A, .int .i64 p.N, .int .i64 a.K, .int .i64 a.P, .int .i64 a.N, .int .u64 a.V, .int .u64 a.U, .slice A1 l1 c1, .int .u64 x.V, .bool x.D, .slice A2 l2 c2] 114))⟩
  have hR := Go.Deep.blk_alloc_new (w.alloc (.cells #[.int .i64 p.K, .int .i64 p.A, .int .i64 p.N, .int .i64 a.K, .int .i64 a.P, .int .i64 a.N, .int .u64 a.V, .int .u64 a.U, .slice A1 l1 c1, .int .u64 x.V, .bool x.D, .slice A2 l2 c2] 114)) (.cells #[.int .i64 0, .int .i64 0, .int .i64 0, .int .i64 0, .int .i64 0, .int .i64 0, .int .u64 0, .int .u64 0, .slice none 0 0, .int .u64 0, .bool false, .slice none 0 0] 114)
  have e3 : (w.alloc (.cells #[.int .i64 p.K, .int .i64 p.A, .int .i64 p.N, .int .i64 a.K, .int .i64 a.P, .int .i64 a.N, .int .u64 a.V, .int .u64 a.U, .slice A1 l1 c1, .int .u64 x.V, .bool x.D, .slice A2 l2 c2] 114)).heap.size = w.heap.size + 1 := by simp
  rw [e3] at hR
  have HB1 := Lib.hid (h1.below HW)
  have HB2 := Lib.hid h2
  clear h1 h2 e3
  go_enter Tryz.func80, Tryz.ntmps80
  go_wp2_with fail
  generalize (w.alloc (.cells #[.int .i64 p.K, .int .i64 p.A, .int .i64 p.N, .int .i64 a.K, .int .i64 a.P, .int .i64 a.N, .int .u64 a.V, .int .u64 a.U, .slice A1 l1 c1, .int .u64 x.V, .bool x.D, .slice A2 l2 c2] 114)).alloc (.cells #[.int .i64 0, .int .i64 0, .int .i64 0, .int .i64 0, .int .i64 0, .int .i64 0, .int .u64 0, .int .u64 0, .slice none 0 0, .int .u64 0, .bool false, .slice none 0 0] 114) = W at HW hX hR HB1 ⊢
  have hc8 := hX.e8
  refine (clone_sl A1 l1 c1 a.bs W HB1.out (by omega)).mono ?_
  rintro e w1 ⟨B1, d1, rfl, ho1, hb1⟩
  have hX1 := hX.below hb1
  have hR1 := (hb1.block (w.heap.size + 1) (Array.getElem?_eq_some_iff.1 hR).1).trans hR
  have hz8 := hX1.free 8
  have hc8' := hX1.e8
  have hc11 := hX1.e11
  have hW1 := HW.trans (hb1.mono HW.size)
  have HW2 := hW1.setCell (p := ⟨w.heap.size, 8, none⟩) (Nat.le_refl _) (.slice B1 l1 d1)
  have hX2 := hX1.set8 (.slice B1 l1 d1)
  have hR2 := blkF (i := 8) (g' := w.heap.size) hR1 (by omega) (.slice B1 l1 d1)
  have hlW := (Array.getElem?_eq_some_iff.1 hR).1
  have HO1 := Lib.hid (ho1.setCell (p := ⟨w.heap.size, 8, none⟩) (by show w.heap.size < W.heap.size; omega) (.slice B1 l1 d1))
  have HK := Lib.hid (And.intro hX2 hR2)
  clear hX hR hR1 ho1
  go_wp2_with fail
  generalize w1.setCell ⟨w.heap.size, 8, none⟩ (.slice B1 l1 d1) = W2 at HW2 hX2 hR2 HO1 HK ⊢
  have hlW1 := hb1.size
  have hl2s := (Array.getElem?_eq_some_iff.1 hR2).1
  refine (clone_sl A2 l2 c2 x.bs W2 (HB2.out.below HW2) (by omega)).mono ?_
  rintro e w2 ⟨B2, d2, rfl, ho2, hb2⟩
  have hX3 := hX2.below hb2
  have hR3 := (hb2.block (w.heap.size + 1) hl2s).trans hR2
  have hz11 := hX3.free 11
  have hc11' := hX3.e11
  have HW3 := (HW2.trans (hb2.mono HW2.size)).setCell (p := ⟨w.heap.size, 11, none⟩) (Nat.le_refl _) (.slice B2 l2 d2)
  have hX4 := hX3.set11 (.slice B2 l2 d2)
  have hR4 := blkF (i := 11) (g' := w.heap.size) hR3 (by omega) (.slice B2 l2 d2)
  have HO3 := Lib.hid ((HO1.out.below hb2).setCell (p := ⟨w.heap.size, 11, none⟩) (by show w.heap.size < W.heap.size; omega) (.slice B2 l2 d2))
  have HO4 := Lib.hid (ho2.setCell (p := ⟨w.heap.size, 11, none⟩) (by show w.heap.size < W2.heap.size; omega) (.slice B2 l2 d2))
  have a0 := hX3.e0
  have a1 := hX3.e1
  have a2 := hX3.e2
  have a3 := hX3.e3
  have a4 := hX3.e4
  have a5 := hX3.e5
  have a6 := hX3.e6
  have a7 := hX3.e7
  have a8 := hX3.e8
  have a9 := hX3.e9
  have a10 := hX3.e10
  have r0 : w2.cell? ⟨w.heap.size + 1, 0, none⟩ = some (.int .i64 0) := by simp [World.cell?, hR3]
  have r1 : w2.cell? ⟨w.heap.size + 1, 1, none⟩ = some (.int .i64 0) := by simp [World.cell?, hR3]
  have r2 : w2.cell? ⟨w.heap.size + 1, 2, none⟩ = some (.int .i64 0) := by simp [World.cell?, hR3]
  have r3 : w2.cell? ⟨w.heap.size + 1, 3, none⟩ = some (.int .i64 0) := by simp [World.cell?, hR3]
  have r4 : w2.cell? ⟨w.heap.size + 1, 4, none⟩ = some (.int .i64 0) := by simp [World.cell?, hR3]
  have r5 : w2.cell? ⟨w.heap.size + 1, 5, none⟩ = some (.int .i64 0) := by simp [World.cell?, hR3]
  have r6 : w2.cell? ⟨w.heap.size + 1, 6, none⟩ = some (.int .u64 0) := by simp [World.cell?, hR3]
  have r7 : w2.cell? ⟨w.heap.size + 1, 7, none⟩ = some (.int .u64 0) := by simp [World.cell?, hR3]
  have r8 : w2.cell? ⟨w.heap.size + 1, 8, none⟩ = some (.slice none 0 0) := by simp [World.cell?, hR3]
  have r9 : w2.cell? ⟨w.heap.size + 1, 9, none⟩ = some (.int .u64 0) := by simp [World.cell?, hR3]
  have r10 : w2.cell? ⟨w.heap.size + 1, 10, none⟩ = some (.bool false) := by simp [World.cell?, hR3]
  have r11 : w2.cell? ⟨w.heap.size + 1, 11, none⟩ = some (.slice none 0 0) := by simp [World.cell?, hR3]
  have f0 : w2.frozen? ⟨w.heap.size + 1, 0, none⟩ = false := by simp [World.frozen?, hR3]
  have f1 : w2.frozen? ⟨w.heap.size + 1, 1, none⟩ = false := by simp [World.frozen?, hR3]
  have f2 : w2.frozen? ⟨w.heap.size + 1, 2, none⟩ = false := by simp [World.frozen?, hR3]
  have f3 : w2.frozen? ⟨w.heap.size + 1, 3, none⟩ = false := by simp [World.frozen?, hR3]
  have f4 : w2.frozen? ⟨w.heap.size + 1, 4, none⟩ = false := by simp [World.frozen?, hR3]
  have f5 : w2.frozen? ⟨w.heap.size + 1, 5, none⟩ = false := by simp [World.frozen?, hR3]
  have f6 : w2.frozen? ⟨w.heap.size + 1, 6, none⟩ = false := by simp [World.frozen?, hR3]
  have f7 : w2.frozen? ⟨w.heap.size + 1, 7, none⟩ = false := by simp [World.frozen?, hR3]
  have f8 : w2.frozen? ⟨w.heap.size + 1, 8, none⟩ = false := by simp [World.frozen?, hR3]
  have f9 : w2.frozen? ⟨w.heap.size + 1, 9, none⟩ = false := by simp [World.frozen?, hR3]
  have f10 : w2.frozen? ⟨w.heap.size + 1, 10, none⟩ = false := by simp [World.frozen?, hR3]
  have f11 : w2.frozen? ⟨w.heap.size + 1, 11, none⟩ = false := by simp [World.frozen?, hR3]
  clear hX2 hR2 hX3 hR3 hc8 hc11 ho2 hc8'
  go_wp2
  refine bodyPost_ret (v := .agg #[.int .i64 p.K, .int .i64 p.A, .int .i64 p.N, .int .i64 a.K, .int .i64 a.P, .int .i64 a.N, .int .u64 a.V, .int .u64 a.U, .slice B1 l1 d1, .int .u64 x.V, .bool x.D, .slice B2 l2 d2]) (by simp [results, Tryz.results80, go_sem, r0, r1, r2, r3, r4, r5, r6, r7, r8, r9, r10, r11]) rfl ?_
  have hR5 : (w2.setCell ⟨w.heap.size, 11, none⟩ (.slice B2 l2 d2)).heap.size = w2.heap.size := by simp [World.setCell]
  have hne : ∀ k, w.heap.size + 1 + 1 ≤ k → k ≠ w.heap.size + 1 := fun k hk => by omega
  have hs2 := hb2.size
  refine ⟨B1, l1, d1, B2, l2, d2, rfl, ?_, ?_, ?_⟩
  · exact ((HO3.out.of_block fun k hk => twelve_far _ _ _ _ _ _ _ _ _ _ _ _ _ _ (hne k (by have := (HO3.out.ge hk).1; omega)))).down (by omega)
  · exact ((HO4.out.of_block fun k hk => twelve_far _ _ _ _ _ _ _ _ _ _ _ _ _ _ (hne k (by have := (HO4.out.ge hk).1; omega)))).down (by omega)
  · exact (twelve_touch _ _ _ _ _ _ _ _ _ _ _ _ _ _).below HW3 (by omega) (fun k hk => by omega)
end Go.Proofs.YtbfgbnalnjdheaaGreat
namespace Go.Proofs.YtbfgbnalnjdheaaGreat
namespace Wd
open Go

/-- Is the number a power of two that an int64 holds? -/
def isP (n : Int) : Bool := (List.range 63).any fun k => n == 2 ^ k
def lg (n : Int) : Int := if isP n = true then (n.toNat.log2 : Int) else 0
def mk (n tz : Int) : Int := if isP tz = true then n % tz else 0
def alOk (n tz : Int) : Bool := isP tz && (decide (0 ≤ n) && decide (n ≤ 4611686018427387904))
def al (n tz : Int) : Int := if alOk n tz = true then (n + tz - 1) / tz * tz else 0

theorem isP_iff (n : Int) : isP n = true ↔ ∃ k : Nat, k < 63 ∧ n = 2 ^ k := by
  unfold isP
  simp [List.any_eq_true]

theorem isP_pow (k : Nat) (hk : k < 63) : isP (2 ^ k) = true := (isP_iff _).2 ⟨k, hk, rfl⟩

theorem pow_cast (k : Nat) : ((2 : Int) ^ k) = ((2 ^ k : Nat) : Int) := by simp

theorem pow_bounds (k : Nat) (hk : k < 63) : (1 : Int) ≤ 2 ^ k ∧ (2 : Int) ^ k ≤ 4611686018427387904 := by
  have h1 : 2 ^ k ≤ 2 ^ 62 := Nat.pow_le_pow_right (by decide) (by omega)
  have h2 : 0 < 2 ^ k := Nat.two_pow_pos k
  rw [pow_cast]
  omega

theorem lg_pow (k : Nat) (hk : k < 63) : lg (2 ^ k) = k := by
  unfold lg
  rw [if_pos (isP_pow k hk), pow_cast, Int.toNat_natCast, Nat.log2_two_pow]

theorem isP_bounds {n : Int} (h : isP n = true) : 1 ≤ n ∧ n ≤ 4611686018427387904 := by
  obtain ⟨k, hk, rfl⟩ := (isP_iff n).1 h
  exact pow_bounds k hk

theorem ofInt64_toNat (n : Int) : ((BitVec.ofInt 64 n).toNat : Int) = n % 18446744073709551616 := by
  rw [BitVec.toNat_ofInt]
  have : (0 : Int) ≤ n % ((2 ^ 64 : Nat) : Int) := Int.emod_nonneg _ (by decide)
  rw [Int.toNat_of_nonneg this]
  rfl

theorem ofInt64_nat (a : Nat) (ha : a < 18446744073709551616) : (BitVec.ofInt 64 (a : Int)).toNat = a := by
  rw [BitVec.ofInt_natCast, BitVec.toNat_ofNat]; exact Nat.mod_eq_of_lt (by omega)

theorem and_i64_nat (a b : Nat) (ha : a < 9223372036854775808) (hb : b < 9223372036854775808) : bits .and .i64 (a : Int) (b : Int) = ((a &&& b : Nat) : Int) := by
  have hx : a &&& b < 2 ^ 63 := Nat.and_lt_two_pow _ (by omega)
  show IntKind.i64.wrap ((BitVec.ofInt 64 (a : Int) &&& BitVec.ofInt 64 (b : Int)).toNat : Int) = _
  rw [BitVec.toNat_and, ofInt64_nat a (by omega), ofInt64_nat b (by omega), IntKind.wrap_i64]
  omega

/-- n & (n − 1) is 0 just at powers. -/
theorem and_pred (n : Int) (h0 : 0 < n) (h1 : n ≤ 9223372036854775807) : (bits BinOp.and IntKind.i64 n (n - 1) == 0) = isP n := by
  obtain ⟨a, rfl⟩ := Int.eq_ofNat_of_zero_le (by omega : 0 ≤ n)
  have e : ((a : Int) - 1) = ((a - 1 : Nat) : Int) := by omega
  rw [e, and_i64_nat a (a - 1) (by omega) (by omega), Bool.eq_iff_iff, isP_iff]
  have ha : a ≠ 0 := by omega
  have hb : ((((a &&& a - 1 : Nat) : Int) == 0) = true) ↔ (a &&& a - 1 = 0) := by simp
  rw [hb, Nat.and_sub_one_eq_zero_iff_isPowerOfTwo ha]
  constructor
  · rintro ⟨k, hk⟩
    refine ⟨k, ?_, by rw [hk, pow_cast]⟩
    have : 2 ^ k < 2 ^ 63 := by rw [← hk]; omega
    exact (Nat.pow_lt_pow_iff_right (by decide)).1 this
  · rintro ⟨k, _, hk⟩
    refine ⟨k, ?_⟩
    rw [pow_cast] at hk
    exact_mod_cast hk

/-- n & (2^k − 1) is what is left of n. -/
theorem and_mask (n tz : Int) (h : isP tz = true) : bits BinOp.and IntKind.i64 n (tz - 1) = n % tz := by
  obtain ⟨k, hk, rfl⟩ := (isP_iff tz).1 h
  have hb := pow_bounds k hk
  have hp : 0 < 2 ^ k := Nat.two_pow_pos k
  have e : ((2 : Int) ^ k - 1) = ((2 ^ k - 1 : Nat) : Int) := by rw [pow_cast]; omega
  have hlt : (2 ^ k - 1 : Nat) < 18446744073709551616 := by rw [pow_cast] at hb; omega
  show IntKind.i64.wrap ((BitVec.ofInt 64 n &&& BitVec.ofInt 64 ((2 : Int) ^ k - 1)).toNat : Int) = _
  rw [BitVec.toNat_and, e, ofInt64_nat _ hlt, Nat.and_two_pow_sub_one_eq_mod, Int.natCast_emod, ofInt64_toNat, ← pow_cast,
    Int.emod_emod_of_dvd n (by
      have h64 : (18446744073709551616 : Int) = 2 ^ k * 2 ^ (64 - k) := by
        rw [← Int.pow_add, show k + (64 - k) = 64 by omega]; decide
      rw [h64]; exact Int.dvd_mul_right _ _)]
  have := Int.emod_nonneg n (by omega : (2 : Int) ^ k ≠ 0)
  have := Int.emod_lt_of_pos n (by omega : (0 : Int) < 2 ^ k)
  exact IntWalk.i64_in _ (by omega)

theorem nat_andNot (m k : Nat) (hk : k < 63) (hm : m < 18446744073709551616) : m &&& (18446744073709551615 - (2 ^ k - 1)) = m / 2 ^ k * 2 ^ k := by
  have hp : 0 < 2 ^ k := Nat.two_pow_pos k
  have hle : 2 ^ k ≤ 2 ^ 62 := Nat.pow_le_pow_right (by decide) (by omega)
  have e : 18446744073709551615 - (2 ^ k - 1) = 2 ^ 64 - ((2 ^ k - 1) + 1) := by omega
  rw [e]
  apply Nat.eq_of_testBit_eq
  intro i
  rw [Nat.testBit_and, Nat.testBit_two_pow_sub_succ (by omega), Nat.testBit_two_pow_sub_one, Nat.testBit_mul_two_pow, Nat.testBit_div_two_pow]
  by_cases h64 : i < 64
  · by_cases hki : k ≤ i
    · have : ¬ i < k := by omega
      simp [h64, hki, this]
    · have : i < k := by omega
      simp [h64, hki, this]
  · have hz : m.testBit i = false := Nat.testBit_lt_two_pow (Nat.lt_of_lt_of_le hm (by
      have : 2 ^ 64 ≤ 2 ^ i := Nat.pow_le_pow_right (by decide) (by omega)
      omega))
    by_cases hki : k ≤ i
    · simp [h64, hki, hz]
    · simp [h64, hki]

/-- m &^ (2^k − 1) is the multiple below. -/
theorem andNot_mask (m tz : Int) (h : isP tz = true) (h0 : 0 ≤ m) (h1 : m ≤ 9223372036854775807) : bits BinOp.andNot IntKind.i64 m (tz - 1) = m / tz * tz := by
  obtain ⟨k, hk, rfl⟩ := (isP_iff tz).1 h
  obtain ⟨a, rfl⟩ := Int.eq_ofNat_of_zero_le h0
  have hb := pow_bounds k hk
  have hp : 0 < 2 ^ k := Nat.two_pow_pos k
  have e : ((2 : Int) ^ k - 1) = ((2 ^ k - 1 : Nat) : Int) := by rw [pow_cast]; omega
  have hlt : (2 ^ k - 1 : Nat) < 18446744073709551616 := by rw [pow_cast] at hb; omega
  show IntKind.i64.wrap ((BitVec.ofInt 64 (a : Int) &&& ~~~ BitVec.ofInt 64 ((2 : Int) ^ k - 1)).toNat : Int) = _
  rw [BitVec.toNat_and, BitVec.toNat_not, e, ofInt64_nat _ hlt, ofInt64_nat a (by omega)]
  have e2 : 2 ^ 64 - 1 - (2 ^ k - 1) = 18446744073709551615 - (2 ^ k - 1) := by omega
  rw [e2, nat_andNot a k hk (by omega), Int.natCast_mul, Int.natCast_ediv, ← pow_cast]
  have h2 : (a : Int) / 2 ^ k * 2 ^ k ≤ a := Int.ediv_mul_le _ (by omega)
  have h3 : 0 ≤ (a : Int) / 2 ^ k * 2 ^ k := Int.mul_nonneg (Int.ediv_nonneg (by omega) (by omega)) (by omega)
  exact IntWalk.i64_in _ (by omega)

/-- Go's remainder, raised where it is below 0, is what is left. -/
theorem tmod_mask (n tz : Int) (h : 0 < tz) : n % tz = if n.tmod tz < 0 then n.tmod tz + tz else n.tmod tz := by
  rw [Int.tmod_eq_emod]
  have h1 := Int.emod_nonneg n (by omega : tz ≠ 0)
  have h2 := Int.emod_lt_of_pos n h
  have e : (tz.natAbs : Int) = tz := by omega
  by_cases hc : 0 ≤ n ∨ tz ∣ n
  · rw [if_pos hc, if_neg (by omega)]
    omega
  · have h0 : n % tz ≠ 0 := fun h0 => hc (.inr (Int.dvd_of_emod_eq_zero h0))
    rw [if_neg hc, e, if_pos (by omega)]
    omega

/-- The next multiple by division: n itself if nothing is left, else one more multiple, which is at most 2^62. -/
theorem up_cases (n tz : Int) (h : isP tz = true) (h0 : 0 ≤ n) (h1 : n ≤ 4611686018427387904) :
    (0 ≤ n / tz ∧ n / tz ≤ n) ∧ (n % tz = 0 → (n + tz - 1) / tz * tz = n) ∧ (n % tz ≠ 0 → (n + tz - 1) / tz * tz = (n / tz + 1) * tz) ∧ (n % tz ≠ 0 → n / tz + 1 ≤ 4611686018427387904 / tz ∧ (n / tz + 1) * tz ≤ 4611686018427387904) := by
  have hb := isP_bounds h
  have hn := Int.emod_nonneg n (by omega : tz ≠ 0)
  have hl := Int.emod_lt_of_pos n (by omega : 0 < tz)
  have hd := Int.mul_ediv_add_emod n tz
  have hq : 0 ≤ n / tz := Int.ediv_nonneg h0 (by omega)
  have hle : n / tz ≤ n := by
    have := Int.ediv_le_self tz h0
    exact this
  have e0 : n + tz - 1 = (n % tz + tz - 1) + tz * (n / tz) := by omega
  have es : (n + tz - 1) / tz = (n % tz + tz - 1) / tz + n / tz := by rw [e0, Int.add_mul_ediv_left _ _ (by omega)]
  refine ⟨⟨hq, hle⟩, fun hz => ?_, fun hz => ?_, fun hz => ?_⟩
  · have e1 : (n % tz + tz - 1) / tz = 0 := Int.ediv_eq_zero_of_lt (by omega) (by omega)
    rw [es, e1, Int.zero_add, Int.mul_comm]
    omega
  · have e1 : (n % tz + tz - 1) / tz = 1 := by
      have : n % tz + tz - 1 = (n % tz - 1) + tz * 1 := by omega
      rw [this, Int.add_mul_ediv_left _ _ (by omega), Int.ediv_eq_zero_of_lt (by omega) (by omega)]
      rfl
    rw [es, e1, Int.add_comm 1]
  · obtain ⟨k, hk, rfl⟩ := (isP_iff tz).1 h
    have hs : (4611686018427387904 : Int) = 2 ^ k * 2 ^ (62 - k) := by
      rw [← Int.pow_add, show k + (62 - k) = 62 by omega]; decide
    have hdiv : (4611686018427387904 : Int) / 2 ^ k = 2 ^ (62 - k) := by
      rw [hs]; exact Int.mul_ediv_cancel_left _ (by omega)
    rw [hdiv]
    have hlt : n / 2 ^ k < 2 ^ (62 - k) := by
      apply Int.ediv_lt_of_lt_mul (by omega)
      rw [Int.mul_comm, ← hs]
      have : n ≠ 4611686018427387904 := by
        intro e
        apply hz
        rw [e, hs]
        exact Int.mul_emod_right _ _
      omega
    refine ⟨by omega, ?_⟩
    have h2 : (n / 2 ^ k + 1) * 2 ^ k ≤ 2 ^ (62 - k) * 2 ^ k := Int.mul_le_mul_of_nonneg_right (by omega) (by omega)
    rw [Int.mul_comm (2 ^ (62 - k))] at h2
    rw [← hs] at h2
    exact h2

/-- A power of two has as many zeros below its bit as its exponent tells. -/
theorem ctz_pow (k : Nat) (hk : k < 63) : Lib.ctz 64 (2 ^ k) = k := by
  have hp : 0 < 2 ^ k := Nat.two_pow_pos k
  have hl : 2 ^ k ≤ 2 ^ 62 := Nat.pow_le_pow_right (by decide) (by omega)
  obtain ⟨m, hm, _⟩ := Lib.ctzFrom_spec 64 (2 ^ k) hp (by omega)
  have e : Lib.ctz 64 (2 ^ k) = Lib.ctzFrom 64 (2 ^ k) := by unfold Lib.ctz; rw [if_neg (by omega)]
  rw [e]
  generalize Lib.ctzFrom 64 (2 ^ k) = c at hm
  have hck : c ≤ k := by
    have : 2 ^ c ≤ 2 ^ k := by rw [hm]; exact Nat.le_mul_of_pos_right _ (by omega)
    exact (Nat.pow_le_pow_iff_right (by decide)).1 this
  have hs : 2 ^ k = 2 ^ c * 2 ^ (k - c) := by rw [← Nat.pow_add]; congr 1; omega
  rw [hs] at hm
  have h2 := Nat.eq_of_mul_eq_mul_left (Nat.two_pow_pos c) hm
  by_cases hz : k - c = 0
  · omega
  · have : 2 ^ (k - c) = 2 * 2 ^ (k - c - 1) := by rw [← Nat.pow_succ']; congr 1; omega
    omega

end Wd
end Go.Proofs.YtbfgbnalnjdheaaGreat
namespace Go.Proofs.YtbfgbnalnjdheaaGreat
open Go.RowKit

theorem ret_i64 {a b : Int} (h : b = a) : Ending.returned (.int .i64 a) = .returned (.int .i64 b) := by rw [h]
theorem ret_tup {a b c d : Int} (h : c = a) (h' : d = b) : Ending.returned (.tuple #[.int .i64 a, .int .i64 b]) = .returned (.tuple #[.int .i64 c, .int .i64 d]) := by rw [h, h']

set_option maxHeartbeats 400000 in
theorem isPower_any (n : Int) (w : World) (h1 : n ≤ 9223372036854775807) (h0 : -9223372036854775808 ≤ n) :
    Calls Tryz.prog 37 #[.int .i64 n] w fun e w' => e = .returned (.bool (Wd.isP n)) ∧ w = w' := by
  by_cases hn : 0 < n
  · have H := Lib.hid (Wd.and_pred n hn h1)
    go_enter Tryz.func37, Tryz.ntmps37
    go_wp2
    go_ret
    exact ⟨by rw [← H.out]; rfl, rfl⟩
  · have H : Hid (Wd.isP n = false) := by
      cases e : Wd.isP n with
      | false => exact rfl
      | true => exact absurd (Wd.isP_bounds e).1 (by omega)
    go_enter Tryz.func37, Tryz.ntmps37
    go_wp2
    go_ret
    exact ⟨by rw [H.out]; rfl, rfl⟩
end Go.Proofs.YtbfgbnalnjdheaaGreat
namespace Go.Proofs.YtbfgbnalnjdheaaGreat
open Go.RowKit

set_option maxHeartbeats 400000 in
theorem mask_any (n tz : Int) (w : World) (h1 : tz ≤ 9223372036854775807) (h0 : -9223372036854775808 ≤ tz) :
    Calls Tryz.prog 106 #[.int .i64 n, .int .i64 tz] w fun e w' => e = .returned (.int .i64 (Wd.mk n tz)) ∧ w = w' := by
  cases hp : Wd.isP tz with
  | true =>
    have hb := Wd.isP_bounds hp
    have hm := Wd.and_mask n tz hp
    have e : Wd.mk n tz = n % tz := by unfold Wd.mk; rw [if_pos hp]
    have HP := Lib.hid hp
    have HM := Lib.hid (e.trans hm.symm)
    clear hp hm e
    go_enter Tryz.func106, Tryz.ntmps106
    go_wp2_with (go_at_call 37; refine (isPower_any _ _ (by omega) (by omega)).mono ?_; rintro e w' ⟨rfl, rfl⟩; rw [HP.out])
    go_ret
    exact ⟨by rw [HM.out]; rfl, rfl⟩
  | false =>
    have e : Wd.mk n tz = 0 := by unfold Wd.mk; rw [hp]; rfl
    have HP := Lib.hid hp
    have HE := Lib.hid e
    clear hp e
    go_enter Tryz.func106, Tryz.ntmps106
    go_wp2_with (go_at_call 37; refine (isPower_any _ _ (by omega) (by omega)).mono ?_; rintro e w' ⟨rfl, rfl⟩; rw [HP.out])
    go_ret
    exact ⟨by rw [HE.out]; rfl, rfl⟩

end Go.Proofs.YtbfgbnalnjdheaaGreat
namespace Go.Proofs.YtbfgbnalnjdheaaGreat
open Go.ChangeShapes Go.WideShapes Go.ChangeAt Go.RowKit

theorem own : ownKnob Tryz.prog.godebug = none := by kernel_rfl
theorem laidOut : laidOutB Tryz.prog = true := by kernel_rfl

/-- What an int64 argument's width says. -/
theorem i64_wide {n : Int} (h : (Lit.int .i64 n).wf = true) : -9223372036854775808 ≤ n ∧ n ≤ 9223372036854775807 := by
  simp only [Lit.wf, Bool.and_eq_true, decide_eq_true_eq] at h
  have e1 : IntKind.i64.min = -9223372036854775808 := by decide
  have e2 : IntKind.i64.max = 9223372036854775807 := by decide
  rw [e1, e2] at h
  exact h
theorem u64_wide {n : Int} (h : (Lit.int .u64 n).wf = true) : 0 ≤ n ∧ n ≤ 18446744073709551615 := by
  simp only [Lit.wf, Bool.and_eq_true, decide_eq_true_eq] at h
  have e1 : IntKind.u64.min = 0 := by decide
  have e2 : IntKind.u64.max = 18446744073709551615 := by decide
  rw [e1, e2] at h
  exact h

theorem noStandIn {P : Program} {ts : Array TypeId} {t : TypeId} (h : (ts.toList.all fun u => !P.wantsStandIn u) = true) (ht : t ∈ ts) : P.wantsStandIn t = false := by
  simpa using List.all_eq_true.1 h t (by simpa using ht)

section
variable {H : Type} {enc : TypeId × Value → H} {P : Program}

/-- Arguments that lie below the heap's old size read on as they read. -/
theorem trodAll_below (hl : laidOutB P = true) {W W' : World} (hb : Below W.heap.size W W') :
    ∀ {ts : List TypeId} {vs : List Value} {ds : List (DataW H)} {ps : List MemPlace}, (∀ t ∈ ts, P.readableRec t = true ∧ t < P.types.size) → (∀ x ∈ ps, x.block < W.heap.size) →
      DataW.TrodAll enc P W 0 (fun _ => true) true ts vs ds ps → DataW.TrodAll enc P W' 0 (fun b => decide (b < W.heap.size)) true ts vs ds ps
  | [], [], [], _, _, _, h => h
  | t :: ts, v :: vs, d :: ds, ps, ht, hp, h => by
    obtain ⟨p, q, h1, h2, rfl⟩ := h
    have hh := ht t (List.mem_cons_self ..)
    exact ⟨p, q, Below.trod hl hh.1 hh.2 h1 hb fun x hx => hp x (List.mem_append_left _ hx),
      trodAll_below hl hb (fun u hu => ht u (List.mem_cons_of_mem _ hu)) (fun x hx => hp x (List.mem_append_right _ hx)) h2, rfl⟩
  | [], [], _ :: _, _, _, _, h => h.elim
  | [], _ :: _, _, _, _, _, h => h.elim
  | _ :: _, [], _, _, _, _, h => h.elim
  | _ :: _, _ :: _, [], _, _, _, h => h.elim

theorem law_post {f : Func} {s : ChangeSpec} {tb : TypeId} (hl : laidOutB P = true) (hps : (f.params.toList.all fun t => P.readableRec t && decide (t < P.types.size)) = true)
    (hrt : f.resultTypes = #[tb]) (htb : P.underlying tb = some .bool) (hv : s.vars = []) {W W' : World} {args : Array Value} {ds : List (DataW H)} {before : List MemPlace}
    (hW : DataW.Whole enc P f.params.toList s.vars false W args.toList ds [] before)
    (hfn : s.fn H (ds ++ []) = { results := [.lit (.bool true)], args := ds }) (hb : Below W.heap.size W W') :
    s.post enc P f false true false false W args (.bool true) W' := by
  have hlt : ∀ p ∈ before, p.block < W.heap.size := fun p hp => hW.lt p hp
  have hW2 := hW
  obtain ⟨p, q, hA, hV, rfl, _, _⟩ := hW
  rw [hv] at hV
  have hq : q = [] := hV
  subst hq
  refine ⟨ds, [], p ++ [], [], p, [], hW2, ?_, ?_, ?_, World.keptBut_mono (fun x hx => ⟨hx, .inr (.inl (by simpa using hx))⟩) (hb.frame (· ∈ p ++ [])), fun h => by cases h⟩
  · rw [hfn, hrt]
    exact trodAll_mk1 (shut_bool htb true)
  · rw [hfn]
    refine trodAll_below hl hb (fun t ht => ?_) (fun x hx => hlt x (by simpa using hx)) hA
    have := List.all_eq_true.1 hps t ht
    simpa using this
  · rw [hfn, hv]
    rfl
end
end Go.Proofs.YtbfgbnalnjdheaaGreat
namespace Go.Proofs.YtbfgbnalnjdheaaGreat
open Go.ChangeShapes Go.WideShapes Go.ChangeAt Go.RowKit Go.Deep

theorem cellsU8 : Tryz.prog.cellsOf 5 = 1 := by kernel_rfl
theorem accessOne : Tryz.prog.cellsOf 58 = 6 := by kernel_rfl

/-- The bytes of a list, as numbers that stand everywhere. -/
def nums (zs : List Int) (i : Nat) : Nat := (zs.getD i 0).toNat % 256

theorem nums_isB (zs : List Int) : Mb.IsB (nums zs) := fun _ => Nat.mod_lt _ (by decide)

theorem bytes_cell {H : Type} {enc : TypeId × Value → H} {W : World} {fuel : Nat} {cs : List Value} {x : DataW H × List MemPlace}
    (h : DataW.trod enc Tryz.prog W 0 (fun _ => true) true fuel 30 cs = some x) :
    ∃ A L cap f, cs = [.slice A L cap] ∧ Mb.IsB f ∧ BytesAt W (.slice A L cap) (Mb.bl f 0 L) ∧ L ≤ cap ∧ cap ≤ 9223372036854775807 := by
  rcases open_ints Tryz.underlying30 Tryz.underlying5 cellsU8 h with ⟨hcs, _⟩ | ⟨a, len, cap, zs, hcs, _, hl, hm, hz, _, hcell, hwz⟩
  · exact ⟨none, 0, 0, fun _ => 0, hcs, Mb.zero_isB, bytesAt_none _ _ _ _, Nat.le_refl _, by decide⟩
  · simp only [if_true] at hz
    refine ⟨some a, len, cap, nums zs, hcs, nums_isB zs, ⟨some a, cap, by rw [Mb.bl_length], fun hp => ?_⟩, hl, by unfold maxLen at hm; omega⟩
    rw [Mb.bl_length] at hp ⊢
    obtain ⟨b, off, spot⟩ := a
    have hspot : spot = none := by simpa [Addr.add] using World.cell?_spot (hcell 0 (by omega))
    subst hspot
    have hc : ∀ i, i < len → W.cell? ⟨b, off + i, none⟩ = some (.int .u8 ((Mb.bl (nums zs) 0 len).getD i 0)) := by
      intro i hi
      have e : (⟨b, off, none⟩ : Addr).add i = ⟨b, off + i, none⟩ := by unfold Addr.add; split <;> simp_all
      have h1 := hcell i (by omega)
      rw [e] at h1
      rw [h1, Mb.bl_getD _ _ _ _ hi]
      have hmem : zs.getD i 0 ∈ zs := by
        rw [List.getD_eq_getElem?_getD, List.getElem?_eq_getElem (by omega)]
        exact List.getElem_mem _
      have hb := bounds_u8 (hwz _ hmem)
      unfold nums
      rw [Nat.zero_add]
      congr 2
      omega
    refine ⟨b, off, rfl, ?_, hc⟩
    rcases Nat.lt_or_ge b W.heap.size with hlt | hge
    · exact hlt
    · have := hc 0 hp
      simp [World.cell?, Array.getElem?_eq_none hge] at this

set_option maxRecDepth 100000 in
theorem open_bl {H : Type} {enc : TypeId × Value → H} {W : World} {base : Nat} {v : Value} {d : DataW H} {ps : List MemPlace}
    (hv : Value.okWide Tryz.prog W .any base 30 v) (h : DataW.Trod enc Tryz.prog W 0 (fun _ => true) true 30 v d ps) :
    ∃ A L cap f, v = .slice A L cap ∧ Mb.IsB f ∧ BytesAt W (.slice A L cap) (Mb.bl f 0 L) ∧ L ≤ cap ∧ cap ≤ 9223372036854775807 := by
  obtain ⟨a0, len, cap, rfl⟩ := okWide_slice Tryz.underlying30 hv
  obtain ⟨fuel, hf⟩ := h
  obtain ⟨A, L, cp, f, hcs, hr⟩ := bytes_cell hf
  simp [Value.cells] at hcs
  obtain ⟨rfl, rfl, rfl⟩ := hcs
  exact ⟨_, _, _, f, rfl, hr⟩

set_option maxRecDepth 100000 in
theorem open_access {H : Type} {enc : TypeId × Value → H} {W : World} {base : Nat} {v : Value} {d : DataW H} {ps : List MemPlace}
    (hv : Value.okWide Tryz.prog W .any base 58 v) (h : DataW.Trod enc Tryz.prog W 0 (fun _ => true) true 58 v d ps) :
    ∃ (K P N : Int) (V U : Nat) (A : Option Addr) (L cap : Nat) (f : Nat → Nat), v = .agg #[.int .i64 K, .int .i64 P, .int .i64 N, .int .u64 V, .int .u64 U, .slice A L cap] ∧
      (-9223372036854775808 ≤ K ∧ K ≤ 9223372036854775807) ∧ (-9223372036854775808 ≤ P ∧ P ≤ 9223372036854775807) ∧ (-9223372036854775808 ≤ N ∧ N ≤ 9223372036854775807) ∧
      V < 18446744073709551616 ∧ U < 18446744073709551616 ∧ Mb.IsB f ∧ BytesAt W (.slice A L cap) (Mb.bl f 0 L) ∧ L ≤ cap ∧ cap ≤ 9223372036854775807 := by
  obtain ⟨cs, rfl, hsz⟩ := okWide_struct Tryz.underlying58 hv
  obtain ⟨l⟩ := cs
  rw [accessOne] at hsz
  match l, hsz with
  | [v0, v1, v2, v3, v4, v5], _ =>
    obtain ⟨fuel, hf⟩ := h
    obtain ⟨xs, n, _, _, _, hlen, hg⟩ := DataW.trod_struct Tryz.underlying58 hf
    have g0 := hg 0 _ rfl
    have g1 := hg 1 _ rfl
    have g2 := hg 2 _ rfl
    have g3 := hg 3 _ rfl
    have g4 := hg 4 _ rfl
    have g5 := hg 5 _ rfl
    have cInt : Tryz.prog.cellsOf 3 = 1 := by kernel_rfl
    have cU : Tryz.prog.cellsOf 41 = 1 := by kernel_rfl
    have cB : Tryz.prog.cellsOf 30 = 1 := by kernel_rfl
    match xs, hlen with
    | [y0, y1, y2, y3, y4, y5], _ =>
      simp [Value.cells, cInt, cU, cB] at g0 g1 g2 g3 g4 g5
      obtain ⟨K, e0, _, w0⟩ := DataW.trod_int Tryz.underlying3 g0
      obtain ⟨P, e1, _, w1⟩ := DataW.trod_int Tryz.underlying3 g1
      obtain ⟨N, e2, _, w2⟩ := DataW.trod_int Tryz.underlying3 g2
      obtain ⟨V, e3, _, w3⟩ := DataW.trod_int Tryz.underlying41 g3
      obtain ⟨U, e4, _, w4⟩ := DataW.trod_int Tryz.underlying41 g4
      obtain ⟨A, L, cap, f, e5, hr⟩ := bytes_cell g5
      simp only [List.cons.injEq, and_true] at e0 e1 e2 e3 e4 e5
      subst e0 e1 e2 e3 e4 e5
      have b3 := u64_wide w3
      have b4 := u64_wide w4
      obtain ⟨V, rfl⟩ := Int.eq_ofNat_of_zero_le b3.1
      obtain ⟨U, rfl⟩ := Int.eq_ofNat_of_zero_le b4.1
      exact ⟨K, P, N, V, U, A, L, cap, f, rfl, i64_wide w0, i64_wide w1, i64_wide w2, by omega, by omega, hr⟩
end Go.Proofs.YtbfgbnalnjdheaaGreat
namespace Go.Proofs.YtbfgbnalnjdheaaGreat
open Go.RowKit

namespace Rg
/-- Where a ring's number stands, k behind its records. -/
def num (B Z : Nat) (k : Int) : Int := (B : Int) + (Z : Int) + k
/-- A position's place. -/
def place (Z : Nat) (v : Int) : Int := v % (Z : Int)
/-- Where a position stands. -/
def spot (B Z : Nat) (v : Int) : Int := (B : Int) + place Z v
/-- A ring that may be. -/
structure Ok (B Z : Nat) : Prop where
  pow : Wd.isP Z = true
  z0 : 64 ≤ Z
  z1 : Z ≤ 8192
  b0 : B % 8 = 0
  b1 : B + Z + 32 ≤ 131072
theorem Ok.place_in {B Z : Nat} (ok : Ok B Z) (v : Int) : 0 ≤ place Z v ∧ place Z v < Z := by
  have := ok.z0
  unfold place
  exact ⟨Int.emod_nonneg _ (by omega), Int.emod_lt_of_pos _ (by omega)⟩
end Rg

theorem un_below (w : World) (a v : Value) (T : TypeId) : Below w.heap.size w (w.alloc (.cells #[a, v] T)) := (Below.refl w.heap.size w).alloc (Nat.le_refl _) _

section
variable {B Z : Nat}

set_option maxRecDepth 100000 in
theorem rgTail (ok : Rg.Ok B Z) (w : World) : Calls Tryz.prog 73 #[.agg #[.int .i64 B, .int .i64 Z]] w (Made (.int .i64 (Rg.num B Z 0)) w) := by
  have b1 := ok.b1
  have e1 : IntKind.i64.wrap ((B : Int) + (Z : Int)) = (B : Int) + Z := IntWalk.i64_in _ (by omega)
  have e2 : IntKind.i64.wrap ((B : Int) + (Z : Int) + 0) = (B : Int) + Z + 0 := IntWalk.i64_in _ (by omega)
  have hb0 := un_below w (.int .i64 B) (.int .i64 Z) 25
  have hx := Go.Deep.blk_alloc_new w (.cells #[.int .i64 B, .int .i64 Z] 25)
  have hv : Hid (Rg.num B Z 0 = (B : Int) + Z + 0) := Lib.hid rfl
  clear ok b1
  go_enter Tryz.func73, Tryz.ntmps73
  go_upto_region 1 with (fail)
  generalize w.alloc (.cells #[.int .i64 B, .int .i64 Z] 25) = W at hb0 hx ⊢
  have x0 : W.cell? ⟨w.heap.size, 0, none⟩ = some (.int .i64 B) := by simp [World.cell?, hx]
  have x1 : W.cell? ⟨w.heap.size, 1, none⟩ = some (.int .i64 Z) := by simp [World.cell?, hx]
  clear hx
  go_wp2
  go_ret
  exact ⟨by rw [hv.out]; rfl, hb0⟩

set_option maxRecDepth 100000 in
theorem rgCopy (ok : Rg.Ok B Z) (w : World) : Calls Tryz.prog 49 #[.agg #[.int .i64 B, .int .i64 Z]] w (Made (.int .i64 (Rg.num B Z 8)) w) := by
  have b1 := ok.b1
  have e1 : IntKind.i64.wrap ((B : Int) + (Z : Int)) = (B : Int) + Z := IntWalk.i64_in _ (by omega)
  have e2 : IntKind.i64.wrap ((B : Int) + (Z : Int) + 8) = (B : Int) + Z + 8 := IntWalk.i64_in _ (by omega)
  have hb0 := un_below w (.int .i64 B) (.int .i64 Z) 25
  have hx := Go.Deep.blk_alloc_new w (.cells #[.int .i64 B, .int .i64 Z] 25)
  have hv : Hid (Rg.num B Z 8 = (B : Int) + Z + 8) := Lib.hid rfl
  clear ok b1
  go_enter Tryz.func49, Tryz.ntmps49
  go_upto_region 1 with (fail)
  generalize w.alloc (.cells #[.int .i64 B, .int .i64 Z] 25) = W at hb0 hx ⊢
  have x0 : W.cell? ⟨w.heap.size, 0, none⟩ = some (.int .i64 B) := by simp [World.cell?, hx]
  have x1 : W.cell? ⟨w.heap.size, 1, none⟩ = some (.int .i64 Z) := by simp [World.cell?, hx]
  clear hx
  go_wp2
  go_ret
  exact ⟨by rw [hv.out]; rfl, hb0⟩

set_option maxRecDepth 100000 in
theorem rgHead (ok : Rg.Ok B Z) (w : World) : Calls Tryz.prog 92 #[.agg #[.int .i64 B, .int .i64 Z]] w (Made (.int .i64 (Rg.num B Z 16)) w) := by
  have b1 := ok.b1
  have e1 : IntKind.i64.wrap ((B : Int) + (Z : Int)) = (B : Int) + Z := IntWalk.i64_in _ (by omega)
  have e2 : IntKind.i64.wrap ((B : Int) + (Z : Int) + 16) = (B : Int) + Z + 16 := IntWalk.i64_in _ (by omega)
  have hb0 := un_below w (.int .i64 B) (.int .i64 Z) 25
  have hx := Go.Deep.blk_alloc_new w (.cells #[.int .i64 B, .int .i64 Z] 25)
  have hv : Hid (Rg.num B Z 16 = (B : Int) + Z + 16) := Lib.hid rfl
  clear ok b1
  go_enter Tryz.func92, Tryz.ntmps92
  go_upto_region 1 with (fail)
  generalize w.alloc (.cells #[.int .i64 B, .int .i64 Z] 25) = W at hb0 hx ⊢
  have x0 : W.cell? ⟨w.heap.size, 0, none⟩ = some (.int .i64 B) := by simp [World.cell?, hx]
  have x1 : W.cell? ⟨w.heap.size, 1, none⟩ = some (.int .i64 Z) := by simp [World.cell?, hx]
  clear hx
  go_wp2
  go_ret
  exact ⟨by rw [hv.out]; rfl, hb0⟩

set_option maxRecDepth 100000 in
theorem rgPlace (ok : Rg.Ok B Z) (v : Int) (w : World) : Calls Tryz.prog 96 #[.agg #[.int .i64 B, .int .i64 Z], .int .i64 v] w (Made (.int .i64 (Rg.place Z v)) w) := by
  have hb0 := un_below w (.int .i64 B) (.int .i64 Z) 25
  have hx := Go.Deep.blk_alloc_new w (.cells #[.int .i64 B, .int .i64 Z] 25)
  have hv : Hid (Wd.mk v Z = Rg.place Z v) := Lib.hid (by unfold Wd.mk Rg.place; rw [if_pos ok.pow])
  have z1 := ok.z1
  clear ok
  go_enter Tryz.func96, Tryz.ntmps96
  go_upto_region 1 with (fail)
  generalize w.alloc (.cells #[.int .i64 B, .int .i64 Z] 25) = W at hb0 hx ⊢
  have x1 : W.cell? ⟨w.heap.size, 1, none⟩ = some (.int .i64 Z) := by simp [World.cell?, hx]
  clear hx
  go_wp2_with (go_at_call 106; refine (mask_any v Z _ (by omega) (by omega)).mono ?_; rintro e w2 ⟨rfl, rfl⟩)
  go_ret
  exact ⟨by rw [hv.out]; rfl, hb0⟩

set_option maxRecDepth 100000 in
theorem rgAt (ok : Rg.Ok B Z) (v : Int) (w : World) : Calls Tryz.prog 111 #[.agg #[.int .i64 B, .int .i64 Z], .int .i64 v] w (Made (.int .i64 (Rg.spot B Z v)) w) := by
  have hb0 := un_below w (.int .i64 B) (.int .i64 Z) 25
  have hx := Go.Deep.blk_alloc_new w (.cells #[.int .i64 B, .int .i64 Z] 25)
  have hp := ok.place_in v
  have b1 := ok.b1
  have e1 : IntKind.i64.wrap ((B : Int) + Rg.place Z v) = (B : Int) + Rg.place Z v := IntWalk.i64_in _ (by omega)
  have hv : Hid (Rg.spot B Z v = (B : Int) + Rg.place Z v) := Lib.hid rfl
  have HO := Lib.hid ok
  clear ok hp b1
  go_enter Tryz.func111, Tryz.ntmps111
  go_upto_region 1 with (fail)
  generalize w.alloc (.cells #[.int .i64 B, .int .i64 Z] 25) = W at hb0 hx ⊢
  have x0 : W.cell? ⟨w.heap.size, 0, none⟩ = some (.int .i64 B) := by simp [World.cell?, hx]
  have x1 : W.cell? ⟨w.heap.size, 1, none⟩ = some (.int .i64 Z) := by simp [World.cell?, hx]
  have hlt := (Array.getElem?_eq_some_iff.1 hx).1
  clear hx
  go_region_held3 (fun w' => w'.cell? ⟨w.heap.size, 0, none⟩ = some (.int .i64 B) ∧ w'.cell? ⟨w.heap.size, 1, none⟩ = some (.int .i64 Z)) (go_keep)
    (first | (go_at_call 96; refine (rgPlace HO.out v _).mono ?_; rintro e w2 ⟨rfl, hb⟩; have hb2 := below_drew hb; have k0 := (hb2.cell (p := ⟨w.heap.size, 0, none⟩) hlt).trans x0; have k1 := (hb2.cell (p := ⟨w.heap.size, 1, none⟩) hlt).trans x1))
  all_goals
    go_wp2
    go_ret
    exact ⟨by rw [hv.out]; rfl, hb0.trans (hb2.mono hb0.size)⟩
end

set_option maxRecDepth 100000 in
theorem stStore (P N : Int) (V : Nat) (w : World) : Calls Tryz.prog 105 #[.int .i64 P, .int .i64 N, .int .u64 V] w (Made (.agg #[.int .i64 2, .int .i64 P, .int .i64 N, .int .u64 V, .int .u64 0, .slice none 0 0]) w) := by
  have HA := AccNew.made w
  have HW := (Below.refl w.heap.size w).alloc (Nat.le_refl _) (.cells #[.int .i64 0, .int .i64 0, .int .i64 0, .int .u64 0, .int .u64 0, .slice none 0 0] 58)
  go_enter Tryz.func105, Tryz.ntmps105
  go_upto_region 1 with (fail)
  generalize w.alloc (.cells #[.int .i64 0, .int .i64 0, .int .i64 0, .int .u64 0, .int .u64 0, .slice none 0 0] 58) = W at HA HW ⊢
  obtain ⟨a0, a1, a2, a3, a4, a5, f0, f1, f2, f3, f4, f5, hbk⟩ := HA
  go_wp2
  refine bodyPost_ret (v := .agg #[.int .i64 2, .int .i64 P, .int .i64 N, .int .u64 V, .int .u64 0, .slice none 0 0]) (by simp [results, Tryz.results105, go_sem, a0, a1, a2, a3, a4, a5]) rfl ?_
  exact ⟨rfl, six_below HW (Nat.le_refl _) _ _ _ _ _ _⟩

set_option maxRecDepth 100000 in
theorem stLoad (P : Int) (w : World) : Calls Tryz.prog 48 #[.int .i64 P] w (Made (.agg #[.int .i64 1, .int .i64 P, .int .i64 8, .int .u64 0, .int .u64 0, .slice none 0 0]) w) := by
  have HA := AccNew.made w
  have HW := (Below.refl w.heap.size w).alloc (Nat.le_refl _) (.cells #[.int .i64 0, .int .i64 0, .int .i64 0, .int .u64 0, .int .u64 0, .slice none 0 0] 58)
  go_enter Tryz.func48, Tryz.ntmps48
  go_upto_region 1 with (fail)
  generalize w.alloc (.cells #[.int .i64 0, .int .i64 0, .int .i64 0, .int .u64 0, .int .u64 0, .slice none 0 0] 58) = W at HA HW ⊢
  obtain ⟨a0, a1, a2, a3, a4, a5, f0, f1, f2, f3, f4, f5, hbk⟩ := HA
  go_wp2
  refine bodyPost_ret (v := .agg #[.int .i64 1, .int .i64 P, .int .i64 8, .int .u64 0, .int .u64 0, .slice none 0 0]) (by simp [results, Tryz.results48, go_sem, a0, a1, a2, a3, a4, a5]) rfl ?_
  exact ⟨rfl, six_below HW (Nat.le_refl _) _ _ _ _ _ _⟩

set_option maxRecDepth 100000 in
theorem stSet (P : Int) (V : Nat) (w : World) : Calls Tryz.prog 94 #[.int .i64 P, .int .u64 V] w (Made (.agg #[.int .i64 2, .int .i64 P, .int .i64 8, .int .u64 V, .int .u64 0, .slice none 0 0]) w) := by
  have HA := Lib.hid (AccNew.made w)
  have HW := Lib.hid ((Below.refl w.heap.size w).alloc (Nat.le_refl _) (.cells #[.int .i64 0, .int .i64 0, .int .i64 0, .int .u64 0, .int .u64 0, .slice none 0 0] 58))
  go_enter Tryz.func94, Tryz.ntmps94
  go_upto_region 1 with (fail)
  generalize w.alloc (.cells #[.int .i64 0, .int .i64 0, .int .i64 0, .int .u64 0, .int .u64 0, .slice none 0 0] 58) = W at HA HW ⊢
  go_wp2_with (go_at_call 105; refine (stStore P 8 V _).mono ?_; rintro e w2 ⟨rfl, hb⟩; obtain ⟨a0, a1, a2, a3, a4, a5, f0, f1, f2, f3, f4, f5, hbk⟩ := HA.out.later hb)
  refine bodyPost_ret (v := .agg #[.int .i64 2, .int .i64 P, .int .i64 8, .int .u64 V, .int .u64 0, .slice none 0 0]) (by simp [results, Tryz.results94, go_sem, a0, a1, a2, a3, a4, a5]) rfl ?_
  exact ⟨rfl, six_below (HW.out.trans (hb.mono HW.out.size)) (Nat.le_refl _) _ _ _ _ _ _⟩

/-- The seven cells of the steps, from cell o of block g on, one after another. -/
def seven (w : World) (g o : Nat) (b : Ac) (bv th : Value) : World :=
  ((((((w.setCell ⟨g, o, none⟩ (.int .i64 b.K)).setCell ⟨g, o + 1, none⟩ (.int .i64 b.P)).setCell ⟨g, o + 2, none⟩ (.int .i64 b.N)).setCell ⟨g, o + 3, none⟩ (.int .u64 b.V)).setCell ⟨g, o + 4, none⟩ (.int .u64 b.U)).setCell ⟨g, o + 5, none⟩ bv).setCell ⟨g, o + 6, none⟩ th

/-- The steps stand in block g from cell o on. -/
structure StAt (w : World) (g o : Nat) (a : Ac) (av th : Value) : Prop where
  s0 : w.cell? ⟨g, o, none⟩ = some (.int .i64 a.K)
  s1 : w.cell? ⟨g, o + 1, none⟩ = some (.int .i64 a.P)
  s2 : w.cell? ⟨g, o + 2, none⟩ = some (.int .i64 a.N)
  s3 : w.cell? ⟨g, o + 3, none⟩ = some (.int .u64 a.V)
  s4 : w.cell? ⟨g, o + 4, none⟩ = some (.int .u64 a.U)
  s5 : w.cell? ⟨g, o + 5, none⟩ = some av
  s6 : w.cell? ⟨g, o + 6, none⟩ = some th
  free : ∀ i, w.frozen? ⟨g, i, none⟩ = false

theorem StAt.lt {w : World} {g o : Nat} {a : Ac} {av th : Value} (h : StAt w g o a av th) : g < w.heap.size := lt_of_cell h.s0
theorem StAt.below {w w' : World} {g o : Nat} {a : Ac} {av th : Value} (h : StAt w g o a av th) (hb : Below w.heap.size w w') : StAt w' g o a av th := by
  have hl := h.lt
  exact ⟨(hb.cell (p := ⟨g, _, none⟩) hl).trans h.s0, (hb.cell (p := ⟨g, _, none⟩) hl).trans h.s1, (hb.cell (p := ⟨g, _, none⟩) hl).trans h.s2, (hb.cell (p := ⟨g, _, none⟩) hl).trans h.s3, (hb.cell (p := ⟨g, _, none⟩) hl).trans h.s4, (hb.cell (p := ⟨g, _, none⟩) hl).trans h.s5, (hb.cell (p := ⟨g, _, none⟩) hl).trans h.s6, fun i => (hb.frozen (p := ⟨g, i, none⟩) hl).trans (h.free i)⟩

theorem seven_touch1 (w : World) (g o : Nat) (b : Ac) (bv th : Value) : Touch (fun k => k = g) w (seven w g o b bv th) :=
  (((((((Touch.refl (fun k => k = g) w).setCell (p := ⟨g, o, none⟩) rfl _).setCell (p := ⟨g, o + 1, none⟩) rfl _).setCell (p := ⟨g, o + 2, none⟩) rfl _).setCell (p := ⟨g, o + 3, none⟩) rfl _).setCell (p := ⟨g, o + 4, none⟩) rfl _).setCell (p := ⟨g, o + 5, none⟩) rfl _).setCell (p := ⟨g, o + 6, none⟩) rfl _

/-- An access was asked for. -/
def StAsked (g o : Nat) (b : Ac) (bv th : Value) (w : World) (e : Ending) (w' : World) : Prop :=
  e = .returned (.tuple #[]) ∧ ∃ W, Below w.heap.size w W ∧ w' = seven W g o b bv th

set_option maxRecDepth 100000 in
set_option maxHeartbeats 800000 in
theorem stDo {w : World} {g o : Nat} {a : Ac} {av th : Value} (h : StAt w g o a av th) (b : Ac) (A : Option Addr) (l c : Nat) (k : FuncId) (rc caps : Array Value) :
    Calls Tryz.prog 47 #[.pointer (some ⟨g, o, none⟩), .agg #[.int .i64 b.K, .int .i64 b.P, .int .i64 b.N, .int .u64 b.V, .int .u64 b.U, .slice A l c], .func (.func k) rc caps] w (StAsked g o b (.slice A l c) (.func (.func k) rc caps) w) := by
  have hw := (Below.refl w.heap.size w).alloc (Nat.le_refl _) (.cells #[.int .i64 b.K, .int .i64 b.P, .int .i64 b.N, .int .u64 b.V, .int .u64 b.U, .slice A l c] 58)
  have hb := Go.Deep.blk_alloc_new w (.cells #[.int .i64 b.K, .int .i64 b.P, .int .i64 b.N, .int .u64 b.V, .int .u64 b.U, .slice A l c] 58)
  have HR := h.below hw
  have hlt := h.lt
  have HW := Lib.hid hw
  clear h hw
  go_enter Tryz.func47, Tryz.ntmps47
  go_upto_region 1 with (fail)
  generalize w.alloc (.cells #[.int .i64 b.K, .int .i64 b.P, .int .i64 b.N, .int .u64 b.V, .int .u64 b.U, .slice A l c] 58) = W at hb HR HW ⊢
  have d0 : W.cell? ⟨w.heap.size, 0, none⟩ = some (.int .i64 b.K) := by simp [World.cell?, hb]
  have d1 : W.cell? ⟨w.heap.size, 1, none⟩ = some (.int .i64 b.P) := by simp [World.cell?, hb]
  have d2 : W.cell? ⟨w.heap.size, 2, none⟩ = some (.int .i64 b.N) := by simp [World.cell?, hb]
  have d3 : W.cell? ⟨w.heap.size, 3, none⟩ = some (.int .u64 b.V) := by simp [World.cell?, hb]
  have d4 : W.cell? ⟨w.heap.size, 4, none⟩ = some (.int .u64 b.U) := by simp [World.cell?, hb]
  have d5 : W.cell? ⟨w.heap.size, 5, none⟩ = some (.slice A l c) := by simp [World.cell?, hb]
  clear hb
  obtain ⟨k9, k10, k11, k12, k13, k14, k15, fr⟩ := HR
  have f9 := fr o
  have f10 := fr (o + 1)
  have f11 := fr (o + 2)
  have f12 := fr (o + 3)
  have f13 := fr (o + 4)
  have f14 := fr (o + 5)
  have f15 := fr (o + 6)
  clear fr
  go_wp2
  go_end0
  exact ⟨rfl, W, HW.out, rfl⟩

theorem st_isFunc (w : World) (f : Fn) (rc caps : Array Value) : (binOp .neq 48 (.func f rc caps) .nilFunc).run Tryz.prog w = .ok (.bool true) w := by kernel_rfl
theorem st_isNil (w : World) : (binOp .neq 48 .nilFunc .nilFunc).run Tryz.prog w = .ok (.bool false) w := by kernel_rfl

set_option maxRecDepth 100000 in
theorem stBusyYes {w : World} {g o : Nat} (k : FuncId) (rc caps : Array Value) (h : w.cell? ⟨g, o + 6, none⟩ = some (.func (.func k) rc caps)) :
    Calls Tryz.prog 27 #[.pointer (some ⟨g, o, none⟩)] w (fun e w' => e = .returned (.bool true) ∧ w = w') := by
  have q1 := st_isFunc
  have q2 := st_isNil
  go_enter Tryz.func27, Tryz.ntmps27
  go_wp2
  go_ret
  exact ⟨rfl, rfl⟩

set_option maxRecDepth 100000 in
theorem stBusyNo {w : World} {g o : Nat} (h : w.cell? ⟨g, o + 6, none⟩ = some .nilFunc) :
    Calls Tryz.prog 27 #[.pointer (some ⟨g, o, none⟩)] w (fun e w' => e = .returned (.bool false) ∧ w = w') := by
  have q1 := st_isFunc
  have q2 := st_isNil
  go_enter Tryz.func27, Tryz.ntmps27
  go_wp2
  go_ret
  exact ⟨rfl, rfl⟩

set_option maxRecDepth 100000 in
set_option maxHeartbeats 800000 in
theorem stNextNo {w : World} {g o : Nat} (h : w.cell? ⟨g, o + 6, none⟩ = some .nilFunc) :
    Calls Tryz.prog 42 #[.pointer (some ⟨g, o, none⟩)] w (NextTold none w) := by
  have HA := AccNew.made w
  have HW := Lib.hid ((Below.refl w.heap.size w).alloc (Nat.le_refl _) (.cells #[.int .i64 0, .int .i64 0, .int .i64 0, .int .u64 0, .int .u64 0, .slice none 0 0] 58))
  have h6 := (HW.out.cell (p := ⟨g, o + 6, none⟩) (lt_of_cell h)).trans h
  clear h
  go_enter Tryz.func42, Tryz.ntmps42
  go_upto_region 1 with (fail)
  generalize w.alloc (.cells #[.int .i64 0, .int .i64 0, .int .i64 0, .int .u64 0, .int .u64 0, .slice none 0 0] 58) = W at HA HW h6 ⊢
  obtain ⟨a0, a1, a2, a3, a4, a5, f0, f1, f2, f3, f4, f5, hbk⟩ := HA
  go_wp2_with (go_at_call 27; refine (stBusyNo h6).mono ?_; rintro e w2 ⟨rfl, rfl⟩)
  refine bodyPost_ret (v := .tuple #[.agg #[.int .i64 0, .int .i64 0, .int .i64 0, .int .u64 0, .int .u64 0, .slice none 0 0], .bool false]) (by simp [results, Tryz.results42, go_sem, a0, a1, a2, a3, a4, a5]) rfl ?_
  exact ⟨six_below HW.out (Nat.le_refl _) _ _ _ _ _ _, rfl⟩

set_option maxRecDepth 100000 in
set_option maxHeartbeats 1600000 in
theorem stNextYes {w : World} {g o : Nat} {a : Ac} {A : Option Addr} {l c : Nat} {k : FuncId} {rc caps : Array Value} (h : StAt w g o a (.slice A l c) (.func (.func k) rc caps)) (hb : BytesAt w (.slice A l c) a.bs) (hl : a.bs.length ≤ 1073741824) :
    Calls Tryz.prog 42 #[.pointer (some ⟨g, o, none⟩)] w (NextTold (some a) w) := by
  have HA := Lib.hid (AccNew.made w)
  have HW := Lib.hid ((Below.refl w.heap.size w).alloc (Nat.le_refl _) (.cells #[.int .i64 0, .int .i64 0, .int .i64 0, .int .u64 0, .int .u64 0, .slice none 0 0] 58))
  have HS := h.below HW.out
  have HBy := Lib.hid (hb.below HW.out)
  have hlen : a.bs.length = l := by obtain ⟨_, _, e, _⟩ := hb; injection e with _ e _; exact e.symm
  have HL := Lib.hid (show l ≤ 1073741824 by omega)
  have hlt := h.lt
  clear h hb hl hlen
  go_enter Tryz.func42, Tryz.ntmps42
  go_upto_region 1 with (fail)
  have hsz : (w.alloc (.cells #[.int .i64 0, .int .i64 0, .int .i64 0, .int .u64 0, .int .u64 0, .slice none 0 0] 58)).heap.size = w.heap.size + 1 := by simp
  generalize w.alloc (.cells #[.int .i64 0, .int .i64 0, .int .i64 0, .int .u64 0, .int .u64 0, .slice none 0 0] 58) = W at HA HW HS HBy hsz ⊢
  obtain ⟨k0, k1, k2, k3, k4, k5, k6, _⟩ := HS
  go_upto_region 4 with (go_at_call 27; refine (stBusyYes k rc caps k6).mono ?_; rintro e w2 ⟨rfl, rfl⟩)
  have hx := Go.Deep.blk_alloc_new W (.cells #[.int .i64 a.K, .int .i64 a.P, .int .i64 a.N, .int .u64 a.V, .int .u64 a.U, .slice A l c] 58)
  have hW2 := (Below.refl W.heap.size W).alloc (Nat.le_refl _) (.cells #[.int .i64 a.K, .int .i64 a.P, .int .i64 a.N, .int .u64 a.V, .int .u64 a.U, .slice A l c] 58)
  rw [hsz] at hx
  have HA2 := Lib.hid (HA.out.later hW2)
  have HW2 := Lib.hid (HW.out.trans (hW2.mono HW.out.size))
  have HB2 := Lib.hid (HBy.out.below hW2)
  clear k0 k1 k2 k3 k4 k5 k6 hW2 HBy HA HW
  generalize W.alloc (.cells #[.int .i64 a.K, .int .i64 a.P, .int .i64 a.N, .int .u64 a.V, .int .u64 a.U, .slice A l c] 58) = W2 at hx HA2 HW2 HB2 ⊢
  have hlx := (Array.getElem?_eq_some_iff.1 hx).1
  have x5 : W2.cell? ⟨w.heap.size + 1, 5, none⟩ = some (.slice A l c) := by simp [World.cell?, hx]
  have HX := Lib.hid hx
  clear hx
  go_wp2_with fail
  refine (clone_sl A l c a.bs W2 HB2.out HL.out).mono ?_
  rintro e w3 ⟨A2, c2, rfl, ho2, hb2⟩
  obtain ⟨a0, a1, a2, a3, a4, a5, f0, f1, f2, f3, f4, f5, hbk⟩ := HA2.out.later hb2
  have hq := (hb2.block _ hlx).trans HX.out
  have x0 : w3.cell? ⟨w.heap.size + 1, 0, none⟩ = some (.int .i64 a.K) := by simp [World.cell?, hq]
  have x1 : w3.cell? ⟨w.heap.size + 1, 1, none⟩ = some (.int .i64 a.P) := by simp [World.cell?, hq]
  have x2 : w3.cell? ⟨w.heap.size + 1, 2, none⟩ = some (.int .i64 a.N) := by simp [World.cell?, hq]
  have x3 : w3.cell? ⟨w.heap.size + 1, 3, none⟩ = some (.int .u64 a.V) := by simp [World.cell?, hq]
  have x4 : w3.cell? ⟨w.heap.size + 1, 4, none⟩ = some (.int .u64 a.U) := by simp [World.cell?, hq]
  have y5 : w3.cell? ⟨w.heap.size + 1, 5, none⟩ = some (.slice A l c) := by simp [World.cell?, hq]
  have z5 : w3.frozen? ⟨w.heap.size + 1, 5, none⟩ = false := by simp [World.frozen?, hq]
  have hl3 : w.heap.size + 1 < w3.heap.size := Nat.lt_of_lt_of_le hlx hb2.size
  have HO2 := Lib.hid ho2
  have HB3 := Lib.hid hb2
  clear hq hbk ho2 hb2
  go_wp2_with fail
  refine bodyPost_ret (v := .tuple #[.agg #[.int .i64 a.K, .int .i64 a.P, .int .i64 a.N, .int .u64 a.V, .int .u64 a.U, .slice A2 l c2], .bool true]) (by simp [results, Tryz.results42, go_sem, a0, a1, a2, a3, a4, a5]) rfl ?_
  have hB3 := (HW2.out.trans (HB3.out.mono HW2.out.size)).setCell (p := ⟨w.heap.size + 1, 5, none⟩) (Nat.le_succ _) (.slice A2 l c2)
  have hO3 := HO2.out.setCell (p := ⟨w.heap.size + 1, 5, none⟩) hlx (.slice A2 l c2)
  exact ⟨six_below hB3 (Nat.le_refl _) _ _ _ _ _ _, A2, l, c2, rfl, (six_own hO3 (Nat.lt_of_succ_lt hlx) _ _ _ _ _ _).down HW2.out.size⟩

set_option maxRecDepth 100000 in
set_option maxHeartbeats 800000 in
theorem stTakeNo {w : World} {g o : Nat} (h : w.cell? ⟨g, o + 6, none⟩ = some .nilFunc) (V : Nat) (D : Bool) (A : Option Addr) (l c : Nat) :
    Calls Tryz.prog 36 #[.pointer (some ⟨g, o, none⟩), .agg #[.int .u64 V, .bool D, .slice A l c]] w (fun e w' => e = .returned (.tuple #[]) ∧ Below w.heap.size w w') := by
  have HW := Lib.hid ((Below.refl w.heap.size w).alloc (Nat.le_refl _) (.cells #[.int .u64 V, .bool D, .slice A l c] 50))
  have h6 := (HW.out.cell (p := ⟨g, o + 6, none⟩) (lt_of_cell h)).trans h
  clear h
  go_enter Tryz.func36, Tryz.ntmps36
  go_upto_region 1 with (fail)
  generalize w.alloc (.cells #[.int .u64 V, .bool D, .slice A l c] 50) = W at HW h6 ⊢
  go_wp2_with (go_at_call 27; refine (stBusyNo h6).mono ?_; rintro e w2 ⟨rfl, rfl⟩)
  refine bodyPost_ret (v := .tuple #[]) (by simp [results, Tryz.results36, go_sem]) rfl ?_
  exact ⟨rfl, HW.out⟩

set_option maxRecDepth 100000 in
set_option maxHeartbeats 1600000 in
theorem stTakeYes {w : World} {g o : Nat} {a : Ac} {av : Value} {k : FuncId} {rc caps : Array Value} (h : StAt w g o a av (.func (.func k) rc caps)) (V : Nat) (D : Bool) (A : Option Addr) (l c : Nat) {Q : World → Prop}
    (args : Array Value) (hargs : rc.push (.agg #[.int .u64 V, .bool D, .slice A l c]) ++ caps = args) (hent : ∀ w, (callFunc k args).run Tryz.prog w = .ok (.enter k args) w)
    (H : ∀ W, Below w.heap.size w W → Calls Tryz.prog k args (seven W g o Ac.zero (.slice none 0 0) .nilFunc) fun e w' => e = .returned (.tuple #[]) ∧ Q w') :
    Calls Tryz.prog 36 #[.pointer (some ⟨g, o, none⟩), .agg #[.int .u64 V, .bool D, .slice A l c]] w fun e w' => e = .returned (.tuple #[]) ∧ Q w' := by
  have HW := Lib.hid ((Below.refl w.heap.size w).alloc (Nat.le_refl _) (.cells #[.int .u64 V, .bool D, .slice A l c] 50))
  have hx := Go.Deep.blk_alloc_new w (.cells #[.int .u64 V, .bool D, .slice A l c] 50)
  have HS := h.below HW.out
  have hlt := h.lt
  clear h
  go_enter Tryz.func36, Tryz.ntmps36
  go_upto_region 1 with (fail)
  generalize w.alloc (.cells #[.int .u64 V, .bool D, .slice A l c] 50) = W at HW HS hx ⊢
  obtain ⟨k0, k1, k2, k3, k4, k5, k6, fr⟩ := HS
  have f9 := fr o
  have f10 := fr (o + 1)
  have f11 := fr (o + 2)
  have f12 := fr (o + 3)
  have f13 := fr (o + 4)
  have f14 := fr (o + 5)
  have f15 := fr (o + 6)
  have hne : ¬ g = w.heap.size := by omega
  have x0 : W.cell? ⟨w.heap.size, 0, none⟩ = some (.int .u64 V) := by simp [World.cell?, hx]
  have x1 : W.cell? ⟨w.heap.size, 1, none⟩ = some (.bool D) := by simp [World.cell?, hx]
  have x2 : W.cell? ⟨w.heap.size, 2, none⟩ = some (.slice A l c) := by simp [World.cell?, hx]
  clear fr hx
  have HC := H W HW.out
  unfold seven at HC
  have he := hent ((((((((W.setCell ⟨g, o, none⟩ (.int .i64 0)).setCell ⟨g, o + 1, none⟩ (.int .i64 0)).setCell ⟨g, o + 2, none⟩ (.int .i64 0)).setCell ⟨g, o + 3, none⟩ (.int .u64 0)).setCell ⟨g, o + 4, none⟩ (.int .u64 0)).setCell ⟨g, o + 5, none⟩ (.slice none 0 0)).setCell ⟨g, o + 6, none⟩ .nilFunc))
  go_wp2_with (go_at_call 27; refine (stBusyYes k rc caps k6).mono ?_; rintro e w2 ⟨rfl, rfl⟩)
  refine HC.mono ?_
  rintro e w2 ⟨rfl, hq⟩
  go_wp2_with fail
  go_end0
  exact ⟨rfl, hq⟩
end Go.Proofs.YtbfgbnalnjdheaaGreat
namespace Go.Proofs.YtbfgbnalnjdheaaGreat
open Go.RowKit

/-- api.ErrArg. -/
def errArg : Int := 1
def alE (n tz : Int) : Int := if Wd.alOk n tz = true then 0 else errArg

set_option maxHeartbeats 400000 in
theorem align_any (n tz : Int) (w : World) (h1 : tz ≤ 9223372036854775807) (h0 : -9223372036854775808 ≤ tz) :
    Calls Tryz.prog 72 #[.int .i64 n, .int .i64 tz] w fun e w' => e = .returned (.tuple #[.int .i64 (Wd.al n tz), .int .i64 (alE n tz)]) ∧ w = w' := by
  cases hp : Wd.isP tz with
  | true =>
    have hb := Wd.isP_bounds hp
    by_cases hn : 0 ≤ n ∧ n ≤ 4611686018427387904
    · obtain ⟨hn0, hn1⟩ := hn
      have hm := Wd.andNot_mask (n + tz - 1) tz hp (by omega) (by omega)
      have hok : Wd.alOk n tz = true := by unfold Wd.alOk; rw [hp]; simp [hn0, hn1]
      have e : Wd.al n tz = (n + tz - 1) / tz * tz := by unfold Wd.al; rw [if_pos hok]
      have e2 : alE n tz = 0 := by unfold alE; rw [if_pos hok]
      have HP := Lib.hid hp
      have HM := Lib.hid (e.trans hm.symm)
      have HE := Lib.hid e2
      obtain ⟨hb1, hb2⟩ := hb
      clear hp hm e e2 hok
      go_enter Tryz.func72, Tryz.ntmps72
      go_wp2_with (go_at_call 37; refine (isPower_any _ _ (by omega) (by omega)).mono ?_; rintro e w' ⟨rfl, rfl⟩; rw [HP.out])
      go_ret2
      refine ⟨ret_tup ?_ (by rw [HE.out]), rfl⟩
      show Wd.al n tz = bits BinOp.andNot IntKind.i64 (wrap64 (wrap64 (n + tz) - 1)) (tz - 1)
      have ew : wrap64 (wrap64 (n + tz) - 1) = n + tz - 1 := by unfold wrap64; omega
      rw [HM.out, ew]
    · have hok : Wd.alOk n tz = false := by unfold Wd.alOk; rw [hp]; simp; omega
      have e : Wd.al n tz = 0 := by unfold Wd.al; rw [hok]; rfl
      have e2 : alE n tz = 1 := by unfold alE; rw [hok]; rfl
      have HP := Lib.hid hp
      have HM := Lib.hid e
      have HE := Lib.hid e2
      clear hp e e2 hok
      by_cases hn0 : 0 ≤ n
      · have hn1 : 4611686018427387904 < n := by omega
        clear hn
        go_enter Tryz.func72, Tryz.ntmps72
        go_wp2_with (go_at_call 37; refine (isPower_any _ _ (by omega) (by omega)).mono ?_; rintro e w' ⟨rfl, rfl⟩; rw [HP.out])
        go_ret2
        exact ⟨by rw [HM.out, HE.out]; rfl, rfl⟩
      · have hn1 : n < 0 := by omega
        clear hn hn0
        go_enter Tryz.func72, Tryz.ntmps72
        go_wp2_with (go_at_call 37; refine (isPower_any _ _ (by omega) (by omega)).mono ?_; rintro e w' ⟨rfl, rfl⟩; rw [HP.out])
        go_ret2
        exact ⟨by rw [HM.out, HE.out]; rfl, rfl⟩
  | false =>
    have hok : Wd.alOk n tz = false := by unfold Wd.alOk; rw [hp]; rfl
    have e : Wd.al n tz = 0 := by unfold Wd.al; rw [hok]; rfl
    have e2 : alE n tz = 1 := by unfold alE; rw [hok]; rfl
    have HP := Lib.hid hp
    have HM := Lib.hid e
    have HE := Lib.hid e2
    clear hp e e2 hok
    go_enter Tryz.func72, Tryz.ntmps72
    go_wp2_with (go_at_call 37; refine (isPower_any _ _ (by omega) (by omega)).mono ?_; rintro e w' ⟨rfl, rfl⟩; rw [HP.out])
    go_ret2
    exact ⟨by rw [HM.out, HE.out]; rfl, rfl⟩

end Go.Proofs.YtbfgbnalnjdheaaGreat
namespace Go.Proofs.YtbfgbnalnjdheaaGreat
namespace Hd
open Go

/-- The number with its sign that four bytes tell. -/
def s32 (x : Int) : Int := if x % 4294967296 < 2147483648 then x % 4294967296 else x % 4294967296 - 4294967296
/-- A word of two numbers of four bytes. -/
def jn (l h : Int) : Int := l % 4294967296 + h % 4294967296 * 4294967296
/-- A frame's first word. -/
def fw (l v f t : Int) : Int := l % 4294967296 + v * 4294967296 + f * 1099511627776 + t * 281474976710656

theorem s32_wrap (x : Int) : IntKind.i32.wrap x = s32 x := by
  rw [IntKind.wrap_i32]
  unfold s32
  split <;> omega

theorem s32_wrap32 (x : Int) : RowKit.wrap32 x = s32 x := by
  unfold RowKit.wrap32 s32
  split <;> omega

theorem or_add (x y : Int) (n : Nat) (hn : n ≤ 64) (hx : 0 ≤ x) (hx1 : x < 2 ^ n) (hy : 0 ≤ y) (h : y * 2 ^ n < 18446744073709551616) :
    bits BinOp.or IntKind.u64 x (y * 2 ^ n) = x + y * 2 ^ n := by
  obtain ⟨a, rfl⟩ := Int.eq_ofNat_of_zero_le hx
  obtain ⟨c, rfl⟩ := Int.eq_ofNat_of_zero_le hy
  have e : (c : Int) * 2 ^ n = ((2 ^ n * c : Nat) : Int) := by rw [Int.natCast_mul, Int.mul_comm]; simp
  rw [e] at h ⊢
  have ha : a < 2 ^ n := by
    have : (a : Int) < ((2 ^ n : Nat) : Int) := by simpa using hx1
    omega
  have hle : 2 ^ n * c < 18446744073709551616 := by omega
  have h64 : 2 ^ n ≤ 2 ^ 64 := Nat.pow_le_pow_right (by decide) hn
  rw [u64_or_nat a _ (by omega) hle, Nat.or_comm, ← Nat.two_pow_add_eq_or_of_lt ha]
  omega

theorem u32_wrap (x : Int) : IntKind.u32.wrap x = x % 4294967296 := by
  simp [IntKind.wrap, IntKind.bits, IntKind.signed]

theorem u64_small (x : Int) (h0 : 0 ≤ x) (h1 : x < 18446744073709551616) : IntKind.u64.wrap x = x := by
  rw [IntKind.wrap_u64]; exact Int.emod_eq_of_lt h0 h1

/-- The word as the program joins it. -/
theorem jn_bits (l h : Int) : bits BinOp.or IntKind.u64 (IntKind.u64.wrap (IntKind.u32.wrap l)) (IntKind.u64.wrap (IntKind.u64.wrap (IntKind.u32.wrap h) * 2 ^ 32)) = jn l h := by
  rw [u32_wrap, u32_wrap, u64_small _ (by omega) (by omega), u64_small (h % 4294967296) (by omega) (by omega), u64_small _ (by omega) (by omega),
    or_add _ _ 32 (by omega) (by omega) (by omega) (by omega) (by omega)]
  rfl
theorem jn_bits' (l h : Int) : bits BinOp.or IntKind.u64 (l % 4294967296) (h % 4294967296 * 4294967296) = jn l h :=
  or_add (l % 4294967296) (h % 4294967296) 32 (by omega) (by omega) (by omega) (by omega) (by omega)
/-- A frame's first word, as the program joins it. -/
theorem fw_bits (l v f t : Int) (v0 : 0 ≤ v) (v1 : v ≤ 255) (f0 : 0 ≤ f) (f1 : f ≤ 255) (t0 : 0 ≤ t) (t1 : t ≤ 65535) :
    bits BinOp.or IntKind.u64 (bits BinOp.or IntKind.u64 (bits BinOp.or IntKind.u64 (IntKind.u64.wrap (IntKind.u32.wrap l)) (IntKind.u64.wrap (IntKind.u64.wrap v * 2 ^ 32)))
      (IntKind.u64.wrap (IntKind.u64.wrap f * 2 ^ 40))) (IntKind.u64.wrap (IntKind.u64.wrap t * 2 ^ 48)) = fw l v f t := by
  rw [u32_wrap, u64_small (l % 4294967296) (by omega) (by omega), u64_small v (by omega) (by omega), u64_small f (by omega) (by omega), u64_small t (by omega) (by omega),
    u64_small (v * 2 ^ 32) (by omega) (by omega), u64_small (f * 2 ^ 40) (by omega) (by omega), u64_small (t * 2 ^ 48) (by omega) (by omega),
    or_add _ _ 32 (by omega) (by omega) (by omega) (by omega) (by omega), or_add _ _ 40 (by omega) (by omega) (by omega) (by omega) (by omega),
    or_add _ _ 48 (by omega) (by omega) (by omega) (by omega) (by omega)]
  rfl

theorem fw_bits' (l v f t : Int) (v0 : 0 ≤ v) (v1 : v ≤ 255) (f0 : 0 ≤ f) (f1 : f ≤ 255) (t0 : 0 ≤ t) (t1 : t ≤ 65535) :
    bits BinOp.or IntKind.u64 (bits BinOp.or IntKind.u64 (bits BinOp.or IntKind.u64 (l % 4294967296) (v * 4294967296)) (f * 1099511627776)) (t * 281474976710656) = fw l v f t := by
  have e1 := or_add (l % 4294967296) v 32 (by omega) (by omega) (by omega) v0 (by omega)
  have e2 := or_add (l % 4294967296 + v * 4294967296) f 40 (by omega) (by omega) (by omega) f0 (by omega)
  have e3 := or_add (l % 4294967296 + v * 4294967296 + f * 1099511627776) t 48 (by omega) (by omega) (by omega) t0 (by omega)
  exact ((congrArg (fun x => bits BinOp.or IntKind.u64 (bits BinOp.or IntKind.u64 x (f * 1099511627776)) (t * 281474976710656)) e1).trans
    (congrArg (fun x => bits BinOp.or IntKind.u64 x (t * 281474976710656)) e2)).trans e3

theorem s32_eq (x y : Int) (h : x % 4294967296 = y % 4294967296) : s32 x = s32 y := by unfold s32; rw [h]
theorem s32_in (x : Int) (h0 : -2147483648 ≤ x) (h1 : x ≤ 2147483647) : s32 x = x := by unfold s32; split <;> omega
theorem s32_mod (x : Int) : s32 x % 4294967296 = x % 4294967296 := by unfold s32; split <;> omega
theorem s32_bounds (x : Int) : -2147483648 ≤ s32 x ∧ s32 x ≤ 2147483647 := by unfold s32; split <;> omega

/-- What a word tells that was joined of two numbers. -/
theorem jn_low (l h : Int) (l0 : -2147483648 ≤ l) (l1 : l ≤ 2147483647) : s32 (jn l h) = l := by
  unfold jn s32; split <;> omega
theorem jn_high (l h : Int) (h0 : -2147483648 ≤ h) (h1 : h ≤ 2147483647) : s32 (jn l h / 4294967296) = h := by
  unfold jn s32; split <;> omega
theorem jn_bounds (l h : Int) : 0 ≤ jn l h ∧ jn l h < 18446744073709551616 := by unfold jn; omega
/-- The word that what a word tells is joined to. -/
theorem jn_back (v : Int) (h0 : 0 ≤ v) (h1 : v < 18446744073709551616) : jn (s32 v) (s32 (v / 4294967296)) = v := by
  unfold jn; rw [s32_mod, s32_mod]; omega
theorem fw_bounds (l v f t : Int) (v0 : 0 ≤ v) (v1 : v ≤ 255) (f0 : 0 ≤ f) (f1 : f ≤ 255) (t0 : 0 ≤ t) (t1 : t ≤ 65535) : 0 ≤ fw l v f t ∧ fw l v f t < 18446744073709551616 := by unfold fw; omega
theorem fw_low (l v f t : Int) (l0 : -2147483648 ≤ l) (l1 : l ≤ 2147483647) : s32 (fw l v f t) = l := by
  unfold fw s32; split <;> omega
theorem fw_tells (l v f t : Int) (v0 : 0 ≤ v) (v1 : v ≤ 255) (f0 : 0 ≤ f) (f1 : f ≤ 255) (t0 : 0 ≤ t) (t1 : t ≤ 65535) :
    fw l v f t / 4294967296 % 256 = v ∧ fw l v f t / 1099511627776 % 256 = f ∧ fw l v f t / 281474976710656 % 65536 = t := by unfold fw; omega
theorem fw_back (w : Int) (h0 : 0 ≤ w) (h1 : w < 18446744073709551616) :
    fw (s32 w) (w / 4294967296 % 256) (w / 1099511627776 % 256) (w / 281474976710656 % 65536) = w := by
  unfold fw; rw [s32_mod]; omega
end Hd
end Go.Proofs.YtbfgbnalnjdheaaGreat
namespace Go.Proofs.YtbfgbnalnjdheaaGreat
open Go.RowKit

theorem ret_k {k : IntKind} {a b : Int} (h : b = a) : Ending.returned (.int k a) = .returned (.int k b) := by rw [h]
theorem ret_two {k l : IntKind} {a b c d : Int} (h : c = a) (h' : d = b) : Ending.returned (.tuple #[.int k a, .int l b]) = .returned (.tuple #[.int k c, .int l d]) := by rw [h, h']

theorem joined_any (l h : Int) (w : World) :
    Calls Tryz.prog 118 #[.int .i32 l, .int .i32 h] w fun e w' => e = .returned (.int .u64 (Hd.jn l h)) ∧ w = w' := by
  have H := Lib.hid (Hd.jn_bits' l h)
  go_enter Tryz.func118, Tryz.ntmps118
  go_wp2
  go_ret
  exact ⟨ret_k H.out.symm, rfl⟩

theorem record_any (l h : Int) (w : World) :
    Calls Tryz.prog 110 #[.int .i32 l, .int .i32 h] w fun e w' => e = .returned (.int .u64 (Hd.jn l h)) ∧ w = w' := by
  go_enter Tryz.func110, Tryz.ntmps110
  go_wp2_with (go_at_call 118; refine (joined_any _ _ _).mono ?_; rintro e w' ⟨rfl, rfl⟩)
  go_ret
  exact ⟨rfl, rfl⟩

/-- The flags. -/
def flg (a b : Bool) : Int := (if a then 128 else 0) + (if b then 64 else 0)

/-- What a header and n bytes take. -/
def szOk (n : Int) : Bool := decide (0 ≤ n) && decide (n ≤ 131072)
def sz (n head tz : Int) : Int := if szOk n = true then Wd.al (head + n) tz else 0
def szE (n head tz : Int) : Int := if szOk n = true then alE (head + n) tz else 1

theorem al_in (n tz : Int) (h : Wd.alOk n tz = true) : 0 ≤ Wd.al n tz ∧ Wd.al n tz ≤ 4611686018427387904 := by
  have hp : Wd.isP tz = true := by unfold Wd.alOk at h; simp at h; exact h.1
  have h0 : 0 ≤ n ∧ n ≤ 4611686018427387904 := by unfold Wd.alOk at h; simp at h; exact h.2
  obtain ⟨hd, hz, hs, hl⟩ := Wd.up_cases n tz hp h0.1 h0.2
  unfold Wd.al
  rw [if_pos h]
  by_cases he : n % tz = 0
  · rw [hz he]; exact h0
  · rw [hs he]
    have hb := Wd.isP_bounds hp
    exact ⟨Int.mul_nonneg (by omega) (by omega), (hl he).2⟩

theorem al_i64 (n tz : Int) : IntKind.i64.wrap (Wd.al n tz) = Wd.al n tz := by
  have hb : 0 ≤ Wd.al n tz ∧ Wd.al n tz ≤ 4611686018427387904 := by
    cases h : Wd.alOk n tz with
    | true => exact al_in n tz h
    | false =>
      have e : Wd.al n tz = 0 := by unfold Wd.al; rw [h]; rfl
      rw [e]
      exact ⟨by decide, by decide⟩
  exact IntWalk.i64_in _ (by omega)

set_option maxHeartbeats 400000 in
theorem filled_any (n head tz : Int) (w : World) (a0 : 0 ≤ head) (a1 : head ≤ 1000) (b0 : -9223372036854775808 ≤ tz) (b1 : tz ≤ 9223372036854775807) :
    Calls Tryz.prog 46 #[.int .i64 n, .int .i64 head, .int .i64 tz] w fun e w' => e = .returned (.tuple #[.int .i64 (sz n head tz), .int .i64 (szE n head tz)]) ∧ w = w' := by
  by_cases h0 : 0 ≤ n
  · by_cases h1 : n ≤ 131072
    · have hk : szOk n = true := by unfold szOk; simp [h0, h1]
      have e1 : sz n head tz = Wd.al (head + n) tz := by unfold sz; rw [if_pos hk]
      have e2 : szE n head tz = alE (head + n) tz := by unfold szE; rw [if_pos hk]
      rw [e1, e2]
      clear e1 e2 hk
      have hw : IntKind.i64.wrap (head + n) = head + n := IntWalk.i64_in _ (by omega)
      go_enter Tryz.func46, Tryz.ntmps46
      go_wp2_with (go_at_call 72; refine (align_any _ _ _ (by omega) (by omega)).mono ?_; rintro e w' ⟨rfl, rfl⟩)
      go_ret2
      exact ⟨rfl, rfl⟩
    · have hk : szOk n = false := by unfold szOk; simp; omega
      have e1 : sz n head tz = 0 := by unfold sz; rw [hk]; rfl
      have e2 : szE n head tz = 1 := by unfold szE; rw [hk]; rfl
      rw [e1, e2]
      have h1' : 131072 < n := by omega
      clear e1 e2 hk h1
      go_enter Tryz.func46, Tryz.ntmps46
      go_wp2
      go_ret2
      exact ⟨rfl, rfl⟩
  · have hk : szOk n = false := by unfold szOk; simp; omega
    have e1 : sz n head tz = 0 := by unfold sz; rw [hk]; rfl
    have e2 : szE n head tz = 1 := by unfold szE; rw [hk]; rfl
    rw [e1, e2]
    have h0' : n < 0 := by omega
    clear e1 e2 hk h0
    go_enter Tryz.func46, Tryz.ntmps46
    go_wp2
    go_ret2
    exact ⟨rfl, rfl⟩

theorem recordSize_any (n : Int) (w : World) :
    Calls Tryz.prog 23 #[.int .i64 n] w fun e w' => e = .returned (.tuple #[.int .i64 (sz n 8 8), .int .i64 (szE n 8 8)]) ∧ w = w' := by
  go_enter Tryz.func23, Tryz.ntmps23
  go_wp2_with (go_at_call 46; refine (filled_any _ 8 8 _ (by omega) (by omega) (by omega) (by omega)).mono ?_; rintro e w' ⟨rfl, rfl⟩)
  go_ret2
  exact ⟨rfl, rfl⟩

end Go.Proofs.YtbfgbnalnjdheaaGreat
namespace Go.Proofs.YtbfgbnalnjdheaaGreat
open Go.RowKit

/-- Where a put is. -/
inductive Ph where
  | ask | tail | head1 | copy1 | head2 (gap : Int) | copy2 (gap : Int) | cas (pad : Int) | padd (pad : Int) | hdr | byt (d : Nat) | len | fin

/-- A put: its ring, its type, its bytes; what it was told, what it claimed; where it is, and its fault. -/
structure Rs where
  B : Nat
  Z : Nat
  typ : Int
  f : Nat → Nat
  L : Nat
  h : Int
  t : Int
  p : Int
  cl : Bool
  ph : Ph
  er : Int

namespace Rs
/-- Bytes that a record takes. -/
def need (s : Rs) : Int := 8 * (((s.L + 15) / 8 : Nat) : Int)
/-- A number with its sign. -/
def wr (x : Int) : Int := wrap64 x
/-- A number without. -/
def un (x : Int) : Nat := (x % 18446744073709551616).toNat
def place (s : Rs) (v : Int) : Int := Rg.place s.Z v
def fits (s : Rs) : Bool := decide (s.need ≤ wr ((s.Z : Int) - wr (s.t - s.h)))
def ahead (s : Rs) : Bool := decide (s.need ≤ s.place s.h)
def gap (s : Rs) : Int := (s.Z : Int) - s.place s.t
def num (s : Rs) (k : Int) : Int := Rg.num s.B s.Z k
def spot (s : Rs) (v : Int) : Int := Rg.spot s.B s.Z v
/-- The access that a put is at. -/
def next (s : Rs) : Option Ac :=
  match s.ph with
  | .ask => some ⟨1, s.num 8, 8, 0, 0, []⟩
  | .tail => some ⟨1, s.num 0, 8, 0, 0, []⟩
  | .head1 | .head2 _ => some ⟨1, s.num 16, 8, 0, 0, []⟩
  | .copy1 | .copy2 _ => some ⟨2, s.num 8, 8, un s.h, 0, []⟩
  | .cas pad => some ⟨4, s.num 0, 8, un s.t, un (wr (wr (s.t + s.need) + pad)), []⟩
  | .padd pad => some ⟨2, s.spot s.t, 8, (Hd.jn pad (-1)).toNat, 0, []⟩
  | .hdr => some ⟨2, s.spot s.p, 8, (Hd.jn (-(8 + (s.L : Int))) s.typ).toNat, 0, []⟩
  | .byt d => some ⟨6, s.spot s.p + 8 + (d : Nat), (Cy.nx (s.L - d) : Nat), 0, 0, Mb.bl s.f d (Cy.nx (s.L - d))⟩
  | .len => some ⟨2, s.spot s.p, 4, 8 + s.L, 0, []⟩
  | .fin => none
/-- Room was found at the tail: the claim there, or one behind padding, or the head is asked. -/
def choose (s : Rs) : Rs := if s.need ≤ s.gap then { s with ph := .cas 0 } else if s.ahead = true then { s with ph := .cas s.gap } else { s with ph := .head2 s.gap }
/-- An answer is taken. -/
def take (s : Rs) (x : An) : Rs :=
  match s.ph with
  | .ask => { s with h := wr x.V, ph := .tail }
  | .tail => if ({ s with t := wr x.V } : Rs).fits = true then ({ s with t := wr x.V } : Rs).choose else { s with t := wr x.V, ph := .head1 }
  | .head1 => if ({ s with h := wr x.V } : Rs).fits = true then { s with h := wr x.V, ph := .copy1 } else { s with h := wr x.V, ph := .fin, er := 5 }
  | .copy1 => s.choose
  | .head2 gap => if ({ s with h := wr x.V } : Rs).ahead = true then { s with h := wr x.V, ph := .copy2 gap } else { s with h := wr x.V, ph := .fin, er := 5 }
  | .copy2 gap => { s with ph := .cas gap }
  | .cas pad => if x.D = false then { s with ph := .tail } else if pad = 0 then { s with p := wr (s.t + pad), cl := true, ph := .hdr } else { s with p := wr (s.t + pad), cl := true, ph := .padd pad }
  | .padd _ => { s with ph := .hdr }
  | .hdr => if s.L = 0 then { s with ph := .len } else { s with ph := .byt 0 }
  | .byt d => if d + Cy.nx (s.L - d) = s.L then { s with ph := .len } else { s with ph := .byt (d + Cy.nx (s.L - d)) }
  | .len => { s with ph := .fin }
  | .fin => s

/-- What holds of a put at any time. -/
structure Ok (s : Rs) : Prop where
  pow : Wd.isP s.Z = true
  z0 : 64 ≤ s.Z
  z1 : s.Z ≤ 8192
  b0 : s.B % 8 = 0
  b1 : s.B + s.Z + 32 ≤ 131072
  t0 : 1 ≤ s.typ
  t1 : s.typ ≤ 2147483647
  few : 8 * s.L ≤ s.Z
  isB : Mb.IsB s.f
  h0 : -9223372036854775808 ≤ s.h ∧ s.h ≤ 9223372036854775807
  tl : -9223372036854775808 ≤ s.t ∧ s.t ≤ 9223372036854775807
  ps : -9223372036854775808 ≤ s.p ∧ s.p ≤ 9223372036854775807

theorem wr_in (x : Int) : -9223372036854775808 ≤ wr x ∧ wr x ≤ 9223372036854775807 := by
  unfold wr wrap64
  omega
theorem Ok.rg {s : Rs} (ok : s.Ok) : Rg.Ok s.B s.Z := ⟨ok.pow, ok.z0, ok.z1, ok.b0, ok.b1⟩
theorem Ok.place_in {s : Rs} (ok : s.Ok) (v : Int) : 0 ≤ s.place v ∧ s.place v < s.Z := ok.rg.place_in v
end Rs

/-- A put's block: its fields, the access that it is at, what goes on from its answer. -/
def RpCells (s : Rs) (dv : Value) (a : Ac) (av th : Value) : Array Value :=
  #[.int .i64 s.B, .int .i64 s.Z, .int .i32 s.typ, dv, .int .i64 s.need, .int .i64 a.K, .int .i64 a.P, .int .i64 a.N, .int .u64 a.V, .int .u64 a.U, av, th, .int .i64 s.h, .int .i64 s.t, .int .i64 s.p, .bool s.cl, .int .i64 s.er]
/-- A put stands in block g. -/
def RpBlk (w : World) (g : Nat) (s : Rs) (dv : Value) (a : Ac) (av th : Value) : Prop := w.heap[g]? = some (.cells (RpCells s dv a av th) 78 (0, 0))
end Go.Proofs.YtbfgbnalnjdheaaGreat
namespace Go.Proofs.YtbfgbnalnjdheaaGreat
open Go.RowKit

namespace RpBlk
variable {w w' : World} {g : Nat} {s : Rs} {dv av th : Value} {a : Ac}
theorem lt (h : RpBlk w g s dv a av th) : g < w.heap.size := (Array.getElem?_eq_some_iff.1 h).1
theorem below (h : RpBlk w g s dv a av th) (hb : Below w.heap.size w w') : RpBlk w' g s dv a av th := (hb.block g h.lt).trans h
theorem of_block (h : RpBlk w g s dv a av th) (hb : w'.heap[g]? = w.heap[g]?) : RpBlk w' g s dv a av th := hb.trans h
theorem c0 (h : RpBlk w g s dv a av th) : w.cell? ⟨g, 0, none⟩ = some (.int .i64 s.B) := by simp [World.cell?, show w.heap[g]? = _ from h, RpCells]
theorem c1 (h : RpBlk w g s dv a av th) : w.cell? ⟨g, 1, none⟩ = some (.int .i64 s.Z) := by simp [World.cell?, show w.heap[g]? = _ from h, RpCells]
theorem c2 (h : RpBlk w g s dv a av th) : w.cell? ⟨g, 2, none⟩ = some (.int .i32 s.typ) := by simp [World.cell?, show w.heap[g]? = _ from h, RpCells]
theorem c3 (h : RpBlk w g s dv a av th) : w.cell? ⟨g, 3, none⟩ = some (dv) := by simp [World.cell?, show w.heap[g]? = _ from h, RpCells]
theorem c4 (h : RpBlk w g s dv a av th) : w.cell? ⟨g, 4, none⟩ = some (.int .i64 s.need) := by simp [World.cell?, show w.heap[g]? = _ from h, RpCells]
theorem c5 (h : RpBlk w g s dv a av th) : w.cell? ⟨g, 5, none⟩ = some (.int .i64 a.K) := by simp [World.cell?, show w.heap[g]? = _ from h, RpCells]
theorem c6 (h : RpBlk w g s dv a av th) : w.cell? ⟨g, 6, none⟩ = some (.int .i64 a.P) := by simp [World.cell?, show w.heap[g]? = _ from h, RpCells]
theorem c7 (h : RpBlk w g s dv a av th) : w.cell? ⟨g, 7, none⟩ = some (.int .i64 a.N) := by simp [World.cell?, show w.heap[g]? = _ from h, RpCells]
theorem c8 (h : RpBlk w g s dv a av th) : w.cell? ⟨g, 8, none⟩ = some (.int .u64 a.V) := by simp [World.cell?, show w.heap[g]? = _ from h, RpCells]
theorem c9 (h : RpBlk w g s dv a av th) : w.cell? ⟨g, 9, none⟩ = some (.int .u64 a.U) := by simp [World.cell?, show w.heap[g]? = _ from h, RpCells]
theorem c10 (h : RpBlk w g s dv a av th) : w.cell? ⟨g, 10, none⟩ = some (av) := by simp [World.cell?, show w.heap[g]? = _ from h, RpCells]
theorem c11 (h : RpBlk w g s dv a av th) : w.cell? ⟨g, 11, none⟩ = some (th) := by simp [World.cell?, show w.heap[g]? = _ from h, RpCells]
theorem c12 (h : RpBlk w g s dv a av th) : w.cell? ⟨g, 12, none⟩ = some (.int .i64 s.h) := by simp [World.cell?, show w.heap[g]? = _ from h, RpCells]
theorem c13 (h : RpBlk w g s dv a av th) : w.cell? ⟨g, 13, none⟩ = some (.int .i64 s.t) := by simp [World.cell?, show w.heap[g]? = _ from h, RpCells]
theorem c14 (h : RpBlk w g s dv a av th) : w.cell? ⟨g, 14, none⟩ = some (.int .i64 s.p) := by simp [World.cell?, show w.heap[g]? = _ from h, RpCells]
theorem c15 (h : RpBlk w g s dv a av th) : w.cell? ⟨g, 15, none⟩ = some (.bool s.cl) := by simp [World.cell?, show w.heap[g]? = _ from h, RpCells]
theorem c16 (h : RpBlk w g s dv a av th) : w.cell? ⟨g, 16, none⟩ = some (.int .i64 s.er) := by simp [World.cell?, show w.heap[g]? = _ from h, RpCells]
theorem free (h : RpBlk w g s dv a av th) (i : Nat) : w.frozen? ⟨g, i, none⟩ = false := by simp [World.frozen?, show w.heap[g]? = _ from h]
theorem st (h : RpBlk w g s dv a av th) : StAt w g 5 a av th := ⟨h.c5, h.c6, h.c7, h.c8, h.c9, h.c10, h.c11, h.free⟩
end RpBlk

section
variable {w : World} {g : Nat} {s : Rs} {dv av th : Value} {a : Ac}

theorem rpTailC (ok : s.Ok) (w : World) : Calls Tryz.prog 73 #[.agg #[.int .i64 s.B, .int .i64 s.Z]] w (Made (.int .i64 (s.num 0)) w) := rgTail ok.rg w
theorem rpCopyC (ok : s.Ok) (w : World) : Calls Tryz.prog 49 #[.agg #[.int .i64 s.B, .int .i64 s.Z]] w (Made (.int .i64 (s.num 8)) w) := rgCopy ok.rg w
theorem rpHeadC (ok : s.Ok) (w : World) : Calls Tryz.prog 92 #[.agg #[.int .i64 s.B, .int .i64 s.Z]] w (Made (.int .i64 (s.num 16)) w) := rgHead ok.rg w
theorem rpPlaceC (ok : s.Ok) (v : Int) (w : World) : Calls Tryz.prog 96 #[.agg #[.int .i64 s.B, .int .i64 s.Z], .int .i64 v] w (Made (.int .i64 (s.place v)) w) := rgPlace ok.rg v w
theorem rpAtC (ok : s.Ok) (v : Int) (w : World) : Calls Tryz.prog 111 #[.agg #[.int .i64 s.B, .int .i64 s.Z], .int .i64 v] w (Made (.int .i64 (s.spot v)) w) := rgAt ok.rg v w

set_option maxRecDepth 100000 in
theorem rpFits (h : RpBlk w g s dv a av th) : Calls Tryz.prog 76 #[.pointer (some ⟨g, 0, none⟩)] w (Made (.bool s.fits) w) := by
  have c1 := h.c1
  have c4 := h.c4
  have c12 := h.c12
  have c13 := h.c13
  have hv : Hid (decide (s.need ≤ wrap64 ((s.Z : Int) - wrap64 (s.t - s.h))) = s.fits) := Lib.hid rfl
  clear h
  go_enter Tryz.func76, Tryz.ntmps76
  go_upto_region 1 with (fail)
  go_quiet (fail)
  go_wp2
  go_ret
  exact ⟨by rw [← hv.out]; rfl, drewN_below _ _⟩

set_option maxRecDepth 100000 in
theorem rpAhead (h : RpBlk w g s dv a av th) (ok : s.Ok) : Calls Tryz.prog 98 #[.pointer (some ⟨g, 0, none⟩)] w (Made (.bool s.ahead) w) := by
  have c0 := h.c0
  have c1 := h.c1
  have c4 := h.c4
  have c12 := h.c12
  have hv : Hid (decide (s.need ≤ s.place s.h) = s.ahead) := Lib.hid rfl
  have HO := Lib.hid ok
  have hlt := h.lt
  clear h ok
  go_enter Tryz.func98, Tryz.ntmps98
  go_upto_region 1 with (fail)
  go_region_held3 (fun w' => w'.cell? ⟨g, 0, none⟩ = some (.int .i64 s.B) ∧ w'.cell? ⟨g, 1, none⟩ = some (.int .i64 s.Z) ∧ w'.cell? ⟨g, 4, none⟩ = some (.int .i64 s.need) ∧ w'.cell? ⟨g, 12, none⟩ = some (.int .i64 s.h)) (go_keep)
    (first | (go_at_call 96; refine (rpPlaceC HO.out s.h _).mono ?_; rintro e w2 ⟨rfl, hb⟩; have hb2 := below_drew hb; have k0 := (hb2.cell (p := ⟨g, 0, none⟩) hlt).trans c0; have k1 := (hb2.cell (p := ⟨g, 1, none⟩) hlt).trans c1; have k4 := (hb2.cell (p := ⟨g, 4, none⟩) hlt).trans c4; have k5 := (hb2.cell (p := ⟨g, 12, none⟩) hlt).trans c12))
  all_goals
    go_wp2
    go_ret
    exact ⟨by rw [← hv.out]; rfl, hb2⟩

/-- What 'Do' leaves: another access is asked for, something else goes on from its answer. -/
def RpAsked (g : Nat) (s : Rs) (dv : Value) (a : Ac) (av th : Value) (w : World) (e : Ending) (w' : World) : Prop :=
  e = .returned (.tuple #[]) ∧ RpBlk w' g s dv a av th ∧ Touch (fun k => k = g) w w'

theorem rp_seven {w : World} {g : Nat} {s : Rs} {dv av th : Value} {a : Ac} (h : RpBlk w g s dv a av th) (b : Ac) (bv th' : Value) :
    RpBlk (seven w g 5 b bv th') g s dv b bv th' := by
  have h' : w.heap[g]? = some (.cells (RpCells s dv a av th) 78 (0, 0)) := h
  unfold RpBlk seven
  simp [World.setCell, Array.getElem?_modify, h', RpCells]

theorem rp_st {w w' : World} {g : Nat} {s : Rs} {dv av th : Value} {a b : Ac} {bv th' : Value} {e : Ending} (h : RpBlk w g s dv a av th) (hs : StAsked g 5 b bv th' w e w') : RpAsked g s dv b bv th' w e w' := by
  obtain ⟨rfl, W, hb, rfl⟩ := hs
  exact ⟨rfl, rp_seven (h.below hb) b bv th', (Touch.of_below hb).trans (seven_touch1 W g 5 b bv th')⟩

theorem rpDo (h : RpBlk w g s dv a av th) (b : Ac) (A : Option Addr) (l c : Nat) (k : FuncId) (rc caps : Array Value) :
    Calls Tryz.prog 47 #[.pointer (some ⟨g, 5, none⟩), .agg #[.int .i64 b.K, .int .i64 b.P, .int .i64 b.N, .int .u64 b.V, .int .u64 b.U, .slice A l c], .func (.func k) rc caps] w (RpAsked g s dv b (.slice A l c) (.func (.func k) rc caps) w) :=
  (stDo h.st b A l c k rc caps).mono fun _ _ hs => rp_st h hs

theorem un_wrap (x : Int) : IntKind.u64.wrap x = ((Rs.un x : Nat) : Int) := by
  have h : 0 ≤ x % 18446744073709551616 := Int.emod_nonneg _ (by decide)
  unfold Rs.un
  rw [Int.toNat_of_nonneg h]
  simp [IntKind.wrap, IntKind.signed, IntKind.bits]

set_option maxRecDepth 100000 in
set_option maxHeartbeats 800000 in
theorem rpAdvance (h : RpBlk w g s dv a av th) (ok : s.Ok) (pad : Int) :
    Calls Tryz.prog 107 #[.pointer (some ⟨g, 0, none⟩), .int .i64 pad] w (Made (.agg #[.int .i64 4, .int .i64 (s.num 0), .int .i64 8, .int .u64 (Rs.un s.t : Nat), .int .u64 (Rs.un (Rs.wr (Rs.wr (s.t + s.need) + pad)) : Nat), .slice none 0 0]) w) := by
  have HA := Lib.hid (AccNew.made w)
  have HW := Lib.hid ((Below.refl w.heap.size w).alloc (Nat.le_refl _) (.cells #[.int .i64 0, .int .i64 0, .int .i64 0, .int .u64 0, .int .u64 0, .slice none 0 0] 58))
  have hb0 := (Below.refl w.heap.size w).alloc (Nat.le_refl _) (.cells #[.int .i64 0, .int .i64 0, .int .i64 0, .int .u64 0, .int .u64 0, .slice none 0 0] 58)
  have HR := Lib.hid (h.below hb0)
  have HO := Lib.hid ok
  have hu1 : IntKind.u64.wrap s.t = ((Rs.un s.t : Nat) : Int) := un_wrap _
  have hu2 : IntKind.u64.wrap (IntKind.i64.wrap (IntKind.i64.wrap (s.t + s.need) + pad)) = ((Rs.un (Rs.wr (Rs.wr (s.t + s.need) + pad)) : Nat) : Int) := by rw [IntWalk.i64_left, IntWalk.i64_left]; exact un_wrap _
  have hlt0 := h.lt
  have hgn : ¬ g = w.heap.size := by omega
  have hgn2 : ¬ w.heap.size = g := by omega
  clear h ok hb0
  go_enter Tryz.func107, Tryz.ntmps107
  go_upto_region 1 with (fail)
  generalize w.alloc (.cells #[.int .i64 0, .int .i64 0, .int .i64 0, .int .u64 0, .int .u64 0, .slice none 0 0] 58) = W at HA HW HR ⊢
  have k0 := HR.out.c0
  have k1 := HR.out.c1
  have k3 := HR.out.c4
  have k5 := HR.out.c13
  have hlt := HR.out.lt
  go_region_held3 (fun w' => w'.cell? ⟨g, 0, none⟩ = some (.int .i64 s.B) ∧ w'.cell? ⟨g, 1, none⟩ = some (.int .i64 s.Z) ∧ w'.cell? ⟨g, 4, none⟩ = some (.int .i64 s.need) ∧ w'.cell? ⟨g, 13, none⟩ = some (.int .i64 s.t)) (go_keep)
    (first | (go_at_call 73; refine (rpTailC HO.out _).mono ?_; rintro e w2 ⟨rfl, hb⟩; have hb2 := below_drew hb; have m0 := (hb2.cell (p := ⟨g, 0, none⟩) hlt).trans k0; have m1 := (hb2.cell (p := ⟨g, 1, none⟩) hlt).trans k1; have m4 := (hb2.cell (p := ⟨g, 4, none⟩) hlt).trans k3; have m6 := (hb2.cell (p := ⟨g, 13, none⟩) hlt).trans k5; obtain ⟨a0, a1, a2, a3, a4, a5, f0, f1, f2, f3, f4, f5, hbk⟩ := HA.out.later hb2))
  all_goals
    go_wp2
    refine bodyPost_ret (v := .agg #[.int .i64 4, .int .i64 (s.num 0), .int .i64 8, .int .u64 (Rs.un s.t : Nat), .int .u64 (Rs.un (Rs.wr (Rs.wr (s.t + s.need) + pad)) : Nat), .slice none 0 0]) (by simp [results, Tryz.results107, go_sem, a0, a1, a2, a3, a4, a5]) rfl ?_
    exact ⟨rfl, six_below (HW.out.trans (hb2.mono HW.out.size)) (Nat.le_refl _) _ _ _ _ _ _⟩
end
end Go.Proofs.YtbfgbnalnjdheaaGreat
