/-
  Layer 6's plain facts: accesses, answers, events; what an access does to a buffer's bytes; what a pick does to a scheduler's state.
  Layer 6's machines, as far as this seat reaches them: what each does next, what it does with an answer, where it stands in memory.
  Layer 6's next: a machine's next access, asked through the interface, its bytes in new memory.
  Layer 6's events: twelve cells in a block; one copied, its bytes in new memory.
-/
import Derived.Test.YtijgfaggakbajaaMembufOps
import Derived.Test.YtijgfaggakbajaaSchCatch
import Derived.Test.YtijgfaggakbajaaCopySteps
import Derived.Test.YtijgfaggakbajaaCopyTook
import Derived.RegionTactic
import Derived.ChangeAlike
import Derived.Test.YtijgfaggakbajaaCopyAll
namespace Go.Proofs.Ytijgfaggakbajaa
open Go.RowKit

/-- An access: its numbers, its bytes. -/
structure Ac where
  K : Int
  P : Int
  N : Int
  V : Nat
  U : Nat
  bs : List Int
/-- No access. -/
def Ac.zero : Ac := ⟨0, 0, 0, 0, 0, []⟩
/-- An answer. -/
structure An where
  V : Nat
  D : Bool
  bs : List Int
/-- No answer. -/
def An.zero : An := ⟨0, false, []⟩
/-- A pick. -/
structure Pk where
  K : Int
  A : Int
  N : Int
/-- An event. -/
structure Ev where
  pk : Pk
  ac : Ac
  an : An
/-- No event. -/
def Ev.zero : Ev := ⟨⟨0, 0, 0⟩, Ac.zero, An.zero⟩
/-- An event without an access. -/
def Ev.bare (p : Pk) : Ev := ⟨p, Ac.zero, An.zero⟩

/-- Bytes as a function of their places. -/
def fnOf (bs : List Int) : Nat → Nat := fun i => (bs.getD i 0).toNat
/-- The numbers are bytes. -/
def Bys (bs : List Int) : Prop := ∀ x ∈ bs, 0 ≤ x ∧ x < 256

theorem fnOf_isB {bs : List Int} (h : Bys bs) : Mb.IsB (fnOf bs) := fun i => by
  unfold fnOf
  rcases Nat.lt_or_ge i bs.length with hi | hi
  · have hm := h (bs[i]) (List.getElem_mem hi)
    have e : bs.getD i 0 = bs[i] := by simp [List.getD, hi]
    rw [e]
    omega
  · have e : bs.getD i 0 = 0 := by simp [List.getD, hi]
    rw [e]; decide

theorem bl_fnOf {bs : List Int} (h : Bys bs) : Mb.bl (fnOf bs) 0 bs.length = bs := by
  apply List.ext_getElem
  · simp [Mb.bl]
  · intro i h1 h2
    have hm := h (bs[i]) (List.getElem_mem h2)
    have e : bs.getD i 0 = bs[i] := by simp [List.getD, h2]
    simp only [Mb.bl, List.getElem_map, List.getElem_range, Nat.zero_add, fnOf, e]
    omega

theorem Bys.nil : Bys [] := fun _ h => by cases h
theorem Bys.bl {m : Nat → Nat} (h : Mb.IsB m) (a n : Nat) : Bys (Mb.bl m a n) := fun x hx => by
  obtain ⟨i, _, rfl⟩ := List.mem_map.1 hx
  have := h (a + i)
  omega

namespace Ac
/-- The error of an access to a buffer of n words. -/
def err (a : Ac) (n : Nat) : Int := chk (8 * (n : Int)) a.K a.P a.N a.bs.length
/-- What it tells. -/
def ans (a : Ac) (m : Nat → Nat) : An := ⟨Mb.ansV m a.K a.P.toNat a.N.toNat, Mb.ansD m a.K a.P.toNat a.N.toNat a.V, Mb.ansB m a.K a.P.toNat a.N.toNat⟩
/-- The bytes behind it. -/
def aft (a : Ac) (m : Nat → Nat) : Nat → Nat := Mb.aft m a.K a.P.toNat a.N.toNat a.V a.U (fnOf a.bs)
/-- Its numbers are numbers, its bytes bytes. -/
structure Fine (a : Ac) : Prop where
  v : a.V < 18446744073709551616
  u : a.U < 18446744073709551616
  k0 : -9223372036854775808 ≤ a.K ∧ a.K ≤ 9223372036854775807
  p0 : -9223372036854775808 ≤ a.P ∧ a.P ≤ 9223372036854775807
  n0 : -9223372036854775808 ≤ a.N ∧ a.N ≤ 9223372036854775807
  bys : Bys a.bs
  few : a.bs.length ≤ 1073741824
end Ac

theorem ansB_few {m : Nat → Nat} {K : Int} {a k : Nat} (hk : k ≤ 8) : (Mb.ansB m K a k).length ≤ 8 := by
  unfold Mb.ansB
  split
  · rw [Mb.bl_length]; exact hk
  · simp

theorem ansB_bys {m : Nat → Nat} (h : Mb.IsB m) (K : Int) (a k : Nat) : Bys (Mb.ansB m K a k) := by
  unfold Mb.ansB
  split
  · exact Bys.bl h _ _
  · exact Bys.nil

theorem nm_in {m : Nat → Nat} (h : Mb.IsB m) (a k : Nat) (hk : k ≤ 8) : Mb.nm m a k < 18446744073709551616 :=
  Nat.lt_of_lt_of_le (Mb.nm_lt h a k) (Nat.pow_le_pow_right (n := 2) (i := 8 * k) (j := 64) (by decide) (by omega))

theorem ansV_in {m : Nat → Nat} (h : Mb.IsB m) (K : Int) (a k : Nat) (hk : k ≤ 8) : Mb.ansV m K a k < 18446744073709551616 := by
  unfold Mb.ansV
  split
  · exact nm_in h a k hk
  · decide

theorem aft_isB {m : Nat → Nat} (h : Mb.IsB m) (K : Int) (a k v u : Nat) (f : Nat → Nat) : Mb.IsB (Mb.aft m K a k v u f) := by
  unfold Mb.aft
  split
  · exact Mb.put_isB h _ _ _
  · split
    · exact Mb.put_isB h _ _ _
    · split
      · split
        · exact Mb.put_isB h _ _ _
        · exact h
      · split
        · exact Mb.put_isB h _ _ _
        · exact h

/-- The answer of an access that may be. -/
structure An.Fine (x : An) : Prop where
  v : x.V < 18446744073709551616
  bys : Bys x.bs
  few : x.bs.length ≤ 8

theorem Ac.ans_fine (a : Ac) {m : Nat → Nat} {n : Nat} (hm : Mb.IsB m) (h : a.err n = 0) : (a.ans m).Fine := by
  obtain ⟨hf, _⟩ := chk_ok h
  have hl := formed_len hf
  exact ⟨ansV_in hm _ _ _ (by omega), ansB_bys hm _ _ _, ansB_few (by omega)⟩

theorem Ac.aft_isB (a : Ac) {m : Nat → Nat} (hm : Mb.IsB m) : Mb.IsB (a.aft m) := Go.Proofs.Ytijgfaggakbajaa.aft_isB hm _ _ _ _ _ _

/-- A function with one value turned. -/
def upd {α : Type} (f : Nat → α) (i : Nat) (v : α) : Nat → α := fun j => if j = i then v else f j
theorem upd_same {α : Type} (f : Nat → α) (i : Nat) (v : α) : upd f i v i = v := if_pos rfl
theorem upd_other {α : Type} (f : Nat → α) (i : Nat) (v : α) {j : Nat} (h : j ≠ i) : upd f i v j = f j := if_neg h

theorem blkS {w : World} {g i : Nat} {cs : Array Value} {t : TypeId} (h : w.heap[g]? = some (.cells cs t (0, 0))) (u : Value) : (w.setCell ⟨g, i, none⟩ u).heap[g]? = some (.cells (cs.setIfInBounds i u) t (0, 0)) := by
  simp [World.setCell, Array.getElem?_modify, h]
theorem blkF {w : World} {g g' i : Nat} {o : Obj} (h : w.heap[g]? = some o) (hn : g ≠ g') (u : Value) : (w.setCell ⟨g', i, none⟩ u).heap[g]? = some o := (Below.heap_setCell w ⟨g', i, none⟩ u g hn).trans h
end Go.Proofs.Ytijgfaggakbajaa
namespace Go.Proofs.Ytijgfaggakbajaa
open Go.RowKit

/-- A machine: none, or a copy. -/
inductive Mc where
  | none
  | copy (kd : Kd) (d r : Nat) (ys : List Int)

/-- What a copy writes are bytes. -/
def Kd.Okay : Kd → Prop
  | .wr _ f => Mb.IsB f
  | _ => True

theorem Kd.bytes_bys {kd : Kd} (h : kd.Okay) (d c : Nat) : Bys (kd.bytes d c) := by
  cases kd with
  | wr a f => exact Bys.bl h d c
  | ze a => exact Bys.bl (m := fun _ => 0) Mb.zero_isB d c
  | rd a => exact Bys.nil

theorem Kd.bytes_few (kd : Kd) (d c : Nat) : (kd.bytes d c).length ≤ c := by
  cases kd with
  | wr a f => exact Nat.le_of_eq (Mb.bl_length _ _ _)
  | ze a => simp [Kd.bytes, Mb.bl]
  | rd a => exact Nat.zero_le _

namespace Mc
/-- The next access. -/
def next : Mc → Option Ac
  | .none => .none
  | .copy kd d r _ => if r = 0 then .none else some ⟨kd.kind, kd.place + d, Cy.nx r, 0, 0, kd.bytes d (Cy.nx r)⟩
/-- An answer is taken. -/
def take : Mc → An → Mc
  | .none, _ => .none
  | .copy kd d r ys, x => if r = 0 then .copy kd d r ys else .copy kd (d + Cy.nx r) (r - Cy.nx r) (ys ++ if kd.reads then x.bs else [])
/-- The clock is told. -/
def tick (s : Mc) (_ : Int) : Mc := s
theorem next_copy (kd : Kd) (d r : Nat) (ys : List Int) : (Mc.copy kd d r ys).next = if r = 0 then .none else some ⟨kd.kind, kd.place + d, Cy.nx r, 0, 0, kd.bytes d (Cy.nx r)⟩ := rfl
theorem take_copy (kd : Kd) (d r : Nat) (ys : List Int) (x : An) : (Mc.copy kd d r ys).take x = if r = 0 then .copy kd d r ys else .copy kd (d + Cy.nx r) (r - Cy.nx r) (ys ++ if kd.reads then x.bs else []) := rfl
end Mc

/-- A machine stands in the blocks F; x is the interface's value. -/
def MRep (w : World) (F : Nat → Prop) (x : Value) : Mc → Prop
  | .none => x = .nilIface
  | .copy kd d r ys => ∃ base top g v, x = .iface 70 (.pointer (some ⟨g, 0, none⟩)) ∧ Cp w base top g kd d r v ys ∧ (∀ k, base ≤ k → k < top → F k) ∧ (∀ k, v.ownBlock = some k → F k) ∧ kd.Okay ∧ ys.length ≤ 8 * d

namespace MRep
variable {w w' : World} {F F' : Nat → Prop} {x : Value} {s : Mc}
theorem keep (h : MRep w F x s) (hs : w.heap.size ≤ w'.heap.size) (hb : ∀ k, F k → w'.heap[k]? = w.heap[k]?) : MRep w' F x s := by
  cases s with
  | none => exact h
  | copy kd d r ys =>
    obtain ⟨base, top, g, v, e, hc, h1, h2, h3, h4⟩ := h
    exact ⟨base, top, g, v, e, hc.keep hs (fun k a b => hb k (h1 k a b)) (fun k hk => hb k (h2 k hk)), h1, h2, h3, h4⟩
theorem mono (h : MRep w F x s) (hF : ∀ k, F k → F' k) : MRep w F' x s := by
  cases s with
  | none => exact h
  | copy kd d r ys =>
    obtain ⟨base, top, g, v, e, hc, h1, h2, h3, h4⟩ := h
    exact ⟨base, top, g, v, e, hc, fun k a b => hF k (h1 k a b), fun k hk => hF k (h2 k hk), h3, h4⟩
/-- No machine, or an interface's value. -/
theorem shape (h : MRep w F x s) : (x = .nilIface ∧ s = .none) ∨ ∃ T y, x = .iface T y := by
  cases s with
  | none => exact .inl ⟨h, rfl⟩
  | copy kd d r ys =>
    obtain ⟨_, _, _, _, e, _⟩ := h
    exact .inr ⟨_, _, e⟩
/-- What a machine asks for is an access. -/
theorem fine (h : MRep w F x s) {a : Ac} (ha : s.next = some a) : a.Fine := by
  cases s with
  | none => cases ha
  | copy kd d r ys =>
    obtain ⟨base, top, g, v, e, hc, h1, h2, h3, h4⟩ := h
    rw [Mc.next_copy] at ha
    by_cases hr : r = 0
    · rw [if_pos hr] at ha; cases ha
    · rw [if_neg hr] at ha
      injection ha with ha
      subst ha
      have hn := Cy.nx_le r
      have hf := hc.few
      have hp := hc.near
      have hb := kd.bytes_few d (Cy.nx r)
      refine ⟨by show (0:Nat) < _; decide, by show (0:Nat) < _; decide, ?_, ?_, ?_, Kd.bytes_bys h3 _ _, ?_⟩
      · show _ ≤ kd.kind ∧ kd.kind ≤ _
        cases kd <;> (simp [Kd.kind])
      · show _ ≤ kd.place + (d : Int) ∧ kd.place + (d : Int) ≤ _
        omega
      · show _ ≤ ((Cy.nx r : Nat) : Int) ∧ ((Cy.nx r : Nat) : Int) ≤ _
        omega
      · show (kd.bytes d (Cy.nx r)).length ≤ _
        omega
end MRep

/-- The two blocks that a closure hands its results in. -/
def Pair (a b k : Nat) : Prop := k = a ∨ k = b

/-- What a machine wants stands in block pa; whether it wants anything in block po. -/
def Asked (o : Option Ac) (pa po : Nat) (w w' : World) : Prop :=
  Touch (Pair pa po) w w' ∧ match o with
  | none => w'.heap[pa]? = some (.cells #[.int .i64 0, .int .i64 0, .int .i64 0, .int .u64 0, .int .u64 0, .slice none 0 0] 47 (0, 0)) ∧ w'.heap[po]? = some (.cells #[.bool false] 4 (0, 0))
  | some a => ∃ A l c, w'.heap[pa]? = some (.cells #[.int .i64 a.K, .int .i64 a.P, .int .i64 a.N, .int .u64 a.V, .int .u64 a.U, .slice A l c] 47 (0, 0)) ∧ w'.heap[po]? = some (.cells #[.bool true] 4 (0, 0)) ∧
      BytesAt w' (.slice A l c) a.bs

theorem method_next (n : Nat) (g : Nat) (w : World) : (method (n + 100) 70 (.pointer (some ⟨g, 0, none⟩)) "Next").run Try.prog w = .ok (108, .pointer (some ⟨g, 0, none⟩)) w := by kernel_rfl
theorem method_next_at (g F : Nat) (w : World) (h : 100 ≤ F) : (method F 70 (.pointer (some ⟨g, 0, none⟩)) "Next").run Try.prog w = .ok (108, .pointer (some ⟨g, 0, none⟩)) w := by
  obtain ⟨n, rfl⟩ : ∃ n, F = n + 100 := ⟨F - 100, by omega⟩
  exact method_next n g w
theorem method_take (n : Nat) (g : Nat) (w : World) : (method (n + 100) 70 (.pointer (some ⟨g, 0, none⟩)) "Take").run Try.prog w = .ok (109, .pointer (some ⟨g, 0, none⟩)) w := by kernel_rfl
theorem method_take_at (g F : Nat) (w : World) (h : 100 ≤ F) : (method F 70 (.pointer (some ⟨g, 0, none⟩)) "Take").run Try.prog w = .ok (109, .pointer (some ⟨g, 0, none⟩)) w := by
  obtain ⟨n, rfl⟩ : ∃ n, F = n + 100 := ⟨F - 100, by omega⟩
  exact method_take n g w

/-- A new place for whether. -/
structure BoolNew (b : Nat) (W : World) : Prop where
  c0 : W.cell? ⟨b, 0, none⟩ = some (.bool false)
  f0 : W.frozen? ⟨b, 0, none⟩ = false
  blk : W.heap[b]? = some (.cells #[.bool false] 4 (0, 0))
theorem BoolNew.of_blk {b : Nat} {W : World} (h : W.heap[b]? = some (.cells #[.bool false] 4 (0, 0))) : BoolNew b W := by
  refine ⟨?_, ?_, h⟩
  · simp [World.cell?, h]
  · simp [World.frozen?, h]

/-- An access and a truth, stored in two places. -/
theorem seven_blocks {W : World} {pa po : Nat} (hne : pa ≠ po) (ha : W.heap[pa]? = some (.cells #[.int .i64 0, .int .i64 0, .int .i64 0, .int .u64 0, .int .u64 0, .slice none 0 0] 47 (0, 0))) (ho : W.heap[po]? = some (.cells #[.bool false] 4 (0, 0))) (u0 u1 u2 u3 u4 u5 u6 : Value) :
    ((six W pa u0 u1 u2 u3 u4 u5).setCell ⟨po, 0, none⟩ u6).heap[pa]? = some (.cells #[u0, u1, u2, u3, u4, u5] 47 (0, 0)) ∧ ((six W pa u0 u1 u2 u3 u4 u5).setCell ⟨po, 0, none⟩ u6).heap[po]? = some (.cells #[u6] 4 (0, 0)) := by
  refine ⟨?_, ?_⟩
  · rw [Below.heap_setCell _ _ _ _ hne]
    simp [six, World.setCell, Array.getElem?_modify, ha]
  · have h6 : (six W pa u0 u1 u2 u3 u4 u5).heap[po]? = W.heap[po]? := by
      unfold six
      rw [Below.heap_setCell _ _ _ _ hne.symm, Below.heap_setCell _ _ _ _ hne.symm, Below.heap_setCell _ _ _ _ hne.symm, Below.heap_setCell _ _ _ _ hne.symm, Below.heap_setCell _ _ _ _ hne.symm, Below.heap_setCell _ _ _ _ hne.symm]
    have h7 := h6.trans ho
    simp [World.setCell, Array.getElem?_modify, h7]

theorem seven_touch {w W : World} {pa po : Nat} (h : Touch (Pair pa po) w W) (u0 u1 u2 u3 u4 u5 u6 : Value) : Touch (Pair pa po) w ((six W pa u0 u1 u2 u3 u4 u5).setCell ⟨po, 0, none⟩ u6) :=
  ((((((h.setCell (p := ⟨pa, 0, none⟩) (.inl rfl) u0).setCell (p := ⟨pa, 1, none⟩) (.inl rfl) u1).setCell (p := ⟨pa, 2, none⟩) (.inl rfl) u2).setCell (p := ⟨pa, 3, none⟩) (.inl rfl) u3).setCell (p := ⟨pa, 4, none⟩) (.inl rfl) u4).setCell (p := ⟨pa, 5, none⟩) (.inl rfl) u5).setCell (p := ⟨po, 0, none⟩) (.inr rfl) u6

set_option maxRecDepth 100000 in
set_option maxHeartbeats 400000 in
theorem nextIn_some {kd : Kd} {w : World} {base top g d r : Nat} {v : Value} {ys : List Int} (h : Cp w base top g kd d r v ys) (hr : 0 < r) (pm pa po : Nat)
    (hm : w.cell? ⟨pm, 0, none⟩ = some (.iface 70 (.pointer (some ⟨g, 0, none⟩)))) (ha : AccNew pa w) (ho : BoolNew po w) (hne : pa ≠ po) :
    Calls Try.prog 54 #[.pointer (some ⟨pm, 0, none⟩), .pointer (some ⟨pa, 0, none⟩), .pointer (some ⟨po, 0, none⟩)] w fun e w' => e = .returned (.tuple #[]) ∧ Asked (some ⟨kd.kind, kd.place + d, Cy.nx r, 0, 0, kd.bytes d (Cy.nx r)⟩) pa po w w' := by
  have HC := Lib.hid h
  have HA := Lib.hid ha
  have HO := Lib.hid ho
  clear h ha ho
  have hme := method_next_at g
  go_enter Try.func54, Try.ntmps54
  go_wp2_with (go_at_call 108; refine (next_any HC.out hr).mono ?_; rintro e w1 ⟨A, l, cp, rfl, ho, hb⟩; have hoN := BoolNew.of_blk ((hb.block po (Array.getElem?_eq_some_iff.1 HO.out.blk).1).trans HO.out.blk); have haN := HA.out.later hb; obtain ⟨a0, a1, a2, a3, a4, a5, f0, f1, f2, f3, f4, f5, ab⟩ := haN; obtain ⟨o0, z0, ob⟩ := hoN; have HH := Lib.hid (And.intro ab ob); have HOW := Lib.hid ho; clear ho ab ob)
  go_end0
  have h7 := seven_blocks hne HH.out.1 HH.out.2
  refine ⟨rfl, seven_touch (Touch.of_below hb) _ _ _ _ _ _ _, A, l, cp, (h7 _ _ _ _ _ _ _).1, (h7 _ _ _ _ _ _ _).2, ?_⟩
  have hpa := (Array.getElem?_eq_some_iff.1 HA.out.blk).1
  have hpo := (Array.getElem?_eq_some_iff.1 HO.out.blk).1
  exact ((six_own HOW.out hpa _ _ _ _ _ _).setCell (p := ⟨po, 0, none⟩) hpo _).bytes

set_option maxRecDepth 100000 in
set_option maxHeartbeats 400000 in
theorem nextIn_none {kd : Kd} {w : World} {base top g d : Nat} {v : Value} {ys : List Int} (h : Cp w base top g kd d 0 v ys) (pm pa po : Nat)
    (hm : w.cell? ⟨pm, 0, none⟩ = some (.iface 70 (.pointer (some ⟨g, 0, none⟩)))) (ha : AccNew pa w) (ho : BoolNew po w) (hne : pa ≠ po) :
    Calls Try.prog 54 #[.pointer (some ⟨pm, 0, none⟩), .pointer (some ⟨pa, 0, none⟩), .pointer (some ⟨po, 0, none⟩)] w fun e w' => e = .returned (.tuple #[]) ∧ Asked none pa po w w' := by
  have HC := Lib.hid h
  have HA := Lib.hid ha
  have HO := Lib.hid ho
  clear h ha ho
  have hme := method_next_at g
  go_enter Try.func54, Try.ntmps54
  go_wp2_with (go_at_call 108; refine (next_no HC.out).mono ?_; rintro e w1 ⟨rfl, hb⟩; have hoN := BoolNew.of_blk ((hb.block po (Array.getElem?_eq_some_iff.1 HO.out.blk).1).trans HO.out.blk); have haN := HA.out.later hb; obtain ⟨a0, a1, a2, a3, a4, a5, f0, f1, f2, f3, f4, f5, ab⟩ := haN; obtain ⟨o0, z0, ob⟩ := hoN; have HH := Lib.hid (And.intro ab ob); clear ab ob)
  go_end0
  have h7 := seven_blocks hne HH.out.1 HH.out.2
  exact ⟨rfl, seven_touch (Touch.of_below hb) _ _ _ _ _ _ _, (h7 _ _ _ _ _ _ _).1, (h7 _ _ _ _ _ _ _).2⟩

/-- What a machine wants, asked through the interface. -/
theorem nextIn_any {w : World} {F : Nat → Prop} {T : TypeId} {y : Value} {s : Mc} (h : MRep w F (.iface T y) s) (pm pa po : Nat) (hm : w.cell? ⟨pm, 0, none⟩ = some (.iface T y)) (ha : AccNew pa w) (ho : BoolNew po w) (hne : pa ≠ po) :
    Calls Try.prog 54 #[.pointer (some ⟨pm, 0, none⟩), .pointer (some ⟨pa, 0, none⟩), .pointer (some ⟨po, 0, none⟩)] w fun e w' => e = .returned (.tuple #[]) ∧ Asked s.next pa po w w' := by
  cases s with
  | none => cases h
  | copy kd d r ys =>
    obtain ⟨base, top, g, v, e, hc, h1, h2, h3, h4⟩ := h
    injection e with e1 e2
    subst e1 e2
    rw [Mc.next_copy]
    by_cases hr : r = 0
    · subst hr
      exact nextIn_none hc pm pa po hm ha ho hne
    · rw [if_neg hr]
      exact nextIn_some hc (by omega) pm pa po hm ha ho hne

/-- A machine took something: it stands in its blocks, and in new ones. -/
def Moved (F : Nat → Prop) (x : Value) (s : Mc) (w : World) (w' : World) : Prop :=
  ∃ F', MRep w' F' x s ∧ Touch F w w' ∧ (∀ k, F' k → F k ∨ (w.heap.size ≤ k ∧ k < w'.heap.size))

theorem Moved.of_below {F : Nat → Prop} {x : Value} {s : Mc} {w w' : World} (h : MRep w F x s) (hlt : ∀ k, F k → k < w.heap.size) (hb : Below w.heap.size w w') : Moved F x s w w' :=
  ⟨F, h.keep hb.size fun k hk => hb.block k (hlt k hk), Touch.of_below hb, fun _ hk => .inl hk⟩

/-- A copy takes an answer. -/
theorem takeIn_copy {kd : Kd} {d r : Nat} {ys : List Int} {w : World} {F : Nat → Prop} {g : Nat} (h : MRep w F (.iface 70 (.pointer (some ⟨g, 0, none⟩))) (.copy kd d r ys)) (hlt : ∀ k, F k → k < w.heap.size) (x : An) (hx : x.Fine) (A : Option Addr) (l c : Nat) (hB : BytesAt w (.slice A l c) x.bs) :
    Calls Try.prog 109 #[.pointer (some ⟨g, 0, none⟩), .agg #[.int .u64 x.V, .bool x.D, .slice A l c]] w fun e w' => e = .returned (.tuple #[]) ∧ Moved F (.iface 70 (.pointer (some ⟨g, 0, none⟩))) ((Mc.copy kd d r ys).take x) w w' := by
  obtain ⟨base, top, g', v, e, hc, h1, h2, h3, h4⟩ := h
  injection e with e1 e2
  injection e2 with e3
  injection e3 with e4
  injection e4 with e5
  subst e5
  rw [Mc.take_copy]
  by_cases hr : r = 0
  · subst hr
    refine (take_no hc x.V x.D A l c).mono ?_
    rintro e w' ⟨rfl, hb⟩
    exact ⟨rfl, Moved.of_below (s := .copy kd d 0 ys) ⟨base, top, g, v, rfl, hc, h1, h2, h3, h4⟩ hlt hb⟩
  · rw [if_neg hr]
    have hd := hc.few
    have hxl := hx.few
    refine (take_any hc (by omega) x.V x.D A l c hB (by omega)).mono ?_
    rintro e w' ⟨v', rfl, hc', ht, hl⟩
    have hnp := Cy.nx_pos (r := r) (by omega)
    have hT : Touch F w w' := ht.mono fun k hk => by
      rcases hk with hk | hk
      · subst hk; exact h1 _ hc.above hc.under
      · exact h2 k hk
    refine ⟨rfl, fun k => F k ∨ (w.heap.size ≤ k ∧ k < w'.heap.size), ⟨base, top, g, v', rfl, hc', fun k a b => .inl (h1 k a b), fun k hk => ?_, h3, ?_⟩, hT, fun k hk => hk⟩
    · rcases hl k hk with e | e
      · exact .inl (h2 k e)
      · exact .inr ⟨e, (hc'.own.ge hk).2⟩
    · rw [List.length_append]
      split
      · omega
      · simp; omega
end Go.Proofs.Ytijgfaggakbajaa
namespace Go.Proofs.Ytijgfaggakbajaa
open Go.RowKit

/-- What a machine wants next is told, its bytes in new memory. -/
def NextTold (o : Option Ac) (w : World) (e : Ending) (w' : World) : Prop :=
  Below w.heap.size w w' ∧ match o with
  | none => e = .returned (.tuple #[.agg #[.int .i64 0, .int .i64 0, .int .i64 0, .int .u64 0, .int .u64 0, .slice none 0 0], .bool false])
  | some a => ∃ A l c, e = .returned (.tuple #[.agg #[.int .i64 a.K, .int .i64 a.P, .int .i64 a.N, .int .u64 a.V, .int .u64 a.U, .slice A l c], .bool true]) ∧ Owns w.heap.size w' (.slice A l c) a.bs

theorem pair_below {w W W' : World} {B a b : Nat} (h : Below B w W) (ht : Touch (Pair a b) W W') (hB : B ≤ W.heap.size) (ha : B ≤ a) (hb : B ≤ b) : Below B w W' := ht.below h hB fun k hk => by rcases hk with rfl | rfl <;> assumption

theorem clone_none (w : World) : Calls Try.prog 44 #[.slice none 0 0] w fun e w' => e = .returned (.slice none 0 0) ∧ w = w' := by
  have heq := fun (w : World) (a : Option Addr) => Lib.run_eql_slice_nil (P := Try.prog) w 26 5 a 0 0 0 0 Try.underlying26
  go_enter Try.func44, Try.ntmps44
  go_wp2
  go_ret
  exact ⟨rfl, rfl⟩

set_option maxRecDepth 100000 in
set_option maxHeartbeats 400000 in
theorem next_nilIface (w : World) : Calls Try.prog 30 #[.nilIface] w (NextTold none w) := by
  have HW := (((Below.refl w.heap.size w).alloc (Nat.le_refl _) (.cells #[.nilIface] 85)).alloc (by simp) (.cells #[.int .i64 0, .int .i64 0, .int .i64 0, .int .u64 0, .int .u64 0, .slice none 0 0] 47)).alloc (by simp; omega) (.cells #[.bool false] 4)
  have hA := Go.Deep.blk_alloc_new (w.alloc (.cells #[.nilIface] 85)) (.cells #[.int .i64 0, .int .i64 0, .int .i64 0, .int .u64 0, .int .u64 0, .slice none 0 0] 47)
  have hA2 := (Below.heap_alloc _ (.cells #[.bool false] 4) _ (by simp)).trans hA
  have e1 : (w.alloc (.cells #[.nilIface] 85)).heap.size = w.heap.size + 1 := by simp
  rw [e1] at hA2
  have HA := AccNew.of_blk hA2
  have hO := Go.Deep.blk_alloc_new ((w.alloc (.cells #[.nilIface] 85)).alloc (.cells #[.int .i64 0, .int .i64 0, .int .i64 0, .int .u64 0, .int .u64 0, .slice none 0 0] 47)) (.cells #[.bool false] 4)
  have e2 : ((w.alloc (.cells #[.nilIface] 85)).alloc (.cells #[.int .i64 0, .int .i64 0, .int .i64 0, .int .u64 0, .int .u64 0, .slice none 0 0] 47)).heap.size = w.heap.size + 1 + 1 := by simp
  rw [e2] at hO
  have HO := BoolNew.of_blk hO
  clear hA hA2 e1 hO e2
  go_enter Try.func30, Try.ntmps30
  go_wp2_with fail
  generalize ((w.alloc (.cells #[.nilIface] 85)).alloc (.cells #[.int .i64 0, .int .i64 0, .int .i64 0, .int .u64 0, .int .u64 0, .slice none 0 0] 47)).alloc (.cells #[.bool false] 4) = W at HW HA HO ⊢
  obtain ⟨a0, a1, a2, a3, a4, a5, f0, f1, f2, f3, f4, f5, ab⟩ := HA
  obtain ⟨o0, z0, ob⟩ := HO
  refine bodyPost_ret (v := .tuple #[.agg #[.int .i64 0, .int .i64 0, .int .i64 0, .int .u64 0, .int .u64 0, .slice none 0 0], .bool false]) (by simp [results, Try.results30, go_sem, a0, a1, a2, a3, a4, a5, o0]) rfl ?_
  exact ⟨HW, rfl⟩

/-- The machine's box, the place for an access, the place for whether. -/
theorem next_boxes (w : World) (x : Value) (W : World) (hW : W = ((w.alloc (.cells #[x] 85)).alloc (.cells #[.int .i64 0, .int .i64 0, .int .i64 0, .int .u64 0, .int .u64 0, .slice none 0 0] 47)).alloc (.cells #[.bool false] 4)) :
    Below w.heap.size w W ∧ W.cell? ⟨w.heap.size, 0, none⟩ = some x ∧ AccNew (w.heap.size + 1) W ∧ BoolNew (w.heap.size + 1 + 1) W := by
  subst hW
  have HW := (((Below.refl w.heap.size w).alloc (Nat.le_refl _) (.cells #[x] 85)).alloc (by simp) (.cells #[.int .i64 0, .int .i64 0, .int .i64 0, .int .u64 0, .int .u64 0, .slice none 0 0] 47)).alloc (by simp; omega) (.cells #[.bool false] 4)
  have hX := Go.Deep.blk_alloc_new w (.cells #[x] 85)
  have hX2 := (Below.heap_alloc _ (.cells #[.bool false] 4) _ (by simp; omega)).trans ((Below.heap_alloc _ (.cells #[.int .i64 0, .int .i64 0, .int .i64 0, .int .u64 0, .int .u64 0, .slice none 0 0] 47) _ (by simp)).trans hX)
  have hA := Go.Deep.blk_alloc_new (w.alloc (.cells #[x] 85)) (.cells #[.int .i64 0, .int .i64 0, .int .i64 0, .int .u64 0, .int .u64 0, .slice none 0 0] 47)
  have hA2 := (Below.heap_alloc _ (.cells #[.bool false] 4) _ (by simp)).trans hA
  have e1 : (w.alloc (.cells #[x] 85)).heap.size = w.heap.size + 1 := by simp
  rw [e1] at hA2
  have hO := Go.Deep.blk_alloc_new ((w.alloc (.cells #[x] 85)).alloc (.cells #[.int .i64 0, .int .i64 0, .int .i64 0, .int .u64 0, .int .u64 0, .slice none 0 0] 47)) (.cells #[.bool false] 4)
  have e2 : ((w.alloc (.cells #[x] 85)).alloc (.cells #[.int .i64 0, .int .i64 0, .int .i64 0, .int .u64 0, .int .u64 0, .slice none 0 0] 47)).heap.size = w.heap.size + 1 + 1 := by simp
  rw [e2] at hO
  exact ⟨HW, by simp [World.cell?, hX2], AccNew.of_blk hA2, BoolNew.of_blk hO⟩

theorem enter_next (caps : Array Value) (w : World) : (callFunc 54 caps).run Try.prog w = .ok (.enter 54 caps) w := by
  simp [go_sem]

set_option maxRecDepth 100000 in
set_option maxHeartbeats 400000 in
theorem next_some {w : World} {F : Nat → Prop} {T : TypeId} {y : Value} {s : Mc} {a : Ac} (h : MRep w F (.iface T y) s) (hlt : ∀ k, F k → k < w.heap.size) (ha : s.next = some a) :
    Calls Try.prog 30 #[.iface T y] w (NextTold (some a) w) := by
  have hmf : ∀ (fn : Fn) (first cap : Array Value) (w : World), (Instr.makeFunc fn first cap).run Try.prog w = .ok (.func fn first cap) w := fun _ _ _ _ => rfl
  have HH := Lib.hid h
  have HL := Lib.hid hlt
  have HFI := Lib.hid (h.fine ha)
  have HN := Lib.hid ha
  clear h hlt ha
  obtain ⟨WW, hWW⟩ : ∃ WW, WW = ((w.alloc (.cells #[.iface T y] 85)).alloc (.cells #[.int .i64 0, .int .i64 0, .int .i64 0, .int .u64 0, .int .u64 0, .slice none 0 0] 47)).alloc (.cells #[.bool false] 4) := ⟨_, rfl⟩
  have HB := Lib.hid (next_boxes w (.iface T y) WW hWW)
  go_enter Try.func30, Try.ntmps30
  go_wp2_with fail
  rw [← hWW]
  clear hWW
  obtain ⟨hb0, hx0, hA0, hO0⟩ := HB.out
  refine (caught_any _ _ WW (enter_next _) (nextIn_any (HH.out.keep hb0.size fun k hk => hb0.block k (HL.out k hk)) w.heap.size (w.heap.size + 1) (w.heap.size + 1 + 1) hx0 hA0 hO0 (by omega))).mono ?_
  rintro e w1 ⟨rfl, ht, hm⟩
  rw [HN.out] at hm
  obtain ⟨A, l, c, hp, ho, hby⟩ := hm
  have hB1 := pair_below hb0 ht hb0.size (by omega) (by omega)
  have hl : a.bs.length = l := by obtain ⟨_, _, e, _⟩ := hby; injection e with _ e _; exact e.symm
  have hlf := HFI.out.few
  have hc5 : w1.cell? ⟨w.heap.size + 1, 5, none⟩ = some (.slice A l c) := by simp [World.cell?, hp]
  have HP := Lib.hid (And.intro hp (And.intro ho hby))
  have hs1 := (Array.getElem?_eq_some_iff.1 hp).1
  have hs2 := (Array.getElem?_eq_some_iff.1 ho).1
  clear hp ho hby hb0 hx0 hA0 hO0 ht
  go_wp2_with fail
  refine (clone_sl A l c a.bs w1 HP.out.2.2 (by omega)).mono ?_
  rintro e w2 ⟨A2, c2, rfl, ho2, hb2⟩
  have hq1 := (hb2.block _ hs1).trans HP.out.1
  have hq2 := (hb2.block _ hs2).trans HP.out.2.1
  have hz5 : w2.frozen? ⟨w.heap.size + 1, 5, none⟩ = false := by simp [World.frozen?, hq1]
  have hc52 : w2.cell? ⟨w.heap.size + 1, 5, none⟩ = some (.slice A l c) := by simp [World.cell?, hq1]
  have HO2 := Lib.hid ho2
  have hq3 := blkS (i := 5) hq1 (.slice A2 l c2)
  have hq4 := blkF (i := 5) (g' := w.heap.size + 1) hq2 (by omega) (.slice A2 l c2)
  go_wp2_with fail
  have hB3 : Below w.heap.size w (w2.setCell ⟨w.heap.size + 1, 5, none⟩ (.slice A2 l c2)) := (hB1.trans (hb2.mono hB1.size)).setCell (Nat.le_succ _) _
  have HO3 := Lib.hid (HO2.out.setCell (p := ⟨w.heap.size + 1, 5, none⟩) (by show w.heap.size + 1 < w1.heap.size; omega) (.slice A2 l c2))
  generalize w2.setCell ⟨w.heap.size + 1, 5, none⟩ (.slice A2 l c2) = W3 at hq3 hq4 hB3 HO3 ⊢
  have hq5 : W3.heap[w.heap.size + 1]? = some (.cells #[.int .i64 a.K, .int .i64 a.P, .int .i64 a.N, .int .u64 a.V, .int .u64 a.U, .slice A2 l c2] 47 (0, 0)) := hq3
  have HACC := Lib.hid hq5
  have a0 : W3.cell? ⟨w.heap.size + 1, 0, none⟩ = some (.int .i64 a.K) := by simp [World.cell?, hq5]
  have a1 : W3.cell? ⟨w.heap.size + 1, 1, none⟩ = some (.int .i64 a.P) := by simp [World.cell?, hq5]
  have a2 : W3.cell? ⟨w.heap.size + 1, 2, none⟩ = some (.int .i64 a.N) := by simp [World.cell?, hq5]
  have a3 : W3.cell? ⟨w.heap.size + 1, 3, none⟩ = some (.int .u64 a.V) := by simp [World.cell?, hq5]
  have a4 : W3.cell? ⟨w.heap.size + 1, 4, none⟩ = some (.int .u64 a.U) := by simp [World.cell?, hq5]
  have a5 : W3.cell? ⟨w.heap.size + 1, 5, none⟩ = some (.slice A2 l c2) := by simp [World.cell?, hq5]
  have f0 : W3.frozen? ⟨w.heap.size + 1, 0, none⟩ = false := by simp [World.frozen?, hq5]
  have f1 : W3.frozen? ⟨w.heap.size + 1, 1, none⟩ = false := by simp [World.frozen?, hq5]
  have f2 : W3.frozen? ⟨w.heap.size + 1, 2, none⟩ = false := by simp [World.frozen?, hq5]
  have f3 : W3.frozen? ⟨w.heap.size + 1, 3, none⟩ = false := by simp [World.frozen?, hq5]
  have f4 : W3.frozen? ⟨w.heap.size + 1, 4, none⟩ = false := by simp [World.frozen?, hq5]
  have f5 : W3.frozen? ⟨w.heap.size + 1, 5, none⟩ = false := by simp [World.frozen?, hq5]
  have o0 : W3.cell? ⟨w.heap.size + 1 + 1, 0, none⟩ = some (.bool true) := by simp [World.cell?, hq4]
  have z0 : W3.frozen? ⟨w.heap.size + 1 + 1, 0, none⟩ = false := by simp [World.frozen?, hq4]
  clear hq1 hq2 hq3 hq4 hq5 hz5 hb2 HO2 ho2 hc5 hB1 hc52
  go_region
  all_goals go_wp2
  refine bodyPost_ret (v := .tuple #[.agg #[.int .i64 a.K, .int .i64 a.P, .int .i64 a.N, .int .u64 a.V, .int .u64 a.U, .slice A2 l c2], .bool true]) (by simp [results, Try.results30, go_sem, a0, a1, a2, a3, a4, a5, o0]) rfl ?_
  refine ⟨?_, A2, l, c2, rfl, ?_⟩
  · exact (seven_touch (pa := w.heap.size + 1) (po := w.heap.size + 1 + 1) (w := W3) (Touch.refl _ _) (.int .i64 a.K) (.int .i64 a.P) (.int .i64 a.N) (.int .u64 a.V) (.int .u64 a.U) (.slice A2 l c2) (.bool true)).drew.below hB3 hB3.size (fun k hk => by rcases hk with rfl | rfl <;> omega)
  · exact (((six_own HO3.out (b := w.heap.size + 1) hs1 _ _ _ _ _ _).setCell (p := ⟨w.heap.size + 1 + 1, 0, none⟩) hs2 _).drew).down (by omega)


set_option maxRecDepth 100000 in
set_option maxHeartbeats 400000 in
theorem next_end {w : World} {F : Nat → Prop} {T : TypeId} {y : Value} {s : Mc} (h : MRep w F (.iface T y) s) (hlt : ∀ k, F k → k < w.heap.size) (ha : s.next = none) :
    Calls Try.prog 30 #[.iface T y] w (NextTold none w) := by
  have hmf : ∀ (fn : Fn) (first cap : Array Value) (w : World), (Instr.makeFunc fn first cap).run Try.prog w = .ok (.func fn first cap) w := fun _ _ _ _ => rfl
  have HH := Lib.hid h
  have HL := Lib.hid hlt
  have HN := Lib.hid ha
  clear h hlt ha
  obtain ⟨WW, hWW⟩ : ∃ WW, WW = ((w.alloc (.cells #[.iface T y] 85)).alloc (.cells #[.int .i64 0, .int .i64 0, .int .i64 0, .int .u64 0, .int .u64 0, .slice none 0 0] 47)).alloc (.cells #[.bool false] 4) := ⟨_, rfl⟩
  have HB := Lib.hid (next_boxes w (.iface T y) WW hWW)
  go_enter Try.func30, Try.ntmps30
  go_wp2_with fail
  rw [← hWW]
  clear hWW
  obtain ⟨hb0, hx0, hA0, hO0⟩ := HB.out
  refine (caught_any _ _ WW (enter_next _) (nextIn_any (HH.out.keep hb0.size fun k hk => hb0.block k (HL.out k hk)) w.heap.size (w.heap.size + 1) (w.heap.size + 1 + 1) hx0 hA0 hO0 (by omega))).mono ?_
  rintro e w1 ⟨rfl, ht, hm⟩
  rw [HN.out] at hm
  obtain ⟨hp, ho⟩ := hm
  have hB1 := pair_below hb0 ht hb0.size (by omega) (by omega)
  have hc5 : w1.cell? ⟨w.heap.size + 1, 5, none⟩ = some (.slice none 0 0) := by simp [World.cell?, hp]
  have HP := Lib.hid (And.intro hp ho)
  have hs1 := (Array.getElem?_eq_some_iff.1 hp).1
  have hs2 := (Array.getElem?_eq_some_iff.1 ho).1
  clear hp ho hb0 hx0 hA0 hO0 ht
  go_wp2_with fail
  refine (clone_none w1).mono ?_
  rintro e w1 ⟨rfl, rfl⟩
  have hq1 := HP.out.1
  have hq2 := HP.out.2
  have hz5 : w1.frozen? ⟨w.heap.size + 1, 5, none⟩ = false := by simp [World.frozen?, hq1]
  have hq3 := blkS (i := 5) hq1 (.slice none 0 0)
  have hq4 := blkF (i := 5) (g' := w.heap.size + 1) hq2 (by omega) (.slice none 0 0)
  go_wp2_with fail
  have hB3 : Below w.heap.size w (w1.setCell ⟨w.heap.size + 1, 5, none⟩ (.slice none 0 0)) := hB1.setCell (Nat.le_succ _) _
  generalize w1.setCell ⟨w.heap.size + 1, 5, none⟩ (.slice none 0 0) = W3 at hq3 hq4 hB3 ⊢
  have hq5 : W3.heap[w.heap.size + 1]? = some (.cells #[.int .i64 0, .int .i64 0, .int .i64 0, .int .u64 0, .int .u64 0, .slice none 0 0] 47 (0, 0)) := hq3
  have HACC := Lib.hid hq5
  have a0 : W3.cell? ⟨w.heap.size + 1, 0, none⟩ = some (.int .i64 0) := by simp [World.cell?, hq5]
  have a1 : W3.cell? ⟨w.heap.size + 1, 1, none⟩ = some (.int .i64 0) := by simp [World.cell?, hq5]
  have a2 : W3.cell? ⟨w.heap.size + 1, 2, none⟩ = some (.int .i64 0) := by simp [World.cell?, hq5]
  have a3 : W3.cell? ⟨w.heap.size + 1, 3, none⟩ = some (.int .u64 0) := by simp [World.cell?, hq5]
  have a4 : W3.cell? ⟨w.heap.size + 1, 4, none⟩ = some (.int .u64 0) := by simp [World.cell?, hq5]
  have a5 : W3.cell? ⟨w.heap.size + 1, 5, none⟩ = some (.slice none 0 0) := by simp [World.cell?, hq5]
  have f0 : W3.frozen? ⟨w.heap.size + 1, 0, none⟩ = false := by simp [World.frozen?, hq5]
  have f1 : W3.frozen? ⟨w.heap.size + 1, 1, none⟩ = false := by simp [World.frozen?, hq5]
  have f2 : W3.frozen? ⟨w.heap.size + 1, 2, none⟩ = false := by simp [World.frozen?, hq5]
  have f3 : W3.frozen? ⟨w.heap.size + 1, 3, none⟩ = false := by simp [World.frozen?, hq5]
  have f4 : W3.frozen? ⟨w.heap.size + 1, 4, none⟩ = false := by simp [World.frozen?, hq5]
  have f5 : W3.frozen? ⟨w.heap.size + 1, 5, none⟩ = false := by simp [World.frozen?, hq5]
  have o0 : W3.cell? ⟨w.heap.size + 1 + 1, 0, none⟩ = some (.bool false) := by simp [World.cell?, hq4]
  have z0 : W3.frozen? ⟨w.heap.size + 1 + 1, 0, none⟩ = false := by simp [World.frozen?, hq4]
  clear hq1 hq2 hq3 hq4 hq5 hz5 hc5 hB1
  go_region
  all_goals go_wp2
  refine bodyPost_ret (v := .tuple #[.agg #[.int .i64 0, .int .i64 0, .int .i64 0, .int .u64 0, .int .u64 0, .slice none 0 0], .bool false]) (by simp [results, Try.results30, go_sem, a0, a1, a2, a3, a4, a5, o0]) rfl ?_
  refine ⟨?_, rfl⟩
  · exact (seven_touch (pa := w.heap.size + 1) (po := w.heap.size + 1 + 1) (w := W3) (Touch.refl _ _) (.int .i64 0) (.int .i64 0) (.int .i64 0) (.int .u64 0) (.int .u64 0) (.slice none 0 0) (.bool false)).drew.below hB3 hB3.size (fun k hk => by rcases hk with rfl | rfl <;> omega)

/-- What a machine wants next. -/
theorem next_told {w : World} {F : Nat → Prop} {x : Value} {s : Mc} (h : MRep w F x s) (hlt : ∀ k, F k → k < w.heap.size) : Calls Try.prog 30 #[x] w (NextTold s.next w) := by
  rcases h.shape with ⟨rfl, rfl⟩ | ⟨T, y, rfl⟩
  · exact next_nilIface w
  · cases ha : s.next with
    | none => exact next_end h hlt ha
    | some a => exact next_some h hlt ha
end Go.Proofs.Ytijgfaggakbajaa
namespace Go.Proofs.Ytijgfaggakbajaa
open Go.RowKit

/-- An event's cells, in block b. -/
structure EvAt (b : Nat) (W : World) (p : Pk) (a : Ac) (x : An) (s1 s2 : Value) : Prop where
  blk : W.heap[b]? = some (.cells #[.int .i64 p.K, .int .i64 p.A, .int .i64 p.N, .int .i64 a.K, .int .i64 a.P, .int .i64 a.N, .int .u64 a.V, .int .u64 a.U, s1, .int .u64 x.V, .bool x.D, s2] 51 (0, 0))

namespace EvAt
variable {b : Nat} {W W' : World} {p : Pk} {a : Ac} {x : An} {s1 s2 : Value}
theorem lt (h : EvAt b W p a x s1 s2) : b < W.heap.size := (Array.getElem?_eq_some_iff.1 h.blk).1
theorem below (h : EvAt b W p a x s1 s2) (hb : Below W.heap.size W W') : EvAt b W' p a x s1 s2 := ⟨(hb.block b h.lt).trans h.blk⟩
theorem of_block (h : EvAt b W p a x s1 s2) (hb : W'.heap[b]? = W.heap[b]?) : EvAt b W' p a x s1 s2 := ⟨hb.trans h.blk⟩
theorem e0 (h : EvAt b W p a x s1 s2) : W.cell? ⟨b, 0, none⟩ = some (.int .i64 p.K) := by simp [World.cell?, h.blk]
theorem e1 (h : EvAt b W p a x s1 s2) : W.cell? ⟨b, 1, none⟩ = some (.int .i64 p.A) := by simp [World.cell?, h.blk]
theorem e2 (h : EvAt b W p a x s1 s2) : W.cell? ⟨b, 2, none⟩ = some (.int .i64 p.N) := by simp [World.cell?, h.blk]
theorem e3 (h : EvAt b W p a x s1 s2) : W.cell? ⟨b, 3, none⟩ = some (.int .i64 a.K) := by simp [World.cell?, h.blk]
theorem e4 (h : EvAt b W p a x s1 s2) : W.cell? ⟨b, 4, none⟩ = some (.int .i64 a.P) := by simp [World.cell?, h.blk]
theorem e5 (h : EvAt b W p a x s1 s2) : W.cell? ⟨b, 5, none⟩ = some (.int .i64 a.N) := by simp [World.cell?, h.blk]
theorem e6 (h : EvAt b W p a x s1 s2) : W.cell? ⟨b, 6, none⟩ = some (.int .u64 a.V) := by simp [World.cell?, h.blk]
theorem e7 (h : EvAt b W p a x s1 s2) : W.cell? ⟨b, 7, none⟩ = some (.int .u64 a.U) := by simp [World.cell?, h.blk]
theorem e8 (h : EvAt b W p a x s1 s2) : W.cell? ⟨b, 8, none⟩ = some s1 := by simp [World.cell?, h.blk]
theorem e9 (h : EvAt b W p a x s1 s2) : W.cell? ⟨b, 9, none⟩ = some (.int .u64 x.V) := by simp [World.cell?, h.blk]
theorem e10 (h : EvAt b W p a x s1 s2) : W.cell? ⟨b, 10, none⟩ = some (.bool x.D) := by simp [World.cell?, h.blk]
theorem e11 (h : EvAt b W p a x s1 s2) : W.cell? ⟨b, 11, none⟩ = some s2 := by simp [World.cell?, h.blk]
theorem free (h : EvAt b W p a x s1 s2) (i : Nat) : W.frozen? ⟨b, i, none⟩ = false := by simp [World.frozen?, h.blk]
theorem set8 (h : EvAt b W p a x s1 s2) (u : Value) : EvAt b (W.setCell ⟨b, 8, none⟩ u) p a x u s2 := ⟨blkS h.blk u⟩
theorem set11 (h : EvAt b W p a x s1 s2) (u : Value) : EvAt b (W.setCell ⟨b, 11, none⟩ u) p a x s1 u := ⟨blkS h.blk u⟩
end EvAt

/-- A new place for an event. -/
abbrev EvNew (b : Nat) (W : World) : Prop := EvAt b W ⟨0, 0, 0⟩ Ac.zero An.zero (.slice none 0 0) (.slice none 0 0)

/-- Twelve cells stored. -/
def twelve (W : World) (b : Nat) (u0 u1 u2 u3 u4 u5 u6 u7 u8 u9 u10 u11 : Value) : World :=
  (((((((((((W.setCell ⟨b, 0, none⟩ u0).setCell ⟨b, 1, none⟩ u1).setCell ⟨b, 2, none⟩ u2).setCell ⟨b, 3, none⟩ u3).setCell ⟨b, 4, none⟩ u4).setCell ⟨b, 5, none⟩ u5).setCell ⟨b, 6, none⟩ u6).setCell ⟨b, 7, none⟩ u7).setCell ⟨b, 8, none⟩ u8).setCell ⟨b, 9, none⟩ u9).setCell ⟨b, 10, none⟩ u10).setCell ⟨b, 11, none⟩ u11

theorem twelve_far (W : World) (b : Nat) (u0 u1 u2 u3 u4 u5 u6 u7 u8 u9 u10 u11 : Value) {k : Nat} (h : k ≠ b) : (twelve W b u0 u1 u2 u3 u4 u5 u6 u7 u8 u9 u10 u11).heap[k]? = W.heap[k]? := by
  unfold twelve
  rw [Below.heap_setCell _ _ _ _ h, Below.heap_setCell _ _ _ _ h, Below.heap_setCell _ _ _ _ h, Below.heap_setCell _ _ _ _ h, Below.heap_setCell _ _ _ _ h, Below.heap_setCell _ _ _ _ h, Below.heap_setCell _ _ _ _ h, Below.heap_setCell _ _ _ _ h, Below.heap_setCell _ _ _ _ h, Below.heap_setCell _ _ _ _ h, Below.heap_setCell _ _ _ _ h, Below.heap_setCell _ _ _ _ h]

theorem twelve_size (W : World) (b : Nat) (u0 u1 u2 u3 u4 u5 u6 u7 u8 u9 u10 u11 : Value) : (twelve W b u0 u1 u2 u3 u4 u5 u6 u7 u8 u9 u10 u11).heap.size = W.heap.size := by
  simp [twelve, World.setCell]

theorem twelve_touch (W : World) (b : Nat) (u0 u1 u2 u3 u4 u5 u6 u7 u8 u9 u10 u11 : Value) : Touch (fun k => k = b) W (twelve W b u0 u1 u2 u3 u4 u5 u6 u7 u8 u9 u10 u11) :=
  ((((((((((((Touch.refl (fun k => k = b) W).setCell (p := ⟨b, 0, none⟩) rfl u0).setCell (p := ⟨b, 1, none⟩) rfl u1).setCell (p := ⟨b, 2, none⟩) rfl u2).setCell (p := ⟨b, 3, none⟩) rfl u3).setCell (p := ⟨b, 4, none⟩) rfl u4).setCell (p := ⟨b, 5, none⟩) rfl u5).setCell (p := ⟨b, 6, none⟩) rfl u6).setCell (p := ⟨b, 7, none⟩) rfl u7).setCell (p := ⟨b, 8, none⟩) rfl u8).setCell (p := ⟨b, 9, none⟩) rfl u9).setCell (p := ⟨b, 10, none⟩) rfl u10).setCell (p := ⟨b, 11, none⟩) rfl u11

theorem twelve_blk {W : World} {b : Nat} {cs : Array Value} {t : TypeId} (h : W.heap[b]? = some (.cells cs t (0, 0))) (hs : cs.size = 12) (u0 u1 u2 u3 u4 u5 u6 u7 u8 u9 u10 u11 : Value) :
    (twelve W b u0 u1 u2 u3 u4 u5 u6 u7 u8 u9 u10 u11).heap[b]? = some (.cells #[u0, u1, u2, u3, u4, u5, u6, u7, u8, u9, u10, u11] t (0, 0)) := by
  match cs, hs with
  | ⟨[v0, v1, v2, v3, v4, v5, v6, v7, v8, v9, v10, v11]⟩, _ => simp [twelve, World.setCell, Array.getElem?_modify, h]

/-- A copy of an event: its bytes lie in new memory. -/
def CopyTold (p : Pk) (a : Ac) (x : An) (w : World) (e : Ending) (w' : World) : Prop :=
  ∃ A1 l1 c1 A2 l2 c2, e = .returned (.agg #[.int .i64 p.K, .int .i64 p.A, .int .i64 p.N, .int .i64 a.K, .int .i64 a.P, .int .i64 a.N, .int .u64 a.V, .int .u64 a.U, .slice A1 l1 c1, .int .u64 x.V, .bool x.D, .slice A2 l2 c2]) ∧ Owns w.heap.size w' (.slice A1 l1 c1) a.bs ∧ Owns w.heap.size w' (.slice A2 l2 c2) x.bs ∧ Below w.heap.size w w'

set_option maxRecDepth 100000 in
set_option maxHeartbeats 1000000 in
theorem copied_any (p : Pk) (a : Ac) (x : An) (A1 A2 : Option Addr) (l1 l2 c1 c2 : Nat) (w : World) (h1 : BytesAt w (.slice A1 l1 c1) a.bs) (h2 : BytesAt w (.slice A2 l2 c2) x.bs) (hl1 : a.bs.length ≤ 1073741824) (hl2 : x.bs.length ≤ 1073741824) :
    Calls Try.prog 38 #[.agg #[.int .i64 p.K, .int .i64 p.A, .int .i64 p.N, .int .i64 a.K, .int .i64 a.P, .int .i64 a.N, .int .u64 a.V, .int .u64 a.U, .slice A1 l1 c1, .int .u64 x.V, .bool x.D, .slice A2 l2 c2]] w (CopyTold p a x w) := by
  have e1 : a.bs.length = l1 := by obtain ⟨_, _, e, _⟩ := h1; injection e with _ e _; exact e.symm
  have e2 : x.bs.length = l2 := by obtain ⟨_, _, e, _⟩ := h2; injection e with _ e _; exact e.symm
  have HW := ((Below.refl w.heap.size w).alloc (Nat.le_refl _) (.cells #[.int .i64 p.K, .int .i64 p.A, .int .i64 p.N, .int .i64 a.K, .int .i64 a.P, .int .i64 a.N, .int .u64 a.V, .int .u64 a.U, .slice A1 l1 c1, .int .u64 x.V, .bool x.D, .slice A2 l2 c2] 51)).alloc (by simp) (.cells #[.int .i64 0, .int .i64 0, .int .i64 0, .int .i64 0, .int .i64 0, .int .i64 0, .int .u64 0, .int .u64 0, .slice none 0 0, .int .u64 0, .bool false, .slice none 0 0] 51)
  have hX : EvAt w.heap.size _ p a x (.slice A1 l1 c1) (.slice A2 l2 c2) := ⟨(Below.heap_alloc _ (.cells #[.int .i64 0, .int .i64 0, .int .i64 0, .int .i64 0, .int .i64 0, .int .i64 0, .int .u64 0, .int .u64 0, .slice none 0 0, .int .u64 0, .bool false, .slice none 0 0] 51) w.heap.size (by simp)).trans (Go.Deep.blk_alloc_new w (.cells #[.int .i64 p.K, .int .i64 p.A, .int .i64 p.N, .int .i64 a.K, .int .i64 a.P, .int .i64 a.N, .int .u64 a.V, .int .u64 a.U, .slice A1 l1 c1, .int .u64 x.V, .bool x.D, .slice A2 l2 c2] 51))⟩
  have hR := Go.Deep.blk_alloc_new (w.alloc (.cells #[.int .i64 p.K, .int .i64 p.A, .int .i64 p.N, .int .i64 a.K, .int .i64 a.P, .int .i64 a.N, .int .u64 a.V, .int .u64 a.U, .slice A1 l1 c1, .int .u64 x.V, .bool x.D, .slice A2 l2 c2] 51)) (.cells #[.int .i64 0, .int .i64 0, .int .i64 0, .int .i64 0, .int .i64 0, .int .i64 0, .int .u64 0, .int .u64 0, .slice none 0 0, .int .u64 0, .bool false, .slice none 0 0] 51)
  have e3 : (w.alloc (.cells #[.int .i64 p.K, .int .i64 p.A, .int .i64 p.N, .int .i64 a.K, .int .i64 a.P, .int .i64 a.N, .int .u64 a.V, .int .u64 a.U, .slice A1 l1 c1, .int .u64 x.V, .bool x.D, .slice A2 l2 c2] 51)).heap.size = w.heap.size + 1 := by simp
  rw [e3] at hR
  have HB1 := Lib.hid (h1.below HW)
  have HB2 := Lib.hid h2
  clear h1 h2 e3
  go_enter Try.func38, Try.ntmps38
  go_wp2_with fail
  generalize (w.alloc (.cells #[.int .i64 p.K, .int .i64 p.A, .int .i64 p.N, .int .i64 a.K, .int .i64 a.P, .int .i64 a.N, .int .u64 a.V, .int .u64 a.U, .slice A1 l1 c1, .int .u64 x.V, .bool x.D, .slice A2 l2 c2] 51)).alloc (.cells #[.int .i64 0, .int .i64 0, .int .i64 0, .int .i64 0, .int .i64 0, .int .i64 0, .int .u64 0, .int .u64 0, .slice none 0 0, .int .u64 0, .bool false, .slice none 0 0] 51) = W at HW hX hR HB1 ⊢
  have hc8 := hX.e8
  refine (clone_sl A1 l1 c1 a.bs W HB1.out (by omega)).mono ?_
  rintro e w1 ⟨B1, d1, rfl, ho1, hb1⟩
  have hX1 := hX.below hb1
  have hR1 := (hb1.block (w.heap.size + 1) (Array.getElem?_eq_some_iff.1 hR).1).trans hR
  have hz8 := hX1.free 8
  have hc8' := hX1.e8
  have hc11 := hX1.e11
  have hW1 := HW.trans (hb1.mono HW.size)
  have HW2 := hW1.setCell (p := ⟨w.heap.size, 8, none⟩) (Nat.le_refl _) (.slice B1 l1 d1)
  have hX2 := hX1.set8 (.slice B1 l1 d1)
  have hR2 := blkF (i := 8) (g' := w.heap.size) hR1 (by omega) (.slice B1 l1 d1)
  have hlW := (Array.getElem?_eq_some_iff.1 hR).1
  have HO1 := Lib.hid (ho1.setCell (p := ⟨w.heap.size, 8, none⟩) (by show w.heap.size < W.heap.size; omega) (.slice B1 l1 d1))
  have HK := Lib.hid (And.intro hX2 hR2)
  clear hX hR hR1 ho1
  go_wp2_with fail
  generalize w1.setCell ⟨w.heap.size, 8, none⟩ (.slice B1 l1 d1) = W2 at HW2 hX2 hR2 HO1 HK ⊢
  have hlW1 := hb1.size
  have hl2s := (Array.getElem?_eq_some_iff.1 hR2).1
  refine (clone_sl A2 l2 c2 x.bs W2 (HB2.out.below HW2) (by omega)).mono ?_
  rintro e w2 ⟨B2, d2, rfl, ho2, hb2⟩
  have hX3 := hX2.below hb2
  have hR3 := (hb2.block (w.heap.size + 1) hl2s).trans hR2
  have hz11 := hX3.free 11
  have hc11' := hX3.e11
  have HW3 := (HW2.trans (hb2.mono HW2.size)).setCell (p := ⟨w.heap.size, 11, none⟩) (Nat.le_refl _) (.slice B2 l2 d2)
  have hX4 := hX3.set11 (.slice B2 l2 d2)
  have hR4 := blkF (i := 11) (g' := w.heap.size) hR3 (by omega) (.slice B2 l2 d2)
  have HO3 := Lib.hid ((HO1.out.below hb2).setCell (p := ⟨w.heap.size, 11, none⟩) (by show w.heap.size < W.heap.size; omega) (.slice B2 l2 d2))
  have HO4 := Lib.hid (ho2.setCell (p := ⟨w.heap.size, 11, none⟩) (by show w.heap.size < W2.heap.size; omega) (.slice B2 l2 d2))
  have a0 := hX3.e0
  have a1 := hX3.e1
  have a2 := hX3.e2
  have a3 := hX3.e3
  have a4 := hX3.e4
  have a5 := hX3.e5
  have a6 := hX3.e6
  have a7 := hX3.e7
  have a8 := hX3.e8
  have a9 := hX3.e9
  have a10 := hX3.e10
  have r0 : w2.cell? ⟨w.heap.size + 1, 0, none⟩ = some (.int .i64 0) := by simp [World.cell?, hR3]
  have r1 : w2.cell? ⟨w.heap.size + 1, 1, none⟩ = some (.int .i64 0) := by simp [World.cell?, hR3]
  have r2 : w2.cell? ⟨w.heap.size + 1, 2, none⟩ = some (.int .i64 0) := by simp [World.cell?, hR3]
  have r3 : w2.cell? ⟨w.heap.size + 1, 3, none⟩ = some (.int .i64 0) := by simp [World.cell?, hR3]
  have r4 : w2.cell? ⟨w.heap.size + 1, 4, none⟩ = some (.int .i64 0) := by simp [World.cell?, hR3]
  have r5 : w2.cell? ⟨w.heap.size + 1, 5, none⟩ = some (.int .i64 0) := by simp [World.cell?, hR3]
  have r6 : w2.cell? ⟨w.heap.size + 1, 6, none⟩ = some (.int .u64 0) := by simp [World.cell?, hR3]
  have r7 : w2.cell? ⟨w.heap.size + 1, 7, none⟩ = some (.int .u64 0) := by simp [World.cell?, hR3]
  have r8 : w2.cell? ⟨w.heap.size + 1, 8, none⟩ = some (.slice none 0 0) := by simp [World.cell?, hR3]
  have r9 : w2.cell? ⟨w.heap.size + 1, 9, none⟩ = some (.int .u64 0) := by simp [World.cell?, hR3]
  have r10 : w2.cell? ⟨w.heap.size + 1, 10, none⟩ = some (.bool false) := by simp [World.cell?, hR3]
  have r11 : w2.cell? ⟨w.heap.size + 1, 11, none⟩ = some (.slice none 0 0) := by simp [World.cell?, hR3]
  have f0 : w2.frozen? ⟨w.heap.size + 1, 0, none⟩ = false := by simp [World.frozen?, hR3]
  have f1 : w2.frozen? ⟨w.heap.size + 1, 1, none⟩ = false := by simp [World.frozen?, hR3]
  have f2 : w2.frozen? ⟨w.heap.size + 1, 2, none⟩ = false := by simp [World.frozen?, hR3]
  have f3 : w2.frozen? ⟨w.heap.size + 1, 3, none⟩ = false := by simp [World.frozen?, hR3]
  have f4 : w2.frozen? ⟨w.heap.size + 1, 4, none⟩ = false := by simp [World.frozen?, hR3]
  have f5 : w2.frozen? ⟨w.heap.size + 1, 5, none⟩ = false := by simp [World.frozen?, hR3]
  have f6 : w2.frozen? ⟨w.heap.size + 1, 6, none⟩ = false := by simp [World.frozen?, hR3]
  have f7 : w2.frozen? ⟨w.heap.size + 1, 7, none⟩ = false := by simp [World.frozen?, hR3]
  have f8 : w2.frozen? ⟨w.heap.size + 1, 8, none⟩ = false := by simp [World.frozen?, hR3]
  have f9 : w2.frozen? ⟨w.heap.size + 1, 9, none⟩ = false := by simp [World.frozen?, hR3]
  have f10 : w2.frozen? ⟨w.heap.size + 1, 10, none⟩ = false := by simp [World.frozen?, hR3]
  have f11 : w2.frozen? ⟨w.heap.size + 1, 11, none⟩ = false := by simp [World.frozen?, hR3]
  clear hX2 hR2 hX3 hR3 hc8 hc11 ho2 hc8'
  go_wp2
  refine bodyPost_ret (v := .agg #[.int .i64 p.K, .int .i64 p.A, .int .i64 p.N, .int .i64 a.K, .int .i64 a.P, .int .i64 a.N, .int .u64 a.V, .int .u64 a.U, .slice B1 l1 d1, .int .u64 x.V, .bool x.D, .slice B2 l2 d2]) (by simp [results, Try.results38, go_sem, r0, r1, r2, r3, r4, r5, r6, r7, r8, r9, r10, r11]) rfl ?_
  have hR5 : (w2.setCell ⟨w.heap.size, 11, none⟩ (.slice B2 l2 d2)).heap.size = w2.heap.size := by simp [World.setCell]
  have hne : ∀ k, w.heap.size + 1 + 1 ≤ k → k ≠ w.heap.size + 1 := fun k hk => by omega
  have hs2 := hb2.size
  refine ⟨B1, l1, d1, B2, l2, d2, rfl, ?_, ?_, ?_⟩
  · exact ((HO3.out.of_block fun k hk => twelve_far _ _ _ _ _ _ _ _ _ _ _ _ _ _ (hne k (by have := (HO3.out.ge hk).1; omega)))).down (by omega)
  · exact ((HO4.out.of_block fun k hk => twelve_far _ _ _ _ _ _ _ _ _ _ _ _ _ _ (hne k (by have := (HO4.out.ge hk).1; omega)))).down (by omega)
  · exact (twelve_touch _ _ _ _ _ _ _ _ _ _ _ _ _ _).below HW3 (by omega) (fun k hk => by omega)
end Go.Proofs.Ytijgfaggakbajaa
