/-
  Layer 6's machines, as far as this seat reaches them: what each does next, what it does with an answer, where it stands in memory.
  Layer 6's next: a machine's next access, asked through the interface, its bytes in new memory.
  Layer 2's Do once more: what was read lies in new memory.
  Layer 6's scheduler in memory: who owns which block; what turns, and what stays.
  Layer 2's plain Do, for accesses that read or write some bytes (what copies ask for), walked.
  Layer 2's plain Do, for the accesses of words that a put asks for, walked.
  Layer 2's Count and Bytes; parted, since not every seat reaches them.
  A buffer and plain bytes, side by side: an access of a word, done on both.
  Arguments opened: an answer by value, a slice of answers.
  What somebody else writes in between, handed in as a row: opened.
-/
import Derived.Test.YtikcnioooihncaaGreatP03
import Derived.Test.YtikcnioooihncaaGreatP06
import Derived.Test.YtikcnioooihncaaGreatP07
import Derived.Test.YtikcnioooihncaaGreatP02
import Derived.Test.YtikcnioooihncaaGreatP04
import Derived.Deep.CutRange
import Derived.Deep.QuietTactic
import Derived.BigQuiet
import Derived.Deep.Slices
namespace Go.Proofs.YtikcnioooihncaaGreat
open Go.RowKit

/-- A machine: none, a copy, or what else this seat reaches. -/
inductive Mc where
  | none
  | copy (kd : Kd) (d r : Nat) (ys : List Int)
  | put (m : Pm)
  | get (m : Gm)

/-- What a copy writes are bytes. -/
def Kd.Okay : Kd → Prop
  | .wr _ f => Mb.IsB f
  | _ => True

theorem Kd.bytes_bys {kd : Kd} (h : kd.Okay) (d c : Nat) : Bys (kd.bytes d c) := by
  cases kd with
  | wr a f => exact Bys.bl h d c
  | ze a => exact Bys.bl (m := fun _ => 0) Mb.zero_isB d c
  | rd a => exact Bys.nil

theorem Kd.bytes_few (kd : Kd) (d c : Nat) : (kd.bytes d c).length ≤ c := by
  cases kd with
  | wr a f => exact Nat.le_of_eq (Mb.bl_length _ _ _)
  | ze a => simp [Kd.bytes, Mb.bl]
  | rd a => exact Nat.zero_le _

namespace Mc
/-- The next access. -/
def next : Mc → Option Ac
  | .none => .none
  | .copy kd d r _ => if r = 0 then .none else some ⟨kd.kind, kd.place + d, Cy.nx r, 0, 0, kd.bytes d (Cy.nx r)⟩
  | .put m => m.next
  | .get m => m.next
/-- An answer is taken. -/
def take : Mc → An → Mc
  | .none, _ => .none
  | .copy kd d r ys, x => if r = 0 then .copy kd d r ys else .copy kd (d + Cy.nx r) (r - Cy.nx r) (ys ++ if kd.reads then x.bs else [])
  | .put m, x => .put (m.take x)
  | .get m, x => .get (m.take x)
/-- The clock is told. -/
def tick (s : Mc) (_ : Int) : Mc := s
theorem next_copy (kd : Kd) (d r : Nat) (ys : List Int) : (Mc.copy kd d r ys).next = if r = 0 then .none else some ⟨kd.kind, kd.place + d, Cy.nx r, 0, 0, kd.bytes d (Cy.nx r)⟩ := rfl
theorem take_copy (kd : Kd) (d r : Nat) (ys : List Int) (x : An) : (Mc.copy kd d r ys).take x = if r = 0 then .copy kd d r ys else .copy kd (d + Cy.nx r) (r - Cy.nx r) (ys ++ if kd.reads then x.bs else []) := rfl
end Mc

/-- A machine stands in the blocks F; x is the interface's value. -/
def MRep (w : World) (F : Nat → Prop) (x : Value) : Mc → Prop
  | .none => x = .nilIface
  | .copy kd d r ys => ∃ base top g v, x = .iface 179 (.pointer (some ⟨g, 0, none⟩)) ∧ Cp w base top g kd d r v ys ∧ (∀ k, base ≤ k → k < top → F k) ∧ (∀ k, v.ownBlock = some k → F k) ∧ kd.Okay ∧ ys.length ≤ 8 * d
  | .put m => ∃ g, x = .iface 58 (.pointer (some ⟨g, 0, none⟩)) ∧ PmAt w F g m
  | .get m => ∃ g, x = .iface 27 (.pointer (some ⟨g, 0, none⟩)) ∧ GmAt w F g m ∧ m.Short

namespace MRep
variable {w w' : World} {F F' : Nat → Prop} {x : Value} {s : Mc}
theorem keep (h : MRep w F x s) (hs : w.heap.size ≤ w'.heap.size) (hb : ∀ k, F k → w'.heap[k]? = w.heap[k]?) : MRep w' F x s := by
  cases s with
  | none => exact h
  | copy kd d r ys =>
    obtain ⟨base, top, g, v, e, hc, h1, h2, h3, h4⟩ := h
    exact ⟨base, top, g, v, e, hc.keep hs (fun k a b => hb k (h1 k a b)) (fun k hk => hb k (h2 k hk)), h1, h2, h3, h4⟩
  | put m =>
    obtain ⟨g, e, h1⟩ := h
    exact ⟨g, e, h1.keep hs hb⟩
  | get m =>
    obtain ⟨g, e, h1, h2⟩ := h
    exact ⟨g, e, h1.keep hs hb, h2⟩
theorem mono (h : MRep w F x s) (hF : ∀ k, F k → F' k) : MRep w F' x s := by
  cases s with
  | none => exact h
  | copy kd d r ys =>
    obtain ⟨base, top, g, v, e, hc, h1, h2, h3, h4⟩ := h
    exact ⟨base, top, g, v, e, hc, fun k a b => hF k (h1 k a b), fun k hk => hF k (h2 k hk), h3, h4⟩
  | put m =>
    obtain ⟨g, e, h1⟩ := h
    exact ⟨g, e, h1.wide hF⟩
  | get m =>
    obtain ⟨g, e, h1, h2⟩ := h
    exact ⟨g, e, h1.wide hF, h2⟩
/-- No machine, or an interface's value. -/
theorem shape (h : MRep w F x s) : (x = .nilIface ∧ s = .none) ∨ ∃ T y, x = .iface T y := by
  cases s with
  | none => exact .inl ⟨h, rfl⟩
  | copy kd d r ys =>
    obtain ⟨_, _, _, _, e, _⟩ := h
    exact .inr ⟨_, _, e⟩
  | put m =>
    obtain ⟨_, e, _⟩ := h
    exact .inr ⟨_, _, e⟩
  | get m =>
    obtain ⟨_, e, _⟩ := h
    exact .inr ⟨_, _, e⟩
/-- What a machine asks for is an access. -/
theorem fine (h : MRep w F x s) {a : Ac} (ha : s.next = some a) : a.Fine := by
  cases s with
  | none => cases ha
  | copy kd d r ys =>
    obtain ⟨base, top, g, v, e, hc, h1, h2, h3, h4⟩ := h
    rw [Mc.next_copy] at ha
    by_cases hr : r = 0
    · rw [if_pos hr] at ha; cases ha
    · rw [if_neg hr] at ha
      injection ha with ha
      subst ha
      have hn := Cy.nx_le r
      have hf := hc.few
      have hp := hc.near
      have hb := kd.bytes_few d (Cy.nx r)
      refine ⟨by show (0:Nat) < _; decide, by show (0:Nat) < _; decide, ?_, ?_, ?_, Kd.bytes_bys h3 _ _, ?_⟩
      · show _ ≤ kd.kind ∧ kd.kind ≤ _
        cases kd <;> (simp [Kd.kind])
      · show _ ≤ kd.place + (d : Int) ∧ kd.place + (d : Int) ≤ _
        omega
      · show _ ≤ ((Cy.nx r : Nat) : Int) ∧ ((Cy.nx r : Nat) : Int) ≤ _
        omega
      · show (kd.bytes d (Cy.nx r)).length ≤ _
        omega
  | put m =>
    obtain ⟨g, _, h1⟩ := h
    exact Pm.fine h1 ha
  | get m =>
    obtain ⟨g, _, h1, _⟩ := h
    exact Gm.fine h1 ha
end MRep

theorem method_next_put0 (n : Nat) (g : Nat) (w : World) : (method (n + 100) 58 (.pointer (some ⟨g, 0, none⟩)) "Next").run Tryz.prog w = .ok (49, .pointer (some ⟨g, 0, none⟩)) w := by kernel_rfl

theorem method_next_put (g F : Nat) (w : World) (h : 100 ≤ F) : (method F 58 (.pointer (some ⟨g, 0, none⟩)) "Next").run Tryz.prog w = .ok (49, .pointer (some ⟨g, 0, none⟩)) w := by
  obtain ⟨n, rfl⟩ : ∃ n, F = n + 100 := ⟨F - 100, by omega⟩
  exact method_next_put0 n g w

theorem method_take_put0 (n : Nat) (g : Nat) (w : World) : (method (n + 100) 58 (.pointer (some ⟨g, 0, none⟩)) "Take").run Tryz.prog w = .ok (22, .pointer (some ⟨g, 0, none⟩)) w := by kernel_rfl

theorem method_take_put (g F : Nat) (w : World) (h : 100 ≤ F) : (method F 58 (.pointer (some ⟨g, 0, none⟩)) "Take").run Tryz.prog w = .ok (22, .pointer (some ⟨g, 0, none⟩)) w := by
  obtain ⟨n, rfl⟩ : ∃ n, F = n + 100 := ⟨F - 100, by omega⟩
  exact method_take_put0 n g w

theorem method_next_get0 (n : Nat) (g : Nat) (w : World) : (method (n + 100) 27 (.pointer (some ⟨g, 0, none⟩)) "Next").run Tryz.prog w = .ok (9, .pointer (some ⟨g, 0, none⟩)) w := by kernel_rfl

theorem method_next_get (g F : Nat) (w : World) (h : 100 ≤ F) : (method F 27 (.pointer (some ⟨g, 0, none⟩)) "Next").run Tryz.prog w = .ok (9, .pointer (some ⟨g, 0, none⟩)) w := by
  obtain ⟨n, rfl⟩ : ∃ n, F = n + 100 := ⟨F - 100, by omega⟩
  exact method_next_get0 n g w

theorem method_take_get0 (n : Nat) (g : Nat) (w : World) : (method (n + 100) 27 (.pointer (some ⟨g, 0, none⟩)) "Take").run Tryz.prog w = .ok (8, .pointer (some ⟨g, 0, none⟩)) w := by kernel_rfl

theorem method_take_get (g F : Nat) (w : World) (h : 100 ≤ F) : (method F 27 (.pointer (some ⟨g, 0, none⟩)) "Take").run Tryz.prog w = .ok (8, .pointer (some ⟨g, 0, none⟩)) w := by
  obtain ⟨n, rfl⟩ : ∃ n, F = n + 100 := ⟨F - 100, by omega⟩
  exact method_take_get0 n g w

/-- The two blocks that a closure hands its results in. -/
def Pair (a b k : Nat) : Prop := k = a ∨ k = b

/-- What a machine wants stands in block pa; whether it wants anything in block po. -/
def Asked (o : Option Ac) (pa po : Nat) (w w' : World) : Prop :=
  Touch (Pair pa po) w w' ∧ match o with
  | none => w'.heap[pa]? = some (.cells #[.int .i64 0, .int .i64 0, .int .i64 0, .int .u64 0, .int .u64 0, .slice none 0 0] 30 (0, 0)) ∧ w'.heap[po]? = some (.cells #[.bool false] 4 (0, 0))
  | some a => ∃ A l c, w'.heap[pa]? = some (.cells #[.int .i64 a.K, .int .i64 a.P, .int .i64 a.N, .int .u64 a.V, .int .u64 a.U, .slice A l c] 30 (0, 0)) ∧ w'.heap[po]? = some (.cells #[.bool true] 4 (0, 0)) ∧
      BytesAt w' (.slice A l c) a.bs

/-- A new place for whether. -/
structure BoolNew (b : Nat) (W : World) : Prop where
  c0 : W.cell? ⟨b, 0, none⟩ = some (.bool false)
  f0 : W.frozen? ⟨b, 0, none⟩ = false
  blk : W.heap[b]? = some (.cells #[.bool false] 4 (0, 0))
theorem BoolNew.of_blk {b : Nat} {W : World} (h : W.heap[b]? = some (.cells #[.bool false] 4 (0, 0))) : BoolNew b W := by
  refine ⟨?_, ?_, h⟩
  · simp [World.cell?, h]
  · simp [World.frozen?, h]

/-- An access and a truth, stored in two places. -/
theorem seven_blocks {W : World} {pa po : Nat} (hne : pa ≠ po) (ha : W.heap[pa]? = some (.cells #[.int .i64 0, .int .i64 0, .int .i64 0, .int .u64 0, .int .u64 0, .slice none 0 0] 30 (0, 0))) (ho : W.heap[po]? = some (.cells #[.bool false] 4 (0, 0))) (u0 u1 u2 u3 u4 u5 u6 : Value) :
    ((six W pa u0 u1 u2 u3 u4 u5).setCell ⟨po, 0, none⟩ u6).heap[pa]? = some (.cells #[u0, u1, u2, u3, u4, u5] 30 (0, 0)) ∧ ((six W pa u0 u1 u2 u3 u4 u5).setCell ⟨po, 0, none⟩ u6).heap[po]? = some (.cells #[u6] 4 (0, 0)) := by
  refine ⟨?_, ?_⟩
  · rw [Below.heap_setCell _ _ _ _ hne]
    simp [six, World.setCell, Array.getElem?_modify, ha]
  · have h6 : (six W pa u0 u1 u2 u3 u4 u5).heap[po]? = W.heap[po]? := by
      unfold six
      rw [Below.heap_setCell _ _ _ _ hne.symm, Below.heap_setCell _ _ _ _ hne.symm, Below.heap_setCell _ _ _ _ hne.symm, Below.heap_setCell _ _ _ _ hne.symm, Below.heap_setCell _ _ _ _ hne.symm, Below.heap_setCell _ _ _ _ hne.symm]
    have h7 := h6.trans ho
    simp [World.setCell, Array.getElem?_modify, h7]

theorem seven_touch {w W : World} {pa po : Nat} (h : Touch (Pair pa po) w W) (u0 u1 u2 u3 u4 u5 u6 : Value) : Touch (Pair pa po) w ((six W pa u0 u1 u2 u3 u4 u5).setCell ⟨po, 0, none⟩ u6) :=
  ((((((h.setCell (p := ⟨pa, 0, none⟩) (.inl rfl) u0).setCell (p := ⟨pa, 1, none⟩) (.inl rfl) u1).setCell (p := ⟨pa, 2, none⟩) (.inl rfl) u2).setCell (p := ⟨pa, 3, none⟩) (.inl rfl) u3).setCell (p := ⟨pa, 4, none⟩) (.inl rfl) u4).setCell (p := ⟨pa, 5, none⟩) (.inl rfl) u5).setCell (p := ⟨po, 0, none⟩) (.inr rfl) u6

set_option maxRecDepth 100000 in
set_option maxHeartbeats 400000 in
theorem nextIn_told {w : World} {T : TypeId} {y : Value} {fid : FuncId} {q : Option Ac} (hme : ∀ n w, 100 ≤ n → (method n T y "Next").run Tryz.prog w = .ok (fid, y) w) (hent : ∀ w, (callFunc fid #[y]).run Tryz.prog w = .ok (.enter fid #[y]) w) (hc : Calls Tryz.prog fid #[y] w (NextTold q w)) (pm pa po : Nat)
    (hm : w.cell? ⟨pm, 0, none⟩ = some (.iface T y)) (ha : AccNew pa w) (ho : BoolNew po w) (hne : pa ≠ po) :
    Calls Tryz.prog 114 #[.pointer (some ⟨pm, 0, none⟩), .pointer (some ⟨pa, 0, none⟩), .pointer (some ⟨po, 0, none⟩)] w fun e w' => e = .returned (.tuple #[]) ∧ Asked q pa po w w' := by
  have HC := Lib.hid hc
  have HA := Lib.hid ha
  have HO := Lib.hid ho
  clear hc ha ho
  have hpa := (Array.getElem?_eq_some_iff.1 HA.out.blk).1
  have hpo := (Array.getElem?_eq_some_iff.1 HO.out.blk).1
  go_enter Tryz.func114, Tryz.ntmps114
  go_wp2_with fail
  refine HC.out.mono ?_
  cases q with
  | none =>
    rintro e w1 ⟨hb, rfl⟩
    have hoN := BoolNew.of_blk ((hb.block po hpo).trans HO.out.blk)
    obtain ⟨a0, a1, a2, a3, a4, a5, f0, f1, f2, f3, f4, f5, ab⟩ := HA.out.later hb
    obtain ⟨o0, z0, ob⟩ := hoN
    have HH := Lib.hid (And.intro ab ob)
    clear ab ob
    go_wp2_with fail
    go_end0
    have h7 := seven_blocks hne HH.out.1 HH.out.2
    exact ⟨rfl, seven_touch (Touch.of_below hb) _ _ _ _ _ _ _, (h7 _ _ _ _ _ _ _).1, (h7 _ _ _ _ _ _ _).2⟩
  | some a =>
    rintro e w1 ⟨hb, A, l, cp, rfl, how⟩
    have hoN := BoolNew.of_blk ((hb.block po hpo).trans HO.out.blk)
    obtain ⟨a0, a1, a2, a3, a4, a5, f0, f1, f2, f3, f4, f5, ab⟩ := HA.out.later hb
    obtain ⟨o0, z0, ob⟩ := hoN
    have HH := Lib.hid (And.intro ab ob)
    have HOW := Lib.hid how
    clear how ab ob
    go_wp2_with fail
    go_end0
    have h7 := seven_blocks hne HH.out.1 HH.out.2
    refine ⟨rfl, seven_touch (Touch.of_below hb) _ _ _ _ _ _ _, A, l, cp, (h7 _ _ _ _ _ _ _).1, (h7 _ _ _ _ _ _ _).2, ?_⟩
    exact ((six_own HOW.out hpa _ _ _ _ _ _).setCell (p := ⟨po, 0, none⟩) hpo _).bytes

theorem cp_nextTold {kd : Kd} {w : World} {base top g d r : Nat} {v : Value} {ys : List Int} (h : Cp w base top g kd d r v ys) : Calls Tryz.prog 180 #[.pointer (some ⟨g, 0, none⟩)] w (NextTold (Mc.copy kd d r ys).next w) := by
  rw [Mc.next_copy]
  by_cases hr : r = 0
  · subst hr
    rw [if_pos rfl]
    refine (next_no h).mono ?_
    rintro e w' ⟨rfl, hb⟩
    exact ⟨hb, rfl⟩
  · rw [if_neg hr]
    refine (next_any h (by omega)).mono ?_
    rintro e w' ⟨A, l, c, rfl, ho, hb⟩
    exact ⟨hb, A, l, c, rfl, ho⟩

/-- A machine's own Next: which function, and what it tells. -/
theorem mrep_next {w : World} {F : Nat → Prop} {T : TypeId} {y : Value} {s : Mc} (h : MRep w F (.iface T y) s) (hlt : ∀ k, F k → k < w.heap.size) :
    ∃ fid, (∀ n w, 100 ≤ n → (method n T y "Next").run Tryz.prog w = .ok (fid, y) w) ∧ (∀ w, (callFunc fid #[y]).run Tryz.prog w = .ok (.enter fid #[y]) w) ∧ Calls Tryz.prog fid #[y] w (NextTold s.next w) := by
  cases s with
  | none => cases h
  | copy kd d r ys =>
    obtain ⟨base, top, g, v, e, hc, h1, h2, h3, h4⟩ := h
    injection e with e1 e2
    subst e1 e2
    exact ⟨_, method_next_at g, fun w => by simp [go_sem], cp_nextTold hc⟩
  | put m =>
    obtain ⟨g, e, hp⟩ := h
    injection e with e1 e2
    subst e1 e2
    exact ⟨_, method_next_put g, fun w => by simp [go_sem], putNext hp hlt⟩
  | get m =>
    obtain ⟨g, e, hp, _⟩ := h
    injection e with e1 e2
    subst e1 e2
    exact ⟨_, method_next_get g, fun w => by simp [go_sem], getNext hp hlt⟩

/-- What a machine wants, asked through the interface. -/
theorem nextIn_any {w : World} {F : Nat → Prop} {T : TypeId} {y : Value} {s : Mc} (h : MRep w F (.iface T y) s) (hlt : ∀ k, F k → k < w.heap.size) (pm pa po : Nat) (hm : w.cell? ⟨pm, 0, none⟩ = some (.iface T y)) (ha : AccNew pa w) (ho : BoolNew po w) (hne : pa ≠ po) :
    Calls Tryz.prog 114 #[.pointer (some ⟨pm, 0, none⟩), .pointer (some ⟨pa, 0, none⟩), .pointer (some ⟨po, 0, none⟩)] w fun e w' => e = .returned (.tuple #[]) ∧ Asked s.next pa po w w' := by
  obtain ⟨fid, hme, hent, hc⟩ := mrep_next h hlt
  exact nextIn_told hme hent hc pm pa po hm ha ho hne

/-- A machine took something: it stands in its blocks, and in new ones. -/
def Moved (F : Nat → Prop) (x : Value) (s : Mc) (w : World) (w' : World) : Prop :=
  ∃ F', MRep w' F' x s ∧ Touch F w w' ∧ (∀ k, F' k → F k ∨ (w.heap.size ≤ k ∧ k < w'.heap.size))

theorem Moved.of_below {F : Nat → Prop} {x : Value} {s : Mc} {w w' : World} (h : MRep w F x s) (hlt : ∀ k, F k → k < w.heap.size) (hb : Below w.heap.size w w') : Moved F x s w w' :=
  ⟨F, h.keep hb.size fun k hk => hb.block k (hlt k hk), Touch.of_below hb, fun _ hk => .inl hk⟩

/-- A copy takes an answer. -/
theorem takeIn_copy {kd : Kd} {d r : Nat} {ys : List Int} {w : World} {F : Nat → Prop} {g : Nat} (h : MRep w F (.iface 179 (.pointer (some ⟨g, 0, none⟩))) (.copy kd d r ys)) (hlt : ∀ k, F k → k < w.heap.size) (x : An) (hx : x.Fine) (A : Option Addr) (l c : Nat) (hB : BytesAt w (.slice A l c) x.bs) :
    Calls Tryz.prog 181 #[.pointer (some ⟨g, 0, none⟩), .agg #[.int .u64 x.V, .bool x.D, .slice A l c]] w fun e w' => e = .returned (.tuple #[]) ∧ Moved F (.iface 179 (.pointer (some ⟨g, 0, none⟩))) ((Mc.copy kd d r ys).take x) w w' := by
  obtain ⟨base, top, g', v, e, hc, h1, h2, h3, h4⟩ := h
  injection e with e1 e2
  injection e2 with e3
  injection e3 with e4
  injection e4 with e5
  subst e5
  rw [Mc.take_copy]
  by_cases hr : r = 0
  · subst hr
    refine (take_no hc x.V x.D A l c).mono ?_
    rintro e w' ⟨rfl, hb⟩
    exact ⟨rfl, Moved.of_below (s := .copy kd d 0 ys) ⟨base, top, g, v, rfl, hc, h1, h2, h3, h4⟩ hlt hb⟩
  · rw [if_neg hr]
    have hd := hc.few
    have hxl := hx.few
    refine (take_any hc (by omega) x.V x.D A l c hB (by omega)).mono ?_
    rintro e w' ⟨v', rfl, hc', ht, hl⟩
    have hnp := Cy.nx_pos (r := r) (by omega)
    have hT : Touch F w w' := ht.mono fun k hk => by
      rcases hk with hk | hk
      · subst hk; exact h1 _ hc.above hc.under
      · exact h2 k hk
    refine ⟨rfl, fun k => F k ∨ (w.heap.size ≤ k ∧ k < w'.heap.size), ⟨base, top, g, v', rfl, hc', fun k a b => .inl (h1 k a b), fun k hk => ?_, h3, ?_⟩, hT, fun k hk => hk⟩
    · rcases hl k hk with e | e
      · exact .inl (h2 k e)
      · exact .inr ⟨e, (hc'.own.ge hk).2⟩
    · rw [List.length_append]
      split
      · omega
      · simp; omega

/-- A machine's own Take: which function, and what it leaves. -/
theorem mrep_take {w : World} {F : Nat → Prop} {T : TypeId} {y : Value} {s : Mc} (h : MRep w F (.iface T y) s) (hlt : ∀ k, F k → k < w.heap.size) (x : An) (hx : x.Fine) (A : Option Addr) (l c : Nat) (hB : BytesAt w (.slice A l c) x.bs) :
    ∃ fid, (∀ n w, 100 ≤ n → (method n T y "Take").run Tryz.prog w = .ok (fid, y) w) ∧ (∀ w, (callFunc fid #[y, .agg #[.int .u64 x.V, .bool x.D, .slice A l c]]).run Tryz.prog w = .ok (.enter fid #[y, .agg #[.int .u64 x.V, .bool x.D, .slice A l c]]) w) ∧
      Calls Tryz.prog fid #[y, .agg #[.int .u64 x.V, .bool x.D, .slice A l c]] w fun e w' => e = .returned (.tuple #[]) ∧ Moved F (.iface T y) (s.take x) w w' := by
  cases s with
  | none => cases h
  | copy kd d r ys =>
    have h0 := h
    obtain ⟨base, top, g, v, e, hc, h1, h2, h3, h4⟩ := h
    injection e with e1 e2
    subst e1 e2
    exact ⟨_, method_take_at g, fun w => by simp [go_sem], takeIn_copy h0 hlt x hx A l c hB⟩
  | put m =>
    obtain ⟨g, e, hp⟩ := h
    injection e with e1 e2
    subst e1 e2
    refine ⟨_, method_take_put g, fun w => by simp [go_sem], (putTake hp hlt x hx.v A l c hB).mono ?_⟩
    rintro e w' ⟨rfl, F', h1, h2, h3⟩
    exact ⟨rfl, F', ⟨g, rfl, h1⟩, h2, h3⟩
  | get m =>
    obtain ⟨g, e, hp, hsh⟩ := h
    injection e with e1 e2
    subst e1 e2
    refine ⟨_, method_take_get g, fun w => by simp [go_sem], (getTake hp hlt x A l c hB (Gm.short_fits hp hsh hx.few)).mono ?_⟩
    rintro e w' ⟨rfl, F', h1, h2, h3⟩
    exact ⟨rfl, F', ⟨g, rfl, h1, hsh.take hp hx.few⟩, h2, h3⟩
end Go.Proofs.YtikcnioooihncaaGreat
namespace Go.Proofs.YtikcnioooihncaaGreat
open Go.RowKit

theorem pair_below {w W W' : World} {B a b : Nat} (h : Below B w W) (ht : Touch (Pair a b) W W') (hB : B ≤ W.heap.size) (ha : B ≤ a) (hb : B ≤ b) : Below B w W' := ht.below h hB fun k hk => by rcases hk with rfl | rfl <;> assumption

theorem clone_none (w : World) : Calls Tryz.prog 46 #[.slice none 0 0] w fun e w' => e = .returned (.slice none 0 0) ∧ w = w' := by
  have heq := fun (w : World) (a : Option Addr) => Lib.run_eql_slice_nil (P := Tryz.prog) w 23 5 a 0 0 0 0 Tryz.underlying23
  go_enter Tryz.func46, Tryz.ntmps46
  go_wp2
  go_ret
  exact ⟨rfl, rfl⟩

set_option maxRecDepth 100000 in
set_option maxHeartbeats 400000 in
theorem next_nilIface (w : World) : Calls Tryz.prog 86 #[.nilIface] w (NextTold none w) := by
  have HW := (((Below.refl w.heap.size w).alloc (Nat.le_refl _) (.cells #[.nilIface] 113)).alloc (by simp) (.cells #[.int .i64 0, .int .i64 0, .int .i64 0, .int .u64 0, .int .u64 0, .slice none 0 0] 30)).alloc (by simp; omega) (.cells #[.bool false] 4)
  have hA := Go.Deep.blk_alloc_new (w.alloc (.cells #[.nilIface] 113)) (.cells #[.int .i64 0, .int .i64 0, .int .i64 0, .int .u64 0, .int .u64 0, .slice none 0 0] 30)
  have hA2 := (Below.heap_alloc _ (.cells #[.bool false] 4) _ (by simp)).trans hA
  have e1 : (w.alloc (.cells #[.nilIface] 113)).heap.size = w.heap.size + 1 := by simp
  rw [e1] at hA2
  have HA := AccNew.of_blk hA2
  have hO := Go.Deep.blk_alloc_new ((w.alloc (.cells #[.nilIface] 113)).alloc (.cells #[.int .i64 0, .int .i64 0, .int .i64 0, .int .u64 0, .int .u64 0, .slice none 0 0] 30)) (.cells #[.bool false] 4)
  have e2 : ((w.alloc (.cells #[.nilIface] 113)).alloc (.cells #[.int .i64 0, .int .i64 0, .int .i64 0, .int .u64 0, .int .u64 0, .slice none 0 0] 30)).heap.size = w.heap.size + 1 + 1 := by simp
  rw [e2] at hO
  have HO := BoolNew.of_blk hO
  clear hA hA2 e1 hO e2
  go_enter Tryz.func86, Tryz.ntmps86
  go_wp2_with fail
  generalize ((w.alloc (.cells #[.nilIface] 113)).alloc (.cells #[.int .i64 0, .int .i64 0, .int .i64 0, .int .u64 0, .int .u64 0, .slice none 0 0] 30)).alloc (.cells #[.bool false] 4) = W at HW HA HO ⊢
  obtain ⟨a0, a1, a2, a3, a4, a5, f0, f1, f2, f3, f4, f5, ab⟩ := HA
  obtain ⟨o0, z0, ob⟩ := HO
  refine bodyPost_ret (v := .tuple #[.agg #[.int .i64 0, .int .i64 0, .int .i64 0, .int .u64 0, .int .u64 0, .slice none 0 0], .bool false]) (by simp [results, Tryz.results86, go_sem, a0, a1, a2, a3, a4, a5, o0]) rfl ?_
  exact ⟨HW, rfl⟩

/-- The machine's box, the place for an access, the place for whether. -/
theorem next_boxes (w : World) (x : Value) (W : World) (hW : W = ((w.alloc (.cells #[x] 113)).alloc (.cells #[.int .i64 0, .int .i64 0, .int .i64 0, .int .u64 0, .int .u64 0, .slice none 0 0] 30)).alloc (.cells #[.bool false] 4)) :
    Below w.heap.size w W ∧ W.cell? ⟨w.heap.size, 0, none⟩ = some x ∧ AccNew (w.heap.size + 1) W ∧ BoolNew (w.heap.size + 1 + 1) W := by
  subst hW
  have HW := (((Below.refl w.heap.size w).alloc (Nat.le_refl _) (.cells #[x] 113)).alloc (by simp) (.cells #[.int .i64 0, .int .i64 0, .int .i64 0, .int .u64 0, .int .u64 0, .slice none 0 0] 30)).alloc (by simp; omega) (.cells #[.bool false] 4)
  have hX := Go.Deep.blk_alloc_new w (.cells #[x] 113)
  have hX2 := (Below.heap_alloc _ (.cells #[.bool false] 4) _ (by simp; omega)).trans ((Below.heap_alloc _ (.cells #[.int .i64 0, .int .i64 0, .int .i64 0, .int .u64 0, .int .u64 0, .slice none 0 0] 30) _ (by simp)).trans hX)
  have hA := Go.Deep.blk_alloc_new (w.alloc (.cells #[x] 113)) (.cells #[.int .i64 0, .int .i64 0, .int .i64 0, .int .u64 0, .int .u64 0, .slice none 0 0] 30)
  have hA2 := (Below.heap_alloc _ (.cells #[.bool false] 4) _ (by simp)).trans hA
  have e1 : (w.alloc (.cells #[x] 113)).heap.size = w.heap.size + 1 := by simp
  rw [e1] at hA2
  have hO := Go.Deep.blk_alloc_new ((w.alloc (.cells #[x] 113)).alloc (.cells #[.int .i64 0, .int .i64 0, .int .i64 0, .int .u64 0, .int .u64 0, .slice none 0 0] 30)) (.cells #[.bool false] 4)
  have e2 : ((w.alloc (.cells #[x] 113)).alloc (.cells #[.int .i64 0, .int .i64 0, .int .i64 0, .int .u64 0, .int .u64 0, .slice none 0 0] 30)).heap.size = w.heap.size + 1 + 1 := by simp
  rw [e2] at hO
  exact ⟨HW, by simp [World.cell?, hX2], AccNew.of_blk hA2, BoolNew.of_blk hO⟩

theorem enter_next (caps : Array Value) (w : World) : (callFunc 114 caps).run Tryz.prog w = .ok (.enter 114 caps) w := by
  simp [go_sem]

set_option maxRecDepth 100000 in
set_option maxHeartbeats 400000 in
theorem next_some {w : World} {F : Nat → Prop} {T : TypeId} {y : Value} {s : Mc} {a : Ac} (h : MRep w F (.iface T y) s) (hlt : ∀ k, F k → k < w.heap.size) (ha : s.next = some a) :
    Calls Tryz.prog 86 #[.iface T y] w (NextTold (some a) w) := by
  have hmf : ∀ (fn : Fn) (first cap : Array Value) (w : World), (Instr.makeFunc fn first cap).run Tryz.prog w = .ok (.func fn first cap) w := fun _ _ _ _ => rfl
  have HH := Lib.hid h
  have HL := Lib.hid hlt
  have HFI := Lib.hid (h.fine ha)
  have HN := Lib.hid ha
  clear h hlt ha
  obtain ⟨WW, hWW⟩ : ∃ WW, WW = ((w.alloc (.cells #[.iface T y] 113)).alloc (.cells #[.int .i64 0, .int .i64 0, .int .i64 0, .int .u64 0, .int .u64 0, .slice none 0 0] 30)).alloc (.cells #[.bool false] 4) := ⟨_, rfl⟩
  have HB := Lib.hid (next_boxes w (.iface T y) WW hWW)
  go_enter Tryz.func86, Tryz.ntmps86
  go_wp2_with fail
  rw [← hWW]
  clear hWW
  obtain ⟨hb0, hx0, hA0, hO0⟩ := HB.out
  refine (caught_any _ _ WW (enter_next _) (nextIn_any (HH.out.keep hb0.size fun k hk => hb0.block k (HL.out k hk)) (fun k hk => Nat.lt_of_lt_of_le (HL.out k hk) hb0.size) w.heap.size (w.heap.size + 1) (w.heap.size + 1 + 1) hx0 hA0 hO0 (by omega))).mono ?_
  rintro e w1 ⟨rfl, ht, hm⟩
  rw [HN.out] at hm
  obtain ⟨A, l, c, hp, ho, hby⟩ := hm
  have hB1 := pair_below hb0 ht hb0.size (by omega) (by omega)
  have hl : a.bs.length = l := by obtain ⟨_, _, e, _⟩ := hby; injection e with _ e _; exact e.symm
  have hlf := HFI.out.few
  have hc5 : w1.cell? ⟨w.heap.size + 1, 5, none⟩ = some (.slice A l c) := by simp [World.cell?, hp]
  have HP := Lib.hid (And.intro hp (And.intro ho hby))
  have hs1 := (Array.getElem?_eq_some_iff.1 hp).1
  have hs2 := (Array.getElem?_eq_some_iff.1 ho).1
  clear hp ho hby hb0 hx0 hA0 hO0 ht
  go_wp2_with fail
  refine (clone_sl A l c a.bs w1 HP.out.2.2 (by omega)).mono ?_
  rintro e w2 ⟨A2, c2, rfl, ho2, hb2⟩
  have hq1 := (hb2.block _ hs1).trans HP.out.1
  have hq2 := (hb2.block _ hs2).trans HP.out.2.1
  have hz5 : w2.frozen? ⟨w.heap.size + 1, 5, none⟩ = false := by simp [World.frozen?, hq1]
  have hc52 : w2.cell? ⟨w.heap.size + 1, 5, none⟩ = some (.slice A l c) := by simp [World.cell?, hq1]
  have HO2 := Lib.hid ho2
  have hq3 := blkS (i := 5) hq1 (.slice A2 l c2)
  have hq4 := blkF (i := 5) (g' := w.heap.size + 1) hq2 (by omega) (.slice A2 l c2)
  go_wp2_with fail
  have hB3 : Below w.heap.size w (w2.setCell ⟨w.heap.size + 1, 5, none⟩ (.slice A2 l c2)) := (hB1.trans (hb2.mono hB1.size)).setCell (Nat.le_succ _) _
  have HO3 := Lib.hid (HO2.out.setCell (p := ⟨w.heap.size + 1, 5, none⟩) (by show w.heap.size + 1 < w1.heap.size; omega) (.slice A2 l c2))
  generalize w2.setCell ⟨w.heap.size + 1, 5, none⟩ (.slice A2 l c2) = W3 at hq3 hq4 hB3 HO3 ⊢
  have hq5 : W3.heap[w.heap.size + 1]? = some (.cells #[.int .i64 a.K, .int .i64 a.P, .int .i64 a.N, .int .u64 a.V, .int .u64 a.U, .slice A2 l c2] 30 (0, 0)) := hq3
  have HACC := Lib.hid hq5
  have a0 : W3.cell? ⟨w.heap.size + 1, 0, none⟩ = some (.int .i64 a.K) := by simp [World.cell?, hq5]
  have a1 : W3.cell? ⟨w.heap.size + 1, 1, none⟩ = some (.int .i64 a.P) := by simp [World.cell?, hq5]
  have a2 : W3.cell? ⟨w.heap.size + 1, 2, none⟩ = some (.int .i64 a.N) := by simp [World.cell?, hq5]
  have a3 : W3.cell? ⟨w.heap.size + 1, 3, none⟩ = some (.int .u64 a.V) := by simp [World.cell?, hq5]
  have a4 : W3.cell? ⟨w.heap.size + 1, 4, none⟩ = some (.int .u64 a.U) := by simp [World.cell?, hq5]
  have a5 : W3.cell? ⟨w.heap.size + 1, 5, none⟩ = some (.slice A2 l c2) := by simp [World.cell?, hq5]
  have f0 : W3.frozen? ⟨w.heap.size + 1, 0, none⟩ = false := by simp [World.frozen?, hq5]
  have f1 : W3.frozen? ⟨w.heap.size + 1, 1, none⟩ = false := by simp [World.frozen?, hq5]
  have f2 : W3.frozen? ⟨w.heap.size + 1, 2, none⟩ = false := by simp [World.frozen?, hq5]
  have f3 : W3.frozen? ⟨w.heap.size + 1, 3, none⟩ = false := by simp [World.frozen?, hq5]
  have f4 : W3.frozen? ⟨w.heap.size + 1, 4, none⟩ = false := by simp [World.frozen?, hq5]
  have f5 : W3.frozen? ⟨w.heap.size + 1, 5, none⟩ = false := by simp [World.frozen?, hq5]
  have o0 : W3.cell? ⟨w.heap.size + 1 + 1, 0, none⟩ = some (.bool true) := by simp [World.cell?, hq4]
  have z0 : W3.frozen? ⟨w.heap.size + 1 + 1, 0, none⟩ = false := by simp [World.frozen?, hq4]
  clear hq1 hq2 hq3 hq4 hq5 hz5 hb2 HO2 ho2 hc5 hB1 hc52
  go_region
  all_goals go_wp2
  refine bodyPost_ret (v := .tuple #[.agg #[.int .i64 a.K, .int .i64 a.P, .int .i64 a.N, .int .u64 a.V, .int .u64 a.U, .slice A2 l c2], .bool true]) (by simp [results, Tryz.results86, go_sem, a0, a1, a2, a3, a4, a5, o0]) rfl ?_
  refine ⟨?_, A2, l, c2, rfl, ?_⟩
  · exact (seven_touch (pa := w.heap.size + 1) (po := w.heap.size + 1 + 1) (w := W3) (Touch.refl _ _) (.int .i64 a.K) (.int .i64 a.P) (.int .i64 a.N) (.int .u64 a.V) (.int .u64 a.U) (.slice A2 l c2) (.bool true)).drew.below hB3 hB3.size (fun k hk => by rcases hk with rfl | rfl <;> omega)
  · exact (((six_own HO3.out (b := w.heap.size + 1) hs1 _ _ _ _ _ _).setCell (p := ⟨w.heap.size + 1 + 1, 0, none⟩) hs2 _).drew).down (by omega)


set_option maxRecDepth 100000 in
set_option maxHeartbeats 400000 in
theorem next_end {w : World} {F : Nat → Prop} {T : TypeId} {y : Value} {s : Mc} (h : MRep w F (.iface T y) s) (hlt : ∀ k, F k → k < w.heap.size) (ha : s.next = none) :
    Calls Tryz.prog 86 #[.iface T y] w (NextTold none w) := by
  have hmf : ∀ (fn : Fn) (first cap : Array Value) (w : World), (Instr.makeFunc fn first cap).run Tryz.prog w = .ok (.func fn first cap) w := fun _ _ _ _ => rfl
  have HH := Lib.hid h
  have HL := Lib.hid hlt
  have HN := Lib.hid ha
  clear h hlt ha
  obtain ⟨WW, hWW⟩ : ∃ WW, WW = ((w.alloc (.cells #[.iface T y] 113)).alloc (.cells #[.int .i64 0, .int .i64 0, .int .i64 0, .int .u64 0, .int .u64 0, .slice none 0 0] 30)).alloc (.cells #[.bool false] 4) := ⟨_, rfl⟩
  have HB := Lib.hid (next_boxes w (.iface T y) WW hWW)
  go_enter Tryz.func86, Tryz.ntmps86
  go_wp2_with fail
  rw [← hWW]
  clear hWW
  obtain ⟨hb0, hx0, hA0, hO0⟩ := HB.out
  refine (caught_any _ _ WW (enter_next _) (nextIn_any (HH.out.keep hb0.size fun k hk => hb0.block k (HL.out k hk)) (fun k hk => Nat.lt_of_lt_of_le (HL.out k hk) hb0.size) w.heap.size (w.heap.size + 1) (w.heap.size + 1 + 1) hx0 hA0 hO0 (by omega))).mono ?_
  rintro e w1 ⟨rfl, ht, hm⟩
  rw [HN.out] at hm
  obtain ⟨hp, ho⟩ := hm
  have hB1 := pair_below hb0 ht hb0.size (by omega) (by omega)
  have hc5 : w1.cell? ⟨w.heap.size + 1, 5, none⟩ = some (.slice none 0 0) := by simp [World.cell?, hp]
  have HP := Lib.hid (And.intro hp ho)
  have hs1 := (Array.getElem?_eq_some_iff.1 hp).1
  have hs2 := (Array.getElem?_eq_some_iff.1 ho).1
  clear hp ho hb0 hx0 hA0 hO0 ht
  go_wp2_with fail
  refine (clone_none w1).mono ?_
  rintro e w1 ⟨rfl, rfl⟩
  have hq1 := HP.out.1
  have hq2 := HP.out.2
  have hz5 : w1.frozen? ⟨w.heap.size + 1, 5, none⟩ = false := by simp [World.frozen?, hq1]
  have hq3 := blkS (i := 5) hq1 (.slice none 0 0)
  have hq4 := blkF (i := 5) (g' := w.heap.size + 1) hq2 (by omega) (.slice none 0 0)
  go_wp2_with fail
  have hB3 : Below w.heap.size w (w1.setCell ⟨w.heap.size + 1, 5, none⟩ (.slice none 0 0)) := hB1.setCell (Nat.le_succ _) _
  generalize w1.setCell ⟨w.heap.size + 1, 5, none⟩ (.slice none 0 0) = W3 at hq3 hq4 hB3 ⊢
  have hq5 : W3.heap[w.heap.size + 1]? = some (.cells #[.int .i64 0, .int .i64 0, .int .i64 0, .int .u64 0, .int .u64 0, .slice none 0 0] 30 (0, 0)) := hq3
  have HACC := Lib.hid hq5
  have a0 : W3.cell? ⟨w.heap.size + 1, 0, none⟩ = some (.int .i64 0) := by simp [World.cell?, hq5]
  have a1 : W3.cell? ⟨w.heap.size + 1, 1, none⟩ = some (.int .i64 0) := by simp [World.cell?, hq5]
  have a2 : W3.cell? ⟨w.heap.size + 1, 2, none⟩ = some (.int .i64 0) := by simp [World.cell?, hq5]
  have a3 : W3.cell? ⟨w.heap.size + 1, 3, none⟩ = some (.int .u64 0) := by simp [World.cell?, hq5]
  have a4 : W3.cell? ⟨w.heap.size + 1, 4, none⟩ = some (.int .u64 0) := by simp [World.cell?, hq5]
  have a5 : W3.cell? ⟨w.heap.size + 1, 5, none⟩ = some (.slice none 0 0) := by simp [World.cell?, hq5]
  have f0 : W3.frozen? ⟨w.heap.size + 1, 0, none⟩ = false := by simp [World.frozen?, hq5]
  have f1 : W3.frozen? ⟨w.heap.size + 1, 1, none⟩ = false := by simp [World.frozen?, hq5]
  have f2 : W3.frozen? ⟨w.heap.size + 1, 2, none⟩ = false := by simp [World.frozen?, hq5]
  have f3 : W3.frozen? ⟨w.heap.size + 1, 3, none⟩ = false := by simp [World.frozen?, hq5]
  have f4 : W3.frozen? ⟨w.heap.size + 1, 4, none⟩ = false := by simp [World.frozen?, hq5]
  have f5 : W3.frozen? ⟨w.heap.size + 1, 5, none⟩ = false := by simp [World.frozen?, hq5]
  have o0 : W3.cell? ⟨w.heap.size + 1 + 1, 0, none⟩ = some (.bool false) := by simp [World.cell?, hq4]
  have z0 : W3.frozen? ⟨w.heap.size + 1 + 1, 0, none⟩ = false := by simp [World.frozen?, hq4]
  clear hq1 hq2 hq3 hq4 hq5 hz5 hc5 hB1
  go_region
  all_goals go_wp2
  refine bodyPost_ret (v := .tuple #[.agg #[.int .i64 0, .int .i64 0, .int .i64 0, .int .u64 0, .int .u64 0, .slice none 0 0], .bool false]) (by simp [results, Tryz.results86, go_sem, a0, a1, a2, a3, a4, a5, o0]) rfl ?_
  refine ⟨?_, rfl⟩
  · exact (seven_touch (pa := w.heap.size + 1) (po := w.heap.size + 1 + 1) (w := W3) (Touch.refl _ _) (.int .i64 0) (.int .i64 0) (.int .i64 0) (.int .u64 0) (.int .u64 0) (.slice none 0 0) (.bool false)).drew.below hB3 hB3.size (fun k hk => by rcases hk with rfl | rfl <;> omega)

/-- What a machine wants next. -/
theorem next_told {w : World} {F : Nat → Prop} {x : Value} {s : Mc} (h : MRep w F x s) (hlt : ∀ k, F k → k < w.heap.size) : Calls Tryz.prog 86 #[x] w (NextTold s.next w) := by
  rcases h.shape with ⟨rfl, rfl⟩ | ⟨T, y, rfl⟩
  · exact next_nilIface w
  · cases ha : s.next with
    | none => exact next_end h hlt ha
    | some a => exact next_some h hlt ha
end Go.Proofs.YtikcnioooihncaaGreat
namespace Go.Proofs.YtikcnioooihncaaGreat
open Go.RowKit

/-- A call that read bytes into new memory. -/
def MadeRead (xs : List Int) (w : World) (e : Ending) (w' : World) : Prop :=
  ∃ v, e = .returned v ∧ Owns w.heap.size w' v xs ∧ Below w.heap.size w w'

/-- An access answered; the bytes of the answer lie in new memory, if there are any. -/
def AnsweredIn (V : Nat) (D : Bool) (xs : List Int) (g h : Nat) (m : Nat → Nat) (n : Nat) (c : Int) (w : World) (e : Ending) (w' : World) : Prop :=
  ∃ s, e = .returned (.agg #[.int .u64 V, .bool D, s]) ∧ BytesIn (fun k => w.heap.size ≤ k) w' s xs ∧ Stored g h m n c w w'

/-- An access was done; the bytes of the answer lie in new memory. -/
def DidIn (V : Nat) (D : Bool) (xs : List Int) (g h : Nat) (m : Nat → Nat) (n : Nat) (c : Int) (w : World) (e : Ending) (w' : World) : Prop :=
  ∃ s, e = .returned (.tuple #[.agg #[.int .u64 V, .bool D, s], .int .i64 0]) ∧ BytesIn (fun k => w.heap.size ≤ k) w' s xs ∧ Stored g h m n c w w'

theorem BytesIn.answer' {K : Nat → Prop} {W : World} {v : Value} {xs : List Int} {b : Nat} (hv : BytesIn K W v xs) (ha : AnsAt b W) (x y z : Value) : BytesIn K (((W.setCell ⟨b, 0, Option.none⟩ x).setCell ⟨b, 1, Option.none⟩ y).setCell ⟨b, 2, Option.none⟩ z) v xs := by
  obtain ⟨A, cap, hv, h⟩ := hv
  refine ⟨A, cap, hv, fun hp => ?_⟩
  obtain ⟨d, off, h1, hK, h3, h4⟩ := h hp
  have hne : d ≠ b := by
    intro e
    subst e
    have h5 := h4 0 hp
    simp only [World.cell?, ha.blk] at h5
    match off, h5 with
    | 0, h5 => simp at h5
    | 1, h5 => simp at h5
    | 2, h5 => simp at h5
    | k + 3, h5 => simp at h5
  refine ⟨d, off, h1, hK, by simpa [World.setCell] using h3, fun i hi => ?_⟩
  rw [← h4 i hi]
  refine World.cell?_of_block ?_
  rw [Below.heap_setCell _ _ _ _ hne, Below.heap_setCell _ _ _ _ hne, Below.heap_setCell _ _ _ _ hne]

set_option maxHeartbeats 1000000 in
theorem read_own {w : World} {g h n : Nat} {m : Nat → Nat} {c : Int} (B : Buf w g h m n c) (a k : Nat) (hin : a + k ≤ 8 * n) :
    Calls Tryz.prog 43 #[.pointer (some ⟨g, 0, none⟩), .int .i64 a, .int .i64 k] w (MadeRead (Mb.bl m a k) w) := by
  obtain ⟨i0, hi, hz0, hz1, hz2⟩ := info_parts infoU8
  have hf := B.few
  have HB := Lib.hid B
  clear B
  go_enter Tryz.func43, Tryz.ntmps43
  go_wp2_with (refine wpList_make_own _ rfl _ _ 23 rfl w.heap.size 5 i0 (.int .u8 0) 1 Tryz.underlying23 hi hz0 hz1 .i64 .i64 _ k rfl rfl rfl (by rw [hz2]; omega) (by unfold maxLen; omega) (Nat.le_refl _) ?_; intro w0 hown0 hg0)
  have hbel0 : Below w.heap.size w w0 := (Below.refl _ w).grown hg0 (Nat.le_refl _) (fun g hg => by cases hg)
  clear hg0
  go_loopw [1, 2, 7] (fun t1 t2 r wr => ∃ p q : Nat, a ≤ p ∧ p + q = a + k ∧ t1 = .int .i64 p ∧ t2 = .int .i64 q ∧ Below w.heap.size w wr ∧ wr.ownsRow w.heap.size 5 1 r (p - a) ((Mb.bl m a (p - a)).map (Value.int .u8))) (fun _ t2 _ _ => (intOf t2).toNat)
  case atStart => exact ⟨a, k, by omega, rfl, rfl, rfl, hbel0, by rw [Nat.sub_self]; exact hown0⟩
  case round =>
    obtain ⟨p, q, hp, hpq, rfl, rfl, hbel, hown⟩ := hrel
    clear hown0 hbel0
    by_cases hlt : 0 < q
    · obtain ⟨j, hj⟩ : ∃ j, j = min q (8 - p % 8) := ⟨_, rfl⟩
      have hj1 : 1 ≤ j := by omega
      have hj2 : j ≤ q := by omega
      have hj3 : p % 8 + j ≤ 8 := by omega
      have hpb : p ≤ 131072 := by omega
      have hqb : q ≤ 131072 := by omega
      have hj4 : p / 8 < n := by omega
      have HJ := Lib.hid hj
      have HQ := Lib.hid hpq
      have hBr := HB.out.below hbel
      have HBr := Lib.hid hBr
      have HBel := Lib.hid hbel
      have HO := Lib.hid hown
      clear hj hpq hBr hbel hown
      go_wp2_with (first
        | (go_at_call 74; refine (inWord_at p q j _ (by omega) HJ.out).mono ?_; rintro e w' ⟨rfl, rfl⟩)
        | (go_at_call 69; refine (load_any HBr.out p j hj3 hj4).mono ?_; rintro e w1 ⟨rfl, nd, rfl⟩)
        | (go_at_call 75; refine (bytes_at HBr.out.bytes p j _ hj1 (by omega)).mono ?_; rintro e w2 ⟨sb, so, cp, rfl, hcs, hb2⟩; have hb3 : Below wr.heap.size wr w2 := (drewN_below wr nd).after hb2; clear hb2)
        | (at_builtin; refine wpList_append_own _ rfl (.tmp 16) (.tmp 22) 23 rfl w.heap.size 5 i0 (.int .u8 0) 1 1 Tryz.underlying23 hi hz0 hz1 hz2 rfl (by decide) _ _ _ rfl (ownsRow_below HO.out hb3) ⟨sb, so, none⟩ j cp ((Mb.bl m p j).map (Value.int .u8)) rfl (by simp [Mb.bl_length]) hcs (u8_one _) (by unfold maxLen; omega) (by omega) (Nat.le_trans HBel.out.size hb3.size) ?_; intro v' w3 hown' hgrow _; have hbel3 : Below w.heap.size w w3 := (HBel.out.trans (hb3.mono HBel.out.size)).grown hgrow (Nat.le_trans HBel.out.size hb3.size) (fun g hg => (HO.out.lt g hg).1); rw [Mb.bl_next m a p j hp, show p - a + j = p + j - a by omega] at hown'; have HO3 := Lib.hid hown'; have HB3 := Lib.hid hbel3; clear hown' hgrow hbel3))
      go_roundw
      case rel =>
        have hpq := HQ.out
        exact ⟨p + j, q - j, by omega, by omega, by go_num, by go_num, HB3.out, HO3.out⟩
      case measure => simp [intOf]; omega
    · have hq0 : q = 0 := by omega
      have HQ := Lib.hid (show p - a = k by omega)
      subst hq0
      have HBel := Lib.hid hbel
      have HO := Lib.hid hown
      clear hpq hbel hown
      go_wp2
      go_ret
      have hO := HO.out
      rw [HQ.out] at hO
      exact ⟨_, rfl, by unfold Owns; rw [Mb.bl_length]; exact hO, HBel.out⟩

set_option maxHeartbeats 1000000 in
theorem access_read_own {w : World} {g h n : Nat} {m : Nat → Nat} {c : Int} (B : Buf w g h m n c) (a k : Nat) (hin : a + k ≤ 8 * n) (v u : Int) (s : Value) :
    Calls Tryz.prog 38 #[.pointer (some ⟨g, 0, none⟩), .agg #[.int .i64 5, .int .i64 a, .int .i64 k, .int .u64 v, .int .u64 u, s]] w
      (AnsweredIn 0 false (Mb.bl m a k) g h m n c w) := by
  have hg := B.g_lt
  have hh := B.h_lt
  have HB := Lib.hid B
  clear B
  go_enter Tryz.func38, Tryz.ntmps38
  go_wp2_with (go_at_call 43; refine (read_own ((HB.out.alloc _).alloc _) a k hin).mono ?_; rintro e w1 ⟨x, rfl, hx0, hb⟩; obtain ⟨A, cp, rfl, hx⟩ := hx0.bytes; have HA := Lib.hid (ans_touch (Touch.of_below (S := Two g h) hb) hg hh); obtain ⟨a0, a1, a2, f0, f1, f2, fb⟩ := HA.out; have HBe := Lib.hid hb; have HX := Lib.hid hx0; clear hb hx hx0 fb)
  refine bodyPost_ret (v := .agg #[.int .u64 0, .bool false, .slice A (Mb.bl m a k).length cp]) ?_ rfl ?_
  · simp [results, Tryz.results38, go_sem, a0, a1, a2]
  · refine ⟨_, rfl, ((BytesIn.of_own HX.out).mono fun k hk _ => by simp at hk; omega).answer' HA.out _ _ _, ?_⟩
    have HST := Stored.mk_ (((HB.out.alloc _).alloc _).below HBe.out) ((boxes_touch (Two g h) w _ _).trans (Touch.of_below HBe.out))
    exact ((HST.setNew hg hh (Nat.le_succ _) _).setNew hg hh (Nat.le_succ _) _).setNew hg hh (Nat.le_succ _) _

theorem access_in {w : World} {g h n : Nat} {m : Nat → Nat} {c : Int} (B : Buf w g h m n c) (K : Int) (a k v u : Nat) {f : Nat → Nat} (hf : Mb.IsB f) (A : Option Addr) (L cap : Nat) (hcap : L ≤ cap) (hcap2 : cap ≤ 9223372036854775807)
    (hb : BytesAt w (.slice A L cap) (Mb.bl f 0 L)) (hv : v < 18446744073709551616) (ok : chk (8 * (n : Int)) K a k L = 0) :
    Calls Tryz.prog 38 #[.pointer (some ⟨g, 0, none⟩), .agg #[.int .i64 K, .int .i64 a, .int .i64 k, .int .u64 v, .int .u64 u, .slice A L cap]] w
      (AnsweredIn (Mb.ansV m K a k) (Mb.ansD m K a k v) (Mb.ansB m K a k) g h (Mb.aft m K a k v u f) n c w) := by
  by_cases h5 : K = 5
  · subst h5
    obtain ⟨_, _, h1, h2, _⟩ := chk_ok ok
    refine (access_read_own B a k (by omega) v u _).mono ?_
    rintro e w' ⟨s, rfl, ho, hs⟩
    exact ⟨s, rfl, ho, hs⟩
  · have e : Mb.ansB m K a k = [] := by unfold Mb.ansB; rw [if_neg h5]
    refine (access_any B K a k v u hf A L cap hcap hcap2 hb hv ok).mono ?_
    rintro e' w' ⟨s, rfl, ho, hs⟩
    rw [e] at ho ⊢
    exact ⟨s, rfl, BytesIn.empty ho _, hs⟩

set_option maxHeartbeats 1000000 in
theorem do_in {w : World} {g h n : Nat} {m : Nat → Nat} {c : Int} (B : Buf w g h m n c) (K : Int) (a k v u : Nat) {f : Nat → Nat} (hf : Mb.IsB f) (A : Option Addr) (L cap : Nat) (hcap : L ≤ cap) (hcap2 : cap ≤ 9223372036854775807)
    (hb : BytesAt w (.slice A L cap) (Mb.bl f 0 L)) (hv : v < 18446744073709551616) (ok : chk (8 * (n : Int)) K a k L = 0) :
    Calls Tryz.prog 15 #[.pointer (some ⟨g, 0, none⟩), .agg #[.int .i64 K, .int .i64 a, .int .i64 k, .int .u64 v, .int .u64 u, .slice A L cap]] w
      (DidIn (Mb.ansV m K a k) (Mb.ansD m K a k v) (Mb.ansB m K a k) g h (Mb.aft m K a k v u f) n (nxt c) w) := by
  have hg := B.g_lt
  have hh := B.h_lt
  have hfw := B.few
  have HB0 := (B.alloc (.cells #[.int .i64 K, .int .i64 a, .int .i64 k, .int .u64 v, .int .u64 u, .slice A L cap] 30)).alloc (.cells #[.int .u64 0, .bool false, .slice none 0 0] 25)
  have HC := acc_made w K a k v u (.slice A L cap) (.cells #[.int .u64 0, .bool false, .slice none 0 0] 25)
  have HA := ans_made w (.cells #[.int .i64 K, .int .i64 a, .int .i64 k, .int .u64 v, .int .u64 u, .slice A L cap] 30)
  have HW := ((Below.refl w.heap.size w).alloc (Nat.le_refl _) (.cells #[.int .i64 K, .int .i64 a, .int .i64 k, .int .u64 v, .int .u64 u, .slice A L cap] 30)).alloc (by simp) (.cells #[.int .u64 0, .bool false, .slice none 0 0] 25)
  have HV := hb.below HW
  have HQ := Lib.hid ok
  have HF := Lib.hid hf
  clear B ok hb hf
  go_enter Tryz.func15, Tryz.ntmps15
  go_wp2
  generalize (w.alloc (.cells #[.int .i64 K, .int .i64 (a : Int), .int .i64 (k : Int), .int .u64 (v : Int), .int .u64 (u : Int), .slice A L cap] 30)).alloc (.cells #[.int .u64 0, .bool false, .slice none 0 0] 25) = W at HC HA HB0 HW HV ⊢
  have HC2 := HC
  obtain ⟨c0, c1, c2, c3, c4, c5⟩ := HC2
  go_region_held3 (fun w' => w'.cell? ⟨w.heap.size, 0, none⟩ = some (.int .i64 K) ∧ w'.cell? ⟨w.heap.size, 1, none⟩ = some (.int .i64 a) ∧ w'.cell? ⟨w.heap.size, 2, none⟩ = some (.int .i64 k) ∧ w'.cell? ⟨w.heap.size, 3, none⟩ = some (.int .u64 v) ∧ w'.cell? ⟨w.heap.size, 4, none⟩ = some (.int .u64 u) ∧ w'.cell? ⟨w.heap.size, 5, none⟩ = some (.slice A L cap))
    (go_keep)
    (first
      | (go_at_call 36; refine (size_any HB0.drew).mono ?_; rintro e w' ⟨rfl, rfl⟩)
      | (go_at_call 35; refine (check_any _ K a k v u A L cap _ (by omega)).mono ?_; rintro e w1 ⟨rfl, hb1⟩; rw [HQ.out]; have hb2 := below_drew hb1; clear hb1; obtain ⟨k0, k1, k2, k3, k4, k5⟩ := HC.below hb2))
  have HB1 := HB0.below hb2
  have hn0 := HB1.count
  have hn1 := HB1.count_free
  have HB2 := HB1.setCount (nxt c)
  have HT2 := (Touch.refl (Two g h) w1).setCell (p := ⟨g, 1, none⟩) (.inl rfl) (.int .i64 (nxt c))
  have HC2 := (HC.below hb2).touch HT2 (by omega) (by omega)
  have HA2 := (HA.later hb2).touch HT2 (by omega) (by omega)
  have HV2 := (HV.below hb2).touch HB1 HT2
  have hszW := HW.size
  have hszb := hb2.size
  have HT1 := (Touch.of_below (S := Two g h) HW).trans ((Touch.of_below (S := Two g h) hb2).trans HT2)
  clear c0 c1 c2 c3 c4 c5 k0 k1 k2 k3 k4 k5 HB0 HC HA HV HW hb2 HB1
  go_wp2_with (first
    | (go_at_call 37; refine (addOne g 1 c _ hn0 hn1).mono ?_; rintro e w2 ⟨rfl, hw2⟩; rw [hw2] at HB2 HT2 HC2 HA2 HV2 HT1; clear hw2 hn0 hn1; obtain ⟨c0, c1, c2, c3, c4, c5⟩ := HC2)
    | (go_at_call 38; refine (access_in HB2 K a k v u HF.out A L cap hcap hcap2 HV2 hv HQ.out).mono ?_; rintro e w3 ⟨x, rfl, hx, hst⟩; obtain ⟨A3, cp3, rfl⟩ := hx.length; have HX := Lib.hid hx; have hsz2 := hst.2.size; have HA3 := HA2.touch hst.2 (by omega) (by omega); have HA4 := HA3; obtain ⟨a0, a1, a2, f0, f1, f2, _⟩ := HA4; have HST := Lib.hid (hst.from_ HT1); clear hx hst))
  refine bodyPost_ret (v := .tuple #[.agg #[.int .u64 (Mb.ansV m K a k : Nat), .bool (Mb.ansD m K a k v), .slice A3 (Mb.ansB m K a k).length cp3], .int .i64 0]) ?_ rfl ?_
  · simp [results, Tryz.results15, go_sem, a0, a1, a2]
  · refine ⟨_, rfl, (HX.out.mono fun k hk _ => ?_).answer' HA3 _ _ _, ?_⟩
    · have := HT1.size
      exact Nat.le_trans this hk
    · exact ((HST.out.setNew hg hh (Nat.le_succ _) _).setNew hg hh (Nat.le_succ _) _).setNew hg hh (Nat.le_succ _) _
end Go.Proofs.YtikcnioooihncaaGreat
namespace Go.Proofs.YtikcnioooihncaaGreat
open Go.RowKit

/-- Whose a block is: nobody's, the scheduler's own, its actors', its buffer's, a machine's, its trace's row's, its trace's bytes'. -/
inductive Pt where
  | no
  | wd
  | ac
  | bf
  | ma (i : Nat)
  | ro
  | tx

/-- An event, and where its bytes stand. -/
structure Tx where
  e : Ev
  s1 : Value
  s2 : Value

/-- Its cells. -/
def Tx.cells (t : Tx) : List Value := [.int .i64 t.e.pk.K, .int .i64 t.e.pk.A, .int .i64 t.e.pk.N, .int .i64 t.e.ac.K, .int .i64 t.e.ac.P, .int .i64 t.e.ac.N, .int .u64 t.e.ac.V, .int .u64 t.e.ac.U, t.s1, .int .u64 t.e.an.V, .bool t.e.an.D, t.s2]

/-- An event's bytes are few. -/
def Ev.Small (e : Ev) : Prop := e.ac.bs.length ≤ 1073741824 ∧ e.an.bs.length ≤ 1073741824

/-- A scheduler's state. -/
structure St where
  na : Nat
  ms : Nat → Mc
  dead : Nat → Bool
  m : Nat → Nat
  nw : Nat
  c : Int
  clock : Int
  tr : List Ev

/-- The cells of an actor's row. -/
def acCell (ax : Nat → Value) (dead : Nat → Bool) (j : Nat) : Value := if j % 2 = 0 then ax (j / 2) else .bool (dead (j / 2))

theorem acCell_even (ax : Nat → Value) (dead : Nat → Bool) (i : Nat) : acCell ax dead (i * 2) = ax i := by
  unfold acCell
  rw [if_pos (by omega)]
  congr 1
  omega
theorem acCell_odd (ax : Nat → Value) (dead : Nat → Bool) (i : Nat) : acCell ax dead (i * 2 + 1) = .bool (dead i) := by
  unfold acCell
  rw [if_neg (by omega)]
  congr 2
  omega

/-- A trace stands in memory. -/
structure TrAt (w : World) (o : Nat → Pt) (tv : Value) (ts : List Tx) : Prop where
  row : w.ownsRow 0 154 12 tv ts.length (ts.flatMap Tx.cells)
  txt : ∀ t ∈ ts, BytesIn (fun k => o k = .tx) w t.s1 t.e.ac.bs ∧ BytesIn (fun k => o k = .tx) w t.s2 t.e.an.bs
  own : ∀ k, tv.ownBlock = some k → o k = .ro

theorem ownsRow_keep {w w' : World} {base : Nat} {T : TypeId} {n k : Nat} {v : Value} {xs : List Value} (h : w.ownsRow base T n v k xs) (hb : ∀ q, v.ownBlock = some q → w'.heap[q]? = w.heap[q]?) : w'.ownsRow base T n v k xs := by
  obtain ⟨h1, h2⟩ := h
  refine ⟨h1, ?_⟩
  rcases h2 with h2 | ⟨g, cap, cur, hv, h3, h4, h5⟩
  · exact .inl h2
  · exact .inr ⟨g, cap, cur, hv, h3, (hb g (by rw [hv]; rfl)).trans h4, h5⟩

namespace TrAt
variable {w w' : World} {o o' : Nat → Pt} {tv : Value} {ts : List Tx}
theorem keep (h : TrAt w o tv ts) (hs : w.heap.size ≤ w'.heap.size) (hb : ∀ k, o k ≠ .no → w'.heap[k]? = w.heap[k]?) : TrAt w' o tv ts :=
  ⟨ownsRow_keep h.row fun q hq => hb q (by rw [h.own q hq]; simp), fun t ht => ⟨(h.txt t ht).1.keep hs fun k hk _ => hb k (by rw [hk]; simp), (h.txt t ht).2.keep hs fun k hk _ => hb k (by rw [hk]; simp)⟩, h.own⟩
theorem own_to (h : TrAt w o tv ts) (ho : ∀ k, k < w.heap.size → o' k = o k) : TrAt w o' tv ts :=
  ⟨h.row, fun t ht => ⟨(h.txt t ht).1.mono fun k hk hl => (ho k hl).trans hk, (h.txt t ht).2.mono fun k hk hl => (ho k hl).trans hk⟩, fun k hk => (ho k (World.ownsRow.lt h.row k hk).2).trans (h.own k hk)⟩
end TrAt

/-- A scheduler stands in memory: its own block gw, its actors' block ga, its buffer's blocks gb and hb; who owns what. -/
structure Sw (w : World) (o : Nat → Pt) (gw ga gb hb : Nat) (ax : Nat → Value) (tv : Value) (ts : List Tx) (st : St) : Prop where
  head : w.heap[gw]? = some (.cells #[.pointer (some ⟨gb, 0, none⟩), .slice (some ⟨ga, 0, none⟩) st.na st.na, .int .i64 st.clock, tv] 111 (0, 0))
  row : w.rowIs ga 115 (2 * st.na) (acCell ax st.dead)
  buf : Buf w gb hb st.m st.nw st.c
  mach : ∀ i, i < st.na → MRep w (fun k => o k = .ma i) (ax i) (st.ms i)
  tr : TrAt w o tv ts
  told : st.tr = ts.map Tx.e
  ogw : o gw = .wd
  oga : o ga = .ac
  ogb : o gb = .bf
  ohb : o hb = .bf
  lt : ∀ k, o k ≠ .no → k < w.heap.size
  few : st.na ≤ 1000
  small : ∀ e ∈ st.tr, e.Small

/-- The blocks of a scheduler. -/
def Own (o : Nat → Pt) (k : Nat) : Prop := o k ≠ .no

/-- New blocks of F become p's. -/
noncomputable def claimed (o : Nat → Pt) (n : Nat) (F : Nat → Prop) (p : Pt) : Nat → Pt := fun k => @ite _ (n ≤ k ∧ F k) (Classical.propDecidable _) p (o k)
theorem claimed_new {o : Nat → Pt} {n : Nat} {F : Nat → Prop} {p : Pt} {k : Nat} (h : n ≤ k) (hF : F k) : claimed o n F p k = p := @if_pos _ (Classical.propDecidable _) ⟨h, hF⟩ _ _ _
theorem claimed_not {o : Nat → Pt} {n : Nat} {F : Nat → Prop} {p : Pt} {k : Nat} (h : ¬ (n ≤ k ∧ F k)) : claimed o n F p k = o k := @if_neg _ (Classical.propDecidable _) h _ _ _
theorem claimed_old {o : Nat → Pt} {n : Nat} {F : Nat → Prop} {p : Pt} {k : Nat} (h : k < n) : claimed o n F p k = o k := claimed_not fun e => by omega

namespace Sw
variable {w w' : World} {o o' : Nat → Pt} {gw ga gb hb : Nat} {ax : Nat → Value} {tv : Value} {ts : List Tx} {st : St}
theorem keep (h : Sw w o gw ga gb hb ax tv ts st) (hs : w.heap.size ≤ w'.heap.size) (hk : ∀ k, o k ≠ .no → w'.heap[k]? = w.heap[k]?) : Sw w' o gw ga gb hb ax tv ts st :=
  ⟨(hk gw (by rw [h.ogw]; simp)).trans h.head, h.row.of_block (hk ga (by rw [h.oga]; simp)), h.buf.of_blocks (hk gb (by rw [h.ogb]; simp)) (hk hb (by rw [h.ohb]; simp)),
    fun i hi => (h.mach i hi).keep hs fun k hm => hk k (by rw [hm]; simp), h.tr.keep hs hk, h.told, h.ogw, h.oga, h.ogb, h.ohb, fun k hn => Nat.lt_of_lt_of_le (h.lt k hn) hs, h.few, h.small⟩
theorem below (h : Sw w o gw ga gb hb ax tv ts st) (hb' : Below w.heap.size w w') : Sw w' o gw ga gb hb ax tv ts st := h.keep hb'.size fun k hk => hb'.block k (h.lt k hk)
theorem touch {S : Nat → Prop} (h : Sw w o gw ga gb hb ax tv ts st) (ht : Touch S w w') (hn : ∀ k, o k ≠ .no → ¬ S k) : Sw w' o gw ga gb hb ax tv ts st := h.keep ht.size fun k hk => ht.block k (h.lt k hk) (hn k hk)
theorem alloc (h : Sw w o gw ga gb hb ax tv ts st) (q : Obj) : Sw (w.alloc q) o gw ga gb hb ax tv ts st := h.below ((Below.refl _ _).alloc (Nat.le_refl _) q)
theorem drew (h : Sw w o gw ga gb hb ax tv ts st) : Sw w.drew o gw ga gb hb ax tv ts st := h.below ((Below.refl _ _).drew)

theorem gw_lt (h : Sw w o gw ga gb hb ax tv ts st) : gw < w.heap.size := h.lt gw (by rw [h.ogw]; simp)
theorem ga_lt (h : Sw w o gw ga gb hb ax tv ts st) : ga < w.heap.size := h.lt ga (by rw [h.oga]; simp)
theorem ne_wa (h : Sw w o gw ga gb hb ax tv ts st) : gw ≠ ga := fun e => by have h1 := h.ogw; rw [e, h.oga] at h1; cases h1
theorem w0 (h : Sw w o gw ga gb hb ax tv ts st) : w.cell? ⟨gw, 0, none⟩ = some (.pointer (some ⟨gb, 0, none⟩)) := by simp [World.cell?, h.head]
theorem w1 (h : Sw w o gw ga gb hb ax tv ts st) : w.cell? ⟨gw, 1, none⟩ = some (.slice (some ⟨ga, 0, none⟩) st.na st.na) := by simp [World.cell?, h.head]
theorem w2 (h : Sw w o gw ga gb hb ax tv ts st) : w.cell? ⟨gw, 2, none⟩ = some (.int .i64 st.clock) := by simp [World.cell?, h.head]
theorem w3 (h : Sw w o gw ga gb hb ax tv ts st) : w.cell? ⟨gw, 3, none⟩ = some tv := by simp [World.cell?, h.head]
theorem wfree (h : Sw w o gw ga gb hb ax tv ts st) (i : Nat) : w.frozen? ⟨gw, i, none⟩ = false := by simp [World.frozen?, h.head]
theorem amach (h : Sw w o gw ga gb hb ax tv ts st) {i : Nat} (hi : i < st.na) : w.cell? ⟨ga, i * 2, none⟩ = some (ax i) := by
  rw [h.row.cell (by omega), acCell_even]
theorem adead (h : Sw w o gw ga gb hb ax tv ts st) {i : Nat} (hi : i < st.na) : w.cell? ⟨ga, i * 2 + 1, none⟩ = some (.bool (st.dead i)) := by
  rw [h.row.cell (by omega), acCell_odd]
theorem afree (h : Sw w o gw ga gb hb ax tv ts st) (i : Nat) : w.frozen? ⟨ga, i, none⟩ = false := h.row.frozen i

/-- Blocks that were not there may be anybody's. -/
theorem own_to (h : Sw w o gw ga gb hb ax tv ts st) (ho : ∀ k, k < w.heap.size → o' k = o k) (hl : ∀ k, o' k ≠ .no → k < w.heap.size) : Sw w o' gw ga gb hb ax tv ts st :=
  ⟨h.head, h.row, h.buf, fun i hi => (h.mach i hi).mono fun k hk => (ho k (h.lt k (by rw [hk]; simp))).trans hk, h.tr.own_to ho, h.told, (ho gw h.gw_lt).trans h.ogw, (ho ga h.ga_lt).trans h.oga, (ho gb h.buf.g_lt).trans h.ogb, (ho hb h.buf.h_lt).trans h.ohb, hl, h.few, h.small⟩

/-- An actor is killed. -/
theorem setDead (h : Sw w o gw ga gb hb ax tv ts st) {i : Nat} : Sw (w.setCell ⟨ga, i * 2 + 1, none⟩ (.bool true)) o gw ga gb hb ax tv ts { st with dead := upd st.dead i true } := by
  have hne : ∀ k, k ≠ ga → (w.setCell ⟨ga, i * 2 + 1, none⟩ (.bool true)).heap[k]? = w.heap[k]? := fun k hk => Below.heap_setCell _ _ _ _ hk
  have hpt : ∀ k, o k ≠ .ac → k ≠ ga := fun k hk e => hk (e ▸ h.oga)
  have hs : w.heap.size ≤ (w.setCell ⟨ga, i * 2 + 1, none⟩ (.bool true)).heap.size := by simp [World.setCell]
  refine ⟨(hne gw h.ne_wa).trans h.head, ?_, h.buf.of_blocks (hne gb (hpt gb (by rw [h.ogb]; simp))) (hne hb (hpt hb (by rw [h.ohb]; simp))), fun j hj => (h.mach j hj).keep hs fun k hk => hne k (hpt k (by rw [hk]; simp)),
    ⟨ownsRow_keep h.tr.row fun q hq => hne q (hpt q (by rw [h.tr.own q hq]; simp)), fun t ht => ⟨(h.tr.txt t ht).1.keep hs fun k hk _ => hne k (hpt k (by rw [hk]; simp)), (h.tr.txt t ht).2.keep hs fun k hk _ => hne k (hpt k (by rw [hk]; simp))⟩, h.tr.own⟩,
    h.told, h.ogw, h.oga, h.ogb, h.ohb, fun k hk => Nat.lt_of_lt_of_le (h.lt k hk) hs, h.few, h.small⟩
  refine (h.row.set (i * 2 + 1) (.bool true)).congr fun j hj => ?_
  show _ = acCell ax (upd st.dead i true) j
  unfold acCell
  by_cases e : j = i * 2 + 1
  · subst e
    rw [if_pos rfl, if_neg (by omega), show (i * 2 + 1) / 2 = i by omega, upd_same]
  · rw [if_neg e]
    by_cases e2 : j % 2 = 0
    · rw [if_pos e2, if_pos e2]
    · rw [if_neg e2, if_neg e2, upd_other _ _ _ (by omega)]

/-- The clock is another. -/
theorem setClock (h : Sw w o gw ga gb hb ax tv ts st) (x : Int) : Sw (w.setCell ⟨gw, 2, none⟩ (.int .i64 x)) o gw ga gb hb ax tv ts { st with clock := x } := by
  have hne : ∀ k, k ≠ gw → (w.setCell ⟨gw, 2, none⟩ (.int .i64 x)).heap[k]? = w.heap[k]? := fun k hk => Below.heap_setCell _ _ _ _ hk
  have hpt : ∀ k, o k ≠ .wd → k ≠ gw := fun k hk e => hk (e ▸ h.ogw)
  have hs : w.heap.size ≤ (w.setCell ⟨gw, 2, none⟩ (.int .i64 x)).heap.size := by simp [World.setCell]
  refine ⟨blkS h.head _, h.row.of_block (hne ga h.ne_wa.symm), h.buf.of_blocks (hne gb (hpt gb (by rw [h.ogb]; simp))) (hne hb (hpt hb (by rw [h.ohb]; simp))), fun j hj => (h.mach j hj).keep hs fun k hk => hne k (hpt k (by rw [hk]; simp)),
    ⟨ownsRow_keep h.tr.row fun q hq => hne q (hpt q (by rw [h.tr.own q hq]; simp)), fun t ht => ⟨(h.tr.txt t ht).1.keep hs fun k hk _ => hne k (hpt k (by rw [hk]; simp)), (h.tr.txt t ht).2.keep hs fun k hk _ => hne k (hpt k (by rw [hk]; simp))⟩, h.tr.own⟩,
    h.told, h.ogw, h.oga, h.ogb, h.ohb, fun k hk => Nat.lt_of_lt_of_le (h.lt k hk) hs, h.few, h.small⟩

/-- The buffer did an access. -/
theorem setBuf (h : Sw w o gw ga gb hb ax tv ts st) {m : Nat → Nat} {c : Int} (hst : Stored gb hb m st.nw c w w') : Sw w' o gw ga gb hb ax tv ts { st with m := m, c := c } := by
  have hpt : ∀ k, o k ≠ .bf → ¬ Two gb hb k := fun k hk e => by
    rcases e with e | e
    · exact hk (e ▸ h.ogb)
    · exact hk (e ▸ h.ohb)
  have hne : ∀ k, o k ≠ .bf → k < w.heap.size → w'.heap[k]? = w.heap[k]? := fun k hk hl => hst.2.block k hl (hpt k hk)
  have hn2 : ∀ k, o k ≠ .no → o k ≠ .bf → w'.heap[k]? = w.heap[k]? := fun k h1 h2 => hne k h2 (h.lt k h1)
  refine ⟨(hn2 gw (by rw [h.ogw]; simp) (by rw [h.ogw]; simp)).trans h.head, h.row.of_block (hn2 ga (by rw [h.oga]; simp) (by rw [h.oga]; simp)), hst.1, fun j hj => (h.mach j hj).keep hst.2.size fun k hk => hn2 k (by rw [hk]; simp) (by rw [hk]; simp),
    ⟨ownsRow_keep h.tr.row fun q hq => hn2 q (by rw [h.tr.own q hq]; simp) (by rw [h.tr.own q hq]; simp), fun t ht => ⟨(h.tr.txt t ht).1.keep hst.2.size fun k hk _ => hn2 k (by rw [hk]; simp) (by rw [hk]; simp), (h.tr.txt t ht).2.keep hst.2.size fun k hk _ => hn2 k (by rw [hk]; simp) (by rw [hk]; simp)⟩, h.tr.own⟩,
    h.told, h.ogw, h.oga, h.ogb, h.ohb, fun k hk => Nat.lt_of_lt_of_le (h.lt k hk) hst.2.size, h.few, h.small⟩

/-- A machine moved. -/
theorem setMach (h : Sw w o gw ga gb hb ax tv ts st) {i : Nat} (_hi : i < st.na) {s : Mc} (hm : Moved (fun k => o k = .ma i) (ax i) s w w') :
    ∃ o', Sw w' o' gw ga gb hb ax tv ts { st with ms := upd st.ms i s } ∧ Touch (Own o) w w' ∧ (∀ k, k < w.heap.size → o' k = o k) := by
  obtain ⟨F, hr, ht, hF⟩ := hm
  have hn2 : ∀ k, o k ≠ .no → o k ≠ .ma i → w'.heap[k]? = w.heap[k]? := fun k h1 h2 => ht.block k (h.lt k h1) h2
  refine ⟨claimed o w.heap.size F (.ma i), ⟨(hn2 gw (by rw [h.ogw]; simp) (by rw [h.ogw]; simp)).trans h.head, h.row.of_block (hn2 ga (by rw [h.oga]; simp) (by rw [h.oga]; simp)), h.buf.of_blocks (hn2 gb (by rw [h.ogb]; simp) (by rw [h.ogb]; simp)) (hn2 hb (by rw [h.ohb]; simp) (by rw [h.ohb]; simp)), fun j hj => ?_,
    ?_, h.told, ?_, ?_, ?_, ?_, fun k hk => ?_, h.few, h.small⟩, ht.mono fun k hk => by unfold Own; rw [hk]; simp, fun k hk => claimed_old hk⟩
  · by_cases e : j = i
    · subst e
      show MRep w' _ (ax j) (upd st.ms j s j)
      rw [upd_same]
      refine hr.mono fun k hk => ?_
      rcases hF k hk with e | ⟨e, _⟩
      · have := h.lt k (by rw [e]; simp)
        exact (claimed_old this).trans e
      · exact claimed_new e hk
    · show MRep w' _ (ax j) (upd st.ms i s j)
      rw [upd_other _ _ _ e]
      refine ((h.mach j hj).keep ht.size fun k hk => hn2 k (by rw [hk]; simp) (by rw [hk]; intro e2; injection e2 with e2; exact e e2)).mono fun k hk => ?_
      have := h.lt k (by rw [hk]; simp)
      exact (claimed_old this).trans hk
  · have h1 : TrAt w' o tv ts := ⟨ownsRow_keep h.tr.row fun q hq => hn2 q (by rw [h.tr.own q hq]; simp) (by rw [h.tr.own q hq]; simp), fun t ht2 => ⟨(h.tr.txt t ht2).1.keep ht.size fun k hk _ => hn2 k (by rw [hk]; simp) (by rw [hk]; simp), (h.tr.txt t ht2).2.keep ht.size fun k hk _ => hn2 k (by rw [hk]; simp) (by rw [hk]; simp)⟩, h.tr.own⟩
    have hlt : ∀ k, o k ≠ .no → ¬ (w.heap.size ≤ k ∧ F k) := fun k hk e => by have := h.lt k hk; omega
    exact ⟨h1.row, fun t ht2 => ⟨(h1.txt t ht2).1.mono fun k hk _ => (claimed_not (hlt k (by rw [hk]; simp))).trans hk, (h1.txt t ht2).2.mono fun k hk _ => (claimed_not (hlt k (by rw [hk]; simp))).trans hk⟩, fun k hk => (claimed_not (hlt k (by rw [h1.own k hk]; simp))).trans (h1.own k hk)⟩
  · exact (claimed_old h.gw_lt).trans h.ogw
  · exact (claimed_old h.ga_lt).trans h.oga
  · exact (claimed_old h.buf.g_lt).trans h.ogb
  · exact (claimed_old h.buf.h_lt).trans h.ohb
  · by_cases e : w.heap.size ≤ k ∧ F k
    · rcases hF k e.2 with e3 | e3
      · exact Nat.lt_of_lt_of_le (h.lt k (by rw [e3]; simp)) ht.size
      · exact e3.2
    · rw [claimed_not e] at hk
      exact Nat.lt_of_lt_of_le (h.lt k hk) ht.size
end Sw

/-- A scheduler stands in memory. -/
def SwX (w : World) (o : Nat → Pt) (gw gb hb : Nat) (st : St) : Prop := ∃ ga ax tv ts, Sw w o gw ga gb hb ax tv ts st

/-- What a call on a scheduler left: nothing but its own blocks was turned, and no block that was there changed hands. -/
def Went (o : Nat → Pt) (gw gb hb : Nat) (st : St) (w w' : World) (o' : Nat → Pt) : Prop :=
  SwX w' o' gw gb hb st ∧ Touch (Own o) w w' ∧ (∀ k, k < w.heap.size → o' k = o k)

theorem SwX.below {w w' : World} {o : Nat → Pt} {gw gb hb : Nat} {st : St} (h : SwX w o gw gb hb st) (hbl : Below w.heap.size w w') : SwX w' o gw gb hb st := by
  obtain ⟨ga, ax, tv, ts, h⟩ := h
  exact ⟨ga, ax, tv, ts, h.below hbl⟩
theorem SwX.touch {S : Nat → Prop} {w w' : World} {o : Nat → Pt} {gw gb hb : Nat} {st : St} (h : SwX w o gw gb hb st) (ht : Touch S w w') (hn : ∀ k, o k ≠ .no → ¬ S k) : SwX w' o gw gb hb st := by
  obtain ⟨ga, ax, tv, ts, h⟩ := h
  exact ⟨ga, ax, tv, ts, h.touch ht hn⟩
theorem SwX.lt {w : World} {o : Nat → Pt} {gw gb hb : Nat} {st : St} (h : SwX w o gw gb hb st) {k : Nat} (hk : o k ≠ .no) : k < w.heap.size := by
  obtain ⟨ga, ax, tv, ts, h⟩ := h
  exact h.lt k hk
end Go.Proofs.YtikcnioooihncaaGreat
namespace Go.Proofs.YtikcnioooihncaaGreat
open Go.RowKit

/-- A row of n bytes stands at block q. -/
abbrev PlainAt (w : World) (q n : Nat) (u : Nat → Nat) : Prop := w.rowIs q 5 n (fun j => .int .u8 ((u j : Nat) : Int))

theorem PlainAt.part {w : World} {q n : Nat} {u : Nat → Nat} (h : PlainAt w q n u) (a k c : Nat) (hk : a + k ≤ n) : BytesAt w (.slice (some ⟨q, a, none⟩) k c) (Mb.bl u a k) := by
  refine ⟨some ⟨q, a, none⟩, c, by rw [Mb.bl_length], fun _ => ⟨q, a, rfl, h.lt, fun i hi => ?_⟩⟩
  rw [Mb.bl_length] at hi
  rw [h.cell (i := a + i) (by omega), Mb.bl_getD _ _ _ _ hi]

set_option maxRecDepth 100000 in
set_option maxHeartbeats 1000000 in
theorem refDo_no (q n : Nat) (K P N V U : Int) (A : Option Addr) (L cap : Nat) (w : World) (hK : K = 5 ∨ (K = 6 ∧ N = (L : Int))) (h0 : 0 ≤ N) (h1 : N ≤ 8) (h2 : 0 ≤ P) (h : n < P + N) :
    Calls Tryz.prog 16 #[.slice (some ⟨q, 0, none⟩) n n, .agg #[.int .i64 K, .int .i64 P, .int .i64 N, .int .u64 V, .int .u64 U, .slice A L cap]] w
      fun e w' => e = .returned (.tuple #[.agg #[.int .u64 0, .bool false, .slice none 0 0], .int .i64 2]) ∧ Below w.heap.size w w' := by
  have HK := fun W => Lib.hid (refCheck_no n K P N V U A L cap W hK h0 h1 h2 h)
  clear hK h0 h1 h2 h
  have HC := Lib.hid (acc_made w K P N V U (.slice A L cap) (.cells #[.int .u64 0, .bool false, .slice none 0 0] 25))
  have HA := Lib.hid (ans_made w (.cells #[.int .i64 K, .int .i64 P, .int .i64 N, .int .u64 V, .int .u64 U, .slice A L cap] 30))
  have HW := Lib.hid (((Below.refl w.heap.size w).alloc (Nat.le_refl _) (.cells #[.int .i64 K, .int .i64 P, .int .i64 N, .int .u64 V, .int .u64 U, .slice A L cap] 30)).alloc (by simp) (.cells #[.int .u64 0, .bool false, .slice none 0 0] 25))
  go_enter Tryz.func16, Tryz.ntmps16
  go_upto_region 1 with (fail)
  generalize (w.alloc (.cells #[.int .i64 K, .int .i64 P, .int .i64 N, .int .u64 V, .int .u64 U, .slice A L cap] 30)).alloc (.cells #[.int .u64 0, .bool false, .slice none 0 0] 25) = W at HC HA HW ⊢
  obtain ⟨c0, c1, c2, c3, c4, c5⟩ := HC.out
  go_wp2_with (go_at_call 39; refine (HK _).out.mono ?_; rintro e w1 ⟨rfl, hb1⟩; obtain ⟨a0, a1, a2, f0, f1, f2, _⟩ := HA.out.later hb1)
  refine bodyPost_ret (v := .tuple #[.agg #[.int .u64 0, .bool false, .slice none 0 0], .int .i64 2]) (by simp [results, Tryz.results16, go_sem, a0, a1, a2]) rfl ?_
  exact ⟨rfl, (((HW.out.trans (hb1.mono HW.out.size)).setCell (Nat.le_succ _) _).setCell (Nat.le_succ _) _).setCell (Nat.le_succ _) _⟩

set_option maxRecDepth 100000 in
set_option maxHeartbeats 1000000 in
theorem refDo_read {w : World} {q n : Nat} {u : Nat → Nat} (hr : PlainAt w q n u) (hu : Mb.IsB u) (P N : Nat) (V U : Int) (A : Option Addr) (L cap : Nat) (h1 : N ≤ 8) (h2 : 1 ≤ N) (hn : n ≤ 1000000) (h : P + N ≤ n) :
    Calls Tryz.prog 16 #[.slice (some ⟨q, 0, none⟩) n n, .agg #[.int .i64 5, .int .i64 P, .int .i64 N, .int .u64 V, .int .u64 U, .slice A L cap]] w
      fun e w' => ∃ A' l c, e = .returned (.tuple #[.agg #[.int .u64 0, .bool false, .slice A' l c], .int .i64 0]) ∧ Owns w.heap.size w' (.slice A' l c) (Mb.bl u P N) ∧ Below w.heap.size w w' := by
  have HK := fun W => Lib.hid (refCheck_ok n 5 P N V U A L cap W (.inl rfl) (by omega) (by omega) (by omega) hn (by omega))
  have HR := Lib.hid hr
  have HU := Lib.hid hu
  clear hr hu
  have HC := Lib.hid (acc_made w 5 P N V U (.slice A L cap) (.cells #[.int .u64 0, .bool false, .slice none 0 0] 25))
  have HA := Lib.hid (ans_made w (.cells #[.int .i64 5, .int .i64 P, .int .i64 N, .int .u64 V, .int .u64 U, .slice A L cap] 30))
  have HW := Lib.hid (((Below.refl w.heap.size w).alloc (Nat.le_refl _) (.cells #[.int .i64 5, .int .i64 P, .int .i64 N, .int .u64 V, .int .u64 U, .slice A L cap] 30)).alloc (by simp) (.cells #[.int .u64 0, .bool false, .slice none 0 0] 25))
  go_enter Tryz.func16, Tryz.ntmps16
  go_upto_region 1 with (fail)
  generalize (w.alloc (.cells #[.int .i64 5, .int .i64 P, .int .i64 N, .int .u64 V, .int .u64 U, .slice A L cap] 30)).alloc (.cells #[.int .u64 0, .bool false, .slice none 0 0] 25) = W at HC HA HW ⊢
  obtain ⟨c0, c1, c2, c3, c4, c5⟩ := HC.out
  go_upto_region 2 with (go_at_call 39; refine (HK _).out.mono ?_; rintro e w1 ⟨rfl, hb1⟩)
  have HA1 := Lib.hid (HA.out.later hb1)
  have HW1 := Lib.hid (HW.out.trans (hb1.mono HW.out.size))
  have hw1 : w.heap.size + 1 < w1.heap.size := Nat.lt_of_lt_of_le (lt_of_cell HA.out.a0) hb1.size
  obtain ⟨c0, c1, c2, c3, c4, c5⟩ := HC.out.below hb1
  have hr1 : PlainAt w1 q n u := HR.out.of_block (HW1.out.block q HR.out.lt)
  have HP := Lib.hid (hr1.part P N (n - P) h)
  have hpq : (P : Int) + N ≤ n := by omega
  have hpq2 : (P : Int) ≤ P + N := by omega
  have h8 : Hid (Wd.Bytes8 (Mb.bl u P N)) := Lib.hid (fun x hx => by have := Bys.bl HU.out P N x hx; omega)
  clear hb1 hr1
  go_upto_region 5 with (fail)
  have hown := Lib.hid (own_empty w1)
  have hby := Lib.hid (HP.out.below ((Below.refl w1.heap.size w1).alloc (Nat.le_refl _) (.cells #[] 5)))
  go_wp2_with (first
    | (go_at_call 40; refine (refNumber_any _ (Mb.bl u P N) _ h8.out HP.out).mono ?_; rintro e w2 ⟨rfl, rfl⟩)
    | (at_builtin; refine wpList_app_any rfl _ _ rfl w1.heap.size _ _ [] (Mb.bl u P N) rfl rfl hown.out hby.out (by simp [Mb.bl_length]; omega) (by simp) ?_; intro v' w3 happ; obtain ⟨A', c', rfl, _⟩ := happ.own.bytes; have hb3 := happ.below hown.out ((Below.refl _ w1).alloc (Nat.le_refl _) _) (by simp); have hap := Lib.hid happ.own; clear happ; obtain ⟨a0, a1, a2, f0, f1, f2, _⟩ := HA1.out.later hb3))
  refine bodyPost_ret (v := .tuple #[.agg #[.int .u64 0, .bool false, .slice A' (Mb.bl u P N).length c'], .int .i64 0]) (by simp [results, Tryz.results16, go_sem, a0, a1, a2]) rfl ?_
  have hsz : w.heap.size + 1 < w1.heap.size := hw1
  have how : Owns w1.heap.size w3 (.slice A' (Mb.bl u P N).length c') (Mb.bl u P N) := hap.out
  refine ⟨A', _, c', rfl, ?_, ((((HW1.out.trans (hb3.mono (by omega))).setCell (Nat.le_succ _) _).setCell (Nat.le_succ _) _).setCell (Nat.le_succ _) _)⟩
  exact (((how.setCell (p := ⟨w.heap.size + 1, 0, none⟩) hsz _).setCell (p := ⟨w.heap.size + 1, 1, none⟩) hsz _).setCell (p := ⟨w.heap.size + 1, 2, none⟩) hsz _).down (by omega)

set_option maxRecDepth 100000 in
set_option maxHeartbeats 1000000 in
theorem refDo_write {w : World} {q n : Nat} {u : Nat → Nat} (hr : PlainAt w q n u) (hu : Mb.IsB u) (P N : Nat) (V U : Int) (A : Option Addr) (cap : Nat) (f : Nat → Nat) (hB : BytesAt w (.slice A N cap) (Mb.bl f 0 N)) (h1 : N ≤ 8) (h2 : 1 ≤ N) (hn : n ≤ 1000000) (h : P + N ≤ n) :
    Calls Tryz.prog 16 #[.slice (some ⟨q, 0, none⟩) n n, .agg #[.int .i64 6, .int .i64 P, .int .i64 N, .int .u64 V, .int .u64 U, .slice A N cap]] w
      fun e w' => e = .returned (.tuple #[.agg #[.int .u64 0, .bool false, .slice none 0 0], .int .i64 0]) ∧ PlainAt w' q n (Cy.lay u f P N) ∧ Touch (Lone q) w w' := by
  have HK := fun W => Lib.hid (refCheck_ok n 6 P N V U A N cap W (.inr ⟨rfl, rfl⟩) (by omega) (by omega) (by omega) hn (by omega))
  have HR := Lib.hid hr
  have hql := hr.lt
  have HU := Lib.hid hu
  have HBY := Lib.hid hB
  clear hr hu hB
  have HC := Lib.hid (acc_made w 6 P N V U (.slice A N cap) (.cells #[.int .u64 0, .bool false, .slice none 0 0] 25))
  have HA := Lib.hid (ans_made w (.cells #[.int .i64 6, .int .i64 P, .int .i64 N, .int .u64 V, .int .u64 U, .slice A N cap] 30))
  have HW := Lib.hid (((Below.refl w.heap.size w).alloc (Nat.le_refl _) (.cells #[.int .i64 6, .int .i64 P, .int .i64 N, .int .u64 V, .int .u64 U, .slice A N cap] 30)).alloc (by simp) (.cells #[.int .u64 0, .bool false, .slice none 0 0] 25))
  go_enter Tryz.func16, Tryz.ntmps16
  go_upto_region 1 with (fail)
  generalize (w.alloc (.cells #[.int .i64 6, .int .i64 P, .int .i64 N, .int .u64 V, .int .u64 U, .slice A N cap] 30)).alloc (.cells #[.int .u64 0, .bool false, .slice none 0 0] 25) = W at HC HA HW ⊢
  obtain ⟨c0, c1, c2, c3, c4, c5⟩ := HC.out
  go_upto_region 2 with (go_at_call 39; refine (HK _).out.mono ?_; rintro e w1 ⟨rfl, hb1⟩)
  have HA1 := Lib.hid (HA.out.later hb1)
  have HW1 := Lib.hid (HW.out.trans (hb1.mono HW.out.size))
  have hw1 : w.heap.size + 1 < w1.heap.size := Nat.lt_of_lt_of_le (lt_of_cell HA.out.a0) hb1.size
  obtain ⟨c0, c1, c2, c3, c4, c5⟩ := HC.out.below hb1
  have hr1 : PlainAt w1 q n u := HR.out.of_block (HW1.out.block q HR.out.lt)
  have HP := Lib.hid (hr1.part P N (n - P) h)
  have hpq : (P : Int) + N ≤ n := by omega
  have hpq2 : (P : Int) ≤ P + N := by omega
  have h8 : Hid (Wd.Bytes8 (Mb.bl u P N)) := Lib.hid (fun x hx => by have := Bys.bl HU.out P N x hx; omega)
  have HR1 := Lib.hid hr1
  have HB1 := Lib.hid (HBY.out.below HW1.out)
  clear hb1 hr1
  go_upto_region 5 with (fail)
  obtain ⟨w3, hrun3, hr3, ht3⟩ := run_copy_bytes (dLen := N) (dCap := n - P) (off := P) HR1.out A N cap HB1.out h (Nat.le_refl _) 3
  have ht4 := Lib.hid ht3
  have hr4 := Lib.hid hr3
  obtain ⟨a0, a1, a2, f0, f1, f2, _⟩ := AnsAt.of_blk ((ht3.block _ hw1 fun e => by have e : w.heap.size + 1 = q := e; omega).trans HA1.out.blk)
  clear ht3 hr3
  go_wp2_with (go_at_call 40; refine (refNumber_any _ (Mb.bl u P N) _ h8.out HP.out).mono ?_; rintro e w2 ⟨rfl, rfl⟩)
  refine bodyPost_ret (v := .tuple #[.agg #[.int .u64 0, .bool false, .slice none 0 0], .int .i64 0]) (by simp [results, Tryz.results16, go_sem, a0, a1, a2]) rfl ?_
  have hq3 : q ≠ w.heap.size + 1 := by omega
  refine ⟨rfl, hr4.out.of_block ((Below.heap_setCell _ _ _ _ hq3).trans ((Below.heap_setCell _ _ _ _ hq3).trans (Below.heap_setCell _ _ _ _ hq3))), ?_⟩
  have ht5 : Touch (Lone q) w w3 := (Touch.of_below HW1.out).trans ht4.out
  exact ((ht5.setNew (p := ⟨w.heap.size + 1, 0, none⟩) (Nat.le_succ _) _).setNew (p := ⟨w.heap.size + 1, 1, none⟩) (Nat.le_succ _) _).setNew (p := ⟨w.heap.size + 1, 2, none⟩) (Nat.le_succ _) _
end Go.Proofs.YtikcnioooihncaaGreat
namespace Go.Proofs.YtikcnioooihncaaGreat
open Go.RowKit

theorem bs_byt (X N : Nat) : Wd.bs ((X : Nat) : Int) N = Mb.bl (Mb.byt X) 0 N := by
  unfold Wd.bs Mb.bl
  refine List.map_congr_left fun i _ => ?_
  unfold Mb.byt
  rw [Nat.zero_add, Nat.mul_comm 8 i]
  simp

theorem byt_mod (V N i : Nat) (h : i < N) : Mb.byt (V % 2 ^ (8 * N)) i = Mb.byt V i := by
  unfold Mb.byt
  obtain ⟨d, rfl⟩ : ∃ d, N = i + (1 + d) := ⟨N - i - 1, by omega⟩
  rw [Nat.mul_add, Nat.pow_add, Nat.mod_mul_right_div_self, Nat.mul_add, Nat.pow_add]
  exact Nat.mod_mul_right_mod _ _ _

theorem lay_mod (u : Nat → Nat) (P N V : Nat) : Cy.lay u (Mb.byt (V % 2 ^ (8 * N))) P N = Mb.put u P N V := by
  funext k
  unfold Cy.lay Mb.put
  split
  · exact byt_mod V N _ (by omega)
  · rfl

theorem refBytes_byt (X N : Nat) (w : World) (hX : X < 18446744073709551616) (hN : N ≤ 8) :
    Calls Tryz.prog 41 #[.int .u64 X, .int .i64 N] w fun e w' => ∃ A c, e = .returned (.slice A N c) ∧ BytesAt w' (.slice A N c) (Mb.bl (Mb.byt X) 0 N) ∧ Below w.heap.size w w' := by
  refine (refBytes_yes (X : Int) N w (by omega) (by omega) hN).mono ?_
  rintro e w' ⟨x, rfl, hx, hb⟩
  rw [bs_byt] at hx
  have hx2 := hx
  obtain ⟨A, c, hv, _⟩ := hx
  rw [Mb.bl_length] at hv
  subst hv
  exact ⟨A, c, rfl, hx2, hb⟩

set_option maxRecDepth 100000 in
set_option maxHeartbeats 1000000 in
theorem refCheck_word (n : Nat) (K : Int) (P N : Nat) (V U : Int) (A : Option Addr) (L cap : Nat) (w : World) (hK : K = 1 ∨ K = 2 ∨ K = 4) (hN : N = 4 ∨ N = 8) (hal : P % N = 0) (hn : n ≤ 1000000) (h : P + N ≤ n) :
    Calls Tryz.prog 39 #[.int .i64 n, .agg #[.int .i64 K, .int .i64 P, .int .i64 N, .int .u64 V, .int .u64 U, .slice A L cap]] w fun e w' => e = .returned (.int .i64 0) ∧ Below w.heap.size w w' := by
  have hb := (Below.refl w.heap.size w).alloc (Nat.le_refl _) (.cells #[.int .i64 K, .int .i64 P, .int .i64 N, .int .u64 V, .int .u64 U, .slice A L cap] 30)
  have g1 : (P : Int) ≤ n := by omega
  have g2 : (N : Int) ≤ n - P := by omega
  have g3 : (P : Int).tmod N = 0 := by rw [Int.tmod_eq_emod_of_nonneg (by omega)]; omega
  have HB := Lib.hid hb
  clear h hb
  rcases hN with rfl | rfl
  all_goals
    rcases hK with rfl | rfl | rfl
    all_goals
      go_enter Tryz.func39, Tryz.ntmps39
      go_wp2
      go_ret
      exact ⟨rfl, HB.out⟩

set_option maxRecDepth 100000 in
set_option maxHeartbeats 1000000 in
theorem refLow_any (V : Nat) (N : Nat) (w : World) (hV : V < 18446744073709551616) (hN : N = 4 ∨ N = 8) :
    Calls Tryz.prog 42 #[.int .u64 V, .int .i64 N] w fun e w' => e = .returned (.int .u64 ((V % 2 ^ (8 * N) : Nat) : Int)) ∧ w = w' := by
  rcases hN with rfl | rfl
  · have e1 : ((V % 2 ^ (8 * 4) : Nat) : Int) = (V : Int) % 4294967296 := by omega
    rw [e1]
    go_enter Tryz.func42, Tryz.ntmps42
    go_wp2
    go_ret
    exact ⟨rfl, rfl⟩
  · have e1 : ((V % 2 ^ (8 * 8) : Nat) : Int) = (V : Int) := by omega
    rw [e1]
    go_enter Tryz.func42, Tryz.ntmps42
    go_wp2
    go_ret
    exact ⟨rfl, rfl⟩

set_option maxRecDepth 100000 in
set_option maxHeartbeats 1000000 in
theorem refDo_load {w : World} {q n : Nat} {u : Nat → Nat} (hr : PlainAt w q n u) (hu : Mb.IsB u) (P N : Nat) (V U : Int) (A : Option Addr) (L cap : Nat) (hN : N = 4 ∨ N = 8) (hal : P % N = 0) (hn : n ≤ 1000000) (h : P + N ≤ n) :
    Calls Tryz.prog 16 #[.slice (some ⟨q, 0, none⟩) n n, .agg #[.int .i64 1, .int .i64 P, .int .i64 N, .int .u64 V, .int .u64 U, .slice A L cap]] w
      fun e w' => e = .returned (.tuple #[.agg #[.int .u64 (Mb.nm u P N : Nat), .bool false, .slice none 0 0], .int .i64 0]) ∧ Below w.heap.size w w' := by
  have HK := fun W => Lib.hid (refCheck_word n 1 P N V U A L cap W (.inl rfl) hN hal hn h)
  have HR := Lib.hid hr
  have HU := Lib.hid hu
  clear hr hu
  have HC := Lib.hid (acc_made w 1 P N V U (.slice A L cap) (.cells #[.int .u64 0, .bool false, .slice none 0 0] 25))
  have HA := Lib.hid (ans_made w (.cells #[.int .i64 1, .int .i64 P, .int .i64 N, .int .u64 V, .int .u64 U, .slice A L cap] 30))
  have HW := Lib.hid (((Below.refl w.heap.size w).alloc (Nat.le_refl _) (.cells #[.int .i64 1, .int .i64 P, .int .i64 N, .int .u64 V, .int .u64 U, .slice A L cap] 30)).alloc (by simp) (.cells #[.int .u64 0, .bool false, .slice none 0 0] 25))
  go_enter Tryz.func16, Tryz.ntmps16
  go_upto_region 1 with (fail)
  generalize (w.alloc (.cells #[.int .i64 1, .int .i64 P, .int .i64 N, .int .u64 V, .int .u64 U, .slice A L cap] 30)).alloc (.cells #[.int .u64 0, .bool false, .slice none 0 0] 25) = W at HC HA HW ⊢
  obtain ⟨c0, c1, c2, c3, c4, c5⟩ := HC.out
  go_upto_region 2 with (go_at_call 39; refine (HK _).out.mono ?_; rintro e w1 ⟨rfl, hb1⟩)
  have HA1 := Lib.hid (HA.out.later hb1)
  have HW1 := Lib.hid (HW.out.trans (hb1.mono HW.out.size))
  have hw1 : w.heap.size + 1 < w1.heap.size := Nat.lt_of_lt_of_le (lt_of_cell HA.out.a0) hb1.size
  obtain ⟨c0, c1, c2, c3, c4, c5⟩ := HC.out.below hb1
  obtain ⟨a0, a1, a2, f0, f1, f2, _⟩ := HA1.out
  have hr1 : PlainAt w1 q n u := HR.out.of_block (HW1.out.block q HR.out.lt)
  have HP := Lib.hid (hr1.part P N (n - P) h)
  have hpq : (P : Int) + N ≤ n := by omega
  have hpq2 : (P : Int) ≤ P + N := by omega
  have h8 : Hid (Wd.Bytes8 (Mb.bl u P N)) := Lib.hid (fun x hx => by have := Bys.bl HU.out P N x hx; omega)
  have htk : (Mb.bl u P N).take 8 = Mb.bl u P N := List.take_of_length_le (by rw [Mb.bl_length]; omega)
  have hnum := Lib.hid (Mb.num_bl u P N)
  clear hb1 hr1
  go_upto_region 5 with (fail)
  go_wp2_with (go_at_call 40; refine (refNumber_any _ (Mb.bl u P N) _ h8.out HP.out).mono ?_; rintro e w2 ⟨rfl, rfl⟩; rw [htk, hnum.out])
  refine bodyPost_ret (v := .tuple #[.agg #[.int .u64 (Mb.nm u P N : Nat), .bool false, .slice none 0 0], .int .i64 0]) (by simp [results, Tryz.results16, go_sem, a0, a1, a2]) rfl ?_
  exact ⟨rfl, (((HW1.out.setCell (Nat.le_succ _) _).setCell (Nat.le_succ _) _).setCell (Nat.le_succ _) _)⟩
set_option maxRecDepth 100000 in
set_option maxHeartbeats 1000000 in
theorem refDo_store {w : World} {q n : Nat} {u : Nat → Nat} (hr : PlainAt w q n u) (hu : Mb.IsB u) (P N V : Nat) (U : Int) (A : Option Addr) (L cap : Nat) (hV : V < 18446744073709551616) (hN : N = 4 ∨ N = 8) (hal : P % N = 0) (hn : n ≤ 1000000) (h : P + N ≤ n) :
    Calls Tryz.prog 16 #[.slice (some ⟨q, 0, none⟩) n n, .agg #[.int .i64 2, .int .i64 P, .int .i64 N, .int .u64 V, .int .u64 U, .slice A L cap]] w
      fun e w' => e = .returned (.tuple #[.agg #[.int .u64 0, .bool false, .slice none 0 0], .int .i64 0]) ∧ PlainAt w' q n (Mb.put u P N V) ∧ Touch (Lone q) w w' := by
  have HK := fun W => Lib.hid (refCheck_word n 2 P N V U A L cap W (.inr (.inl rfl)) hN hal hn h)
  have HLO := fun W => Lib.hid (refLow_any V N W hV hN)
  have hN8 : N ≤ 8 := by omega
  have hX : V % 2 ^ (8 * N) < 18446744073709551616 := Nat.lt_of_le_of_lt (Nat.mod_le _ _) hV
  have HBY := fun W => Lib.hid (refBytes_byt (V % 2 ^ (8 * N)) N W hX hN8)
  have hlay := Lib.hid (lay_mod u P N V)
  generalize V % 2 ^ (8 * N) = X at *
  have HR := Lib.hid hr
  have hql := hr.lt
  have HU := Lib.hid hu
  clear hr hu
  have HC := Lib.hid (acc_made w 2 P N V U (.slice A L cap) (.cells #[.int .u64 0, .bool false, .slice none 0 0] 25))
  have HA := Lib.hid (ans_made w (.cells #[.int .i64 2, .int .i64 P, .int .i64 N, .int .u64 V, .int .u64 U, .slice A L cap] 30))
  have HW := Lib.hid (((Below.refl w.heap.size w).alloc (Nat.le_refl _) (.cells #[.int .i64 2, .int .i64 P, .int .i64 N, .int .u64 V, .int .u64 U, .slice A L cap] 30)).alloc (by simp) (.cells #[.int .u64 0, .bool false, .slice none 0 0] 25))
  go_enter Tryz.func16, Tryz.ntmps16
  go_upto_region 1 with (fail)
  generalize (w.alloc (.cells #[.int .i64 2, .int .i64 P, .int .i64 N, .int .u64 V, .int .u64 U, .slice A L cap] 30)).alloc (.cells #[.int .u64 0, .bool false, .slice none 0 0] 25) = W at HC HA HW ⊢
  obtain ⟨c0, c1, c2, c3, c4, c5⟩ := HC.out
  go_upto_region 2 with (go_at_call 39; refine (HK _).out.mono ?_; rintro e w1 ⟨rfl, hb1⟩)
  have HA1 := Lib.hid (HA.out.later hb1)
  have HW1 := Lib.hid (HW.out.trans (hb1.mono HW.out.size))
  have hw1 : w.heap.size + 1 < w1.heap.size := Nat.lt_of_lt_of_le (lt_of_cell HA.out.a0) hb1.size
  obtain ⟨c0, c1, c2, c3, c4, c5⟩ := HC.out.below hb1
  have hr1 : PlainAt w1 q n u := HR.out.of_block (HW1.out.block q HR.out.lt)
  have HP := Lib.hid (hr1.part P N (n - P) h)
  have hpq : (P : Int) + N ≤ n := by omega
  have hpq2 : (P : Int) ≤ P + N := by omega
  have h8 : Hid (Wd.Bytes8 (Mb.bl u P N)) := Lib.hid (fun x hx => by have := Bys.bl HU.out P N x hx; omega)
  have HR1 := Lib.hid hr1
  clear hb1 hr1
  go_upto_region 5 with (fail)
  go_upto_region 10 with (go_at_call 40; refine (refNumber_any _ (Mb.bl u P N) _ h8.out HP.out).mono ?_; rintro e w2 ⟨rfl, rfl⟩)
  go_wp2_with fail
  go_region_held3 (fun w' => w'.cell? ⟨w.heap.size, 2, none⟩ = some (.int .i64 N) ∧ w'.cell? ⟨w.heap.size, 3, none⟩ = some (.int .u64 V)) (go_keep)
    (first | (go_at_call 42; refine (HLO _).out.mono ?_; rintro e w2 ⟨rfl, rfl⟩) | (go_at_call 41; refine (HBY _).out.mono ?_; rintro e w3 ⟨Ax, cx, rfl, hx3, hb3d⟩; have hb3 := below_drew hb3d; obtain ⟨w4, hrun4, hr4, ht4⟩ := run_copy_bytes (dLen := N) (dCap := n - P) (off := P) (HR1.out.of_block (hb3.block q (Nat.lt_of_lt_of_le hql HW1.out.size))) Ax N cx hx3 h (Nat.le_refl _) 3; have hlq : ¬ Lone q w.heap.size := (fun e => Nat.ne_of_gt hql e); have k2 := (hb3.cell (p := ⟨w.heap.size, 2, none⟩) (lt_of_cell c2)).trans c2; have k3 := (hb3.cell (p := ⟨w.heap.size, 3, none⟩) (lt_of_cell c3)).trans c3; have z2 := (ht4.cell (p := ⟨w.heap.size, 2, none⟩) (lt_of_cell k2) hlq).trans k2; have z3 := (ht4.cell (p := ⟨w.heap.size, 3, none⟩) (lt_of_cell k3) hlq).trans k3))
  have hb13 := HW1.out.trans (hb3.mono HW1.out.size)
  have ht5 : Touch (Lone q) w w4 := (Touch.of_below hb13).trans ht4
  have hs13 := hb3.size
  obtain ⟨a0, a1, a2, f0, f1, f2, _⟩ := AnsAt.of_blk ((ht4.block _ (by omega) fun e => by have e : w.heap.size + 1 = q := e; omega).trans ((hb3.block _ hw1).trans HA1.out.blk))
  rw [hlay.out] at hr4
  have HR4 := Lib.hid hr4
  have HT5 := Lib.hid ht5
  clear hr4 ht5 ht4 hx3
  go_wp2_with fail
  refine bodyPost_ret (v := .tuple #[.agg #[.int .u64 0, .bool false, .slice none 0 0], .int .i64 0]) (by simp [results, Tryz.results16, go_sem, a0, a1, a2]) rfl ?_
  have hq3 : q ≠ w.heap.size + 1 := by omega
  refine ⟨rfl, HR4.out.of_block ((Below.heap_setCell _ _ _ _ hq3).trans ((Below.heap_setCell _ _ _ _ hq3).trans (Below.heap_setCell _ _ _ _ hq3))), ?_⟩
  exact ((HT5.out.setNew (p := ⟨w.heap.size + 1, 0, none⟩) (Nat.le_succ _) _).setNew (p := ⟨w.heap.size + 1, 1, none⟩) (Nat.le_succ _) _).setNew (p := ⟨w.heap.size + 1, 2, none⟩) (Nat.le_succ _) _
end Go.Proofs.YtikcnioooihncaaGreat
namespace Go.Proofs.YtikcnioooihncaaGreat
open Go.RowKit


theorem read_all {w : World} {g h n : Nat} {m : Nat → Nat} {c : Int} (B : Buf w g h m n c) :
    Calls Tryz.prog 43 #[.pointer (some ⟨g, 0, none⟩), .int .i64 0, .int .i64 (8 * (n : Int))] w (MadeBytes (Mb.bl m 0 (8 * n)) w) := by
  simpa using read_any B 0 (8 * n) (by omega)

theorem read_nil (w : World) : Calls Tryz.prog 43 #[.pointer none, .int .i64 0, .int .i64 0] w (MadeBytes [] w) := by
  obtain ⟨i0, hi, hz0, hz1, hz2⟩ := info_parts infoU8
  go_enter Tryz.func43, Tryz.ntmps43
  go_wp2_with (refine wpList_make_own _ rfl _ _ 23 rfl w.heap.size 5 i0 (.int .u8 0) 1 Tryz.underlying23 hi hz0 hz1 .i64 .i64 _ 0 rfl rfl rfl (by rw [hz2]; omega) (by unfold maxLen; omega) (Nat.le_refl _) ?_; intro w0 hown0 hg0)
  have hbel0 : Below w.heap.size w w0 := (Below.refl _ w).grown hg0 (Nat.le_refl _) (fun g hg => by cases hg)
  clear hg0
  refine wp_loop_rounds 1 ?_
  rw [rounds_succ]
  go_wp2
  go_ret
  exact ⟨_, rfl, BytesAt.of_own (xs := []) hown0, hbel0⟩

set_option maxHeartbeats 400000 in
theorem allBytes_any {w : World} {g h n : Nat} {m : Nat → Nat} {c : Int} (B : Buf w g h m n c) :
    Calls Tryz.prog 18 #[.pointer (some ⟨g, 0, none⟩)] w (MadeBytes (Mb.bl m 0 (8 * n)) w) := by
  have HB := Lib.hid B
  clear B
  go_enter Tryz.func18, Tryz.ntmps18
  go_wp2_with (first
    | (go_at_call 36; refine (size_any HB.out).mono ?_; rintro e w' ⟨rfl, rfl⟩)
    | (go_at_call 43; refine (read_all HB.out).mono ?_; rintro e w1 ⟨x, rfl, hx, hb⟩))
  go_ret
  exact ⟨_, rfl, hx, hb⟩

set_option maxHeartbeats 400000 in
theorem allBytes_nil (w : World) :
    Calls Tryz.prog 18 #[.pointer none] w (MadeBytes [] w) := by
  go_enter Tryz.func18, Tryz.ntmps18
  go_wp2_with (first
    | (go_at_call 36; refine (size_nil _).mono ?_; rintro e w' ⟨rfl, rfl⟩)
    | (go_at_call 43; refine (read_nil _).mono ?_; rintro e w1 ⟨x, rfl, hx, hb⟩))
  go_ret
  exact ⟨_, rfl, hx, hb⟩
end Go.Proofs.YtikcnioooihncaaGreat
namespace Go.Proofs.YtikcnioooihncaaGreat
open Go.RowKit

theorem chk_word {S : Int} {K : Int} {P N : Nat} (hK : K = 1 ∨ K = 2 ∨ K = 4) (hN : N = 4 ∨ N = 8) (h : (P : Int) + N ≤ S) : chk S K P N 0 = if P % N = 0 then 0 else 3 := by
  have hf : formed K N 0 = true := by
    unfold formed
    rw [if_pos hK]
    rcases hN with rfl | rfl <;> rfl
  have hb : numB K = true := by unfold numB; rcases hK with rfl | rfl | rfl <;> rfl
  unfold chk
  rw [hf, if_neg (by decide), if_neg (by omega), hb]
  by_cases e : P % N = 0
  · rw [if_pos e, if_neg (fun h => h.2 (by omega))]
  · rw [if_neg e, if_pos ⟨rfl, by omega⟩]

set_option maxRecDepth 100000 in
set_option maxHeartbeats 1000000 in
theorem refCheck_skew (n : Nat) (K : Int) (P N : Nat) (V U : Int) (A : Option Addr) (L cap : Nat) (w : World) (hK : K = 1 ∨ K = 2 ∨ K = 4) (hN : N = 4 ∨ N = 8) (hal : P % N ≠ 0) (hn : n ≤ 1000000) (h : P + N ≤ n) :
    Calls Tryz.prog 39 #[.int .i64 n, .agg #[.int .i64 K, .int .i64 P, .int .i64 N, .int .u64 V, .int .u64 U, .slice A L cap]] w fun e w' => e = .returned (.int .i64 3) ∧ Below w.heap.size w w' := by
  have hb := (Below.refl w.heap.size w).alloc (Nat.le_refl _) (.cells #[.int .i64 K, .int .i64 P, .int .i64 N, .int .u64 V, .int .u64 U, .slice A L cap] 30)
  have g1 : (P : Int) ≤ n := by omega
  have g2 : (N : Int) ≤ n - P := by omega
  have g3 : ¬ (P : Int).tmod N = 0 := by rw [Int.tmod_eq_emod_of_nonneg (by omega)]; omega
  have g4 : ((P : Int).tmod N != 0) = true := by simpa using g3
  have HB := Lib.hid hb
  clear h hb
  rcases hN with rfl | rfl
  all_goals
    rcases hK with rfl | rfl | rfl
    all_goals
      go_enter Tryz.func39, Tryz.ntmps39
      go_wp2
      go_ret
      exact ⟨rfl, HB.out⟩

set_option maxRecDepth 100000 in
set_option maxHeartbeats 1000000 in
theorem refDo_skew (q n : Nat) (K : Int) (P N : Nat) (V U : Int) (A : Option Addr) (L cap : Nat) (w : World) (hK : K = 1 ∨ K = 2 ∨ K = 4) (hN : N = 4 ∨ N = 8) (hal : P % N ≠ 0) (hn : n ≤ 1000000) (h : P + N ≤ n) :
    Calls Tryz.prog 16 #[.slice (some ⟨q, 0, none⟩) n n, .agg #[.int .i64 K, .int .i64 P, .int .i64 N, .int .u64 V, .int .u64 U, .slice A L cap]] w
      (Made (.tuple #[.agg #[.int .u64 0, .bool false, .slice none 0 0], .int .i64 3]) w) := by
  have HK := fun W => Lib.hid (refCheck_skew n K P N V U A L cap W hK hN hal hn h)
  have HC := Lib.hid (acc_made w K P N V U (.slice A L cap) (.cells #[.int .u64 0, .bool false, .slice none 0 0] 25))
  have HA := Lib.hid (ans_made w (.cells #[.int .i64 K, .int .i64 P, .int .i64 N, .int .u64 V, .int .u64 U, .slice A L cap] 30))
  have HW := Lib.hid (((Below.refl w.heap.size w).alloc (Nat.le_refl _) (.cells #[.int .i64 K, .int .i64 P, .int .i64 N, .int .u64 V, .int .u64 U, .slice A L cap] 30)).alloc (by simp) (.cells #[.int .u64 0, .bool false, .slice none 0 0] 25))
  clear hK hN hal hn h
  go_enter Tryz.func16, Tryz.ntmps16
  go_upto_region 1 with (fail)
  generalize (w.alloc (.cells #[.int .i64 K, .int .i64 P, .int .i64 N, .int .u64 V, .int .u64 U, .slice A L cap] 30)).alloc (.cells #[.int .u64 0, .bool false, .slice none 0 0] 25) = W at HC HA HW ⊢
  obtain ⟨c0, c1, c2, c3, c4, c5⟩ := HC.out
  go_upto_region 2 with (go_at_call 39; refine (HK _).out.mono ?_; rintro e w1 ⟨rfl, hb1⟩)
  have HA1 := Lib.hid (HA.out.later hb1)
  have HW1 := Lib.hid (HW.out.trans (hb1.mono HW.out.size))
  obtain ⟨a0, a1, a2, f0, f1, f2, _⟩ := HA1.out
  clear c0 c1 c2 c3 c4 c5 hb1
  go_wp2
  refine bodyPost_ret (v := .tuple #[.agg #[.int .u64 0, .bool false, .slice none 0 0], .int .i64 3]) (by simp [results, Tryz.results16, go_sem, a0, a1, a2]) rfl ?_
  exact ⟨rfl, (((HW1.out.setCell (Nat.le_succ _) _).setCell (Nat.le_succ _) _).setCell (Nat.le_succ _) _)⟩

set_option maxRecDepth 100000 in
set_option maxHeartbeats 1000000 in
theorem same_ans2 (V : Int) (D : Bool) (A B : Option Addr) (L M cp cq : Nat) (xs : List Int) (w : World) (ha : BytesAt w (.slice A L cp) xs) (hb : BytesAt w (.slice B M cq) xs) :
    Calls Tryz.prog 17 #[.agg #[.int .u64 V, .bool D, .slice A L cp], .agg #[.int .u64 V, .bool D, .slice B M cq]] w (TrueBelow w) := by
  have HW := ((Below.refl w.heap.size w).alloc (Nat.le_refl _) (.cells #[.int .u64 V, .bool D, .slice A L cp] 25)).alloc (by simp) (.cells #[.int .u64 V, .bool D, .slice B M cq] 25)
  have h1 := (ha.below HW).conv
  have h2 := (hb.below HW).conv
  go_enter Tryz.func17, Tryz.ntmps17
  go_wp2
  go_ret
  exact ⟨rfl, HW⟩

/-- A word's load or store, as both sides do it: the number, and the bytes afterwards. -/
def shV (m : Nat → Nat) (K : Int) (P N : Nat) : Nat := if K = 1 then Mb.nm m P N else 0
def shM (m : Nat → Nat) (K : Int) (P N V : Nat) : Nat → Nat := if K = 2 then Mb.put m P N V else m
theorem shM_isB {m : Nat → Nat} (h : Mb.IsB m) (K : Int) (P N V : Nat) : Mb.IsB (shM m K P N V) := by
  unfold shM
  split
  · exact Mb.put_isB h _ _ _
  · exact h

/-- The buffer's side. -/
theorem bufWord {w : World} {g h nw : Nat} {m : Nat → Nat} {c : Int} (B : Buf w g h m nw c) (K : Int) (P N V U : Nat) (A : Option Addr) (cap : Nat) (hcap : cap ≤ 9223372036854775807) (hK : K = 1 ∨ K = 2) (hN : N = 4 ∨ N = 8) (hV : V < 18446744073709551616) (hal : P % N = 0) (hin : P + N ≤ 8 * nw) :
    Calls Tryz.prog 15 #[.pointer (some ⟨g, 0, none⟩), .agg #[.int .i64 K, .int .i64 P, .int .i64 N, .int .u64 V, .int .u64 U, .slice A 0 cap]] w
      fun e w' => ∃ A2 c2, e = .returned (.tuple #[.agg #[.int .u64 (shV m K P N), .bool false, .slice A2 0 c2], .int .i64 0]) ∧ BytesAt w' (.slice A2 0 c2) [] ∧ Buf w' g h (shM m K P N V) nw (nxt c) ∧ Touch (Two g h) w w' := by
  have hb : BytesAt w (.slice A 0 cap) (Mb.bl (fun _ => 0) 0 0) := ⟨A, cap, rfl, fun h => absurd h (by simp [Mb.bl])⟩
  refine (do_ok B K P N V U (f := fun _ => 0) Mb.zero_isB A 0 cap (Nat.zero_le _) hcap hb hV (by rw [chk_word (by rcases hK with h | h <;> simp [h]) hN (by omega), if_pos hal])).mono ?_
  rintro e w' ⟨s, rfl, hs, hst, htt⟩
  have e1 : Mb.ansV m K P N = shV m K P N := by unfold Mb.ansV shV; rcases hK with rfl | rfl <;> simp
  have e2 : Mb.ansD m K P N V = false := by unfold Mb.ansD; rcases hK with rfl | rfl <;> simp
  have e3 : Mb.ansB m K P N = [] := by unfold Mb.ansB; rcases hK with rfl | rfl <;> simp
  have e4 : Mb.aft m K P N V U (fun _ => 0) = shM m K P N V := by unfold Mb.aft shM; rcases hK with rfl | rfl <;> simp
  rw [e1, e2]
  rw [e3] at hs
  rw [e4] at hst
  have hs2 := hs
  obtain ⟨A2, c2, rfl, _⟩ := hs
  exact ⟨A2, c2, rfl, hs2, hst, htt⟩

theorem bufSkew {w : World} {g h nw : Nat} {m : Nat → Nat} {c : Int} (B : Buf w g h m nw c) (K : Int) (P N V U : Nat) (A : Option Addr) (cap : Nat) (hK : K = 1 ∨ K = 2) (hN : N = 4 ∨ N = 8) (hal : P % N ≠ 0) (hin : P + N ≤ 8 * nw) :
    Calls Tryz.prog 15 #[.pointer (some ⟨g, 0, none⟩), .agg #[.int .i64 K, .int .i64 P, .int .i64 N, .int .u64 V, .int .u64 U, .slice A 0 cap]] w
      (Made (.tuple #[.agg #[.int .u64 0, .bool false, .slice none 0 0], .int .i64 3]) w) := by
  have hc : chk (8 * (nw : Int)) K P N 0 = 3 := by rw [chk_word (by rcases hK with h | h <;> simp [h]) hN (by omega), if_neg hal]
  have := do_no B K P N V U A 0 cap (by rw [hc]; decide)
  rw [hc] at this
  exact this

/-- The plain side. -/
theorem refWord {w : World} {q n : Nat} {u : Nat → Nat} (hr : PlainAt w q n u) (hu : Mb.IsB u) (K : Int) (P N V : Nat) (U : Int) (A : Option Addr) (L cap : Nat) (hK : K = 1 ∨ K = 2) (hN : N = 4 ∨ N = 8) (hV : V < 18446744073709551616) (hal : P % N = 0) (hn : n ≤ 1000000) (h : P + N ≤ n) :
    Calls Tryz.prog 16 #[.slice (some ⟨q, 0, none⟩) n n, .agg #[.int .i64 K, .int .i64 P, .int .i64 N, .int .u64 V, .int .u64 U, .slice A L cap]] w
      fun e w' => e = .returned (.tuple #[.agg #[.int .u64 (shV u K P N), .bool false, .slice none 0 0], .int .i64 0]) ∧ PlainAt w' q n (shM u K P N V) ∧ Touch (Lone q) w w' := by
  rcases hK with rfl | rfl
  · refine (refDo_load hr hu P N V U A L cap hN hal hn h).mono ?_
    rintro e w' ⟨rfl, hb⟩
    exact ⟨rfl, hr.of_block (hb.block q hr.lt), Touch.of_below hb⟩
  · exact refDo_store hr hu P N V U A L cap hV hN hal hn h
end Go.Proofs.YtikcnioooihncaaGreat
namespace Go.Proofs.YtikcnioooihncaaGreat
open Go.ChangeShapes Go.WideShapes Go.ChangeAt Go.RowKit Go.Deep

/-- An answer: its number, whether it stored, where its bytes stand, and which they are. -/
structure Ans where
  V : Nat
  D : Bool
  A : Option Addr
  L : Nat
  cap : Nat
  f : Nat → Nat

namespace Ans
/-- Its slice. -/
def sl (x : Ans) : Value := .slice x.A x.L x.cap
/-- Its bytes. -/
def bs (x : Ans) : List Int := Mb.bl x.f 0 x.L
/-- It reads so in w. -/
structure Is (x : Ans) (w : World) : Prop where
  num : x.V < 18446744073709551616
  isB : Mb.IsB x.f
  bytes : BytesAt w (.slice x.A x.L x.cap) (Mb.bl x.f 0 x.L)
  room : x.L ≤ x.cap
  few : x.cap ≤ 9223372036854775807
end Ans

theorem answerOne : Tryz.prog.cellsOf 25 = 3 := by kernel_rfl

set_option maxRecDepth 100000 in
theorem answer_cells {H : Type} {enc : TypeId × Value → H} {W : World} {fuel : Nat} {cs : List Value} {x : DataW H × List MemPlace} (hsz : cs.length = 3)
    (h : DataW.trod enc Tryz.prog W 0 (fun _ => true) true fuel 25 cs = some x) :
    ∃ y : Ans, cs = [.int .u64 y.V, .bool y.D, y.sl] ∧ y.Is W := by
  match cs, hsz with
  | [v0, v1, v2], _ =>
    obtain ⟨xs, n, _, _, _, hlen, hg⟩ := DataW.trod_struct Tryz.underlying25 h
    have g0 := hg 0 _ rfl
    have g1 := hg 1 _ rfl
    have g2 := hg 2 _ rfl
    have cU : Tryz.prog.cellsOf 22 = 1 := by kernel_rfl
    have cD : Tryz.prog.cellsOf 4 = 1 := by kernel_rfl
    have cB : Tryz.prog.cellsOf 23 = 1 := by kernel_rfl
    match xs, hlen with
    | [y0, y1, y2], _ =>
      simp [cU, cD, cB] at g0 g1 g2
      obtain ⟨V, e0, _, w0⟩ := DataW.trod_int Tryz.underlying22 g0
      obtain ⟨D, e1, _⟩ := DataW.trod_bool Tryz.underlying4 g1
      obtain ⟨A, L, cap, f, e2, h1, h2, h3, h4⟩ := bytes_cell g2
      simp only [List.cons.injEq, and_true] at e0 e1 e2
      subst e0 e1 e2
      have b0 := u64_wide w0
      obtain ⟨V, rfl⟩ := Int.eq_ofNat_of_zero_le b0.1
      exact ⟨⟨V, D, A, L, cap, f⟩, rfl, by show V < 18446744073709551616; omega, h1, h2, h3, h4⟩

set_option maxRecDepth 100000 in
theorem open_answer {H : Type} {enc : TypeId × Value → H} {W : World} {base : Nat} {v : Value} {d : DataW H} {ps : List MemPlace}
    (hv : Value.okWide Tryz.prog W .any base 25 v) (h : DataW.Trod enc Tryz.prog W 0 (fun _ => true) true 25 v d ps) :
    ∃ y : Ans, v = .agg #[.int .u64 y.V, .bool y.D, .slice y.A y.L y.cap] ∧ y.Is W := by
  obtain ⟨cs, rfl, hsz⟩ := okWide_struct Tryz.underlying25 hv
  obtain ⟨l⟩ := cs
  rw [answerOne] at hsz
  obtain ⟨fuel, hf⟩ := h
  obtain ⟨y, hy, hi⟩ := answer_cells (by simpa [Value.cells] using hsz) hf
  refine ⟨y, ?_, hi⟩
  simp [Value.cells] at hy
  rw [hy]
  rfl

/-- A slice of n answers that reads as T. -/
def ToldAt (W : World) (A : Option Addr) (n : Nat) (T : Nat → Ans) : Prop :=
  0 < n → ∃ b off, A = some ⟨b, off, none⟩ ∧ b < W.heap.size ∧ ∀ i, i < n → W.cell? ⟨b, off + i * 3, none⟩ = some (.int .u64 (T i).V) ∧ W.cell? ⟨b, off + i * 3 + 1, none⟩ = some (.bool (T i).D) ∧ W.cell? ⟨b, off + i * 3 + 2, none⟩ = some (.slice (T i).A (T i).L (T i).cap) ∧ (T i).Is W

set_option maxRecDepth 100000 in
theorem open_answers {H : Type} {enc : TypeId × Value → H} {W : World} {base : Nat} {v : Value} {d : DataW H} {ps : List MemPlace}
    (hv : Value.okWide Tryz.prog W .any base 42 v) (h : DataW.Trod enc Tryz.prog W 0 (fun _ => true) true 42 v d ps) :
    ∃ (A : Option Addr) (L cap : Nat) (T : Nat → Ans), v = .slice A L cap ∧ ToldAt W A L T ∧ L ≤ cap ∧ cap ≤ 9223372036854775807 := by
  obtain ⟨a0, len0, cap0, rfl⟩ := okWide_slice Tryz.underlying42 hv
  obtain ⟨fuel, hf⟩ := h
  rcases open_slice Tryz.underlying42 hf with ⟨hcs, _⟩ | ⟨a, len, cap, m, n, D, Pl, hcs, hb, hl, hm, hmm, _, hi⟩
  · simp [Value.cells] at hcs
    obtain ⟨rfl, rfl, rfl⟩ := hcs
    exact ⟨none, 0, 0, fun _ => ⟨0, false, none, 0, 0, fun _ => 0⟩, rfl, fun h => absurd h (Nat.lt_irrefl 0), Nat.le_refl _, by decide⟩
  · simp [Value.cells] at hcs
    obtain ⟨rfl, rfl, rfl⟩ := hcs
    simp only [if_true] at hmm
    rw [answerOne] at hi
    have hx : ∀ i, i < m → ∃ y : Ans, (∀ j : Nat, j < 3 → W.cell? ((a.add (i * 3)).add j) = ([.int .u64 y.V, .bool y.D, y.sl] : List Value)[j]?) ∧ y.Is W := by
      intro i him
      obtain ⟨cs', hc, ht'⟩ := hi i him
      obtain ⟨_, hcl, hat⟩ := World.cells?_some hc
      obtain ⟨y, hy, his⟩ := answer_cells hcl ht'
      subst hy
      exact ⟨y, hat, his⟩
    have hT : ∃ T : Nat → Ans, ∀ i, i < m → (∀ j : Nat, j < 3 → W.cell? ((a.add (i * 3)).add j) = ([.int .u64 (T i).V, .bool (T i).D, (T i).sl] : List Value)[j]?) ∧ (T i).Is W := by
      refine ⟨fun i => if h : i < m then Classical.choose (hx i h) else ⟨0, false, none, 0, 0, fun _ => 0⟩, fun i him => ?_⟩
      simp only [dif_pos him]
      exact Classical.choose_spec (hx i him)
    obtain ⟨T, hT⟩ := hT
    refine ⟨some a, _, _, T, rfl, fun hp => ?_, hl, by unfold maxLen at hm; omega⟩
    obtain ⟨b, off, spot⟩ := a
    have h00 := (hT 0 (by omega)).1 0 (by decide)
    have hspot : spot = none := by simpa [Addr.add] using World.cell?_spot h00
    subst hspot
    refine ⟨b, off, rfl, ?_, fun i him => ?_⟩
    · rcases Nat.lt_or_ge b W.heap.size with hlt | hge
      · exact hlt
      · simp [World.cell?, Addr.add, Array.getElem?_eq_none hge] at h00
    · obtain ⟨hc, his⟩ := hT i (by omega)
      have e : ∀ j, ((⟨b, off, none⟩ : Addr).add (i * 3)).add j = ⟨b, off + i * 3 + j, none⟩ := fun j => by
        unfold Addr.add
        split <;> split <;> simp_all
      have c0 := hc 0 (by decide)
      have c1 := hc 1 (by decide)
      have c2 := hc 2 (by decide)
      rw [e] at c0 c1 c2
      exact ⟨c0, c1, c2, his⟩

theorem Ans.Is.below {x : Ans} {w w' : World} (h : x.Is w) (hb : Below w.heap.size w w') : x.Is w' := ⟨h.num, h.isB, h.bytes.below hb, h.room, h.few⟩

theorem ToldAt.below {W W' : World} {A : Option Addr} {n : Nat} {T : Nat → Ans} (h : ToldAt W A n T) (hb : Below W.heap.size W W') : ToldAt W' A n T := by
  intro hp
  obtain ⟨b, off, e, hlt, hc⟩ := h hp
  refine ⟨b, off, e, Nat.lt_of_lt_of_le hlt hb.size, fun i hi => ?_⟩
  obtain ⟨c0, c1, c2, his⟩ := hc i hi
  have k := fun j => hb.cell (p := ⟨b, j, none⟩) hlt
  exact ⟨(k _).trans c0, (k _).trans c1, (k _).trans c2, his.below hb⟩
end Go.Proofs.YtikcnioooihncaaGreat
namespace Go.Proofs.YtikcnioooihncaaGreat
open Go.ChangeShapes Go.WideShapes Go.ChangeAt Go.RowKit Go.Deep

/-- A write of somebody else's. -/
structure Ow where
  P : Nat
  V : Nat

/-- A row of n writes. -/
def OwsAt (W : World) (A : Option Addr) (n : Nat) (T : Nat → Ow) : Prop :=
  0 < n → ∃ b off, A = some ⟨b, off, none⟩ ∧ b < W.heap.size ∧ ∀ i, i < n → W.cell? ⟨b, off + i * 2, none⟩ = some (.int .u16 (T i).P) ∧ W.cell? ⟨b, off + i * 2 + 1, none⟩ = some (.int .u64 (T i).V) ∧ (T i).P < 65536 ∧ (T i).V < 18446744073709551616

theorem OwsAt.below {W W' : World} {A : Option Addr} {n : Nat} {T : Nat → Ow} (h : OwsAt W A n T) (hb : Below W.heap.size W W') : OwsAt W' A n T := fun hp => by
  obtain ⟨b, off, e, hl, hc⟩ := h hp
  refine ⟨b, off, e, Nat.lt_of_lt_of_le hl hb.size, fun i hi => ?_⟩
  obtain ⟨c0, c1, c2⟩ := hc i hi
  exact ⟨(hb.cell (p := ⟨b, _, none⟩) hl).trans c0, (hb.cell (p := ⟨b, _, none⟩) hl).trans c1, c2⟩

theorem owOne : Tryz.prog.cellsOf 53 = 2 := by kernel_rfl

theorem u16_wide {n : Int} (h : (Lit.int .u16 n).wf = true) : 0 ≤ n ∧ n ≤ 65535 := by
  simp only [Lit.wf, Bool.and_eq_true, decide_eq_true_eq] at h
  have e1 : IntKind.u16.min = 0 := by decide
  have e2 : IntKind.u16.max = 65535 := by decide
  rw [e1, e2] at h
  exact h

set_option maxRecDepth 100000 in
theorem ow_cells {H : Type} {enc : TypeId × Value → H} {W : World} {fuel : Nat} {cs : List Value} {x : DataW H × List MemPlace} (hsz : cs.length = 2)
    (h : DataW.trod enc Tryz.prog W 0 (fun _ => true) true fuel 53 cs = some x) :
    ∃ y : Ow, cs = [.int .u16 y.P, .int .u64 y.V] ∧ y.P < 65536 ∧ y.V < 18446744073709551616 := by
  match cs, hsz with
  | [v0, v1], _ =>
    obtain ⟨xs, n, _, _, _, hlen, hg⟩ := DataW.trod_struct Tryz.underlying53 h
    have g0 := hg 0 _ rfl
    have g1 := hg 1 _ rfl
    have c16 : Tryz.prog.cellsOf 51 = 1 := by kernel_rfl
    have c64 : Tryz.prog.cellsOf 22 = 1 := by kernel_rfl
    match xs, hlen with
    | [y0, y1], _ =>
      simp [c16, c64] at g0 g1
      obtain ⟨P, e0, _, w0⟩ := DataW.trod_int Tryz.underlying51 g0
      obtain ⟨V, e1, _, w1⟩ := DataW.trod_int Tryz.underlying22 g1
      simp only [List.cons.injEq, and_true] at e0 e1
      subst e0 e1
      have b0 := u16_wide w0
      have b1 := u64_wide w1
      obtain ⟨P, rfl⟩ := Int.eq_ofNat_of_zero_le b0.1
      obtain ⟨V, rfl⟩ := Int.eq_ofNat_of_zero_le b1.1
      exact ⟨⟨P, V⟩, rfl, by show P < 65536; omega, by show V < 18446744073709551616; omega⟩

set_option maxRecDepth 100000 in
theorem open_writes {H : Type} {enc : TypeId × Value → H} {W : World} {base : Nat} {v : Value} {d : DataW H} {ps : List MemPlace}
    (hv : Value.okWide Tryz.prog W .any base 45 v) (h : DataW.Trod enc Tryz.prog W 0 (fun _ => true) true 45 v d ps) :
    ∃ (A : Option Addr) (L cap : Nat) (T : Nat → Ow), v = .slice A L cap ∧ OwsAt W A L T ∧ L ≤ cap ∧ cap ≤ 9223372036854775807 := by
  obtain ⟨a0, len0, cap0, rfl⟩ := okWide_slice Tryz.underlying45 hv
  obtain ⟨fuel, hf⟩ := h
  rcases open_slice Tryz.underlying45 hf with ⟨hcs, _⟩ | ⟨a, len, cap, m, n, D, Pl, hcs, hb, hl, hm, hmm, _, hi⟩
  · simp [Value.cells] at hcs
    obtain ⟨rfl, rfl, rfl⟩ := hcs
    exact ⟨none, 0, 0, fun _ => ⟨0, 0⟩, rfl, fun h => absurd h (Nat.lt_irrefl 0), Nat.le_refl _, by decide⟩
  · simp [Value.cells] at hcs
    obtain ⟨rfl, rfl, rfl⟩ := hcs
    simp only [if_true] at hmm
    rw [owOne] at hi
    have hx : ∀ i, i < m → ∃ y : Ow, (∀ j : Nat, j < 2 → W.cell? ((a.add (i * 2)).add j) = ([.int .u16 y.P, .int .u64 y.V] : List Value)[j]?) ∧ y.P < 65536 ∧ y.V < 18446744073709551616 := by
      intro i him
      obtain ⟨cs', hc, ht'⟩ := hi i him
      obtain ⟨_, hcl, hat⟩ := World.cells?_some hc
      obtain ⟨y, hy, h1, h2⟩ := ow_cells hcl ht'
      subst hy
      exact ⟨y, hat, h1, h2⟩
    have hT : ∃ T : Nat → Ow, ∀ i, i < m → (∀ j : Nat, j < 2 → W.cell? ((a.add (i * 2)).add j) = ([.int .u16 (T i).P, .int .u64 (T i).V] : List Value)[j]?) ∧ (T i).P < 65536 ∧ (T i).V < 18446744073709551616 := by
      refine ⟨fun i => if h : i < m then Classical.choose (hx i h) else ⟨0, 0⟩, fun i him => ?_⟩
      simp only [dif_pos him]
      exact Classical.choose_spec (hx i him)
    obtain ⟨T, hT⟩ := hT
    refine ⟨some a, _, _, T, rfl, fun hp => ?_, hl, by unfold maxLen at hm; omega⟩
    obtain ⟨b, off, spot⟩ := a
    have h00 := (hT 0 (by omega)).1 0 (by decide)
    have hspot : spot = none := by simpa [Addr.add] using World.cell?_spot h00
    subst hspot
    refine ⟨b, off, rfl, ?_, fun i hi2 => ?_⟩
    · rcases Nat.lt_or_ge b W.heap.size with hlt | hge
      · exact hlt
      · simp [World.cell?, Addr.add, Array.getElem?_eq_none hge] at h00
    · obtain ⟨hc, h1, h2⟩ := hT i (by omega)
      have e : ∀ j, ((⟨b, off, none⟩ : Addr).add (i * 2)).add j = ⟨b, off + i * 2 + j, none⟩ := fun j => by
        unfold Addr.add
        split <;> split <;> simp_all
      have c0 := hc 0 (by decide)
      have c1 := hc 1 (by decide)
      rw [e] at c0 c1
      exact ⟨c0, c1, h1, h2⟩
end Go.Proofs.YtikcnioooihncaaGreat
