/-
  Layer 6's scheduler in memory: who owns which block; what turns, and what stays.
  Layer 6's small calls, walked: whether there is an actor, whether a pick may be, the clock, who is dead, who is at its end, silence.
  Layer 6's check of a pick, walked.
  Layer 6's ticks, walked: a machine is told the clock if it is one that is told; all that live are.
  Layer 6's step, walked: the access of an actor is done to the buffer; what it tells is traced, and taken.
  Layer 6's trace: an event appended to it.
  Layer 6's closure that hands a machine its answer, walked.
  Layer 6's step that may be, walked.
  Layer 6's Pick, walked.
  Layer 6's Pick once more: a kill.
  Layer 6's Pick once more: a tick.
  Layer 6's Pick once more: a step of one that is at its end.
  Layer 6's Pick once more: a step with an access.
  Layer 6's Pick once more: a step whose access is refused.
  Layer 6's Pick, whatever is picked.
-/
import Derived.Test.YtbfgbnalnjdheaaGreatP05
import Derived.Deep.QuietTactic
import Derived.BigQuiet
import Derived.Deep.RegionHeld3
import Derived.LoopTactic
import Derived.Stop.Asserts
import Derived.BigRegion
import Derived.Deep.DeepCutAuto
import Derived.Maps.AppendAt
namespace Go.Proofs.YtbfgbnalnjdheaaGreat
open Go.RowKit

/-- Whose a block is: nobody's, the scheduler's own, its actors', its buffer's, a machine's, its trace's row's, its trace's bytes'. -/
inductive Pt where
  | no
  | wd
  | ac
  | bf
  | ma (i : Nat)
  | ro
  | tx

/-- An event, and where its bytes stand. -/
structure Tx where
  e : Ev
  s1 : Value
  s2 : Value

/-- Its cells. -/
def Tx.cells (t : Tx) : List Value := [.int .i64 t.e.pk.K, .int .i64 t.e.pk.A, .int .i64 t.e.pk.N, .int .i64 t.e.ac.K, .int .i64 t.e.ac.P, .int .i64 t.e.ac.N, .int .u64 t.e.ac.V, .int .u64 t.e.ac.U, t.s1, .int .u64 t.e.an.V, .bool t.e.an.D, t.s2]

/-- An event's bytes are few. -/
def Ev.Small (e : Ev) : Prop := e.ac.bs.length ≤ 1073741824 ∧ e.an.bs.length ≤ 1073741824

/-- A scheduler's state. -/
structure St where
  na : Nat
  ms : Nat → Mc
  dead : Nat → Bool
  m : Nat → Nat
  nw : Nat
  c : Int
  clock : Int
  tr : List Ev

/-- The cells of an actor's row. -/
def acCell (ax : Nat → Value) (dead : Nat → Bool) (j : Nat) : Value := if j % 2 = 0 then ax (j / 2) else .bool (dead (j / 2))

theorem acCell_even (ax : Nat → Value) (dead : Nat → Bool) (i : Nat) : acCell ax dead (i * 2) = ax i := by
  unfold acCell
  rw [if_pos (by omega)]
  congr 1
  omega
theorem acCell_odd (ax : Nat → Value) (dead : Nat → Bool) (i : Nat) : acCell ax dead (i * 2 + 1) = .bool (dead i) := by
  unfold acCell
  rw [if_neg (by omega)]
  congr 2
  omega

/-- A trace stands in memory. -/
structure TrAt (w : World) (o : Nat → Pt) (tv : Value) (ts : List Tx) : Prop where
  row : w.ownsRow 0 114 12 tv ts.length (ts.flatMap Tx.cells)
  txt : ∀ t ∈ ts, BytesIn (fun k => o k = .tx) w t.s1 t.e.ac.bs ∧ BytesIn (fun k => o k = .tx) w t.s2 t.e.an.bs
  own : ∀ k, tv.ownBlock = some k → o k = .ro

theorem ownsRow_keep {w w' : World} {base : Nat} {T : TypeId} {n k : Nat} {v : Value} {xs : List Value} (h : w.ownsRow base T n v k xs) (hb : ∀ q, v.ownBlock = some q → w'.heap[q]? = w.heap[q]?) : w'.ownsRow base T n v k xs := by
  obtain ⟨h1, h2⟩ := h
  refine ⟨h1, ?_⟩
  rcases h2 with h2 | ⟨g, cap, cur, hv, h3, h4, h5⟩
  · exact .inl h2
  · exact .inr ⟨g, cap, cur, hv, h3, (hb g (by rw [hv]; rfl)).trans h4, h5⟩

namespace TrAt
variable {w w' : World} {o o' : Nat → Pt} {tv : Value} {ts : List Tx}
theorem keep (h : TrAt w o tv ts) (hs : w.heap.size ≤ w'.heap.size) (hb : ∀ k, o k ≠ .no → w'.heap[k]? = w.heap[k]?) : TrAt w' o tv ts :=
  ⟨ownsRow_keep h.row fun q hq => hb q (by rw [h.own q hq]; simp), fun t ht => ⟨(h.txt t ht).1.keep hs fun k hk _ => hb k (by rw [hk]; simp), (h.txt t ht).2.keep hs fun k hk _ => hb k (by rw [hk]; simp)⟩, h.own⟩
theorem own_to (h : TrAt w o tv ts) (ho : ∀ k, k < w.heap.size → o' k = o k) : TrAt w o' tv ts :=
  ⟨h.row, fun t ht => ⟨(h.txt t ht).1.mono fun k hk hl => (ho k hl).trans hk, (h.txt t ht).2.mono fun k hk hl => (ho k hl).trans hk⟩, fun k hk => (ho k (World.ownsRow.lt h.row k hk).2).trans (h.own k hk)⟩
end TrAt

/-- A scheduler stands in memory: its own block gw, its actors' block ga, its buffer's blocks gb and hb; who owns what. -/
structure Sw (w : World) (o : Nat → Pt) (gw ga gb hb : Nat) (ax : Nat → Value) (tv : Value) (ts : List Tx) (st : St) : Prop where
  head : w.heap[gw]? = some (.cells #[.pointer (some ⟨gb, 0, none⟩), .slice (some ⟨ga, 0, none⟩) st.na st.na, .int .i64 st.clock, tv] 83 (0, 0))
  row : w.rowIs ga 87 (2 * st.na) (acCell ax st.dead)
  buf : Buf w gb hb st.m st.nw st.c
  mach : ∀ i, i < st.na → MRep w (fun k => o k = .ma i) (ax i) (st.ms i)
  tr : TrAt w o tv ts
  told : st.tr = ts.map Tx.e
  ogw : o gw = .wd
  oga : o ga = .ac
  ogb : o gb = .bf
  ohb : o hb = .bf
  lt : ∀ k, o k ≠ .no → k < w.heap.size
  few : st.na ≤ 1000
  small : ∀ e ∈ st.tr, e.Small

/-- The blocks of a scheduler. -/
def Own (o : Nat → Pt) (k : Nat) : Prop := o k ≠ .no

/-- New blocks of F become p's. -/
noncomputable def claimed (o : Nat → Pt) (n : Nat) (F : Nat → Prop) (p : Pt) : Nat → Pt := fun k => @ite _ (n ≤ k ∧ F k) (Classical.propDecidable _) p (o k)
theorem claimed_new {o : Nat → Pt} {n : Nat} {F : Nat → Prop} {p : Pt} {k : Nat} (h : n ≤ k) (hF : F k) : claimed o n F p k = p := @if_pos _ (Classical.propDecidable _) ⟨h, hF⟩ _ _ _
theorem claimed_not {o : Nat → Pt} {n : Nat} {F : Nat → Prop} {p : Pt} {k : Nat} (h : ¬ (n ≤ k ∧ F k)) : claimed o n F p k = o k := @if_neg _ (Classical.propDecidable _) h _ _ _
theorem claimed_old {o : Nat → Pt} {n : Nat} {F : Nat → Prop} {p : Pt} {k : Nat} (h : k < n) : claimed o n F p k = o k := claimed_not fun e => by omega

namespace Sw
variable {w w' : World} {o o' : Nat → Pt} {gw ga gb hb : Nat} {ax : Nat → Value} {tv : Value} {ts : List Tx} {st : St}
theorem keep (h : Sw w o gw ga gb hb ax tv ts st) (hs : w.heap.size ≤ w'.heap.size) (hk : ∀ k, o k ≠ .no → w'.heap[k]? = w.heap[k]?) : Sw w' o gw ga gb hb ax tv ts st :=
  ⟨(hk gw (by rw [h.ogw]; simp)).trans h.head, h.row.of_block (hk ga (by rw [h.oga]; simp)), h.buf.of_blocks (hk gb (by rw [h.ogb]; simp)) (hk hb (by rw [h.ohb]; simp)),
    fun i hi => (h.mach i hi).keep hs fun k hm => hk k (by rw [hm]; simp), h.tr.keep hs hk, h.told, h.ogw, h.oga, h.ogb, h.ohb, fun k hn => Nat.lt_of_lt_of_le (h.lt k hn) hs, h.few, h.small⟩
theorem below (h : Sw w o gw ga gb hb ax tv ts st) (hb' : Below w.heap.size w w') : Sw w' o gw ga gb hb ax tv ts st := h.keep hb'.size fun k hk => hb'.block k (h.lt k hk)
theorem touch {S : Nat → Prop} (h : Sw w o gw ga gb hb ax tv ts st) (ht : Touch S w w') (hn : ∀ k, o k ≠ .no → ¬ S k) : Sw w' o gw ga gb hb ax tv ts st := h.keep ht.size fun k hk => ht.block k (h.lt k hk) (hn k hk)
theorem alloc (h : Sw w o gw ga gb hb ax tv ts st) (q : Obj) : Sw (w.alloc q) o gw ga gb hb ax tv ts st := h.below ((Below.refl _ _).alloc (Nat.le_refl _) q)
theorem drew (h : Sw w o gw ga gb hb ax tv ts st) : Sw w.drew o gw ga gb hb ax tv ts st := h.below ((Below.refl _ _).drew)

theorem gw_lt (h : Sw w o gw ga gb hb ax tv ts st) : gw < w.heap.size := h.lt gw (by rw [h.ogw]; simp)
theorem ga_lt (h : Sw w o gw ga gb hb ax tv ts st) : ga < w.heap.size := h.lt ga (by rw [h.oga]; simp)
theorem ne_wa (h : Sw w o gw ga gb hb ax tv ts st) : gw ≠ ga := fun e => by have h1 := h.ogw; rw [e, h.oga] at h1; cases h1
theorem w0 (h : Sw w o gw ga gb hb ax tv ts st) : w.cell? ⟨gw, 0, none⟩ = some (.pointer (some ⟨gb, 0, none⟩)) := by simp [World.cell?, h.head]
theorem w1 (h : Sw w o gw ga gb hb ax tv ts st) : w.cell? ⟨gw, 1, none⟩ = some (.slice (some ⟨ga, 0, none⟩) st.na st.na) := by simp [World.cell?, h.head]
theorem w2 (h : Sw w o gw ga gb hb ax tv ts st) : w.cell? ⟨gw, 2, none⟩ = some (.int .i64 st.clock) := by simp [World.cell?, h.head]
theorem w3 (h : Sw w o gw ga gb hb ax tv ts st) : w.cell? ⟨gw, 3, none⟩ = some tv := by simp [World.cell?, h.head]
theorem wfree (h : Sw w o gw ga gb hb ax tv ts st) (i : Nat) : w.frozen? ⟨gw, i, none⟩ = false := by simp [World.frozen?, h.head]
theorem amach (h : Sw w o gw ga gb hb ax tv ts st) {i : Nat} (hi : i < st.na) : w.cell? ⟨ga, i * 2, none⟩ = some (ax i) := by
  rw [h.row.cell (by omega), acCell_even]
theorem adead (h : Sw w o gw ga gb hb ax tv ts st) {i : Nat} (hi : i < st.na) : w.cell? ⟨ga, i * 2 + 1, none⟩ = some (.bool (st.dead i)) := by
  rw [h.row.cell (by omega), acCell_odd]
theorem afree (h : Sw w o gw ga gb hb ax tv ts st) (i : Nat) : w.frozen? ⟨ga, i, none⟩ = false := h.row.frozen i

/-- Blocks that were not there may be anybody's. -/
theorem own_to (h : Sw w o gw ga gb hb ax tv ts st) (ho : ∀ k, k < w.heap.size → o' k = o k) (hl : ∀ k, o' k ≠ .no → k < w.heap.size) : Sw w o' gw ga gb hb ax tv ts st :=
  ⟨h.head, h.row, h.buf, fun i hi => (h.mach i hi).mono fun k hk => (ho k (h.lt k (by rw [hk]; simp))).trans hk, h.tr.own_to ho, h.told, (ho gw h.gw_lt).trans h.ogw, (ho ga h.ga_lt).trans h.oga, (ho gb h.buf.g_lt).trans h.ogb, (ho hb h.buf.h_lt).trans h.ohb, hl, h.few, h.small⟩

/-- An actor is killed. -/
theorem setDead (h : Sw w o gw ga gb hb ax tv ts st) {i : Nat} : Sw (w.setCell ⟨ga, i * 2 + 1, none⟩ (.bool true)) o gw ga gb hb ax tv ts { st with dead := upd st.dead i true } := by
  have hne : ∀ k, k ≠ ga → (w.setCell ⟨ga, i * 2 + 1, none⟩ (.bool true)).heap[k]? = w.heap[k]? := fun k hk => Below.heap_setCell _ _ _ _ hk
  have hpt : ∀ k, o k ≠ .ac → k ≠ ga := fun k hk e => hk (e ▸ h.oga)
  have hs : w.heap.size ≤ (w.setCell ⟨ga, i * 2 + 1, none⟩ (.bool true)).heap.size := by simp [World.setCell]
  refine ⟨(hne gw h.ne_wa).trans h.head, ?_, h.buf.of_blocks (hne gb (hpt gb (by rw [h.ogb]; simp))) (hne hb (hpt hb (by rw [h.ohb]; simp))), fun j hj => (h.mach j hj).keep hs fun k hk => hne k (hpt k (by rw [hk]; simp)),
    ⟨ownsRow_keep h.tr.row fun q hq => hne q (hpt q (by rw [h.tr.own q hq]; simp)), fun t ht => ⟨(h.tr.txt t ht).1.keep hs fun k hk _ => hne k (hpt k (by rw [hk]; simp)), (h.tr.txt t ht).2.keep hs fun k hk _ => hne k (hpt k (by rw [hk]; simp))⟩, h.tr.own⟩,
    h.told, h.ogw, h.oga, h.ogb, h.ohb, fun k hk => Nat.lt_of_lt_of_le (h.lt k hk) hs, h.few, h.small⟩
  refine (h.row.set (i * 2 + 1) (.bool true)).congr fun j hj => ?_
  show _ = acCell ax (upd st.dead i true) j
  unfold acCell
  by_cases e : j = i * 2 + 1
  · subst e
    rw [if_pos rfl, if_neg (by omega), show (i * 2 + 1) / 2 = i by omega, upd_same]
  · rw [if_neg e]
    by_cases e2 : j % 2 = 0
    · rw [if_pos e2, if_pos e2]
    · rw [if_neg e2, if_neg e2, upd_other _ _ _ (by omega)]

/-- The clock is another. -/
theorem setClock (h : Sw w o gw ga gb hb ax tv ts st) (x : Int) : Sw (w.setCell ⟨gw, 2, none⟩ (.int .i64 x)) o gw ga gb hb ax tv ts { st with clock := x } := by
  have hne : ∀ k, k ≠ gw → (w.setCell ⟨gw, 2, none⟩ (.int .i64 x)).heap[k]? = w.heap[k]? := fun k hk => Below.heap_setCell _ _ _ _ hk
  have hpt : ∀ k, o k ≠ .wd → k ≠ gw := fun k hk e => hk (e ▸ h.ogw)
  have hs : w.heap.size ≤ (w.setCell ⟨gw, 2, none⟩ (.int .i64 x)).heap.size := by simp [World.setCell]
  refine ⟨blkS h.head _, h.row.of_block (hne ga h.ne_wa.symm), h.buf.of_blocks (hne gb (hpt gb (by rw [h.ogb]; simp))) (hne hb (hpt hb (by rw [h.ohb]; simp))), fun j hj => (h.mach j hj).keep hs fun k hk => hne k (hpt k (by rw [hk]; simp)),
    ⟨ownsRow_keep h.tr.row fun q hq => hne q (hpt q (by rw [h.tr.own q hq]; simp)), fun t ht => ⟨(h.tr.txt t ht).1.keep hs fun k hk _ => hne k (hpt k (by rw [hk]; simp)), (h.tr.txt t ht).2.keep hs fun k hk _ => hne k (hpt k (by rw [hk]; simp))⟩, h.tr.own⟩,
    h.told, h.ogw, h.oga, h.ogb, h.ohb, fun k hk => Nat.lt_of_lt_of_le (h.lt k hk) hs, h.few, h.small⟩

/-- The buffer did an access. -/
theorem setBuf (h : Sw w o gw ga gb hb ax tv ts st) {m : Nat → Nat} {c : Int} (hst : Stored gb hb m st.nw c w w') : Sw w' o gw ga gb hb ax tv ts { st with m := m, c := c } := by
  have hpt : ∀ k, o k ≠ .bf → ¬ Two gb hb k := fun k hk e => by
    rcases e with e | e
    · exact hk (e ▸ h.ogb)
    · exact hk (e ▸ h.ohb)
  have hne : ∀ k, o k ≠ .bf → k < w.heap.size → w'.heap[k]? = w.heap[k]? := fun k hk hl => hst.2.block k hl (hpt k hk)
  have hn2 : ∀ k, o k ≠ .no → o k ≠ .bf → w'.heap[k]? = w.heap[k]? := fun k h1 h2 => hne k h2 (h.lt k h1)
  refine ⟨(hn2 gw (by rw [h.ogw]; simp) (by rw [h.ogw]; simp)).trans h.head, h.row.of_block (hn2 ga (by rw [h.oga]; simp) (by rw [h.oga]; simp)), hst.1, fun j hj => (h.mach j hj).keep hst.2.size fun k hk => hn2 k (by rw [hk]; simp) (by rw [hk]; simp),
    ⟨ownsRow_keep h.tr.row fun q hq => hn2 q (by rw [h.tr.own q hq]; simp) (by rw [h.tr.own q hq]; simp), fun t ht => ⟨(h.tr.txt t ht).1.keep hst.2.size fun k hk _ => hn2 k (by rw [hk]; simp) (by rw [hk]; simp), (h.tr.txt t ht).2.keep hst.2.size fun k hk _ => hn2 k (by rw [hk]; simp) (by rw [hk]; simp)⟩, h.tr.own⟩,
    h.told, h.ogw, h.oga, h.ogb, h.ohb, fun k hk => Nat.lt_of_lt_of_le (h.lt k hk) hst.2.size, h.few, h.small⟩

/-- A machine moved. -/
theorem setMach (h : Sw w o gw ga gb hb ax tv ts st) {i : Nat} (_hi : i < st.na) {s : Mc} (hm : Moved (fun k => o k = .ma i) (ax i) s w w') :
    ∃ o', Sw w' o' gw ga gb hb ax tv ts { st with ms := upd st.ms i s } ∧ Touch (Own o) w w' ∧ (∀ k, k < w.heap.size → o' k = o k) := by
  obtain ⟨F, hr, ht, hF⟩ := hm
  have hn2 : ∀ k, o k ≠ .no → o k ≠ .ma i → w'.heap[k]? = w.heap[k]? := fun k h1 h2 => ht.block k (h.lt k h1) h2
  refine ⟨claimed o w.heap.size F (.ma i), ⟨(hn2 gw (by rw [h.ogw]; simp) (by rw [h.ogw]; simp)).trans h.head, h.row.of_block (hn2 ga (by rw [h.oga]; simp) (by rw [h.oga]; simp)), h.buf.of_blocks (hn2 gb (by rw [h.ogb]; simp) (by rw [h.ogb]; simp)) (hn2 hb (by rw [h.ohb]; simp) (by rw [h.ohb]; simp)), fun j hj => ?_,
    ?_, h.told, ?_, ?_, ?_, ?_, fun k hk => ?_, h.few, h.small⟩, ht.mono fun k hk => by unfold Own; rw [hk]; simp, fun k hk => claimed_old hk⟩
  · by_cases e : j = i
    · subst e
      show MRep w' _ (ax j) (upd st.ms j s j)
      rw [upd_same]
      refine hr.mono fun k hk => ?_
      rcases hF k hk with e | ⟨e, _⟩
      · have := h.lt k (by rw [e]; simp)
        exact (claimed_old this).trans e
      · exact claimed_new e hk
    · show MRep w' _ (ax j) (upd st.ms i s j)
      rw [upd_other _ _ _ e]
      refine ((h.mach j hj).keep ht.size fun k hk => hn2 k (by rw [hk]; simp) (by rw [hk]; intro e2; injection e2 with e2; exact e e2)).mono fun k hk => ?_
      have := h.lt k (by rw [hk]; simp)
      exact (claimed_old this).trans hk
  · have h1 : TrAt w' o tv ts := ⟨ownsRow_keep h.tr.row fun q hq => hn2 q (by rw [h.tr.own q hq]; simp) (by rw [h.tr.own q hq]; simp), fun t ht2 => ⟨(h.tr.txt t ht2).1.keep ht.size fun k hk _ => hn2 k (by rw [hk]; simp) (by rw [hk]; simp), (h.tr.txt t ht2).2.keep ht.size fun k hk _ => hn2 k (by rw [hk]; simp) (by rw [hk]; simp)⟩, h.tr.own⟩
    have hlt : ∀ k, o k ≠ .no → ¬ (w.heap.size ≤ k ∧ F k) := fun k hk e => by have := h.lt k hk; omega
    exact ⟨h1.row, fun t ht2 => ⟨(h1.txt t ht2).1.mono fun k hk _ => (claimed_not (hlt k (by rw [hk]; simp))).trans hk, (h1.txt t ht2).2.mono fun k hk _ => (claimed_not (hlt k (by rw [hk]; simp))).trans hk⟩, fun k hk => (claimed_not (hlt k (by rw [h1.own k hk]; simp))).trans (h1.own k hk)⟩
  · exact (claimed_old h.gw_lt).trans h.ogw
  · exact (claimed_old h.ga_lt).trans h.oga
  · exact (claimed_old h.buf.g_lt).trans h.ogb
  · exact (claimed_old h.buf.h_lt).trans h.ohb
  · by_cases e : w.heap.size ≤ k ∧ F k
    · rcases hF k e.2 with e3 | e3
      · exact Nat.lt_of_lt_of_le (h.lt k (by rw [e3]; simp)) ht.size
      · exact e3.2
    · rw [claimed_not e] at hk
      exact Nat.lt_of_lt_of_le (h.lt k hk) ht.size
end Sw

/-- A scheduler stands in memory. -/
def SwX (w : World) (o : Nat → Pt) (gw gb hb : Nat) (st : St) : Prop := ∃ ga ax tv ts, Sw w o gw ga gb hb ax tv ts st

/-- What a call on a scheduler left: nothing but its own blocks was turned, and no block that was there changed hands. -/
def Went (o : Nat → Pt) (gw gb hb : Nat) (st : St) (w w' : World) (o' : Nat → Pt) : Prop :=
  SwX w' o' gw gb hb st ∧ Touch (Own o) w w' ∧ (∀ k, k < w.heap.size → o' k = o k)

theorem SwX.below {w w' : World} {o : Nat → Pt} {gw gb hb : Nat} {st : St} (h : SwX w o gw gb hb st) (hbl : Below w.heap.size w w') : SwX w' o gw gb hb st := by
  obtain ⟨ga, ax, tv, ts, h⟩ := h
  exact ⟨ga, ax, tv, ts, h.below hbl⟩
theorem SwX.touch {S : Nat → Prop} {w w' : World} {o : Nat → Pt} {gw gb hb : Nat} {st : St} (h : SwX w o gw gb hb st) (ht : Touch S w w') (hn : ∀ k, o k ≠ .no → ¬ S k) : SwX w' o gw gb hb st := by
  obtain ⟨ga, ax, tv, ts, h⟩ := h
  exact ⟨ga, ax, tv, ts, h.touch ht hn⟩
theorem SwX.lt {w : World} {o : Nat → Pt} {gw gb hb : Nat} {st : St} (h : SwX w o gw gb hb st) {k : Nat} (hk : o k ≠ .no) : k < w.heap.size := by
  obtain ⟨ga, ax, tv, ts, h⟩ := h
  exact h.lt k hk
end Go.Proofs.YtbfgbnalnjdheaaGreat
namespace Go.Proofs.YtbfgbnalnjdheaaGreat
open Go.RowKit

/-- Is there such an actor? -/
def hasB (na : Nat) (i : Int) : Bool := decide (0 ≤ i) && decide (i < (na : Int))
theorem hasB_yes {na : Nat} {i : Int} (h : hasB na i = true) : 0 ≤ i ∧ i < (na : Int) := by simpa [hasB] using h
theorem hasB_no {na : Nat} {i : Int} (h : hasB na i = false) : i < 0 ∨ (na : Int) ≤ i := by
  simp [hasB] at h
  omega


/-- Is there such an actor, and is it dead? -/
def St.deadB (st : St) (i : Int) : Bool := hasB st.na i && st.dead i.toNat

/-- Is there such an actor, and is it at its end? -/
def St.endB (st : St) (i : Int) : Bool := hasB st.na i && (st.ms i.toNat).next.isNone

end Go.Proofs.YtbfgbnalnjdheaaGreat
namespace Go.Proofs.YtbfgbnalnjdheaaGreat
open Go.RowKit

/-- The error of a pick, ahead of what its access may meet. -/
def St.chk (st : St) (p : Pk) : Int :=
  if p.K = 0 ∨ p.K = 1 then (if hasB st.na p.A = true then (if st.dead p.A.toNat = true then 11 else 0) else 2)
  else if p.K = 2 ∧ 0 ≤ p.N ∧ p.N ≤ 1099511627776 then 0 else 1

theorem cell_one {W : World} {b : Nat} {T : TypeId} {u0 u1 u2 : Value} (h : W.heap[b]? = some (.cells #[u0, u1, u2] T (0, 0))) : W.cell? ⟨b, 1, none⟩ = some u1 := by simp [World.cell?, h]

/-- What a step or a kill of an actor answers: it was killed, or not. -/
def deadErr (d : Bool) : Int := bif d then 11 else 0

end Go.Proofs.YtbfgbnalnjdheaaGreat
namespace Go.Proofs.YtbfgbnalnjdheaaGreat
open Go.RowKit

/-- The first i actors were told the clock c. -/
def St.ticks (st : St) (c : Int) (i : Nat) : St := { st with clock := c, ms := fun j => if j < i ∧ st.dead j = false then (st.ms j).tick c else st.ms j }

theorem St.ticks_zero (st : St) (c : Int) : { st with clock := c } = st.ticks c 0 := by
  unfold St.ticks
  congr 1

theorem St.ticks_dead (st : St) (c : Int) (i : Nat) (hd : st.dead i = true) : st.ticks c i = st.ticks c (i + 1) := by
  unfold St.ticks
  congr 1
  funext j
  by_cases e : j = i
  · subst e
    rw [if_neg (fun h => by omega), if_neg (fun h => by rw [hd] at h; cases h.2)]
  · by_cases h : j < i ∧ st.dead j = false
    · rw [if_pos h, if_pos ⟨by omega, h.2⟩]
    · rw [if_neg h, if_neg (fun h2 => h ⟨by omega, h2.2⟩)]

theorem St.ticks_next (st : St) (c : Int) (i : Nat) (hd : st.dead i = false) : { st.ticks c i with ms := upd (st.ticks c i).ms i (((st.ticks c i).ms i).tick c) } = st.ticks c (i + 1) := by
  have e : upd (st.ticks c i).ms i (((st.ticks c i).ms i).tick c) = (st.ticks c (i + 1)).ms := by
    funext j
    show upd (fun j => if j < i ∧ st.dead j = false then (st.ms j).tick c else st.ms j) i ((if i < i ∧ st.dead i = false then (st.ms i).tick c else st.ms i).tick c) j = if j < i + 1 ∧ st.dead j = false then (st.ms j).tick c else st.ms j
    by_cases e : j = i
    · subst e
      rw [upd_same, if_neg (fun h => by omega), if_pos ⟨by omega, hd⟩]
    · rw [upd_other _ _ _ e]
      by_cases h : j < i ∧ st.dead j = false
      · rw [if_pos h, if_pos ⟨by omega, h.2⟩]
      · rw [if_neg h, if_neg (fun h2 => h ⟨by omega, h2.2⟩)]
  rw [e]
  rfl

/-- What a call did, and what one behind it did. -/
theorem own_trans {o o1 o2 : Nat → Pt} {w w1 w2 : World} (ht : Touch (Own o) w w1) (ho : ∀ k, k < w.heap.size → o1 k = o k) (ht2 : Touch (Own o1) w1 w2) (ho2 : ∀ k, k < w1.heap.size → o2 k = o1 k) :
    Touch (Own o) w w2 ∧ ∀ k, k < w.heap.size → o2 k = o k :=
  ⟨⟨ht2.os.trans ht.os, ht2.tape.trans ht.tape, ht2.output.trans ht.output, Nat.le_trans ht.size ht2.size, fun k hk hn => (ht2.block k (Nat.lt_of_lt_of_le hk ht.size) (fun h => hn (by unfold Own at h ⊢; rw [ho k hk] at h; exact h))).trans (ht.block k hk hn)⟩,
    fun k hk => (ho2 k (Nat.lt_of_lt_of_le hk ht.size)).trans (ho k hk)⟩

theorem moved_cell {F : Nat → Prop} {x : Value} {s : Mc} {w w' : World} (h : Moved F x s w w') {p : Addr} (hp : p.block < w.heap.size) (hn : ¬ F p.block) : w'.cell? p = w.cell? p := by
  obtain ⟨_, _, ht, _⟩ := h
  exact ht.cell hp hn

theorem cell_box {W : World} {b : Nat} {T : TypeId} {u0 u1 : Value} (h : W.heap[b]? = some (.cells #[u0, u1] T (0, 0))) : W.cell? ⟨b, 0, none⟩ = some u0 := by simp [World.cell?, h]

end Go.Proofs.YtbfgbnalnjdheaaGreat
namespace Go.Proofs.YtbfgbnalnjdheaaGreat
open Go.RowKit

theorem Owns.fits {base : Nat} {w : World} {A : Option Addr} {l c : Nat} {xs : List Int} (h : Owns base w (.slice A l c) xs) : xs.length = l ∧ l ≤ c ∧ c ≤ 9223372036854775807 := by
  rcases h.2 with ⟨hv, h0⟩ | ⟨g, cap, cur, hv, _, _, hnc, hm, _⟩
  · injection hv with e1 e2 e3
    subst e2 e3
    exact ⟨by omega, Nat.le_refl _, by decide⟩
  · injection hv with e1 e2 e3
    subst e2 e3
    exact ⟨rfl, hnc, by unfold maxLen at hm; omega⟩

/-- An access that may be is done. -/
theorem do_ac {w : World} {gb hb n : Nat} {m : Nat → Nat} {c : Int} (B : Buf w gb hb m n c) (a : Ac) (hf : a.Fine) {base : Nat} {A : Option Addr} {l cp : Nat} (ho : Owns base w (.slice A l cp) a.bs) (h0 : a.err n = 0) :
    Calls Tryz.prog 19 #[.pointer (some ⟨gb, 0, none⟩), .agg #[.int .i64 a.K, .int .i64 a.P, .int .i64 a.N, .int .u64 a.V, .int .u64 a.U, .slice A l cp]] w (DidIn (a.ans m).V (a.ans m).D (a.ans m).bs gb hb (a.aft m) n (nxt c) w) := by
  obtain ⟨e1, hl1, hl2⟩ := ho.fits
  obtain ⟨hfm, hP, hS, hN, _⟩ := chk_ok h0
  have hN0 := (formed_len hfm).1
  have eP : ((a.P.toNat : Nat) : Int) = a.P := Int.toNat_of_nonneg hP
  have eN : ((a.N.toNat : Nat) : Int) = a.N := Int.toNat_of_nonneg hN0
  have hB : BytesAt w (.slice A l cp) (Mb.bl (fnOf a.bs) 0 l) := by
    rw [← e1, bl_fnOf hf.bys, e1]
    exact ho.bytes
  have ok : chk (8 * (n : Int)) a.K (a.P.toNat : Nat) (a.N.toNat : Nat) l = 0 := by rw [eP, eN, ← e1]; exact h0
  have := do_in B a.K a.P.toNat a.N.toNat a.V a.U (fnOf_isB hf.bys) A l cp hl1 hl2 hB hf.v ok
  rw [eP, eN] at this
  exact this

set_option maxRecDepth 100000 in
theorem do_ac_no {w : World} {gb hb n : Nat} {m : Nat → Nat} {c : Int} (B : Buf w gb hb m n c) (a : Ac) {base : Nat} {A : Option Addr} {l cp : Nat} (ho : Owns base w (.slice A l cp) a.bs) (h0 : a.err n ≠ 0) :
    Calls Tryz.prog 19 #[.pointer (some ⟨gb, 0, none⟩), .agg #[.int .i64 a.K, .int .i64 a.P, .int .i64 a.N, .int .u64 a.V, .int .u64 a.U, .slice A l cp]] w (Made (.tuple #[.agg #[.int .u64 0, .bool false, .slice none 0 0], .int .i64 (a.err n)]) w) := by
  obtain ⟨e1, _, _⟩ := ho.fits
  have e2 : chk (8 * (n : Int)) a.K a.P a.N l = a.err n := by rw [← e1]; rfl
  have h2 := do_no B a.K a.P a.N a.V a.U A l cp (by rw [e2]; exact h0)
  rw [e2] at h2
  exact h2

theorem below_alloc_drew {w w' : World} {q : Obj} (h : Below (w.alloc q).drew.heap.size (w.alloc q).drew w') : Below w.heap.size w w' :=
  ((Below.refl w.heap.size w).alloc (Nat.le_refl _) q).drew.trans (h.mono (by simp [World.drew]))

theorem alloc_drew_block {w w' : World} {q : Obj} (h : Below (w.alloc q).drew.heap.size (w.alloc q).drew w') : w'.heap[w.heap.size]? = (w.alloc q).heap[w.heap.size]? :=
  h.block w.heap.size (by simp [World.drew])

/-- What step boxes: the scheduler, the pick, the access, a place for the event. -/
structure StepBox (b : Nat) (W : World) (gw : Nat) (p : Pk) (a : Ac) (s : Value) : Prop where
  wd : W.heap[b]? = some (.cells #[.pointer (some ⟨gw, 0, none⟩)] 33 (0, 0))
  pk : W.heap[b + 1]? = some (.cells #[.int .i64 p.K, .int .i64 p.A, .int .i64 p.N] 112 (0, 0))
  ac : W.heap[b + 1 + 1]? = some (.cells #[.int .i64 a.K, .int .i64 a.P, .int .i64 a.N, .int .u64 a.V, .int .u64 a.U, s] 58 (0, 0))
  ev : EvNew (b + 1 + 1 + 1) W

theorem StepBox.keep {b : Nat} {W W' : World} {gw : Nat} {p : Pk} {a : Ac} {s : Value} (h : StepBox b W gw p a s) (hk : ∀ k, b ≤ k → k < W.heap.size → W'.heap[k]? = W.heap[k]?) : StepBox b W' gw p a s := by
  have l1 := (Array.getElem?_eq_some_iff.1 h.wd).1
  have l2 := (Array.getElem?_eq_some_iff.1 h.pk).1
  have l3 := (Array.getElem?_eq_some_iff.1 h.ac).1
  have l4 := h.ev.lt
  exact ⟨(hk b (Nat.le_refl _) l1).trans h.wd, (hk (b + 1) (by omega) l2).trans h.pk, (hk (b + 1 + 1) (by omega) l3).trans h.ac, h.ev.of_block (hk _ (by omega) l4)⟩

theorem step_boxes (w : World) (gw : Nat) (p : Pk) (a : Ac) (s : Value) (W : World) (hW : W = (((w.alloc (.cells #[.pointer (some ⟨gw, 0, none⟩)] 33)).alloc (.cells #[.int .i64 p.K, .int .i64 p.A, .int .i64 p.N] 112)).alloc (.cells #[.int .i64 a.K, .int .i64 a.P, .int .i64 a.N, .int .u64 a.V, .int .u64 a.U, s] 58)).alloc (.cells #[.int .i64 0, .int .i64 0, .int .i64 0, .int .i64 0, .int .i64 0, .int .i64 0, .int .u64 0, .int .u64 0, .slice none 0 0, .int .u64 0, .bool false, .slice none 0 0] 114)) :
    Below w.heap.size w W ∧ StepBox w.heap.size W gw p a s ∧ W.heap.size = w.heap.size + 1 + 1 + 1 + 1 := by
  subst hW
  have HW := ((((Below.refl w.heap.size w).alloc (Nat.le_refl _) (.cells #[.pointer (some ⟨gw, 0, none⟩)] 33)).alloc (by simp) (.cells #[.int .i64 p.K, .int .i64 p.A, .int .i64 p.N] 112)).alloc (by simp; omega) (.cells #[.int .i64 a.K, .int .i64 a.P, .int .i64 a.N, .int .u64 a.V, .int .u64 a.U, s] 58)).alloc (by simp; omega) (.cells #[.int .i64 0, .int .i64 0, .int .i64 0, .int .i64 0, .int .i64 0, .int .i64 0, .int .u64 0, .int .u64 0, .slice none 0 0, .int .u64 0, .bool false, .slice none 0 0] 114)
  have e1 : (w.alloc (.cells #[.pointer (some ⟨gw, 0, none⟩)] 33)).heap.size = w.heap.size + 1 := by simp
  have x0 := Go.Deep.blk_alloc_new w (.cells #[.pointer (some ⟨gw, 0, none⟩)] 33)
  generalize w.alloc (.cells #[.pointer (some ⟨gw, 0, none⟩)] 33) = W1 at *
  have e2 : (W1.alloc (.cells #[.int .i64 p.K, .int .i64 p.A, .int .i64 p.N] 112)).heap.size = w.heap.size + 1 + 1 := by simp [e1]
  have x1 := Go.Deep.blk_alloc_new W1 (.cells #[.int .i64 p.K, .int .i64 p.A, .int .i64 p.N] 112)
  have x0' := (Below.heap_alloc W1 (.cells #[.int .i64 p.K, .int .i64 p.A, .int .i64 p.N] 112) w.heap.size (by omega)).trans x0
  rw [e1] at x1
  generalize W1.alloc (.cells #[.int .i64 p.K, .int .i64 p.A, .int .i64 p.N] 112) = W2 at *
  have e3 : (W2.alloc (.cells #[.int .i64 a.K, .int .i64 a.P, .int .i64 a.N, .int .u64 a.V, .int .u64 a.U, s] 58)).heap.size = w.heap.size + 1 + 1 + 1 := by simp [e2]
  have x2 := Go.Deep.blk_alloc_new W2 (.cells #[.int .i64 a.K, .int .i64 a.P, .int .i64 a.N, .int .u64 a.V, .int .u64 a.U, s] 58)
  have x1' := (Below.heap_alloc W2 (.cells #[.int .i64 a.K, .int .i64 a.P, .int .i64 a.N, .int .u64 a.V, .int .u64 a.U, s] 58) (w.heap.size + 1) (by omega)).trans x1
  have x0'' := (Below.heap_alloc W2 (.cells #[.int .i64 a.K, .int .i64 a.P, .int .i64 a.N, .int .u64 a.V, .int .u64 a.U, s] 58) w.heap.size (by omega)).trans x0'
  rw [e2] at x2
  generalize W2.alloc (.cells #[.int .i64 a.K, .int .i64 a.P, .int .i64 a.N, .int .u64 a.V, .int .u64 a.U, s] 58) = W3 at *
  have x3 := Go.Deep.blk_alloc_new W3 (.cells #[.int .i64 0, .int .i64 0, .int .i64 0, .int .i64 0, .int .i64 0, .int .i64 0, .int .u64 0, .int .u64 0, .slice none 0 0, .int .u64 0, .bool false, .slice none 0 0] 114)
  rw [e3] at x3
  have f := fun k hk => Below.heap_alloc W3 (.cells #[.int .i64 0, .int .i64 0, .int .i64 0, .int .i64 0, .int .i64 0, .int .i64 0, .int .u64 0, .int .u64 0, .slice none 0 0, .int .u64 0, .bool false, .slice none 0 0] 114) k hk
  exact ⟨HW, ⟨(f _ (by omega)).trans x0'', (f _ (by omega)).trans x1', (f _ (by omega)).trans x2, ⟨x3⟩⟩, by simp [e3]⟩

theorem Touch.trans' {S : Nat → Prop} {a b c : World} {q : Nat} (h : Touch S a b) (k : Touch (fun k => k = q) b c) (hq : a.heap.size ≤ q) : Touch S a c :=
  ⟨k.os.trans h.os, k.tape.trans h.tape, k.output.trans h.output, Nat.le_trans h.size k.size, fun j hj hn => (k.block j (Nat.lt_of_lt_of_le hj h.size) (fun e => by omega)).trans (h.block j hj hn)⟩

set_option maxRecDepth 100000 in
set_option maxHeartbeats 2000000 in
theorem step_no {w : World} {o : Nat → Pt} {gw ga gb hb : Nat} {ax : Nat → Value} {tv : Value} {ts : List Tx} {st : St} (h : Sw w o gw ga gb hb ax tv ts st) (p : Pk) (i : Nat) (hp : p.A = (i : Nat)) (hi : i < st.na) (a : Ac) {base : Nat} {A : Option Addr} {l cp : Nat} (ho : Owns base w (.slice A l cp) a.bs) (h0 : a.err st.nw ≠ 0) :
    Calls Tryz.prog 53 #[.pointer (some ⟨gw, 0, none⟩), .agg #[.int .i64 p.K, .int .i64 p.A, .int .i64 p.N], .agg #[.int .i64 a.K, .int .i64 a.P, .int .i64 a.N, .int .u64 a.V, .int .u64 a.U, .slice A l cp]] w
      fun e w' => e = .returned (.tuple #[.agg #[.int .i64 0, .int .i64 0, .int .i64 0, .int .i64 0, .int .i64 0, .int .i64 0, .int .u64 0, .int .u64 0, .slice none 0 0, .int .u64 0, .bool false, .slice none 0 0], .int .i64 (a.err st.nw)]) ∧ Sw w' o gw ga gb hb ax tv ts { st with dead := upd st.dead i true } ∧ Touch (Own o) w w' := by
  have HS := Lib.hid h
  have HO := Lib.hid ho
  have HE := Lib.hid h0
  have HP := Lib.hid hp
  have hfew := h.few
  generalize hr : a.err st.nw = r at h0 ⊢
  have HR := Lib.hid hr
  have hr0 : (r != 0) = true := by simpa using h0
  clear h ho h0 hr hp
  obtain ⟨WW, hWW⟩ : ∃ WW, WW = (((w.alloc (.cells #[.pointer (some ⟨gw, 0, none⟩)] 33)).alloc (.cells #[.int .i64 p.K, .int .i64 p.A, .int .i64 p.N] 112)).alloc (.cells #[.int .i64 a.K, .int .i64 a.P, .int .i64 a.N, .int .u64 a.V, .int .u64 a.U, .slice A l cp] 58)).alloc (.cells #[.int .i64 0, .int .i64 0, .int .i64 0, .int .i64 0, .int .i64 0, .int .i64 0, .int .u64 0, .int .u64 0, .slice none 0 0, .int .u64 0, .bool false, .slice none 0 0] 114) := ⟨_, rfl⟩
  have HB := Lib.hid (step_boxes w gw p a (.slice A l cp) WW hWW)
  go_enter Tryz.func53, Tryz.ntmps53
  go_upto_region 1 with fail
  rw [← hWW]
  clear hWW
  obtain ⟨hb0, hx0, hsz0⟩ := HB.out
  have hsw := HS.out.below hb0
  have hc0 : WW.cell? ⟨w.heap.size, 0, none⟩ = some (.pointer (some ⟨gw, 0, none⟩)) := by simp [World.cell?, hx0.wd]
  have hcw := hsw.w0
  have a0 : WW.cell? ⟨w.heap.size + 1 + 1, 0, none⟩ = some (.int .i64 a.K) := by simp [World.cell?, hx0.ac]
  have a1 : WW.cell? ⟨w.heap.size + 1 + 1, 1, none⟩ = some (.int .i64 a.P) := by simp [World.cell?, hx0.ac]
  have a2 : WW.cell? ⟨w.heap.size + 1 + 1, 2, none⟩ = some (.int .i64 a.N) := by simp [World.cell?, hx0.ac]
  have a3 : WW.cell? ⟨w.heap.size + 1 + 1, 3, none⟩ = some (.int .u64 a.V) := by simp [World.cell?, hx0.ac]
  have a4 : WW.cell? ⟨w.heap.size + 1 + 1, 4, none⟩ = some (.int .u64 a.U) := by simp [World.cell?, hx0.ac]
  have a5 : WW.cell? ⟨w.heap.size + 1 + 1, 5, none⟩ = some (.slice A l cp) := by simp [World.cell?, hx0.ac]
  have HSW := Lib.hid hsw
  have HX := Lib.hid hx0
  have HOW := Lib.hid (HO.out.below hb0)
  have hgw := hsw.gw_lt
  have hgw0 := HS.out.gw_lt
  have g4 : ¬ w.heap.size + 1 + 1 + 1 + 1 = gw := by omega
  have g5 : ¬ w.heap.size + 1 + 1 + 1 + 1 = w.heap.size := by omega
  have g6 : ¬ w.heap.size + 1 + 1 = w.heap.size := by omega
  have g4' : ¬ gw = w.heap.size + 1 + 1 + 1 + 1 := by omega
  clear hx0 hsw
  go_cut [8, 9] (fun s8 s9 wx => ∃ g : Nat, s8 = .pointer (some ⟨g, 0, none⟩) ∧ s9 = .int .i64 r ∧ Below WW.heap.size WW wx)
  case first =>
   go_region_held3 (fun w' => w'.cell? ⟨w.heap.size, 0, none⟩ = some (.pointer (some ⟨gw, 0, none⟩)) ∧ w'.cell? ⟨gw, 0, none⟩ = some (.pointer (some ⟨gb, 0, none⟩)) ∧ w'.cell? ⟨w.heap.size + 1 + 1, 0, none⟩ = some (.int .i64 a.K) ∧ w'.cell? ⟨w.heap.size + 1 + 1, 1, none⟩ = some (.int .i64 a.P) ∧ w'.cell? ⟨w.heap.size + 1 + 1, 2, none⟩ = some (.int .i64 a.N) ∧ w'.cell? ⟨w.heap.size + 1 + 1, 3, none⟩ = some (.int .u64 a.V) ∧ w'.cell? ⟨w.heap.size + 1 + 1, 4, none⟩ = some (.int .u64 a.U) ∧ w'.cell? ⟨w.heap.size + 1 + 1, 5, none⟩ = some (.slice A l cp))
    (go_keep)
    (first
      | (go_at_call 19; refine (do_ac_no (HSW.out.buf.alloc _).drew a (HOW.out.alloc _).drew HE.out).mono ?_; rintro e w1 ⟨rfl, hbd⟩; rw [HR.out]; have hb1 := below_alloc_drew hbd; have HAN := AnsAt.of_blk ((alloc_drew_block hbd).trans (Go.Deep.blk_alloc_new _ _)); rw [hsz0] at HAN; obtain ⟨n0, n1, n2, nf0, nf1, nf2, _⟩ := HAN; clear hbd; have kf := fun (q : Addr) (hq : q.block < WW.heap.size) => hb1.cell (p := q) hq; have k1 := (kf ⟨gw, 0, none⟩ hgw).trans hcw; have k0 := (kf ⟨w.heap.size, 0, none⟩ (by show w.heap.size < _; omega)).trans hc0; have k2 := (kf ⟨w.heap.size + 1 + 1, 0, none⟩ (by show w.heap.size + 1 + 1 < _; omega)).trans a0; have k3 := (kf ⟨w.heap.size + 1 + 1, 1, none⟩ (by show w.heap.size + 1 + 1 < _; omega)).trans a1; have k4 := (kf ⟨w.heap.size + 1 + 1, 2, none⟩ (by show w.heap.size + 1 + 1 < _; omega)).trans a2; have k5 := (kf ⟨w.heap.size + 1 + 1, 3, none⟩ (by show w.heap.size + 1 + 1 < _; omega)).trans a3; have k6 := (kf ⟨w.heap.size + 1 + 1, 4, none⟩ (by show w.heap.size + 1 + 1 < _; omega)).trans a4; have k7 := (kf ⟨w.heap.size + 1 + 1, 5, none⟩ (by show w.heap.size + 1 + 1 < _; omega)).trans a5; clear kf)
      | (go_at_call 19; refine (do_ac_no HSW.out.buf.drew a HOW.out.drew HE.out).mono ?_; rintro e w1 ⟨rfl, hbd⟩; rw [HR.out]; have hb1 := below_drew hbd; clear hbd; have kf := fun (q : Addr) (hq : q.block < WW.heap.size) => hb1.cell (p := q) hq; have k1 := (kf ⟨gw, 0, none⟩ hgw).trans hcw; have k0 := (kf ⟨w.heap.size, 0, none⟩ (by show w.heap.size < _; omega)).trans hc0; have k2 := (kf ⟨w.heap.size + 1 + 1, 0, none⟩ (by show w.heap.size + 1 + 1 < _; omega)).trans a0; have k3 := (kf ⟨w.heap.size + 1 + 1, 1, none⟩ (by show w.heap.size + 1 + 1 < _; omega)).trans a1; have k4 := (kf ⟨w.heap.size + 1 + 1, 2, none⟩ (by show w.heap.size + 1 + 1 < _; omega)).trans a2; have k5 := (kf ⟨w.heap.size + 1 + 1, 3, none⟩ (by show w.heap.size + 1 + 1 < _; omega)).trans a3; have k6 := (kf ⟨w.heap.size + 1 + 1, 4, none⟩ (by show w.heap.size + 1 + 1 < _; omega)).trans a4; have k7 := (kf ⟨w.heap.size + 1 + 1, 5, none⟩ (by show w.heap.size + 1 + 1 < _; omega)).trans a5; clear kf))
   all_goals (go_wp2_with fail; go_meet)
   · exact ⟨_, rfl, rfl, hb1.alloc hb1.size _⟩
   · exact ⟨_, rfl, rfl, ((hb1.setCell (Nat.le_of_eq hsz0) _).setCell (Nat.le_of_eq hsz0) _).setCell (Nat.le_of_eq hsz0) _⟩
  case rest =>
    obtain ⟨g8, rfl, rfl, hbc⟩ := hcut
    have HSC := Lib.hid (HSW.out.below hbc)
    have hbx := HX.out.keep (W' := wc) fun k _ hk => hbc.block k hk
    have d0 : wc.cell? ⟨w.heap.size, 0, none⟩ = some (.pointer (some ⟨gw, 0, none⟩)) := by simp [World.cell?, hbx.wd]
    have d1 : wc.cell? ⟨w.heap.size + 1, 1, none⟩ = some (.int .i64 (i : Nat)) := by rw [← HP.out]; simp [World.cell?, hbx.pk]
    have w1c := HSC.out.w1
    have dd := HSC.out.adead hi
    have dz := HSC.out.afree (i * 2 + 1)
    have hga := HSC.out.ga_lt
    have hga0 := HS.out.ga_lt
    have hE := hbx.ev
    have HSD := Lib.hid (HSC.out.setDead (i := i)).drew
    have HTD := Lib.hid ((((Touch.of_below (S := Own o) hb0).trans (Touch.of_below hbc)).setCell (p := ⟨ga, i * 2 + 1, none⟩) (by unfold Own; rw [HS.out.oga]; simp) (.bool true)).drew)
    have HED := Lib.hid (hE.of_block (W' := (wc.setCell ⟨ga, i * 2 + 1, none⟩ (.bool true)).drew) (Below.heap_setCell wc ⟨ga, i * 2 + 1, none⟩ _ _ (by show w.heap.size + 1 + 1 + 1 ≠ ga; omega)))
    clear hE hbx hc0 hcw a0 a1 a2 a3 a4 a5 g4 g5 g6 g4'
    go_wp2_with fail
    go_region
    all_goals
      generalize (wc.setCell ⟨ga, i * 2 + 1, none⟩ (.bool true)).drew = W5 at HSD HTD HED ⊢
      have r0 := HED.out.e0
      have r1 := HED.out.e1
      have r2 := HED.out.e2
      have r3 := HED.out.e3
      have r4 := HED.out.e4
      have r5 := HED.out.e5
      have r6 := HED.out.e6
      have r7 := HED.out.e7
      have r8 := HED.out.e8
      have r9 := HED.out.e9
      have r10 := HED.out.e10
      have r11 := HED.out.e11
      have f0 := HED.out.free 0
      have f1 := HED.out.free 1
      have f2 := HED.out.free 2
      have f3 := HED.out.free 3
      have f4 := HED.out.free 4
      have f5 := HED.out.free 5
      have f6 := HED.out.free 6
      have f7 := HED.out.free 7
      have f8 := HED.out.free 8
      have f9 := HED.out.free 9
      have f10 := HED.out.free 10
      have f11 := HED.out.free 11
      go_wp2
      refine bodyPost_ret (v := .tuple #[.agg #[.int .i64 0, .int .i64 0, .int .i64 0, .int .i64 0, .int .i64 0, .int .i64 0, .int .u64 0, .int .u64 0, .slice none 0 0, .int .u64 0, .bool false, .slice none 0 0], .int .i64 r]) (by simp [results, Tryz.results53, go_sem, r0, r1, r2, r3, r4, r5, r6, r7, r8, r9, r10, r11]) rfl ?_
      have ht12 := twelve_touch W5 (w.heap.size + 1 + 1 + 1) (.int .i64 0) (.int .i64 0) (.int .i64 0) (.int .i64 0) (.int .i64 0) (.int .i64 0) (.int .u64 0) (.int .u64 0) (.slice none 0 0) (.int .u64 0) (.bool false) (.slice none 0 0)
      refine ⟨rfl, HSD.out.touch ht12 fun k hk e => ?_, HTD.out.trans' ht12 (Nat.le_trans (Nat.le_succ _) (Nat.le_trans (Nat.le_succ _) (Nat.le_succ _)))⟩
      have := HS.out.lt k hk
      omega
end Go.Proofs.YtbfgbnalnjdheaaGreat
namespace Go.Proofs.YtbfgbnalnjdheaaGreat
open Go.RowKit

theorem infoEv : (Tryz.prog.info? 114).map (fun i => (i.zero, i.size, i.bytes)) = some (some (.agg #[.int .i64 0, .int .i64 0, .int .i64 0, .int .i64 0, .int .i64 0, .int .i64 0, .int .u64 0, .int .u64 0, .slice none 0 0, .int .u64 0, .bool false, .slice none 0 0]), 12, 128) := by kernel_rfl

/-- What appending an event to a row left. -/
structure AppEv (n : Nat) (v : Value) (zs : List Value) (w : World) (v' : Value) (w' : World) : Prop where
  row : w'.ownsRow 0 114 12 v' (n + 1) zs
  grown : w.grownBy w' v.ownBlock
  lies : v'.ownBlock = v.ownBlock ∨ v'.ownBlock = some w.heap.size

theorem AppEv.form {n : Nat} {v v' : Value} {zs : List Value} {w w' : World} (h : AppEv n v zs w v' w') : ∃ g cap, v' = .slice (some ⟨g, 0, none⟩) (n + 1) cap := by
  rcases h.row.2 with ⟨_, h0⟩ | ⟨g, cap, cur, hv, _⟩
  · omega
  · exact ⟨g, cap, hv⟩

set_option maxRecDepth 100000 in
theorem run_app_ev {w : World} {v : Value} {n : Nat} {xs : List Value} (hv : w.ownsRow 0 114 12 v n xs) (t : Tx) {g c : Nat} (hg : w.heap[g]? = some (.cells #[.int .i64 t.e.pk.K, .int .i64 t.e.pk.A, .int .i64 t.e.pk.N, .int .i64 t.e.ac.K, .int .i64 t.e.ac.P, .int .i64 t.e.ac.N, .int .u64 t.e.ac.V, .int .u64 t.e.ac.U, t.s1, .int .u64 t.e.an.V, .bool t.e.an.D, t.s2] 114 (0, 0)))
    (h1 : t.s1.oneCell' = true) (h2 : t.s2.oneCell' = true) (hl : n ≤ 1000000) (ty : TypeId) :
    ∃ v' w', (Builtin.append_ #[81, 81] ty #[v, .slice (some ⟨g, 0, none⟩) 1 c]).run Tryz.prog w = .ok v' w' ∧ AppEv n v (xs ++ t.cells) w v' w' := by
  obtain ⟨i0, hi, hz0, hz1, hz2⟩ := info_parts infoEv
  obtain ⟨v', w', hr, h5, h6, _, h8⟩ := run_append_own_at (P := Tryz.prog) w 0 81 ty 114 i0 _ 12 128 Tryz.underlying81 hi hz0 hz1 hz2 rfl (by decide) v n xs hv ⟨g, 0, none⟩ 1 c t.cells rfl (by
      intro j u hj
      have e : (⟨g, 0, none⟩ : Addr).add j = ⟨g, 0 + j, none⟩ := by unfold Addr.add; split <;> simp_all
      rw [e, Nat.zero_add]
      simp only [World.cell?, hg]
      rw [← hj]
      simp [Tx.cells]) (by
      intro u hu
      simp only [Tx.cells, List.mem_cons, List.not_mem_nil, or_false] at hu
      rcases hu with rfl | rfl | rfl | rfl | rfl | rfl | rfl | rfl | rfl | rfl | rfl | rfl <;> first | rfl | assumption) (by unfold maxLen; omega) (by omega) (Nat.zero_le _)
  exact ⟨v', w', hr, h5, h6, h8⟩

set_option maxRecDepth 100000 in
theorem wp_app_ev {w : World} {o : Oper} {a : Act} {K : Act → World → Prop} {Q : Exit → Act → World → Prop} (s x : Operand)
    (ho : o.op = .call { callee := .builtin .append, args := #[s, x], argTypes := #[81, 81] }) (v : Value) (n : Nat) (xs : List Value) (t : Tx) (g c : Nat)
    (hs : a.eval s = v) (hx : a.eval x = .slice (some ⟨g, 0, none⟩) 1 c) (hv : w.ownsRow 0 114 12 v n xs) (hg : w.heap[g]? = some (.cells #[.int .i64 t.e.pk.K, .int .i64 t.e.pk.A, .int .i64 t.e.pk.N, .int .i64 t.e.ac.K, .int .i64 t.e.ac.P, .int .i64 t.e.ac.N, .int .u64 t.e.ac.V, .int .u64 t.e.ac.U, t.s1, .int .u64 t.e.an.V, .bool t.e.an.D, t.s2] 114 (0, 0)))
    (h1 : t.s1.oneCell' = true) (h2 : t.s2.oneCell' = true) (hl : n ≤ 1000000)
    (h : ∀ v' w', AppEv n v (xs ++ t.cells) w v' w' → K (a.put o.dst v') w') : o.wp Tryz.prog a w K Q := by
  obtain ⟨v', w', hrun, h5⟩ := run_app_ev hv t (c := c) hg h1 h2 hl o.type
  unfold Oper.wp execOp
  simp only [ho, resolve, invoke, builtin, Sem.run_bind, Sem.run_pure, Result.andThen_ok, List.map_toArray, List.map_cons, List.map_nil, hs, hx, hrun]
  exact h v' w' h5

set_option maxRecDepth 100000 in
theorem wpList_app_ev {w : World} {ops : Array Oper} {rest : List Oper} {o : Oper} {a : Act} {Q : Exit → Act → World → Prop} (hgd : o.guard = none) (s x : Operand)
    (ho : o.op = .call { callee := .builtin .append, args := #[s, x], argTypes := #[81, 81] }) (v : Value) (n : Nat) (xs : List Value) (t : Tx) (g c : Nat)
    (hs : a.eval s = v) (hx : a.eval x = .slice (some ⟨g, 0, none⟩) 1 c) (hv : w.ownsRow 0 114 12 v n xs) (hg : w.heap[g]? = some (.cells #[.int .i64 t.e.pk.K, .int .i64 t.e.pk.A, .int .i64 t.e.pk.N, .int .i64 t.e.ac.K, .int .i64 t.e.ac.P, .int .i64 t.e.ac.N, .int .u64 t.e.ac.V, .int .u64 t.e.ac.U, t.s1, .int .u64 t.e.an.V, .bool t.e.an.D, t.s2] 114 (0, 0)))
    (h1 : t.s1.oneCell' = true) (h2 : t.s2.oneCell' = true) (hl : n ≤ 1000000)
    (h : ∀ v' w', AppEv n v (xs ++ t.cells) w v' w' → wpList Tryz.prog ops Q rest (a.put o.dst v') w') : wpList Tryz.prog ops Q (o :: rest) a w :=
  wpList_plain hgd fun _ hK => wp_app_ev s x ho v n xs t g c hs hx hv hg h1 h2 hl fun v' w' h2 => hK _ _ (h v' w' h2)

set_option maxRecDepth 100000 in
theorem step_app_ev {w : World} {ops : Array Oper} {o : Oper} {a : Act} {K : Act → World → Prop} {Q : Exit → Act → World → Prop} {E : Prop} (hgd : o.guard = none) (s x : Operand)
    (ho : o.op = .call { callee := .builtin .append, args := #[s, x], argTypes := #[81, 81] }) (v : Value) (n : Nat) (xs : List Value) (t : Tx) (g c : Nat)
    (hs : a.eval s = v) (hx : a.eval x = .slice (some ⟨g, 0, none⟩) 1 c) (hv : w.ownsRow 0 114 12 v n xs) (hg : w.heap[g]? = some (.cells #[.int .i64 t.e.pk.K, .int .i64 t.e.pk.A, .int .i64 t.e.pk.N, .int .i64 t.e.ac.K, .int .i64 t.e.ac.P, .int .i64 t.e.ac.N, .int .u64 t.e.ac.V, .int .u64 t.e.ac.U, t.s1, .int .u64 t.e.an.V, .bool t.e.an.D, t.s2] 114 (0, 0)))
    (h1 : t.s1.oneCell' = true) (h2 : t.s2.oneCell' = true) (hl : n ≤ 1000000)
    (h : ∀ v' w', AppEv n v (xs ++ t.cells) w v' w' → K (a.put o.dst v') w') : if Region.wanted o (yielded ops a.tmps) = true then Oper.wp Tryz.prog o a w K Q else E := by
  have hw : Region.wanted o (yielded ops a.tmps) = true := by simp [Region.wanted, hgd]
  rw [if_pos hw]
  exact wp_app_ev s x ho v n xs t g c hs hx hv hg h1 h2 hl h

theorem app_cell {w w1 w2 : World} {n : Nat} {v v' : Value} {zs : List Value} (hb : Below w.heap.size w w1) (ha : AppEv n v zs w1 v' w2) {q : Addr} (hq : q.block < w.heap.size) (hn : v.ownBlock ≠ some q.block) : w2.cell? q = w.cell? q :=
  (World.cell?_of_block (w := w1) (ha.grown.block q.block (Nat.lt_of_lt_of_le hq hb.size) fun e => hn e.symm)).trans (hb.cell hq)

theorem app_frozen {w w1 w2 : World} {n : Nat} {v v' : Value} {zs : List Value} (hb : Below w.heap.size w w1) (ha : AppEv n v zs w1 v' w2) {q : Addr} (hq : q.block < w.heap.size) (hn : v.ownBlock ≠ some q.block) : w2.frozen? q = w.frozen? q :=
  (World.frozen?_of_block (w := w1) (ha.grown.block q.block (Nat.lt_of_lt_of_le hq hb.size) fun e => hn e.symm)).trans (hb.frozen hq)

theorem Sw.new_no {w : World} {o : Nat → Pt} {gw ga gb hb : Nat} {ax : Nat → Value} {tv : Value} {ts : List Tx} {st : St} (h : Sw w o gw ga gb hb ax tv ts st) {k : Nat} (hk : w.heap.size ≤ k) : o k = .no :=
  Classical.byContradiction fun e => by have := h.lt k e; omega

/-- A row's block is none that the trace's row doesn't own. -/
theorem Sw.row_ne {w : World} {o : Nat → Pt} {gw ga gb hb : Nat} {ax : Nat → Value} {tv : Value} {ts : List Tx} {st : St} (h : Sw w o gw ga gb hb ax tv ts st) {k : Nat} (hk : o k ≠ .ro) : tv.ownBlock ≠ some k := fun e => hk (h.tr.own k e)

/-- The trace has one event more. -/
theorem Sw.setTrace {w w1 w2 : World} {o : Nat → Pt} {gw ga gb hb : Nat} {ax : Nat → Value} {tv tv' : Value} {ts : List Tx} {st : St} (h : Sw w o gw ga gb hb ax tv ts st) (hbl : Below w.heap.size w w1) (t : Tx)
    (b1 : BytesIn (fun k => w.heap.size ≤ k) w1 t.s1 t.e.ac.bs) (b2 : BytesIn (fun k => w.heap.size ≤ k) w1 t.s2 t.e.an.bs) (ha : AppEv ts.length tv (ts.flatMap Tx.cells ++ t.cells) w1 tv' w2) (hsm : t.e.Small) :
    ∃ o', Sw (w2.setCell ⟨gw, 3, none⟩ tv') o' gw ga gb hb ax tv' (ts ++ [t]) { st with tr := st.tr ++ [t.e] } ∧ Touch (Own o) w (w2.setCell ⟨gw, 3, none⟩ tv') ∧ (∀ k, k < w.heap.size → o' k = o k) := by
  have h1 := h.below hbl
  have hs1 := hbl.size
  have hs2 := ha.grown.size
  have htv : ∀ k, tv.ownBlock = some k → k < w.heap.size ∧ o k = .ro := fun k hk => ⟨h.lt k (by rw [h.tr.own k hk]; simp), h.tr.own k hk⟩
  have htv' : ∀ k, tv'.ownBlock = some k → (k < w.heap.size ∧ o k = .ro) ∨ k = w1.heap.size := fun k hk => by
    rcases ha.lies with e | e
    · exact .inl (htv k (e.symm.trans hk))
    · rw [e] at hk; injection hk with hk; exact .inr hk.symm
  have hltv' : ∀ k, tv'.ownBlock = some k → k < w2.heap.size := fun k hk => (World.ownsRow.lt ha.row k hk).2
  have hsz3 : (w2.setCell ⟨gw, 3, none⟩ tv').heap.size = w2.heap.size := by simp [World.setCell]
  have hgr : ∀ k, k < w1.heap.size → tv.ownBlock ≠ some k → w2.heap[k]? = w1.heap[k]? := fun k hk hn => ha.grown.block k hk fun e => hn e.symm
  have hne : ∀ k, k ≠ gw → (w2.setCell ⟨gw, 3, none⟩ tv').heap[k]? = w2.heap[k]? := fun k hk => Below.heap_setCell _ _ _ _ hk
  have hwgw : ∀ k, o k ≠ .wd → k ≠ gw := fun k hk e => hk (e ▸ h.ogw)
  have hro : ∀ k, o k ≠ .ro → tv.ownBlock ≠ some k := fun k hk e => hk (h.tr.own k e)
  have hold : ∀ k, o k ≠ .no → o k ≠ .ro → o k ≠ .wd → (w2.setCell ⟨gw, 3, none⟩ tv').heap[k]? = w1.heap[k]? := fun k h1 h2 h3 => (hne k (hwgw k h3)).trans (hgr k (Nat.lt_of_lt_of_le (h.lt k h1) hs1) (hro k h2))
  generalize hw3 : w2.setCell ⟨gw, 3, none⟩ tv' = w3 at *
  have hs3 : w1.heap.size ≤ w3.heap.size := by omega
  have holdk : ∀ k, k < w.heap.size → claimed (claimed o w.heap.size (fun k => k < w2.heap.size) .tx) w.heap.size (fun k => tv'.ownBlock = some k) .ro k = o k := fun k hk => (claimed_old hk).trans (claimed_old hk)
  refine ⟨claimed (claimed o w.heap.size (fun k => k < w2.heap.size) .tx) w.heap.size (fun k => tv'.ownBlock = some k) .ro, ⟨?_, h1.row.of_block (hold ga (by rw [h.oga]; simp) (by rw [h.oga]; simp) (by rw [h.oga]; simp)),
    h1.buf.of_blocks (hold gb (by rw [h.ogb]; simp) (by rw [h.ogb]; simp) (by rw [h.ogb]; simp)) (hold hb (by rw [h.ohb]; simp) (by rw [h.ohb]; simp) (by rw [h.ohb]; simp)),
    fun i hi => ((h1.mach i hi).keep hs3 fun k hk => hold k (by rw [hk]; simp) (by rw [hk]; simp) (by rw [hk]; simp)).mono fun k hk => (holdk k (h.lt k (by rw [hk]; simp))).trans hk,
    ⟨?_, fun q hq => ?_, fun k hk => ?_⟩, by show st.tr ++ [t.e] = _; rw [h.told, List.map_append]; rfl, (holdk gw h.gw_lt).trans h.ogw, (holdk ga h.ga_lt).trans h.oga, (holdk gb h.buf.g_lt).trans h.ogb, (holdk hb h.buf.h_lt).trans h.ohb, fun k hk => ?_, h.few, fun e he => by rcases List.mem_append.1 he with he | he; exact h.small e he; obtain rfl : e = t.e := (by simpa using he); exact hsm⟩, ?_, holdk⟩
  · rw [← hw3]
    have e1 : w2.heap[gw]? = some (.cells #[.pointer (some ⟨gb, 0, none⟩), .slice (some ⟨ga, 0, none⟩) st.na st.na, .int .i64 st.clock, tv] 83 (0, 0)) := (hgr gw (Nat.lt_of_lt_of_le h.gw_lt hs1) (hro gw (by rw [h.ogw]; simp))).trans h1.head
    exact blkS e1 tv'
  · have hr2 := ha.row
    rw [show ts.flatMap Tx.cells ++ t.cells = (ts ++ [t]).flatMap Tx.cells by simp, show ts.length + 1 = (ts ++ [t]).length by simp] at hr2
    refine ownsRow_keep hr2 fun q hq => hne q fun e => ?_
    rcases htv' q hq with e1 | e1
    · rw [e, h.ogw] at e1; cases e1.2
    · have := h.gw_lt; omega
  · rcases List.mem_append.1 hq with hq | hq
    · have hx := h1.tr.txt q hq
      have hkp : ∀ k, o k = .tx → w3.heap[k]? = w1.heap[k]? := fun k hk => hold k (by rw [hk]; simp) (by rw [hk]; simp) (by rw [hk]; simp)
      exact ⟨(hx.1.keep hs3 fun k hk _ => hkp k hk).mono fun k hk _ => (holdk k (h.lt k (by rw [hk]; simp))).trans hk, (hx.2.keep hs3 fun k hk _ => hkp k hk).mono fun k hk _ => (holdk k (h.lt k (by rw [hk]; simp))).trans hk⟩
    · obtain rfl : q = t := by simpa using hq
      have hkp : ∀ k, w.heap.size ≤ k → k < w1.heap.size → w3.heap[k]? = w1.heap[k]? := fun k hk hl => (hne k (by have := h.gw_lt; omega)).trans (hgr k hl fun e => by have := (htv k e).1; omega)
      have hcl : ∀ k, w.heap.size ≤ k ∧ k < w1.heap.size → claimed (claimed o w.heap.size (fun k => k < w2.heap.size) .tx) w.heap.size (fun k => tv'.ownBlock = some k) .ro k = .tx := fun k hk => by
        rw [claimed_not (fun e => by rcases htv' k e.2 with e1 | e1 <;> omega)]
        exact claimed_new hk.1 (by omega)
      exact ⟨(b1.lt.keep hs3 fun k hk hl => hkp k hk.1 hk.2).mono fun k hk _ => hcl k hk, (b2.lt.keep hs3 fun k hk hl => hkp k hk.1 hk.2).mono fun k hk _ => hcl k hk⟩
  · rcases htv' k hk with e | e
    · exact (holdk k e.1).trans e.2
    · exact claimed_new (by omega) hk
  · by_cases e : w.heap.size ≤ k ∧ tv'.ownBlock = some k
    · have := hltv' k e.2; omega
    · rw [claimed_not e] at hk
      by_cases e2 : w.heap.size ≤ k ∧ k < w2.heap.size
      · omega
      · rw [claimed_not e2] at hk
        have := h.lt k hk
        omega
  · have hT : Touch (Own o) w w2 := ⟨ha.grown.os.trans hbl.os, ha.grown.tape.trans hbl.tape, ha.grown.output.trans hbl.output, Nat.le_trans hs1 hs2, fun k hk hn => (hgr k (Nat.lt_of_lt_of_le hk hs1) fun e => hn (by unfold Own; rw [(htv k e).2]; simp)).trans (hbl.block k hk)⟩
    rw [← hw3]
    exact hT.setCell (p := ⟨gw, 3, none⟩) (by unfold Own; rw [h.ogw]; simp) tv'

/-- .. as step meets it. -/
theorem Sw.setTrace' {w w1 w2 : World} {o : Nat → Pt} {gw ga gb hb : Nat} {ax : Nat → Value} {tv tv' : Value} {ts : List Tx} {st : St} (h : Sw w o gw ga gb hb ax tv ts st) {q : Obj} (hbl : Below w.heap.size w (w1.alloc q)) (t : Tx)
    (b1 : Owns w.drew.heap.size w1 t.s1 t.e.ac.bs) (b2 : Owns w.drew.heap.size w1 t.s2 t.e.an.bs) (ha : AppEv ts.length tv (ts.flatMap Tx.cells ++ t.cells) (w1.alloc q) tv' w2) (hsm : t.e.Small) :
    ∃ (o' : Nat → Pt) (tv2 : Value) (ts2 : List Tx), Sw (w2.setCell ⟨gw, 3, none⟩ tv') o' gw ga gb hb ax tv2 ts2 { st with tr := st.tr ++ [t.e] } ∧ Touch (Own o) w (w2.setCell ⟨gw, 3, none⟩ tv') ∧ (∀ k, k < w.heap.size → o' k = o k) := by
  obtain ⟨o', h1, h2, h3⟩ := h.setTrace hbl t ((BytesIn.of_own b1).below ((Below.refl _ _).alloc (Nat.le_refl _) q)) ((BytesIn.of_own b2).below ((Below.refl _ _).alloc (Nat.le_refl _) q)) ha hsm
  exact ⟨o', tv', _, h1, h2, h3⟩
end Go.Proofs.YtbfgbnalnjdheaaGreat
namespace Go.Proofs.YtbfgbnalnjdheaaGreat
open Go.RowKit

theorem enter_take (caps : Array Value) (w : World) : (callFunc 81 caps).run Tryz.prog w = .ok (.enter 81 caps) w := by
  simp [go_sem]

theorem Moved.of_drew {F : Nat → Prop} {x : Value} {s : Mc} {w w' : World} (h : Moved F x s w.drew w') : Moved F x s w w' := by
  obtain ⟨F', a, b, c⟩ := h
  exact ⟨F', a, ((Touch.refl _ w).drew).trans b, c⟩

set_option maxRecDepth 100000 in
set_option maxHeartbeats 1000000 in
theorem stepIn_any {w : World} {o : Nat → Pt} {gw ga gb hb : Nat} {ax : Nat → Value} {tv : Value} {ts : List Tx} {st : St} (h : Sw w o gw ga gb hb ax tv ts st) (i : Nat) (hi : i < st.na) (b0 b1 bt : Nat) (x : An) (hx : x.Fine) (A : Option Addr) (l c : Nat)
    (h0 : w.cell? ⟨b0, 0, none⟩ = some (.pointer (some ⟨gw, 0, none⟩))) (h1 : w.cell? ⟨b1, 1, none⟩ = some (.int .i64 (i : Nat))) (ht : w.heap[bt]? = some (.cells #[.int .u64 x.V, .bool x.D, .slice A l c] 50 (0, 0))) (hB : BytesAt w (.slice A l c) x.bs) (hn : (st.ms i).next ≠ none) (p0 : o b0 = .no) (p1 : o b1 = .no) (pt : o bt = .no) :
    Calls Tryz.prog 81 #[.pointer (some ⟨b0, 0, none⟩), .pointer (some ⟨b1, 0, none⟩), .pointer (some ⟨bt, 0, none⟩)] w fun e w' => e = .returned (.tuple #[]) ∧ Moved (fun k => o k = .ma i) (ax i) ((st.ms i).take x) w w' := by
  have hm := h.mach i hi
  have hlt := fun k (hk : o k = .ma i) => h.lt k (by rw [hk]; simp)
  have hax := h.amach hi
  have hw1 := h.w1
  have hfew := h.few
  have t0 : w.cell? ⟨bt, 0, none⟩ = some (.int .u64 x.V) := by simp [World.cell?, ht]
  have t1 : w.cell? ⟨bt, 1, none⟩ = some (.bool x.D) := by simp [World.cell?, ht]
  have t2 : w.cell? ⟨bt, 2, none⟩ = some (.slice A l c) := by simp [World.cell?, ht]
  generalize hs : st.ms i = s at hm hn ⊢
  generalize ax i = y at hm hax ⊢
  have q0 : o b0 ≠ .ma i := by rw [p0]; simp
  have q1 : o b1 ≠ .ma i := by rw [p1]; simp
  have qt : o bt ≠ .ma i := by rw [pt]; simp
  have qw : o gw ≠ .ma i := by rw [h.ogw]; simp
  have qa : o ga ≠ .ma i := by rw [h.oga]; simp
  clear h ht hs
  rcases hm.shape with ⟨_, e⟩ | ⟨T, yy, rfl⟩
  · subst e
    exact absurd rfl hn
  · obtain ⟨fid, hme, hent, hc⟩ := mrep_take (w := w.drew) (hm.keep (Nat.le_refl _) fun _ _ => rfl) hlt x hx A l c hB.drew
    have HC := Lib.hid hc
    clear hm hB hx hn hc
    go_enter Tryz.func81, Tryz.ntmps81
    go_region_held3 (fun w' => w'.cell? ⟨b0, 0, none⟩ = some (.pointer (some ⟨gw, 0, none⟩)) ∧ w'.cell? ⟨gw, 1, none⟩ = some (.slice (some ⟨ga, 0, none⟩) st.na st.na) ∧ w'.cell? ⟨b1, 1, none⟩ = some (.int .i64 (i : Nat)) ∧ w'.cell? ⟨ga, i * 2, none⟩ = some (.iface T yy) ∧ w'.cell? ⟨bt, 0, none⟩ = some (.int .u64 x.V) ∧ w'.cell? ⟨bt, 1, none⟩ = some (.bool x.D) ∧ w'.cell? ⟨bt, 2, none⟩ = some (.slice A l c))
      (go_keep)
      (first | (refine HC.out.mono ?_; rintro e w2 ⟨rfl, hmv⟩; have k0 := (moved_cell hmv (p := ⟨b0, 0, none⟩) (lt_of_cell h0) q0).trans h0; have k1 := (moved_cell hmv (p := ⟨gw, 1, none⟩) (lt_of_cell hw1) qw).trans hw1; have k2 := (moved_cell hmv (p := ⟨b1, 1, none⟩) (lt_of_cell h1) q1).trans h1; have k3 := (moved_cell hmv (p := ⟨ga, i * 2, none⟩) (lt_of_cell hax) qa).trans hax; have k4 := (moved_cell hmv (p := ⟨bt, 0, none⟩) (lt_of_cell t0) qt).trans t0; have k5 := (moved_cell hmv (p := ⟨bt, 1, none⟩) (lt_of_cell t1) qt).trans t1; have k6 := (moved_cell hmv (p := ⟨bt, 2, none⟩) (lt_of_cell t2) qt).trans t2; have HMV := Lib.hid hmv; clear hmv))
    all_goals
      go_wp2
      go_end0
      exact ⟨rfl, HMV.out.of_drew⟩
end Go.Proofs.YtbfgbnalnjdheaaGreat
namespace Go.Proofs.YtbfgbnalnjdheaaGreat
open Go.RowKit

/-- An actor did its access. -/
def St.did (st : St) (p : Pk) (i : Nat) (a : Ac) : St :=
  { st with m := a.aft st.m, c := nxt st.c, tr := st.tr ++ [⟨p, a, a.ans st.m⟩], ms := upd st.ms i ((st.ms i).take (a.ans st.m)) }

/-- A step was done: its event is told. -/
def StepDid (o : Nat → Pt) (gw ga gb hb : Nat) (ax : Nat → Value) (p : Pk) (a : Ac) (x : An) (A : Option Addr) (l cp : Nat) (st' : St) (w : World) (e : Ending) (w' : World) : Prop :=
  ∃ o' A2 l2 c2 tv' ts', e = .returned (.tuple #[.agg #[.int .i64 p.K, .int .i64 p.A, .int .i64 p.N, .int .i64 a.K, .int .i64 a.P, .int .i64 a.N, .int .u64 a.V, .int .u64 a.U, .slice A l cp, .int .u64 x.V, .bool x.D, .slice A2 l2 c2], .int .i64 0]) ∧ BytesIn (fun k => w.heap.size ≤ k ∧ o' k = .no) w' (.slice A2 l2 c2) x.bs ∧
    Sw w' o' gw ga gb hb ax tv' ts' st' ∧ Touch (Own o) w w' ∧ ∀ k, k < w.heap.size → o' k = o k

/-- What Do left: the answer's block, the buffer turned. -/
structure DoneBox (WW wx : World) (gb hb : Nat) (m : Nat → Nat) (n : Nat) (c : Int) (x : An) (g : Nat) (A : Option Addr) (l cp : Nat) : Prop where
  new : WW.heap.size ≤ g
  blk : wx.heap[g]? = some (.cells #[.int .u64 x.V, .bool x.D, .slice A l cp] 50 (0, 0))
  by_ : BytesIn (fun k => WW.heap.size ≤ k) wx (.slice A l cp) x.bs
  st : Stored gb hb m n c WW wx

theorem DoneBox.late {WW w1 : World} {gb hb : Nat} {m : Nat → Nat} {n : Nat} {c : Int} {x : An} {A : Option Addr} {l cp : Nat} (hby : BytesIn (fun k => WW.drew.heap.size ≤ k) w1 (.slice A l cp) x.bs) (hst : Stored gb hb m n c WW.drew w1) :
    DoneBox WW (w1.alloc (.cells #[.int .u64 x.V, .bool x.D, .slice A l cp] 50)) gb hb m n c x w1.heap.size A l cp :=
  ⟨hst.2.size, Go.Deep.blk_alloc_new _ _, hby.below ((Below.refl _ _).alloc (Nat.le_refl _) _), hst.1.alloc _, ((Touch.refl _ WW).drew.trans hst.2).alloc _⟩

theorem DoneBox.early {WW w1 : World} {gb hb b : Nat} {m : Nat → Nat} {n : Nat} {c : Int} {x : An} {A : Option Addr} {l cp : Nat} (hg : gb < WW.heap.size) (hh : hb < WW.heap.size) (hsz : WW.heap.size = b)
    (hby : BytesIn (fun k => (WW.alloc (.cells #[.int .u64 0, .bool false, .slice none 0 0] 50)).drew.heap.size ≤ k) w1 (.slice A l cp) x.bs) (hst : Stored gb hb m n c (WW.alloc (.cells #[.int .u64 0, .bool false, .slice none 0 0] 50)).drew w1) :
    DoneBox WW (((w1.setCell ⟨b, 0, none⟩ (.int .u64 x.V)).setCell ⟨b, 1, none⟩ (.bool x.D)).setCell ⟨b, 2, none⟩ (.slice A l cp)) gb hb m n c x b A l cp := by
  have hbk : w1.heap[b]? = some (.cells #[.int .u64 0, .bool false, .slice none 0 0] 50 (0, 0)) := by
    subst hsz
    exact (hst.2.block WW.heap.size (by simp [World.drew]) (fun e => by rcases e with e | e <;> omega)).trans (Go.Deep.blk_alloc_new _ _)
  have hst2 : Stored gb hb m n c WW w1 := ⟨hst.1, ((Touch.refl _ WW).alloc _).drew.trans hst.2⟩
  refine ⟨by omega, ?_, (hby.mono fun k hk _ => ?_).answer' (AnsAt.of_blk hbk) _ _ _, ((hst2.setNew hg hh (by show _ ≤ b; omega) _).setNew hg hh (by show _ ≤ b; omega) _).setNew hg hh (by show _ ≤ b; omega) _⟩
  · have h1 := blkS (i := 0) hbk (.int .u64 x.V)
    have h2 := blkS (i := 1) h1 (.bool x.D)
    exact blkS (i := 2) h2 (.slice A l cp)
  · have : WW.heap.size + 1 ≤ k := by simpa [World.drew] using hk
    omega

theorem field_ans (u0 u1 u2 u3 u4 u5 u6 u7 u8 u9 u10 u11 : Value) (w : World) : (Instr.field 114 (.agg #[u0, u1, u2, u3, u4, u5, u6, u7, u8, u9, u10, u11]) 2).run Tryz.prog w = .ok (.agg #[u9, u10, u11]) w := by kernel_rfl

set_option maxRecDepth 100000 in
set_option maxHeartbeats 4000000 in
theorem step_ok {w : World} {o : Nat → Pt} {gw ga gb hb : Nat} {ax : Nat → Value} {tv : Value} {ts : List Tx} {st : St} (h : Sw w o gw ga gb hb ax tv ts st) (p : Pk) (i : Nat) (hp : p.A = (i : Nat)) (hi : i < st.na) (a : Ac) (hf : a.Fine) (hn : (st.ms i).next = some a)
    {base : Nat} {A : Option Addr} {l cp : Nat} (ho : Owns base w (.slice A l cp) a.bs) (hbase : ∀ k, o k ≠ .no → k < base) (h0 : a.err st.nw = 0) (hlong : ts.length ≤ 1000000) :
    Calls Tryz.prog 53 #[.pointer (some ⟨gw, 0, none⟩), .agg #[.int .i64 p.K, .int .i64 p.A, .int .i64 p.N], .agg #[.int .i64 a.K, .int .i64 a.P, .int .i64 a.N, .int .u64 a.V, .int .u64 a.U, .slice A l cp]] w (StepDid o gw ga gb hb ax p a (a.ans st.m) A l cp (st.did p i a) w) := by
  have HS := Lib.hid h
  have HO := Lib.hid ho
  have HE := Lib.hid h0
  have HP := Lib.hid hp
  have hfew := h.few
  have HF := Lib.hid hf
  have HN := Lib.hid hn
  have HL := Lib.hid hlong
  have HBS := Lib.hid hbase
  have HXF := Lib.hid (a.ans_fine h.buf.bytes h0)
  have hgb0 := h.buf.g_lt
  have hhb0 := h.buf.h_lt
  have hwb : ¬ Two gb hb gw := fun e => by
    rcases e with e | e
    · have := h.ogw; rw [e, h.ogb] at this; cases this
    · have := h.ogw; rw [e, h.ohb] at this; cases this
  clear h ho h0 hp hf hn hlong hbase
  obtain ⟨WW, hWW⟩ : ∃ WW, WW = (((w.alloc (.cells #[.pointer (some ⟨gw, 0, none⟩)] 33)).alloc (.cells #[.int .i64 p.K, .int .i64 p.A, .int .i64 p.N] 112)).alloc (.cells #[.int .i64 a.K, .int .i64 a.P, .int .i64 a.N, .int .u64 a.V, .int .u64 a.U, .slice A l cp] 58)).alloc (.cells #[.int .i64 0, .int .i64 0, .int .i64 0, .int .i64 0, .int .i64 0, .int .i64 0, .int .u64 0, .int .u64 0, .slice none 0 0, .int .u64 0, .bool false, .slice none 0 0] 114) := ⟨_, rfl⟩
  have HB := Lib.hid (step_boxes w gw p a (.slice A l cp) WW hWW)
  go_enter Tryz.func53, Tryz.ntmps53
  go_upto_region 1 with fail
  rw [← hWW]
  clear hWW
  obtain ⟨hb0, hx0, hsz0⟩ := HB.out
  have hsw := HS.out.below hb0
  have hc0 : WW.cell? ⟨w.heap.size, 0, none⟩ = some (.pointer (some ⟨gw, 0, none⟩)) := by simp [World.cell?, hx0.wd]
  have hcw := hsw.w0
  have a0 : WW.cell? ⟨w.heap.size + 1 + 1, 0, none⟩ = some (.int .i64 a.K) := by simp [World.cell?, hx0.ac]
  have a1 : WW.cell? ⟨w.heap.size + 1 + 1, 1, none⟩ = some (.int .i64 a.P) := by simp [World.cell?, hx0.ac]
  have a2 : WW.cell? ⟨w.heap.size + 1 + 1, 2, none⟩ = some (.int .i64 a.N) := by simp [World.cell?, hx0.ac]
  have a3 : WW.cell? ⟨w.heap.size + 1 + 1, 3, none⟩ = some (.int .u64 a.V) := by simp [World.cell?, hx0.ac]
  have a4 : WW.cell? ⟨w.heap.size + 1 + 1, 4, none⟩ = some (.int .u64 a.U) := by simp [World.cell?, hx0.ac]
  have a5 : WW.cell? ⟨w.heap.size + 1 + 1, 5, none⟩ = some (.slice A l cp) := by simp [World.cell?, hx0.ac]
  have HSW := Lib.hid hsw
  have HX := Lib.hid hx0
  have HOW := Lib.hid (HO.out.below hb0)
  have hgw := hsw.gw_lt
  have hgw0 := HS.out.gw_lt
  have g4 : ¬ w.heap.size + 1 + 1 + 1 + 1 = gw := by omega
  have g5 : ¬ w.heap.size + 1 + 1 + 1 + 1 = w.heap.size := by omega
  have g6 : ¬ w.heap.size + 1 + 1 = w.heap.size := by omega
  have g4' : ¬ gw = w.heap.size + 1 + 1 + 1 + 1 := by omega
  clear hx0 hsw
  go_cut [8, 9] (fun s8 s9 wx => ∃ (g : Nat) (A2 : Option Addr) (l2 c2 : Nat), s8 = .pointer (some ⟨g, 0, none⟩) ∧ s9 = .int .i64 0 ∧ DoneBox WW wx gb hb (a.aft st.m) st.nw (nxt st.c) (a.ans st.m) g A2 l2 c2)
  case first =>
   go_region_held3 (fun w' => w'.cell? ⟨w.heap.size, 0, none⟩ = some (.pointer (some ⟨gw, 0, none⟩)) ∧ w'.cell? ⟨gw, 0, none⟩ = some (.pointer (some ⟨gb, 0, none⟩)) ∧ w'.cell? ⟨w.heap.size + 1 + 1, 0, none⟩ = some (.int .i64 a.K) ∧ w'.cell? ⟨w.heap.size + 1 + 1, 1, none⟩ = some (.int .i64 a.P) ∧ w'.cell? ⟨w.heap.size + 1 + 1, 2, none⟩ = some (.int .i64 a.N) ∧ w'.cell? ⟨w.heap.size + 1 + 1, 3, none⟩ = some (.int .u64 a.V) ∧ w'.cell? ⟨w.heap.size + 1 + 1, 4, none⟩ = some (.int .u64 a.U) ∧ w'.cell? ⟨w.heap.size + 1 + 1, 5, none⟩ = some (.slice A l cp))
    (go_keep)
    (first
      | (go_at_call 19; refine (do_ac (HSW.out.buf.alloc _).drew a HF.out (HOW.out.alloc _).drew HE.out).mono ?_; rintro e w1 ⟨s, rfl, hby, hst⟩; obtain ⟨A2, c2, rfl⟩ := hby.length; have hbk : w1.heap[WW.heap.size]? = _ := (hst.2.block WW.heap.size (by simp [World.drew]) (fun e => by rcases e with e | e <;> omega)).trans (Go.Deep.blk_alloc_new WW (.cells #[.int .u64 0, .bool false, .slice none 0 0] 50)); rw [hsz0] at hbk; obtain ⟨n0, n1, n2, nf0, nf1, nf2, _⟩ := AnsAt.of_blk hbk; clear hbk; have kf := fun (q : Addr) (hq : q.block < WW.heap.size) (hnn : ¬ Two gb hb q.block) => (((Touch.refl (Two gb hb) WW).alloc _).drew.trans hst.2).cell (p := q) hq hnn; have k1 := (kf ⟨gw, 0, none⟩ hgw hwb).trans hcw; have k0 := (kf ⟨w.heap.size, 0, none⟩ (by show w.heap.size < _; omega) (fun e => by rcases e with e | e <;> (have e2 : w.heap.size = _ := e; omega))).trans hc0; have k2 := (kf ⟨w.heap.size + 1 + 1, 0, none⟩ (by show w.heap.size + 1 + 1 < _; omega) (fun e => by rcases e with e | e <;> (have e2 : w.heap.size + 1 + 1 = _ := e; omega))).trans a0; have k3 := (kf ⟨w.heap.size + 1 + 1, 1, none⟩ (by show w.heap.size + 1 + 1 < _; omega) (fun e => by rcases e with e | e <;> (have e2 : w.heap.size + 1 + 1 = _ := e; omega))).trans a1; have k4 := (kf ⟨w.heap.size + 1 + 1, 2, none⟩ (by show w.heap.size + 1 + 1 < _; omega) (fun e => by rcases e with e | e <;> (have e2 : w.heap.size + 1 + 1 = _ := e; omega))).trans a2; have k5 := (kf ⟨w.heap.size + 1 + 1, 3, none⟩ (by show w.heap.size + 1 + 1 < _; omega) (fun e => by rcases e with e | e <;> (have e2 : w.heap.size + 1 + 1 = _ := e; omega))).trans a3; have k6 := (kf ⟨w.heap.size + 1 + 1, 4, none⟩ (by show w.heap.size + 1 + 1 < _; omega) (fun e => by rcases e with e | e <;> (have e2 : w.heap.size + 1 + 1 = _ := e; omega))).trans a4; have k7 := (kf ⟨w.heap.size + 1 + 1, 5, none⟩ (by show w.heap.size + 1 + 1 < _; omega) (fun e => by rcases e with e | e <;> (have e2 : w.heap.size + 1 + 1 = _ := e; omega))).trans a5; clear kf; have HST := Lib.hid (And.intro hby hst); clear hby hst)
      | (go_at_call 19; refine (do_ac HSW.out.buf.drew a HF.out HOW.out.drew HE.out).mono ?_; rintro e w1 ⟨s, rfl, hby, hst⟩; obtain ⟨A2, c2, rfl⟩ := hby.length; have kf := fun (q : Addr) (hq : q.block < WW.heap.size) (hnn : ¬ Two gb hb q.block) => ((Touch.refl (Two gb hb) WW).drew.trans hst.2).cell (p := q) hq hnn; have k1 := (kf ⟨gw, 0, none⟩ hgw hwb).trans hcw; have k0 := (kf ⟨w.heap.size, 0, none⟩ (by show w.heap.size < _; omega) (fun e => by rcases e with e | e <;> (have e2 : w.heap.size = _ := e; omega))).trans hc0; have k2 := (kf ⟨w.heap.size + 1 + 1, 0, none⟩ (by show w.heap.size + 1 + 1 < _; omega) (fun e => by rcases e with e | e <;> (have e2 : w.heap.size + 1 + 1 = _ := e; omega))).trans a0; have k3 := (kf ⟨w.heap.size + 1 + 1, 1, none⟩ (by show w.heap.size + 1 + 1 < _; omega) (fun e => by rcases e with e | e <;> (have e2 : w.heap.size + 1 + 1 = _ := e; omega))).trans a1; have k4 := (kf ⟨w.heap.size + 1 + 1, 2, none⟩ (by show w.heap.size + 1 + 1 < _; omega) (fun e => by rcases e with e | e <;> (have e2 : w.heap.size + 1 + 1 = _ := e; omega))).trans a2; have k5 := (kf ⟨w.heap.size + 1 + 1, 3, none⟩ (by show w.heap.size + 1 + 1 < _; omega) (fun e => by rcases e with e | e <;> (have e2 : w.heap.size + 1 + 1 = _ := e; omega))).trans a3; have k6 := (kf ⟨w.heap.size + 1 + 1, 4, none⟩ (by show w.heap.size + 1 + 1 < _; omega) (fun e => by rcases e with e | e <;> (have e2 : w.heap.size + 1 + 1 = _ := e; omega))).trans a4; have k7 := (kf ⟨w.heap.size + 1 + 1, 5, none⟩ (by show w.heap.size + 1 + 1 < _; omega) (fun e => by rcases e with e | e <;> (have e2 : w.heap.size + 1 + 1 = _ := e; omega))).trans a5; clear kf; have HST := Lib.hid (And.intro hby hst); clear hby hst))
   all_goals (go_wp2_with fail; go_meet)
   · exact ⟨_, _, _, _, rfl, rfl, DoneBox.late HST.out.1 HST.out.2⟩
   · exact ⟨_, _, _, _, rfl, rfl, DoneBox.early (by omega) (by omega) hsz0 HST.out.1 HST.out.2⟩
  case rest =>
    obtain ⟨g8, A2, l2, c2, rfl, rfl, hdb⟩ := hcut
    obtain ⟨wq, hwq⟩ : ∃ wq : World, wq = wc := ⟨_, rfl⟩
    subst hwq
    have hbx := HX.out.keep (W' := wq) fun k hk hl => hdb.st.2.block k hl fun e => by rcases e with e | e <;> omega
    have hsw := HSW.out.setBuf hdb.st
    have d0 : wq.cell? ⟨w.heap.size, 0, none⟩ = some (.pointer (some ⟨gw, 0, none⟩)) := by simp [World.cell?, hbx.wd]
    have p0 : wq.cell? ⟨w.heap.size + 1, 0, none⟩ = some (.int .i64 p.K) := by simp [World.cell?, hbx.pk]
    have p1 : wq.cell? ⟨w.heap.size + 1, 1, none⟩ = some (.int .i64 p.A) := by simp [World.cell?, hbx.pk]
    have p2 : wq.cell? ⟨w.heap.size + 1, 2, none⟩ = some (.int .i64 p.N) := by simp [World.cell?, hbx.pk]
    have b0 : wq.cell? ⟨w.heap.size + 1 + 1, 0, none⟩ = some (.int .i64 a.K) := by simp [World.cell?, hbx.ac]
    have b1 : wq.cell? ⟨w.heap.size + 1 + 1, 1, none⟩ = some (.int .i64 a.P) := by simp [World.cell?, hbx.ac]
    have b2 : wq.cell? ⟨w.heap.size + 1 + 1, 2, none⟩ = some (.int .i64 a.N) := by simp [World.cell?, hbx.ac]
    have b3 : wq.cell? ⟨w.heap.size + 1 + 1, 3, none⟩ = some (.int .u64 a.V) := by simp [World.cell?, hbx.ac]
    have b4 : wq.cell? ⟨w.heap.size + 1 + 1, 4, none⟩ = some (.int .u64 a.U) := by simp [World.cell?, hbx.ac]
    have b5 : wq.cell? ⟨w.heap.size + 1 + 1, 5, none⟩ = some (.slice A l cp) := by simp [World.cell?, hbx.ac]
    generalize hxq : a.ans st.m = x at *
    have HXQ := Lib.hid hxq
    clear hxq
    have x0 : wq.cell? ⟨g8, 0, none⟩ = some (.int .u64 x.V) := by simp [World.cell?, hdb.blk]
    have x1 : wq.cell? ⟨g8, 1, none⟩ = some (.bool x.D) := by simp [World.cell?, hdb.blk]
    have x2 : wq.cell? ⟨g8, 2, none⟩ = some (.slice A2 l2 c2) := by simp [World.cell?, hdb.blk]
    have HD := Lib.hid hdb
    have HBX := Lib.hid hbx
    have HS1 := Lib.hid hsw
    clear hdb hbx hsw hc0 hcw a0 a1 a2 a3 a4 a5 g4 g5 g6 g4'
    go_upto_region 6 with fail
    generalize hW5 : wq.alloc (.cells #[.int .i64 p.K, .int .i64 p.A, .int .i64 p.N, .int .i64 a.K, .int .i64 a.P, .int .i64 a.N, .int .u64 a.V, .int .u64 a.U, .slice A l cp, .int .u64 x.V, .bool x.D, .slice A2 l2 c2] 114) = W5
    have hb5 : Below wq.heap.size wq W5 := by rw [← hW5]; exact (Below.refl _ wq).alloc (Nat.le_refl _) _
    have HE5 : Hid (EvAt wq.heap.size W5 p a x (.slice A l cp) (.slice A2 l2 c2)) := Lib.hid ⟨by rw [← hW5]; exact Go.Deep.blk_alloc_new _ _⟩
    have HS5 := Lib.hid (HS1.out.below hb5)
    have HT5 := Lib.hid ((Touch.of_below hb0).trans (((HD.out.st.2.mono fun k hk => (show Own o k by unfold Own; rcases hk with rfl | rfl; rw [HS.out.ogb]; simp; rw [HS.out.ohb]; simp))).trans (Touch.of_below hb5)))
    have HBX5 := Lib.hid (HBX.out.keep (W' := W5) fun k _ hk => hb5.block k hk)
    have HO5 := Lib.hid (((HOW.out.keepTouch HD.out.st.2 fun k hk e => by have := (HOW.out.ge hk).1; rcases e with rfl | rfl; (have := HBS.out k (by rw [HS.out.ogb]; simp); omega); (have := HBS.out k (by rw [HS.out.ohb]; simp); omega)).below hb5))
    have HY5 := Lib.hid (HD.out.by_.below hb5)
    have hwc := HD.out.st.2.size
    have hls5 := HE5.out.lt
    have hgw5 := HS5.out.gw_lt
    have d5 : W5.cell? ⟨w.heap.size, 0, none⟩ = some (.pointer (some ⟨gw, 0, none⟩)) := by simp [World.cell?, HBX5.out.wd]
    have hls0 := lt_of_cell d5
    have w35 := HS5.out.w3
    clear hW5 x0 x1 x2 p0 p1 p2 b0 b1 b2 b3 b4 b5 d0
    go_cut [] (fun wx => ∃ (o2 : Nat → Pt) (tv2 : Value) (ts2 : List Tx), Sw wx o2 gw ga gb hb ax tv2 ts2 { st with m := a.aft st.m, c := nxt st.c, tr := st.tr ++ [⟨p, a, x⟩] } ∧ Touch (Own o) W5 wx ∧ ∀ k, k < W5.heap.size → o2 k = o k)
    case first =>
      have v0 := HE5.out.e0
      have v1 := HE5.out.e1
      have v2 := HE5.out.e2
      have v3 := HE5.out.e3
      have v4 := HE5.out.e4
      have v5 := HE5.out.e5
      have v6 := HE5.out.e6
      have v7 := HE5.out.e7
      have v8 := HE5.out.e8
      have v9 := HE5.out.e9
      have v10 := HE5.out.e10
      have v11 := HE5.out.e11
      have nn0 := HS5.out.row_ne (k := w.heap.size) (by rw [HS.out.new_no (Nat.le_refl _)]; simp)
      have nng := HS5.out.row_ne (k := gw) (by rw [HS.out.ogw]; simp)
      have nn5 := HS5.out.row_ne (k := wq.heap.size) (by rw [HS.out.new_no (k := wq.heap.size) (by omega)]; simp)
      have hz3 := HS5.out.wfree 3
      have hn1 : ¬ wq.heap.size = w.heap.size := by omega
      have hn2 : ¬ gw = wq.heap.size := by omega
      have hn3 : ¬ gw = w.heap.size := by omega
      refine wp_region_noPanic ?_
      refine wp_region_held_drew (S := (fun w' => w'.cell? ⟨w.heap.size, 0, none⟩ = some (.pointer (some ⟨gw, 0, none⟩)) ∧ w'.cell? ⟨wq.heap.size, 0, none⟩ = some (.int .i64 p.K) ∧ w'.cell? ⟨wq.heap.size, 1, none⟩ = some (.int .i64 p.A) ∧ w'.cell? ⟨wq.heap.size, 2, none⟩ = some (.int .i64 p.N) ∧ w'.cell? ⟨wq.heap.size, 3, none⟩ = some (.int .i64 a.K) ∧ w'.cell? ⟨wq.heap.size, 4, none⟩ = some (.int .i64 a.P) ∧ w'.cell? ⟨wq.heap.size, 5, none⟩ = some (.int .i64 a.N) ∧ w'.cell? ⟨wq.heap.size, 6, none⟩ = some (.int .u64 a.V) ∧ w'.cell? ⟨wq.heap.size, 7, none⟩ = some (.int .u64 a.U) ∧ w'.cell? ⟨wq.heap.size, 8, none⟩ = some (.slice A l cp) ∧ w'.cell? ⟨wq.heap.size, 9, none⟩ = some (.int .u64 x.V) ∧ w'.cell? ⟨wq.heap.size, 10, none⟩ = some (.bool x.D) ∧ w'.cell? ⟨wq.heap.size, 11, none⟩ = some (.slice A2 l2 c2))) (by kernel_rfl) ?_ (fun hHeld => ?_)
      · (try dsimp only); go_keep
      refine wpAnyH_take (i := 0) (oi := _) (v := ?_) rfl (by kernel_rfl) (by kernel_rfl) (by kernel_rfl) (fun _ _ _ h => h) (Or.inl ⟨by rfl, ?_⟩) (by assumption) ?_
      rotate_left
      · (intro w hSw; (try dsimp only at hSw); go_simp; try (with_reducible rfl))
      try simp only [Act.put, Array.reduceGetElem, List.setIfInBounds_toArray, List.set_cons_zero, List.set_cons_succ]
      refine wpAnyH_take (i := 1) (oi := _) (v := ?_) rfl (by kernel_rfl) (by kernel_rfl) (by kernel_rfl) (fun _ _ _ h => h) (Or.inl ⟨by rfl, ?_⟩) (by assumption) ?_
      rotate_left
      · (intro w hSw; (try dsimp only at hSw); go_simp; try (with_reducible rfl))
      try simp only [Act.put, Array.reduceGetElem, List.setIfInBounds_toArray, List.set_cons_zero, List.set_cons_succ]
      refine wpAnyH_take (i := 2) (oi := _) (v := ?_) rfl (by kernel_rfl) (by kernel_rfl) (by kernel_rfl) (fun _ _ _ h => h) (Or.inl ⟨by rfl, ?_⟩) (by assumption) ?_
      rotate_left
      · (intro w hSw; (try dsimp only at hSw); go_simp; try (with_reducible rfl))
      try simp only [Act.put, Array.reduceGetElem, List.setIfInBounds_toArray, List.set_cons_zero, List.set_cons_succ]
      refine wpAnyH_take (i := 3) (oi := _) (v := ?_) rfl (by kernel_rfl) (by kernel_rfl) (by kernel_rfl) (fun _ _ _ h => h) (Or.inl ⟨by rfl, ?_⟩) (by assumption) ?_
      rotate_left
      · (intro w hSw; (try dsimp only at hSw); go_simp; try (with_reducible rfl))
      try simp only [Act.put, Array.reduceGetElem, List.setIfInBounds_toArray, List.set_cons_zero, List.set_cons_succ]
      refine wpAnyH_take (i := 5) (oi := _) (v := ?_) rfl (by kernel_rfl) (by kernel_rfl) (by kernel_rfl) (fun _ _ _ h => h) (Or.inl ⟨by rfl, ?_⟩) (by assumption) ?_
      rotate_left
      · (intro w hSw; (try dsimp only at hSw); go_simp; try (with_reducible rfl))
      try simp only [Act.put, Array.reduceGetElem, List.setIfInBounds_toArray, List.set_cons_zero, List.set_cons_succ]
      refine wpAnyH_ready (rs := [4, 6]) (by kernel_rfl) (by simp) ?_
      refine AllReadyH.cons (o := _) rfl (fun K9 hK => ?_) ?_
      rotate_left
      · refine AllReadyH.cons (o := _) rfl (fun K9 hK => ?_) ?_
        rotate_left
        · exact AllReadyH.nil
        go_simp
        go_at_call 80
        refine (copied_any p a x A A2 l l2 cp c2 _ HO5.out.bytes.drew HY5.out.bytes.drew HF.out.few (by have := HXF.out.few; omega)).mono ?_
        rintro e w6 ⟨B1, m1, q1, B2, m2, q2, rfl, ho1, ho2, hbl⟩
        have hbl5 := below_drew hbl
        have kf := fun (q : Addr) (hq : q.block < W5.heap.size) (_ : True) => hbl5.cell (p := q) hq
        have kb := (kf ⟨w.heap.size, 0, none⟩ hls0 trivial).trans d5
        have kg := (kf ⟨gw, 3, none⟩ hgw5 trivial).trans w35
        have kv0 := (kf ⟨wq.heap.size, 0, none⟩ hls5 trivial).trans v0
        have kv1 := (kf ⟨wq.heap.size, 1, none⟩ hls5 trivial).trans v1
        have kv2 := (kf ⟨wq.heap.size, 2, none⟩ hls5 trivial).trans v2
        have kv3 := (kf ⟨wq.heap.size, 3, none⟩ hls5 trivial).trans v3
        have kv4 := (kf ⟨wq.heap.size, 4, none⟩ hls5 trivial).trans v4
        have kv5 := (kf ⟨wq.heap.size, 5, none⟩ hls5 trivial).trans v5
        have kv6 := (kf ⟨wq.heap.size, 6, none⟩ hls5 trivial).trans v6
        have kv7 := (kf ⟨wq.heap.size, 7, none⟩ hls5 trivial).trans v7
        have kv8 := (kf ⟨wq.heap.size, 8, none⟩ hls5 trivial).trans v8
        have kv9 := (kf ⟨wq.heap.size, 9, none⟩ hls5 trivial).trans v9
        have kv10 := (kf ⟨wq.heap.size, 10, none⟩ hls5 trivial).trans v10
        have kv11 := (kf ⟨wq.heap.size, 11, none⟩ hls5 trivial).trans v11
        clear kf
        have HCO := Lib.hid (And.intro ho1 ho2)
        clear ho1 ho2 hbl
        have kga : ∀ q, (w6.alloc q).cell? ⟨gw, 3, none⟩ = some tv := fun q => ((hbl5.alloc hbl5.size q).cell (p := ⟨gw, 3, none⟩) hgw5).trans w35
        refine hK.out _ _ ?_ (fun hHeld => ?_)
        · (try dsimp only); go_keep
        clear hK K9
        try simp only [Act.put, Array.reduceGetElem, List.setIfInBounds_toArray, List.set_cons_zero, List.set_cons_succ]
        refine wpAnyH_ready (rs := [4, 7]) (by kernel_rfl) (by simp) ?_
        refine AllReadyH.cons (o := _) rfl (fun K9 hK => ?_) ?_
        rotate_left
        · refine AllReadyH.cons (o := _) rfl (fun K9 hK => ?_) ?_
          rotate_left
          · exact AllReadyH.nil
          go_simp
          refine hK.out _ _ ?_ (fun hHeld => ?_)
          · (try dsimp only); go_keep
          clear hK K9
          try simp only [Act.put, Array.reduceGetElem, List.setIfInBounds_toArray, List.set_cons_zero, List.set_cons_succ]
          refine wpAnyH_ready (rs := [4]) (by kernel_rfl) (by simp) ?_
          refine AllReadyH.cons (o := _) rfl (fun K9 hK => ?_) ?_
          rotate_left
          · exact AllReadyH.nil
          go_simp
          refine hK.out _ _ ?_ (fun hHeld => ?_)
          · (try dsimp only); go_keep
          clear hK K9
          try simp only [Act.put, Array.reduceGetElem, List.setIfInBounds_toArray, List.set_cons_zero, List.set_cons_succ]
          refine wpAnyH_ready (rs := [8]) (by kernel_rfl) (by simp) ?_
          refine AllReadyH.cons (o := _) rfl (fun K9 hK => ?_) ?_
          rotate_left
          · exact AllReadyH.nil
          refine step_app_ev rfl _ _ rfl tv ts.length _ ⟨⟨p, a, x⟩, .slice B1 m1 q1, .slice B2 m2 q2⟩ _ _ rfl rfl ((HS5.out.below hbl5).alloc _).tr.row (Go.Deep.blk_alloc_new _ _) rfl rfl HL.out ?_
          intro v7 w7 happ
          obtain ⟨g7, q7, rfl⟩ := happ.form
          have kf7 := fun (q : Addr) (hq : q.block < W5.heap.size) (hnq : tv.ownBlock ≠ some q.block) => app_cell (hbl5.alloc hbl5.size _) happ hq hnq
          have kb7 := (kf7 ⟨w.heap.size, 0, none⟩ hls0 nn0).trans d5
          have kg7 := (kf7 ⟨gw, 3, none⟩ hgw5 nng).trans w35
          have kw0 := (kf7 ⟨wq.heap.size, 0, none⟩ hls5 nn5).trans v0
          have kw1 := (kf7 ⟨wq.heap.size, 1, none⟩ hls5 nn5).trans v1
          have kw2 := (kf7 ⟨wq.heap.size, 2, none⟩ hls5 nn5).trans v2
          have kw3 := (kf7 ⟨wq.heap.size, 3, none⟩ hls5 nn5).trans v3
          have kw4 := (kf7 ⟨wq.heap.size, 4, none⟩ hls5 nn5).trans v4
          have kw5 := (kf7 ⟨wq.heap.size, 5, none⟩ hls5 nn5).trans v5
          have kw6 := (kf7 ⟨wq.heap.size, 6, none⟩ hls5 nn5).trans v6
          have kw7 := (kf7 ⟨wq.heap.size, 7, none⟩ hls5 nn5).trans v7
          have kw8 := (kf7 ⟨wq.heap.size, 8, none⟩ hls5 nn5).trans v8
          have kw9 := (kf7 ⟨wq.heap.size, 9, none⟩ hls5 nn5).trans v9
          have kw10 := (kf7 ⟨wq.heap.size, 10, none⟩ hls5 nn5).trans v10
          have kw11 := (kf7 ⟨wq.heap.size, 11, none⟩ hls5 nn5).trans v11
          have kz7 := (app_frozen (hbl5.alloc hbl5.size _) happ (q := ⟨gw, 3, none⟩) hgw5 nng).trans hz3
          clear kf7
          have HAP := Lib.hid happ
          clear happ
          try go_simp
          refine hK.out _ _ ?_ (fun hHeld => ?_)
          · (try dsimp only); go_keep
          clear hK K9
          try simp only [Act.put, Array.reduceGetElem, List.setIfInBounds_toArray, List.set_cons_zero, List.set_cons_succ]
          refine wpAnyH_take (i := 9) (oi := _) (v := ?_) rfl (by kernel_rfl) (by kernel_rfl) (by kernel_rfl) (fun _ _ _ h => h) (Or.inl ⟨by rfl, ?_⟩) (by assumption) ?_
          rotate_left
          · (intro w hSw; (try dsimp only at hSw); go_simp; try (with_reducible rfl))
          try simp only [Act.put, Array.reduceGetElem, List.setIfInBounds_toArray, List.set_cons_zero, List.set_cons_succ]
          refine wpAnyH_take (i := 10) (oi := _) (v := ?_) rfl (by kernel_rfl) (by kernel_rfl) (by kernel_rfl) (fun _ _ _ h => h) (Or.inl ⟨by rfl, ?_⟩) (by assumption) ?_
          rotate_left
          · (intro w hSw; (try dsimp only at hSw); go_simp; try (with_reducible rfl))
          try simp only [Act.put, Array.reduceGetElem, List.setIfInBounds_toArray, List.set_cons_zero, List.set_cons_succ]
          refine wpAnyH_ready (rs := [11]) (by kernel_rfl) (by simp) ?_
          refine AllReadyH.cons (o := _) rfl (fun K9 hK => ?_) ?_
          rotate_left
          · exact AllReadyH.nil
          go_simp
          refine hK.out _ _ ?_ (fun hHeld => ?_)
          · (try dsimp only); go_keep
          clear hK K9
          try simp only [Act.put, Array.reduceGetElem, List.setIfInBounds_toArray, List.set_cons_zero, List.set_cons_succ]
          refine wpAnyH_done (by kernel_rfl) ?_ _
          refine NoPanic.normal ?_
          go_wp2_with fail
          go_meet
          exact HS5.out.setTrace' (hbl5.alloc hbl5.size _) ⟨⟨p, a, x⟩, .slice B1 m1 q1, .slice B2 m2 q2⟩ HCO.out.1 HCO.out.2 HAP.out ⟨HF.out.few, by have := HXF.out.few; show x.bs.length ≤ _; omega⟩
        go_simp
        refine hK.out _ _ ?_ (fun hHeld => ?_)
        · (try dsimp only); go_keep
        clear hK K9
        try simp only [Act.put, Array.reduceGetElem, List.setIfInBounds_toArray, List.set_cons_zero, List.set_cons_succ]
        refine wpAnyH_ready (rs := [7]) (by kernel_rfl) (by simp) ?_
        refine AllReadyH.cons (o := _) rfl (fun K9 hK => ?_) ?_
        rotate_left
        · exact AllReadyH.nil
        go_simp
        refine hK.out _ _ ?_ (fun hHeld => ?_)
        · (try dsimp only); go_keep
        clear hK K9
        try simp only [Act.put, Array.reduceGetElem, List.setIfInBounds_toArray, List.set_cons_zero, List.set_cons_succ]
        refine wpAnyH_ready (rs := [8]) (by kernel_rfl) (by simp) ?_
        refine AllReadyH.cons (o := _) rfl (fun K9 hK => ?_) ?_
        rotate_left
        · exact AllReadyH.nil
        refine step_app_ev rfl _ _ rfl tv ts.length _ ⟨⟨p, a, x⟩, .slice B1 m1 q1, .slice B2 m2 q2⟩ _ _ rfl rfl ((HS5.out.below hbl5).alloc _).tr.row (Go.Deep.blk_alloc_new _ _) rfl rfl HL.out ?_
        intro v7 w7 happ
        obtain ⟨g7, q7, rfl⟩ := happ.form
        have kf7 := fun (q : Addr) (hq : q.block < W5.heap.size) (hnq : tv.ownBlock ≠ some q.block) => app_cell (hbl5.alloc hbl5.size _) happ hq hnq
        have kb7 := (kf7 ⟨w.heap.size, 0, none⟩ hls0 nn0).trans d5
        have kg7 := (kf7 ⟨gw, 3, none⟩ hgw5 nng).trans w35
        have kw0 := (kf7 ⟨wq.heap.size, 0, none⟩ hls5 nn5).trans v0
        have kw1 := (kf7 ⟨wq.heap.size, 1, none⟩ hls5 nn5).trans v1
        have kw2 := (kf7 ⟨wq.heap.size, 2, none⟩ hls5 nn5).trans v2
        have kw3 := (kf7 ⟨wq.heap.size, 3, none⟩ hls5 nn5).trans v3
        have kw4 := (kf7 ⟨wq.heap.size, 4, none⟩ hls5 nn5).trans v4
        have kw5 := (kf7 ⟨wq.heap.size, 5, none⟩ hls5 nn5).trans v5
        have kw6 := (kf7 ⟨wq.heap.size, 6, none⟩ hls5 nn5).trans v6
        have kw7 := (kf7 ⟨wq.heap.size, 7, none⟩ hls5 nn5).trans v7
        have kw8 := (kf7 ⟨wq.heap.size, 8, none⟩ hls5 nn5).trans v8
        have kw9 := (kf7 ⟨wq.heap.size, 9, none⟩ hls5 nn5).trans v9
        have kw10 := (kf7 ⟨wq.heap.size, 10, none⟩ hls5 nn5).trans v10
        have kw11 := (kf7 ⟨wq.heap.size, 11, none⟩ hls5 nn5).trans v11
        have kz7 := (app_frozen (hbl5.alloc hbl5.size _) happ (q := ⟨gw, 3, none⟩) hgw5 nng).trans hz3
        clear kf7
        have HAP := Lib.hid happ
        clear happ
        try go_simp
        refine hK.out _ _ ?_ (fun hHeld => ?_)
        · (try dsimp only); go_keep
        clear hK K9
        try simp only [Act.put, Array.reduceGetElem, List.setIfInBounds_toArray, List.set_cons_zero, List.set_cons_succ]
        refine wpAnyH_take (i := 9) (oi := _) (v := ?_) rfl (by kernel_rfl) (by kernel_rfl) (by kernel_rfl) (fun _ _ _ h => h) (Or.inl ⟨by rfl, ?_⟩) (by assumption) ?_
        rotate_left
        · (intro w hSw; (try dsimp only at hSw); go_simp; try (with_reducible rfl))
        try simp only [Act.put, Array.reduceGetElem, List.setIfInBounds_toArray, List.set_cons_zero, List.set_cons_succ]
        refine wpAnyH_take (i := 10) (oi := _) (v := ?_) rfl (by kernel_rfl) (by kernel_rfl) (by kernel_rfl) (fun _ _ _ h => h) (Or.inl ⟨by rfl, ?_⟩) (by assumption) ?_
        rotate_left
        · (intro w hSw; (try dsimp only at hSw); go_simp; try (with_reducible rfl))
        try simp only [Act.put, Array.reduceGetElem, List.setIfInBounds_toArray, List.set_cons_zero, List.set_cons_succ]
        refine wpAnyH_ready (rs := [11]) (by kernel_rfl) (by simp) ?_
        refine AllReadyH.cons (o := _) rfl (fun K9 hK => ?_) ?_
        rotate_left
        · exact AllReadyH.nil
        go_simp
        refine hK.out _ _ ?_ (fun hHeld => ?_)
        · (try dsimp only); go_keep
        clear hK K9
        try simp only [Act.put, Array.reduceGetElem, List.setIfInBounds_toArray, List.set_cons_zero, List.set_cons_succ]
        refine wpAnyH_done (by kernel_rfl) ?_ _
        refine NoPanic.normal ?_
        go_wp2_with fail
        go_meet
        exact HS5.out.setTrace' (hbl5.alloc hbl5.size _) ⟨⟨p, a, x⟩, .slice B1 m1 q1, .slice B2 m2 q2⟩ HCO.out.1 HCO.out.2 HAP.out ⟨HF.out.few, by have := HXF.out.few; show x.bs.length ≤ _; omega⟩
      go_simp
      refine hK.out _ _ ?_ (fun hHeld => ?_)
      · (try dsimp only); go_keep
      clear hK K9
      try simp only [Act.put, Array.reduceGetElem, List.setIfInBounds_toArray, List.set_cons_zero, List.set_cons_succ]
      refine wpAnyH_ready (rs := [6]) (by kernel_rfl) (by simp) ?_
      refine AllReadyH.cons (o := _) rfl (fun K9 hK => ?_) ?_
      rotate_left
      · exact AllReadyH.nil
      go_simp
      go_at_call 80
      refine (copied_any p a x A A2 l l2 cp c2 _ HO5.out.bytes.drew HY5.out.bytes.drew HF.out.few (by have := HXF.out.few; omega)).mono ?_
      rintro e w6 ⟨B1, m1, q1, B2, m2, q2, rfl, ho1, ho2, hbl⟩
      have hbl5 := below_drew hbl
      have kf := fun (q : Addr) (hq : q.block < W5.heap.size) (_ : True) => hbl5.cell (p := q) hq
      have kb := (kf ⟨w.heap.size, 0, none⟩ hls0 trivial).trans d5
      have kg := (kf ⟨gw, 3, none⟩ hgw5 trivial).trans w35
      have kv0 := (kf ⟨wq.heap.size, 0, none⟩ hls5 trivial).trans v0
      have kv1 := (kf ⟨wq.heap.size, 1, none⟩ hls5 trivial).trans v1
      have kv2 := (kf ⟨wq.heap.size, 2, none⟩ hls5 trivial).trans v2
      have kv3 := (kf ⟨wq.heap.size, 3, none⟩ hls5 trivial).trans v3
      have kv4 := (kf ⟨wq.heap.size, 4, none⟩ hls5 trivial).trans v4
      have kv5 := (kf ⟨wq.heap.size, 5, none⟩ hls5 trivial).trans v5
      have kv6 := (kf ⟨wq.heap.size, 6, none⟩ hls5 trivial).trans v6
      have kv7 := (kf ⟨wq.heap.size, 7, none⟩ hls5 trivial).trans v7
      have kv8 := (kf ⟨wq.heap.size, 8, none⟩ hls5 trivial).trans v8
      have kv9 := (kf ⟨wq.heap.size, 9, none⟩ hls5 trivial).trans v9
      have kv10 := (kf ⟨wq.heap.size, 10, none⟩ hls5 trivial).trans v10
      have kv11 := (kf ⟨wq.heap.size, 11, none⟩ hls5 trivial).trans v11
      clear kf
      have HCO := Lib.hid (And.intro ho1 ho2)
      clear ho1 ho2 hbl
      have kga : ∀ q, (w6.alloc q).cell? ⟨gw, 3, none⟩ = some tv := fun q => ((hbl5.alloc hbl5.size q).cell (p := ⟨gw, 3, none⟩) hgw5).trans w35
      refine hK.out _ _ ?_ (fun hHeld => ?_)
      · (try dsimp only); go_keep
      clear hK K9
      try simp only [Act.put, Array.reduceGetElem, List.setIfInBounds_toArray, List.set_cons_zero, List.set_cons_succ]
      refine wpAnyH_ready (rs := [7]) (by kernel_rfl) (by simp) ?_
      refine AllReadyH.cons (o := _) rfl (fun K9 hK => ?_) ?_
      rotate_left
      · exact AllReadyH.nil
      go_simp
      refine hK.out _ _ ?_ (fun hHeld => ?_)
      · (try dsimp only); go_keep
      clear hK K9
      try simp only [Act.put, Array.reduceGetElem, List.setIfInBounds_toArray, List.set_cons_zero, List.set_cons_succ]
      refine wpAnyH_ready (rs := [8]) (by kernel_rfl) (by simp) ?_
      refine AllReadyH.cons (o := _) rfl (fun K9 hK => ?_) ?_
      rotate_left
      · exact AllReadyH.nil
      refine step_app_ev rfl _ _ rfl tv ts.length _ ⟨⟨p, a, x⟩, .slice B1 m1 q1, .slice B2 m2 q2⟩ _ _ rfl rfl ((HS5.out.below hbl5).alloc _).tr.row (Go.Deep.blk_alloc_new _ _) rfl rfl HL.out ?_
      intro v7 w7 happ
      obtain ⟨g7, q7, rfl⟩ := happ.form
      have kf7 := fun (q : Addr) (hq : q.block < W5.heap.size) (hnq : tv.ownBlock ≠ some q.block) => app_cell (hbl5.alloc hbl5.size _) happ hq hnq
      have kb7 := (kf7 ⟨w.heap.size, 0, none⟩ hls0 nn0).trans d5
      have kg7 := (kf7 ⟨gw, 3, none⟩ hgw5 nng).trans w35
      have kw0 := (kf7 ⟨wq.heap.size, 0, none⟩ hls5 nn5).trans v0
      have kw1 := (kf7 ⟨wq.heap.size, 1, none⟩ hls5 nn5).trans v1
      have kw2 := (kf7 ⟨wq.heap.size, 2, none⟩ hls5 nn5).trans v2
      have kw3 := (kf7 ⟨wq.heap.size, 3, none⟩ hls5 nn5).trans v3
      have kw4 := (kf7 ⟨wq.heap.size, 4, none⟩ hls5 nn5).trans v4
      have kw5 := (kf7 ⟨wq.heap.size, 5, none⟩ hls5 nn5).trans v5
      have kw6 := (kf7 ⟨wq.heap.size, 6, none⟩ hls5 nn5).trans v6
      have kw7 := (kf7 ⟨wq.heap.size, 7, none⟩ hls5 nn5).trans v7
      have kw8 := (kf7 ⟨wq.heap.size, 8, none⟩ hls5 nn5).trans v8
      have kw9 := (kf7 ⟨wq.heap.size, 9, none⟩ hls5 nn5).trans v9
      have kw10 := (kf7 ⟨wq.heap.size, 10, none⟩ hls5 nn5).trans v10
      have kw11 := (kf7 ⟨wq.heap.size, 11, none⟩ hls5 nn5).trans v11
      have kz7 := (app_frozen (hbl5.alloc hbl5.size _) happ (q := ⟨gw, 3, none⟩) hgw5 nng).trans hz3
      clear kf7
      have HAP := Lib.hid happ
      clear happ
      try go_simp
      refine hK.out _ _ ?_ (fun hHeld => ?_)
      · (try dsimp only); go_keep
      clear hK K9
      try simp only [Act.put, Array.reduceGetElem, List.setIfInBounds_toArray, List.set_cons_zero, List.set_cons_succ]
      refine wpAnyH_take (i := 9) (oi := _) (v := ?_) rfl (by kernel_rfl) (by kernel_rfl) (by kernel_rfl) (fun _ _ _ h => h) (Or.inl ⟨by rfl, ?_⟩) (by assumption) ?_
      rotate_left
      · (intro w hSw; (try dsimp only at hSw); go_simp; try (with_reducible rfl))
      try simp only [Act.put, Array.reduceGetElem, List.setIfInBounds_toArray, List.set_cons_zero, List.set_cons_succ]
      refine wpAnyH_take (i := 10) (oi := _) (v := ?_) rfl (by kernel_rfl) (by kernel_rfl) (by kernel_rfl) (fun _ _ _ h => h) (Or.inl ⟨by rfl, ?_⟩) (by assumption) ?_
      rotate_left
      · (intro w hSw; (try dsimp only at hSw); go_simp; try (with_reducible rfl))
      try simp only [Act.put, Array.reduceGetElem, List.setIfInBounds_toArray, List.set_cons_zero, List.set_cons_succ]
      refine wpAnyH_ready (rs := [11]) (by kernel_rfl) (by simp) ?_
      refine AllReadyH.cons (o := _) rfl (fun K9 hK => ?_) ?_
      rotate_left
      · exact AllReadyH.nil
      go_simp
      refine hK.out _ _ ?_ (fun hHeld => ?_)
      · (try dsimp only); go_keep
      clear hK K9
      try simp only [Act.put, Array.reduceGetElem, List.setIfInBounds_toArray, List.set_cons_zero, List.set_cons_succ]
      refine wpAnyH_done (by kernel_rfl) ?_ _
      refine NoPanic.normal ?_
      go_wp2_with fail
      go_meet
      exact HS5.out.setTrace' (hbl5.alloc hbl5.size _) ⟨⟨p, a, x⟩, .slice B1 m1 q1, .slice B2 m2 q2⟩ HCO.out.1 HCO.out.2 HAP.out ⟨HF.out.few, by have := HXF.out.few; show x.bs.length ≤ _; omega⟩
    case rest =>
      obtain ⟨o2, tv2, ts2, hs2, ht2, ho2⟩ := hcut
      have hno : ∀ k, w.heap.size ≤ k → o k = .no := fun k hk => HS.out.new_no hk
      have hnoO : ∀ k, w.heap.size ≤ k → ¬ Own o k := fun k hk e => e (hno k hk)
      have hE := HE5.out.of_block (ht2.block _ hls5 (hnoO _ (by omega)))
      have hbx := HBX5.out.keep (W' := wc) fun k hk hl => ht2.block k hl (hnoO k hk)
      have hO := HO5.out.keepTouch ht2 fun k hk e => by have := (HO5.out.ge hk).1; have := HBS.out k e; omega
      have hY := HY5.out.lt.touch ht2 fun k hk => hnoO k (by have := hk.1; omega)
      have e0 := hE.e0
      have e1 := hE.e1
      have e2 := hE.e2
      have e3 := hE.e3
      have e4 := hE.e4
      have e5 := hE.e5
      have e6 := hE.e6
      have e7 := hE.e7
      have e8 := hE.e8
      have e9 := hE.e9
      have e10 := hE.e10
      have e11 := hE.e11
      have hszc := ht2.size
      have HE7 := Lib.hid hE
      have HBX7 := Lib.hid hbx
      have HO7 := Lib.hid hO
      have HY7 := Lib.hid hY
      have HS7 := Lib.hid hs2
      have HT7 := Lib.hid ht2
      clear hE hbx hO hY hs2 ht2
      go_wp2_with fail
      refine (copied_any p a x A A2 l l2 cp c2 wc HO7.out.bytes HY7.out.bytes HF.out.few (by have := HXF.out.few; omega)).mono ?_
      rintro e w6 ⟨B1, m1, q1, B2, m2, q2, rfl, ho1, ho2b, hbl⟩
      have HY8 := Lib.hid ho2b
      have HW6 := Lib.hid hbl
      have hmf : ∀ (fn : Fn) (first cap : Array Value) (w : World), (Instr.makeFunc fn first cap).run Tryz.prog w = .ok (.func fn first cap) w := fun _ _ _ _ => rfl
      clear ho1 ho2b hbl e0 e1 e2 e3 e4 e5 e6 e7 e8 e9 e10 e11
      have hfa := fun u0 u1 u2 u3 u4 u5 u6 u7 u8 u9 u10 u11 w => field_ans u0 u1 u2 u3 u4 u5 u6 u7 u8 u9 u10 u11 w
      go_wp2_with fail
      generalize hW8 : w6.alloc (.cells #[.int .u64 x.V, .bool x.D, .slice B2 m2 q2] 50) = W8
      have hb6 : Below w6.heap.size w6 W8 := by rw [← hW8]; exact (Below.refl _ w6).alloc (Nat.le_refl _) _
      have hbt : W8.heap[w6.heap.size]? = some (.cells #[.int .u64 x.V, .bool x.D, .slice B2 m2 q2] 50 (0, 0)) := by rw [← hW8]; exact Go.Deep.blk_alloc_new _ _
      have hb8 := HW6.out.after hb6
      have hs8 := HS7.out.below hb8
      have hbx8 := HBX7.out.keep (W' := W8) fun k _ hk => hb8.block k hk
      have c0 : W8.cell? ⟨w.heap.size, 0, none⟩ = some (.pointer (some ⟨gw, 0, none⟩)) := by simp [World.cell?, hbx8.wd]
      have c1 : W8.cell? ⟨w.heap.size + 1, 1, none⟩ = some (.int .i64 (i : Nat)) := by rw [← HP.out]; simp [World.cell?, hbx8.pk]
      have hsz6 := HW6.out.size
      have ho20 : ∀ k, w.heap.size ≤ k → k < W5.heap.size → o2 k = .no := fun k h1 h2 => (ho2 k h2).trans (hno k h1)
      have hbt8 := (Array.getElem?_eq_some_iff.1 hbt).1
      have hcall := stepIn_any hs8 i hi w.heap.size (w.heap.size + 1) w6.heap.size x HXF.out B2 m2 q2 c0 c1 hbt ((HY8.out.bytes).below hb6) (by show (st.ms i).next ≠ none; rw [HN.out]; simp) (ho20 _ (Nat.le_refl _) (by omega)) (ho20 _ (by omega) (by omega)) (HS7.out.new_no (by omega))
      have HCALL := Lib.hid hcall
      have HS8 := Lib.hid hs8
      have HE8 := Lib.hid (HE7.out.below hb8)
      have HBX8 := Lib.hid hbx8
      clear hW8 hbt hs8 hbx8 c0 c1 hcall
      refine (caught_any _ _ W8 (enter_take _) HCALL.out).mono ?_
      rintro e w9 ⟨rfl, hmv⟩
      obtain ⟨o3, hs9, ht9, ho9⟩ := HS8.out.setMach hi hmv
      have HE9 := Lib.hid (HE8.out.of_block (ht9.block _ HE8.out.lt fun e => e (ho20 _ (by omega) (by omega))))
      have HV9 := Lib.hid (HBX8.out.ev.of_block (ht9.block _ HBX8.out.ev.lt fun e => e (ho20 _ (by omega) (by omega))))
      have HS9 := Lib.hid hs9
      have HT9 := Lib.hid (And.intro ht9 ho9)
      clear hs9 ht9 ho9 hmv
      have e0 := HE9.out.e0
      have e1 := HE9.out.e1
      have e2 := HE9.out.e2
      have e3 := HE9.out.e3
      have e4 := HE9.out.e4
      have e5 := HE9.out.e5
      have e6 := HE9.out.e6
      have e7 := HE9.out.e7
      have e8 := HE9.out.e8
      have e9 := HE9.out.e9
      have e10 := HE9.out.e10
      have e11 := HE9.out.e11
      have r0 := HV9.out.e0
      have r1 := HV9.out.e1
      have r2 := HV9.out.e2
      have r3 := HV9.out.e3
      have r4 := HV9.out.e4
      have r5 := HV9.out.e5
      have r6 := HV9.out.e6
      have r7 := HV9.out.e7
      have r8 := HV9.out.e8
      have r9 := HV9.out.e9
      have r10 := HV9.out.e10
      have r11 := HV9.out.e11
      have f0 := HV9.out.free 0
      have f1 := HV9.out.free 1
      have f2 := HV9.out.free 2
      have f3 := HV9.out.free 3
      have f4 := HV9.out.free 4
      have f5 := HV9.out.free 5
      have f6 := HV9.out.free 6
      have f7 := HV9.out.free 7
      have f8 := HV9.out.free 8
      have f9 := HV9.out.free 9
      have f10 := HV9.out.free 10
      have f11 := HV9.out.free 11
      go_wp2
      refine bodyPost_ret (v := .tuple #[.agg #[.int .i64 p.K, .int .i64 p.A, .int .i64 p.N, .int .i64 a.K, .int .i64 a.P, .int .i64 a.N, .int .u64 a.V, .int .u64 a.U, .slice A l cp, .int .u64 x.V, .bool x.D, .slice A2 l2 c2], .int .i64 0]) (by simp [results, Tryz.results53, go_sem, r0, r1, r2, r3, r4, r5, r6, r7, r8, r9, r10, r11]) rfl ?_
      have ht12 := twelve_touch w9 (w.heap.size + 1 + 1 + 1) (.int .i64 p.K) (.int .i64 p.A) (.int .i64 p.N) (.int .i64 a.K) (.int .i64 a.P) (.int .i64 a.N) (.int .u64 a.V) (.int .u64 a.U) (.slice A l cp) (.int .u64 x.V) (.bool x.D) (.slice A2 l2 c2)
      have hsz9 := HT9.out.1.size
      have hsz8 := hb8.size
      have hall := own_trans ((HT5.out.trans HT7.out).trans (Touch.of_below hb8)) (fun k hk => ho2 k (by omega)) HT9.out.1 HT9.out.2
      have hy := ((HY7.out.below hb8).touch HT9.out.1 fun k hk e => e (ho20 k (by have := hk.1; omega) hk.2)).touch ht12 fun k hk e => by have h1 := hk.1; have h2 : k = _ := e; omega
      have hx := HXQ.out
      subst hx
      refine ⟨o3, A2, l2, c2, tv2, ts2, rfl, hy.mono fun k hk _ => ⟨by have := hk.1; omega, ((HT9.out.2 k (by have := hk.2; omega)).trans (ho20 k (by have := hk.1; omega) hk.2))⟩, HS9.out.touch ht12 fun k hk e => ?_, hall.1.trans' ht12 (by omega), hall.2⟩
      have h2 : k = _ := e
      exact hk ((HT9.out.2 k (by omega)).trans (ho20 k (by omega) (by omega)))
end Go.Proofs.YtbfgbnalnjdheaaGreat
namespace Go.Proofs.YtbfgbnalnjdheaaGreat
open Go.RowKit

/-- An event is traced. -/
def St.push (st : St) (e : Ev) : St := { st with tr := st.tr ++ [e] }
/-- An actor is killed. -/
def St.kill (st : St) (i : Nat) : St := { st with dead := upd st.dead i true }

/-- What a pick does: the state, the error, the event. -/
def St.pick (st : St) (p : Pk) : St × Int × Ev :=
  if st.chk p = 0 then
    if p.K = 1 then ((st.kill p.A.toNat).push (.bare p), 0, .bare p)
    else if p.K = 2 then ((st.ticks (wrap64 (st.clock + p.N)) st.na).push (.bare p), 0, .bare p)
    else match (st.ms p.A.toNat).next with
      | none => (st.push (.bare p), 0, .bare p)
      | some a => if a.err st.nw = 0 then (st.did p p.A.toNat a, 0, ⟨p, a, a.ans st.m⟩) else (st.kill p.A.toNat, a.err st.nw, Ev.zero)
  else (st, st.chk p, Ev.zero)

/-- A pick was done: its event is told, its bytes lie in new memory that is nobody's. -/
def PickTold (o : Nat → Pt) (gw ga gb hb : Nat) (ax : Nat → Value) (st' : St) (r : Int) (v : Ev) (w : World) (e : Ending) (w' : World) : Prop :=
  ∃ o' A1 l1 c1 A2 l2 c2 tv' ts', e = .returned (.tuple #[.agg #[.int .i64 v.pk.K, .int .i64 v.pk.A, .int .i64 v.pk.N, .int .i64 v.ac.K, .int .i64 v.ac.P, .int .i64 v.ac.N, .int .u64 v.ac.V, .int .u64 v.ac.U, .slice A1 l1 c1, .int .u64 v.an.V, .bool v.an.D, .slice A2 l2 c2], .int .i64 r]) ∧
    BytesIn (fun k => w.heap.size ≤ k ∧ o' k = .no) w' (.slice A1 l1 c1) v.ac.bs ∧ BytesIn (fun k => w.heap.size ≤ k ∧ o' k = .no) w' (.slice A2 l2 c2) v.an.bs ∧
    Sw w' o' gw ga gb hb ax tv' ts' st' ∧ Touch (Own o) w w' ∧ ∀ k, k < w.heap.size → o' k = o k

/-- What Pick boxes: the pick, a place for the event. -/
structure PickBox (b : Nat) (W : World) (p : Pk) : Prop where
  pk : W.heap[b]? = some (.cells #[.int .i64 p.K, .int .i64 p.A, .int .i64 p.N] 112 (0, 0))
  ev : EvNew (b + 1) W

theorem PickBox.keep {b : Nat} {W W' : World} {p : Pk} (h : PickBox b W p) (hk : ∀ k, b ≤ k → k < W.heap.size → W'.heap[k]? = W.heap[k]?) : PickBox b W' p :=
  ⟨(hk b (Nat.le_refl _) (Array.getElem?_eq_some_iff.1 h.pk).1).trans h.pk, h.ev.of_block (hk _ (Nat.le_succ _) h.ev.lt)⟩

theorem pick_boxes (w : World) (p : Pk) (W : World) (hW : W = (w.alloc (.cells #[.int .i64 p.K, .int .i64 p.A, .int .i64 p.N] 112)).alloc (.cells #[.int .i64 0, .int .i64 0, .int .i64 0, .int .i64 0, .int .i64 0, .int .i64 0, .int .u64 0, .int .u64 0, .slice none 0 0, .int .u64 0, .bool false, .slice none 0 0] 114)) :
    Below w.heap.size w W ∧ PickBox w.heap.size W p ∧ W.heap.size = w.heap.size + 1 + 1 := by
  subst hW
  have HW := ((Below.refl w.heap.size w).alloc (Nat.le_refl _) (.cells #[.int .i64 p.K, .int .i64 p.A, .int .i64 p.N] 112)).alloc (by simp) (.cells #[.int .i64 0, .int .i64 0, .int .i64 0, .int .i64 0, .int .i64 0, .int .i64 0, .int .u64 0, .int .u64 0, .slice none 0 0, .int .u64 0, .bool false, .slice none 0 0] 114)
  have e1 : (w.alloc (.cells #[.int .i64 p.K, .int .i64 p.A, .int .i64 p.N] 112)).heap.size = w.heap.size + 1 := by simp
  have x0 := Go.Deep.blk_alloc_new w (.cells #[.int .i64 p.K, .int .i64 p.A, .int .i64 p.N] 112)
  generalize w.alloc (.cells #[.int .i64 p.K, .int .i64 p.A, .int .i64 p.N] 112) = W1 at *
  have x1 := Go.Deep.blk_alloc_new W1 (.cells #[.int .i64 0, .int .i64 0, .int .i64 0, .int .i64 0, .int .i64 0, .int .i64 0, .int .u64 0, .int .u64 0, .slice none 0 0, .int .u64 0, .bool false, .slice none 0 0] 114)
  rw [e1] at x1
  exact ⟨HW, ⟨(Below.heap_alloc W1 _ w.heap.size (by omega)).trans x0, ⟨x1⟩⟩, by simp [e1]⟩

end Go.Proofs.YtbfgbnalnjdheaaGreat
namespace Go.Proofs.YtbfgbnalnjdheaaGreat
open Go.RowKit

end Go.Proofs.YtbfgbnalnjdheaaGreat
namespace Go.Proofs.YtbfgbnalnjdheaaGreat
open Go.RowKit

end Go.Proofs.YtbfgbnalnjdheaaGreat
namespace Go.Proofs.YtbfgbnalnjdheaaGreat
open Go.RowKit

end Go.Proofs.YtbfgbnalnjdheaaGreat
namespace Go.Proofs.YtbfgbnalnjdheaaGreat
open Go.RowKit

theorem six_blk {W : World} {b : Nat} {u0 u1 u2 u3 u4 u5 : Value} {T : TypeId} (h : W.heap[b]? = some (.cells #[u0, u1, u2, u3, u4, u5] T (0, 0))) (v0 v1 v2 v3 v4 v5 : Value) : (six W b v0 v1 v2 v3 v4 v5).heap[b]? = some (.cells #[v0, v1, v2, v3, v4, v5] T (0, 0)) := by
  simp [six, World.setCell, Array.getElem?_modify, h]

end Go.Proofs.YtbfgbnalnjdheaaGreat
namespace Go.Proofs.YtbfgbnalnjdheaaGreat
open Go.RowKit

end Go.Proofs.YtbfgbnalnjdheaaGreat
namespace Go.Proofs.YtbfgbnalnjdheaaGreat
open Go.RowKit

theorem St.chk_actor {st : St} {p : Pk} (h0 : st.chk p = 0) (hK : p.K = 0 ∨ p.K = 1) : ∃ i : Nat, p.A = (i : Nat) ∧ i < st.na ∧ st.dead i = false := by
  unfold St.chk at h0
  rw [if_pos hK] at h0
  by_cases hA : hasB st.na p.A = true
  · rw [if_pos hA] at h0
    obtain ⟨a0, a1⟩ := hasB_yes hA
    obtain ⟨i, hi⟩ := Int.eq_ofNat_of_zero_le a0
    refine ⟨i, hi, by omega, ?_⟩
    by_cases hd : st.dead p.A.toNat = true
    · rw [if_pos hd] at h0; cases h0
    · rw [hi, Int.toNat_natCast] at hd
      simpa using hd
  · rw [if_neg hA] at h0; cases h0

theorem St.chk_kind {st : St} {p : Pk} (h0 : st.chk p = 0) : p.K = 0 ∨ p.K = 1 ∨ p.K = 2 := by
  unfold St.chk at h0
  by_cases hK : p.K = 0 ∨ p.K = 1
  · omega
  · rw [if_neg hK] at h0
    by_cases h2 : p.K = 2 ∧ 0 ≤ p.N ∧ p.N ≤ 1099511627776
    · exact .inr (.inr h2.1)
    · rw [if_neg h2] at h0; cases h0

theorem St.pick_no {st : St} {p : Pk} (h0 : ¬ st.chk p = 0) : st.pick p = (st, st.chk p, Ev.zero) := by
  unfold St.pick
  rw [if_neg h0]
theorem St.pick_kill {st : St} {p : Pk} (h0 : st.chk p = 0) (h1 : p.K = 1) : st.pick p = ((st.kill p.A.toNat).push (.bare p), 0, .bare p) := by
  unfold St.pick
  rw [if_pos h0, if_pos h1]
theorem St.pick_tick {st : St} {p : Pk} (h0 : st.chk p = 0) (h2 : p.K = 2) : st.pick p = ((st.ticks (wrap64 (st.clock + p.N)) st.na).push (.bare p), 0, .bare p) := by
  unfold St.pick
  rw [if_pos h0, if_neg (by omega), if_pos h2]
theorem St.pick_end {st : St} {p : Pk} (h0 : st.chk p = 0) (hk : p.K = 0) (hn : (st.ms p.A.toNat).next = none) : st.pick p = (st.push (.bare p), 0, .bare p) := by
  unfold St.pick
  rw [if_pos h0, if_neg (by omega), if_neg (by omega), hn]
theorem St.pick_ok {st : St} {p : Pk} {a : Ac} (h0 : st.chk p = 0) (hk : p.K = 0) (hn : (st.ms p.A.toNat).next = some a) (he : a.err st.nw = 0) : st.pick p = (st.did p p.A.toNat a, 0, ⟨p, a, a.ans st.m⟩) := by
  unfold St.pick
  rw [if_pos h0, if_neg (by omega), if_neg (by omega), hn]
  exact if_pos he
theorem St.pick_bad {st : St} {p : Pk} {a : Ac} (h0 : st.chk p = 0) (hk : p.K = 0) (hn : (st.ms p.A.toNat).next = some a) (he : ¬ a.err st.nw = 0) : st.pick p = (st.kill p.A.toNat, a.err st.nw, Ev.zero) := by
  unfold St.pick
  rw [if_pos h0, if_neg (by omega), if_neg (by omega), hn]
  exact if_neg he

end Go.Proofs.YtbfgbnalnjdheaaGreat
