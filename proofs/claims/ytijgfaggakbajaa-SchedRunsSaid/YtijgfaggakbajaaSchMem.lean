/-
  Layer 6's scheduler in memory: who owns which block; what turns, and what stays.
-/
import Derived.Test.YtijgfaggakbajaaSchMachs
import Derived.Test.YtijgfaggakbajaaMembufNew
namespace Go.Proofs.Ytijgfaggakbajaa
open Go.RowKit

/-- Whose a block is: nobody's, the scheduler's own, its actors', its buffer's, a machine's, its trace's row's, its trace's bytes'. -/
inductive Pt where
  | no
  | wd
  | ac
  | bf
  | ma (i : Nat)
  | ro
  | tx

/-- An event, and where its bytes stand. -/
structure Tx where
  e : Ev
  s1 : Value
  s2 : Value

/-- Its cells. -/
def Tx.cells (t : Tx) : List Value := [.int .i64 t.e.pk.K, .int .i64 t.e.pk.A, .int .i64 t.e.pk.N, .int .i64 t.e.ac.K, .int .i64 t.e.ac.P, .int .i64 t.e.ac.N, .int .u64 t.e.ac.V, .int .u64 t.e.ac.U, t.s1, .int .u64 t.e.an.V, .bool t.e.an.D, t.s2]

/-- An event's bytes are few. -/
def Ev.Small (e : Ev) : Prop := e.ac.bs.length ≤ 1073741824 ∧ e.an.bs.length ≤ 1073741824

/-- A scheduler's state. -/
structure St where
  na : Nat
  ms : Nat → Mc
  dead : Nat → Bool
  m : Nat → Nat
  nw : Nat
  c : Int
  clock : Int
  tr : List Ev

/-- The cells of an actor's row. -/
def acCell (ax : Nat → Value) (dead : Nat → Bool) (j : Nat) : Value := if j % 2 = 0 then ax (j / 2) else .bool (dead (j / 2))

theorem acCell_even (ax : Nat → Value) (dead : Nat → Bool) (i : Nat) : acCell ax dead (i * 2) = ax i := by
  unfold acCell
  rw [if_pos (by omega)]
  congr 1
  omega
theorem acCell_odd (ax : Nat → Value) (dead : Nat → Bool) (i : Nat) : acCell ax dead (i * 2 + 1) = .bool (dead i) := by
  unfold acCell
  rw [if_neg (by omega)]
  congr 2
  omega

/-- A trace stands in memory. -/
structure TrAt (w : World) (o : Nat → Pt) (tv : Value) (ts : List Tx) : Prop where
  row : w.ownsRow 0 51 12 tv ts.length (ts.flatMap Tx.cells)
  txt : ∀ t ∈ ts, BytesIn (fun k => o k = .tx) w t.s1 t.e.ac.bs ∧ BytesIn (fun k => o k = .tx) w t.s2 t.e.an.bs
  own : ∀ k, tv.ownBlock = some k → o k = .ro

theorem ownsRow_keep {w w' : World} {base : Nat} {T : TypeId} {n k : Nat} {v : Value} {xs : List Value} (h : w.ownsRow base T n v k xs) (hb : ∀ q, v.ownBlock = some q → w'.heap[q]? = w.heap[q]?) : w'.ownsRow base T n v k xs := by
  obtain ⟨h1, h2⟩ := h
  refine ⟨h1, ?_⟩
  rcases h2 with h2 | ⟨g, cap, cur, hv, h3, h4, h5⟩
  · exact .inl h2
  · exact .inr ⟨g, cap, cur, hv, h3, (hb g (by rw [hv]; rfl)).trans h4, h5⟩

namespace TrAt
variable {w w' : World} {o o' : Nat → Pt} {tv : Value} {ts : List Tx}
theorem keep (h : TrAt w o tv ts) (hs : w.heap.size ≤ w'.heap.size) (hb : ∀ k, o k ≠ .no → w'.heap[k]? = w.heap[k]?) : TrAt w' o tv ts :=
  ⟨ownsRow_keep h.row fun q hq => hb q (by rw [h.own q hq]; simp), fun t ht => ⟨(h.txt t ht).1.keep hs fun k hk _ => hb k (by rw [hk]; simp), (h.txt t ht).2.keep hs fun k hk _ => hb k (by rw [hk]; simp)⟩, h.own⟩
theorem own_to (h : TrAt w o tv ts) (ho : ∀ k, k < w.heap.size → o' k = o k) : TrAt w o' tv ts :=
  ⟨h.row, fun t ht => ⟨(h.txt t ht).1.mono fun k hk hl => (ho k hl).trans hk, (h.txt t ht).2.mono fun k hk hl => (ho k hl).trans hk⟩, fun k hk => (ho k (World.ownsRow.lt h.row k hk).2).trans (h.own k hk)⟩
end TrAt

/-- A scheduler stands in memory: its own block gw, its actors' block ga, its buffer's blocks gb and hb; who owns what. -/
structure Sw (w : World) (o : Nat → Pt) (gw ga gb hb : Nat) (ax : Nat → Value) (tv : Value) (ts : List Tx) (st : St) : Prop where
  head : w.heap[gw]? = some (.cells #[.pointer (some ⟨gb, 0, none⟩), .slice (some ⟨ga, 0, none⟩) st.na st.na, .int .i64 st.clock, tv] 83 (0, 0))
  row : w.rowIs ga 87 (2 * st.na) (acCell ax st.dead)
  buf : Buf w gb hb st.m st.nw st.c
  mach : ∀ i, i < st.na → MRep w (fun k => o k = .ma i) (ax i) (st.ms i)
  tr : TrAt w o tv ts
  told : st.tr = ts.map Tx.e
  ogw : o gw = .wd
  oga : o ga = .ac
  ogb : o gb = .bf
  ohb : o hb = .bf
  lt : ∀ k, o k ≠ .no → k < w.heap.size
  few : st.na ≤ 1000
  small : ∀ e ∈ st.tr, e.Small

/-- The blocks of a scheduler. -/
def Own (o : Nat → Pt) (k : Nat) : Prop := o k ≠ .no

/-- New blocks of F become p's. -/
noncomputable def claimed (o : Nat → Pt) (n : Nat) (F : Nat → Prop) (p : Pt) : Nat → Pt := fun k => @ite _ (n ≤ k ∧ F k) (Classical.propDecidable _) p (o k)
theorem claimed_new {o : Nat → Pt} {n : Nat} {F : Nat → Prop} {p : Pt} {k : Nat} (h : n ≤ k) (hF : F k) : claimed o n F p k = p := @if_pos _ (Classical.propDecidable _) ⟨h, hF⟩ _ _ _
theorem claimed_not {o : Nat → Pt} {n : Nat} {F : Nat → Prop} {p : Pt} {k : Nat} (h : ¬ (n ≤ k ∧ F k)) : claimed o n F p k = o k := @if_neg _ (Classical.propDecidable _) h _ _ _
theorem claimed_old {o : Nat → Pt} {n : Nat} {F : Nat → Prop} {p : Pt} {k : Nat} (h : k < n) : claimed o n F p k = o k := claimed_not fun e => by omega

namespace Sw
variable {w w' : World} {o o' : Nat → Pt} {gw ga gb hb : Nat} {ax : Nat → Value} {tv : Value} {ts : List Tx} {st : St}
theorem keep (h : Sw w o gw ga gb hb ax tv ts st) (hs : w.heap.size ≤ w'.heap.size) (hk : ∀ k, o k ≠ .no → w'.heap[k]? = w.heap[k]?) : Sw w' o gw ga gb hb ax tv ts st :=
  ⟨(hk gw (by rw [h.ogw]; simp)).trans h.head, h.row.of_block (hk ga (by rw [h.oga]; simp)), h.buf.of_blocks (hk gb (by rw [h.ogb]; simp)) (hk hb (by rw [h.ohb]; simp)),
    fun i hi => (h.mach i hi).keep hs fun k hm => hk k (by rw [hm]; simp), h.tr.keep hs hk, h.told, h.ogw, h.oga, h.ogb, h.ohb, fun k hn => Nat.lt_of_lt_of_le (h.lt k hn) hs, h.few, h.small⟩
theorem below (h : Sw w o gw ga gb hb ax tv ts st) (hb' : Below w.heap.size w w') : Sw w' o gw ga gb hb ax tv ts st := h.keep hb'.size fun k hk => hb'.block k (h.lt k hk)
theorem touch {S : Nat → Prop} (h : Sw w o gw ga gb hb ax tv ts st) (ht : Touch S w w') (hn : ∀ k, o k ≠ .no → ¬ S k) : Sw w' o gw ga gb hb ax tv ts st := h.keep ht.size fun k hk => ht.block k (h.lt k hk) (hn k hk)
theorem alloc (h : Sw w o gw ga gb hb ax tv ts st) (q : Obj) : Sw (w.alloc q) o gw ga gb hb ax tv ts st := h.below ((Below.refl _ _).alloc (Nat.le_refl _) q)
theorem drew (h : Sw w o gw ga gb hb ax tv ts st) : Sw w.drew o gw ga gb hb ax tv ts st := h.below ((Below.refl _ _).drew)

theorem gw_lt (h : Sw w o gw ga gb hb ax tv ts st) : gw < w.heap.size := h.lt gw (by rw [h.ogw]; simp)
theorem ga_lt (h : Sw w o gw ga gb hb ax tv ts st) : ga < w.heap.size := h.lt ga (by rw [h.oga]; simp)
theorem ne_wa (h : Sw w o gw ga gb hb ax tv ts st) : gw ≠ ga := fun e => by have h1 := h.ogw; rw [e, h.oga] at h1; cases h1
theorem w0 (h : Sw w o gw ga gb hb ax tv ts st) : w.cell? ⟨gw, 0, none⟩ = some (.pointer (some ⟨gb, 0, none⟩)) := by simp [World.cell?, h.head]
theorem w1 (h : Sw w o gw ga gb hb ax tv ts st) : w.cell? ⟨gw, 1, none⟩ = some (.slice (some ⟨ga, 0, none⟩) st.na st.na) := by simp [World.cell?, h.head]
theorem w2 (h : Sw w o gw ga gb hb ax tv ts st) : w.cell? ⟨gw, 2, none⟩ = some (.int .i64 st.clock) := by simp [World.cell?, h.head]
theorem w3 (h : Sw w o gw ga gb hb ax tv ts st) : w.cell? ⟨gw, 3, none⟩ = some tv := by simp [World.cell?, h.head]
theorem wfree (h : Sw w o gw ga gb hb ax tv ts st) (i : Nat) : w.frozen? ⟨gw, i, none⟩ = false := by simp [World.frozen?, h.head]
theorem amach (h : Sw w o gw ga gb hb ax tv ts st) {i : Nat} (hi : i < st.na) : w.cell? ⟨ga, i * 2, none⟩ = some (ax i) := by
  rw [h.row.cell (by omega), acCell_even]
theorem adead (h : Sw w o gw ga gb hb ax tv ts st) {i : Nat} (hi : i < st.na) : w.cell? ⟨ga, i * 2 + 1, none⟩ = some (.bool (st.dead i)) := by
  rw [h.row.cell (by omega), acCell_odd]
theorem afree (h : Sw w o gw ga gb hb ax tv ts st) (i : Nat) : w.frozen? ⟨ga, i, none⟩ = false := h.row.frozen i

/-- Blocks that were not there may be anybody's. -/
theorem own_to (h : Sw w o gw ga gb hb ax tv ts st) (ho : ∀ k, k < w.heap.size → o' k = o k) (hl : ∀ k, o' k ≠ .no → k < w.heap.size) : Sw w o' gw ga gb hb ax tv ts st :=
  ⟨h.head, h.row, h.buf, fun i hi => (h.mach i hi).mono fun k hk => (ho k (h.lt k (by rw [hk]; simp))).trans hk, h.tr.own_to ho, h.told, (ho gw h.gw_lt).trans h.ogw, (ho ga h.ga_lt).trans h.oga, (ho gb h.buf.g_lt).trans h.ogb, (ho hb h.buf.h_lt).trans h.ohb, hl, h.few, h.small⟩

/-- An actor is killed. -/
theorem setDead (h : Sw w o gw ga gb hb ax tv ts st) {i : Nat} : Sw (w.setCell ⟨ga, i * 2 + 1, none⟩ (.bool true)) o gw ga gb hb ax tv ts { st with dead := upd st.dead i true } := by
  have hne : ∀ k, k ≠ ga → (w.setCell ⟨ga, i * 2 + 1, none⟩ (.bool true)).heap[k]? = w.heap[k]? := fun k hk => Below.heap_setCell _ _ _ _ hk
  have hpt : ∀ k, o k ≠ .ac → k ≠ ga := fun k hk e => hk (e ▸ h.oga)
  have hs : w.heap.size ≤ (w.setCell ⟨ga, i * 2 + 1, none⟩ (.bool true)).heap.size := by simp [World.setCell]
  refine ⟨(hne gw h.ne_wa).trans h.head, ?_, h.buf.of_blocks (hne gb (hpt gb (by rw [h.ogb]; simp))) (hne hb (hpt hb (by rw [h.ohb]; simp))), fun j hj => (h.mach j hj).keep hs fun k hk => hne k (hpt k (by rw [hk]; simp)),
    ⟨ownsRow_keep h.tr.row fun q hq => hne q (hpt q (by rw [h.tr.own q hq]; simp)), fun t ht => ⟨(h.tr.txt t ht).1.keep hs fun k hk _ => hne k (hpt k (by rw [hk]; simp)), (h.tr.txt t ht).2.keep hs fun k hk _ => hne k (hpt k (by rw [hk]; simp))⟩, h.tr.own⟩,
    h.told, h.ogw, h.oga, h.ogb, h.ohb, fun k hk => Nat.lt_of_lt_of_le (h.lt k hk) hs, h.few, h.small⟩
  refine (h.row.set (i * 2 + 1) (.bool true)).congr fun j hj => ?_
  show _ = acCell ax (upd st.dead i true) j
  unfold acCell
  by_cases e : j = i * 2 + 1
  · subst e
    rw [if_pos rfl, if_neg (by omega), show (i * 2 + 1) / 2 = i by omega, upd_same]
  · rw [if_neg e]
    by_cases e2 : j % 2 = 0
    · rw [if_pos e2, if_pos e2]
    · rw [if_neg e2, if_neg e2, upd_other _ _ _ (by omega)]

/-- The clock is another. -/
theorem setClock (h : Sw w o gw ga gb hb ax tv ts st) (x : Int) : Sw (w.setCell ⟨gw, 2, none⟩ (.int .i64 x)) o gw ga gb hb ax tv ts { st with clock := x } := by
  have hne : ∀ k, k ≠ gw → (w.setCell ⟨gw, 2, none⟩ (.int .i64 x)).heap[k]? = w.heap[k]? := fun k hk => Below.heap_setCell _ _ _ _ hk
  have hpt : ∀ k, o k ≠ .wd → k ≠ gw := fun k hk e => hk (e ▸ h.ogw)
  have hs : w.heap.size ≤ (w.setCell ⟨gw, 2, none⟩ (.int .i64 x)).heap.size := by simp [World.setCell]
  refine ⟨blkS h.head _, h.row.of_block (hne ga h.ne_wa.symm), h.buf.of_blocks (hne gb (hpt gb (by rw [h.ogb]; simp))) (hne hb (hpt hb (by rw [h.ohb]; simp))), fun j hj => (h.mach j hj).keep hs fun k hk => hne k (hpt k (by rw [hk]; simp)),
    ⟨ownsRow_keep h.tr.row fun q hq => hne q (hpt q (by rw [h.tr.own q hq]; simp)), fun t ht => ⟨(h.tr.txt t ht).1.keep hs fun k hk _ => hne k (hpt k (by rw [hk]; simp)), (h.tr.txt t ht).2.keep hs fun k hk _ => hne k (hpt k (by rw [hk]; simp))⟩, h.tr.own⟩,
    h.told, h.ogw, h.oga, h.ogb, h.ohb, fun k hk => Nat.lt_of_lt_of_le (h.lt k hk) hs, h.few, h.small⟩

/-- The buffer did an access. -/
theorem setBuf (h : Sw w o gw ga gb hb ax tv ts st) {m : Nat → Nat} {c : Int} (hst : Stored gb hb m st.nw c w w') : Sw w' o gw ga gb hb ax tv ts { st with m := m, c := c } := by
  have hpt : ∀ k, o k ≠ .bf → ¬ Two gb hb k := fun k hk e => by
    rcases e with e | e
    · exact hk (e ▸ h.ogb)
    · exact hk (e ▸ h.ohb)
  have hne : ∀ k, o k ≠ .bf → k < w.heap.size → w'.heap[k]? = w.heap[k]? := fun k hk hl => hst.2.block k hl (hpt k hk)
  have hn2 : ∀ k, o k ≠ .no → o k ≠ .bf → w'.heap[k]? = w.heap[k]? := fun k h1 h2 => hne k h2 (h.lt k h1)
  refine ⟨(hn2 gw (by rw [h.ogw]; simp) (by rw [h.ogw]; simp)).trans h.head, h.row.of_block (hn2 ga (by rw [h.oga]; simp) (by rw [h.oga]; simp)), hst.1, fun j hj => (h.mach j hj).keep hst.2.size fun k hk => hn2 k (by rw [hk]; simp) (by rw [hk]; simp),
    ⟨ownsRow_keep h.tr.row fun q hq => hn2 q (by rw [h.tr.own q hq]; simp) (by rw [h.tr.own q hq]; simp), fun t ht => ⟨(h.tr.txt t ht).1.keep hst.2.size fun k hk _ => hn2 k (by rw [hk]; simp) (by rw [hk]; simp), (h.tr.txt t ht).2.keep hst.2.size fun k hk _ => hn2 k (by rw [hk]; simp) (by rw [hk]; simp)⟩, h.tr.own⟩,
    h.told, h.ogw, h.oga, h.ogb, h.ohb, fun k hk => Nat.lt_of_lt_of_le (h.lt k hk) hst.2.size, h.few, h.small⟩

/-- A machine moved. -/
theorem setMach (h : Sw w o gw ga gb hb ax tv ts st) {i : Nat} (_hi : i < st.na) {s : Mc} (hm : Moved (fun k => o k = .ma i) (ax i) s w w') :
    ∃ o', Sw w' o' gw ga gb hb ax tv ts { st with ms := upd st.ms i s } ∧ Touch (Own o) w w' ∧ (∀ k, k < w.heap.size → o' k = o k) := by
  obtain ⟨F, hr, ht, hF⟩ := hm
  have hn2 : ∀ k, o k ≠ .no → o k ≠ .ma i → w'.heap[k]? = w.heap[k]? := fun k h1 h2 => ht.block k (h.lt k h1) h2
  refine ⟨claimed o w.heap.size F (.ma i), ⟨(hn2 gw (by rw [h.ogw]; simp) (by rw [h.ogw]; simp)).trans h.head, h.row.of_block (hn2 ga (by rw [h.oga]; simp) (by rw [h.oga]; simp)), h.buf.of_blocks (hn2 gb (by rw [h.ogb]; simp) (by rw [h.ogb]; simp)) (hn2 hb (by rw [h.ohb]; simp) (by rw [h.ohb]; simp)), fun j hj => ?_,
    ?_, h.told, ?_, ?_, ?_, ?_, fun k hk => ?_, h.few, h.small⟩, ht.mono fun k hk => by unfold Own; rw [hk]; simp, fun k hk => claimed_old hk⟩
  · by_cases e : j = i
    · subst e
      show MRep w' _ (ax j) (upd st.ms j s j)
      rw [upd_same]
      refine hr.mono fun k hk => ?_
      rcases hF k hk with e | ⟨e, _⟩
      · have := h.lt k (by rw [e]; simp)
        exact (claimed_old this).trans e
      · exact claimed_new e hk
    · show MRep w' _ (ax j) (upd st.ms i s j)
      rw [upd_other _ _ _ e]
      refine ((h.mach j hj).keep ht.size fun k hk => hn2 k (by rw [hk]; simp) (by rw [hk]; intro e2; injection e2 with e2; exact e e2)).mono fun k hk => ?_
      have := h.lt k (by rw [hk]; simp)
      exact (claimed_old this).trans hk
  · have h1 : TrAt w' o tv ts := ⟨ownsRow_keep h.tr.row fun q hq => hn2 q (by rw [h.tr.own q hq]; simp) (by rw [h.tr.own q hq]; simp), fun t ht2 => ⟨(h.tr.txt t ht2).1.keep ht.size fun k hk _ => hn2 k (by rw [hk]; simp) (by rw [hk]; simp), (h.tr.txt t ht2).2.keep ht.size fun k hk _ => hn2 k (by rw [hk]; simp) (by rw [hk]; simp)⟩, h.tr.own⟩
    have hlt : ∀ k, o k ≠ .no → ¬ (w.heap.size ≤ k ∧ F k) := fun k hk e => by have := h.lt k hk; omega
    exact ⟨h1.row, fun t ht2 => ⟨(h1.txt t ht2).1.mono fun k hk _ => (claimed_not (hlt k (by rw [hk]; simp))).trans hk, (h1.txt t ht2).2.mono fun k hk _ => (claimed_not (hlt k (by rw [hk]; simp))).trans hk⟩, fun k hk => (claimed_not (hlt k (by rw [h1.own k hk]; simp))).trans (h1.own k hk)⟩
  · exact (claimed_old h.gw_lt).trans h.ogw
  · exact (claimed_old h.ga_lt).trans h.oga
  · exact (claimed_old h.buf.g_lt).trans h.ogb
  · exact (claimed_old h.buf.h_lt).trans h.ohb
  · by_cases e : w.heap.size ≤ k ∧ F k
    · rcases hF k e.2 with e3 | e3
      · exact Nat.lt_of_lt_of_le (h.lt k (by rw [e3]; simp)) ht.size
      · exact e3.2
    · rw [claimed_not e] at hk
      exact Nat.lt_of_lt_of_le (h.lt k hk) ht.size
end Sw

/-- A scheduler stands in memory. -/
def SwX (w : World) (o : Nat → Pt) (gw gb hb : Nat) (st : St) : Prop := ∃ ga ax tv ts, Sw w o gw ga gb hb ax tv ts st

/-- What a call on a scheduler left: nothing but its own blocks was turned, and no block that was there changed hands. -/
def Went (o : Nat → Pt) (gw gb hb : Nat) (st : St) (w w' : World) (o' : Nat → Pt) : Prop :=
  SwX w' o' gw gb hb st ∧ Touch (Own o) w w' ∧ (∀ k, k < w.heap.size → o' k = o k)

theorem SwX.below {w w' : World} {o : Nat → Pt} {gw gb hb : Nat} {st : St} (h : SwX w o gw gb hb st) (hbl : Below w.heap.size w w') : SwX w' o gw gb hb st := by
  obtain ⟨ga, ax, tv, ts, h⟩ := h
  exact ⟨ga, ax, tv, ts, h.below hbl⟩
theorem SwX.touch {S : Nat → Prop} {w w' : World} {o : Nat → Pt} {gw gb hb : Nat} {st : St} (h : SwX w o gw gb hb st) (ht : Touch S w w') (hn : ∀ k, o k ≠ .no → ¬ S k) : SwX w' o gw gb hb st := by
  obtain ⟨ga, ax, tv, ts, h⟩ := h
  exact ⟨ga, ax, tv, ts, h.touch ht hn⟩
theorem SwX.lt {w : World} {o : Nat → Pt} {gw gb hb : Nat} {st : St} (h : SwX w o gw gb hb st) {k : Nat} (hk : o k ≠ .no) : k < w.heap.size := by
  obtain ⟨ga, ax, tv, ts, h⟩ := h
  exact h.lt k hk
end Go.Proofs.Ytijgfaggakbajaa
