/-
  Layer 6's statements: a job and a machine appended to their rows.
  Layer 6's statements: the machines of a list of jobs, as they stand in memory.
-/
import Derived.Test.YtijgfaggakbajaaSchMem
import Derived.Maps.AppendAt
import Derived.Test.YtijgfaggakbajaaSchNew
import Derived.Test.YtijgfaggakbajaaCopyMake
namespace Go.Proofs.Ytijgfaggakbajaa
open Go.RowKit

theorem infoMachine : (Try.prog.info? 85).map (fun i => (i.zero, i.size, i.bytes)) = some (some .nilIface, 1, 16) := by kernel_rfl
theorem infoRefJob : (Try.prog.info? 61).map (fun i => (i.zero, i.size, i.bytes)) = some (some (.agg #[.int .i64 0, .int .i64 0, .int .i64 0, .slice none 0 0, .slice none 0 0, .bool false]), 6, 80) := by kernel_rfl

/-- What appending an element to a row left. -/
structure AppRow (e : TypeId) (sz n : Nat) (v : Value) (zs : List Value) (w : World) (v' : Value) (w' : World) : Prop where
  row : w'.ownsRow 0 e sz v' (n + 1) zs
  grown : w.grownBy w' v.ownBlock
  lies : v'.ownBlock = v.ownBlock ∨ v'.ownBlock = some w.heap.size

theorem AppRow.form {e : TypeId} {sz n : Nat} {v v' : Value} {zs : List Value} {w w' : World} (h : AppRow e sz n v zs w v' w') : ∃ g cap, v' = .slice (some ⟨g, 0, none⟩) (n + 1) cap := by
  rcases h.row.2 with ⟨_, h0⟩ | ⟨g, cap, cur, hv, _⟩
  · omega
  · exact ⟨g, cap, hv⟩

set_option maxRecDepth 100000 in
theorem wpList_app_job {w : World} {ops : Array Oper} {rest : List Oper} {o : Oper} {a : Act} {Q : Exit → Act → World → Prop} (hgd : o.guard = none) (s x : Operand)
    (ho : o.op = .call { callee := .builtin .append, args := #[s, x], argTypes := #[34, 34] }) (v : Value) (n : Nat) (xs : List Value) (a0 a1 a2 a3 a4 a5 : Value) (g c : Nat)
    (hs : a.eval s = v) (hx : a.eval x = .slice (some ⟨g, 0, none⟩) 1 c) (hv : w.ownsRow 0 61 6 v n xs) (hg : w.heap[g]? = some (.cells #[a0, a1, a2, a3, a4, a5] 61 (0, 0)))
    (h1 : a0.oneCell' = true ∧ a1.oneCell' = true ∧ a2.oneCell' = true ∧ a3.oneCell' = true ∧ a4.oneCell' = true ∧ a5.oneCell' = true) (hl : n ≤ 1000000)
    (h : ∀ v' w', AppRow 61 6 n v (xs ++ [a0, a1, a2, a3, a4, a5]) w v' w' → wpList Try.prog ops Q rest (a.put o.dst v') w') : wpList Try.prog ops Q (o :: rest) a w := by
  obtain ⟨i0, hi, hz0, hz1, hz2⟩ := info_parts infoRefJob
  refine wpList_append_own_at (P := Try.prog) w hgd s x 34 ho 0 61 i0 _ 6 80 Try.underlying34 hi hz0 hz1 hz2 rfl (by decide) v n xs hs hv ⟨g, 0, none⟩ 1 c [a0, a1, a2, a3, a4, a5] hx rfl (by
      intro j u hj
      have e : (⟨g, 0, none⟩ : Addr).add j = ⟨g, 0 + j, none⟩ := by unfold Addr.add; split <;> simp_all
      rw [e, Nat.zero_add]
      simp only [World.cell?, hg]
      rw [← hj]
      simp) (by
      obtain ⟨b0, b1, b2, b3, b4, b5⟩ := h1
      intro u hu
      simp only [List.mem_cons, List.not_mem_nil, or_false] at hu
      rcases hu with rfl | rfl | rfl | rfl | rfl | rfl <;> assumption) (by unfold maxLen; omega) (by omega) (Nat.zero_le _) fun v' w' k1 k2 _ k4 => h v' w' ⟨k1, k2, k4⟩

set_option maxRecDepth 100000 in
theorem wpList_app_mach {w : World} {ops : Array Oper} {rest : List Oper} {o : Oper} {a : Act} {Q : Exit → Act → World → Prop} (hgd : o.guard = none) (s x : Operand)
    (ho : o.op = .call { callee := .builtin .append, args := #[s, x], argTypes := #[33, 33] }) (v : Value) (n : Nat) (xs : List Value) (a0 : Value) (g c : Nat)
    (hs : a.eval s = v) (hx : a.eval x = .slice (some ⟨g, 0, none⟩) 1 c) (hv : w.ownsRow 0 85 1 v n xs) (hg : w.heap[g]? = some (.cells #[a0] 85 (0, 0)))
    (h1 : a0.oneCell' = true) (hl : n ≤ 1000000)
    (h : ∀ v' w', AppRow 85 1 n v (xs ++ [a0]) w v' w' → wpList Try.prog ops Q rest (a.put o.dst v') w') : wpList Try.prog ops Q (o :: rest) a w := by
  obtain ⟨i0, hi, hz0, hz1, hz2⟩ := info_parts infoMachine
  refine wpList_append_own_at (P := Try.prog) w hgd s x 33 ho 0 85 i0 _ 1 16 Try.underlying33 hi hz0 hz1 hz2 rfl (by decide) v n xs hs hv ⟨g, 0, none⟩ 1 c [a0] hx rfl (by
      intro j u hj
      have e : (⟨g, 0, none⟩ : Addr).add j = ⟨g, 0 + j, none⟩ := by unfold Addr.add; split <;> simp_all
      rw [e, Nat.zero_add]
      simp only [World.cell?, hg]
      rw [← hj]
      simp) (by
      intro u hu
      simp only [List.mem_cons, List.not_mem_nil, or_false] at hu
      subst hu
      exact h1) (by unfold maxLen; omega) (by omega) (Nat.zero_le _) fun v' w' k1 k2 _ k4 => h v' w' ⟨k1, k2, k4⟩
end Go.Proofs.Ytijgfaggakbajaa
namespace Go.Proofs.Ytijgfaggakbajaa
open Go.RowKit

/-- A job that came in: its kind, place, number, and where its bytes stand. -/
structure Jb where
  K : Nat
  P : Nat
  N : Nat
  A : Option Addr
  L : Nat
  cap : Nat
  f : Nat → Nat

namespace Jb
/-- It reads so in w. -/
structure Is (j : Jb) (w : World) : Prop where
  k : j.K < 256
  p : j.P < 65536
  n : j.N < 65536
  isB : Mb.IsB j.f
  bytes : BytesAt w (.slice j.A j.L j.cap) (Mb.bl j.f 0 j.L)
  room : j.L ≤ j.cap
  few : j.cap ≤ 9223372036854775807
/-- Where it copies, and how much. -/
def at_ (j : Jb) : Int := (j.P : Int) % 300
def num (j : Jb) : Int := (j.N : Int) % 60
/-- Its machine. -/
def mc (j : Jb) : Mc :=
  if j.K % 3 = 0 then .copy (.wr j.at_ j.f) 0 j.L [] else if j.K % 3 = 1 then .copy (.ze j.at_) 0 (Cy.few j.num) [] else .copy (.rd j.at_) 0 (Cy.few j.num) []
/-- The plain job's cells. -/
def ref (j : Jb) (B : Value) : List Value := [.int .i64 ((j.K : Int) % 3), .int .i64 ((j.P : Int) % 300), .int .i64 ((j.N : Int) % 60), B, .slice none 0 0, .bool false]
end Jb

theorem Jb.Is.below {j : Jb} {w w' : World} (h : j.Is w) (hb : Below w.heap.size w w') : j.Is w' := ⟨h.k, h.p, h.n, h.isB, h.bytes.below hb, h.room, h.few⟩

/-- A slice of jobs stands in memory. -/
def JbsAt (w : World) (A : Option Addr) (n : Nat) (js : Nat → Jb) : Prop := 0 < n → ∃ b off, A = some ⟨b, off, none⟩ ∧ b < w.heap.size ∧ ∀ i, i < n → w.cell? ⟨b, off + i * 4, none⟩ = some (.int .u8 (js i).K) ∧ w.cell? ⟨b, off + i * 4 + 1, none⟩ = some (.int .u16 (js i).P) ∧ w.cell? ⟨b, off + i * 4 + 2, none⟩ = some (.int .u16 (js i).N) ∧ w.cell? ⟨b, off + i * 4 + 3, none⟩ = some (.slice (js i).A (js i).L (js i).cap) ∧ (js i).Is w

theorem JbsAt.below {w w' : World} {A : Option Addr} {n : Nat} {js : Nat → Jb} (h : JbsAt w A n js) (hb : Below w.heap.size w w') : JbsAt w' A n js := fun hp => by
  obtain ⟨b, off, e, hl, hc⟩ := h hp
  refine ⟨b, off, e, Nat.lt_of_lt_of_le hl hb.size, fun i hi => ?_⟩
  obtain ⟨c0, c1, c2, c3, hi⟩ := hc i hi
  have k := fun q => hb.cell (p := ⟨b, q, none⟩) hl
  exact ⟨(k _).trans c0, (k _).trans c1, (k _).trans c2, (k _).trans c3, hi.below hb⟩

/-- The cells of the first i of a list told by a function. -/
def upto {α : Type} (f : Nat → List α) (i : Nat) : List α := (List.range i).flatMap f
theorem upto_next {α : Type} (f : Nat → List α) (i : Nat) : upto f (i + 1) = upto f i ++ f i := by simp [upto, List.range_succ]
theorem upto_congr {α : Type} {f g : Nat → List α} {i : Nat} (h : ∀ j, j < i → f j = g j) : upto f i = upto g i := by
  unfold upto
  induction i with
  | zero => rfl
  | succ i ih => rw [List.range_succ, List.flatMap_append, List.flatMap_append, ih fun j hj => h j (by omega)]; simp [h i (Nat.lt_succ_self i)]

/-- The machines and the plain jobs of the first i jobs stand in memory, in new blocks. -/
structure MadeTo (w wr : World) (o : Nat → Pt) (js : Nat → Jb) (i : Nat) (V4 V5 : Value) (xs Bs : Nat → Value) : Prop where
  row : wr.ownsRow 0 85 1 V4 i (upto (fun j => [xs j]) i)
  jobs : wr.ownsRow 0 61 6 V5 i (upto (fun j => (js j).ref (Bs j)) i)
  own4 : ∀ k, V4.ownBlock = some k → o k = .ac
  own5 : ∀ k, V5.ownBlock = some k → o k = .ro
  txt : ∀ j, j < i → BytesIn (fun k => o k = .tx) wr (Bs j) (Mb.bl (js j).f 0 (js j).L)
  mach : ∀ j, j < i → MRep wr (fun k => o k = .ma j) (xs j) (js j).mc
  new : ∀ k, o k ≠ .no → w.heap.size ≤ k ∧ k < wr.heap.size
  low : Below w.heap.size w wr

theorem MadeTo.keep {w wr w' : World} {o : Nat → Pt} {js : Nat → Jb} {i : Nat} {V4 V5 : Value} {xs Bs : Nat → Value} (h : MadeTo w wr o js i V4 V5 xs Bs) (hb : Below wr.heap.size wr w') : MadeTo w w' o js i V4 V5 xs Bs :=
  ⟨ownsRow_keep h.row fun q hq => hb.block q (World.ownsRow.lt h.row q hq).2, ownsRow_keep h.jobs fun q hq => hb.block q (World.ownsRow.lt h.jobs q hq).2, h.own4, h.own5, fun j hj => (h.txt j hj).below hb,
    fun j hj => (h.mach j hj).keep hb.size fun k hk => hb.block k (h.new k (by rw [hk]; simp)).2, fun k hk => ⟨(h.new k hk).1, Nat.lt_of_lt_of_le (h.new k hk).2 hb.size⟩, h.low.trans (hb.mono h.low.size)⟩

theorem upto_len {α : Type} (f : Nat → List α) (i : Nat) : upto f (i + 1) = upto f i ++ f i := upto_next f i

/-- One job more: its bytes, the plain job, its machine, the row of machines. -/
theorem MadeTo.more {w wr wa wb wc wd : World} {o : Nat → Pt} {js : Nat → Jb} {i : Nat} {V4 V5 V4' V5' : Value} {xs Bs : Nat → Value} (h : MadeTo w wr o js i V4 V5 xs Bs) (hab : Below wr.heap.size wr wa) {B : Value}
    (hB : BytesIn (fun k => wr.heap.size ≤ k) wa B (Mb.bl (js i).f 0 (js i).L)) (hj : AppRow 61 6 i V5 (upto (fun j => (js j).ref (Bs j)) i ++ (js i).ref B) wa V5' wb) (hbc : Below wb.heap.size wb wc) {x : Value}
    (hx : MRep wc (fun k => wb.heap.size ≤ k ∧ k < wc.heap.size) x (js i).mc) {wc' : World} (hcc : Below wc.heap.size wc wc') (hm : AppRow 85 1 i V4 (upto (fun j => [xs j]) i ++ [x]) wc' V4' wd) :
    ∃ o' xs' Bs', MadeTo w wd o' js (i + 1) V4' V5' xs' Bs' := by
  have l5 : ∀ k, V5.ownBlock = some k → k < wr.heap.size ∧ w.heap.size ≤ k ∧ o k = .ro := fun k hk => ⟨(h.new k (by rw [h.own5 k hk]; simp)).2, (h.new k (by rw [h.own5 k hk]; simp)).1, h.own5 k hk⟩
  have l4 : ∀ k, V4.ownBlock = some k → k < wr.heap.size ∧ w.heap.size ≤ k ∧ o k = .ac := fun k hk => ⟨(h.new k (by rw [h.own4 k hk]; simp)).2, (h.new k (by rw [h.own4 k hk]; simp)).1, h.own4 k hk⟩
  have s1 := hab.size
  have s2 := hj.grown.size
  have s3 := hbc.size
  have s4 := hcc.size
  have s5 := hm.grown.size
  have s0 := h.low.size
  have g5 : ∀ k, k < wa.heap.size → V5.ownBlock ≠ some k → wb.heap[k]? = wa.heap[k]? := fun k hk hn => hj.grown.block k hk fun e => hn e.symm
  have g4 : ∀ k, k < wc'.heap.size → V4.ownBlock ≠ some k → wd.heap[k]? = wc'.heap[k]? := fun k hk hn => hm.grown.block k hk fun e => hn e.symm
  have gbd : ∀ k, k < wb.heap.size → V4.ownBlock ≠ some k → wd.heap[k]? = wb.heap[k]? := fun k hk hn => (g4 k (by omega) hn).trans ((hcc.block k (by omega)).trans (hbc.block k hk))
  have grd : ∀ k, k < wr.heap.size → V4.ownBlock ≠ some k → V5.ownBlock ≠ some k → wd.heap[k]? = wr.heap[k]? := fun k hk h4 h5 => (gbd k (by omega) h4).trans ((g5 k (by omega) h5).trans (hab.block k hk))
  have t4 : ∀ k, o k ≠ .ac → V4.ownBlock ≠ some k := fun k hk e => hk (h.own4 k e)
  have t5 : ∀ k, o k ≠ .ro → V5.ownBlock ≠ some k := fun k hk e => hk (h.own5 k e)
  have hz5 : ∀ k, V5'.ownBlock = some k → (k < wr.heap.size ∧ o k = .ro) ∨ k = wa.heap.size := fun k hk => by
    rcases hj.lies with e | e
    · exact .inl ⟨(l5 k (e.symm.trans hk)).1, (l5 k (e.symm.trans hk)).2.2⟩
    · rw [e] at hk; injection hk with hk; exact .inr hk.symm
  have hz4 : ∀ k, V4'.ownBlock = some k → (k < wr.heap.size ∧ o k = .ac) ∨ k = wc'.heap.size := fun k hk => by
    rcases hm.lies with e | e
    · exact .inl ⟨(l4 k (e.symm.trans hk)).1, (l4 k (e.symm.trans hk)).2.2⟩
    · rw [e] at hk; injection hk with hk; exact .inr hk.symm
  have lt5 : ∀ k, V5'.ownBlock = some k → k < wb.heap.size := fun k hk => (World.ownsRow.lt hj.row k hk).2
  have lt4 : ∀ k, V4'.ownBlock = some k → k < wd.heap.size := fun k hk => (World.ownsRow.lt hm.row k hk).2
  let o' : Nat → Pt := fun k => if k < wr.heap.size then o k else if k < wa.heap.size then .tx else if k < wb.heap.size then .ro else if k < wc.heap.size then .ma i else if k < wd.heap.size then .ac else .no
  have p0 : ∀ k, k < wr.heap.size → o' k = o k := fun k hk => if_pos hk
  have p1 : ∀ k, wr.heap.size ≤ k → k < wa.heap.size → o' k = .tx := fun k h1 h2 => by show (if _ then _ else _) = _; rw [if_neg (by omega), if_pos h2]
  have p2 : ∀ k, wa.heap.size ≤ k → k < wb.heap.size → o' k = .ro := fun k h1 h2 => by show (if _ then _ else _) = _; rw [if_neg (by omega), if_neg (by omega), if_pos h2]
  have p3 : ∀ k, wb.heap.size ≤ k → k < wc.heap.size → o' k = .ma i := fun k h1 h2 => by show (if _ then _ else _) = _; rw [if_neg (by omega), if_neg (by omega), if_neg (by omega), if_pos h2]
  have p4 : ∀ k, wc.heap.size ≤ k → k < wd.heap.size → o' k = .ac := fun k h1 h2 => by show (if _ then _ else _) = _; rw [if_neg (by omega), if_neg (by omega), if_neg (by omega), if_neg (by omega), if_pos h2]
  have p5 : ∀ k, wd.heap.size ≤ k → o' k = .no := fun k h1 => by show (if _ then _ else _) = _; rw [if_neg (by omega), if_neg (by omega), if_neg (by omega), if_neg (by omega), if_neg (by omega)]
  clear_value o'
  have e4 : upto (fun j => [if j = i then x else xs j]) (i + 1) = upto (fun j => [xs j]) i ++ [x] := by
    rw [upto_next]
    simp only [if_pos]
    rw [upto_congr (g := fun j => [xs j]) fun j hj => by rw [if_neg (by omega)]]
  have e5 : upto (fun j => (js j).ref (if j = i then B else Bs j)) (i + 1) = upto (fun j => (js j).ref (Bs j)) i ++ (js i).ref B := by
    rw [upto_next]
    simp only [if_pos]
    rw [upto_congr (g := fun j => (js j).ref (Bs j)) fun j hj => by rw [if_neg (by omega)]]
  refine ⟨o', fun j => if j = i then x else xs j, fun j => if j = i then B else Bs j, ?_, ?_, fun k hk => ?_, fun k hk => ?_, fun j hj2 => ?_, fun j hj2 => ?_, fun k hk => ?_, ?_⟩
  · rw [e4]; exact hm.row
  · rw [e5]
    refine ownsRow_keep hj.row fun q hq => gbd q (lt5 q hq) fun e => ?_
    rcases hz5 q hq with e1 | e1
    · have := (l4 q e).2.2; rw [e1.2] at this; cases this
    · have := (l4 q e).1; omega
  · rcases hz4 k hk with e | e
    · exact (p0 k e.1).trans e.2
    · exact p4 k (by omega) (lt4 k hk)
  · rcases hz5 k hk with e | e
    · exact (p0 k e.1).trans e.2
    · exact p2 k (by omega) (lt5 k hk)
  · by_cases hji : j = i
    · subst hji
      show BytesIn _ _ (if j = j then B else Bs j) _
      rw [if_pos rfl]
      exact (hB.lt.keep (by omega) fun k hk _ => (gbd k (by omega) fun e => by have := (l4 k e).1; omega).trans (g5 k hk.2 fun e => by have := (l5 k e).1; omega)).mono fun k hk _ => p1 k hk.1 hk.2
    · show BytesIn _ _ (if j = i then B else Bs j) _
      rw [if_neg hji]
      have hnw : ∀ k, o k = .tx → k < wr.heap.size := fun k hk => (h.new k (by rw [hk]; simp)).2
      exact ((h.txt j (by omega)).keep (by omega) fun k hk _ => grd k (hnw k hk) (t4 k (by rw [hk]; simp)) (t5 k (by rw [hk]; simp))).mono fun k hk _ => (p0 k (hnw k hk)).trans hk
  · by_cases hji : j = i
    · subst hji
      show MRep _ _ (if j = j then x else xs j) _
      rw [if_pos rfl]
      exact (hx.keep (by omega) fun k hk => (g4 k (by omega) fun e => by have := (l4 k e).1; omega).trans (hcc.block k hk.2)).mono fun k hk => p3 k hk.1 hk.2
    · show MRep _ _ (if j = i then x else xs j) _
      rw [if_neg hji]
      have hnw : ∀ k, o k = .ma j → k < wr.heap.size := fun k hk => (h.new k (by rw [hk]; simp)).2
      exact ((h.mach j (by omega)).keep (by omega) fun k hk => grd k (hnw k hk) (t4 k (by rw [hk]; simp)) (t5 k (by rw [hk]; simp))).mono fun k hk => (p0 k (hnw k hk)).trans hk
  · by_cases h1 : k < wr.heap.size
    · rw [p0 k h1] at hk
      have := h.new k hk
      omega
    · by_cases h2 : k < wd.heap.size
      · omega
      · exact absurd (p5 k (by omega)) hk
  · refine ⟨?_, ?_, ?_, by omega, fun k hk => ?_⟩
    · exact hm.grown.os.trans (hcc.os.trans (hbc.os.trans (hj.grown.os.trans (hab.os.trans h.low.os))))
    · exact hm.grown.tape.trans (hcc.tape.trans (hbc.tape.trans (hj.grown.tape.trans (hab.tape.trans h.low.tape))))
    · exact hm.grown.output.trans (hcc.output.trans (hbc.output.trans (hj.grown.output.trans (hab.output.trans h.low.output))))
    · exact (grd k (by omega) (fun e => by have := (l4 k e).2.1; omega) (fun e => by have := (l5 k e).2.1; omega)).trans (h.low.block k hk)


theorem MadeTo.row4 {w wr wa wb : World} {o : Nat → Pt} {js : Nat → Jb} {i : Nat} {V4 V5 V5' : Value} {xs Bs : Nat → Value} {zs : List Value} (h : MadeTo w wr o js i V4 V5 xs Bs) (hab : Below wr.heap.size wr wa) (hj : AppRow 61 6 i V5 zs wa V5' wb) :
    wb.ownsRow 0 85 1 V4 i (upto (fun j => [xs j]) i) := by
  refine ownsRow_keep h.row fun q hq => ?_
  have hlt := (World.ownsRow.lt h.row q hq).2
  refine (hj.grown.block q (Nat.lt_of_lt_of_le hlt hab.size) fun e => ?_).trans (hab.block q hlt)
  have := (h.own5 q e.symm).symm.trans (h.own4 q hq)
  cases this

/-- Blocks made since are what they were. -/
theorem MadeTo.blk {w wr wa wb : World} {o : Nat → Pt} {js : Nat → Jb} {i : Nat} {V4 V5 V5' : Value} {xs Bs : Nat → Value} {zs : List Value} (h : MadeTo w wr o js i V4 V5 xs Bs) (hj : AppRow 61 6 i V5 zs wa V5' wb) {k : Nat} (h1 : wr.heap.size ≤ k) (h2 : k < wa.heap.size) :
    wb.heap[k]? = wa.heap[k]? := hj.grown.block k h2 fun e => by have := (h.new k (by rw [h.own5 k e.symm]; simp)).2; omega

/-- A new machine stands in the blocks since. -/
theorem MRep.fresh {w w' : World} {kd : Kd} {g n : Nat} (h : Cp w' w.heap.size w'.heap.size g kd 0 n (.slice none 0 0) []) (hk : kd.Okay) : MRep w' (fun k => w.heap.size ≤ k ∧ k < w'.heap.size) (.iface 70 (.pointer (some ⟨g, 0, none⟩))) (.copy kd 0 n []) :=
  ⟨w.heap.size, w'.heap.size, g, .slice none 0 0, rfl, h, fun _ a b => ⟨a, b⟩, fun _ hk => absurd hk (by simp [Value.ownBlock]), hk, by simp⟩

theorem Jb.mc_in {j : Jb} (h : j.K % 3 = 0) : j.mc = .copy (.wr j.at_ j.f) 0 j.L [] := if_pos h
theorem Jb.mc_zero {j : Jb} (h : j.K % 3 = 1) : j.mc = .copy (.ze j.at_) 0 (Cy.few j.num) [] := (if_neg (by omega)).trans (if_pos h)
theorem Jb.mc_out {j : Jb} (h : j.K % 3 = 2) : j.mc = .copy (.rd j.at_) 0 (Cy.few j.num) [] := (if_neg (by omega)).trans (if_neg (by omega))
theorem Jb.near (j : Jb) : -4611686018427387904 ≤ j.at_ ∧ j.at_ ≤ 4611686018427387904 := by unfold Jb.at_; omega
end Go.Proofs.Ytijgfaggakbajaa
