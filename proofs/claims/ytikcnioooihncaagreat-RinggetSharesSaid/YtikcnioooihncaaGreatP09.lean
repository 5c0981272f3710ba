/-
  The tape of the plain answers (layer 5): an access told, or wanted; walked.
  A row of answers of the call's own: appended to, written in.
  What stands while somebody else writes in between: a buffer, plain bytes, a machine, what it was told, a ring in a box of its own.
  Layer 2's plain Do, for an exchange, walked.
  An access of a word, or of bytes written, done on a buffer and on plain bytes side by side: both tell the same.
  Layer 5's machines on a buffer that nobody else writes: one access behind the other, to the end; walked.
  An access of a word, of bytes written or of bytes read, done on a buffer and on plain bytes side by side: both tell the same.
  Messages in memory: a slice that reads as messages; a row of them whose first are copied.
  The tape of the plain answers (layer 5): bytes written, walked.
  The tape of the plain answers: a number loaded, stored, compared and swapped, as it was told or as it is wanted; walked.
  A tape beside a ring in a box of its own; a tape that wants something; places.
-/
import Derived.Test.YtikcnioooihncaaGreatP02
import Derived.Test.YtikcnioooihncaaGreatP08
import Derived.Test.YtikcnioooihncaaGreatP01
import Derived.Deep.QuietTactic
import Derived.BigQuiet
import Derived.BigRegion
import Derived.Deep.AppendLies
import Derived.Maps.AppendAt
import Derived.Test.YtikcnioooihncaaGreatP06
import Derived.Test.YtikcnioooihncaaGreatP03
import Derived.Test.YtikcnioooihncaaGreatP07
import Derived.Laws.IdiomCopy
import Derived.Lib.LazyBuf
import Derived.Test.YtikcnioooihncaaGreatP04
namespace Go.Proofs.YtikcnioooihncaaGreat
open Go.RowKit

/-- A tape stands at block p: n answers, j of them taken; what it wants. -/
structure Tp (w : World) (p : Nat) (A : Option Addr) (cap n j : Nat) (K P N V U : Int) (s : Value) (e : Bool) : Prop where
  blk : w.heap[p]? = some (.cells #[.slice A n cap, .int .i64 j, .int .i64 K, .int .i64 P, .int .i64 N, .int .u64 V, .int .u64 U, s, .bool e] 77 (0, 0))

namespace Tp
variable {w w' : World} {p cap n j : Nat} {A : Option Addr} {K P N V U : Int} {s : Value} {e : Bool}
theorem lt (h : Tp w p A cap n j K P N V U s e) : p < w.heap.size := (Array.getElem?_eq_some_iff.1 h.blk).1
theorem of_block (h : Tp w p A cap n j K P N V U s e) (hb : w'.heap[p]? = w.heap[p]?) : Tp w' p A cap n j K P N V U s e := ⟨hb.trans h.blk⟩
theorem below (h : Tp w p A cap n j K P N V U s e) (hb : Below w.heap.size w w') : Tp w' p A cap n j K P N V U s e := h.of_block (hb.block p h.lt)
theorem c0 (h : Tp w p A cap n j K P N V U s e) : w.cell? ⟨p, 0, none⟩ = some (.slice A n cap) := by simp [World.cell?, h.blk]
theorem c1 (h : Tp w p A cap n j K P N V U s e) : w.cell? ⟨p, 1, none⟩ = some (.int .i64 j) := by simp [World.cell?, h.blk]
theorem c2 (h : Tp w p A cap n j K P N V U s e) : w.cell? ⟨p, 2, none⟩ = some (.int .i64 K) := by simp [World.cell?, h.blk]
theorem c3 (h : Tp w p A cap n j K P N V U s e) : w.cell? ⟨p, 3, none⟩ = some (.int .i64 P) := by simp [World.cell?, h.blk]
theorem c4 (h : Tp w p A cap n j K P N V U s e) : w.cell? ⟨p, 4, none⟩ = some (.int .i64 N) := by simp [World.cell?, h.blk]
theorem c5 (h : Tp w p A cap n j K P N V U s e) : w.cell? ⟨p, 5, none⟩ = some (.int .u64 V) := by simp [World.cell?, h.blk]
theorem c6 (h : Tp w p A cap n j K P N V U s e) : w.cell? ⟨p, 6, none⟩ = some (.int .u64 U) := by simp [World.cell?, h.blk]
theorem c7 (h : Tp w p A cap n j K P N V U s e) : w.cell? ⟨p, 7, none⟩ = some s := by simp [World.cell?, h.blk]
theorem c8 (h : Tp w p A cap n j K P N V U s e) : w.cell? ⟨p, 8, none⟩ = some (.bool e) := by simp [World.cell?, h.blk]
theorem free (h : Tp w p A cap n j K P N V U s e) (i : Nat) : w.frozen? ⟨p, i, none⟩ = false := by simp [World.frozen?, h.blk]
end Tp

/-- The one block p. -/
def One (p k : Nat) : Prop := k = p

/-- A tape that knows no more: it wants the access. -/
def Wants (p : Nat) (A : Option Addr) (cap n j : Nat) (K P N V U : Int) (s : Value) (w : World) (e : Ending) (w' : World) : Prop :=
  e = .returned (.tuple #[.agg #[.int .u64 0, .bool false, .slice none 0 0], .bool false]) ∧ Tp w' p A cap n j K P N V U s true ∧ Touch (One p) w w'

/-- A tape that tells the next answer. -/
def Tells (x : Ans) (p : Nat) (A : Option Addr) (cap n j : Nat) (K P N V U : Int) (s : Value) (w : World) (e : Ending) (w' : World) : Prop :=
  e = .returned (.tuple #[.agg #[.int .u64 x.V, .bool x.D, .slice x.A x.L x.cap], .bool true]) ∧ Tp w' p A cap n (j + 1) K P N V U s false ∧ Touch (One p) w w'

theorem blk_set {w : World} {g i : Nat} {cs : Array Value} {t : TypeId} (h : w.heap[g]? = some (.cells cs t (0, 0))) (u : Value) : (w.setCell ⟨g, i, none⟩ u).heap[g]? = some (.cells (cs.setIfInBounds i u) t (0, 0)) := by
  simp [World.setCell, Array.getElem?_modify, h]

theorem blk_far {w : World} {g g' i : Nat} {o : Obj} (h : w.heap[g]? = some o) (hn : g ≠ g') (u : Value) : (w.setCell ⟨g', i, none⟩ u).heap[g]? = some o := (Below.heap_setCell w ⟨g', i, none⟩ u g hn).trans h

set_option maxRecDepth 100000 in
set_option maxHeartbeats 1000000 in
theorem tapeDo_wants {w : World} {p cap n : Nat} {A B : Option Addr} {K0 P0 N0 V0 U0 : Int} {A0 : Option Addr} {L0 c0 : Nat} (h : Tp w p A cap n n K0 P0 N0 V0 U0 (.slice A0 L0 c0) false) (K P N V U : Int) (L c : Nat) :
    Calls Tryz.prog 94 #[.pointer (some ⟨p, 0, none⟩), .agg #[.int .i64 K, .int .i64 P, .int .i64 N, .int .u64 V, .int .u64 U, .slice B L c]] w (Wants p A cap n n K P N V U (.slice B L c) w) := by
  have hlt := h.lt
  have HW := ((Below.refl w.heap.size w).alloc (Nat.le_refl _) (.cells #[.int .i64 K, .int .i64 P, .int .i64 N, .int .u64 V, .int .u64 U, .slice B L c] 30)).alloc (by simp) (.cells #[.int .u64 0, .bool false, .slice none 0 0] 25)
  have hX := (Below.heap_alloc _ (.cells #[.int .u64 0, .bool false, .slice none 0 0] 25) w.heap.size (by simp)).trans (Go.Deep.blk_alloc_new w (.cells #[.int .i64 K, .int .i64 P, .int .i64 N, .int .u64 V, .int .u64 U, .slice B L c] 30))
  have hR := Go.Deep.blk_alloc_new (w.alloc (.cells #[.int .i64 K, .int .i64 P, .int .i64 N, .int .u64 V, .int .u64 U, .slice B L c] 30)) (.cells #[.int .u64 0, .bool false, .slice none 0 0] 25)
  have e1 : (w.alloc (.cells #[.int .i64 K, .int .i64 P, .int .i64 N, .int .u64 V, .int .u64 U, .slice B L c] 30)).heap.size = w.heap.size + 1 := by simp
  rw [e1] at hR
  have HT := h.below HW
  have hc8 := h.c8
  clear h e1
  go_enter Tryz.func94, Tryz.ntmps94
  go_wp2_with fail
  clear hc8
  generalize (w.alloc (.cells #[.int .i64 K, .int .i64 P, .int .i64 N, .int .u64 V, .int .u64 U, .slice B L c] 30)).alloc (.cells #[.int .u64 0, .bool false, .slice none 0 0] 25) = W at HW hX hR HT ⊢
  have t0 := HT.c0
  have t1 := HT.c1
  have t2 := HT.c2
  have t3 := HT.c3
  have t4 := HT.c4
  have t5 := HT.c5
  have t6 := HT.c6
  have t7 := HT.c7
  have t8 := HT.c8
  have z2 := HT.free 2
  have z3 := HT.free 3
  have z4 := HT.free 4
  have z5 := HT.free 5
  have z6 := HT.free 6
  have z7 := HT.free 7
  have z8 := HT.free 8
  have x0 : W.cell? ⟨w.heap.size, 0, none⟩ = some (.int .i64 K) := by simp [World.cell?, hX]
  have x1 : W.cell? ⟨w.heap.size, 1, none⟩ = some (.int .i64 P) := by simp [World.cell?, hX]
  have x2 : W.cell? ⟨w.heap.size, 2, none⟩ = some (.int .i64 N) := by simp [World.cell?, hX]
  have x3 : W.cell? ⟨w.heap.size, 3, none⟩ = some (.int .u64 V) := by simp [World.cell?, hX]
  have x4 : W.cell? ⟨w.heap.size, 4, none⟩ = some (.int .u64 U) := by simp [World.cell?, hX]
  have x5 : W.cell? ⟨w.heap.size, 5, none⟩ = some (.slice B L c) := by simp [World.cell?, hX]
  obtain ⟨a0, a1, a2, f0, f1, f2, _⟩ := AnsAt.of_blk hR
  have hne : p ≠ w.heap.size := by omega
  have hne1 : p ≠ w.heap.size + 1 := by omega
  have HH := Lib.hid (And.intro HT hR)
  clear HT hX hR
  go_quiet (fail)
  go_wp2
  refine bodyPost_ret (v := .tuple #[.agg #[.int .u64 0, .bool false, .slice none 0 0], .bool false]) (by simp [results, Tryz.results94, go_sem, a0, a1, a2]) rfl ?_
  refine ⟨rfl, ⟨?_⟩, ?_⟩
  · have h0 : (W.drewN nq).heap[p]? = some (.cells #[.slice A n cap, .int .i64 n, .int .i64 K0, .int .i64 P0, .int .i64 N0, .int .u64 V0, .int .u64 U0, .slice A0 L0 c0, .bool false] 77 (0, 0)) := HH.out.1.blk
    exact blk_far (blk_far (blk_far (blk_set (blk_set (blk_set (blk_set (blk_set (blk_set (blk_set h0 _) _) _) _) _) _) _) hne1 _) hne1 _) hne1 _
  · have h0 : Touch (One p) w (W.drewN nq) := (Touch.of_below HW).drewN nq
    have h1 := ((((((h0.setCell (p := ⟨p, 2, none⟩) rfl (.int .i64 K)).setCell (p := ⟨p, 3, none⟩) rfl (.int .i64 P)).setCell (p := ⟨p, 4, none⟩) rfl (.int .i64 N)).setCell (p := ⟨p, 5, none⟩) rfl (.int .u64 V)).setCell (p := ⟨p, 6, none⟩) rfl (.int .u64 U)).setCell (p := ⟨p, 7, none⟩) rfl (.slice B L c)).setCell (p := ⟨p, 8, none⟩) rfl (.bool true)
    exact ((h1.setNew (p := ⟨w.heap.size + 1, 0, none⟩) (Nat.le_succ _) _).setNew (p := ⟨w.heap.size + 1, 1, none⟩) (Nat.le_succ _) _).setNew (p := ⟨w.heap.size + 1, 2, none⟩) (Nat.le_succ _) _

set_option maxRecDepth 100000 in
set_option maxHeartbeats 1000000 in
theorem tapeDo_tells {w : World} {p cap n j : Nat} {A B : Option Addr} {K0 P0 N0 V0 U0 : Int} {A0 : Option Addr} {L0 c0 : Nat} (h : Tp w p A cap n j K0 P0 N0 V0 U0 (.slice A0 L0 c0) false) (hj : j < n) (hn : n ≤ cap) (hcap : cap ≤ 9223372036854775807)
    {T : Nat → Ans} (hT : ToldAt w A n T) (hA : 0 < n → ∀ a, A = some a → a.block ≠ p) (K P N V U : Int) (L c : Nat) :
    Calls Tryz.prog 94 #[.pointer (some ⟨p, 0, none⟩), .agg #[.int .i64 K, .int .i64 P, .int .i64 N, .int .u64 V, .int .u64 U, .slice B L c]] w (Tells (T j) p A cap n j K0 P0 N0 V0 U0 (.slice A0 L0 c0) w) := by
  have hlt := h.lt
  have HW := ((Below.refl w.heap.size w).alloc (Nat.le_refl _) (.cells #[.int .i64 K, .int .i64 P, .int .i64 N, .int .u64 V, .int .u64 U, .slice B L c] 30)).alloc (by simp) (.cells #[.int .u64 0, .bool false, .slice none 0 0] 25)
  have hR := Go.Deep.blk_alloc_new (w.alloc (.cells #[.int .i64 K, .int .i64 P, .int .i64 N, .int .u64 V, .int .u64 U, .slice B L c] 30)) (.cells #[.int .u64 0, .bool false, .slice none 0 0] 25)
  have e1 : (w.alloc (.cells #[.int .i64 K, .int .i64 P, .int .i64 N, .int .u64 V, .int .u64 U, .slice B L c] 30)).heap.size = w.heap.size + 1 := by simp
  rw [e1] at hR
  obtain ⟨tb, tz, rfl, htl, htc⟩ := hT (by omega)
  have htp : tb ≠ p := hA (by omega) _ rfl
  obtain ⟨y0, y1, y2, _⟩ := htc j hj
  have v0 := (HW.cell (p := ⟨tb, tz + j * 3, none⟩) htl).trans y0
  have v1 := (HW.cell (p := ⟨tb, tz + j * 3 + 1, none⟩) htl).trans y1
  have v2 := (HW.cell (p := ⟨tb, tz + j * 3 + 2, none⟩) htl).trans y2
  have htn : tb ≠ w.heap.size := by omega
  have htn1 : tb ≠ w.heap.size + 1 := by omega
  have HT := h.below HW
  have hc8 := h.c8
  generalize T j = x at v0 v1 v2 ⊢
  clear h e1 hT hA htc y0 y1 y2
  go_enter Tryz.func94, Tryz.ntmps94
  go_wp2_with fail
  clear hc8
  generalize (w.alloc (.cells #[.int .i64 K, .int .i64 P, .int .i64 N, .int .u64 V, .int .u64 U, .slice B L c] 30)).alloc (.cells #[.int .u64 0, .bool false, .slice none 0 0] 25) = W at HW hR HT v0 v1 v2 ⊢
  have t0 := HT.c0
  have t1 := HT.c1
  have z1 := HT.free 1
  obtain ⟨a0, a1, a2, f0, f1, f2, _⟩ := AnsAt.of_blk hR
  have hne : p ≠ w.heap.size := by omega
  have hne1 : p ≠ w.heap.size + 1 := by omega
  have HH := Lib.hid (And.intro HT hR)
  have hj1 : ¬ ((n : Int) ≤ (j : Int)) := by omega
  have hj2 : decide ((n : Int) ≤ (j : Int)) = false := by simpa using hj1
  have hj3 : decide (n ≤ j) = false := by simpa using hj
  clear HT hR
  go_quiet (fail)
  go_wp2_with fail
  have HT2 : Tp ((W.drewN nq).setCell ⟨p, 1, none⟩ (.int .i64 ((j : Int) + 1))) p (some ⟨tb, tz, none⟩) cap n (j + 1) K0 P0 N0 V0 U0 (.slice A0 L0 c0) false := by
    have h0 : (W.drewN nq).heap[p]? = _ := HH.out.1.blk
    exact ⟨blk_set h0 _⟩
  have HR2 : AnsAt (w.heap.size + 1) ((W.drewN nq).setCell ⟨p, 1, none⟩ (.int .i64 ((j : Int) + 1))) := by
    have h0 : (W.drewN nq).heap[w.heap.size + 1]? = _ := HH.out.2
    exact .of_blk (blk_far h0 (Ne.symm hne1) _)
  have HX2 : Touch (One p) w ((W.drewN nq).setCell ⟨p, 1, none⟩ (.int .i64 ((j : Int) + 1))) := ((Touch.of_below HW).drewN nq).setCell (p := ⟨p, 1, none⟩) (show One p p from rfl) _
  have hcf : ∀ i, ((W.drewN nq).setCell ⟨p, 1, none⟩ (.int .i64 ((j : Int) + 1))).cell? ⟨tb, i, none⟩ = W.cell? ⟨tb, i, none⟩ := fun i => World.cell?_setCell_other (W.drewN nq) ⟨p, 1, none⟩ ⟨tb, i, none⟩ _ (fun e => htp (by injection e with e1; exact e1.symm))
  have u0 := (hcf _).trans v0
  have u1 := (hcf _).trans v1
  have u2 := (hcf _).trans v2
  clear v0 v1 v2 t0 t1 z1 a0 a1 a2 f0 f1 f2 hcf hj1 hj2 hj3
  generalize (W.drewN nq).setCell ⟨p, 1, none⟩ (.int .i64 ((j : Int) + 1)) = W2 at u0 u1 u2 HT2 HR2 HX2 ⊢
  have t0 := HT2.c0
  have t1 := HT2.c1
  have t1' : W2.cell? ⟨p, 1, none⟩ = some (.int .i64 ((j : Int) + 1)) := t1
  clear t1
  obtain ⟨a0, a1, a2, f0, f1, f2, _⟩ := HR2
  have HT3 := Lib.hid HT2
  clear HT2
  have hj1 : (j : Int) < n := by omega
  go_region
  all_goals go_wp2
  all_goals
    refine bodyPost_ret (v := .tuple #[.agg #[.int .u64 x.V, .bool x.D, .slice x.A x.L x.cap], .bool true]) (by simp [results, Tryz.results94, go_sem, a0, a1, a2]) rfl ?_
    refine ⟨rfl, ⟨blk_far (blk_far (blk_far HT3.out.blk hne1 _) hne1 _) hne1 _⟩, ?_⟩
    exact (((HX2.setNew (p := ⟨w.heap.size + 1, 0, none⟩) (Nat.le_succ _) _).setNew (p := ⟨w.heap.size + 1, 1, none⟩) (Nat.le_succ _) _).setNew (p := ⟨w.heap.size + 1, 2, none⟩) (Nat.le_succ _) _).drew
end Go.Proofs.YtikcnioooihncaaGreat
namespace Go.Proofs.YtikcnioooihncaaGreat
open Go.RowKit

theorem infoAns3 : (Tryz.prog.info? 25).map (fun i => (i.zero, i.size, i.bytes)) = some (some (.agg #[.int .u64 0, .bool false, .slice none 0 0]), 3, 40) := by kernel_rfl

/-- The cells of the first n answers. -/
def Ans.row (T : Nat → Ans) : Nat → List Value
  | 0 => []
  | n + 1 => Ans.row T n ++ [.int .u64 (T n).V, .bool (T n).D, .slice (T n).A (T n).L (T n).cap]
theorem Ans.row_len (T : Nat → Ans) (n : Nat) : (Ans.row T n).length = n * 3 := by
  induction n with
  | zero => rfl
  | succ n ih =>
    show (Ans.row T n ++ _).length = _
    rw [List.length_append, ih]
    show n * 3 + 3 = _
    omega
theorem Ans.row_get (T : Nat → Ans) (n i j : Nat) (hi : i < n) (hj : j < 3) : (Ans.row T n)[i * 3 + j]? = [Value.int .u64 (T i).V, .bool (T i).D, .slice (T i).A (T i).L (T i).cap][j]? := by
  induction n with
  | zero => omega
  | succ n ih =>
    have hl := Ans.row_len T n
    show (Ans.row T n ++ _)[i * 3 + j]? = _
    rcases Nat.lt_or_ge i n with h | h
    · rw [List.getElem?_append_left (by omega)]
      exact ih h
    · obtain rfl : i = n := by omega
      rw [List.getElem?_append_right (by omega), hl, Nat.add_sub_cancel_left]
theorem Ans.row_one (T : Nat → Ans) (n : Nat) : ∀ u ∈ Ans.row T n, u.oneCell' = true := by
  induction n with
  | zero => intro u hu; cases hu
  | succ n ih =>
    intro u hu
    rcases List.mem_append.1 hu with h | h
    · exact ih u h
    · simp only [List.mem_cons, List.not_mem_nil, or_false] at h
      rcases h with rfl | rfl | rfl <;> rfl

/-- A row of M answers in block g that may be written. -/
def TellRow (w : World) (g M : Nat) (T : Nat → Ans) : Prop :=
  ∃ cur, w.heap[g]? = some (.cells cur 25 (0, 0)) ∧ ∀ i, i < M → cur[i * 3]? = some (.int .u64 (T i).V) ∧ cur[i * 3 + 1]? = some (.bool (T i).D) ∧ cur[i * 3 + 2]? = some (.slice (T i).A (T i).L (T i).cap)

theorem TellRow.of_block {w w' : World} {g M : Nat} {T : Nat → Ans} (h : TellRow w g M T) (hb : w'.heap[g]? = w.heap[g]?) : TellRow w' g M T := by
  obtain ⟨cur, h1, h2⟩ := h
  exact ⟨cur, hb.trans h1, h2⟩
theorem TellRow.lt {w : World} {g M : Nat} {T : Nat → Ans} (h : TellRow w g M T) : g < w.heap.size := by
  obtain ⟨cur, h1, _⟩ := h
  exact (Array.getElem?_eq_some_iff.1 h1).1
theorem TellRow.cells {w : World} {g M i : Nat} {T : Nat → Ans} (h : TellRow w g M T) (hi : i < M) :
    w.cell? ⟨g, i * 3, none⟩ = some (.int .u64 (T i).V) ∧ w.cell? ⟨g, i * 3 + 1, none⟩ = some (.bool (T i).D) ∧ w.cell? ⟨g, i * 3 + 2, none⟩ = some (.slice (T i).A (T i).L (T i).cap) ∧ w.frozen? ⟨g, i * 3, none⟩ = false := by
  obtain ⟨cur, h1, h2⟩ := h
  obtain ⟨a, b, c⟩ := h2 i hi
  exact ⟨by simp [World.cell?, h1, a], by simp [World.cell?, h1, b], by simp [World.cell?, h1, c], by simp [World.frozen?, h1]⟩
theorem TellRow.told {w : World} {g M : Nat} {T : Nat → Ans} (h : TellRow w g M T) (hs : ∀ i, i < M → (T i).Is w) : ToldAt w (some ⟨g, 0, none⟩) M T := fun _ => ⟨g, 0, rfl, h.lt, fun i hi => by
  obtain ⟨a, b, c, _⟩ := h.cells hi
  rw [Nat.zero_add]
  exact ⟨a, b, c, hs i hi⟩⟩
/-- Another number in the i-th answer. -/
def Ans.with (T : Nat → Ans) (i V : Nat) (j : Nat) : Ans := if j = i then ⟨V, (T i).D, (T i).A, (T i).L, (T i).cap, (T i).f⟩ else T j
theorem Ans.with_at (T : Nat → Ans) (i V : Nat) : Ans.with T i V i = ⟨V, (T i).D, (T i).A, (T i).L, (T i).cap, (T i).f⟩ := if_pos rfl
theorem Ans.with_ne (T : Nat → Ans) (i V : Nat) {j : Nat} (h : j ≠ i) : Ans.with T i V j = T j := if_neg h
theorem Ans.with_same (T : Nat → Ans) (i : Nat) : Ans.with T i (T i).V = T := by
  funext j
  by_cases h : j = i
  · subst h; rw [Ans.with_at]
  · rw [Ans.with_ne T i _ h]
theorem TellRow.set {w : World} {g M i : Nat} {T : Nat → Ans} (h : TellRow w g M T) (V : Nat) : TellRow (w.setCell ⟨g, i * 3, none⟩ (.int .u64 V)) g M (Ans.with T i V) := by
  obtain ⟨cur, h1, h2⟩ := h
  refine ⟨_, blk_set h1 _, fun j hj => ?_⟩
  obtain ⟨a, b, c⟩ := h2 j hj
  by_cases e : j = i
  · subst e
    rw [Ans.with_at]
    refine ⟨?_, ?_, ?_⟩
    · rw [Array.getElem?_setIfInBounds_self]; rw [if_pos (Array.getElem?_eq_some_iff.1 a).1]
    · rw [Array.getElem?_setIfInBounds_ne (by omega)]; exact b
    · rw [Array.getElem?_setIfInBounds_ne (by omega)]; exact c
  · rw [Ans.with_ne T i V e]
    refine ⟨?_, ?_, ?_⟩
    · rw [Array.getElem?_setIfInBounds_ne (by omega)]; exact a
    · rw [Array.getElem?_setIfInBounds_ne (by omega)]; exact b
    · rw [Array.getElem?_setIfInBounds_ne (by omega)]; exact c

theorem append_none3 {w : World} {base : Nat} {v : Value} {n : Nat} {xs : List Value} (hv : w.ownsRow base 25 3 v n xs) (c : Nat) (ty : TypeId) :
    (Builtin.append_ #[42, 42] ty #[v, .slice none 0 c]).run Tryz.prog w = .ok v w := by
  obtain ⟨i0, hi, _⟩ := info_parts infoAns3
  have ht := Tryz.underlying42
  rcases hv.2 with ⟨rfl, hx⟩ | ⟨g, cap, cur, rfl, _, _, hnc, _⟩
  · simp [Builtin.append_, run_underlying ht, sizeOf, typeInfo, hi, Builtin.lenOf, Builtin.firstCells]
  · simp [Builtin.append_, run_underlying ht, sizeOf, typeInfo, hi, Builtin.lenOf, Builtin.firstCells, hnc, storeCells]

/-- What the appending of answers left: a row of the call's own, with them. -/
def AnsApp (base M : Nat) (T : Nat → Ans) (g0 : Nat) (w : World) (v' : Value) (w' : World) : Prop :=
  ∃ g cap, v' = .slice (some ⟨g, 0, none⟩) M cap ∧ M ≤ cap ∧ cap ≤ 9223372036854775807 ∧ base ≤ g ∧ TellRow w' g M T ∧ w.grownBy w' (some g0)

theorem ansApp_of {base M g0 : Nat} {T : Nat → Ans} {w w' : World} {v' : Value} (h : w'.ownsRow base 25 3 v' M (Ans.row T M)) (hn : v' ≠ .slice none 0 0) (hg : w.grownBy w' (some g0)) : AnsApp base M T g0 w v' w' := by
  rcases h.2 with ⟨rfl, _⟩ | ⟨g, cap, cur, rfl, hb, hk, h1, h2, h3, h4⟩
  · exact absurd rfl hn
  · refine ⟨g, cap, rfl, h1, by unfold maxLen at h2; omega, hb, ⟨cur, hk, fun i hi => ?_⟩, hg⟩
    have get : ∀ j, j < 3 → cur[i * 3 + j]? = (Ans.row T M)[i * 3 + j]? := fun j hj => by
      rw [← h4, List.getElem?_take_of_lt (by omega)]
      simp
    have e0 := (get 0 (by omega)).trans (Ans.row_get T M i 0 hi (by omega))
    have e1 := (get 1 (by omega)).trans (Ans.row_get T M i 1 hi (by omega))
    have e2 := (get 2 (by omega)).trans (Ans.row_get T M i 2 hi (by omega))
    exact ⟨e0, e1, e2⟩

theorem run_app_answers {w : World} {base g0 : Nat} (hv : w.ownsRow base 25 3 (.slice (some ⟨g0, 0, none⟩) 0 0) 0 []) {A : Option Addr} {n c : Nat} {T : Nat → Ans} (hT : ToldAt w A n T) (hn : n ≤ 1000000) (hb : base ≤ w.heap.size) (ty : TypeId) :
    ∃ v' w', (Builtin.append_ #[42, 42] ty #[.slice (some ⟨g0, 0, none⟩) 0 0, .slice A n c]).run Tryz.prog w = .ok v' w' ∧ AnsApp base n T g0 w v' w' := by
  obtain ⟨i0, hi, hz0, hz1, hz2⟩ := info_parts infoAns3
  have hu := Tryz.underlying42
  by_cases hp : 0 < n
  · obtain ⟨b, off, rfl, hl, hc⟩ := hT hp
    obtain ⟨v', w', hrun, h2, h3, _, h5⟩ := run_append_own_at (P := Tryz.prog) w base 42 ty 25 i0 _ 3 40 hu hi hz0 hz1 hz2 rfl (by decide) _ 0 _ hv ⟨b, off, none⟩ n c (Ans.row T n) (Ans.row_len T n) (by
      intro j u hj
      have e : (⟨b, off, none⟩ : Addr).add j = ⟨b, off + j, none⟩ := by unfold Addr.add; split <;> simp_all
      rw [e]
      have hjl : j < n * 3 := by
        rw [← Ans.row_len T n]
        exact (List.getElem?_eq_some_iff.1 hj).1
      obtain ⟨i, k, rfl, hk⟩ : ∃ i k, j = i * 3 + k ∧ k < 3 := ⟨j / 3, j % 3, by omega, by omega⟩
      rw [Ans.row_get T n i k (by omega) hk] at hj
      obtain ⟨c0, c1, c2, _⟩ := hc i (by omega)
      rw [← Nat.add_assoc]
      match k, hk, hj with
      | 0, _, hj => exact c0.trans hj
      | 1, _, hj => exact c1.trans hj
      | 2, _, hj => exact c2.trans hj) (Ans.row_one T n) (by unfold maxLen; omega) (by omega) hb
    rw [Nat.zero_add] at h2
    refine ⟨v', w', hrun, ansApp_of (by simpa using h2) (fun e => ?_) h3⟩
    obtain ⟨g, cap, e2, _⟩ := h2.form hp
    rw [e] at e2
    cases e2
  · obtain rfl : n = 0 := by omega
    cases A with
    | none => exact ⟨_, w, append_none3 hv c ty, ansApp_of hv (fun e => by cases e) (World.grownBy.refl w _)⟩
    | some a =>
      obtain ⟨v', w', hrun, h2, h3, h4, h5⟩ := run_append_own_at (P := Tryz.prog) w base 42 ty 25 i0 _ 3 40 hu hi hz0 hz1 hz2 rfl (by decide) _ 0 _ hv a 0 c [] (by simp) (by simp) (by simp) (by unfold maxLen; omega) (by omega) hb
      exact ⟨v', w', hrun, ansApp_of h2 (fun e => absurd (h4.1 e).1 (by simp)) h3⟩

set_option maxRecDepth 100000 in
theorem wpList_app_answers {w : World} {ops : Array Oper} {rest : List Oper} {o : Oper} {a : Act} {Q : Exit → Act → World → Prop} (hgd : o.guard = none) (s x : Operand)
    (ho : o.op = .call { callee := .builtin .append, args := #[s, x], argTypes := #[42, 42] }) (base g0 : Nat) (A : Option Addr) (n c : Nat) (T : Nat → Ans)
    (hs : a.eval s = .slice (some ⟨g0, 0, none⟩) 0 0) (hx : a.eval x = .slice A n c) (hv : w.ownsRow base 25 3 (.slice (some ⟨g0, 0, none⟩) 0 0) 0 []) (hT : ToldAt w A n T) (hn : n ≤ 1000000) (hb : base ≤ w.heap.size)
    (h : ∀ v' w', AnsApp base n T g0 w v' w' → wpList Tryz.prog ops Q rest (a.put o.dst v') w') : wpList Tryz.prog ops Q (o :: rest) a w := by
  refine wpList_plain hgd fun K hK => ?_
  obtain ⟨v', w', hrun, h5⟩ := run_app_answers hv (c := c) hT hn hb o.type
  unfold Oper.wp execOp
  simp only [ho, resolve, invoke, builtin, Sem.run_bind, Sem.run_pure, Result.andThen_ok, List.map_toArray, List.map_cons, List.map_nil, hs, hx, hrun]
  exact hK _ _ (h v' w' h5)

theorem ans_empty (w : World) : (w.alloc (.cells #[] 25)).ownsRow w.heap.size 25 3 (.slice (some ⟨w.heap.size, 0, none⟩) 0 0) 0 [] :=
  ⟨by simp, .inr ⟨w.heap.size, 0, #[], rfl, Nat.le_refl _, Go.Deep.blk_alloc_new _ _, Nat.le_refl _, by unfold maxLen; decide, by simp, by simp⟩⟩
end Go.Proofs.YtikcnioooihncaaGreat
namespace Go.Proofs.YtikcnioooihncaaGreat
open Go.RowKit

/-- A machine that stands as long as its blocks do. -/
def Keeps (At : World → (Nat → Prop) → Prop) : Prop := ∀ {w w' : World} {F : Nat → Prop}, w.heap.size ≤ w'.heap.size → (∀ k, F k → w'.heap[k]? = w.heap[k]?) → At w F → At w' F

/-- What stands. -/
structure ShW (w0 wr : World) (gb hb q rb base : Nat) (B Z : Int) (nw : Nat) (m u : Nat → Nat) (c : Int) (At : World → (Nat → Prop) → Prop) (F : Nat → Prop) (n : Nat) (T : Nat → Ans) (vT : Value) : Prop where
  buf : Buf wr gb hb m nw c
  row : PlainAt wr q (8 * nw) u
  mach : At wr F
  keeps : Keeps At
  tell : wr.ownsRow base 25 3 vT n (Ans.row T n)
  r0 : wr.cell? ⟨rb, 0, none⟩ = some (.int .i64 B)
  r1 : wr.cell? ⟨rb, 1, none⟩ = some (.int .i64 Z)
  low : Below w0.heap.size w0 wr
  sep : ∀ k, F k → k < wr.heap.size ∧ w0.heap.size ≤ k ∧ k ≠ gb ∧ k ≠ hb ∧ k ≠ q ∧ k ≠ rb ∧ vT.ownBlock ≠ some k
  fix : w0.heap.size ≤ gb ∧ w0.heap.size ≤ hb ∧ w0.heap.size ≤ q ∧ w0.heap.size ≤ rb ∧ gb < base ∧ hb < base ∧ q < base ∧ rb < base ∧ base ≤ wr.heap.size
  apart : q ≠ gb ∧ q ≠ hb ∧ rb ≠ gb ∧ rb ≠ hb ∧ rb ≠ q

namespace ShW
variable {w0 wr w' : World} {gb hb q rb base nw n : Nat} {B Z : Int} {m u m' u' : Nat → Nat} {c c' : Int} {At At' : World → (Nat → Prop) → Prop} {F F' : Nat → Prop} {T : Nat → Ans} {vT : Value}

theorem rlt (h : ShW w0 wr gb hb q rb base B Z nw m u c At F n T vT) : rb < wr.heap.size := lt_of_cell h.r0
/-- New memory. -/
theorem below (h : ShW w0 wr gb hb q rb base B Z nw m u c At F n T vT) (hb' : Below wr.heap.size wr w') : ShW w0 w' gb hb q rb base B Z nw m u c At F n T vT := by
  have hs := hb'.size
  refine ⟨h.buf.below hb', h.row.of_block (hb'.block q h.row.lt), h.keeps hs (fun k hk => hb'.block k (h.sep k hk).1) h.mach, h.keeps, row_of_block h.tell fun k hk => hb'.block k (row_lt h.tell hk).2, (hb'.cell (p := ⟨rb, 0, none⟩) h.rlt).trans h.r0, (hb'.cell (p := ⟨rb, 1, none⟩) h.rlt).trans h.r1, h.low.trans (hb'.mono h.low.size), fun k hk => ?_, ?_, h.apart⟩
  · have := h.sep k hk
    exact ⟨Nat.lt_of_lt_of_le this.1 hs, this.2⟩
  · have := h.fix
    omega
/-- The buffer's two blocks. -/
theorem bufTo (h : ShW w0 wr gb hb q rb base B Z nw m u c At F n T vT) (hB : Buf w' gb hb m' nw c') (ht : Touch (Two gb hb) wr w') : ShW w0 w' gb hb q rb base B Z nw m' u c' At F n T vT := by
  have hs := ht.size
  have hf := h.fix
  have ha := h.apart
  refine ⟨hB, h.row.of_block (ht.block q h.row.lt fun e => by rcases e with e | e <;> omega), h.keeps hs (fun k hk => ht.block k (h.sep k hk).1 fun e => by have := h.sep k hk; rcases e with e | e <;> omega) h.mach, h.keeps, row_of_block h.tell fun k hk => ht.block k (row_lt h.tell hk).2 fun e => by have := (row_lt h.tell hk).1; rcases e with e | e <;> omega,
    (ht.cell (p := ⟨rb, 0, none⟩) h.rlt (fun e => by rcases e with e | e <;> (have e2 : rb = _ := e; omega))).trans h.r0, (ht.cell (p := ⟨rb, 1, none⟩) h.rlt (fun e => by rcases e with e | e <;> (have e2 : rb = _ := e; omega))).trans h.r1, ht.below h.low h.low.size (fun k hk => by rcases hk with e | e <;> omega), fun k hk => ?_, by omega, h.apart⟩
  have := h.sep k hk
  exact ⟨Nat.lt_of_lt_of_le this.1 hs, this.2⟩
/-- The plain bytes. -/
theorem rowTo (h : ShW w0 wr gb hb q rb base B Z nw m u c At F n T vT) (hr : PlainAt w' q (8 * nw) u') (ht : Touch (Lone q) wr w') : ShW w0 w' gb hb q rb base B Z nw m u' c At F n T vT := by
  have hs := ht.size
  have hf := h.fix
  have ha := h.apart
  have hgl := h.buf.g_lt
  have hhl := h.buf.h_lt
  refine ⟨h.buf.of_blocks (ht.block gb hgl fun e => by have e : gb = q := e; omega) (ht.block hb hhl fun e => by have e : hb = q := e; omega), hr, h.keeps hs (fun k hk => ht.block k (h.sep k hk).1 fun e => by have e : k = q := e; have := h.sep k hk; omega) h.mach, h.keeps, row_of_block h.tell fun k hk => ht.block k (row_lt h.tell hk).2 fun e => by have e : k = q := e; have := (row_lt h.tell hk).1; omega,
    (ht.cell (p := ⟨rb, 0, none⟩) h.rlt (fun e => by have e : rb = q := e; omega)).trans h.r0, (ht.cell (p := ⟨rb, 1, none⟩) h.rlt (fun e => by have e : rb = q := e; omega)).trans h.r1, ht.below h.low h.low.size (fun k hk => by have e : k = q := hk; omega), fun k hk => ?_, by omega, h.apart⟩
  have := h.sep k hk
  exact ⟨Nat.lt_of_lt_of_le this.1 hs, this.2⟩
/-- The machine's blocks. -/
theorem machTo (h : ShW w0 wr gb hb q rb base B Z nw m u c At F n T vT) (hk' : Keeps At') (hm : At' w' F') (ht : Touch F wr w') (hF : ∀ k, F' k → F k ∨ (wr.heap.size ≤ k ∧ k < w'.heap.size)) : ShW w0 w' gb hb q rb base B Z nw m u c At' F' n T vT := by
  have hs := ht.size
  have hf := h.fix
  have hgl := h.buf.g_lt
  have hhl := h.buf.h_lt
  refine ⟨h.buf.of_blocks (ht.block gb hgl fun e => (h.sep gb e).2.2.1 rfl) (ht.block hb hhl fun e => (h.sep hb e).2.2.2.1 rfl), h.row.of_block (ht.block q h.row.lt fun e => (h.sep q e).2.2.2.2.1 rfl), hm, hk', row_of_block h.tell fun k hk => ht.block k (row_lt h.tell hk).2 fun e => (h.sep k e).2.2.2.2.2.2 hk,
    (ht.cell (p := ⟨rb, 0, none⟩) h.rlt (fun e => (h.sep rb e).2.2.2.2.2.1 rfl)).trans h.r0, (ht.cell (p := ⟨rb, 1, none⟩) h.rlt (fun e => (h.sep rb e).2.2.2.2.2.1 rfl)).trans h.r1, ht.below h.low h.low.size (fun k hk => (h.sep k hk).2.1), fun k hk => ?_, by omega, h.apart⟩
  rcases hF k hk with e | e
  · have := h.sep k e
    exact ⟨Nat.lt_of_lt_of_le this.1 hs, this.2⟩
  · have hl := h.row.lt
    have hr := h.rlt
    refine ⟨e.2, by have := h.low.size; omega, by omega, by omega, by omega, by omega, fun hk2 => ?_⟩
    have := (row_lt h.tell hk2).2
    omega

/-- One answer more is told. -/
theorem tellTo (h : ShW w0 wr gb hb q rb base B Z nw m u c At F n T vT) {vT' : Value} {T' : Nat → Ans} {n' : Nat} (ho : w'.ownsRow base 25 3 vT' n' (Ans.row T' n')) (hg : wr.grownBy w' vT.ownBlock) (hl : vT'.ownBlock = vT.ownBlock ∨ vT'.ownBlock = some wr.heap.size) : ShW w0 w' gb hb q rb base B Z nw m u c At F n' T' vT' := by
  have hs := hg.size
  have hf := h.fix
  have hgl := h.buf.g_lt
  have hhl := h.buf.h_lt
  have far : ∀ k, k < wr.heap.size → vT.ownBlock ≠ some k → w'.heap[k]? = wr.heap[k]? := fun k hk hn => hg.block k hk fun e => hn e.symm
  have old : ∀ k, k < base → vT.ownBlock ≠ some k := fun k hk e => by have := (row_lt h.tell e).1; omega
  refine ⟨h.buf.of_blocks (far gb hgl (old gb (by omega))) (far hb hhl (old hb (by omega))), h.row.of_block (far q h.row.lt (old q (by omega))), h.keeps hs (fun k hk => far k (h.sep k hk).1 (h.sep k hk).2.2.2.2.2.2) h.mach, h.keeps, ho, (World.cell?_of_block (w := wr) (a := ⟨rb, 0, none⟩) (far rb h.rlt (old rb (by omega)))).trans h.r0, (World.cell?_of_block (w := wr) (a := ⟨rb, 1, none⟩) (far rb h.rlt (old rb (by omega)))).trans h.r1,
    h.low.grown hg h.low.size (fun k hk => by have := (row_lt h.tell hk).1; omega), fun k hk => ?_, by omega, h.apart⟩
  have := h.sep k hk
  refine ⟨Nat.lt_of_lt_of_le this.1 hs, this.2.1, this.2.2.1, this.2.2.2.1, this.2.2.2.2.1, this.2.2.2.2.2.1, fun e => ?_⟩
  rcases hl with e2 | e2
  · exact this.2.2.2.2.2.2 (e2 ▸ e)
  · rw [e2] at e
    injection e with e
    omega
/-- New memory is nobody's. -/
theorem fresh (h : ShW w0 wr gb hb q rb base B Z nw m u c At F n T vT) {k : Nat} (hk : wr.heap.size ≤ k) : ¬ Two gb hb k ∧ ¬ Lone q k ∧ ¬ F k ∧ vT.ownBlock ≠ some k := by
  have hgl := h.buf.g_lt
  have hhl := h.buf.h_lt
  have hql := h.row.lt
  refine ⟨fun e => by rcases e with e | e <;> omega, fun e => by have e : k = q := e; omega, fun e => by have := (h.sep k e).1; omega, fun e => by have := (row_lt h.tell e).2; omega⟩
/-- What was told, as a row. -/
theorem told (h : ShW w0 wr gb hb q rb base B Z nw m u c At F n T vT) (hs : ∀ i, i < n → (T i).Is wr) {A : Option Addr} {cp : Nat} (hv : vT = .slice A n cp) : ToldAt wr A n T := fun hp => by
  rcases h.tell.2 with ⟨_, h0⟩ | ⟨g, cap, cur, hv2, h1, h2, h3, h4, h5, h6⟩
  · omega
  · rw [hv] at hv2
    injection hv2 with e1 _ _
    refine ⟨g, 0, e1, (Array.getElem?_eq_some_iff.1 h2).1, fun i hi => ?_⟩
    have get : ∀ j, j < 3 → cur[i * 3 + j]? = (Ans.row T n)[i * 3 + j]? := fun j hj => by
      rw [← h6, List.getElem?_take_of_lt (by omega)]
      simp
    have e0 := (get 0 (by omega)).trans (Ans.row_get T n i 0 hi (by omega))
    have e1 := (get 1 (by omega)).trans (Ans.row_get T n i 1 hi (by omega))
    have e2 := (get 2 (by omega)).trans (Ans.row_get T n i 2 hi (by omega))
    rw [Nat.zero_add]
    exact ⟨by simp only [World.cell?, h2]; exact e0, by simp only [World.cell?, h2]; exact e1, by simp only [World.cell?, h2]; exact e2, hs i hi⟩
end ShW

/-- An answer more, in a row of answers. -/
def Ans.add (T : Nat → Ans) (n : Nat) (y : Ans) (j : Nat) : Ans := if j < n then T j else y
theorem Ans.add_row (T : Nat → Ans) (n : Nat) (y : Ans) : Ans.row (Ans.add T n y) (n + 1) = Ans.row T n ++ [.int .u64 y.V, .bool y.D, .slice y.A y.L y.cap] := by
  have h : ∀ k, k ≤ n → Ans.row (Ans.add T n y) k = Ans.row T k := fun k => by
    induction k with
    | zero => intro _; rfl
    | succ k ih =>
      intro hk
      show Ans.row (Ans.add T n y) k ++ _ = Ans.row T k ++ _
      rw [ih (by omega)]
      unfold Ans.add
      rw [if_pos (by omega)]
  show Ans.row (Ans.add T n y) n ++ _ = _
  rw [h n (Nat.le_refl _)]
  unfold Ans.add
  rw [if_neg (Nat.lt_irrefl _)]
theorem Ans.add_at (T : Nat → Ans) (n : Nat) (y : Ans) : Ans.add T n y n = y := if_neg (Nat.lt_irrefl _)
theorem Ans.add_old (T : Nat → Ans) (n : Nat) (y : Ans) {j : Nat} (h : j < n) : Ans.add T n y j = T j := if_pos h

theorem run_app_more {w : World} {base n : Nat} {v : Value} {xs : List Value} (hv : w.ownsRow base 25 3 v n xs) (y : Ans) {b c : Nat} (hg : w.heap[b]? = some (.cells #[.int .u64 y.V, .bool y.D, .slice y.A y.L y.cap] 25 (0, 0)))
    (hn : n ≤ 1000000) (hb : base ≤ w.heap.size) (ty : TypeId) :
    ∃ g cap w', (Builtin.append_ #[42, 42] ty #[v, .slice (some ⟨b, 0, none⟩) 1 c]).run Tryz.prog w = .ok (.slice (some ⟨g, 0, none⟩) (n + 1) cap) w' ∧ w'.ownsRow base 25 3 (.slice (some ⟨g, 0, none⟩) (n + 1) cap) (n + 1) (xs ++ [.int .u64 y.V, .bool y.D, .slice y.A y.L y.cap]) ∧ w.grownBy w' v.ownBlock ∧ (some g = v.ownBlock ∨ some g = some w.heap.size) ∧ n + 1 ≤ cap ∧ cap ≤ 9223372036854775807 := by
  obtain ⟨i0, hi, hz0, hz1, hz2⟩ := info_parts infoAns3
  obtain ⟨v', w', hrun, h2, h3, _, h5⟩ := run_append_own_at (P := Tryz.prog) w base 42 ty 25 i0 _ 3 40 Tryz.underlying42 hi hz0 hz1 hz2 rfl (by decide) _ n _ hv ⟨b, 0, none⟩ 1 c [.int .u64 y.V, .bool y.D, .slice y.A y.L y.cap] rfl (by
    intro j u hj
    have e : (⟨b, 0, none⟩ : Addr).add j = ⟨b, 0 + j, none⟩ := by unfold Addr.add; split <;> simp_all
    rw [e, Nat.zero_add]
    simp only [World.cell?, hg]
    rw [← hj]
    simp) (by
    intro u hu
    simp only [List.mem_cons, List.not_mem_nil, or_false] at hu
    rcases hu with rfl | rfl | rfl <;> rfl) (by unfold maxLen; omega) (by omega) hb
  rcases h2.2 with ⟨_, h0⟩ | ⟨g, cap, cur, rfl, _, _, hc, hc2, _⟩
  · omega
  · exact ⟨g, cap, w', hrun, h2, h3, h5, hc, by unfold maxLen at hc2; omega⟩

set_option maxRecDepth 100000 in
theorem wpList_app_more {w : World} {ops : Array Oper} {rest : List Oper} {o : Oper} {a : Act} {Q : Exit → Act → World → Prop} (hgd : o.guard = none) (s x : Operand)
    (ho : o.op = .call { callee := .builtin .append, args := #[s, x], argTypes := #[42, 42] }) (base n : Nat) (v : Value) (xs : List Value) (y : Ans) (b c : Nat)
    (hs : a.eval s = v) (hx : a.eval x = .slice (some ⟨b, 0, none⟩) 1 c) (hv : w.ownsRow base 25 3 v n xs)
    (hg : w.heap[b]? = some (.cells #[.int .u64 y.V, .bool y.D, .slice y.A y.L y.cap] 25 (0, 0))) (hn : n ≤ 1000000) (hb : base ≤ w.heap.size)
    (h : ∀ g cap w', w'.ownsRow base 25 3 (.slice (some ⟨g, 0, none⟩) (n + 1) cap) (n + 1) (xs ++ [.int .u64 y.V, .bool y.D, .slice y.A y.L y.cap]) → w.grownBy w' v.ownBlock → (some g = v.ownBlock ∨ some g = some w.heap.size) → n + 1 ≤ cap → cap ≤ 9223372036854775807 → wpList Tryz.prog ops Q rest (a.put o.dst (.slice (some ⟨g, 0, none⟩) (n + 1) cap)) w') : wpList Tryz.prog ops Q (o :: rest) a w := by
  refine wpList_plain hgd fun K hK => ?_
  obtain ⟨g, cap, w', hrun, h1, h2, h3, h4, h5⟩ := run_app_more hv y (c := c) hg hn hb o.type
  unfold Oper.wp execOp
  simp only [ho, resolve, invoke, builtin, Sem.run_bind, Sem.run_pure, Result.andThen_ok, List.map_toArray, List.map_cons, List.map_nil, hs, hx, hrun]
  exact hK _ _ (h g cap w' h1 h2 h3 h4 h5)

theorem run_copy_cut {w : World} {q n dLen dCap : Nat} {u f : Nat → Nat} (hr : PlainAt w q n u) (B : Option Addr) (L cp : Nat) (hB : BytesAt w (.slice B L cp) (Mb.bl f 0 L)) (hfit : dLen ≤ n) (ty : TypeId) :
    ∃ w', (Builtin.copy_ #[23, 23] ty #[.slice (some ⟨q, 0, none⟩) dLen dCap, .slice B L cp]).run Tryz.prog w = .ok (goInt ((min L dLen : Nat) : Int)) w' ∧ PlainAt w' q n (Cy.lay u f 0 (min L dLen)) ∧ Touch (Lone q) w w' := by
  obtain ⟨i0, hi, hz0, hz1, hz2⟩ := info_parts infoU8
  have hsz : (Tryz.prog.info? 5).map (·.size) = some 1 := by rw [hi]; simp [hz1]
  by_cases h0 : L = 0
  · subst h0
    refine ⟨w, by rw [Nat.zero_min]; exact run_copy_none (P := Tryz.prog) w _ _ ty 5 _ _ _ _ _ _ Tryz.underlying23 hsz (by simp), ?_, Touch.refl _ _⟩
    rw [Nat.zero_min, Cy.lay_zero]
    exact hr
  · obtain ⟨A2, c2, hv, hx⟩ := hB
    obtain ⟨b, o, rfl, hlt, hc⟩ := hx (by rw [Mb.bl_length]; omega)
    injection hv with e1 _ _
    subst e1
    rw [Mb.bl_length] at hc
    obtain ⟨k, hk⟩ : ∃ k, k = min L dLen := ⟨_, rfl⟩
    have hkL : k ≤ L := by omega
    have hkd : k ≤ dLen := by omega
    rw [← hk]
    obtain ⟨cur, hb, hn, hcur⟩ := hr
    have hlen : ((Mb.bl f 0 k).map (Value.int .u8)).length = k := by rw [List.length_map, Mb.bl_length]
    have hrun := run_copy_row (P := Tryz.prog) w 23 23 ty 5 q 0 dLen dCap ⟨b, o, none⟩ L cp cur _ ((Mb.bl f 0 k).map (Value.int .u8)) Tryz.underlying23 hsz hb (by rw [hlen]; omega)
      (by
        intro j v hj
        have hjl : j < k := by
          have := (List.getElem?_eq_some_iff.1 hj).1
          rw [hlen] at this
          exact this
        rw [addr_add b o j, hc j (by omega), ← hj, map_bl_at f 0 k j hjl, Mb.bl_getD _ _ _ _ (by omega)]) (by rw [hlen, hn]; omega) (by intro v hv; obtain ⟨z, _, rfl⟩ := List.mem_map.1 hv; rfl)
    rw [hlen] at hrun
    exact ⟨_, hrun, ⟨_, setRow_heap w q _ _ _ _ hb, by rw [List.size_toArray, List.length_append, List.length_append, hlen, List.length_take, List.length_drop, Array.length_toList, hn]; omega, fun j hj => splice_at hn hcur (by omega) hj⟩, ⟨rfl, rfl, rfl, by simp [World.setRow], fun k _ hk => setRow_other w q k _ hk⟩⟩

theorem wpList_copy_cut {w : World} {ops : Array Oper} {rest : List Oper} {o : Oper} {ac : Act} {Q : Exit → Act → World → Prop} (hgd : o.guard = none) (d s : Operand)
    (ho : o.op = .call { callee := .builtin .copy, args := #[d, s], argTypes := #[23, 23] }) {q n dLen dCap : Nat} {u f : Nat → Nat} (B : Option Addr) (L cp : Nat) (hd : ac.eval d = .slice (some ⟨q, 0, none⟩) dLen dCap) (hs : ac.eval s = .slice B L cp)
    (hr : PlainAt w q n u) (hB : BytesAt w (.slice B L cp) (Mb.bl f 0 L)) (hfit : dLen ≤ n)
    (h : ∀ w', PlainAt w' q n (Cy.lay u f 0 (min L dLen)) → Touch (Lone q) w w' → wpList Tryz.prog ops Q rest (ac.put o.dst (goInt (min L dLen : Nat))) w') : wpList Tryz.prog ops Q (o :: rest) ac w := by
  refine wpList_plain hgd fun K hK => ?_
  obtain ⟨w', hrun, h1, h2⟩ := run_copy_cut hr B L cp hB hfit o.type (dCap := dCap)
  unfold Oper.wp
  simp [execOp, ho, resolve, invoke, builtin, hd, hs, hrun, Result.andThen]
  exact hK _ _ (h w' h1 h2)
end Go.Proofs.YtikcnioooihncaaGreat
namespace Go.Proofs.YtikcnioooihncaaGreat
open Go.RowKit

set_option maxRecDepth 100000 in
set_option maxHeartbeats 1000000 in
theorem refDo_cas_no {w : World} {q n : Nat} {u : Nat → Nat} (hr : PlainAt w q n u) (hu : Mb.IsB u) (P N V : Nat) (U : Int) (A : Option Addr) (L cap : Nat) (hN : N = 4 ∨ N = 8) (hal : P % N = 0) (hn : n ≤ 1000000) (h : P + N ≤ n) (hV : V < 18446744073709551616) (hne : Mb.nm u P N ≠ V % 2 ^ (8 * N)) :
    Calls Tryz.prog 16 #[.slice (some ⟨q, 0, none⟩) n n, .agg #[.int .i64 4, .int .i64 P, .int .i64 N, .int .u64 V, .int .u64 U, .slice A L cap]] w
      fun e w' => e = .returned (.tuple #[.agg #[.int .u64 (Mb.nm u P N : Nat), .bool false, .slice none 0 0], .int .i64 0]) ∧ Below w.heap.size w w' := by
  have HK := fun W => Lib.hid (refCheck_word n 4 P N V U A L cap W (.inr (.inr rfl)) hN hal hn h)
  have HLO := fun W => Lib.hid (refLow_any V N W hV hN)
  generalize V % 2 ^ (8 * N) = X at *
  have hne2 : decide (((Mb.nm u P N : Nat) : Int) = (X : Int)) = false := decide_eq_false (by omega)
  have HR := Lib.hid hr
  have HU := Lib.hid hu
  clear hr hu
  have HC := Lib.hid (acc_made w 4 P N V U (.slice A L cap) (.cells #[.int .u64 0, .bool false, .slice none 0 0] 25))
  have HA := Lib.hid (ans_made w (.cells #[.int .i64 4, .int .i64 P, .int .i64 N, .int .u64 V, .int .u64 U, .slice A L cap] 30))
  have HW := Lib.hid (((Below.refl w.heap.size w).alloc (Nat.le_refl _) (.cells #[.int .i64 4, .int .i64 P, .int .i64 N, .int .u64 V, .int .u64 U, .slice A L cap] 30)).alloc (by simp) (.cells #[.int .u64 0, .bool false, .slice none 0 0] 25))
  go_enter Tryz.func16, Tryz.ntmps16
  go_upto_region 1 with (fail)
  generalize (w.alloc (.cells #[.int .i64 4, .int .i64 P, .int .i64 N, .int .u64 V, .int .u64 U, .slice A L cap] 30)).alloc (.cells #[.int .u64 0, .bool false, .slice none 0 0] 25) = W at HC HA HW ⊢
  obtain ⟨c0, c1, c2, c3, c4, c5⟩ := HC.out
  go_upto_region 2 with (go_at_call 39; refine (HK _).out.mono ?_; rintro e w1 ⟨rfl, hb1⟩)
  have HA1 := Lib.hid (HA.out.later hb1)
  have HW1 := Lib.hid (HW.out.trans (hb1.mono HW.out.size))
  have hw1 : w.heap.size + 1 < w1.heap.size := Nat.lt_of_lt_of_le (lt_of_cell HA.out.a0) hb1.size
  obtain ⟨c0, c1, c2, c3, c4, c5⟩ := HC.out.below hb1
  obtain ⟨a0, a1, a2, f0, f1, f2, _⟩ := HA1.out
  have hr1 : PlainAt w1 q n u := HR.out.of_block (HW1.out.block q HR.out.lt)
  have HP := Lib.hid (hr1.part P N (n - P) h)
  have hpq : (P : Int) + N ≤ n := by omega
  have hpq2 : (P : Int) ≤ P + N := by omega
  have h8 : Hid (Wd.Bytes8 (Mb.bl u P N)) := Lib.hid (fun x hx => by have := Bys.bl HU.out P N x hx; omega)
  have htk : (Mb.bl u P N).take 8 = Mb.bl u P N := List.take_of_length_le (by rw [Mb.bl_length]; omega)
  have hnum := Lib.hid (Mb.num_bl u P N)
  clear hb1 hr1
  go_upto_region 5 with (fail)
  go_upto_region 12 with (go_at_call 40; refine (refNumber_any _ (Mb.bl u P N) _ h8.out HP.out).mono ?_; rintro e w2 ⟨rfl, rfl⟩; rw [htk, hnum.out])
  go_wp2_with (go_at_call 42; refine (HLO _).out.mono ?_; rintro e w2 ⟨rfl, rfl⟩)
  refine bodyPost_ret (v := .tuple #[.agg #[.int .u64 (Mb.nm u P N : Nat), .bool false, .slice none 0 0], .int .i64 0]) (by simp [results, Tryz.results16, go_sem, a0, a1, a2]) rfl ?_
  exact ⟨rfl, (((HW1.out.setCell (Nat.le_succ _) _).setCell (Nat.le_succ _) _).setCell (Nat.le_succ _) _)⟩

set_option maxRecDepth 100000 in
set_option maxHeartbeats 1000000 in
theorem refDo_cas_yes {w : World} {q n : Nat} {u : Nat → Nat} (hr : PlainAt w q n u) (hu : Mb.IsB u) (P N V U : Nat) (A : Option Addr) (L cap : Nat) (hV : V < 18446744073709551616) (hN : N = 4 ∨ N = 8) (hal : P % N = 0) (hn : n ≤ 1000000) (h : P + N ≤ n) (hU : U < 18446744073709551616) (heq : Mb.nm u P N = V % 2 ^ (8 * N)) :
    Calls Tryz.prog 16 #[.slice (some ⟨q, 0, none⟩) n n, .agg #[.int .i64 4, .int .i64 P, .int .i64 N, .int .u64 V, .int .u64 U, .slice A L cap]] w
      fun e w' => e = .returned (.tuple #[.agg #[.int .u64 (Mb.nm u P N : Nat), .bool true, .slice none 0 0], .int .i64 0]) ∧ PlainAt w' q n (Mb.put u P N U) ∧ Touch (Lone q) w w' := by
  have HK := fun W => Lib.hid (refCheck_word n 4 P N V U A L cap W (.inr (.inr rfl)) hN hal hn h)
  have HLO := fun W => Lib.hid (refLow_any V N W hV hN)
  have HLU := fun W => Lib.hid (refLow_any U N W hU hN)
  generalize V % 2 ^ (8 * N) = XV at *
  subst heq
  have hnum := Lib.hid (Mb.num_bl u P N)
  have htk : (Mb.bl u P N).take 8 = Mb.bl u P N := List.take_of_length_le (by rw [Mb.bl_length]; omega)
  have hN8 : N ≤ 8 := by omega
  have hX : U % 2 ^ (8 * N) < 18446744073709551616 := Nat.lt_of_le_of_lt (Nat.mod_le _ _) hU
  have HBY := fun W => Lib.hid (refBytes_byt (U % 2 ^ (8 * N)) N W hX hN8)
  have hlay := Lib.hid (lay_mod u P N U)
  generalize U % 2 ^ (8 * N) = X at *
  have HR := Lib.hid hr
  have hql := hr.lt
  have HU := Lib.hid hu
  clear hr hu
  have HC := Lib.hid (acc_made w 4 P N V U (.slice A L cap) (.cells #[.int .u64 0, .bool false, .slice none 0 0] 25))
  have HA := Lib.hid (ans_made w (.cells #[.int .i64 4, .int .i64 P, .int .i64 N, .int .u64 V, .int .u64 U, .slice A L cap] 30))
  have HW := Lib.hid (((Below.refl w.heap.size w).alloc (Nat.le_refl _) (.cells #[.int .i64 4, .int .i64 P, .int .i64 N, .int .u64 V, .int .u64 U, .slice A L cap] 30)).alloc (by simp) (.cells #[.int .u64 0, .bool false, .slice none 0 0] 25))
  go_enter Tryz.func16, Tryz.ntmps16
  go_upto_region 1 with (fail)
  generalize (w.alloc (.cells #[.int .i64 4, .int .i64 P, .int .i64 N, .int .u64 V, .int .u64 U, .slice A L cap] 30)).alloc (.cells #[.int .u64 0, .bool false, .slice none 0 0] 25) = W at HC HA HW ⊢
  obtain ⟨c0, c1, c2, c3, c4, c5⟩ := HC.out
  go_upto_region 2 with (go_at_call 39; refine (HK _).out.mono ?_; rintro e w1 ⟨rfl, hb1⟩)
  have HA1 := Lib.hid (HA.out.later hb1)
  have HW1 := Lib.hid (HW.out.trans (hb1.mono HW.out.size))
  have hw1 : w.heap.size + 1 < w1.heap.size := Nat.lt_of_lt_of_le (lt_of_cell HA.out.a0) hb1.size
  obtain ⟨c0, c1, c2, c3, c4, c5⟩ := HC.out.below hb1
  have hr1 : PlainAt w1 q n u := HR.out.of_block (HW1.out.block q HR.out.lt)
  have HP := Lib.hid (hr1.part P N (n - P) h)
  have hpq : (P : Int) + N ≤ n := by omega
  have hpq2 : (P : Int) ≤ P + N := by omega
  have h8 : Hid (Wd.Bytes8 (Mb.bl u P N)) := Lib.hid (fun x hx => by have := Bys.bl HU.out P N x hx; omega)
  have HR1 := Lib.hid hr1
  clear hb1 hr1
  go_upto_region 5 with (fail)
  go_upto_region 12 with (go_at_call 40; refine (refNumber_any _ (Mb.bl u P N) _ h8.out HP.out).mono ?_; rintro e w2 ⟨rfl, rfl⟩; rw [htk, hnum.out])
  go_wp2_with (go_at_call 42; refine (HLO _).out.mono ?_; rintro e w2 ⟨rfl, rfl⟩)
  go_region_held3 (fun w' => w'.cell? ⟨w.heap.size, 2, none⟩ = some (.int .i64 N) ∧ w'.cell? ⟨w.heap.size, 4, none⟩ = some (.int .u64 U)) (go_keep)
    (first | (go_at_call 42; refine (HLU _).out.mono ?_; rintro e w2 ⟨rfl, rfl⟩) | (go_at_call 41; refine (HBY _).out.mono ?_; rintro e w3 ⟨Ax, cx, rfl, hx3, hb3d⟩; have hb3 := below_drew hb3d; obtain ⟨w4, hrun4, hr4, ht4⟩ := run_copy_bytes (dLen := N) (dCap := n - P) (off := P) (HR1.out.of_block (hb3.block q (Nat.lt_of_lt_of_le hql HW1.out.size))) Ax N cx hx3 h (Nat.le_refl _) 3; have hlq : ¬ Lone q w.heap.size := (fun e => Nat.ne_of_gt hql e); have k2 := (hb3.cell (p := ⟨w.heap.size, 2, none⟩) (lt_of_cell c2)).trans c2; have k3 := (hb3.cell (p := ⟨w.heap.size, 4, none⟩) (lt_of_cell c4)).trans c4; have z2 := (ht4.cell (p := ⟨w.heap.size, 2, none⟩) (lt_of_cell k2) hlq).trans k2; have z3 := (ht4.cell (p := ⟨w.heap.size, 4, none⟩) (lt_of_cell k3) hlq).trans k3))
  have hb13 := HW1.out.trans (hb3.mono HW1.out.size)
  have ht5 : Touch (Lone q) w w4 := (Touch.of_below hb13).trans ht4
  have hs13 := hb3.size
  obtain ⟨a0, a1, a2, f0, f1, f2, _⟩ := AnsAt.of_blk ((ht4.block _ (by omega) fun e => by have e : w.heap.size + 1 = q := e; omega).trans ((hb3.block _ hw1).trans HA1.out.blk))
  rw [hlay.out] at hr4
  have HR4 := Lib.hid hr4
  have HT5 := Lib.hid ht5
  clear hr4 ht5 ht4 hx3
  go_wp2_with fail
  refine bodyPost_ret (v := .tuple #[.agg #[.int .u64 (Mb.nm u P N : Nat), .bool true, .slice none 0 0], .int .i64 0]) (by simp [results, Tryz.results16, go_sem, a0, a1, a2]) rfl ?_
  have hq3 : q ≠ w.heap.size + 1 := by omega
  refine ⟨rfl, HR4.out.of_block ((Below.heap_setCell _ _ _ _ hq3).trans ((Below.heap_setCell _ _ _ _ hq3).trans (Below.heap_setCell _ _ _ _ hq3))), ?_⟩
  exact ((HT5.out.setNew (p := ⟨w.heap.size + 1, 0, none⟩) (Nat.le_succ _) _).setNew (p := ⟨w.heap.size + 1, 1, none⟩) (Nat.le_succ _) _).setNew (p := ⟨w.heap.size + 1, 2, none⟩) (Nat.le_succ _) _
end Go.Proofs.YtikcnioooihncaaGreat
namespace Go.Proofs.YtikcnioooihncaaGreat
open Go.RowKit

/-- An access that stands in S bytes: of a word, or of bytes that are written. -/
structure ShAcc (S : Nat) (K : Int) (P N L : Nat) (f : Nat → Nat) : Prop where
  inb : P + N ≤ S
  kind : (L = 0 ∧ (K = 1 ∨ K = 2 ∨ K = 4) ∧ (N = 4 ∨ N = 8)) ∨ (K = 6 ∧ N = L ∧ 1 ≤ N ∧ N ≤ 8)
  isB : Mb.IsB f

theorem lay_put {u f : Nat → Nat} (hf : Mb.IsB f) (P N : Nat) : Cy.lay u f P N = Mb.put u P N (Mb.nm f 0 N) := by
  funext k
  unfold Cy.lay Mb.put
  by_cases h : P ≤ k ∧ k < P + N
  · rw [if_pos h, if_pos h, Mb.byt_nm hf 0 N (k - P) (by omega), Nat.zero_add]
  · rw [if_neg h, if_neg h]

theorem chk_writes {S : Int} {P N : Nat} (hN : N ≤ 8) (h : (P : Int) + N ≤ S) : chk S 6 P N N = 0 := by
  have hf : formed 6 N N = true := by
    unfold formed
    rw [if_neg (by decide), if_neg (by decide), if_neg (by decide), if_pos rfl]
    simp
    omega
  have hb : numB 6 = false := rfl
  unfold chk
  rw [hf, if_neg (by decide), if_neg (by omega), hb, if_neg (fun h => by cases h.1)]

theorem nm_small {m : Nat → Nat} (hm : Mb.IsB m) {P N : Nat} (hN : N = 4 ∨ N = 8) : Mb.nm m P N < 18446744073709551616 := by
  have := Mb.nm_lt hm P N
  rcases hN with rfl | rfl
  · have e : (2 : Nat) ^ (8 * 4) = 4294967296 := by decide
    omega
  · have e : (2 : Nat) ^ (8 * 8) = 18446744073709551616 := by decide
    omega

theorem shPair {nw : Nat} {m : Nat → Nat} (hm : Mb.IsB m) (hnw : 8 * nw ≤ 1000000) {K : Int} {P N V U L : Nat} {f : Nat → Nat} (ha : ShAcc (8 * nw) K P N L f) (hV : V < 18446744073709551616) (hU : U < 18446744073709551616) :
    ∃ (er : Int) (v : Nat) (d : Bool) (m2 : Nat → Nat), v < 18446744073709551616 ∧ Mb.IsB m2 ∧ ∀ (A : Option Addr) (cap : Nat), L ≤ cap → cap ≤ 9223372036854775807 →
      (∀ {w : World} {g h : Nat} {c : Int}, Buf w g h m nw c → BytesAt w (.slice A L cap) (Mb.bl f 0 L) →
        Calls Tryz.prog 15 #[.pointer (some ⟨g, 0, none⟩), .agg #[.int .i64 K, .int .i64 P, .int .i64 N, .int .u64 V, .int .u64 U, .slice A L cap]] w
          fun e w' => ∃ A2 c2 c', e = .returned (.tuple #[.agg #[.int .u64 v, .bool d, .slice A2 0 c2], .int .i64 er]) ∧ Buf w' g h m2 nw c' ∧ Touch (Two g h) w w') ∧
      (∀ {w : World} {q : Nat}, PlainAt w q (8 * nw) m → BytesAt w (.slice A L cap) (Mb.bl f 0 L) →
        Calls Tryz.prog 16 #[.slice (some ⟨q, 0, none⟩) ((8 * nw : Nat)) ((8 * nw : Nat)), .agg #[.int .i64 K, .int .i64 P, .int .i64 N, .int .u64 V, .int .u64 U, .slice A L cap]] w
          fun e w' => e = .returned (.tuple #[.agg #[.int .u64 v, .bool d, .slice none 0 0], .int .i64 er]) ∧ PlainAt w' q (8 * nw) m2 ∧ Touch (Lone q) w w') := by
  have hin := ha.inb
  have buf : ∀ (A : Option Addr) (cap : Nat) (hcap : L ≤ cap) (hcap2 : cap ≤ 9223372036854775807) (ok : chk (8 * (nw : Int)) K P N L = 0) (hK5 : K ≠ 5) (w : World) (g h : Nat) (c : Int), Buf w g h m nw c → BytesAt w (.slice A L cap) (Mb.bl f 0 L) →
      Calls Tryz.prog 15 #[.pointer (some ⟨g, 0, none⟩), .agg #[.int .i64 K, .int .i64 P, .int .i64 N, .int .u64 V, .int .u64 U, .slice A L cap]] w
        fun e w' => ∃ A2 c2 c', e = .returned (.tuple #[.agg #[.int .u64 (Mb.ansV m K P N), .bool (Mb.ansD m K P N V), .slice A2 0 c2], .int .i64 0]) ∧ Buf w' g h (Mb.aft m K P N V U f) nw c' ∧ Touch (Two g h) w w' := by
    intro A cap hcap hcap2 ok hK5 w g h c B hb
    refine (do_ok B K P N V U ha.isB A L cap hcap hcap2 hb hV ok).mono ?_
    rintro e w' ⟨s, rfl, hs, hst, htt⟩
    have e3 : Mb.ansB m K P N = [] := by unfold Mb.ansB; rw [if_neg hK5]
    rw [e3] at hs
    obtain ⟨A2, c2, rfl, _⟩ := hs
    exact ⟨A2, c2, _, rfl, hst, htt⟩
  rcases ha.kind with ⟨rfl, hK, hN⟩ | ⟨rfl, hNL, h1, h8⟩
  · by_cases hal : P % N = 0
    · have ok : chk (8 * (nw : Int)) K P N (0 : Nat) = 0 := by
        have := chk_word (S := 8 * (nw : Int)) (P := P) (N := N) hK hN (by omega)
        rw [if_pos hal] at this
        exact this
      refine ⟨0, Mb.ansV m K P N, Mb.ansD m K P N V, Mb.aft m K P N V U f, ?_, aft_isB hm _ _ _ _ _ _, fun A cap hcap hcap2 => ⟨fun {w g h c} => buf A cap hcap hcap2 ok (by rintro rfl; rcases hK with h | h | h <;> cases h) w g h c, fun {w q} hr _ => ?_⟩⟩
      · unfold Mb.ansV
        split
        · exact nm_small hm hN
        · decide
      · rcases hK with rfl | rfl | rfl
        · refine (refDo_load hr hm P N V U A 0 cap hN hal hnw hin).mono ?_
          rintro e w' ⟨rfl, hb⟩
          exact ⟨by simp [Mb.ansV, Mb.ansD], by simpa [Mb.aft] using hr.of_block (hb.block q hr.lt), Touch.of_below hb⟩
        · refine (refDo_store hr hm P N V U A 0 cap hV hN hal hnw hin).mono ?_
          rintro e w' ⟨rfl, hr2, ht⟩
          exact ⟨by simp [Mb.ansV, Mb.ansD], by simpa [Mb.aft] using hr2, ht⟩
        · by_cases he : Mb.nm m P N = V % 2 ^ (8 * N)
          · refine (refDo_cas_yes hr hm P N V U A 0 cap hV hN hal hnw hin hU he).mono ?_
            rintro e w' ⟨rfl, hr2, ht⟩
            have e1 : Mb.ansD m 4 P N V = true := by unfold Mb.ansD; rw [decide_eq_true he]; rfl
            have e2 : Mb.ansV m 4 P N = Mb.nm m P N := by unfold Mb.ansV; rw [if_pos (.inr (.inr rfl))]
            have e3 : Mb.aft m 4 P N V U f = Mb.put m P N U := by unfold Mb.aft; rw [if_neg (by decide), if_neg (by decide), if_pos rfl, if_pos he]
            rw [e1, e2, e3]
            exact ⟨rfl, hr2, ht⟩
          · refine (refDo_cas_no hr hm P N V U A 0 cap hN hal hnw hin hV he).mono ?_
            rintro e w' ⟨rfl, hb⟩
            have e1 : Mb.ansD m 4 P N V = false := by unfold Mb.ansD; rw [decide_eq_false he]; rfl
            have e2 : Mb.ansV m 4 P N = Mb.nm m P N := by unfold Mb.ansV; rw [if_pos (.inr (.inr rfl))]
            have e3 : Mb.aft m 4 P N V U f = m := by unfold Mb.aft; rw [if_neg (by decide), if_neg (by decide), if_pos rfl, if_neg he]
            rw [e1, e2, e3]
            exact ⟨rfl, hr.of_block (hb.block q hr.lt), Touch.of_below hb⟩
    · have hc : chk (8 * (nw : Int)) K P N (0 : Nat) = 3 := by
        have := chk_word (S := 8 * (nw : Int)) (P := P) (N := N) hK hN (by omega)
        rw [if_neg hal] at this
        exact this
      refine ⟨3, 0, false, m, by decide, hm, fun A cap hcap hcap2 => ⟨fun {w g h c} B _ => ?_, fun {w q} hr _ => ?_⟩⟩
      · have := do_no B K P N V U A 0 cap (by rw [hc]; decide)
        rw [hc] at this
        refine this.mono ?_
        rintro e w' ⟨rfl, hb⟩
        exact ⟨none, 0, c, rfl, B.below hb, Touch.of_below hb⟩
      · refine (refDo_skew q (8 * nw) K P N V U A 0 cap w hK hN hal hnw hin).mono ?_
        rintro e w' ⟨rfl, hb⟩
        exact ⟨rfl, hr.of_block (hb.block q hr.lt), Touch.of_below hb⟩
  · subst hNL
    have e1 : Mb.ansD m 6 P N V = false := by unfold Mb.ansD; rfl
    have e2 : Mb.ansV m 6 P N = 0 := by unfold Mb.ansV; rw [if_neg (by decide)]
    have e3 : Mb.aft m 6 P N V U f = Mb.put m P N (Mb.nm f 0 N) := by unfold Mb.aft; rw [if_neg (by decide), if_neg (by decide), if_neg (by decide), if_pos rfl]
    have hbuf := fun A cap hcap hcap2 => buf A cap hcap hcap2 (chk_writes h8 (by omega)) (by decide)
    simp only [e1, e2, e3] at hbuf
    refine ⟨0, 0, false, _, by decide, Mb.put_isB hm _ _ _, fun A cap hcap hcap2 => ⟨fun {w g h c} => hbuf A cap hcap hcap2 w g h c, fun {w q} hr hb => ?_⟩⟩
    refine (refDo_write hr hm P N V U A cap f hb h8 h1 hnw hin).mono ?_
    rintro e w' ⟨rfl, hr2, ht⟩
    rw [lay_put ha.isB] at hr2
    exact ⟨rfl, hr2, ht⟩
end Go.Proofs.YtikcnioooihncaaGreat
namespace Go.Proofs.YtikcnioooihncaaGreat
open Go.RowKit

/-- The bytes of a buffer, d of them copied. -/
def aftK (kd : Kd) (m : Nat → Nat) (a d : Nat) : Nat → Nat :=
  match kd with
  | .wr _ f => Cy.lay m f a d
  | .ze _ => Cy.lay m (fun _ => 0) a d
  | .rd _ => m

/-- What was read of them. -/
def gotK (kd : Kd) (m : Nat → Nat) (a d : Nat) : List Int := if kd.reads then Mb.bl m a d else []

/-- Its bytes are bytes. -/
def Kd.fine (kd : Kd) : Prop := match kd with
  | .wr _ f => Mb.IsB f
  | _ => True

theorem aftK_zero (kd : Kd) (m : Nat → Nat) (a : Nat) : aftK kd m a 0 = m := by
  cases kd with
  | wr _ f => exact Cy.lay_zero m f a
  | ze _ => exact Cy.lay_zero m (fun _ => 0) a
  | rd _ => rfl

theorem gotK_zero (kd : Kd) (m : Nat → Nat) (a : Nat) : gotK kd m a 0 = [] := by
  unfold gotK
  split <;> rfl

theorem gotK_step (kd : Kd) (m : Nat → Nat) (a d c : Nat) : gotK kd m a d ++ (if kd.reads then gotK kd m (a + d) c else []) = gotK kd m a (d + c) := by
  unfold gotK
  by_cases h : kd.reads = true
  · rw [if_pos h, if_pos h, if_pos h, if_pos h, Mb.bl_append]
  · rw [if_neg h, if_neg h, if_neg h]; rfl

theorem gotK_length (kd : Kd) (m : Nat → Nat) (a d : Nat) : (gotK kd m a d).length ≤ d := by
  unfold gotK
  split
  · rw [Mb.bl_length]; exact Nat.le_refl _
  · simp

theorem Owns.room {base : Nat} {w : World} {A : Option Addr} {l c : Nat} {xs : List Int} (h : Owns base w (.slice A l c) xs) : xs.length = l ∧ l ≤ c ∧ c ≤ 9223372036854775807 := by
  rcases h.2 with ⟨hv, h0⟩ | ⟨g, cap, cur, hv, _, _, hnc, hm, _⟩
  · injection hv with e1 e2 e3
    subst e2 e3
    exact ⟨by omega, Nat.le_refl _, by decide⟩
  · injection hv with e1 e2 e3
    subst e2 e3
    exact ⟨rfl, hnc, by unfold maxLen at hm; omega⟩

theorem chk_write {S : Int} {p n : Nat} (h : (p : Int) + n ≤ S) (hn : n ≤ 8) : chk S 6 p n n = 0 := by
  have e : formed 6 n n = true := by unfold formed; simp; omega
  unfold chk
  rw [e]
  rw [if_neg (by simp), if_neg (by omega), if_neg (by simp [numB])]

theorem chk_read {S : Int} {p n l : Nat} (h : (p : Int) + n ≤ S) (hn : n ≤ 8) : chk S 5 p n l = 0 := by
  have e : formed 5 n l = true := by unfold formed; simp; omega
  unfold chk
  rw [e]
  rw [if_neg (by simp), if_neg (by omega), if_neg (by simp [numB])]

/-- A copy's access was done. -/
def StepDone (kd : Kd) (m : Nat → Nat) (a d c : Nat) (gb hb nw : Nat) (cn : Int) (w : World) (e : Ending) (w' : World) : Prop :=
  ∃ A l cp, e = .returned (.tuple #[.agg #[.int .u64 0, .bool false, .slice A l cp], .int .i64 0]) ∧ BytesAt w' (.slice A l cp) (gotK kd m (a + d) c) ∧ Stored gb hb (aftK kd m a (d + c)) nw (nxt cn) w w'

theorem step_do (kd : Kd) {m : Nat → Nat} {a d c gb hb nw : Nat} {cn : Int} {w : World} (hk : kd.fine) (B : Buf w gb hb (aftK kd m a d) nw cn) {base : Nat} {A : Option Addr} {l cp : Nat} (ho : Owns base w (.slice A l cp) (kd.bytes d c)) (hc : c ≤ 8) (hin : a + d + c ≤ 8 * nw) :
    Calls Tryz.prog 15 #[.pointer (some ⟨gb, 0, none⟩), .agg #[.int .i64 kd.kind, .int .i64 ((a + d : Nat) : Int), .int .i64 c, .int .u64 0, .int .u64 0, .slice A l cp]] w (StepDone kd m a d c gb hb nw cn w) := by
  have hr := ho.room
  cases kd with
  | wr at_ f =>
    have hl : l = c := by have := hr.1; simp only [Kd.bytes, Mb.bl_length] at this; omega
    subst hl
    have hf : Mb.IsB f := hk
    have hfd : Mb.IsB (fun i => f (d + i)) := fun _ => hf _
    have hbt : BytesAt w (.slice A l cp) (Mb.bl (fun i => f (d + i)) 0 l) := by
      have := ho.bytes
      have e : Mb.bl (fun i => f (d + i)) 0 l = Mb.bl f d l := by simp [Mb.bl]
      rw [e]
      exact this
    refine (do_ok B 6 (a + d) l 0 0 hfd A l cp hr.2.1 hr.2.2 hbt (by decide) (chk_write (by omega) hc)).mono ?_
    rintro e w' ⟨s, rfl, hb, hs⟩
    obtain ⟨A2, c2, hv, _⟩ := hb
    refine ⟨A2, 0, c2, by rw [hv]; rfl, ?_, ?_⟩
    · exact ⟨A2, c2, rfl, fun h => absurd h (by simp [gotK, Kd.reads])⟩
    · have e : Mb.aft (aftK (.wr at_ f) m a d) 6 (a + d) l 0 0 (fun i => f (d + i)) = aftK (.wr at_ f) m a (d + l) := Cy.lay_step hf a d l
      rw [← e]
      exact hs
  | ze at_ =>
    have hl : l = c := by have := hr.1; simp only [Kd.bytes, Mb.bl_length] at this; omega
    subst hl
    have hf : Mb.IsB (fun _ => 0) := Mb.zero_isB
    have hbt : BytesAt w (.slice A l cp) (Mb.bl (fun _ => 0) 0 l) := ho.bytes
    refine (do_ok B 6 (a + d) l 0 0 hf A l cp hr.2.1 hr.2.2 hbt (by decide) (chk_write (by omega) hc)).mono ?_
    rintro e w' ⟨s, rfl, hb, hs⟩
    obtain ⟨A2, c2, hv, _⟩ := hb
    refine ⟨A2, 0, c2, by rw [hv]; rfl, ?_, ?_⟩
    · exact ⟨A2, c2, rfl, fun h => absurd h (by simp [gotK, Kd.reads])⟩
    · have e : Mb.aft (aftK (.ze at_) m a d) 6 (a + d) l 0 0 (fun _ => 0) = aftK (.ze at_) m a (d + l) := Cy.lay_step hf a d l
      rw [← e]
      exact hs
  | rd at_ =>
    have hl : l = 0 := by have := hr.1; simp only [Kd.bytes, List.length_nil] at this; omega
    subst hl
    have hbt : BytesAt w (.slice A 0 cp) (Mb.bl (fun _ => 0) 0 0) := ho.bytes
    refine (do_ok B 5 (a + d) c 0 0 Mb.zero_isB A 0 cp hr.2.1 hr.2.2 hbt (by decide) (chk_read (by omega) hc)).mono ?_
    rintro e w' ⟨s, rfl, hb, hs⟩
    obtain ⟨A2, c2, rfl, hx⟩ := hb
    exact ⟨A2, _, c2, rfl, ⟨A2, c2, rfl, hx⟩, hs⟩

theorem step_do_as (kd : Kd) {m : Nat → Nat} {a d c gb hb nw : Nat} {cn : Int} {w : World} (hk : kd.fine) (B : Buf w gb hb (aftK kd m a d) nw cn) {base : Nat} {A : Option Addr} {l cp : Nat} (ho : Owns base w (.slice A l cp) (kd.bytes d c)) (hc : c ≤ 8) (hin : a + d + c ≤ 8 * nw)
    {K P : Int} (hK : kd.kind = K) (hP : ((a + d : Nat) : Int) = P) :
    Calls Tryz.prog 15 #[.pointer (some ⟨gb, 0, none⟩), .agg #[.int .i64 K, .int .i64 P, .int .i64 c, .int .u64 0, .int .u64 0, .slice A l cp]] w (StepDone kd m a d c gb hb nw cn w) := by
  subst hK hP
  exact step_do kd hk B ho hc hin

/-- The blocks that a run writes. -/
def RunS (gb hb g : Nat) (v : Value) (k : Nat) : Prop := Two gb hb k ∨ Mine g v k

/-- A machine ran to its end on a buffer. -/
def RunIs (kd : Kd) (m : Nat → Nat) (a n gb hb nw base top g : Nat) (v : Value) (w : World) (e : Ending) (w' : World) : Prop :=
  ∃ v' c', e = .returned (.bool true) ∧ Buf w' gb hb (aftK kd m a n) nw c' ∧ Cp w' base top g kd n 0 v' (gotK kd m a n) ∧ Touch (RunS gb hb g v) w w' ∧ Lies v v' w

theorem touch_mine {gb hb g : Nat} {v v1 : Value} {w w1 w2 : World} (h : Touch (RunS gb hb g v) w w1) (hl : Lies v v1 w) (ht : Touch (Mine g v1) w1 w2) : Touch (RunS gb hb g v) w w2 :=
  ⟨ht.os.trans h.os, ht.tape.trans h.tape, ht.output.trans h.output, Nat.le_trans h.size ht.size, fun k hk hn => (ht.block k (Nat.lt_of_lt_of_le hk h.size) (fun hm => by
    rcases hm with hm | hm
    · exact hn (.inr (.inl hm))
    · rcases hl k hm with e | e
      · exact hn (.inr (.inr e))
      · omega)).trans (h.block k hk hn)⟩

theorem lies_trans {v v1 v2 : Value} {w w1 : World} (h : Lies v v1 w) (hs : w.heap.size ≤ w1.heap.size) (k : Lies v1 v2 w1) : Lies v v2 w := fun q hq => by
  rcases k q hq with e | e
  · exact h q e
  · exact .inr (Nat.le_trans hs e)

end Go.Proofs.YtikcnioooihncaaGreat
namespace Go.Proofs.YtikcnioooihncaaGreat
open Go.RowKit

theorem bl_from0 (u : Nat → Nat) (a n : Nat) : Mb.bl u a n = Mb.bl (fun j => u (a + j)) 0 n := by
  unfold Mb.bl
  refine List.map_congr_left fun i _ => ?_
  rw [Nat.zero_add]

/-- An access that stands in S bytes: of a word, of bytes that are written, or of bytes that are read. -/
def ShAny (S : Nat) (K : Int) (P N L : Nat) (f : Nat → Nat) : Prop := ShAcc S K P N L f ∨ (K = 5 ∧ L = 0 ∧ 1 ≤ N ∧ N ≤ 8 ∧ P + N ≤ S ∧ Mb.IsB f)

/-- What an access does on a buffer and on plain bytes. -/
def ShBoth (nw : Nat) (m m2 : Nat → Nat) (K : Int) (P N V U L : Nat) (f : Nat → Nat) (er : Int) (v : Nat) (d : Bool) (nb : Nat) (fa : Nat → Nat) (A : Option Addr) (cap : Nat) : Prop :=
  (∀ (w : World) (g h : Nat) (c : Int), Buf w g h m nw c → BytesAt w (.slice A L cap) (Mb.bl f 0 L) →
    Calls Tryz.prog 15 #[.pointer (some ⟨g, 0, none⟩), .agg #[.int .i64 K, .int .i64 P, .int .i64 N, .int .u64 V, .int .u64 U, .slice A L cap]] w
      fun e w' => ∃ A2 c2 c', e = .returned (.tuple #[.agg #[.int .u64 v, .bool d, .slice A2 nb c2], .int .i64 er]) ∧ BytesIn (fun k => w.heap.size ≤ k) w' (.slice A2 nb c2) (Mb.bl fa 0 nb) ∧ Buf w' g h m2 nw c' ∧ Touch (Two g h) w w') ∧
  (∀ (w : World) (q : Nat), PlainAt w q (8 * nw) m → BytesAt w (.slice A L cap) (Mb.bl f 0 L) →
    Calls Tryz.prog 16 #[.slice (some ⟨q, 0, none⟩) ((8 * nw : Nat)) ((8 * nw : Nat)), .agg #[.int .i64 K, .int .i64 P, .int .i64 N, .int .u64 V, .int .u64 U, .slice A L cap]] w
      fun e w' => ∃ A3 c3, e = .returned (.tuple #[.agg #[.int .u64 v, .bool d, .slice A3 nb c3], .int .i64 er]) ∧ Owns w.heap.size w' (.slice A3 nb c3) (Mb.bl fa 0 nb) ∧ PlainAt w' q (8 * nw) m2 ∧ Touch (Lone q) w w')

theorem shPairB {nw : Nat} {m : Nat → Nat} (hm : Mb.IsB m) (hnw : 8 * nw ≤ 1000000) {K : Int} {P N V U L : Nat} {f : Nat → Nat} (ha : ShAny (8 * nw) K P N L f) (hV : V < 18446744073709551616) (hU : U < 18446744073709551616) :
    ∃ (er : Int) (v : Nat) (d : Bool) (m2 : Nat → Nat) (nb : Nat) (fa : Nat → Nat), v < 18446744073709551616 ∧ Mb.IsB m2 ∧ Mb.IsB fa ∧ nb ≤ 8 ∧ ∀ (A : Option Addr) (cap : Nat), L ≤ cap → cap ≤ 9223372036854775807 → ShBoth nw m m2 K P N V U L f er v d nb fa A cap := by
  rcases ha with ha | ⟨rfl, rfl, h1, h8, hin, hf⟩
  · obtain ⟨er, v, d, m2, hv, hm2, h⟩ := shPair hm hnw ha hV hU
    refine ⟨er, v, d, m2, 0, fun _ => 0, hv, hm2, Mb.zero_isB, by omega, fun A cap hc1 hc2 => ⟨fun w g h' c B hb => ?_, fun w q hr hb => ?_⟩⟩
    · refine ((h A cap hc1 hc2).1 B hb).mono ?_
      rintro e w' ⟨A2, c2, c', rfl, hB, ht⟩
      exact ⟨A2, c2, c', rfl, ⟨A2, c2, rfl, fun h => absurd h (by simp [Mb.bl])⟩, hB, ht⟩
    · refine ((h A cap hc1 hc2).2 hr hb).mono ?_
      rintro e w' ⟨rfl, hr2, ht⟩
      exact ⟨none, 0, rfl, World.ownsRow_nil _ _ _ _, hr2, ht⟩
  · refine ⟨0, 0, false, m, N, fun j => m (P + j), by decide, hm, fun j => hm _, h8, fun A cap hc1 hc2 => ⟨fun w g h c B hb => ?_, fun w q hr hb => ?_⟩⟩
    · refine (do_in B 5 P N V U hf A 0 cap hc1 hc2 hb hV (chk_read (by omega) h8)).mono ?_
      rintro e w' ⟨s, rfl, hs, hst, htt⟩
      have e1 : Mb.ansV m 5 P N = 0 := by unfold Mb.ansV; rw [if_neg (by decide)]
      have e2 : Mb.ansD m 5 P N V = false := by unfold Mb.ansD; rfl
      have e3 : Mb.ansB m 5 P N = Mb.bl (fun j => m (P + j)) 0 N := by unfold Mb.ansB; rw [if_pos rfl, bl_from0]
      have e4 : Mb.aft m 5 P N V U f = m := by unfold Mb.aft; rw [if_neg (by decide), if_neg (by decide), if_neg (by decide), if_neg (by decide)]
      rw [e3] at hs
      rw [e4] at hst
      obtain ⟨A2, c2, hs2, _⟩ := hs.length.elim fun A2 h => h.elim fun c2 h => (⟨A2, c2, h, trivial⟩ : ∃ A2 c2, s = .slice A2 (Mb.bl (fun j => m (P + j)) 0 N).length c2 ∧ True)
      rw [Mb.bl_length] at hs2
      subst hs2
      rw [e1, e2]
      exact ⟨A2, c2, _, rfl, hs, hst, htt⟩
    · refine (refDo_read hr hm P N V U A 0 cap h8 h1 hnw hin).mono ?_
      rintro e w' ⟨A3, l, c, rfl, ho, hbl⟩
      rw [bl_from0] at ho
      have hl : l = N := by
        obtain ⟨_, _, e, _⟩ := ho.bytes
        injection e with _ e _
        rw [e, Mb.bl_length]
      subst hl
      exact ⟨A3, c, rfl, ho, hr.of_block (hbl.block q hr.lt), Touch.of_below hbl⟩
end Go.Proofs.YtikcnioooihncaaGreat
namespace Go.Proofs.YtikcnioooihncaaGreat
open Go.RowKit

/-- A slice that reads as messages, in blocks that K names. -/
def MgsAt (K : Nat → Prop) (w : World) (v : Value) (ms : List (Int × List Int)) : Prop :=
  ∃ A c, v = .slice A ms.length c ∧ ms.length ≤ c ∧ c ≤ 9223372036854775807 ∧ (0 < ms.length → ∃ b, A = some ⟨b, 0, none⟩ ∧ K b ∧ b < w.heap.size ∧
    ∀ i t, ms[i]? = some t → ∃ d, w.cell? ⟨b, i * 2, none⟩ = some (.int .i32 t.1) ∧ w.cell? ⟨b, i * 2 + 1, none⟩ = some d ∧ BytesIn K w d t.2)

theorem msCells_at (l : List (Int × Value)) : ∀ (i : Nat) (t : Int × Value), l[i]? = some t → (msCells l)[i * 2]? = some (.int .i32 t.1) ∧ (msCells l)[i * 2 + 1]? = some t.2 := by
  induction l with
  | nil => intro i t h; simp at h
  | cons x l ih =>
    intro i t h
    obtain ⟨t0, v0⟩ := x
    cases i with
    | zero =>
      rw [List.getElem?_cons_zero] at h
      injection h with h
      subst h
      exact ⟨rfl, rfl⟩
    | succ i =>
      rw [List.getElem?_cons_succ] at h
      have := ih i t h
      show (Value.int .i32 t0 :: v0 :: msCells l)[(i + 1) * 2]? = _ ∧ (Value.int .i32 t0 :: v0 :: msCells l)[(i + 1) * 2 + 1]? = _
      rw [show (i + 1) * 2 = i * 2 + 1 + 1 by omega]
      simpa using this

theorem msCells_len (l : List (Int × Value)) : (msCells l).length = l.length * 2 := by
  induction l with
  | nil => rfl
  | cons x l ih =>
    obtain ⟨t0, v0⟩ := x
    show (Value.int .i32 t0 :: v0 :: msCells l).length = _
    rw [List.length_cons, List.length_cons, ih, List.length_cons]
    omega

namespace MgsAt
variable {K K' : Nat → Prop} {w w' : World} {v : Value} {ms : List (Int × List Int)}
theorem keep (h : MgsAt K w v ms) (hs : w.heap.size ≤ w'.heap.size) (hb : ∀ k, K k → k < w.heap.size → w'.heap[k]? = w.heap[k]?) : MgsAt K w' v ms := by
  obtain ⟨A, c, hv, h1, h2, h3⟩ := h
  refine ⟨A, c, hv, h1, h2, fun hp => ?_⟩
  obtain ⟨b, e, hk, hl, hr⟩ := h3 hp
  refine ⟨b, e, hk, Nat.lt_of_lt_of_le hl hs, fun i t hi => ?_⟩
  obtain ⟨d, h4, h5, h6⟩ := hr i t hi
  exact ⟨d, (World.cell?_of_block (w := w) (a := ⟨b, i * 2, none⟩) (hb b hk hl)).trans h4, (World.cell?_of_block (w := w) (a := ⟨b, i * 2 + 1, none⟩) (hb b hk hl)).trans h5, h6.keep hs hb⟩
theorem below (h : MgsAt K w v ms) (hb : Below w.heap.size w w') : MgsAt K w' v ms := h.keep hb.size fun k _ hl => hb.block k hl
theorem touch {S : Nat → Prop} (h : MgsAt K w v ms) (ht : Touch S w w') (hn : ∀ k, K k → k < w.heap.size → ¬ S k) : MgsAt K w' v ms := h.keep ht.size fun k hk hl => ht.block k hl (hn k hk hl)
theorem mono (h : MgsAt K w v ms) (hK : ∀ k, K k → k < w.heap.size → K' k) : MgsAt K' w v ms := by
  obtain ⟨A, c, hv, h1, h2, h3⟩ := h
  refine ⟨A, c, hv, h1, h2, fun hp => ?_⟩
  obtain ⟨b, e, hk, hl, hr⟩ := h3 hp
  refine ⟨b, e, hK b hk hl, hl, fun i t hi => ?_⟩
  obtain ⟨d, h4, h5, h6⟩ := hr i t hi
  exact ⟨d, h4, h5, h6.mono hK⟩
theorem none (K : Nat → Prop) (w : World) : MgsAt K w (.slice Option.none 0 0) [] := ⟨Option.none, 0, rfl, Nat.le_refl _, by decide, fun h => absurd h (by simp)⟩
end MgsAt

/-- A row of its own reads as messages. -/
theorem MsAt.read {K : Nat → Prop} {w : World} {mv : Value} {ms : List (Int × List Int)} (h : MsAt K w mv ms) : MgsAt K w mv ms := by
  obtain ⟨vs, h1, h2, h3, h4⟩ := h
  have h0 := h2
  rcases h2.2 with ⟨hv, hn⟩ | ⟨g, cap, cur, hv, _, h5, h6, h7, _⟩
  · have hms : ms = [] := List.eq_nil_of_length_eq_zero hn
    subst hms
    rw [hv]
    exact MgsAt.none K w
  · refine ⟨some ⟨g, 0, none⟩, cap, hv, h6, by unfold maxLen at h7; omega, fun _ => ⟨g, rfl, h3 g (by rw [hv]; rfl), (Array.getElem?_eq_some_iff.1 h5).1, fun i t hi => ?_⟩⟩
    have hil : i < ms.length := (List.getElem?_eq_some_iff.1 hi).1
    have hiv : i < vs.length := by omega
    have hit : ms[i] = t := (List.getElem?_eq_some_iff.1 hi).2
    have hz : ((ms.map Prod.fst).zip vs)[i]? = some (t.1, vs[i]) := by
      rw [List.getElem?_eq_getElem (by simp; omega), List.getElem_zip, List.getElem_map, hit]
    obtain ⟨e1, e2⟩ := msCells_at _ i _ hz
    have add : ∀ j, (⟨g, 0, none⟩ : Addr).add j = ⟨g, j, none⟩ := fun j => by unfold Addr.add; split <;> simp_all
    have c1 := h0.cells (g := g) (by rw [hv]; rfl) _ _ e1
    have c2 := h0.cells (g := g) (by rw [hv]; rfl) _ _ e2
    rw [add] at c1 c2
    refine ⟨vs[i], c1, c2, ?_⟩
    have := (h4 i hil hiv).mono (K' := K) fun k hk _ => hk.1
    rw [hit] at this
    exact this

/-- Cells stored in one block turn no other. -/
theorem mgSet_far (w : World) (b : Nat) : ∀ (vs : List Value) (o : Nat) {k : Nat}, k ≠ b → (w.setCells b o vs).heap[k]? = w.heap[k]? := by
  intro vs
  induction vs generalizing w with
  | nil => intro o k _; rfl
  | cons v r ih =>
    intro o k hk
    show ((w.setCell ⟨b, o, none⟩ v).setCells b (o + 1) r).heap[k]? = _
    rw [ih _ _ hk, Below.heap_setCell _ _ _ _ hk]
theorem mgSet_size (w : World) (b : Nat) : ∀ (vs : List Value) (o : Nat), (w.setCells b o vs).heap.size = w.heap.size := by
  intro vs
  induction vs generalizing w with
  | nil => intro o; rfl
  | cons v r ih =>
    intro o
    show ((w.setCell ⟨b, o, none⟩ v).setCells b (o + 1) r).heap.size = _
    rw [ih]
    simp [World.setCell]

/-- The zeros of new messages. -/
def zmg (j : Nat) : Value := ([.int .i32 0, .slice none 0 0] : List Value).getD (j % 2) undef
/-- A copy: a message, its bytes' slice. -/
abbrev Mx := (Int × List Int) × Value
def mxCells (qs : List Mx) : List Value := msCells (qs.map fun q => (q.1.1, q.2))
/-- A row of messages whose first are copied. -/
def mrowF (qs : List Mx) (j : Nat) : Value := (mxCells qs).getD j (zmg j)

theorem mrowF_nil (j : Nat) : mrowF [] j = zmg j := by simp [mrowF, mxCells, msCells]
theorem mrowF_next (qs : List Mx) (t : Int) (ys : List Int) (v : Value) (j : Nat) : mrowF (qs ++ [((t, ys), v)]) j = if qs.length * 2 ≤ j ∧ j < qs.length * 2 + ([.int .i32 t, v] : List Value).length then ([.int .i32 t, v] : List Value)[j - qs.length * 2]?.getD default else mrowF qs j := by
  unfold mrowF
  have hl : (mxCells qs).length = qs.length * 2 := by unfold mxCells; rw [msCells_len, List.length_map]
  have he : mxCells (qs ++ [((t, ys), v)]) = mxCells qs ++ [.int .i32 t, v] := by
    unfold mxCells
    rw [List.map_append, List.map_cons, List.map_nil, msCells_app]
  rw [he]
  by_cases h1 : j < qs.length * 2
  · rw [if_neg (by omega), List.getD_eq_getElem?_getD, List.getD_eq_getElem?_getD, List.getElem?_append_left (by omega)]
  · by_cases h2 : j < qs.length * 2 + ([.int .i32 t, v] : List Value).length
    · rw [if_pos ⟨by omega, h2⟩, List.getD_eq_getElem?_getD, List.getElem?_append_right (by omega), hl]
      have h3 : j - qs.length * 2 < ([.int .i32 t, v] : List Value).length := by omega
      rw [List.getElem?_eq_getElem h3]
      rfl
    · rw [if_neg (by omega), List.getD_eq_getElem?_getD, List.getD_eq_getElem?_getD, List.getElem?_eq_none (by rw [List.length_append]; omega), List.getElem?_eq_none (by omega)]

theorem make_mgs (n : Nat) (hn : n ≤ 1000001) (W : World) :
    (Instr.makeSlice 39 (.int .i64 (n : Int)) (.int .i64 (n : Int))).run Tryz.prog W = .ok (.slice (some ⟨W.heap.size, 0, none⟩) n n) (W.alloc (.cells (madeCells #[.int .i32 0, .slice none 0 0] (n * 2)) 69)) := by
  obtain ⟨i, hi, hz, hs, hby⟩ := info_parts infoMsg
  have hr := run_make (P := Tryz.prog) W 39 69 i (.agg #[.int .i32 0, .slice none 0 0]) Tryz.underlying39 hi hz .i64 .i64 (n : Int) (n : Int) (by omega) (Int.le_refl _) (by rw [hby]; omega) (by omega)
  rw [hs] at hr
  simpa [Value.cells] using hr

theorem made_mgs (w : World) (n : Nat) : (w.alloc (.cells (madeCells #[.int .i32 0, .slice none 0 0] (n * 2)) 69)).rowIs w.heap.size 69 (n * 2) (mrowF []) :=
  ⟨_, Go.Deep.blk_alloc_new _ _, size_madeCells _ _, fun i hi => by
    rw [mrowF_nil]
    unfold zmg madeCells
    have hm : i % 2 < 2 := Nat.mod_lt _ (by decide)
    simp [hi, hm, List.getD]⟩

/-- Messages were told, in new memory. -/
def MsgsTold (ms : List (Int × List Int)) (w : World) (e : Ending) (w' : World) : Prop :=
  ∃ v, e = .returned v ∧ MgsAt (fun k => w.heap.size ≤ k) w' v ms ∧ Below w.heap.size w w'

theorem mg_take {α : Type} {l : List α} {i : Nat} {t : α} (h : l[i]? = some t) : l.take (i + 1) = l.take i ++ [t] := by
  rw [List.take_add_one, h]; rfl
end Go.Proofs.YtikcnioooihncaaGreat
namespace Go.Proofs.YtikcnioooihncaaGreat
open Go.RowKit

theorem refChunks_parts (n : Int) (w : World) : Calls Tryz.prog 96 #[.int .i64 n] w (MadeParts (Cy.cks (Cy.few n)) w) := by
  refine (refChunks_any n w).mono ?_
  rintro e w' ⟨v, rfl, ho, hb⟩
  rw [Cy.ckOf_few] at ho
  exact ⟨v, rfl, (Parts.of_own ho), hb⟩

/-- A byte's block is no tape's. -/
theorem Tp.byte_apart {w : World} {p cap n j : Nat} {A : Option Addr} {K P N V U : Int} {s : Value} {e : Bool} (h : Tp w p A cap n j K P N V U s e) (hs : ∀ x, s ≠ .int .u8 x) {b off : Nat} {x : Int} (hc : w.cell? ⟨b, off, none⟩ = some (.int .u8 x)) : b ≠ p := by
  rintro rfl
  have hb := h.blk
  simp [World.cell?, hb] at hc
  match off, hc with
  | 7, hc => simp at hc; exact hs _ hc
  | 0, hc | 1, hc | 2, hc | 3, hc | 4, hc | 5, hc | 6, hc | 8, hc => simp at hc
  | k + 9, hc => simp at hc

theorem BytesAt.one {w w' : World} {p cap n j : Nat} {A : Option Addr} {K P N V U : Int} {s : Value} {e : Bool} (h : Tp w p A cap n j K P N V U s e) (hs : ∀ x, s ≠ .int .u8 x) (ht : Touch (One p) w w') {v : Value} {xs : List Int} (hv : BytesAt w v xs) : BytesAt w' v xs := by
  obtain ⟨A2, c2, hv, hx⟩ := hv
  refine ⟨A2, c2, hv, fun hp => ?_⟩
  obtain ⟨b, off, e, hlt, hc⟩ := hx hp
  have hne : b ≠ p := h.byte_apart hs (hc 0 hp)
  exact ⟨b, off, e, Nat.lt_of_lt_of_le hlt ht.size, fun i hi => (ht.cell (p := ⟨b, off + i, none⟩) hlt hne).trans (hc i hi)⟩

theorem ToldAt.one {w w' : World} {p cap n j : Nat} {A : Option Addr} {K P N V U : Int} {s : Value} {e : Bool} (h : Tp w p A cap n j K P N V U s e) (hs : ∀ x, s ≠ .int .u8 x) (ht : Touch (One p) w w') {B : Option Addr} {m : Nat} {T : Nat → Ans} (hT : ToldAt w B m T)
    (hB : 0 < m → ∀ a, B = some a → a.block ≠ p) : ToldAt w' B m T := by
  intro hp
  obtain ⟨b, off, rfl, hlt, hc⟩ := hT hp
  have hne : b ≠ p := hB hp _ rfl
  refine ⟨b, off, rfl, Nat.lt_of_lt_of_le hlt ht.size, fun i hi => ?_⟩
  obtain ⟨c0, c1, c2, his⟩ := hc i hi
  have k := fun o => ht.cell (p := ⟨b, o, none⟩) hlt hne
  exact ⟨(k _).trans c0, (k _).trans c1, (k _).trans c2, ⟨his.num, his.isB, BytesAt.one h hs ht his.bytes, his.room, his.few⟩⟩

theorem cut_at (f : Nat → Nat) (a d n L : Nat) (h : d + n ≤ L) : ((Mb.bl f a L).drop d).take n = Mb.bl f (a + d) n := by
  have e : L = d + (n + (L - d - n)) := by omega
  rw [e, Mb.bl_append, Mb.bl_append, List.drop_left' (Mb.bl_length _ _ _), List.take_left' (by rw [Mb.bl_length])]

theorem bytesAt_none' (w : World) (A : Option Addr) (c : Nat) (f : Nat → Nat) (a : Nat) : BytesAt w (.slice A 0 c) (Mb.bl f a 0) := ⟨A, c, rfl, fun h => by simp [Mb.bl] at h⟩

/-- What a tape that was told i answers says of n bytes of f, written at 'at': the access that is wanted next, or none. -/
def SaidIn (p : Nat) (A : Option Addr) (cap i : Nat) (at_ : Int) (f : Nat → Nat) (n : Nat) (w : World) (e : Ending) (w' : World) : Prop :=
  ∃ b, e = .returned (.bool b) ∧ Touch (One p) w w' ∧
    ((8 * i < n ∧ ∃ B L c, Tp w' p A cap i i 6 (at_ + (8 * i : Nat)) (Cy.nx (n - 8 * i) : Nat) 0 0 (.slice B L c) true ∧ BytesAt w' (.slice B L c) (Mb.bl f (8 * i) (Cy.nx (n - 8 * i)))) ∨
     (n ≤ 8 * i ∧ ∃ j, Tp w' p A cap i j 0 0 0 0 0 (.slice none 0 0) false))

/-- The same; and the access' bytes lie in a block of K. -/
def SaidInK (K : Nat → Prop) (p : Nat) (A : Option Addr) (cap i : Nat) (at_ : Int) (f : Nat → Nat) (n : Nat) (w : World) (e : Ending) (w' : World) : Prop :=
  ∃ b, e = .returned (.bool b) ∧ Touch (One p) w w' ∧
    ((8 * i < n ∧ ∃ B L c, Tp w' p A cap i i 6 (at_ + (8 * i : Nat)) (Cy.nx (n - 8 * i) : Nat) 0 0 (.slice B L c) true ∧ BytesAt w' (.slice B L c) (Mb.bl f (8 * i) (Cy.nx (n - 8 * i))) ∧ ∀ a, B = some a → K a.block) ∨
     (n ≤ 8 * i ∧ ∃ j, Tp w' p A cap i j 0 0 0 0 0 (.slice none 0 0) false))

theorem SaidInK.said {K : Nat → Prop} {p : Nat} {A : Option Addr} {cap i : Nat} {at_ : Int} {f : Nat → Nat} {n : Nat} {w : World} {e : Ending} {w' : World} (h : SaidInK K p A cap i at_ f n w e w') : SaidIn p A cap i at_ f n w e w' := by
  obtain ⟨b, h1, h2, h3⟩ := h
  refine ⟨b, h1, h2, ?_⟩
  rcases h3 with ⟨h4, B, L, c, h5, h6, _⟩ | h3
  · exact .inl ⟨h4, B, L, c, h5, h6⟩
  · exact .inr h3

set_option maxRecDepth 100000 in
set_option maxHeartbeats 2000000 in
theorem tapeIn_lies {K : Nat → Prop} {w : World} {p cap i : Nat} {A : Option Addr} (h : Tp w p A cap i 0 0 0 0 0 0 (.slice none 0 0) false) (hi : i ≤ cap) (hcap : cap ≤ 9223372036854775807) {T : Nat → Ans} (hT : ToldAt w A i T) (hA : 0 < i → ∀ a, A = some a → a.block ≠ p)
    (at_ : Int) (hat0 : -4611686018427387904 ≤ at_) (hat1 : at_ ≤ 4611686018427387904) (B : Option Addr) (n cp : Nat) (f : Nat → Nat) (hB : BytesAt w (.slice B n cp) (Mb.bl f 0 n)) (hn : n ≤ 131072) (hcp : n ≤ cp) (hcp2 : cp ≤ 9223372036854775807) (hBK : 0 < n → ∀ a, B = some a → K a.block) :
    Calls Tryz.prog 84 #[.pointer (some ⟨p, 0, none⟩), .int .i64 at_, .slice B n cp] w (SaidInK K p A cap i at_ f n w) := by
  have hlt := h.lt
  have HT := Lib.hid h
  have HTo := Lib.hid hT
  have HA := Lib.hid hA
  have HB := Lib.hid hB
  have HBK := Lib.hid hBK
  clear h hT hA hB hBK
  go_enter Tryz.func84, Tryz.ntmps84
  go_wp2_with fail
  refine (refChunks_parts n w).mono ?_
  rintro e w1 ⟨v1, rfl, ⟨A1, c1, rfl, p1, p2, p3⟩, hb1⟩
  rw [Cy.few_nat hn] at p1 p3 ⊢
  have hlen := Cy.cks_length n
  generalize hm : (Cy.cks n).length = m at p1 p3 hlen ⊢
  have HT1 := Lib.hid (HT.out.below hb1)
  have HTo1 := Lib.hid (HTo.out.below hb1)
  have HB1 := Lib.hid (HB.out.below hb1)
  have HP3 := Lib.hid p3
  have hs1 := hb1.size
  have hw1 := Lib.hid hb1
  have HM := Lib.hid hm
  have hm1 : m ≤ 16384 := by omega
  have HL := Lib.hid hlen
  clear p3 hb1 hm hlen
  go_wp2_with fail
  go_loopw [1, 2, 15] (fun a b t wr => ∃ (k : Nat) (A' : Option Addr) (cp' : Nat), t = .int .i64 k ∧ a = .int .i64 (at_ + (Cy.at_ n k : Nat)) ∧ b = .slice A' (n - Cy.at_ n k) cp' ∧ n - Cy.at_ n k ≤ cp' ∧ cp' ≤ 9223372036854775807 ∧ BytesAt wr b (Mb.bl f (Cy.at_ n k) (n - Cy.at_ n k)) ∧ k ≤ m ∧ k ≤ i ∧ (0 < n → ∀ a, A' = some a → K a.block) ∧
      Tp wr p A cap i k 0 0 0 0 0 (.slice none 0 0) false ∧ Touch (One p) w1 wr) (fun _ _ t _ => m - (intOf t).toNat)
  case atStart => 
    refine ⟨0, B, cp, rfl, by rw [Cy.at_zero]; simp, by rw [Cy.at_zero]; rfl, by omega, hcp2, ?_, by omega, by omega, HBK.out, HT1.out, Touch.refl _ _⟩
    rw [Cy.at_zero]; exact HB1.out
  case round =>
    obtain ⟨k, A', cp', rfl, rfl, rfl, hq1, hq2, hbk, hkm, hki, hkk, htk, htt⟩ := hrel
    have HKK := Lib.hid hkk
    clear hkk
    by_cases hlt : k < m
    · have hk8 : 8 * k < n := by have := HL.out; omega
      have hd := Cy.at_here hk8
      have hnx := Cy.at_next hk8
      rw [hd] at hnx hq1 hbk ⊢
      have hc0 := Cy.nx_pos (r := n - 8 * k) (by omega)
      have hc1 := Cy.nx_le (n - 8 * k)
      obtain ⟨cb, co, rfl, ⟨hcb, _⟩, hcl, hcell⟩ := HP3.out (by omega)
      have hcp : cb ≠ p := by omega
      have hck := (htt.cell (p := ⟨cb, co + k, none⟩) hcl hcp).trans (hcell k hlt)
      rw [← HM.out] at hlt
      have hgd := Cy.cks_getD n k hk8
      rw [hgd] at hck
      rw [HM.out] at hlt
      generalize hcq : Cy.nx (n - 8 * k) = c at hc0 hc1 hck hnx hgd
      generalize hrq : n - 8 * k = r at hc1 hq1 hbk hcq ⊢
      have HCQ := Lib.hid (And.intro hcq hrq)
      have HNX := Lib.hid hnx
      have hrn : r ≤ 131072 := by omega
      have HK8 := Lib.hid hk8
      obtain ⟨gb, ob, rfl⟩ : ∃ gb ob, A' = some ⟨gb, ob, none⟩ := by
        obtain ⟨A2, c2, hv, hx⟩ := hbk
        obtain ⟨gb, ob, e, _⟩ := hx (by rw [Mb.bl_length]; omega)
        injection hv with e1 _ _
        exact ⟨gb, ob, e1.trans e⟩
      have HGB : Hid (K gb) := Lib.hid (HKK.out (by omega) _ rfl)
      have HBK := Lib.hid hbk
      have HTK := Lib.hid htk
      have HTT := Lib.hid htt
      have htold := Lib.hid (HTo1.out.one HT1.out (by intro x e; cases e) htt HA.out)
      have hg1 : (k : Int) < m := by omega
      have hg2 : (0 : Int) ≤ c := by omega
      have hg3 : (c : Int) ≤ r := by omega
      have hg4 : (r : Int) ≤ cp' := by omega
      have hk13 : k ≤ 16384 := by omega
      have hg5 : IntKind.i64.wrap (at_ + ((8 * k : Nat) : Int) + (c : Int)) = at_ + ((8 * k : Nat) : Int) + c := IntWalk.i64_in _ (by omega)
      have hq3 : -4611686018427387904 ≤ at_ + ((8 * k : Nat) : Int) := by omega
      have hq4 : at_ + ((8 * k : Nat) : Int) ≤ 4611686018427518976 := by omega
      generalize hqq : at_ + ((8 * k : Nat) : Int) = q at hg5 hq3 hq4 ⊢
      have HQ := Lib.hid hqq
      have hn1 : n - Cy.at_ n (k + 1) = r - c := by rw [hnx]; omega
      have HN1 := Lib.hid hn1
      clear hcell hgd hcq hrq hd hnx hbk htk htt hk8 hqq hn1
      by_cases hki2 : k < i
      · have hrel2 : ∀ (w2 : World) (A2 : Option Addr) (cp2 : Nat), (A2 = some ⟨gb, ob + c, none⟩ ∨ r = c) → r - c ≤ cp2 → Tp w2 p A cap i (k + 1) 0 0 0 0 0 (.slice none 0 0) false → Touch (One p) wr w2 →
            BytesAt w2 (.slice A2 (r - c) cp2) (Mb.bl f (Cy.at_ n (k + 1)) (n - Cy.at_ n (k + 1))) := by
          intro w2 A2 cp2 hA2 _ _ ht2
          rw [HN1.out, HNX.out]
          rcases hA2 with rfl | hrc
          · have := (BytesAt.one HTK.out (by intro x e; cases e) ht2 HBK.out).cut c (r - c) cp2 (by rw [Mb.bl_length]; omega)
            rw [cut_at f (8 * k) c (r - c) r (by omega)] at this
            exact this
          · have : r - c = 0 := by omega
            rw [this]
            exact bytesAt_none' _ _ _ _ _
        have HREL := Lib.hid hrel2
        clear hrel2
        by_cases hcc : cp' = c
        · subst hcc
          have hrc : r = cp' := by omega
          have HRC := Lib.hid hrc
          clear hrc
          go_wp2_with fail
          refine (tapeDo_tells HTK.out hki2 hi hcap htold.out HA.out 6 q cp' 0 0 cp' cp').mono ?_
          rintro e w2 ⟨rfl, htk2, htt2⟩
          go_wp2
          go_roundw
          case rel =>
            refine ⟨k + 1, some ⟨gb, ob, none⟩, 0, by go_num, by rw [HNX.out, ← HQ.out]; congr 1; omega, by rw [HN1.out]; congr 1; have := HRC.out; omega, by rw [HN1.out]; have := HRC.out; omega, by omega, ?_, by omega, by omega, (fun _ a ha => by cases ha; exact HGB.out), htk2.below ((Below.refl _ _).alloc (Nat.le_refl _) _), (HTT.out.trans htt2).alloc _⟩
            have e0 : r - cp' = 0 := by have := HRC.out; omega
            have h0 := HREL.out _ (some ⟨gb, ob, none⟩) 0 (.inr HRC.out) (by omega) (htk2.below ((Below.refl _ _).alloc (Nat.le_refl _) (.cells #[.int .u64 (T k).V, .bool (T k).D, .slice (T k).A (T k).L (T k).cap] 25))) (htt2.alloc _)
            rw [e0] at h0
            exact h0
          case measure => simp [intOf]; omega
        · go_wp2_with fail
          refine (tapeDo_tells HTK.out hki2 hi hcap htold.out HA.out 6 q c 0 0 c cp').mono ?_
          rintro e w2 ⟨rfl, htk2, htt2⟩
          go_wp2
          go_roundw
          case rel =>
            refine ⟨k + 1, some ⟨gb, ob + c, none⟩, cp' - c, by go_num, by rw [HNX.out, ← HQ.out]; congr 1; omega, by rw [HN1.out], by rw [HN1.out]; omega, by omega, ?_, by omega, by omega, (fun _ a ha => by cases ha; exact HGB.out), htk2.below ((Below.refl _ _).alloc (Nat.le_refl _) _), (HTT.out.trans htt2).alloc _⟩
            exact HREL.out _ _ _ (.inl rfl) (by omega) (htk2.below ((Below.refl _ _).alloc (Nat.le_refl _) _)) (htt2.alloc _)
          case measure => simp [intOf]; omega
      · obtain rfl : k = i := by omega
        go_wp2_with fail
        refine (tapeDo_wants HTK.out 6 q c 0 0 c cp').mono ?_
        rintro e w2 ⟨rfl, htk2, htt2⟩
        go_wp2
        go_ret
        refine ⟨false, rfl, ((Touch.of_below hw1.out).trans (HTT.out.trans htt2)).alloc _, .inl ⟨HK8.out, some ⟨gb, ob, none⟩, c, cp', ?_, ?_, fun a ha => by cases ha; exact HGB.out⟩⟩
        · rw [HQ.out, HCQ.out.2, HCQ.out.1]
          exact htk2.below ((Below.refl _ _).alloc (Nat.le_refl _) _)
        · rw [HCQ.out.2, HCQ.out.1]
          have := ((BytesAt.one HTK.out (by intro x e; cases e) htt2 HBK.out).alloc (.cells #[.int .u64 0, .bool false, .slice none 0 0] 25)).cut 0 c cp' (by rw [Mb.bl_length]; omega)
          rw [cut_at f (8 * k) 0 c r (by omega)] at this
          exact this
    · have hkm2 : k = m := by omega
      have hkn : n ≤ 8 * k := by have := HL.out; omega
      have HKN := Lib.hid hkn
      have hg1 : (m : Int) ≤ k := by omega
      have HTK := Lib.hid htk
      have HTT := Lib.hid htt
      clear htk htt hkm2 hkn
      go_wp2
      go_ret
      exact ⟨true, rfl, (Touch.of_below hw1.out).trans HTT.out, .inr ⟨by have := HKN.out; omega, k, HTK.out⟩⟩

theorem tapeIn_any {w : World} {p cap i : Nat} {A : Option Addr} (h : Tp w p A cap i 0 0 0 0 0 0 (.slice none 0 0) false) (hi : i ≤ cap) (hcap : cap ≤ 9223372036854775807) {T : Nat → Ans} (hT : ToldAt w A i T) (hA : 0 < i → ∀ a, A = some a → a.block ≠ p)
    (at_ : Int) (hat0 : -4611686018427387904 ≤ at_) (hat1 : at_ ≤ 4611686018427387904) (B : Option Addr) (n cp : Nat) (f : Nat → Nat) (hB : BytesAt w (.slice B n cp) (Mb.bl f 0 n)) (hn : n ≤ 131072) (hcp : n ≤ cp) (hcp2 : cp ≤ 9223372036854775807) :
    Calls Tryz.prog 84 #[.pointer (some ⟨p, 0, none⟩), .int .i64 at_, .slice B n cp] w (SaidIn p A cap i at_ f n w) :=
  (tapeIn_lies (K := fun _ => True) h hi hcap hT hA at_ hat0 hat1 B n cp f hB hn hcp hcp2 (fun _ _ _ => trivial)).mono fun _ _ hs => hs.said
end Go.Proofs.YtikcnioooihncaaGreat
namespace Go.Proofs.YtikcnioooihncaaGreat
open Go.RowKit

/-- An answer that was told, as a machine takes it. -/
def Ans.an (x : Ans) : An := ⟨x.V, x.D, x.bs⟩

set_option maxRecDepth 100000 in
set_option maxHeartbeats 800000 in
theorem tapeLoad_tells {w : World} {p cap n j : Nat} {A : Option Addr} {K0 P0 N0 V0 U0 : Int} {A0 : Option Addr} {L0 c0 : Nat} (h : Tp w p A cap n j K0 P0 N0 V0 U0 (.slice A0 L0 c0) false) (hj : j < n) (hn : n ≤ cap) (hcap : cap ≤ 9223372036854775807)
    {T : Nat → Ans} (hT : ToldAt w A n T) (hA : 0 < n → ∀ a, A = some a → a.block ≠ p) (at_ k : Int) :
    Calls Tryz.prog 59 #[.pointer (some ⟨p, 0, none⟩), .int .i64 at_, .int .i64 k] w (fun e w' => e = .returned (.tuple #[.int .u64 (T j).V, .bool true]) ∧ Tp w' p A cap n (j + 1) K0 P0 N0 V0 U0 (.slice A0 L0 c0) false ∧ Touch (One p) w w') := by
  have HD := Lib.hid (tapeDo_tells (B := none) h hj hn hcap hT hA 1 at_ k 0 0 0 0)
  generalize T j = x at HD ⊢
  clear h hT hA
  go_enter Tryz.func59, Tryz.ntmps59
  go_wp2_with (go_at_call 94; refine HD.out.mono ?_; rintro e w1 ⟨rfl, ht, hto⟩; have HTO := Lib.hid (And.intro ht hto); clear ht hto)
  refine bodyPost_ret (v := .tuple #[.int .u64 x.V, .bool true]) (by simp [results, Tryz.results59, go_sem]) rfl ?_
  exact ⟨rfl, HTO.out.1.below ((Below.refl _ _).alloc (Nat.le_refl _) _), HTO.out.2.alloc _⟩

set_option maxRecDepth 100000 in
set_option maxHeartbeats 800000 in
theorem tapeLoad_wants {w : World} {p cap n : Nat} {A : Option Addr} {K0 P0 N0 V0 U0 : Int} {A0 : Option Addr} {L0 c0 : Nat} (h : Tp w p A cap n n K0 P0 N0 V0 U0 (.slice A0 L0 c0) false) (at_ k : Int) :
    Calls Tryz.prog 59 #[.pointer (some ⟨p, 0, none⟩), .int .i64 at_, .int .i64 k] w (fun e w' => e = .returned (.tuple #[.int .u64 0, .bool false]) ∧ Tp w' p A cap n n 1 at_ k 0 0 (.slice none 0 0) true ∧ Touch (One p) w w') := by
  have HD := Lib.hid (tapeDo_wants (B := none) h 1 at_ k 0 0 0 0)
  clear h
  go_enter Tryz.func59, Tryz.ntmps59
  go_wp2_with (go_at_call 94; refine HD.out.mono ?_; rintro e w1 ⟨rfl, ht, hto⟩; have HTO := Lib.hid (And.intro ht hto); clear ht hto)
  refine bodyPost_ret (v := .tuple #[.int .u64 0, .bool false]) (by simp [results, Tryz.results59, go_sem]) rfl ?_
  exact ⟨rfl, HTO.out.1.below ((Below.refl _ _).alloc (Nat.le_refl _) _), HTO.out.2.alloc _⟩

set_option maxRecDepth 100000 in
set_option maxHeartbeats 800000 in
theorem tapeStore_tells {w : World} {p cap n j : Nat} {A : Option Addr} {K0 P0 N0 V0 U0 : Int} {A0 : Option Addr} {L0 c0 : Nat} (h : Tp w p A cap n j K0 P0 N0 V0 U0 (.slice A0 L0 c0) false) (hj : j < n) (hn : n ≤ cap) (hcap : cap ≤ 9223372036854775807)
    {T : Nat → Ans} (hT : ToldAt w A n T) (hA : 0 < n → ∀ a, A = some a → a.block ≠ p) (at_ k V : Int) :
    Calls Tryz.prog 65 #[.pointer (some ⟨p, 0, none⟩), .int .i64 at_, .int .i64 k, .int .u64 V] w (fun e w' => e = .returned (.bool true) ∧ Tp w' p A cap n (j + 1) K0 P0 N0 V0 U0 (.slice A0 L0 c0) false ∧ Touch (One p) w w') := by
  have HD := Lib.hid (tapeDo_tells (B := none) h hj hn hcap hT hA 2 at_ k V 0 0 0)
  generalize T j = x at HD ⊢
  clear h hT hA
  go_enter Tryz.func65, Tryz.ntmps65
  go_wp2_with (go_at_call 94; refine HD.out.mono ?_; rintro e w1 ⟨rfl, ht, hto⟩; have HTO := Lib.hid (And.intro ht hto); clear ht hto)
  refine bodyPost_ret (v := .bool true) (by simp [results, Tryz.results65, go_sem]) rfl ?_
  exact ⟨rfl, HTO.out.1.below ((Below.refl _ _).alloc (Nat.le_refl _) _), HTO.out.2.alloc _⟩

set_option maxRecDepth 100000 in
set_option maxHeartbeats 800000 in
theorem tapeStore_wants {w : World} {p cap n : Nat} {A : Option Addr} {K0 P0 N0 V0 U0 : Int} {A0 : Option Addr} {L0 c0 : Nat} (h : Tp w p A cap n n K0 P0 N0 V0 U0 (.slice A0 L0 c0) false) (at_ k V : Int) :
    Calls Tryz.prog 65 #[.pointer (some ⟨p, 0, none⟩), .int .i64 at_, .int .i64 k, .int .u64 V] w (fun e w' => e = .returned (.bool false) ∧ Tp w' p A cap n n 2 at_ k V 0 (.slice none 0 0) true ∧ Touch (One p) w w') := by
  have HD := Lib.hid (tapeDo_wants (B := none) h 2 at_ k V 0 0 0)
  clear h
  go_enter Tryz.func65, Tryz.ntmps65
  go_wp2_with (go_at_call 94; refine HD.out.mono ?_; rintro e w1 ⟨rfl, ht, hto⟩; have HTO := Lib.hid (And.intro ht hto); clear ht hto)
  refine bodyPost_ret (v := .bool false) (by simp [results, Tryz.results65, go_sem]) rfl ?_
  exact ⟨rfl, HTO.out.1.below ((Below.refl _ _).alloc (Nat.le_refl _) _), HTO.out.2.alloc _⟩

set_option maxRecDepth 100000 in
set_option maxHeartbeats 800000 in
theorem tapeCas_tells {w : World} {p cap n j : Nat} {A : Option Addr} {K0 P0 N0 V0 U0 : Int} {A0 : Option Addr} {L0 c0 : Nat} (h : Tp w p A cap n j K0 P0 N0 V0 U0 (.slice A0 L0 c0) false) (hj : j < n) (hn : n ≤ cap) (hcap : cap ≤ 9223372036854775807)
    {T : Nat → Ans} (hT : ToldAt w A n T) (hA : 0 < n → ∀ a, A = some a → a.block ≠ p) (at_ k V U : Int) :
    Calls Tryz.prog 82 #[.pointer (some ⟨p, 0, none⟩), .int .i64 at_, .int .i64 k, .int .u64 V, .int .u64 U] w (fun e w' => e = .returned (.tuple #[.bool (T j).D, .bool true]) ∧ Tp w' p A cap n (j + 1) K0 P0 N0 V0 U0 (.slice A0 L0 c0) false ∧ Touch (One p) w w') := by
  have HD := Lib.hid (tapeDo_tells (B := none) h hj hn hcap hT hA 4 at_ k V U 0 0)
  generalize T j = x at HD ⊢
  clear h hT hA
  go_enter Tryz.func82, Tryz.ntmps82
  go_wp2_with (go_at_call 94; refine HD.out.mono ?_; rintro e w1 ⟨rfl, ht, hto⟩; have HTO := Lib.hid (And.intro ht hto); clear ht hto)
  refine bodyPost_ret (v := .tuple #[.bool x.D, .bool true]) (by simp [results, Tryz.results82, go_sem]) rfl ?_
  exact ⟨rfl, HTO.out.1.below ((Below.refl _ _).alloc (Nat.le_refl _) _), HTO.out.2.alloc _⟩

set_option maxRecDepth 100000 in
set_option maxHeartbeats 800000 in
theorem tapeCas_wants {w : World} {p cap n : Nat} {A : Option Addr} {K0 P0 N0 V0 U0 : Int} {A0 : Option Addr} {L0 c0 : Nat} (h : Tp w p A cap n n K0 P0 N0 V0 U0 (.slice A0 L0 c0) false) (at_ k V U : Int) :
    Calls Tryz.prog 82 #[.pointer (some ⟨p, 0, none⟩), .int .i64 at_, .int .i64 k, .int .u64 V, .int .u64 U] w (fun e w' => e = .returned (.tuple #[.bool false, .bool false]) ∧ Tp w' p A cap n n 4 at_ k V U (.slice none 0 0) true ∧ Touch (One p) w w') := by
  have HD := Lib.hid (tapeDo_wants (B := none) h 4 at_ k V U 0 0)
  clear h
  go_enter Tryz.func82, Tryz.ntmps82
  go_wp2_with (go_at_call 94; refine HD.out.mono ?_; rintro e w1 ⟨rfl, ht, hto⟩; have HTO := Lib.hid (And.intro ht hto); clear ht hto)
  refine bodyPost_ret (v := .tuple #[.bool false, .bool false]) (by simp [results, Tryz.results82, go_sem]) rfl ?_
  exact ⟨rfl, HTO.out.1.below ((Below.refl _ _).alloc (Nat.le_refl _) _), HTO.out.2.alloc _⟩

/-- A tape that stands at j, nothing is wanted yet. -/
abbrev TpOpen (w : World) (p : Nat) (A : Option Addr) (cap i j : Nat) : Prop := Tp w p A cap i j 0 0 0 0 0 (.slice none 0 0) false
/-- A tape that wants the access a. -/
def TpWant (w : World) (p : Nat) (A : Option Addr) (cap i : Nat) (a : Ac) : Prop := ∃ B l c, Tp w p A cap i i a.K a.P a.N (a.V : Int) (a.U : Int) (.slice B l c) true ∧ BytesAt w (.slice B l c) a.bs

theorem tapeLoad_any {w : World} {p cap i j : Nat} {A : Option Addr} (h : TpOpen w p A cap i j) (hj : j ≤ i) (hi : i ≤ cap) (hcap : cap ≤ 9223372036854775807) {T : Nat → Ans} (hT : ToldAt w A i T) (hA : 0 < i → ∀ a, A = some a → a.block ≠ p) (at_ k : Int) :
    Calls Tryz.prog 59 #[.pointer (some ⟨p, 0, none⟩), .int .i64 at_, .int .i64 k] w (fun e w' => ∃ (v : Nat) (ok : Bool), e = .returned (.tuple #[.int .u64 v, .bool ok]) ∧ Touch (One p) w w' ∧ ((ok = true ∧ j < i ∧ v = (T j).V ∧ TpOpen w' p A cap i (j + 1)) ∨ (ok = false ∧ j = i ∧ v = 0 ∧ TpWant w' p A cap i ⟨1, at_, k, 0, 0, []⟩))) := by
  by_cases hlt : j < i
  · refine (tapeLoad_tells h hlt hi hcap hT hA at_ k).mono ?_
    rintro e w' ⟨rfl, ht, hto⟩
    exact ⟨(T j).V, true, rfl, hto, .inl ⟨rfl, hlt, rfl, ht⟩⟩
  · obtain rfl : j = i := by omega
    refine (tapeLoad_wants h at_ k).mono ?_
    rintro e w' ⟨rfl, ht, hto⟩
    exact ⟨0, false, rfl, hto, .inr ⟨rfl, rfl, rfl, none, 0, 0, ht, BytesAt.nil _⟩⟩

theorem tapeStore_any {w : World} {p cap i j : Nat} {A : Option Addr} (h : TpOpen w p A cap i j) (hj : j ≤ i) (hi : i ≤ cap) (hcap : cap ≤ 9223372036854775807) {T : Nat → Ans} (hT : ToldAt w A i T) (hA : 0 < i → ∀ a, A = some a → a.block ≠ p) (at_ k : Int) (V : Nat) :
    Calls Tryz.prog 65 #[.pointer (some ⟨p, 0, none⟩), .int .i64 at_, .int .i64 k, .int .u64 V] w (fun e w' => ∃ (ok : Bool), e = .returned (.bool ok) ∧ Touch (One p) w w' ∧ ((ok = true ∧ j < i ∧ True ∧ TpOpen w' p A cap i (j + 1)) ∨ (ok = false ∧ j = i ∧ True ∧ TpWant w' p A cap i ⟨2, at_, k, V, 0, []⟩))) := by
  by_cases hlt : j < i
  · refine (tapeStore_tells h hlt hi hcap hT hA at_ k V).mono ?_
    rintro e w' ⟨rfl, ht, hto⟩
    exact ⟨true, rfl, hto, .inl ⟨rfl, hlt, trivial, ht⟩⟩
  · obtain rfl : j = i := by omega
    refine (tapeStore_wants h at_ k V).mono ?_
    rintro e w' ⟨rfl, ht, hto⟩
    exact ⟨false, rfl, hto, .inr ⟨rfl, rfl, trivial, none, 0, 0, ht, BytesAt.nil _⟩⟩

theorem tapeCas_any {w : World} {p cap i j : Nat} {A : Option Addr} (h : TpOpen w p A cap i j) (hj : j ≤ i) (hi : i ≤ cap) (hcap : cap ≤ 9223372036854775807) {T : Nat → Ans} (hT : ToldAt w A i T) (hA : 0 < i → ∀ a, A = some a → a.block ≠ p) (at_ k : Int) (V U : Nat) :
    Calls Tryz.prog 82 #[.pointer (some ⟨p, 0, none⟩), .int .i64 at_, .int .i64 k, .int .u64 V, .int .u64 U] w (fun e w' => ∃ (d ok : Bool), e = .returned (.tuple #[.bool d, .bool ok]) ∧ Touch (One p) w w' ∧ ((ok = true ∧ j < i ∧ d = (T j).D ∧ TpOpen w' p A cap i (j + 1)) ∨ (ok = false ∧ j = i ∧ d = false ∧ TpWant w' p A cap i ⟨4, at_, k, V, U, []⟩))) := by
  by_cases hlt : j < i
  · refine (tapeCas_tells h hlt hi hcap hT hA at_ k V U).mono ?_
    rintro e w' ⟨rfl, ht, hto⟩
    exact ⟨(T j).D, true, rfl, hto, .inl ⟨rfl, hlt, rfl, ht⟩⟩
  · obtain rfl : j = i := by omega
    refine (tapeCas_wants h at_ k V U).mono ?_
    rintro e w' ⟨rfl, ht, hto⟩
    exact ⟨false, false, rfl, hto, .inr ⟨rfl, rfl, rfl, none, 0, 0, ht, BytesAt.nil _⟩⟩

end Go.Proofs.YtikcnioooihncaaGreat
namespace Go.Proofs.YtikcnioooihncaaGreat
open Go.RowKit

theorem un_place {Z : Nat} (h : Wd.isP Z = true) (_h1 : (Z : Int) ≤ 8192) (x : Int) : ((Rs.un x : Nat) : Int) % (Z : Int) = x % (Z : Int) := by
  obtain ⟨k, hk, he⟩ := (Wd.isP_iff _).1 h
  have hx : ((Rs.un x : Nat) : Int) = x % 18446744073709551616 := by
    unfold Rs.un
    exact Int.toNat_of_nonneg (Int.emod_nonneg _ (by decide))
  rw [hx, he]
  refine Int.emod_emod_of_dvd _ ⟨2 ^ (64 - k), ?_⟩
  rw [← Int.pow_add, show k + (64 - k) = 64 by omega]
  rfl

theorem wr_place {Z : Nat} (h : Wd.isP Z = true) (x : Int) : Rs.wr x % (Z : Int) = x % (Z : Int) := by
  obtain ⟨k, hk, he⟩ := (Wd.isP_iff _).1 h
  have hd : (Z : Int) ∣ 18446744073709551616 := by
    rw [he]
    refine ⟨2 ^ (64 - k), ?_⟩
    rw [← Int.pow_add, show k + (64 - k) = 64 by omega]
    rfl
  obtain ⟨q, hq⟩ := hd
  have hw : Rs.wr x = x - (Z : Int) * (q * ((x + 9223372036854775808) / 18446744073709551616)) := by
    have e : (Z : Int) * (q * ((x + 9223372036854775808) / 18446744073709551616)) = 18446744073709551616 * ((x + 9223372036854775808) / 18446744073709551616) := by rw [hq, Int.mul_assoc]
    rw [e]
    unfold Rs.wr wrap64
    omega
  rw [hw]
  exact Int.sub_mul_emod_self_left _ _ _

theorem told_num {w : World} {A : Option Addr} {i : Nat} {T : Nat → Ans} (h : ToldAt w A i T) {j : Nat} (hj : j < i) : (T j).V < 18446744073709551616 := by
  obtain ⟨_, _, _, _, hc⟩ := h (by omega)
  exact (hc j hj).2.2.2.num

set_option maxRecDepth 100000 in
set_option maxHeartbeats 800000 in
/-- A tape that wants something tells nothing more. -/
theorem tapeDo_ended {w : World} {p cap n j : Nat} {A B : Option Addr} {K0 P0 N0 V0 U0 : Int} {A0 : Option Addr} {L0 c0 : Nat} (h : Tp w p A cap n j K0 P0 N0 V0 U0 (.slice A0 L0 c0) true) (K P N V U : Int) (L c : Nat) :
    Calls Tryz.prog 94 #[.pointer (some ⟨p, 0, none⟩), .agg #[.int .i64 K, .int .i64 P, .int .i64 N, .int .u64 V, .int .u64 U, .slice B L c]] w (Made (.tuple #[.agg #[.int .u64 0, .bool false, .slice none 0 0], .bool false]) w) := by
  have HW := ((Below.refl w.heap.size w).alloc (Nat.le_refl _) (.cells #[.int .i64 K, .int .i64 P, .int .i64 N, .int .u64 V, .int .u64 U, .slice B L c] 30)).alloc (by simp) (.cells #[.int .u64 0, .bool false, .slice none 0 0] 25)
  have hR := Go.Deep.blk_alloc_new (w.alloc (.cells #[.int .i64 K, .int .i64 P, .int .i64 N, .int .u64 V, .int .u64 U, .slice B L c] 30)) (.cells #[.int .u64 0, .bool false, .slice none 0 0] 25)
  have e1 : (w.alloc (.cells #[.int .i64 K, .int .i64 P, .int .i64 N, .int .u64 V, .int .u64 U, .slice B L c] 30)).heap.size = w.heap.size + 1 := by simp
  rw [e1] at hR
  have HT := h.below HW
  clear h e1
  go_enter Tryz.func94, Tryz.ntmps94
  go_upto_region 1 with (fail)
  have t8 := HT.c8
  generalize (w.alloc (.cells #[.int .i64 K, .int .i64 P, .int .i64 N, .int .u64 V, .int .u64 U, .slice B L c] 30)).alloc (.cells #[.int .u64 0, .bool false, .slice none 0 0] 25) = W at HW hR HT t8 ⊢
  obtain ⟨a0, a1, a2, f0, f1, f2, _⟩ := AnsAt.of_blk hR
  clear hR HT
  go_wp2
  refine bodyPost_ret (v := .tuple #[.agg #[.int .u64 0, .bool false, .slice none 0 0], .bool false]) (by simp [results, Tryz.results94, go_sem, a0, a1, a2]) rfl ?_
  exact ⟨rfl, ((HW.setCell (p := ⟨w.heap.size + 1, 0, none⟩) (Nat.le_succ _) _).setCell (p := ⟨w.heap.size + 1, 1, none⟩) (Nat.le_succ _) _).setCell (p := ⟨w.heap.size + 1, 2, none⟩) (Nat.le_succ _) _⟩

set_option maxRecDepth 100000 in
set_option maxHeartbeats 800000 in
theorem tapeLoad_ended {w : World} {p cap n j : Nat} {A : Option Addr} {K0 P0 N0 V0 U0 : Int} {A0 : Option Addr} {L0 c0 : Nat} (h : Tp w p A cap n j K0 P0 N0 V0 U0 (.slice A0 L0 c0) true) (at_ k : Int) :
    Calls Tryz.prog 59 #[.pointer (some ⟨p, 0, none⟩), .int .i64 at_, .int .i64 k] w (Made (.tuple #[.int .u64 0, .bool false]) w) := by
  have HD := Lib.hid (tapeDo_ended (B := none) h 1 at_ k 0 0 0 0)
  clear h
  go_enter Tryz.func59, Tryz.ntmps59
  go_wp2_with (go_at_call 94; refine HD.out.mono ?_; rintro e w1 ⟨rfl, hb⟩; have HB := Lib.hid hb; clear hb)
  refine bodyPost_ret (v := .tuple #[.int .u64 0, .bool false]) (by simp [results, Tryz.results59, go_sem]) rfl ?_
  exact ⟨rfl, HB.out.alloc HB.out.size _⟩

theorem rg_box (w : World) (B Z : Int) :
    (w.alloc (.cells #[.int .i64 B, .int .i64 Z] 38)).cell? ⟨w.heap.size, 0, none⟩ = some (.int .i64 B) ∧ (w.alloc (.cells #[.int .i64 B, .int .i64 Z] 38)).cell? ⟨w.heap.size, 1, none⟩ = some (.int .i64 Z) := by
  have h := Go.Deep.blk_alloc_new w (.cells #[.int .i64 B, .int .i64 Z] 38)
  refine ⟨?_, ?_⟩ <;> (unfold World.cell?; simp only [h]; rfl)

/-- A tape that stands at j beside a ring in a box of its own. -/
structure Tw (w : World) (p : Nat) (A : Option Addr) (cap i j : Nat) (T : Nat → Ans) (rb : Nat) (B Z : Int) : Prop where
  tp : TpOpen w p A cap i j
  told : ToldAt w A i T
  r0 : w.cell? ⟨rb, 0, none⟩ = some (.int .i64 B)
  r1 : w.cell? ⟨rb, 1, none⟩ = some (.int .i64 Z)
  ne : rb ≠ p
  far : 0 < i → ∀ a, A = some a → a.block ≠ p
  cap0 : i ≤ cap
  cap1 : cap ≤ 9223372036854775807
  le : j ≤ i

theorem Tw.below {w w' : World} {p cap i j rb : Nat} {A : Option Addr} {T : Nat → Ans} {B Z : Int} (h : Tw w p A cap i j T rb B Z) (hb : Below w.heap.size w w') : Tw w' p A cap i j T rb B Z :=
  ⟨h.tp.below hb, h.told.below hb, (hb.cell (p := ⟨rb, 0, none⟩) (lt_of_cell h.r0)).trans h.r0, (hb.cell (p := ⟨rb, 1, none⟩) (lt_of_cell h.r1)).trans h.r1, h.ne, h.far, h.cap0, h.cap1, h.le⟩

/-- What a number loaded from a tape leaves. -/
def TwTold (p : Nat) (A : Option Addr) (cap i j : Nat) (T : Nat → Ans) (rb : Nat) (B Z : Int) (a : Ac) (w w' : World) (v : Nat) (ok : Bool) : Prop :=
  Touch (One p) w w' ∧ ((ok = true ∧ v = (T j).V ∧ v < 18446744073709551616 ∧ j < i ∧ Tw w' p A cap i (j + 1) T rb B Z) ∨ (ok = false ∧ v = 0 ∧ j = i ∧ TpWant w' p A cap i a ∧ w'.cell? ⟨rb, 0, none⟩ = some (.int .i64 B) ∧ w'.cell? ⟨rb, 1, none⟩ = some (.int .i64 Z)))

theorem twLoad {w : World} {p cap i j rb : Nat} {A : Option Addr} {T : Nat → Ans} {B Z : Int} (h : Tw w p A cap i j T rb B Z) (at_ k : Int) :
    Calls Tryz.prog 59 #[.pointer (some ⟨p, 0, none⟩), .int .i64 at_, .int .i64 k] w (fun e w' => ∃ (v : Nat) (ok : Bool), e = .returned (.tuple #[.int .u64 v, .bool ok]) ∧ TwTold p A cap i j T rb B Z ⟨1, at_, k, 0, 0, []⟩ w w' v ok) := by
  refine (tapeLoad_any h.tp h.le h.cap0 h.cap1 h.told h.far at_ k).mono ?_
  rintro e w' ⟨v, ok, rfl, ht, hor⟩
  have k0 := (ht.cell (p := ⟨rb, 0, none⟩) (lt_of_cell h.r0) h.ne).trans h.r0
  have k1 := (ht.cell (p := ⟨rb, 1, none⟩) (lt_of_cell h.r1) h.ne).trans h.r1
  refine ⟨v, ok, rfl, ht, ?_⟩
  rcases hor with ⟨h1, h2, h3, h4⟩ | ⟨h1, h2, h3, h4⟩
  · exact .inl ⟨h1, h3, by rw [h3]; exact told_num h.told h2, h2, h4, ToldAt.one h.tp (by intro x e; cases e) ht h.told h.far, k0, k1, h.ne, h.far, h.cap0, h.cap1, h2⟩
  · exact .inr ⟨h1, h3, h2, h4, k0, k1⟩

theorem fx_spot {B Z : Nat} {x : Int} (h0 : 0 ≤ x) (h1 : x < Z) : Rg.spot B Z x = (B : Int) + x := by
  unfold Rg.spot Rg.place
  rw [Int.emod_eq_of_lt h0 h1]
end Go.Proofs.YtikcnioooihncaaGreat
