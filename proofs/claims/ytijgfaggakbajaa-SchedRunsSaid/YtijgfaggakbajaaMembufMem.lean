/-
  Layer 2's buffer in memory: where its words and its count stand, what a call may have turned; sync/atomic's methods, met by contract.
-/
import Derived.Test.YtijgfaggakbajaaMembufNums
import Derived.Test.YtijgfaggakbajaaBytesAt
import Derived.Laws.LoneSync
namespace Go.Proofs.Ytijgfaggakbajaa
open Go.RowKit

/-- But for the blocks of S the world w' is as w was; the streams are as they were; no block has gone. -/
structure Touch (S : Nat → Prop) (w w' : World) : Prop where
  os : w'.os = w.os
  tape : w'.tape = w.tape
  output : w'.output = w.output
  size : w.heap.size ≤ w'.heap.size
  block : ∀ k, k < w.heap.size → ¬ S k → w'.heap[k]? = w.heap[k]?

namespace Touch
variable {S : Nat → Prop} {a b c w w' : World}
theorem refl (S : Nat → Prop) (w : World) : Touch S w w := ⟨rfl, rfl, rfl, Nat.le_refl _, fun _ _ _ => rfl⟩
theorem trans (h : Touch S a b) (k : Touch S b c) : Touch S a c :=
  ⟨k.os.trans h.os, k.tape.trans h.tape, k.output.trans h.output, Nat.le_trans h.size k.size, fun i hi hn => (k.block i (Nat.lt_of_lt_of_le hi h.size) hn).trans (h.block i hi hn)⟩
theorem mono {T : Nat → Prop} (h : Touch S a b) (hST : ∀ k, S k → T k) : Touch T a b := ⟨h.os, h.tape, h.output, h.size, fun k hk hn => h.block k hk fun hs => hn (hST k hs)⟩
theorem of_below (h : Below a.heap.size a b) : Touch S a b := ⟨h.os, h.tape, h.output, h.size, fun k hk _ => h.block k hk⟩
theorem drew (h : Touch S a b) : Touch S a b.drew := ⟨h.os, h.tape, h.output, h.size, h.block⟩
theorem drewN (h : Touch S a b) (n : Nat) : Touch S a (b.drewN n) := by
  refine h.trans (of_below ?_)
  exact ⟨rfl, rfl, rfl, Nat.le_refl _, fun _ _ => rfl⟩
theorem alloc (h : Touch S a w) (o : Obj) : Touch S a (w.alloc o) := h.trans (of_below ((Below.refl _ _).alloc (Nat.le_refl _) o))
theorem setCell (h : Touch S a w) {p : Addr} (hp : S p.block) (u : Value) : Touch S a (w.setCell p u) :=
  h.trans ⟨rfl, rfl, rfl, by simp [World.setCell], fun k _ hn => Below.heap_setCell _ _ _ _ fun e => hn (e ▸ hp)⟩
/-- A store into a block that is the call's own. -/
theorem setNew (h : Touch S a w) {p : Addr} (hp : a.heap.size ≤ p.block) (u : Value) : Touch S a (w.setCell p u) :=
  ⟨h.os, h.tape, h.output, by simpa [World.setCell] using h.size, fun k hk hn => (Below.heap_setCell _ _ _ _ (by omega)).trans (h.block k hk hn)⟩
theorem cell (h : Touch S w w') {p : Addr} (hp : p.block < w.heap.size) (hn : ¬ S p.block) : w'.cell? p = w.cell? p := World.cell?_of_block (w := w) (h.block p.block hp hn)
theorem frozen (h : Touch S w w') {p : Addr} (hp : p.block < w.heap.size) (hn : ¬ S p.block) : w'.frozen? p = w.frozen? p := World.frozen?_of_block (w := w) (h.block p.block hp hn)
/-- What was turned lies above B: below B nothing was. -/
theorem below {B : Nat} {W : World} (hW : Below B W a) (h : Touch S a b) (hB : B ≤ a.heap.size) (hS : ∀ k, S k → B ≤ k) : Below B W b :=
  hW.trans ⟨h.os, h.tape, h.output, h.size, fun k hk => h.block k (by omega) fun hs => by have := hS k hs; omega⟩
end Touch

theorem drewN_below (w : World) (n : Nat) : Below w.heap.size w (w.drewN n) := ⟨rfl, rfl, rfl, Nat.le_refl _, fun _ _ => rfl⟩

/-- A buffer stands at block g, its words in block h: so many of them, made of the bytes m; it counted c accesses. -/
structure Buf (w : World) (g h : Nat) (m : Nat → Nat) (n : Nat) (c : Int) : Prop where
  head : w.heap[g]? = some (.cells #[.slice (some ⟨h, 0, none⟩) n n, .int .i64 c] 79 (0, 0))
  words : w.rowIs h 139 n (fun j => .int .u64 (Mb.wd m j : Nat))
  bytes : Mb.IsB m
  few : n ≤ 16384

/-- The blocks of a buffer. -/
def Two (g h : Nat) (k : Nat) : Prop := k = g ∨ k = h

namespace Buf
variable {w w' : World} {g h n : Nat} {m : Nat → Nat} {c : Int}
theorem ne (b : Buf w g h m n c) : g ≠ h := by
  intro e
  subst e
  obtain ⟨cs, hb, _, _⟩ := b.words
  have := b.head.symm.trans hb
  simp at this
theorem g_lt (b : Buf w g h m n c) : g < w.heap.size := (Array.getElem?_eq_some_iff.1 b.head).1
theorem h_lt (b : Buf w g h m n c) : h < w.heap.size := b.words.lt
theorem slice (b : Buf w g h m n c) : w.cell? ⟨g, 0, none⟩ = some (.slice (some ⟨h, 0, none⟩) n n) := by simp [World.cell?, b.head]
theorem count (b : Buf w g h m n c) : w.cell? ⟨g, 1, none⟩ = some (.int .i64 c) := by simp [World.cell?, b.head]
theorem count_free (b : Buf w g h m n c) : w.frozen? ⟨g, 1, none⟩ = false := by simp [World.frozen?, b.head]
theorem word (b : Buf w g h m n c) {j : Nat} (hj : j < n) : w.cell? ⟨h, j, none⟩ = some (.int .u64 (Mb.wd m j : Nat)) := b.words.cell hj
theorem word_free (b : Buf w g h m n c) (j : Nat) : w.frozen? ⟨h, j, none⟩ = false := b.words.frozen j
theorem of_blocks (b : Buf w g h m n c) (hg : w'.heap[g]? = w.heap[g]?) (hh : w'.heap[h]? = w.heap[h]?) : Buf w' g h m n c :=
  ⟨hg.trans b.head, b.words.of_block hh, b.bytes, b.few⟩
theorem below (b : Buf w g h m n c) (hb : Below w.heap.size w w') : Buf w' g h m n c := b.of_blocks (hb.block _ b.g_lt) (hb.block _ b.h_lt)
theorem touch {S : Nat → Prop} (b : Buf w g h m n c) (hb : Touch S w w') (hg : ¬ S g) (hh : ¬ S h) : Buf w' g h m n c := b.of_blocks (hb.block _ b.g_lt hg) (hb.block _ b.h_lt hh)
theorem drew (b : Buf w g h m n c) : Buf w.drew g h m n c := ⟨b.head, b.words, b.bytes, b.few⟩
theorem drewN (b : Buf w g h m n c) (k : Nat) : Buf (w.drewN k) g h m n c := b.below (drewN_below w k)
theorem alloc (b : Buf w g h m n c) (o : Obj) : Buf (w.alloc o) g h m n c := b.below ((Below.refl _ _).alloc (Nat.le_refl _) o)
theorem setOther (b : Buf w g h m n c) {a : Addr} (hg : g ≠ a.block) (hh : h ≠ a.block) (u : Value) : Buf (w.setCell a u) g h m n c :=
  b.of_blocks (Below.heap_setCell _ _ _ _ hg) (Below.heap_setCell _ _ _ _ hh)
/-- One more access is counted. -/
theorem setCount (b : Buf w g h m n c) (d : Int) : Buf (w.setCell ⟨g, 1, none⟩ (.int .i64 d)) g h m n d := by
  refine ⟨?_, b.words.setOther b.ne.symm _, b.bytes, b.few⟩
  simp [World.setCell, Array.getElem?_modify, b.head]
/-- A word is stored: the bytes of a place of its are others. -/
theorem setWord (b : Buf w g h m n c) (a k v : Nat) (hk : a % 8 + k ≤ 8) : Buf (w.setCell ⟨h, a / 8, none⟩ (.int .u64 (Mb.wd (Mb.put m a k v) (a / 8) : Nat))) g h (Mb.put m a k v) n c := by
  refine ⟨?_, (b.words.set (a / 8) _).congr fun j _ => ?_, Mb.put_isB b.bytes _ _ _, b.few⟩
  · rw [Below.heap_setCell _ _ _ _ b.ne]
    exact b.head
  · by_cases e : j = a / 8
    · subst e
      simp
    · rw [if_neg e, Mb.wd_put_other m a k v j hk e]
end Buf

set_option maxHeartbeats 400000 in
theorem load64 (b o : Nat) (x : Int) (w : World) (hc : w.cell? ⟨b, o, none⟩ = some (.int .u64 x)) :
    Calls Try.prog 74 #[.pointer (some ⟨b, o, none⟩)] w fun e w' => e = .returned (.int .u64 x) ∧ w = w' := by
  have hl := run_call_load (P := Try.prog) Try.func84 (by kernel_rfl) (by kernel_rfl) (by kernel_rfl) .u64 (by kernel_rfl) hc
  go_enter Try.func74, Try.ntmps74
  go_wp2
  go_ret
  exact ⟨rfl, rfl⟩

set_option maxHeartbeats 400000 in
theorem store64 (b o : Nat) (x : Int) (u : Value) (w : World) (hc : w.cell? ⟨b, o, none⟩ = some u) (hz : w.frozen? ⟨b, o, none⟩ = false) :
    Calls Try.prog 85 #[.pointer (some ⟨b, o, none⟩), .int .u64 x] w fun e w' => e = .returned (.tuple #[]) ∧ w.setCell ⟨b, o, none⟩ (.int .u64 x) = w' := by
  have hl := run_call_store (P := Try.prog) Try.func90 (by kernel_rfl) (by kernel_rfl) (by kernel_rfl) (by kernel_rfl) (k := .u64) (y := x) hc hz
  go_enter Try.func85, Try.ntmps85
  go_wp2
  go_end0
  exact ⟨rfl, rfl⟩

set_option maxHeartbeats 400000 in
theorem cas64 (b o : Nat) (x y : Int) (w : World) (hc : w.cell? ⟨b, o, none⟩ = some (.int .u64 x)) (hz : w.frozen? ⟨b, o, none⟩ = false) :
    Calls Try.prog 86 #[.pointer (some ⟨b, o, none⟩), .int .u64 x, .int .u64 y] w fun e w' => e = .returned (.bool true) ∧ w.setCell ⟨b, o, none⟩ (.int .u64 y) = w' := by
  have hl := run_call_cas_hit (P := Try.prog) Try.func91 (by kernel_rfl) (by kernel_rfl) (by kernel_rfl) .u64 (by kernel_rfl) (y := y) hc hz
  go_enter Try.func86, Try.ntmps86
  go_wp2
  go_ret
  exact ⟨rfl, rfl⟩

set_option maxHeartbeats 400000 in
theorem add64 (b o : Nat) (x y : Int) (w : World) (hc : w.cell? ⟨b, o, none⟩ = some (.int .u64 x)) (hz : w.frozen? ⟨b, o, none⟩ = false) :
    Calls Try.prog 79 #[.pointer (some ⟨b, o, none⟩), .int .u64 y] w fun e w' => e = .returned (.int .u64 (IntKind.u64.wrap (x + y))) ∧ w.setCell ⟨b, o, none⟩ (.int .u64 (IntKind.u64.wrap (x + y))) = w' := by
  have hl := run_call_add (P := Try.prog) Try.func88 (by kernel_rfl) (by kernel_rfl) (by kernel_rfl) .u64 (by kernel_rfl) (x := x) (y := y) (s := IntKind.u64.wrap (x + y)) hc hz rfl
  go_enter Try.func79, Try.ntmps79
  go_wp2
  go_ret
  exact ⟨rfl, rfl⟩

/-- The next number, round. -/
def nxt (c : Int) : Int := wrap64 (c + 1)

set_option maxHeartbeats 400000 in
theorem addOne (b o : Nat) (x : Int) (w : World) (hc : w.cell? ⟨b, o, none⟩ = some (.int .i64 x)) (hz : w.frozen? ⟨b, o, none⟩ = false) :
    Calls Try.prog 71 #[.pointer (some ⟨b, o, none⟩), .int .i64 1] w fun e w' => e = .returned (.int .i64 (nxt x)) ∧ w.setCell ⟨b, o, none⟩ (.int .i64 (nxt x)) = w' := by
  have e : IntKind.i64.wrap (x + 1) = nxt x := by rw [IntKind.wrap_i64]; unfold nxt wrap64; omega
  have hs : (Op.intArith .add .i64 x 1).run Try.prog w = .ok (.int .i64 (nxt x)) w := by rw [← e]; rfl
  have hl := run_call_add (P := Try.prog) Try.func77 (by kernel_rfl) (by kernel_rfl) (by kernel_rfl) .i64 (by kernel_rfl) (x := x) (y := 1) (s := nxt x) hc hz hs
  clear e hs
  go_enter Try.func71, Try.ntmps71
  go_wp2
  go_ret
  exact ⟨rfl, rfl⟩

end Go.Proofs.Ytijgfaggakbajaa
