/-
  Layer 5's machine in memory: where its parts, its place, its closures and what it read stand; Next, walked.
-/
import Derived.Test.YtplomefkmgkdjaaCopyNext
namespace Go.Proofs.Ytplomefkmgkdjaa
open Go.RowKit

/-- What a copy does: it writes the bytes f at a place, or zeros, or it reads. -/
inductive Kd where
  | wr (at_ : Int) (f : Nat → Nat)
  | ze (at_ : Int)
  | rd (at_ : Int)

namespace Kd
def place : Kd → Int
  | .wr a _ => a
  | .ze a => a
  | .rd a => a
/-- The access' kind. -/
def kind : Kd → Int
  | .wr _ _ => 6
  | .ze _ => 6
  | .rd _ => 5
/-- The bytes that it writes. -/
def bytes : Kd → Nat → Nat → List Int
  | .wr _ f, d, c => Mb.bl f d c
  | .ze _, d, c => Mb.bl (fun _ => 0) d c
  | .rd _, _, _ => []
/-- Does it read? -/
def reads : Kd → Bool
  | .wr _ _ => false
  | .ze _ => false
  | .rd _ => true
end Kd

/-- The blocks of a machine that are written once. -/
def Fixed (base top g k : Nat) : Prop := base ≤ k ∧ k < top ∧ k ≠ g

/-- The closures of a machine that is to copy n bytes. -/
def Body (w : World) (base top g n : Nat) : Kd → Value → Value → Prop
  | .wr at_ f, nx, th => ∃ a b gk cap, nx = .func (.func 29) #[] #[.pointer (some ⟨a, 0, none⟩), .pointer (some ⟨b, 0, none⟩)] ∧ th = .func (.func 38) #[] #[] ∧
      Fixed base top g a ∧ Fixed base top g b ∧ Fixed base top g gk ∧ w.cell? ⟨a, 0, none⟩ = some (.int .i64 at_) ∧ w.cell? ⟨b, 0, none⟩ = some (.slice (some ⟨gk, 0, none⟩) n cap) ∧
      BytesAt w (.slice (some ⟨gk, 0, none⟩) n cap) (Mb.bl f 0 n) ∧ n ≤ cap ∧ cap ≤ maxLen
  | .ze at_, nx, th => ∃ a, nx = .func (.func 31) #[] #[.pointer (some ⟨a, 0, none⟩)] ∧ th = .func (.func 38) #[] #[] ∧ Fixed base top g a ∧ w.cell? ⟨a, 0, none⟩ = some (.int .i64 at_)
  | .rd at_, nx, th => ∃ a b, nx = .func (.func 25) #[] #[.pointer (some ⟨a, 0, none⟩)] ∧ th = .func (.func 26) #[] #[.pointer (some ⟨b, 0, none⟩)] ∧ Fixed base top g a ∧ Fixed base top g b ∧ w.cell? ⟨a, 0, none⟩ = some (.int .i64 at_) ∧ w.cell? ⟨b, 0, none⟩ = some (.pointer (some ⟨g, 0, none⟩))

theorem BytesAt.of_block {w w' : World} {g o n cap : Nat} {xs : List Int} (h : BytesAt w (.slice (some ⟨g, o, none⟩) n cap) xs) (hs : w.heap.size ≤ w'.heap.size) (hb : w'.heap[g]? = w.heap[g]?) : BytesAt w' (.slice (some ⟨g, o, none⟩) n cap) xs := by
  obtain ⟨A, c, hv, h⟩ := h
  refine ⟨A, c, hv, fun hp => ?_⟩
  obtain ⟨b, off, e, h3, h4⟩ := h hp
  injection hv with e1 _ _
  rw [← e1] at e
  injection e with e
  injection e with e5 e6
  subst e5 e6
  rw [← e1]
  exact ⟨g, o, rfl, by omega, fun i hi => (World.cell?_of_block (w := w) (a := ⟨g, o + i, none⟩) hb).trans (h4 i hi)⟩

theorem Body.keep {w w' : World} {base top g n : Nat} {kd : Kd} {nx th : Value} (h : Body w base top g n kd nx th) (hs : w.heap.size ≤ w'.heap.size) (hb : ∀ k, Fixed base top g k → w'.heap[k]? = w.heap[k]?) : Body w' base top g n kd nx th := by
  have hc : ∀ k o, Fixed base top g k → w'.cell? ⟨k, o, none⟩ = w.cell? ⟨k, o, none⟩ := fun k o hk => World.cell?_of_block (w := w) (a := ⟨k, o, none⟩) (hb k hk)
  cases kd with
  | wr at_ f =>
    obtain ⟨a, b, gk, cap, e1, e2, ka, kb, kg, h1, h2, h3, h4, h5⟩ := h
    exact ⟨a, b, gk, cap, e1, e2, ka, kb, kg, (hc a 0 ka).trans h1, (hc b 0 kb).trans h2, h3.of_block hs (hb gk kg), h4, h5⟩
  | ze at_ =>
    obtain ⟨a, e1, e2, ka, h1⟩ := h
    exact ⟨a, e1, e2, ka, (hc a 0 ka).trans h1⟩
  | rd at_ =>
    obtain ⟨a, b, e1, e2, ka, kb, h1, h2⟩ := h
    exact ⟨a, b, e1, e2, ka, kb, (hc a 0 ka).trans h1, (hc b 0 kb).trans h2⟩

/-- A machine stands at block g; its other blocks lie from base on, below top; d bytes are copied, r are left; it read the bytes ys, which lie above. -/
structure Cp (w : World) (base top g : Nat) (kd : Kd) (d r : Nat) (v : Value) (ys : List Int) : Prop where
  above : base ≤ g
  under : g < top
  there : top ≤ w.heap.size
  few : d + r ≤ 131072
  near : -4611686018427387904 ≤ kd.place ∧ kd.place ≤ 4611686018427387904
  head : ∃ cv nx th, w.heap[g]? = some (.cells #[cv, .int .i64 d, nx, th, v] 60 (0, 0)) ∧ Parts (Fixed base top g) w cv (Cy.cks r) ∧ (0 < d + r → Body w base top g (d + r) kd nx th)
  own : Owns top w v ys

namespace Cp
variable {w w' : World} {base top g d r : Nat} {kd : Kd} {v : Value} {ys : List Int}
theorem keep (h : Cp w base top g kd d r v ys) (hs : w.heap.size ≤ w'.heap.size) (hb : ∀ k, base ≤ k → k < top → w'.heap[k]? = w.heap[k]?) (ho : ∀ k, v.ownBlock = some k → w'.heap[k]? = w.heap[k]?) : Cp w' base top g kd d r v ys := by
  obtain ⟨cv, nx, th, h1, h2, h3⟩ := h.head
  exact ⟨h.above, h.under, Nat.le_trans h.there hs, h.few, h.near, ⟨cv, nx, th, (hb g h.above h.under).trans h1, h2.of_blocks hs fun k hk => hb k hk.1 hk.2.1, fun hn => (h3 hn).keep hs fun k hk => hb k hk.1 hk.2.1⟩, h.own.of_block ho⟩
theorem touch {S : Nat → Prop} (h : Cp w base top g kd d r v ys) (ht : Touch S w w') (hb : ∀ k, base ≤ k → k < top → ¬ S k) (ho : ∀ k, v.ownBlock = some k → ¬ S k) : Cp w' base top g kd d r v ys :=
  h.keep ht.size (fun k h1 h2 => ht.block k (Nat.lt_of_lt_of_le h2 h.there) (hb k h1 h2)) fun k hk => ht.block k (h.own.ge hk).2 (ho k hk)
theorem below (h : Cp w base top g kd d r v ys) (hb : Below w.heap.size w w') : Cp w' base top g kd d r v ys := h.touch (S := fun _ => False) (Touch.of_below hb) (fun _ _ _ => id) fun _ _ => id
theorem lt (h : Cp w base top g kd d r v ys) : g < w.heap.size := Nat.lt_of_lt_of_le h.under h.there
theorem alloc (h : Cp w base top g kd d r v ys) (o : Obj) : Cp (w.alloc o) base top g kd d r v ys := h.below ((Below.refl _ _).alloc (Nat.le_refl _) _)
theorem drew (h : Cp w base top g kd d r v ys) : Cp w.drew base top g kd d r v ys := h.below (Below.refl _ _).drew
end Cp

/-- A machine told its next access: it is of that kind, with those bytes in new memory. -/
def NextIs (kd : Kd) (d c : Nat) (w : World) (e : Ending) (w' : World) : Prop :=
  ∃ A l cp, e = .returned (.tuple #[.agg #[.int .i64 kd.kind, .int .i64 (kd.place + d), .int .i64 c, .int .u64 0, .int .u64 0, .slice A l cp], .bool true]) ∧ Owns w.heap.size w' (.slice A l cp) (kd.bytes d c) ∧ Below w.heap.size w w'

/-- .. or it is at its end. -/
def NextNo (w : World) (e : Ending) (w' : World) : Prop :=
  e = .returned (.tuple #[.agg #[.int .i64 0, .int .i64 0, .int .i64 0, .int .u64 0, .int .u64 0, .slice none 0 0], .bool false]) ∧ Below w.heap.size w w'

set_option maxRecDepth 100000 in
set_option maxHeartbeats 400000 in
theorem stepsNext_no {w : World} {base top g d : Nat} {kd : Kd} {v : Value} {ys : List Int} (h : Cp w base top g kd d 0 v ys) :
    Calls Try.prog 21 #[.pointer (some ⟨g, 0, none⟩)] w (NextNo w) := by
  obtain ⟨cv, nx, th, h1, ⟨A, cap, rfl, _, _, _⟩, _⟩ := h.head
  have hlt := h.lt
  have hc : w.cell? ⟨g, 0, none⟩ = some (.slice A 0 cap) := by simp [World.cell?, h1, Cy.cks_zero]
  clear h h1
  go_enter Try.func21, Try.ntmps21
  go_wp2
  refine bodyPost_ret (v := .tuple #[.agg #[.int .i64 0, .int .i64 0, .int .i64 0, .int .u64 0, .int .u64 0, .slice none 0 0], .bool false]) (by simp [results, Try.results21, go_sem]) rfl ?_
  exact ⟨rfl, (Below.refl _ w).alloc (Nat.le_refl _) _⟩
end Go.Proofs.Ytplomefkmgkdjaa
