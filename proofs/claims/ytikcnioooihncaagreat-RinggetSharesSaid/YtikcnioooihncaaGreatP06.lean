/-
  Layer 7's put from outside: what it does next, what it takes, how it ended, where its record stands; one that never began; none at all.
  Layer 7's put from outside, walked: Take, Next, Result, At.
  A row of its own: where its block is untouched it stands; its block is there.
  Layer 8's get as a plain machine: its phases, the access of each, what an answer makes of it; where it stands in memory.
  Layer 8's get, walked: it begins; where the next record stands, and how much is left for it.
  Layer 8's get, walked: the head is stored at its end; before that the zeros are followed, part by part.
  Layer 8's get, walked: a part of the zeros was stored; it drains, or has nothing to drain.
  Layer 8's get, walked: it drains; it looks at the next record, or drains; it goes on behind a record.
  Layer 8's get, walked: it goes on behind a record; a message is kept.
  A message more, in a row of messages.
  Layer 8's get, walked: a message was read: it is kept, and the get goes on behind its record.
  Layer 5's Bytes, walked; and whether two accesses are one (layer 2's plain answer).
  Layer 8's get, walked: a message's bytes are followed, part by part.
-/
import Derived.Test.YtikcnioooihncaaGreatP05
import Derived.Test.YtikcnioooihncaaGreatP01
import Derived.Test.YtikcnioooihncaaGreatP04
import Derived.Deep.RegionHeld3
import Derived.Deep.RegionLaw
import Derived.Test.YtikcnioooihncaaGreatP02
namespace Go.Proofs.YtikcnioooihncaaGreat
open Go.RowKit

/-- A put: one that goes on, or one that never began (its ring's size, its fault). -/
inductive Pm where
  | live (s : Rs) | dead (Z er : Int)
namespace Pm
def next : Pm → Option Ac
  | .live s => s.next
  | .dead _ _ => none
def take : Pm → An → Pm
  | .live s, x => .live (s.take x)
  | .dead Z er, _ => .dead Z er
def busy : Pm → Bool
  | .live s => s.next.isSome
  | .dead _ _ => false
def size : Pm → Int
  | .live s => s.Z
  | .dead Z _ => Z
def fault : Pm → Int
  | .live s => s.er
  | .dead _ er => er
def pos : Pm → Int
  | .live s => s.p
  | .dead _ _ => 0
def has : Pm → Bool
  | .live s => s.cl
  | .dead _ _ => false
/-- How it ended: a position, an error. -/
def result (m : Pm) : Int × Int := if m.size = 0 then (0, 1) else if m.busy = true then (0, 10) else if m.fault = 0 then (m.pos, 0) else (0, m.fault)
end Pm

/-- The cells of a put that never began. -/
def PxCells (B Z er : Int) : Array Value :=
  #[.int .i64 B, .int .i64 Z, .int .i32 0, .slice none 0 0, .int .i64 0, .int .i64 0, .int .i64 0, .int .i64 0, .int .u64 0, .int .u64 0, .slice none 0 0, .nilFunc, .int .i64 0, .int .i64 0, .int .i64 0, .bool false, .int .i64 er]
/-- A put stands in the blocks F, its own block is g. -/
def PmAt (w : World) (F : Nat → Prop) (g : Nat) : Pm → Prop
  | .live s => PutAt w F g s
  | .dead Z er => F g ∧ ∃ B, w.heap[g]? = some (.cells (PxCells B Z er) 99 (0, 0))

/-- What a call on a put leaves. -/
def PmMoved (F : Nat → Prop) (g : Nat) (m : Pm) (w : World) (e : Ending) (w' : World) : Prop :=
  e = .returned (.tuple #[]) ∧ ∃ F', PmAt w' F' g m ∧ Touch F w w' ∧ ∀ k, F' k → F k ∨ (w.heap.size ≤ k ∧ k < w'.heap.size)

theorem PutAt.below {w w' : World} {F : Nat → Prop} {g : Nat} {s : Rs} (h : PutAt w F g s) (hs : w.heap.size ≤ w'.heap.size) (hb : ∀ k, F k → w'.heap[k]? = w.heap[k]?) : PutAt w' F g s := by
  obtain ⟨A, L, c, a, av, th, h1, h2, h3, h4, h5, h6, h7, h8⟩ := h
  have hg := hb g h2
  have hc : ∀ {a : Nat} {v : Value}, Capt w F g a v → Capt w' F g a v := fun h => h.keep fun k hk _ => hb k hk
  have ho : ∀ {o : Option Int} {v : Value}, OnIs w F g o v → OnIs w' F g o v := fun h => OnIs.keep h (fun k hk _ => hb k hk) fun _ hk => hk
  refine ⟨A, L, c, a, av, th, h1.of_block hg, h2, h3, h4.keep hs fun k hk _ => hb k hk.1, h5, h6, ?_, fun b hb' => ⟨(h8 b hb').1, (h8 b hb').2.keep hs fun k hk _ => hb k hk.1⟩⟩
  unfold ThenIs at h7 ⊢
  cases hph : s.ph with
  | ask => rw [hph] at h7; obtain ⟨a, e, h⟩ := h7; exact ⟨a, e, hc h⟩
  | tail => rw [hph] at h7; obtain ⟨a, e, h⟩ := h7; exact ⟨a, e, hc h⟩
  | head1 => rw [hph] at h7; obtain ⟨a, b, c, on, e, k1, k2, k3, k4⟩ := h7; exact ⟨a, b, c, on, e, hc k1, hc k2, hc k3, ho k4⟩
  | head2 gap => rw [hph] at h7; obtain ⟨a, b, c, on, e, k1, k2, k3, k4⟩ := h7; exact ⟨a, b, c, on, e, hc k1, hc k2, hc k3, ho k4⟩
  | copy1 => rw [hph] at h7; obtain ⟨c, on, e, k3, k4⟩ := h7; exact ⟨c, on, e, hc k3, ho k4⟩
  | copy2 gap => rw [hph] at h7; obtain ⟨c, on, e, k3, k4⟩ := h7; exact ⟨c, on, e, hc k3, ho k4⟩
  | cas pad => rw [hph] at h7; obtain ⟨a, b, e, k1, k2⟩ := h7; exact ⟨a, b, e, hc k1, hc k2⟩
  | padd pad => rw [hph] at h7; obtain ⟨a, e, k1⟩ := h7; exact ⟨a, e, hc k1⟩
  | hdr => rw [hph] at h7; obtain ⟨a, b, c, e, k1, k2, k3⟩ := h7; exact ⟨a, b, c, e, hc k1, hc k2, hc k3⟩
  | byt d =>
    rw [hph] at h7
    obtain ⟨em, es, eo, b1, b2, b3, gc, base, top, v, e, k1, k2, k3, ⟨k4, k5, k6⟩, k7, k8, k9⟩ := h7
    exact ⟨em, es, eo, b1, b2, b3, gc, base, top, v, e, hc k1, hc k2, hc k3, ⟨hc k4, hc k5, hc k6⟩, k7.keep hs (fun k x y => hb k (k8 k (.inl ⟨x, y⟩)).1) fun k x => hb k (k8 k (.inr x)).1, k8, k9⟩
  | len => rw [hph] at h7; exact h7
  | fin => rw [hph] at h7; exact h7

theorem PutAt.wide {w : World} {F F' : Nat → Prop} {g : Nat} {s : Rs} (h : PutAt w F g s) (hF : ∀ k, F k → F' k) : PutAt w F' g s := by
  obtain ⟨A, L, c, a, av, th, h1, h2, h3, h4, h5, h6, h7, h8⟩ := h
  have hc : ∀ {a : Nat} {v : Value}, Capt w F g a v → Capt w F' g a v := fun h => h.mono hF
  have ho : ∀ {o : Option Int} {v : Value}, OnIs w F g o v → OnIs w F' g o v := fun h => OnIs.keep h (fun k hk _ => rfl) hF
  refine ⟨A, L, c, a, av, th, h1, hF g h2, h3, h4.mono fun k hk _ => ⟨hF k hk.1, hk.2⟩, h5, h6, ?_, fun b hb' => ⟨(h8 b hb').1, (h8 b hb').2.mono fun k hk _ => ⟨hF k hk.1, hk.2⟩⟩⟩
  unfold ThenIs at h7 ⊢
  cases hph : s.ph with
  | ask => rw [hph] at h7; obtain ⟨a, e, h⟩ := h7; exact ⟨a, e, hc h⟩
  | tail => rw [hph] at h7; obtain ⟨a, e, h⟩ := h7; exact ⟨a, e, hc h⟩
  | head1 => rw [hph] at h7; obtain ⟨a, b, c, on, e, k1, k2, k3, k4⟩ := h7; exact ⟨a, b, c, on, e, hc k1, hc k2, hc k3, ho k4⟩
  | head2 gap => rw [hph] at h7; obtain ⟨a, b, c, on, e, k1, k2, k3, k4⟩ := h7; exact ⟨a, b, c, on, e, hc k1, hc k2, hc k3, ho k4⟩
  | copy1 => rw [hph] at h7; obtain ⟨c, on, e, k3, k4⟩ := h7; exact ⟨c, on, e, hc k3, ho k4⟩
  | copy2 gap => rw [hph] at h7; obtain ⟨c, on, e, k3, k4⟩ := h7; exact ⟨c, on, e, hc k3, ho k4⟩
  | cas pad => rw [hph] at h7; obtain ⟨a, b, e, k1, k2⟩ := h7; exact ⟨a, b, e, hc k1, hc k2⟩
  | padd pad => rw [hph] at h7; obtain ⟨a, e, k1⟩ := h7; exact ⟨a, e, hc k1⟩
  | hdr => rw [hph] at h7; obtain ⟨a, b, c, e, k1, k2, k3⟩ := h7; exact ⟨a, b, c, e, hc k1, hc k2, hc k3⟩
  | byt d =>
    rw [hph] at h7
    obtain ⟨em, es, eo, b1, b2, b3, gc, base, top, v, e, k1, k2, k3, ⟨k4, k5, k6⟩, k7, k8, k9⟩ := h7
    exact ⟨em, es, eo, b1, b2, b3, gc, base, top, v, e, hc k1, hc k2, hc k3, ⟨hc k4, hc k5, hc k6⟩, k7, fun k hk => ⟨hF k (k8 k hk).1, (k8 k hk).2⟩, k9⟩
  | len => rw [hph] at h7; exact h7
  | fin => rw [hph] at h7; exact h7

theorem PmAt.keep {w w' : World} {F : Nat → Prop} {g : Nat} {m : Pm} (h : PmAt w F g m) (hs : w.heap.size ≤ w'.heap.size) (hb : ∀ k, F k → w'.heap[k]? = w.heap[k]?) : PmAt w' F g m := by
  cases m with
  | live s => exact PutAt.below h hs hb
  | dead Z er =>
    obtain ⟨h1, B, h2⟩ := h
    exact ⟨h1, B, (hb g h1).trans h2⟩
theorem PmAt.wide {w : World} {F F' : Nat → Prop} {g : Nat} {m : Pm} (h : PmAt w F g m) (hF : ∀ k, F k → F' k) : PmAt w F' g m := by
  cases m with
  | live s => exact PutAt.wide h hF
  | dead Z er =>
    obtain ⟨h1, B, h2⟩ := h
    exact ⟨hF g h1, B, h2⟩

/-- Something goes on where, and only where, there is a next access. -/
theorem PutAt.thenIs {w : World} {F : Nat → Prop} {g : Nat} {s : Rs} {dv th : Value} (h : ThenIs w F g s dv th) : (s.next = none ∧ th = .nilFunc) ∨ (s.next ≠ none ∧ ∃ k rc caps, th = .func (.func k) rc caps) := by
  unfold ThenIs at h
  unfold Rs.next
  cases hph : s.ph with
  | fin => rw [hph] at h; exact .inl ⟨rfl, h⟩
  | len => rw [hph] at h; exact .inr ⟨by simp, _, _, _, h⟩
  | ask => rw [hph] at h; obtain ⟨_, e, _⟩ := h; exact .inr ⟨by simp, _, _, _, e⟩
  | tail => rw [hph] at h; obtain ⟨_, e, _⟩ := h; exact .inr ⟨by simp, _, _, _, e⟩
  | head1 => rw [hph] at h; obtain ⟨_, _, _, _, e, _⟩ := h; exact .inr ⟨by simp, _, _, _, e⟩
  | head2 gap => rw [hph] at h; obtain ⟨_, _, _, _, e, _⟩ := h; exact .inr ⟨by simp, _, _, _, e⟩
  | copy1 => rw [hph] at h; obtain ⟨_, _, e, _⟩ := h; exact .inr ⟨by simp, _, _, _, e⟩
  | copy2 gap => rw [hph] at h; obtain ⟨_, _, e, _⟩ := h; exact .inr ⟨by simp, _, _, _, e⟩
  | cas pad => rw [hph] at h; obtain ⟨_, _, e, _⟩ := h; exact .inr ⟨by simp, _, _, _, e⟩
  | padd pad => rw [hph] at h; obtain ⟨_, e, _⟩ := h; exact .inr ⟨by simp, _, _, _, e⟩
  | hdr => rw [hph] at h; obtain ⟨_, _, _, e, _⟩ := h; exact .inr ⟨by simp, _, _, _, e⟩
  | byt d => rw [hph] at h; obtain ⟨_, _, _, _, _, _, _, _, _, _, e, _⟩ := h; exact .inr ⟨by simp, _, _, _, e⟩
end Go.Proofs.YtikcnioooihncaaGreat
namespace Go.Proofs.YtikcnioooihncaaGreat
open Go.RowKit

namespace PxCells
variable {w : World} {g : Nat} {B Z er : Int}
theorem st (h : w.heap[g]? = some (.cells (PxCells B Z er) 99 (0, 0))) : w.cell? ⟨g, 11, none⟩ = some .nilFunc := by simp [World.cell?, h, PxCells]
end PxCells

theorem rp_ans_box (w : World) (V : Nat) (D : Bool) (A : Option Addr) (l c : Nat) :
    (w.alloc (.cells #[.int .u64 V, .bool D, .slice A l c] 25)).cell? ⟨w.heap.size, 0, none⟩ = some (.int .u64 V) ∧
    (w.alloc (.cells #[.int .u64 V, .bool D, .slice A l c] 25)).cell? ⟨w.heap.size, 1, none⟩ = some (.bool D) ∧
    (w.alloc (.cells #[.int .u64 V, .bool D, .slice A l c] 25)).cell? ⟨w.heap.size, 2, none⟩ = some (.slice A l c) := by
  have h := Go.Deep.blk_alloc_new w (.cells #[.int .u64 V, .bool D, .slice A l c] 25)
  refine ⟨?_, ?_, ?_⟩ <;> (unfold World.cell?; simp only [h]; rfl)

set_option maxRecDepth 100000 in
set_option maxHeartbeats 800000 in
theorem putTakeNil (V : Nat) (D : Bool) (A : Option Addr) (l c : Nat) (w : World) :
    Calls Tryz.prog 22 #[.pointer none, .agg #[.int .u64 V, .bool D, .slice A l c]] w (Made (.tuple #[]) w) := by
  have HW := Lib.hid ((Below.refl w.heap.size w).alloc (Nat.le_refl _) (.cells #[.int .u64 V, .bool D, .slice A l c] 25))
  go_enter Tryz.func22, Tryz.ntmps22
  go_upto_region 1 with (fail)
  generalize w.alloc (.cells #[.int .u64 V, .bool D, .slice A l c] 25) = W at HW ⊢
  go_wp2
  go_end0
  exact ⟨rfl, HW.out⟩

set_option maxRecDepth 100000 in
set_option maxHeartbeats 800000 in
theorem putTake {w : World} {F : Nat → Prop} {g : Nat} {m : Pm} (h : PmAt w F g m) (hF : ∀ k, F k → k < w.heap.size) (x : An) (hx : x.V < 18446744073709551616) (A : Option Addr) (l c : Nat) (hB : BytesAt w (.slice A l c) x.bs) :
    Calls Tryz.prog 22 #[.pointer (some ⟨g, 0, none⟩), .agg #[.int .u64 x.V, .bool x.D, .slice A l c]] w (PmMoved F g (m.take x) w) := by
  have hb0 := (Below.refl w.heap.size w).alloc (Nat.le_refl _) (.cells #[.int .u64 x.V, .bool x.D, .slice A l c] 25)
  obtain ⟨x0, x1, x2⟩ := rp_ans_box w x.V x.D A l c
  have HW := Lib.hid hb0
  have HC : Hid (∀ W, Below w.heap.size w W → Calls Tryz.prog 27 #[.pointer (some ⟨g, 5, none⟩), .agg #[.int .u64 x.V, .bool x.D, .slice A l c]] W (PmMoved F g (m.take x) W)) := Lib.hid fun W hW => by
    have hk := h.keep hW.size fun k hk => hW.block k (hF k hk)
    cases m with
    | live s => exact (rpStepsTake hk (fun k hk => Nat.lt_of_lt_of_le (hF k hk) hW.size) x hx A l c (hB.below hW)).mono fun e w' hm => hm
    | dead Z er =>
      obtain ⟨h1, B, h2⟩ := hk
      refine (stTakeNo (PxCells.st h2) x.V x.D A l c).mono ?_
      rintro e w' ⟨rfl, hb⟩
      exact ⟨rfl, F, ⟨h1, B, (hb.block g (Nat.lt_of_lt_of_le (hF g h1) hW.size)).trans h2⟩, Touch.of_below hb, fun k hk => .inl hk⟩
  have hnF : ¬ F w.heap.size := fun e => Nat.lt_irrefl _ (hF _ e)
  clear h hF hB hb0
  go_enter Tryz.func22, Tryz.ntmps22
  go_upto_region 1 with (fail)
  generalize w.alloc (.cells #[.int .u64 x.V, .bool x.D, .slice A l c] 25) = W at HW x0 x1 x2 ⊢
  go_upto_region 2 with (fail)
  go_region_held3 (fun w' => w'.cell? ⟨w.heap.size, 0, none⟩ = some (.int .u64 x.V) ∧ w'.cell? ⟨w.heap.size, 1, none⟩ = some (.bool x.D) ∧ w'.cell? ⟨w.heap.size, 2, none⟩ = some (.slice A l c)) (go_keep)
    (first | (go_at_call 27; refine (HC.out W.drew HW.out.drew).mono ?_; intro e w3 hm; have HM := Lib.hid hm; obtain ⟨rfl, F', hp, ht, hF'⟩ := hm; have y0 := (ht.cell (p := ⟨w.heap.size, 0, none⟩) (lt_of_cell x0) hnF).trans x0; have y1 := (ht.cell (p := ⟨w.heap.size, 1, none⟩) (lt_of_cell x0) hnF).trans x1; have y2 := (ht.cell (p := ⟨w.heap.size, 2, none⟩) (lt_of_cell x0) hnF).trans x2))
  all_goals
    go_wp2
    go_end0
    exact ⟨rfl, F', hp, (Touch.of_below HW.out.drew).trans ht, fun k hk => (hF' k hk).imp id fun h => ⟨Nat.le_trans HW.out.size h.1, h.2⟩⟩

set_option maxRecDepth 100000 in
set_option maxHeartbeats 800000 in
theorem putNextNil (w : World) : Calls Tryz.prog 49 #[.pointer none] w (NextTold none w) := by
  have HA := AccNew.made w
  have HW := Lib.hid ((Below.refl w.heap.size w).alloc (Nat.le_refl _) (.cells #[.int .i64 0, .int .i64 0, .int .i64 0, .int .u64 0, .int .u64 0, .slice none 0 0] 30))
  go_enter Tryz.func49, Tryz.ntmps49
  go_upto_region 1 with (fail)
  generalize w.alloc (.cells #[.int .i64 0, .int .i64 0, .int .i64 0, .int .u64 0, .int .u64 0, .slice none 0 0] 30) = W at HA HW ⊢
  obtain ⟨a0, a1, a2, a3, a4, a5, f0, f1, f2, f3, f4, f5, hbk⟩ := HA
  go_wp2
  refine bodyPost_ret (v := .tuple #[.agg #[.int .i64 0, .int .i64 0, .int .i64 0, .int .u64 0, .int .u64 0, .slice none 0 0], .bool false]) (by simp [results, Tryz.results49, go_sem, a0, a1, a2, a3, a4, a5]) rfl ?_
  exact ⟨six_below HW.out (Nat.le_refl _) _ _ _ _ _ _, rfl⟩

theorem Pm.fine {w : World} {F : Nat → Prop} {g : Nat} {m : Pm} (h : PmAt w F g m) {a : Ac} (ha : m.next = some a) : a.Fine := by
  cases m with
  | dead Z er => cases ha
  | live s =>
    obtain ⟨A, L, c, a0, av, th, h1, h2, ok, h4, h5, h6, h7, h8⟩ := h
    obtain ⟨hp0, hz0, hz1, hb0, hb1, ht0, ht1, hfew, hB, hh, htl, hps⟩ := ok
    have okr : Rg.Ok s.B s.Z := ⟨hp0, hz0, hz1, hb0, hb1⟩
    have un_lt : ∀ y : Int, Rs.un y < 18446744073709551616 := fun y => by unfold Rs.un; omega
    have jn_lt : ∀ x y : Int, (Hd.jn x y).toNat < 18446744073709551616 := fun x y => by have := Hd.jn_bounds x y; omega
    have num : ∀ k : Int, 0 ≤ k → k ≤ 16 → -9223372036854775808 ≤ s.num k ∧ s.num k ≤ 9223372036854775807 := fun k _ _ => by unfold Rs.num Rg.num; omega
    have spot : ∀ v : Int, 0 ≤ s.spot v ∧ s.spot v ≤ 140000 := fun v => by have := okr.place_in v; unfold Rs.spot Rg.spot; omega
    have mk : ∀ (K P N : Int) (V U : Nat), (0 ≤ K ∧ K ≤ 8) → (-9223372036854775808 ≤ P ∧ P ≤ 9223372036854775807) → (0 ≤ N ∧ N ≤ 8) → V < 18446744073709551616 → U < 18446744073709551616 → Ac.Fine ⟨K, P, N, V, U, []⟩ := fun K P N V U h1 h2 h3 h4 h5 => ⟨h4, h5, ⟨by show _ ≤ K; omega, by show K ≤ _; omega⟩, h2, ⟨by show _ ≤ N; omega, by show N ≤ _; omega⟩, Bys.nil, by show (0 : Nat) ≤ _; omega⟩
    have ha' : s.next = some a := ha
    unfold Rs.next at ha'
    unfold ThenIs at h7
    cases hph : s.ph with
    | fin => rw [hph] at ha'; cases ha'
    | ask => rw [hph] at ha'; injection ha' with e; subst e; exact mk _ _ _ _ _ (by omega) (num _ (by omega) (by omega)) (by omega) (by omega) (by omega)
    | tail => rw [hph] at ha'; injection ha' with e; subst e; exact mk _ _ _ _ _ (by omega) (num _ (by omega) (by omega)) (by omega) (by omega) (by omega)
    | head1 => rw [hph] at ha'; injection ha' with e; subst e; exact mk _ _ _ _ _ (by omega) (num _ (by omega) (by omega)) (by omega) (by omega) (by omega)
    | head2 gap => rw [hph] at ha'; injection ha' with e; subst e; exact mk _ _ _ _ _ (by omega) (num _ (by omega) (by omega)) (by omega) (by omega) (by omega)
    | copy1 => rw [hph] at ha'; injection ha' with e; subst e; exact mk _ _ _ _ _ (by omega) (num _ (by omega) (by omega)) (by omega) (un_lt _) (by omega)
    | copy2 gap => rw [hph] at ha'; injection ha' with e; subst e; exact mk _ _ _ _ _ (by omega) (num _ (by omega) (by omega)) (by omega) (un_lt _) (by omega)
    | cas pad => rw [hph] at ha'; injection ha' with e; subst e; exact mk _ _ _ _ _ (by omega) (num _ (by omega) (by omega)) (by omega) (un_lt _) (un_lt _)
    | padd pad => rw [hph] at ha'; injection ha' with e; subst e; have := spot s.t; exact mk _ _ _ _ _ (by omega) (by omega) (by omega) (jn_lt _ _) (by omega)
    | hdr => rw [hph] at ha'; injection ha' with e; subst e; have := spot s.p; exact mk _ _ _ _ _ (by omega) (by omega) (by omega) (jn_lt _ _) (by omega)
    | len => rw [hph] at ha'; injection ha' with e; subst e; have := spot s.p; exact mk _ _ _ _ _ (by omega) (by omega) (by omega) (by omega) (by omega)
    | byt d =>
      rw [hph] at ha' h7
      obtain ⟨_, _, _, _, _, _, _, _, _, _, _, _, _, _, _, _, _, hdl⟩ := h7
      injection ha' with e
      subst e
      have := spot s.p
      have hn := Cy.nx_le (s.L - d)
      refine ⟨by show (0 : Nat) < _; omega, by show (0 : Nat) < _; omega, ⟨by show _ ≤ (6 : Int); omega, by show (6 : Int) ≤ _; omega⟩, ?_, ?_, Bys.bl hB _ _, ?_⟩
      · show _ ≤ s.spot s.p + 8 + (d : Int) ∧ s.spot s.p + 8 + (d : Int) ≤ _
        omega
      · show _ ≤ ((Cy.nx (s.L - d) : Nat) : Int) ∧ ((Cy.nx (s.L - d) : Nat) : Int) ≤ _
        omega
      · show (Mb.bl s.f d (Cy.nx (s.L - d))).length ≤ _
        rw [Mb.bl_length]
        omega

set_option maxRecDepth 100000 in
set_option maxHeartbeats 800000 in
theorem putNext {w : World} {F : Nat → Prop} {g : Nat} {m : Pm} (h : PmAt w F g m) (hF : ∀ k, F k → k < w.heap.size) :
    Calls Tryz.prog 49 #[.pointer (some ⟨g, 0, none⟩)] w (NextTold m.next w) := by
  have HA := Lib.hid (AccNew.made w)
  have HW := Lib.hid ((Below.refl w.heap.size w).alloc (Nat.le_refl _) (.cells #[.int .i64 0, .int .i64 0, .int .i64 0, .int .u64 0, .int .u64 0, .slice none 0 0] 30))
  have HC : Hid (∀ W, Below w.heap.size w W → Calls Tryz.prog 28 #[.pointer (some ⟨g, 5, none⟩)] W (NextTold m.next W)) := Lib.hid fun W hW => by
    have hk := h.keep hW.size fun k hk => hW.block k (hF k hk)
    have hfine := fun a (ha : m.next = some a) => Pm.fine hk ha
    cases m with
    | live s =>
      obtain ⟨A, L, c, a, av, th, h1, h2, h3, h4, h5, h6, h7, h8⟩ := hk
      show Calls _ _ _ _ (NextTold s.next W)
      rcases PutAt.thenIs h7 with ⟨e1, e2⟩ | ⟨e1, k, rc, caps, e2⟩
      · rw [e1]
        have := h1.c11
        rw [e2] at this
        exact stNextNo this
      · cases hn : s.next with
        | none => exact absurd hn e1
        | some b =>
          obtain ⟨rfl, hb⟩ := h8 b hn
          have hby := hb.bytes
          obtain ⟨A2, c2, hav, _⟩ := hb
          subst hav e2
          exact stNextYes h1.st hby (hfine a hn).few
    | dead Z er =>
      obtain ⟨_, B, h2⟩ := hk
      exact stNextNo (PxCells.st h2)
  generalize m.next = o at HC ⊢
  clear h hF
  go_enter Tryz.func49, Tryz.ntmps49
  go_upto_region 1 with (fail)
  generalize w.alloc (.cells #[.int .i64 0, .int .i64 0, .int .i64 0, .int .u64 0, .int .u64 0, .slice none 0 0] 30) = W at HA HW ⊢
  cases o with
  | none =>
    go_wp2_with (go_at_call 28; refine (HC.out W HW.out).mono ?_; rintro e w2 ⟨hb, rfl⟩; obtain ⟨a0, a1, a2, a3, a4, a5, f0, f1, f2, f3, f4, f5, hbk⟩ := HA.out.later hb)
    refine bodyPost_ret (v := .tuple #[.agg #[.int .i64 0, .int .i64 0, .int .i64 0, .int .u64 0, .int .u64 0, .slice none 0 0], .bool false]) (by simp [results, Tryz.results49, go_sem, a0, a1, a2, a3, a4, a5]) rfl ?_
    exact ⟨six_below (HW.out.trans (hb.mono HW.out.size)) (Nat.le_refl _) _ _ _ _ _ _, rfl⟩
  | some a =>
    go_wp2_with (go_at_call 28; refine (HC.out W HW.out).mono ?_; rintro e w2 ⟨hb, A, l, c, rfl, ho⟩; obtain ⟨a0, a1, a2, a3, a4, a5, f0, f1, f2, f3, f4, f5, hbk⟩ := HA.out.later hb; have HO := Lib.hid ho)
    refine bodyPost_ret (v := .tuple #[.agg #[.int .i64 a.K, .int .i64 a.P, .int .i64 a.N, .int .u64 a.V, .int .u64 a.U, .slice A l c], .bool true]) (by simp [results, Tryz.results49, go_sem, a0, a1, a2, a3, a4, a5]) rfl ?_
    exact ⟨six_below (HW.out.trans (hb.mono HW.out.size)) (Nat.le_refl _) _ _ _ _ _ _, A, l, c, rfl, (six_own HO.out (Array.getElem?_eq_some_iff.1 HA.out.blk).1 _ _ _ _ _ _).down HW.out.size⟩

set_option maxRecDepth 100000 in
theorem putAtNil (w : World) : Calls Tryz.prog 50 #[.pointer none] w (fun e w' => e = .returned (.tuple #[.int .i64 0, .bool false]) ∧ w = w') := by
  go_enter Tryz.func50, Tryz.ntmps50
  go_wp2
  refine bodyPost_ret (v := .tuple #[.int .i64 0, .bool false]) (by simp [results, Tryz.results50, go_sem]) rfl ?_
  exact ⟨rfl, rfl⟩

set_option maxRecDepth 100000 in
theorem putAt {w : World} {F : Nat → Prop} {g : Nat} {m : Pm} (h : PmAt w F g m) : Calls Tryz.prog 50 #[.pointer (some ⟨g, 0, none⟩)] w (fun e w' => e = .returned (.tuple #[.int .i64 m.pos, .bool m.has]) ∧ ∃ j, w' = w.drewN j) := by
  have hc : w.cell? ⟨g, 14, none⟩ = some (.int .i64 m.pos) ∧ w.cell? ⟨g, 15, none⟩ = some (.bool m.has) := by
    cases m with
    | live s =>
      obtain ⟨A, L, c, a, av, th, h1, _⟩ := h
      exact ⟨h1.c14, h1.c15⟩
    | dead Z er =>
      obtain ⟨_, B, h2⟩ := h
      exact ⟨by simp [World.cell?, h2, PxCells, Pm.pos], by simp [World.cell?, h2, PxCells, Pm.has]⟩
  obtain ⟨c14, c15⟩ := hc
  generalize m.pos = p at c14 ⊢
  generalize m.has = b at c15 ⊢
  clear h
  go_enter Tryz.func50, Tryz.ntmps50
  go_upto_region 3 with (fail)
  go_quiet (fail)
  go_wp2
  refine bodyPost_ret (v := .tuple #[.int .i64 p, .bool b]) (by simp [results, Tryz.results50, go_sem]) rfl ?_
  exact ⟨rfl, _, rfl⟩

set_option maxRecDepth 100000 in
theorem putResultNil (w : World) : Calls Tryz.prog 44 #[.pointer none] w (fun e w' => e = .returned (.tuple #[.int .i64 0, .int .i64 1]) ∧ w = w') := by
  go_enter Tryz.func44, Tryz.ntmps44
  go_wp2
  refine bodyPost_ret (v := .tuple #[.int .i64 0, .int .i64 1]) (by simp [results, Tryz.results44, go_sem]) rfl ?_
  exact ⟨rfl, rfl⟩

set_option maxRecDepth 100000 in
set_option maxHeartbeats 800000 in
theorem putResult {w : World} {F : Nat → Prop} {g : Nat} {m : Pm} (h : PmAt w F g m) : Calls Tryz.prog 44 #[.pointer (some ⟨g, 0, none⟩)] w (fun e w' => e = .returned (.tuple #[.int .i64 m.result.1, .int .i64 m.result.2]) ∧ ∃ j, w' = w.drewN j) := by
  have hc : w.cell? ⟨g, 1, none⟩ = some (.int .i64 m.size) ∧ w.cell? ⟨g, 14, none⟩ = some (.int .i64 m.pos) ∧ w.cell? ⟨g, 16, none⟩ = some (.int .i64 m.fault) ∧
      Calls Tryz.prog 29 #[.pointer (some ⟨g, 5, none⟩)] w (fun e w' => e = .returned (.bool m.busy) ∧ w = w') := by
    cases m with
    | live s =>
      obtain ⟨A, L, c, a, av, th, h1, _, _, _, _, _, h7, _⟩ := h
      refine ⟨h1.c1, h1.c14, h1.c16, ?_⟩
      rcases PutAt.thenIs h7 with ⟨e1, e2⟩ | ⟨e1, k, rc, caps, e2⟩
      · have h11 := h1.c11
        rw [e2] at h11
        have hb : (Pm.live s).busy = false := by show s.next.isSome = false; rw [e1]; rfl
        rw [hb]
        exact stBusyNo h11
      · have h11 := h1.c11
        rw [e2] at h11
        have hb : (Pm.live s).busy = true := by
          show s.next.isSome = true
          cases hn : s.next with
          | none => exact absurd hn e1
          | some b => rfl
        rw [hb]
        exact stBusyYes k rc caps h11
    | dead Z er =>
      obtain ⟨_, B, h2⟩ := h
      exact ⟨by simp [World.cell?, h2, PxCells, Pm.size], by simp [World.cell?, h2, PxCells, Pm.pos], by simp [World.cell?, h2, PxCells, Pm.fault], stBusyNo (PxCells.st h2)⟩
  obtain ⟨c1, c14, c16, hB⟩ := hc
  unfold Pm.result
  generalize m.size = Z at c1 ⊢
  generalize m.pos = p at c14 ⊢
  generalize m.fault = er at c16 ⊢
  generalize m.busy = bs at hB ⊢
  have HB := Lib.hid hB
  clear h hB
  by_cases hz : Z = 0
  · subst hz
    rw [if_pos rfl]
    go_enter Tryz.func44, Tryz.ntmps44
    go_wp2
    refine bodyPost_ret (v := .tuple #[.int .i64 0, .int .i64 1]) (by simp [results, Tryz.results44, go_sem]) rfl ?_
    exact ⟨rfl, 0, rfl⟩
  · rw [if_neg hz]
    have hd : decide (Z = 0) = false := by simpa using hz
    cases bs with
    | true =>
      rw [if_pos rfl]
      go_enter Tryz.func44, Tryz.ntmps44
      go_wp2_with (go_at_call 29; refine HB.out.mono ?_; rintro e w2 ⟨rfl, rfl⟩)
      refine bodyPost_ret (v := .tuple #[.int .i64 0, .int .i64 10]) (by simp [results, Tryz.results44, go_sem]) rfl ?_
      exact ⟨rfl, 0, rfl⟩
    | false =>
      rw [if_neg (by decide)]
      by_cases he : er = 0
      · subst he
        rw [if_pos rfl]
        go_enter Tryz.func44, Tryz.ntmps44
        go_wp2_with (go_at_call 29; refine HB.out.mono ?_; rintro e w2 ⟨rfl, rfl⟩)
        refine bodyPost_ret (v := .tuple #[.int .i64 p, .int .i64 0]) (by simp [results, Tryz.results44, go_sem]) rfl ?_
        exact ⟨rfl, 0, rfl⟩
      · rw [if_neg he]
        have hd2 : decide (er = 0) = false := by simpa using he
        go_enter Tryz.func44, Tryz.ntmps44
        go_upto_region 6 with (go_at_call 29; refine HB.out.mono ?_; rintro e w2 ⟨rfl, rfl⟩)
        go_quiet (fail)
        go_wp2
        refine bodyPost_ret (v := .tuple #[.int .i64 0, .int .i64 er]) (by simp [results, Tryz.results44, go_sem]) rfl ?_
        exact ⟨rfl, _, rfl⟩
end Go.Proofs.YtikcnioooihncaaGreat
namespace Go.Proofs.YtikcnioooihncaaGreat
open Go.RowKit

theorem row_of_block {w w' : World} {base size n : Nat} {e : TypeId} {v : Value} {xs : List Value} (h : w.ownsRow base e size v n xs) (hb : ∀ k, v.ownBlock = some k → w'.heap[k]? = w.heap[k]?) : w'.ownsRow base e size v n xs := by
  refine ⟨h.1, ?_⟩
  rcases h.2 with h2 | ⟨g, cap, cur, rfl, h1, h2, h3⟩
  · exact .inl h2
  · exact .inr ⟨g, cap, cur, rfl, h1, (hb g rfl).trans h2, h3⟩
theorem row_lt {w : World} {base size n : Nat} {e : TypeId} {v : Value} {xs : List Value} (h : w.ownsRow base e size v n xs) {k : Nat} (hk : v.ownBlock = some k) : base ≤ k ∧ k < w.heap.size := by
  rcases h.2 with ⟨rfl, _⟩ | ⟨g, cap, cur, rfl, h1, h2, h3⟩
  · cases hk
  · injection hk with hk
    subst hk
    exact ⟨h1, (Array.getElem?_eq_some_iff.1 h2).1⟩
end Go.Proofs.YtikcnioooihncaaGreat
namespace Go.Proofs.YtikcnioooihncaaGreat
open Go.RowKit

/-- Where a get is: at the head, at a record's header, in a message's bytes (its type, the record's size, its length, what was read), in the zeros, at the head again, at its end. -/
inductive Gh where
  | head | look | read (typ : Int) (sz n d : Nat) (ys : List Int) | zero (d : Nat) | set | fin

/-- A get: its ring, how many it takes at most, the head as it was told, what it went over, the messages, its fault, where it is. -/
structure Gs where
  B : Nat
  Z : Nat
  most : Int
  h : Int
  dn : Nat
  ms : List (Int × List Int)
  er : Int
  ph : Gh

namespace Gs
/-- Where the next record stands; how much the ring has left for it. -/
def at_ (s : Gs) : Int := Rg.spot s.B s.Z s.h + s.dn
def left (s : Gs) : Int := (s.Z : Int) - Rg.place s.Z s.h - s.dn
/-- The access that a get is at. -/
def next (s : Gs) : Option Ac :=
  match s.ph with
  | .head => some ⟨1, Rg.num s.B s.Z 16, 8, 0, 0, []⟩
  | .look => some ⟨1, s.at_, 8, 0, 0, []⟩
  | .read _ _ n d _ => some ⟨5, s.at_ + 8 + (d : Nat), (Cy.nx (n - d) : Nat), 0, 0, []⟩
  | .zero d => some ⟨6, Rg.spot s.B s.Z s.h + (d : Nat), (Cy.nx (s.dn - d) : Nat), 0, 0, Mb.bl (fun _ => 0) d (Cy.nx (s.dn - d))⟩
  | .set => some ⟨2, Rg.num s.B s.Z 16, 8, Rs.un (Rs.wr (s.h + s.dn)), 0, []⟩
  | .fin => none
/-- Room is handed back. -/
def drain (s : Gs) : Gs := if s.dn = 0 then { s with ph := .fin } else { s with ph := .zero 0 }
/-- The next record is looked at, if there may be one that is wanted. -/
def looks (s : Gs) : Gs := if (s.ms.length : Int) = s.most ∨ s.left = 0 then s.drain else { s with ph := .look }
/-- It goes on behind a record. -/
def pass (s : Gs) (sz : Nat) : Gs := ({ s with dn := s.dn + sz } : Gs).looks
/-- A message was read. -/
def got (s : Gs) (typ : Int) (sz : Nat) (ys : List Int) : Gs := ({ s with ms := s.ms ++ [(typ, ys)] } : Gs).pass sz
/-- A record's size, of its length. -/
def size (l : Int) : Nat := (8 * ((l + 7) / 8)).toNat
/-- A record's header was told. -/
def tell (s : Gs) (l typ : Int) : Gs :=
  if l < 1 then s.drain
  else if l < 8 ∨ s.left < (size l : Int) then ({ s with er := 13 } : Gs).drain
  else if typ = -1 then s.pass (size l)
  else if l = 8 then s.got typ (size l) []
  else { s with ph := .read typ (size l) (l - 8).toNat 0 [] }
/-- An answer is taken. -/
def take (s : Gs) (x : An) : Gs :=
  match s.ph with
  | .head => ({ s with h := Rs.wr x.V } : Gs).looks
  | .look => s.tell (Hd.s32 x.V) (Hd.s32 (x.V / 4294967296))
  | .read typ sz n d ys => if d + Cy.nx (n - d) = n then s.got typ sz (ys ++ x.bs) else { s with ph := .read typ sz n (d + Cy.nx (n - d)) (ys ++ x.bs) }
  | .zero d => if d + Cy.nx (s.dn - d) = s.dn then { s with ph := .set } else { s with ph := .zero (d + Cy.nx (s.dn - d)) }
  | .set => { s with ph := .fin }
  | .fin => s

/-- What holds of a get at any time. -/
structure Ok (s : Gs) : Prop where
  rg : Rg.Ok s.B s.Z
  dn0 : (s.dn : Int) ≤ s.Z - Rg.place s.Z s.h
  m0 : 1 ≤ s.most ∧ s.most ≤ 9223372036854775807
  h0 : -9223372036854775808 ≤ s.h ∧ s.h ≤ 9223372036854775807
  few : s.ms.length ≤ s.dn
/-- What holds of where it is. -/
def PhOk (s : Gs) : Prop :=
  match s.ph with
  | .read _ sz n d _ => d < n ∧ n + 8 ≤ sz ∧ (sz : Int) ≤ s.left ∧ 1 ≤ sz
  | .zero d => d < s.dn
  | .head => s.dn = 0
  | _ => True
theorem Ok.withPh {s : Gs} (ok : s.Ok) (ph : Gh) : ({ s with ph := ph } : Gs).Ok := ⟨ok.rg, ok.dn0, ok.m0, ok.h0, ok.few⟩
theorem Ok.withEr {s : Gs} (ok : s.Ok) (er : Int) : ({ s with er := er } : Gs).Ok := ⟨ok.rg, ok.dn0, ok.m0, ok.h0, ok.few⟩
end Gs

/-- A get's block. -/
def GtCells (s : Gs) (a : Ac) (av th mv : Value) : Array Value :=
  #[.int .i64 s.B, .int .i64 s.Z, .int .i64 s.most, .int .i64 a.K, .int .i64 a.P, .int .i64 a.N, .int .u64 a.V, .int .u64 a.U, av, th, .int .i64 s.h, .int .i64 s.dn, mv, .int .i64 s.er]
/-- A get stands in block g. -/
def GtBlk (w : World) (g : Nat) (s : Gs) (a : Ac) (av th mv : Value) : Prop := w.heap[g]? = some (.cells (GtCells s a av th mv) 73 (0, 0))

namespace GtBlk
variable {w w' : World} {g : Nat} {s : Gs} {av th mv : Value} {a : Ac}
theorem lt (h : GtBlk w g s a av th mv) : g < w.heap.size := (Array.getElem?_eq_some_iff.1 h).1
theorem below (h : GtBlk w g s a av th mv) (hb : Below w.heap.size w w') : GtBlk w' g s a av th mv := (hb.block g h.lt).trans h
theorem of_block (h : GtBlk w g s a av th mv) (hb : w'.heap[g]? = w.heap[g]?) : GtBlk w' g s a av th mv := hb.trans h
theorem c0 (h : GtBlk w g s a av th mv) : w.cell? ⟨g, 0, none⟩ = some (.int .i64 s.B) := by simp [World.cell?, show w.heap[g]? = _ from h, GtCells]
theorem c1 (h : GtBlk w g s a av th mv) : w.cell? ⟨g, 1, none⟩ = some (.int .i64 s.Z) := by simp [World.cell?, show w.heap[g]? = _ from h, GtCells]
theorem c2 (h : GtBlk w g s a av th mv) : w.cell? ⟨g, 2, none⟩ = some (.int .i64 s.most) := by simp [World.cell?, show w.heap[g]? = _ from h, GtCells]
theorem c3 (h : GtBlk w g s a av th mv) : w.cell? ⟨g, 3, none⟩ = some (.int .i64 a.K) := by simp [World.cell?, show w.heap[g]? = _ from h, GtCells]
theorem c4 (h : GtBlk w g s a av th mv) : w.cell? ⟨g, 4, none⟩ = some (.int .i64 a.P) := by simp [World.cell?, show w.heap[g]? = _ from h, GtCells]
theorem c5 (h : GtBlk w g s a av th mv) : w.cell? ⟨g, 5, none⟩ = some (.int .i64 a.N) := by simp [World.cell?, show w.heap[g]? = _ from h, GtCells]
theorem c6 (h : GtBlk w g s a av th mv) : w.cell? ⟨g, 6, none⟩ = some (.int .u64 a.V) := by simp [World.cell?, show w.heap[g]? = _ from h, GtCells]
theorem c7 (h : GtBlk w g s a av th mv) : w.cell? ⟨g, 7, none⟩ = some (.int .u64 a.U) := by simp [World.cell?, show w.heap[g]? = _ from h, GtCells]
theorem c8 (h : GtBlk w g s a av th mv) : w.cell? ⟨g, 8, none⟩ = some av := by simp [World.cell?, show w.heap[g]? = _ from h, GtCells]
theorem c9 (h : GtBlk w g s a av th mv) : w.cell? ⟨g, 9, none⟩ = some th := by simp [World.cell?, show w.heap[g]? = _ from h, GtCells]
theorem c10 (h : GtBlk w g s a av th mv) : w.cell? ⟨g, 10, none⟩ = some (.int .i64 s.h) := by simp [World.cell?, show w.heap[g]? = _ from h, GtCells]
theorem c11 (h : GtBlk w g s a av th mv) : w.cell? ⟨g, 11, none⟩ = some (.int .i64 s.dn) := by simp [World.cell?, show w.heap[g]? = _ from h, GtCells]
theorem c12 (h : GtBlk w g s a av th mv) : w.cell? ⟨g, 12, none⟩ = some mv := by simp [World.cell?, show w.heap[g]? = _ from h, GtCells]
theorem c13 (h : GtBlk w g s a av th mv) : w.cell? ⟨g, 13, none⟩ = some (.int .i64 s.er) := by simp [World.cell?, show w.heap[g]? = _ from h, GtCells]
theorem free (h : GtBlk w g s a av th mv) (i : Nat) : w.frozen? ⟨g, i, none⟩ = false := by simp [World.frozen?, show w.heap[g]? = _ from h]
theorem st (h : GtBlk w g s a av th mv) : StAt w g 3 a av th := ⟨h.c3, h.c4, h.c5, h.c6, h.c7, h.c8, h.c9, h.free⟩
end GtBlk

/-- What 'Do' leaves. -/
def GtAsked (g : Nat) (s : Gs) (a : Ac) (av th mv : Value) (w : World) (e : Ending) (w' : World) : Prop :=
  e = .returned (.tuple #[]) ∧ GtBlk w' g s a av th mv ∧ Touch (fun k => k = g) w w'

theorem gt_seven {w : World} {g : Nat} {s : Gs} {av th mv : Value} {a : Ac} (h : GtBlk w g s a av th mv) (b : Ac) (bv th' : Value) :
    GtBlk (seven w g 3 b bv th') g s b bv th' mv := by
  have h' : w.heap[g]? = some (.cells (GtCells s a av th mv) 73 (0, 0)) := h
  unfold GtBlk seven
  simp [World.setCell, Array.getElem?_modify, h', GtCells]

theorem gt_st {w w' : World} {g : Nat} {s : Gs} {av th mv : Value} {a b : Ac} {bv th' : Value} {e : Ending} (h : GtBlk w g s a av th mv) (hs : StAsked g 3 b bv th' w e w') : GtAsked g s b bv th' mv w e w' := by
  obtain ⟨rfl, W, hb, rfl⟩ := hs
  exact ⟨rfl, gt_seven (h.below hb) b bv th', (Touch.of_below hb).trans (seven_touch1 W g 3 b bv th')⟩

theorem gtDo {w : World} {g : Nat} {s : Gs} {av th mv : Value} {a : Ac} (h : GtBlk w g s a av th mv) (b : Ac) (A : Option Addr) (l c : Nat) (k : FuncId) (rc caps : Array Value) :
    Calls Tryz.prog 54 #[.pointer (some ⟨g, 3, none⟩), .agg #[.int .i64 b.K, .int .i64 b.P, .int .i64 b.N, .int .u64 b.V, .int .u64 b.U, .slice A l c], .func (.func k) rc caps] w (GtAsked g s b (.slice A l c) (.func (.func k) rc caps) mv w) :=
  (stDo h.st b A l c k rc caps).mono fun _ _ hs => gt_st h hs

/-- The messages' cells: a type, bytes. -/
def msCells : List (Int × Value) → List Value
  | [] => []
  | (t, v) :: r => .int .i32 t :: v :: msCells r
/-- The messages stand as a row of their own, their bytes in blocks of K, none of them the row's. -/
def MsAt (K : Nat → Prop) (w : World) (mv : Value) (ms : List (Int × List Int)) : Prop :=
  ∃ vs : List Value, vs.length = ms.length ∧ w.ownsRow 0 69 2 mv ms.length (msCells ((ms.map Prod.fst).zip vs)) ∧ (∀ k, mv.ownBlock = some k → K k) ∧
    ∀ i (hi : i < ms.length) (hv : i < vs.length), BytesIn (fun k => K k ∧ mv.ownBlock ≠ some k) w vs[i] ms[i].2

/-- What a record's reading captured: the get, its type, its size. -/
def GTell (w : World) (F : Nat → Prop) (g : Nat) (typ : Int) (sz : Nat) (on : Value) : Prop :=
  ∃ a b c, on = .func (.func 126) #[] #[.pointer (some ⟨a, 0, none⟩), .pointer (some ⟨b, 0, none⟩), .pointer (some ⟨c, 0, none⟩)] ∧ Capt w F g a (.pointer (some ⟨g, 0, none⟩)) ∧ Capt w F g b (.int .i32 typ) ∧ Capt w F g c (.int .i64 sz)

/-- What goes on from the next answer. A copy that is followed stands in blocks of its own: none that anybody else captured, none of the messages. -/
def GThen (w : World) (F : Nat → Prop) (g : Nat) (s : Gs) (th mv : Value) : Prop :=
  match s.ph with
  | .head => ∃ a, th = .func (.func 57) #[] #[.pointer (some ⟨a, 0, none⟩)] ∧ Capt w F g a (.pointer (some ⟨g, 0, none⟩))
  | .look => ∃ a, th = .func (.func 91) #[] #[.pointer (some ⟨a, 0, none⟩)] ∧ Capt w F g a (.pointer (some ⟨g, 0, none⟩))
  | .read typ sz n d ys => ∃ em es eo er ec gc base top v on, th = .func (.func 139) #[] #[.pointer (some ⟨em, 0, none⟩), .pointer (some ⟨es, 0, none⟩), .pointer (some ⟨eo, 0, none⟩)] ∧
      Capt w F g em (.iface 179 (.pointer (some ⟨gc, 0, none⟩))) ∧ Capt w F g es (.pointer (some ⟨g, 3, none⟩)) ∧ Capt w F g eo (.func (.func 145) #[] #[.pointer (some ⟨er, 0, none⟩), .pointer (some ⟨ec, 0, none⟩)]) ∧
      Capt w F g er on ∧ Capt w F g ec (.pointer (some ⟨gc, 0, none⟩)) ∧ GTell w (fun k => F k ∧ ¬ ((base ≤ k ∧ k < top) ∨ v.ownBlock = some k)) g typ sz on ∧
      Cp w base top gc (.rd (s.at_ + 8)) d (n - d) v ys ∧ (∀ k, (base ≤ k ∧ k < top) ∨ v.ownBlock = some k → F k ∧ k ≠ g ∧ k ≠ em ∧ k ≠ es ∧ k ≠ eo ∧ k ≠ er ∧ k ≠ ec ∧ mv.ownBlock ≠ some k)
  | .zero d => ∃ em es eo a gc base top v, th = .func (.func 139) #[] #[.pointer (some ⟨em, 0, none⟩), .pointer (some ⟨es, 0, none⟩), .pointer (some ⟨eo, 0, none⟩)] ∧
      Capt w F g em (.iface 179 (.pointer (some ⟨gc, 0, none⟩))) ∧ Capt w F g es (.pointer (some ⟨g, 3, none⟩)) ∧ Capt w F g eo (.func (.func 121) #[] #[.pointer (some ⟨a, 0, none⟩)]) ∧ Capt w F g a (.pointer (some ⟨g, 0, none⟩)) ∧
      Cp w base top gc (.ze (Rg.spot s.B s.Z s.h)) d (s.dn - d) v [] ∧ (∀ k, (base ≤ k ∧ k < top) ∨ v.ownBlock = some k → F k ∧ k ≠ g ∧ k ≠ em ∧ k ≠ es ∧ k ≠ eo ∧ k ≠ a ∧ mv.ownBlock ≠ some k)
  | .set => th = .func (.func 123) #[] #[]
  | .fin => th = .nilFunc

/-- A get stands in the blocks F, its own block is g; the messages' blocks are M. -/
def GetAt (w : World) (F : Nat → Prop) (g : Nat) (s : Gs) : Prop :=
  ∃ (M : Nat → Prop) (a : Ac) (av th mv : Value), GtBlk w g s a av th mv ∧ F g ∧ s.Ok ∧ s.PhOk ∧ GThen w (fun k => F k ∧ ¬ M k) g s th mv ∧ MsAt M w mv s.ms ∧ (∀ k, M k → F k ∧ k ≠ g) ∧
    (∀ b, s.next = some b → a = b ∧ BytesIn (fun k => F k ∧ ¬ M k ∧ k ≠ g) w av b.bs)

/-- What a call on a get leaves. -/
def GtMoved (F : Nat → Prop) (g : Nat) (s : Gs) (w : World) (e : Ending) (w' : World) : Prop :=
  e = .returned (.tuple #[]) ∧ ∃ F', GetAt w' F' g s ∧ Touch F w w' ∧ ∀ k, F' k → F k ∨ (w.heap.size ≤ k ∧ k < w'.heap.size)

/-- The same, where its own block alone was turned. -/
def GtMovedG (F : Nat → Prop) (g : Nat) (s : Gs) (w : World) (e : Ending) (w' : World) : Prop := GtMoved F g s w e w' ∧ Touch (fun k => k = g) w w'

/-- A get between two accesses: its block, its messages; nothing goes on. -/
structure GtBare (w : World) (F : Nat → Prop) (g : Nat) (s : Gs) (M : Nat → Prop) (mv : Value) : Prop where
  blk : ∃ a av, GtBlk w g s a av .nilFunc mv
  own : F g
  ok : s.Ok
  msgs : MsAt M w mv s.ms
  in_ : ∀ k, M k → F k ∧ k ≠ g ∧ k < w.heap.size

theorem MsAt.keep {K : Nat → Prop} {w w' : World} {mv : Value} {ms : List (Int × List Int)} (h : MsAt K w mv ms) (hs : w.heap.size ≤ w'.heap.size) (hb : ∀ k, K k → w'.heap[k]? = w.heap[k]?) : MsAt K w' mv ms := by
  obtain ⟨vs, h1, h2, h3, h4⟩ := h
  exact ⟨vs, h1, row_of_block h2 fun k hk => hb k (h3 k hk), h3, fun i hi hv => (h4 i hi hv).keep hs fun k hk _ => hb k hk.1⟩
theorem GTell.keep {w w' : World} {F F' : Nat → Prop} {g : Nat} {typ : Int} {sz : Nat} {on : Value} (h : GTell w F g typ sz on) (hb : ∀ k, F k → k ≠ g → w'.heap[k]? = w.heap[k]?) (hF : ∀ k, F k → F' k) : GTell w' F' g typ sz on := by
  obtain ⟨a, b, c, e, h1, h2, h3⟩ := h
  exact ⟨a, b, c, e, (h1.keep hb).mono hF, (h2.keep hb).mono hF, (h3.keep hb).mono hF⟩
theorem GtBare.lt {w : World} {F M : Nat → Prop} {g : Nat} {s : Gs} {mv : Value} (h : GtBare w F g s M mv) : g < w.heap.size := by
  obtain ⟨a, av, hk⟩ := h.blk
  exact hk.lt
theorem GtBare.below {w w' : World} {F M : Nat → Prop} {g : Nat} {s : Gs} {mv : Value} (h : GtBare w F g s M mv) (hb : Below w.heap.size w w') : GtBare w' F g s M mv := by
  obtain ⟨a, av, hk⟩ := h.blk
  exact ⟨⟨a, av, hk.below hb⟩, h.own, h.ok, h.msgs.keep hb.size fun k hk => hb.block k (h.in_ k hk).2.2, fun k hk => ⟨(h.in_ k hk).1, (h.in_ k hk).2.1, Nat.lt_of_lt_of_le (h.in_ k hk).2.2 hb.size⟩⟩
theorem GtBare.wide {w : World} {F F' M : Nat → Prop} {g : Nat} {s : Gs} {mv : Value} (h : GtBare w F g s M mv) (hF : ∀ k, F k → F' k) : GtBare w F' g s M mv := ⟨h.blk, hF g h.own, h.ok, h.msgs, fun k hk => ⟨hF k (h.in_ k hk).1, (h.in_ k hk).2⟩⟩
theorem GtMoved.cells {F : Nat → Prop} {g : Nat} {s : Gs} {w : World} {e : Ending} {w' : World} (h : GtMoved F g s w e w') : w'.cell? ⟨g, 0, none⟩ = some (.int .i64 s.B) ∧ w'.cell? ⟨g, 1, none⟩ = some (.int .i64 s.Z) ∧ w'.cell? ⟨g, 10, none⟩ = some (.int .i64 s.h) ∧ w'.cell? ⟨g, 11, none⟩ = some (.int .i64 s.dn) := by
  obtain ⟨_, F', ⟨M, a, av, th, mv, hb, _⟩, _⟩ := h
  exact ⟨hb.c0, hb.c1, hb.c10, hb.c11⟩
theorem GtBare.withPh {w : World} {F M : Nat → Prop} {g : Nat} {s : Gs} {mv : Value} (h : GtBare w F g s M mv) (ph : Gh) : GtBare w F g { s with ph := ph } M mv := by
  obtain ⟨a, av, hk⟩ := h.blk
  exact ⟨⟨a, av, hk⟩, h.own, h.ok.withPh ph, h.msgs, h.in_⟩

/-- An access without bytes was asked for. -/
theorem gt_put {w w' : World} {F M : Nat → Prop} {g : Nat} {s : Gs} {mv : Value} (h : GtBare w F g s M mv) (ph : Gh) {b : Ac} {th : Value} (hT : Touch (fun k => k = g) w w') (hb : GtBlk w' g s b (.slice none 0 0) th mv) (hnext : ({ s with ph := ph } : Gs).next = some b) (hbs : b.bs = []) (hph : ({ s with ph := ph } : Gs).PhOk)
    (hth : GThen w' (fun k => (F k ∨ (w.heap.size ≤ k ∧ k < w'.heap.size)) ∧ ¬ M k) g { s with ph := ph } th mv) : GtMoved F g { s with ph := ph } w (.returned (.tuple #[])) w' := by
  refine ⟨rfl, fun k => F k ∨ (w.heap.size ≤ k ∧ k < w'.heap.size), ⟨M, b, _, th, mv, hb, .inl h.own, h.ok.withPh ph, hph, hth, h.msgs.keep hT.size fun k hk => hT.block k (h.in_ k hk).2.2 (h.in_ k hk).2.1, fun k hk => ⟨.inl (h.in_ k hk).1, (h.in_ k hk).2.1⟩, fun b' hb' => ?_⟩, hT.mono fun k e => by have e : k = g := e; rw [e]; exact h.own, fun k hk => hk⟩
  rw [hnext] at hb'
  injection hb' with hb'
  subst hb'
  refine ⟨rfl, ?_⟩
  rw [hbs]
  exact BytesIn.none _ _

/-- Nothing goes on. -/
theorem gt_done {w w' : World} {F M : Nat → Prop} {g : Nat} {s : Gs} {mv : Value} (h : GtBare w' F g s M mv) (hT : Touch F w w') (e : s.ph = .fin) : GtMoved F g s w (.returned (.tuple #[])) w' := by
  obtain ⟨a, av, hk⟩ := h.blk
  refine ⟨rfl, F, ⟨M, a, av, .nilFunc, mv, hk, h.own, h.ok, ?_, ?_, h.msgs, fun k hk => ⟨(h.in_ k hk).1, (h.in_ k hk).2.1⟩, fun b hb => ?_⟩, hT, fun k hk => .inl hk⟩
  · unfold Gs.PhOk; rw [e]; trivial
  · unfold GThen; rw [e]
  · unfold Gs.next at hb; rw [e] at hb; cases hb

theorem GtMoved.afterT {F : Nat → Prop} {g : Nat} {s : Gs} {w W : World} {e : Ending} {w' : World} (h : GtMoved F g s W e w') (ht : Touch F w W) : GtMoved F g s w e w' := by
  obtain ⟨he, F', hp, ht2, hF⟩ := h
  exact ⟨he, F', hp, ht.trans ht2, fun k hk => (hF k hk).imp id fun h => ⟨Nat.le_trans ht.size h.1, h.2⟩⟩
end Go.Proofs.YtikcnioooihncaaGreat
namespace Go.Proofs.YtikcnioooihncaaGreat
open Go.RowKit

set_option maxRecDepth 100000 in
set_option maxHeartbeats 800000 in
theorem gtBegin {w : World} {F M : Nat → Prop} {g : Nat} {s : Gs} {mv : Value} (h : GtBare w F g s M mv) (hd0 : s.dn = 0) :
    Calls Tryz.prog 30 #[.pointer (some ⟨g, 0, none⟩)] w (GtMoved F g { s with ph := .head } w) := by
  obtain ⟨a, av, hblk⟩ := h.blk
  have hgl := hblk.lt
  have HH := Lib.hid h
  have HB := Lib.hid hblk
  have hb0 := (Below.refl w.heap.size w).alloc (Nat.le_refl _) (.cells #[.pointer (some ⟨g, 0, none⟩)] 27)
  have hbox := rp_box w (.pointer (some ⟨g, 0, none⟩)) 27
  have hsz : (w.alloc (.cells #[.pointer (some ⟨g, 0, none⟩)] 27)).heap.size = w.heap.size + 1 := by simp
  have c0 := (hb0.cell (p := ⟨g, 0, none⟩) hgl).trans hblk.c0
  have c1 := (hb0.cell (p := ⟨g, 1, none⟩) hgl).trans hblk.c1
  have HW := Lib.hid hb0
  have HD := Lib.hid hd0
  clear h hblk hb0 hd0
  go_enter Tryz.func30, Tryz.ntmps30
  go_upto_region 1 with (fail)
  generalize w.alloc (.cells #[.pointer (some ⟨g, 0, none⟩)] 27) = W at hbox HW hsz c0 c1 ⊢
  have hga : ¬ w.heap.size = g := by omega
  have hla : w.heap.size < W.heap.size := by omega
  have hgW : g < W.heap.size := by omega
  clear hsz
  go_region_held3 (fun w' => w'.cell? ⟨w.heap.size, 0, none⟩ = some (.pointer (some ⟨g, 0, none⟩)) ∧ w'.cell? ⟨g, 0, none⟩ = some (.int .i64 s.B) ∧ w'.cell? ⟨g, 1, none⟩ = some (.int .i64 s.Z)) (go_keep)
    (first
      | (go_at_call 54; refine (gtDo (HB.out.below hbl) ⟨1, Rg.num s.B s.Z 16, 8, 0, 0, []⟩ none 0 0 57 #[] #[.pointer (some ⟨w.heap.size, 0, none⟩)]).mono ?_; intro e wd has; have HAS := Lib.hid has; obtain ⟨rfl, hblkd, htd⟩ := has; have kd := (htd.cell (p := ⟨w.heap.size, 0, none⟩) (lt_of_cell k2) hga).trans k2; have o0d := hblkd.c0; have o1d := hblkd.c1; clear hblkd)
      | (go_at_call 55; refine (stLoad (Rg.num s.B s.Z 16) _).mono ?_; rintro e x2 ⟨rfl, hq2⟩; have hb2 := hb1.trans (hq2.mono hb1.size); have k2 := (hb2.cell (p := ⟨w.heap.size, 0, none⟩) hla).trans hbox; have o02 := (hb2.cell (p := ⟨g, 0, none⟩) hgW).trans c0; have o12 := (hb2.cell (p := ⟨g, 1, none⟩) hgW).trans c1; have hbl := HW.out.trans (hb2.mono HW.out.size))
      | (go_at_call 56; refine (rgHead HH.out.ok.rg _).mono ?_; rintro e x1 ⟨rfl, hq1⟩; have hb1 := below_drew hq1; have k1 := (hb1.cell (p := ⟨w.heap.size, 0, none⟩) hla).trans hbox; have o01 := (hb1.cell (p := ⟨g, 0, none⟩) hgW).trans c0; have o11 := (hb1.cell (p := ⟨g, 1, none⟩) hgW).trans c1))
  all_goals
    go_wp2
    go_end0
    obtain ⟨_, hbk, hT⟩ := HAS.out
    exact gt_put HH.out .head ((Touch.of_below hbl).trans hT) hbk rfl rfl HD.out ⟨w.heap.size, rfl, ⟨.inr ⟨Nat.le_refl _, lt_of_cell kd⟩, fun hM => absurd (HH.out.in_ _ hM).2.2 (Nat.lt_irrefl _)⟩, hga, kd⟩

set_option maxRecDepth 100000 in
set_option maxHeartbeats 800000 in
theorem gtLeft {w : World} {g : Nat} {s : Gs} {a : Ac} {av th mv : Value} (h : GtBlk w g s a av th mv) (ok : s.Ok) :
    Calls Tryz.prog 88 #[.pointer (some ⟨g, 0, none⟩)] w (Made (.int .i64 s.left) w) := by
  have hgl := h.lt
  have c0 := h.c0
  have c1 := h.c1
  have c10 := h.c10
  have c11 := h.c11
  have hp := ok.rg.place_in s.h
  have hz := ok.rg.z1
  have hd := ok.dn0
  have e1 : IntKind.i64.wrap ((s.Z : Int) - Rg.place s.Z s.h) = (s.Z : Int) - Rg.place s.Z s.h := IntWalk.i64_in _ (by omega)
  have e2 : IntKind.i64.wrap ((s.Z : Int) - Rg.place s.Z s.h - (s.dn : Int)) = (s.Z : Int) - Rg.place s.Z s.h - s.dn := IntWalk.i64_in _ (by omega)
  have HO := Lib.hid ok
  have HW := Lib.hid (Below.refl w.heap.size w)
  clear h hp hz hd ok
  go_enter Tryz.func88, Tryz.ntmps88
  go_upto_region 1 with (fail)
  go_region_held3 (fun w' => w'.cell? ⟨g, 0, none⟩ = some (.int .i64 s.B) ∧ w'.cell? ⟨g, 1, none⟩ = some (.int .i64 s.Z) ∧ w'.cell? ⟨g, 10, none⟩ = some (.int .i64 s.h) ∧ w'.cell? ⟨g, 11, none⟩ = some (.int .i64 s.dn)) (go_keep)
    (first
      | (go_at_call 117; refine (rgPlace HO.out.rg s.h _).mono ?_; rintro e x1 ⟨rfl, hq1⟩; have hb1 := below_drew hq1; have o01 := (hb1.cell (p := ⟨g, 0, none⟩) hgl).trans c0; have o11 := (hb1.cell (p := ⟨g, 1, none⟩) hgl).trans c1; have oa1 := (hb1.cell (p := ⟨g, 10, none⟩) hgl).trans c10; have ob1 := (hb1.cell (p := ⟨g, 11, none⟩) hgl).trans c11))
  all_goals
    go_wp2
    go_ret
    exact ⟨by first | rfl | (unfold Gs.left; simp_all), hb1⟩

set_option maxRecDepth 100000 in
set_option maxHeartbeats 800000 in
theorem gtAt {w : World} {g : Nat} {s : Gs} {a : Ac} {av th mv : Value} (h : GtBlk w g s a av th mv) (ok : s.Ok) :
    Calls Tryz.prog 90 #[.pointer (some ⟨g, 0, none⟩)] w (Made (.int .i64 s.at_) w) := by
  have hgl := h.lt
  have c0 := h.c0
  have c1 := h.c1
  have c10 := h.c10
  have c11 := h.c11
  have hp := ok.rg.place_in s.h
  have hz := ok.rg.z1
  have hb := ok.rg.b1
  have hd := ok.dn0
  have e2 : IntKind.i64.wrap (Rg.spot s.B s.Z s.h + (s.dn : Int)) = Rg.spot s.B s.Z s.h + s.dn := IntWalk.i64_in _ (by unfold Rg.spot; omega)
  have HO := Lib.hid ok
  clear h hp hz hd hb ok
  go_enter Tryz.func90, Tryz.ntmps90
  go_upto_region 1 with (fail)
  go_region_held3 (fun w' => w'.cell? ⟨g, 0, none⟩ = some (.int .i64 s.B) ∧ w'.cell? ⟨g, 1, none⟩ = some (.int .i64 s.Z) ∧ w'.cell? ⟨g, 10, none⟩ = some (.int .i64 s.h) ∧ w'.cell? ⟨g, 11, none⟩ = some (.int .i64 s.dn)) (go_keep)
    (first
      | (go_at_call 120; refine (rgAt HO.out.rg s.h _).mono ?_; rintro e x1 ⟨rfl, hq1⟩; have hb1 := below_drew hq1; have o01 := (hb1.cell (p := ⟨g, 0, none⟩) hgl).trans c0; have o11 := (hb1.cell (p := ⟨g, 1, none⟩) hgl).trans c1; have oa1 := (hb1.cell (p := ⟨g, 10, none⟩) hgl).trans c10; have ob1 := (hb1.cell (p := ⟨g, 11, none⟩) hgl).trans c11))
  all_goals
    go_wp2
    go_ret
    exact ⟨by first | rfl | (unfold Gs.at_; simp_all), hb1⟩
end Go.Proofs.YtikcnioooihncaaGreat
namespace Go.Proofs.YtikcnioooihncaaGreat
open Go.RowKit

set_option maxRecDepth 100000 in
set_option maxHeartbeats 1600000 in
theorem gtDrain1 {w : World} {F M : Nat → Prop} {g : Nat} {s : Gs} {mv : Value} (h : GtBare w F g s M mv) {a : Nat} (ha : w.cell? ⟨a, 0, none⟩ = some (.pointer (some ⟨g, 0, none⟩))) (hag : a ≠ g) :
    Calls Tryz.prog 121 #[.pointer (some ⟨a, 0, none⟩)] w (GtMovedG F g { s with ph := .set } w) := by
  obtain ⟨b, av, hblk⟩ := h.blk
  have hgl := hblk.lt
  have hla := lt_of_cell ha
  have HH := Lib.hid h
  have HB := Lib.hid hblk
  have c0 := hblk.c0
  have c1 := hblk.c1
  have c10 := hblk.c10
  have c11 := hblk.c11
  have hga : ¬ a = g := hag
  have hmf : ∀ (fn : Fn) (first cap : Array Value) (w : World), (Instr.makeFunc fn first cap).run Tryz.prog w = .ok (.func fn first cap) w := fun _ _ _ _ => rfl
  obtain ⟨V, hV⟩ : ∃ V, V = Rs.un (Rs.wr (s.h + (s.dn : Int))) := ⟨_, rfl⟩
  have hu : IntKind.u64.wrap (IntKind.i64.wrap (s.h + (s.dn : Int))) = ((V : Nat) : Int) := by rw [IntWalk.i64_left, hV]; exact un_wrap _
  have HV := Lib.hid hV
  clear h hblk hag hV
  go_enter Tryz.func121, Tryz.ntmps121
  go_region_held3 (fun w' => w'.cell? ⟨a, 0, none⟩ = some (.pointer (some ⟨g, 0, none⟩)) ∧ w'.cell? ⟨g, 0, none⟩ = some (.int .i64 s.B) ∧ w'.cell? ⟨g, 1, none⟩ = some (.int .i64 s.Z) ∧ w'.cell? ⟨g, 10, none⟩ = some (.int .i64 s.h) ∧ w'.cell? ⟨g, 11, none⟩ = some (.int .i64 s.dn)) (go_keep)
    (first
      | (go_at_call 54; refine (gtDo (HB.out.below hbl) ⟨2, Rg.num s.B s.Z 16, 8, V, 0, []⟩ none 0 0 123 #[] #[]).mono ?_; intro e wd has; have HAS := Lib.hid has; obtain ⟨rfl, hblkd, htd⟩ := has; have kd := (htd.cell (p := ⟨a, 0, none⟩) (lt_of_cell k2) hga).trans k2; have o0d := hblkd.c0; have o1d := hblkd.c1; have oad := hblkd.c10; have obd := hblkd.c11; clear hblkd)
      | (go_at_call 122; refine (stSet (Rg.num s.B s.Z 16) V _).mono ?_; rintro e x2 ⟨rfl, hq2⟩; have hbl := hb1.trans (hq2.mono hb1.size); have k2 := (hbl.cell (p := ⟨a, 0, none⟩) hla).trans ha; have o02 := (hbl.cell (p := ⟨g, 0, none⟩) hgl).trans c0; have o12 := (hbl.cell (p := ⟨g, 1, none⟩) hgl).trans c1; have oa2 := (hbl.cell (p := ⟨g, 10, none⟩) hgl).trans c10; have ob2 := (hbl.cell (p := ⟨g, 11, none⟩) hgl).trans c11)
      | (go_at_call 56; refine (rgHead HH.out.ok.rg _).mono ?_; rintro e x1 ⟨rfl, hq1⟩; have hb1 := below_drew hq1; have k1 := (hb1.cell (p := ⟨a, 0, none⟩) hla).trans ha; have o01 := (hb1.cell (p := ⟨g, 0, none⟩) hgl).trans c0; have o11 := (hb1.cell (p := ⟨g, 1, none⟩) hgl).trans c1; have oa1 := (hb1.cell (p := ⟨g, 10, none⟩) hgl).trans c10; have ob1 := (hb1.cell (p := ⟨g, 11, none⟩) hgl).trans c11))
  all_goals
    go_wp2
    go_end0
    obtain ⟨_, hbk, hT⟩ := HAS.out
    exact ⟨gt_put HH.out .set ((Touch.of_below hbl).trans hT) hbk (by show some (⟨2, Rg.num s.B s.Z 16, 8, Rs.un (Rs.wr (s.h + s.dn)), 0, []⟩ : Ac) = _; rw [HV.out]) rfl trivial rfl, (Touch.of_below hbl).trans hT⟩

set_option maxRecDepth 100000 in
theorem gtDrain11 (V : Nat) (D : Bool) (A : Option Addr) (L cp : Nat) (w : World) :
    Calls Tryz.prog 123 #[.agg #[.int .u64 V, .bool D, .slice A L cp]] w (fun e w' => e = .returned (.tuple #[]) ∧ Below w.heap.size w w') := by
  have HW := Lib.hid ((Below.refl w.heap.size w).alloc (Nat.le_refl _) (.cells #[.int .u64 V, .bool D, .slice A L cp] 25))
  go_enter Tryz.func123, Tryz.ntmps123
  go_wp2
  go_end0
  exact ⟨rfl, HW.out⟩

theorem gt_enterD (a : Nat) (w : World) : (callFunc 121 #[.pointer (some ⟨a, 0, none⟩)]).run Tryz.prog w = .ok (.enter 121 #[.pointer (some ⟨a, 0, none⟩)]) w := by
  simp [go_sem]

theorem GtMovedG.after {F : Nat → Prop} {g : Nat} {s : Gs} {w W : World} {e : Ending} {w' : World} (h : GtMovedG F g s W e w') (hb : Below w.heap.size w W) : GtMovedG F g s w e w' := ⟨by
  obtain ⟨he, F', hp, ht2, hF⟩ := h.1
  exact ⟨he, F', hp, (Touch.of_below hb).trans ht2, fun k hk => (hF k hk).imp id fun h => ⟨Nat.le_trans hb.size h.1, h.2⟩⟩, (Touch.of_below hb).trans h.2⟩
theorem GtMoved.after {F : Nat → Prop} {g : Nat} {s : Gs} {w W : World} {e : Ending} {w' : World} (h : GtMoved F g s W e w') (hb : Below w.heap.size w W) : GtMoved F g s w e w' := h.afterT (Touch.of_below hb)

/-- What the zeros' end and its next part lead to. -/
def Gs.zeros (s : Gs) (d : Nat) : Gs := if d = s.dn then { s with ph := .set } else { s with ph := .zero d }

set_option maxHeartbeats 800000 in
/-- The zeros are followed: the next part is asked for, or the head's store. -/
theorem gtZeros {w : World} {F M : Nat → Prop} {g : Nat} {s : Gs} {mv : Value} (h : GtBare w F g s M mv) (hF : ∀ k, F k → k < w.heap.size) {a : Nat} (ha : Capt w (fun k => F k ∧ ¬ M k) g a (.pointer (some ⟨g, 0, none⟩))) {base top gc d : Nat} {v : Value}
    (hc : Cp w base top gc (.ze (Rg.spot s.B s.Z s.h)) d (s.dn - d) v []) (hd : d ≤ s.dn) (hsep : ∀ k, (base ≤ k ∧ k < top) ∨ v.ownBlock = some k → (F k ∧ ¬ M k) ∧ k ≠ g ∧ k ≠ a ∧ mv.ownBlock ≠ some k) :
    Calls Tryz.prog 118 #[.pointer (some ⟨g, 3, none⟩), .iface 179 (.pointer (some ⟨gc, 0, none⟩)), .func (.func 121) #[] #[.pointer (some ⟨a, 0, none⟩)]] w (GtMovedG F g (s.zeros d) w) := by
  unfold Gs.zeros
  by_cases hl : d = s.dn
  · rw [if_pos hl]
    have hz : s.dn - d = 0 := by omega
    rw [hz] at hc
    refine (stFollowNo hc g 3 (Q := fun w' => GtMovedG F g { s with ph := .set } w (.returned (.tuple #[])) w') #[.pointer (some ⟨a, 0, none⟩)] (by simp) (gt_enterD a) fun W hW => ?_).mono ?_
    · refine (gtDrain1 (h.below hW) ((hW.cell (p := ⟨a, 0, none⟩) (lt_of_cell ha.2.2)).trans ha.2.2) ha.2.1).mono ?_
      intro e w' hm
      have hm2 := hm.after hW
      obtain ⟨⟨rfl, _⟩, _⟩ := hm
      exact ⟨rfl, hm2⟩
    · rintro e w' ⟨rfl, hm⟩
      exact hm
  · rw [if_neg hl]
    obtain ⟨a0, av, hblk⟩ := h.blk
    refine (stFollowYes hc (by omega) hblk.st 121 #[] #[.pointer (some ⟨a, 0, none⟩)]).mono ?_
    rintro e w' ⟨rfl, W, A, l, cp, hW, ho, k0, k1, k2, rfl⟩
    have hgl := hblk.lt
    have hs := (seven_touch1 W g 3 ⟨6, Rg.spot s.B s.Z s.h + (d : Nat), (Cy.nx (s.dn - d) : Nat), 0, 0, Mb.bl (fun _ => 0) d (Cy.nx (s.dn - d))⟩ (.slice A l cp) (.func (.func 139) #[] #[.pointer (some ⟨w.heap.size + 1, 0, none⟩), .pointer (some ⟨w.heap.size, 0, none⟩), .pointer (some ⟨w.heap.size + 2, 0, none⟩)]))
    have hbk := gt_seven (hblk.below hW) ⟨6, Rg.spot s.B s.Z s.h + (d : Nat), (Cy.nx (s.dn - d) : Nat), 0, 0, Mb.bl (fun _ => 0) d (Cy.nx (s.dn - d))⟩ (.slice A l cp) (.func (.func 139) #[] #[.pointer (some ⟨w.heap.size + 1, 0, none⟩), .pointer (some ⟨w.heap.size, 0, none⟩), .pointer (some ⟨w.heap.size + 2, 0, none⟩)])
    have hbi := (BytesIn.of_own ho).lt
    show GtMovedG F g { s with ph := .zero d } w (.returned (.tuple #[])) (seven W g 3 ⟨6, Rg.spot s.B s.Z s.h + (d : Nat), (Cy.nx (s.dn - d) : Nat), 0, 0, Mb.bl (fun _ => 0) d (Cy.nx (s.dn - d))⟩ (.slice A l cp) (.func (.func 139) #[] #[.pointer (some ⟨w.heap.size + 1, 0, none⟩), .pointer (some ⟨w.heap.size, 0, none⟩), .pointer (some ⟨w.heap.size + 2, 0, none⟩)]))
    generalize seven W g 3 ⟨6, Rg.spot s.B s.Z s.h + (d : Nat), (Cy.nx (s.dn - d) : Nat), 0, 0, Mb.bl (fun _ => 0) d (Cy.nx (s.dn - d))⟩ (.slice A l cp) (.func (.func 139) #[] #[.pointer (some ⟨w.heap.size + 1, 0, none⟩), .pointer (some ⟨w.heap.size, 0, none⟩), .pointer (some ⟨w.heap.size + 2, 0, none⟩)]) = w2 at hs hbk ⊢
    have l0 := lt_of_cell k0
    have l1 := lt_of_cell k1
    have l2 := lt_of_cell k2
    have hws := hW.size
    have hs2 := hs.size
    have hne0 : w.heap.size ≠ g := by omega
    have hne1 : w.heap.size + 1 ≠ g := by omega
    have hne2 : w.heap.size + 2 ≠ g := by omega
    have hk : ∀ k, k ≠ g → k < W.heap.size → w2.heap[k]? = W.heap[k]? := fun k hg hl => hs.block k hl hg
    have hFk : ∀ k, F k → k ≠ g → w2.heap[k]? = w.heap[k]? := fun k hkF hkg => (hk k hkg (Nat.lt_of_lt_of_le (hF k hkF) hws)).trans (hW.block k (hF k hkF))
    have hMl : ∀ k, M k → k < w.heap.size := fun k hk => (h.in_ k hk).2.2
    refine ⟨⟨rfl, fun k => F k ∨ (w.heap.size ≤ k ∧ k < w2.heap.size), ⟨M, _, _, _, mv, hbk, .inl h.own, h.ok.withPh _, show d < s.dn by omega, ?_, h.msgs.keep (Nat.le_trans hws hs2) fun k hk => hFk k (h.in_ k hk).1 (h.in_ k hk).2.1, fun k hk => ⟨.inl (h.in_ k hk).1, (h.in_ k hk).2.1⟩, fun b hb => ?_⟩, ((Touch.of_below hW).trans hs).mono fun k e => by have e : k = g := e; rw [e]; exact h.own, fun k hk => hk⟩, (Touch.of_below hW).trans hs⟩
    · refine ⟨w.heap.size + 1, w.heap.size, w.heap.size + 2, a, gc, base, top, v, rfl, ⟨⟨.inr ⟨by omega, by omega⟩, fun hm => by have := hMl _ hm; omega⟩, hne1, (World.cell?_of_block (w := W) (a := ⟨w.heap.size + 1, 0, none⟩) (hk _ hne1 l1)).trans k1⟩, ⟨⟨.inr ⟨by omega, by omega⟩, fun hm => by have := hMl _ hm; omega⟩, hne0, (World.cell?_of_block (w := W) (a := ⟨w.heap.size, 0, none⟩) (hk _ hne0 l0)).trans k0⟩, ⟨⟨.inr ⟨by omega, by omega⟩, fun hm => by have := hMl _ hm; omega⟩, hne2, (World.cell?_of_block (w := W) (a := ⟨w.heap.size + 2, 0, none⟩) (hk _ hne2 l2)).trans k2⟩, (ha.keep fun k hk hkg => hFk k hk.1 hkg).mono fun k hk => ⟨.inl hk.1, hk.2⟩, ?_, fun k hk2 => ?_⟩
      · refine hc.keep (Nat.le_trans hws hs2) (fun k h1 h2 => ?_) fun k h1 => ?_
        · have := hsep k (.inl ⟨h1, h2⟩)
          exact hFk k this.1.1 this.2.1
        · have := hsep k (.inr h1)
          exact hFk k this.1.1 this.2.1
      · have h5 := hsep k hk2
        have h6 := hF k h5.1.1
        exact ⟨⟨.inl h5.1.1, h5.1.2⟩, h5.2.1, by omega, by omega, by omega, h5.2.2.1, h5.2.2.2⟩
    · have hb' : some (⟨6, Rg.spot s.B s.Z s.h + (d : Nat), (Cy.nx (s.dn - d) : Nat), 0, 0, Mb.bl (fun _ => 0) d (Cy.nx (s.dn - d))⟩ : Ac) = some b := hb
      injection hb' with hb'
      subst hb'
      refine ⟨rfl, (hbi.keep hs2 fun k h1 hl => hk k (by have := h1.1; omega) hl).mono fun k h1 _ => ⟨.inr ⟨by have := h1.1; omega, Nat.lt_of_lt_of_le h1.2 hs2⟩, fun hm => by have := hMl _ hm; have := h1.1; omega, by have := h1.1; omega⟩⟩
end Go.Proofs.YtikcnioooihncaaGreat
namespace Go.Proofs.YtikcnioooihncaaGreat
open Go.RowKit

/-- What a call leaves that turned blocks of the get alone: in the sense of what went on before. -/
theorem GtMoved.around {F F2 : Nat → Prop} {g : Nat} {s : Gs} {w W : World} {e : Ending} {w' : World} (h : GtMoved F2 g s W e w') (ht : Touch F w W) (hF : ∀ k, F2 k → F k ∨ (w.heap.size ≤ k ∧ k < W.heap.size)) : GtMoved F g s w e w' := by
  obtain ⟨he, F', hp, ht2, hF'⟩ := h
  refine ⟨he, F', hp, ⟨ht2.os.trans ht.os, ht2.tape.trans ht.tape, ht2.output.trans ht.output, Nat.le_trans ht.size ht2.size, fun k hk hn => (ht2.block k (Nat.lt_of_lt_of_le hk ht.size) fun e => ?_).trans (ht.block k hk hn)⟩, fun k hk => ?_⟩
  · rcases hF k e with e | e
    · exact hn e
    · omega
  · rcases hF' k hk with e | e
    · exact (hF k e).imp id fun e => ⟨e.1, Nat.lt_of_lt_of_le e.2 ht2.size⟩
    · exact .inr ⟨Nat.le_trans ht.size e.1, e.2⟩

/-- Blocks of the get were turned, none of its own and none of the messages'. -/
theorem GtBare.turn {w W : World} {F M K : Nat → Prop} {g : Nat} {s : Gs} {mv : Value} (h : GtBare w F g s M mv) (ht : Touch K w W) (hg : ¬ K g) (hM : ∀ k, M k → ¬ K k) : GtBare W (fun k => F k ∨ (w.heap.size ≤ k ∧ k < W.heap.size)) g s M mv := by
  obtain ⟨a, av, hk⟩ := h.blk
  exact ⟨⟨a, av, hk.of_block (ht.block g hk.lt hg)⟩, .inl h.own, h.ok, h.msgs.keep ht.size fun k hk => ht.block k (h.in_ k hk).2.2 (hM k hk), fun k hk => ⟨.inl (h.in_ k hk).1, (h.in_ k hk).2.1, Nat.lt_of_lt_of_le (h.in_ k hk).2.2 ht.size⟩⟩

set_option maxHeartbeats 800000 in
/-- A part of the zeros was stored: the next one, or the head. -/
theorem gtZeros1 {w : World} {F M : Nat → Prop} {g : Nat} {s : Gs} {mv : Value} (h : GtBare w F g s M mv) (hF : ∀ k, F k → k < w.heap.size) {em es eo a gc base top d : Nat} {v : Value}
    (hm : Capt w (fun k => F k ∧ ¬ M k) g em (.iface 179 (.pointer (some ⟨gc, 0, none⟩)))) (hs : Capt w (fun k => F k ∧ ¬ M k) g es (.pointer (some ⟨g, 3, none⟩))) (ho : Capt w (fun k => F k ∧ ¬ M k) g eo (.func (.func 121) #[] #[.pointer (some ⟨a, 0, none⟩)])) (ha : Capt w (fun k => F k ∧ ¬ M k) g a (.pointer (some ⟨g, 0, none⟩)))
    (hc : Cp w base top gc (.ze (Rg.spot s.B s.Z s.h)) d (s.dn - d) v []) (hsep : ∀ k, (base ≤ k ∧ k < top) ∨ v.ownBlock = some k → (F k ∧ ¬ M k) ∧ k ≠ g ∧ k ≠ em ∧ k ≠ es ∧ k ≠ eo ∧ k ≠ a ∧ mv.ownBlock ≠ some k) (hd : d < s.dn)
    (V : Nat) (D : Bool) (A : Option Addr) (L cp : Nat) {zs : List Int} (hz : BytesAt w (.slice A L cp) zs) :
    Calls Tryz.prog 139 #[.agg #[.int .u64 V, .bool D, .slice A L cp], .pointer (some ⟨em, 0, none⟩), .pointer (some ⟨es, 0, none⟩), .pointer (some ⟨eo, 0, none⟩)] w (GtMoved F g (s.zeros (d + Cy.nx (s.dn - d))) w) := by
  have hmine : ∀ k, Mine gc v k → (F k ∧ ¬ M k) ∧ k ≠ g ∧ k ≠ em ∧ k ≠ es ∧ k ≠ eo ∧ k ≠ a ∧ mv.ownBlock ≠ some k := fun k hk => by
    rcases hk with hk | hk
    · exact hsep k (.inl ⟨hk ▸ hc.above, hk ▸ hc.under⟩)
    · exact hsep k (.inr hk)
  have hnl := Cy.nx_le (s.dn - d)
  refine (stFollow1 hc (by omega) hm.2.2 hs.2.2 ho.2.2 (fun e => (hmine _ e).2.2.1 rfl) (fun e => (hmine _ e).2.2.2.1 rfl) (fun e => (hmine _ e).2.2.2.2.1 rfl) V D A L cp hz (fun e => by cases e) (Q := fun w' => GtMoved F g (s.zeros (d + Cy.nx (s.dn - d))) w (.returned (.tuple #[])) w') fun W v' hc' ht' hl' => ?_).mono ?_
  · have hTF : Touch F w W := ht'.mono fun k hk => (hmine k hk).1.1
    have hb := h.turn ht' (fun e => (hmine g e).2.1 rfl) fun k hk e => (hmine k e).1.2 hk
    have ha' : Capt W (fun k => (F k ∨ (w.heap.size ≤ k ∧ k < W.heap.size)) ∧ ¬ M k) g a (.pointer (some ⟨g, 0, none⟩)) :=
      ⟨⟨.inl ha.1.1, ha.1.2⟩, ha.2.1, (World.cell?_of_block (w := w) (a := ⟨a, 0, none⟩) (ht'.block a (hF a ha.1.1) fun e => (hmine a e).2.2.2.2.2.1 rfl)).trans ha.2.2⟩
    have hsub : s.dn - d - Cy.nx (s.dn - d) = s.dn - (d + Cy.nx (s.dn - d)) := by omega
    rw [hsub] at hc'
    have la := hF a ha.1.1
    have hgl := h.lt
    have hml : ∀ k, M k → k < w.heap.size := fun k hk => (h.in_ k hk).2.2
    have hvl : ∀ k, mv.ownBlock = some k → k < w.heap.size := fun k hk => by
      obtain ⟨vs, _, hr, _, _⟩ := h.msgs
      exact (row_lt hr hk).2
    refine (gtZeros hb (fun k hk => hk.elim (fun hk => Nat.lt_of_lt_of_le (hF k hk) ht'.size) fun hk => hk.2) ha' (show Cp W base top gc (.ze (Rg.spot s.B s.Z s.h)) (d + Cy.nx (s.dn - d)) (s.dn - (d + Cy.nx (s.dn - d))) v' [] from hc') (by omega) fun k hk => ?_).mono fun e w' hm => ?_
    · have key : ((F k ∧ ¬ M k) ∧ k ≠ g ∧ k ≠ em ∧ k ≠ es ∧ k ≠ eo ∧ k ≠ a ∧ mv.ownBlock ≠ some k) ∨ (w.heap.size ≤ k ∧ k < W.heap.size) := by
        rcases hk with hk | hk
        · exact .inl (hsep k (.inl hk))
        · rcases hl' k hk with e | e
          · exact .inl (hsep k (.inr e))
          · exact .inr ⟨e, (hc'.own.ge hk).2⟩
      rcases key with h5 | h5
      · exact ⟨⟨.inl h5.1.1, h5.1.2⟩, h5.2.1, h5.2.2.2.2.2.1, h5.2.2.2.2.2.2⟩
      · exact ⟨⟨.inr h5, fun e => by have := hml k e; omega⟩, by omega, by omega, fun e => by have := hvl k e; omega⟩
    · have h6 := hm.1.around hTF fun k hk => hk
      obtain ⟨⟨rfl, _⟩, _⟩ := hm
      exact ⟨rfl, h6⟩
  · rintro e w' ⟨rfl, hm⟩
    exact hm

set_option maxRecDepth 100000 in
set_option maxHeartbeats 800000 in
theorem gtDrainNo {w : World} {F M : Nat → Prop} {g : Nat} {s : Gs} {mv : Value} (h : GtBare w F g s M mv) (hd : s.dn = 0) :
    Calls Tryz.prog 89 #[.pointer (some ⟨g, 0, none⟩)] w (GtMoved F g { s with ph := .fin } w) := by
  obtain ⟨a, av, hblk⟩ := h.blk
  have hgl := hblk.lt
  have HH := Lib.hid h
  have hb0 := (Below.refl w.heap.size w).alloc (Nat.le_refl _) (.cells #[.pointer (some ⟨g, 0, none⟩)] 27)
  have hbox := rp_box w (.pointer (some ⟨g, 0, none⟩)) 27
  have c11 := (hb0.cell (p := ⟨g, 11, none⟩) hgl).trans hblk.c11
  rw [hd] at c11
  have HW := Lib.hid hb0
  clear h hblk hb0 hd
  go_enter Tryz.func89, Tryz.ntmps89
  go_upto_region 1 with (fail)
  generalize w.alloc (.cells #[.pointer (some ⟨g, 0, none⟩)] 27) = W at hbox HW c11 ⊢
  go_wp2
  go_end0
  exact gt_done ((HH.out.below HW.out).withPh .fin) (Touch.of_below HW.out) rfl

theorem gt_few {w : World} {base top gc n : Nat} {m : Nat} {kd : Kd} {v : Value} {ys : List Int} (e : Cy.few (n : Int) = m) (h : Cp w base top gc kd 0 (Cy.few (n : Int)) v ys) : Cp w base top gc kd 0 (m - 0) v ys := by
  rw [Nat.sub_zero, ← e]
  exact h
theorem gt_sepZ {w : World} {F M : Nat → Prop} {g : Nat} {s : Gs} {mv : Value} (h : GtBare w F g s M mv) {b t : Nat} (hb : w.heap.size < b) :
    ∀ k, (b ≤ k ∧ k < t) ∨ (Value.slice none 0 0).ownBlock = some k → ((F k ∨ (w.heap.size ≤ k ∧ k < t)) ∧ ¬ M k) ∧ k ≠ g ∧ k ≠ w.heap.size ∧ mv.ownBlock ≠ some k := fun k hk => by
  rcases hk with ⟨h1, h2⟩ | h1
  · have hgl := h.lt
    refine ⟨⟨.inr ⟨by omega, h2⟩, fun e => by have := (h.in_ k e).2.2; omega⟩, by omega, by omega, fun e => ?_⟩
    obtain ⟨vs, _, hr, _, _⟩ := h.msgs
    have := (row_lt hr e).2
    omega
  · cases h1

set_option maxRecDepth 100000 in
set_option maxHeartbeats 1600000 in
theorem gtDrainYes {w : World} {F M : Nat → Prop} {g : Nat} {s : Gs} {mv : Value} (h : GtBare w F g s M mv) (hF : ∀ k, F k → k < w.heap.size) (hd : 0 < s.dn) :
    Calls Tryz.prog 89 #[.pointer (some ⟨g, 0, none⟩)] w (GtMoved F g { s with ph := .zero 0 } w) := by
  obtain ⟨b, av, hblk⟩ := h.blk
  have hgl := hblk.lt
  have HH := Lib.hid h
  have HFL := Lib.hid hF
  have hb0 := (Below.refl w.heap.size w).alloc (Nat.le_refl _) (.cells #[.pointer (some ⟨g, 0, none⟩)] 27)
  have hbox := rp_box w (.pointer (some ⟨g, 0, none⟩)) 27
  have hsz : (w.alloc (.cells #[.pointer (some ⟨g, 0, none⟩)] 27)).heap.size = w.heap.size + 1 := by simp
  have c0 := (hb0.cell (p := ⟨g, 0, none⟩) hgl).trans hblk.c0
  have c1 := (hb0.cell (p := ⟨g, 1, none⟩) hgl).trans hblk.c1
  have c10 := (hb0.cell (p := ⟨g, 10, none⟩) hgl).trans hblk.c10
  have c11 := (hb0.cell (p := ⟨g, 11, none⟩) hgl).trans hblk.c11
  have HW := Lib.hid hb0
  have hz1 := h.ok.rg.z1
  have hb1' := h.ok.rg.b1
  have hpl := h.ok.rg.place_in s.h
  have hdn := h.ok.dn0
  have HNE := Lib.hid (show -4611686018427387904 ≤ Rg.spot s.B s.Z s.h ∧ Rg.spot s.B s.Z s.h ≤ 4611686018427387904 by unfold Rg.spot; omega)
  have HFW : Hid (Cy.few (s.dn : Int) = s.dn) := Lib.hid (Cy.few_nat (by omega))
  have HZE : Hid (s.zeros 0 = { s with ph := .zero 0 }) := Lib.hid (by unfold Gs.zeros; rw [if_neg (by omega)])
  have hd1 : ¬ (s.dn : Int) = 0 := by omega
  have hd2 : ((s.dn : Int) == 0) = false := by simpa using hd1
  clear h hblk hb0 hF hz1 hb1' hpl hdn hd
  go_enter Tryz.func89, Tryz.ntmps89
  go_upto_region 1 with (fail)
  generalize w.alloc (.cells #[.pointer (some ⟨g, 0, none⟩)] 27) = W at hbox HW hsz c0 c1 c10 c11 ⊢
  have hga : ¬ w.heap.size = g := by omega
  have hla : w.heap.size < W.heap.size := by omega
  have hgW : g < W.heap.size := by omega
  clear hsz
  go_upto_region 2 with (fail)
  go_region_held3 (fun w' => w'.cell? ⟨w.heap.size, 0, none⟩ = some (.pointer (some ⟨g, 0, none⟩)) ∧ w'.cell? ⟨g, 0, none⟩ = some (.int .i64 s.B) ∧ w'.cell? ⟨g, 1, none⟩ = some (.int .i64 s.Z) ∧ w'.cell? ⟨g, 10, none⟩ = some (.int .i64 s.h) ∧ w'.cell? ⟨g, 11, none⟩ = some (.int .i64 s.dn)) (go_keep)
    (first
      | (go_at_call 118; refine (gtZeros ((HH.out.below hbW).wide (F' := fun k => F k ∨ (w.heap.size ≤ k ∧ k < x2.heap.size)) fun k hk => .inl hk) (fun k hk => hk.elim (fun hk => Nat.lt_of_lt_of_le (HFL.out k hk) hbW.size) fun hk => hk.2) ⟨⟨.inr ⟨Nat.le_refl _, lt_of_cell k2⟩, fun e => absurd (HH.out.in_ _ e).2.2 (Nat.lt_irrefl _)⟩, hga, k2⟩ hcc.out (Nat.zero_le _) (gt_sepZ HH.out (Nat.lt_of_lt_of_le hla hb1.size))).mono ?_; intro e w4 hm; have HM := Lib.hid hm; obtain ⟨⟨rfl, _⟩, ht4⟩ := hm; have hm1 := HM.out.1; rw [HZE.out] at hm1; have o04 : w4.cell? ⟨g, 0, none⟩ = some (.int .i64 s.B) := hm1.cells.1; have o14 : w4.cell? ⟨g, 1, none⟩ = some (.int .i64 s.Z) := hm1.cells.2.1; have oa4 : w4.cell? ⟨g, 10, none⟩ = some (.int .i64 s.h) := hm1.cells.2.2.1; have ob4 : w4.cell? ⟨g, 11, none⟩ = some (.int .i64 s.dn) := hm1.cells.2.2.2; clear hm1; have k4 := (ht4.cell (p := ⟨w.heap.size, 0, none⟩) (lt_of_cell k2) hga).trans k2)
      | (go_at_call 119; refine (zero_any (Rg.spot s.B s.Z s.h) s.dn _ HNE.out).mono ?_; rintro e x2 ⟨gc, rfl, hc2, hq2⟩; have hcc := Lib.hid (gt_few HFW.out hc2); clear hc2; have hb2 := hb1.trans (hq2.mono hb1.size); have k2 := (hb2.cell (p := ⟨w.heap.size, 0, none⟩) hla).trans hbox; have o02 := (hb2.cell (p := ⟨g, 0, none⟩) hgW).trans c0; have o12 := (hb2.cell (p := ⟨g, 1, none⟩) hgW).trans c1; have oa2 := (hb2.cell (p := ⟨g, 10, none⟩) hgW).trans c10; have ob2 := (hb2.cell (p := ⟨g, 11, none⟩) hgW).trans c11; have hbW := HW.out.trans (hb2.mono HW.out.size))
      | (go_at_call 120; refine (rgAt HH.out.ok.rg s.h _).mono ?_; rintro e x1 ⟨rfl, hq1⟩; have hb1 := below_drew hq1; have k1 := (hb1.cell (p := ⟨w.heap.size, 0, none⟩) hla).trans hbox; have o01 := (hb1.cell (p := ⟨g, 0, none⟩) hgW).trans c0; have o11 := (hb1.cell (p := ⟨g, 1, none⟩) hgW).trans c1; have oa1 := (hb1.cell (p := ⟨g, 10, none⟩) hgW).trans c10; have ob1 := (hb1.cell (p := ⟨g, 11, none⟩) hgW).trans c11))
  all_goals
    go_wp2
    go_end0
    have hm := HM.out.1
    rw [HZE.out] at hm
    exact (hm.around (Touch.of_below hbW) fun k hk => hk)
end Go.Proofs.YtikcnioooihncaaGreat
namespace Go.Proofs.YtikcnioooihncaaGreat
open Go.RowKit

theorem gtDrain {w : World} {F M : Nat → Prop} {g : Nat} {s : Gs} {mv : Value} (h : GtBare w F g s M mv) (hF : ∀ k, F k → k < w.heap.size) :
    Calls Tryz.prog 89 #[.pointer (some ⟨g, 0, none⟩)] w (GtMoved F g s.drain w) := by
  unfold Gs.drain
  by_cases hd : s.dn = 0
  · rw [if_pos hd]; exact gtDrainNo h hd
  · rw [if_neg hd]; exact gtDrainYes h hF (by omega)

theorem MsAt.slice {K : Nat → Prop} {w : World} {mv : Value} {ms : List (Int × List Int)} (h : MsAt K w mv ms) : ∃ A c, mv = .slice A ms.length c := by
  obtain ⟨vs, _, hr, _, _⟩ := h
  rcases hr.2 with ⟨rfl, h0⟩ | ⟨g, cap, cur, rfl, _⟩
  · exact ⟨none, 0, by rw [h0]⟩
  · exact ⟨_, _, rfl⟩

set_option maxRecDepth 100000 in
set_option maxHeartbeats 800000 in
theorem gtLookFull {w : World} {F M : Nat → Prop} {g : Nat} {s : Gs} {mv : Value} (h : GtBare w F g s M mv) (hF : ∀ k, F k → k < w.heap.size) (hm : (s.ms.length : Int) = s.most) :
    Calls Tryz.prog 58 #[.pointer (some ⟨g, 0, none⟩)] w (GtMoved F g s.drain w) := by
  obtain ⟨a, av, hblk⟩ := h.blk
  obtain ⟨Am, cm, hmv⟩ := h.msgs.slice
  subst hmv
  have hgl := hblk.lt
  have HH := Lib.hid h
  have HFL := Lib.hid hF
  have hb0 := (Below.refl w.heap.size w).alloc (Nat.le_refl _) (.cells #[.pointer (some ⟨g, 0, none⟩)] 27)
  have hbox := rp_box w (.pointer (some ⟨g, 0, none⟩)) 27
  have c2 := (hb0.cell (p := ⟨g, 2, none⟩) hgl).trans hblk.c2
  have c12 := (hb0.cell (p := ⟨g, 12, none⟩) hgl).trans hblk.c12
  obtain ⟨n, hn⟩ : ∃ n, n = s.ms.length := ⟨_, rfl⟩
  rw [← hn] at hm c12
  have hd : ((n : Int) == s.most) = true := by simpa using hm
  have HW := Lib.hid hb0
  clear h hblk hb0 hF hm hn
  go_enter Tryz.func58, Tryz.ntmps58
  go_upto_region 1 with (fail)
  generalize w.alloc (.cells #[.pointer (some ⟨g, 0, none⟩)] 27) = W at hbox HW c2 c12 ⊢
  have HBL := Lib.hid (fun k => HW.out.trans ((drewN_below W k).mono HW.out.size))
  go_quiet (fail)
  go_wp2_with fail
  refine (gtDrain (HH.out.below (HBL.out nq)) fun k hk => Nat.lt_of_lt_of_le (HFL.out k hk) (HBL.out nq).size).mono ?_
  intro e w3 hm
  have hm2 := hm.after (HBL.out nq)
  obtain ⟨rfl, _⟩ := hm
  have HM := Lib.hid hm2
  clear hm2
  go_wp2
  go_end0
  exact HM.out

set_option maxRecDepth 100000 in
set_option maxHeartbeats 800000 in
theorem gtLookEmpty {w : World} {F M : Nat → Prop} {g : Nat} {s : Gs} {mv : Value} (h : GtBare w F g s M mv) (hF : ∀ k, F k → k < w.heap.size) (hm : ¬ (s.ms.length : Int) = s.most) (hl : s.left = 0) :
    Calls Tryz.prog 58 #[.pointer (some ⟨g, 0, none⟩)] w (GtMoved F g s.drain w) := by
  obtain ⟨a, av, hblk⟩ := h.blk
  obtain ⟨Am, cm, hmv⟩ := h.msgs.slice
  subst hmv
  have hgl := hblk.lt
  have HH := Lib.hid h
  have HFL := Lib.hid hF
  have HB := Lib.hid hblk
  have hb0 := (Below.refl w.heap.size w).alloc (Nat.le_refl _) (.cells #[.pointer (some ⟨g, 0, none⟩)] 27)
  have hbox := rp_box w (.pointer (some ⟨g, 0, none⟩)) 27
  have hsz : (w.alloc (.cells #[.pointer (some ⟨g, 0, none⟩)] 27)).heap.size = w.heap.size + 1 := by simp
  have c2 := (hb0.cell (p := ⟨g, 2, none⟩) hgl).trans hblk.c2
  have c12 := (hb0.cell (p := ⟨g, 12, none⟩) hgl).trans hblk.c12
  obtain ⟨n, hn⟩ : ∃ n, n = s.ms.length := ⟨_, rfl⟩
  rw [← hn] at hm c12
  have hd : ((n : Int) == s.most) = false := by simpa using hm
  have HW := Lib.hid hb0
  have HL := Lib.hid hl
  clear h hblk hb0 hF hm hn hl
  go_enter Tryz.func58, Tryz.ntmps58
  go_upto_region 1 with (fail)
  generalize w.alloc (.cells #[.pointer (some ⟨g, 0, none⟩)] 27) = W at hbox HW hsz c2 c12 ⊢
  have hla : w.heap.size < W.heap.size := by omega
  have hgW : g < W.heap.size := by omega
  clear hsz
  go_region_held3 (fun w' => w'.cell? ⟨w.heap.size, 0, none⟩ = some (.pointer (some ⟨g, 0, none⟩)) ∧ w'.cell? ⟨g, 2, none⟩ = some (.int .i64 s.most) ∧ w'.cell? ⟨g, 12, none⟩ = some (.slice Am n cm)) (go_keep)
    (first
      | (go_at_call 88; refine (gtLeft (HB.out.below HW.out.drew) HH.out.ok).mono ?_; rw [HL.out]; rintro e x1 ⟨rfl, hq1⟩; have hb1 := below_drew hq1; have k1 := (hb1.cell (p := ⟨w.heap.size, 0, none⟩) hla).trans hbox; have o21 := (hb1.cell (p := ⟨g, 2, none⟩) hgW).trans c2; have o121 := (hb1.cell (p := ⟨g, 12, none⟩) hgW).trans c12))
  all_goals
    have hbl := HW.out.trans (hb1.mono HW.out.size)
    have HBL := Lib.hid hbl
    clear hbl
    go_wp2_with fail
    refine (gtDrain (HH.out.below HBL.out) fun k hk => Nat.lt_of_lt_of_le (HFL.out k hk) HBL.out.size).mono ?_
    intro e w3 hm
    have hm2 := hm.after HBL.out
    obtain ⟨rfl, _⟩ := hm
    have HM := Lib.hid hm2
    clear hm2
    go_wp2
    go_end0
    exact HM.out

set_option maxRecDepth 100000 in
set_option maxHeartbeats 800000 in
theorem gtLookOn {w : World} {F M : Nat → Prop} {g : Nat} {s : Gs} {mv : Value} (h : GtBare w F g s M mv) (hm : ¬ (s.ms.length : Int) = s.most) (hl : ¬ s.left = 0) :
    Calls Tryz.prog 58 #[.pointer (some ⟨g, 0, none⟩)] w (GtMoved F g { s with ph := .look } w) := by
  obtain ⟨a, av, hblk⟩ := h.blk
  obtain ⟨Am, cm, hmv⟩ := h.msgs.slice
  subst hmv
  have hgl := hblk.lt
  have HH := Lib.hid h
  have HB := Lib.hid hblk
  have hb0 := (Below.refl w.heap.size w).alloc (Nat.le_refl _) (.cells #[.pointer (some ⟨g, 0, none⟩)] 27)
  have hbox := rp_box w (.pointer (some ⟨g, 0, none⟩)) 27
  have hsz : (w.alloc (.cells #[.pointer (some ⟨g, 0, none⟩)] 27)).heap.size = w.heap.size + 1 := by simp
  have c2 := (hb0.cell (p := ⟨g, 2, none⟩) hgl).trans hblk.c2
  have c12 := (hb0.cell (p := ⟨g, 12, none⟩) hgl).trans hblk.c12
  obtain ⟨n, hn⟩ : ∃ n, n = s.ms.length := ⟨_, rfl⟩
  rw [← hn] at hm c12
  have hd : ((n : Int) == s.most) = false := by simpa using hm
  obtain ⟨lf, hlf⟩ : ∃ lf, lf = s.left := ⟨_, rfl⟩
  rw [← hlf] at hl
  have hd2 : (lf == 0) = false := by simpa using hl
  have HLF := Lib.hid hlf
  obtain ⟨P, hP⟩ : ∃ P, P = s.at_ := ⟨_, rfl⟩
  have HP := Lib.hid hP
  have HW := Lib.hid hb0
  clear h hblk hb0 hm hn hlf hP
  go_enter Tryz.func58, Tryz.ntmps58
  go_upto_region 1 with (fail)
  generalize w.alloc (.cells #[.pointer (some ⟨g, 0, none⟩)] 27) = W at hbox HW hsz c2 c12 ⊢
  have hga : ¬ w.heap.size = g := by omega
  have hla : w.heap.size < W.heap.size := by omega
  have hgW : g < W.heap.size := by omega
  clear hsz
  go_region_held3 (fun w' => w'.cell? ⟨w.heap.size, 0, none⟩ = some (.pointer (some ⟨g, 0, none⟩)) ∧ w'.cell? ⟨g, 2, none⟩ = some (.int .i64 s.most) ∧ w'.cell? ⟨g, 12, none⟩ = some (.slice Am n cm)) (go_keep)
    (first
      | (go_at_call 88; refine (gtLeft (HB.out.below HW.out.drew) HH.out.ok).mono ?_; rw [← HLF.out]; rintro e x1 ⟨rfl, hq1⟩; have hb1 := below_drew hq1; have k1 := (hb1.cell (p := ⟨w.heap.size, 0, none⟩) hla).trans hbox; have o21 := (hb1.cell (p := ⟨g, 2, none⟩) hgW).trans c2; have o121 := (hb1.cell (p := ⟨g, 12, none⟩) hgW).trans c12))
  all_goals
    have hbl := HW.out.trans (hb1.mono HW.out.size)
    have HBL := Lib.hid hbl
    have hlx : w.heap.size < x1.heap.size := lt_of_cell k1
    clear hbl
    go_upto_region 3 with (fail)
    go_region_held3 (fun w' => w'.cell? ⟨w.heap.size, 0, none⟩ = some (.pointer (some ⟨g, 0, none⟩))) (go_keep)
      (first
        | (go_at_call 54; refine (gtDo (HB.out.below (HBL.out.trans (hb3.mono HBL.out.size))) ⟨1, P, 8, 0, 0, []⟩ none 0 0 91 #[] #[.pointer (some ⟨w.heap.size, 0, none⟩)]).mono ?_; intro e wd has; have HAS := Lib.hid has; obtain ⟨rfl, _, htd⟩ := has; have kd := (htd.cell (p := ⟨w.heap.size, 0, none⟩) (lt_of_cell k3) hga).trans k3)
        | (go_at_call 55; refine (stLoad P _).mono ?_; rintro e x3 ⟨rfl, hq3⟩; have hb3 := hb2.trans (hq3.mono hb2.size); have k3 := (hb3.cell (p := ⟨w.heap.size, 0, none⟩) hlx).trans k1)
        | (go_at_call 90; refine (gtAt (HB.out.below HBL.out.drew) HH.out.ok).mono ?_; rw [← HP.out]; rintro e x2 ⟨rfl, hq2⟩; have hb2 := below_drew hq2; have k2 := (hb2.cell (p := ⟨w.heap.size, 0, none⟩) hlx).trans k1))
  all_goals
    go_wp2
    go_end0
    obtain ⟨_, hbk, hT⟩ := HAS.out
    exact gt_put HH.out .look ((Touch.of_below (HBL.out.trans (hb3.mono HBL.out.size))).trans hT) hbk (by show some (⟨1, s.at_, 8, 0, 0, []⟩ : Ac) = _; rw [HP.out]) rfl trivial ⟨w.heap.size, rfl, ⟨.inr ⟨Nat.le_refl _, lt_of_cell kd⟩, fun hM => absurd (HH.out.in_ _ hM).2.2 (Nat.lt_irrefl _)⟩, hga, kd⟩

theorem gtLook {w : World} {F M : Nat → Prop} {g : Nat} {s : Gs} {mv : Value} (h : GtBare w F g s M mv) (hF : ∀ k, F k → k < w.heap.size) :
    Calls Tryz.prog 58 #[.pointer (some ⟨g, 0, none⟩)] w (GtMoved F g s.looks w) := by
  unfold Gs.looks
  by_cases hm : (s.ms.length : Int) = s.most
  · rw [if_pos (.inl hm)]; exact gtLookFull h hF hm
  · by_cases hl : s.left = 0
    · rw [if_pos (.inr hl)]; exact gtLookEmpty h hF hm hl
    · rw [if_neg (by rintro (e | e) <;> contradiction)]; exact gtLookOn h hm hl
end Go.Proofs.YtikcnioooihncaaGreat
namespace Go.Proofs.YtikcnioooihncaaGreat
open Go.RowKit

theorem gt_setD (s : Gs) (v : Nat) (a : Ac) (av th mv : Value) : (GtCells s a av th mv).setIfInBounds 11 (.int .i64 (v : Int)) = GtCells { s with dn := v } a av th mv := by simp [GtCells]
theorem gt_setH (s : Gs) (v : Int) (a : Ac) (av th mv : Value) : (GtCells s a av th mv).setIfInBounds 10 (.int .i64 v) = GtCells { s with h := v } a av th mv := by simp [GtCells]
theorem gt_setE (s : Gs) (v : Int) (a : Ac) (av th mv : Value) : (GtCells s a av th mv).setIfInBounds 13 (.int .i64 v) = GtCells { s with er := v } a av th mv := by simp [GtCells]
theorem gt_setM (s : Gs) (v : Value) (a : Ac) (av th mv : Value) : (GtCells s a av th mv).setIfInBounds 12 v = GtCells s a av th v := by simp [GtCells]
theorem GtBlk.set {w : World} {g : Nat} {s s' : Gs} {a : Ac} {av th mv mv' : Value} (h : GtBlk w g s a av th mv) (i : Nat) (v : Value) (hc : (GtCells s a av th mv).setIfInBounds i v = GtCells s' a av th mv') : GtBlk (w.setCell ⟨g, i, none⟩ v) g s' a av th mv' := by
  have := blkS (i := i) (show w.heap[g]? = some (.cells (GtCells s a av th mv) 73 (0, 0)) from h) v
  rw [hc] at this
  exact this

/-- A get that goes on behind a record of sz bytes: all but the record's bytes are gone over. -/
structure GtOpen (w : World) (F : Nat → Prop) (g : Nat) (s : Gs) (M : Nat → Prop) (mv : Value) (sz : Nat) : Prop where
  blk : ∃ a av, GtBlk w g s a av .nilFunc mv
  own : F g
  ok : ({ s with dn := s.dn + sz } : Gs).Ok
  msgs : MsAt M w mv s.ms
  in_ : ∀ k, M k → F k ∧ k ≠ g ∧ k < w.heap.size

set_option maxRecDepth 100000 in
set_option maxHeartbeats 800000 in
theorem gtPass {w : World} {F M : Nat → Prop} {g : Nat} {s : Gs} {mv : Value} {sz : Nat} (h : GtOpen w F g s M mv sz) (hF : ∀ k, F k → k < w.heap.size) :
    Calls Tryz.prog 124 #[.pointer (some ⟨g, 0, none⟩), .int .i64 sz] w (GtMoved F g (s.pass sz) w) := by
  obtain ⟨a, av, hblk⟩ := h.blk
  have hgl := hblk.lt
  have c11 := hblk.c11
  have f11 := hblk.free 11
  have hz := h.ok.dn0
  have hz1 := h.ok.rg.z1
  have hpl := h.ok.rg.place_in s.h
  simp only at hz hz1 hpl
  have e1 : IntKind.i64.wrap ((s.dn : Int) + (sz : Int)) = ((s.dn + sz : Nat) : Int) := by rw [IntWalk.i64_in _ (by omega)]; omega
  have e2 : wrap64 ((s.dn : Int) + (sz : Int)) = ((s.dn + sz : Nat) : Int) := by unfold wrap64; omega
  obtain ⟨D, hD⟩ : ∃ D, D = s.dn + sz := ⟨_, rfl⟩
  rw [← hD] at e1 e2
  have hTT : Touch (fun k => k = g) w (w.setCell ⟨g, 11, none⟩ (.int .i64 (D : Int))) := (Touch.refl (fun k => k = g) w).setCell (p := ⟨g, 11, none⟩) rfl _
  have hB : GtBare (w.setCell ⟨g, 11, none⟩ (.int .i64 (D : Int))) F g { s with dn := D } M mv :=
    ⟨⟨a, av, hblk.set 11 _ (gt_setD s D _ _ _ _)⟩, h.own, by rw [hD]; exact h.ok, h.msgs.keep hTT.size fun k hk => hTT.block k (h.in_ k hk).2.2 (h.in_ k hk).2.1, fun k hk => ⟨(h.in_ k hk).1, (h.in_ k hk).2.1, Nat.lt_of_lt_of_le (h.in_ k hk).2.2 hTT.size⟩⟩
  have HC := Lib.hid (gtLook hB fun k hk => Nat.lt_of_lt_of_le (hF k hk) hTT.size)
  have HS := Lib.hid (show s.pass sz = ({ s with dn := D } : Gs).looks by rw [hD]; rfl)
  have HT : Hid (Touch F w (w.setCell ⟨g, 11, none⟩ (.int .i64 (D : Int)))) := Lib.hid (hTT.mono fun k e => by have e : k = g := e; rw [e]; exact h.own)
  clear h hB hTT hblk hz hz1 hpl hD hF
  go_enter Tryz.func124, Tryz.ntmps124
  go_upto_region 1 with (fail)
  generalize w.setCell ⟨g, 11, none⟩ (.int .i64 (D : Int)) = W2 at HC HT ⊢
  clear c11 f11 e1 e2
  go_wp2_with fail
  refine HC.out.mono ?_
  intro e w3 hm
  have HM := Lib.hid hm
  obtain ⟨rfl, _⟩ := hm
  go_wp2
  go_end0
  rw [HS.out]
  exact HM.out.afterT HT.out

end Go.Proofs.YtikcnioooihncaaGreat
namespace Go.Proofs.YtikcnioooihncaaGreat
open Go.RowKit

theorem infoMsg : (Tryz.prog.info? 69).map (fun i => (i.zero, i.size, i.bytes)) = some (some (.agg #[.int .i32 0, .slice none 0 0]), 2, 32) := by kernel_rfl

theorem msCells_app (l : List (Int × Value)) (t : Int) (v : Value) : msCells (l ++ [(t, v)]) = msCells l ++ [.int .i32 t, v] := by
  induction l with
  | nil => rfl
  | cons x l ih =>
    obtain ⟨t0, v0⟩ := x
    show Value.int .i32 t0 :: v0 :: msCells (l ++ [(t, v)]) = _
    rw [ih]
    rfl

theorem run_app_msg {w : World} {n : Nat} {v : Value} {xs : List Value} (hv : w.ownsRow 0 69 2 v n xs) (t : Int) (A : Option Addr) (l cp : Nat) {b c : Nat} (hg : w.heap[b]? = some (.cells #[.int .i32 t, .slice A l cp] 69 (0, 0)))
    (hn : n ≤ 1000000) (ty : TypeId) :
    ∃ g cap w', (Builtin.append_ #[39, 39] ty #[v, .slice (some ⟨b, 0, none⟩) 1 c]).run Tryz.prog w = .ok (.slice (some ⟨g, 0, none⟩) (n + 1) cap) w' ∧ w'.ownsRow 0 69 2 (.slice (some ⟨g, 0, none⟩) (n + 1) cap) (n + 1) (xs ++ [.int .i32 t, .slice A l cp]) ∧ w.grownBy w' v.ownBlock ∧ (some g = v.ownBlock ∨ some g = some w.heap.size) := by
  obtain ⟨i0, hi, hz0, hz1, hz2⟩ := info_parts infoMsg
  obtain ⟨v', w', hrun, h2, h3, _, h5⟩ := run_append_own_at (P := Tryz.prog) w 0 39 ty 69 i0 _ 2 32 Tryz.underlying39 hi hz0 hz1 hz2 rfl (by decide) _ n _ hv ⟨b, 0, none⟩ 1 c [.int .i32 t, .slice A l cp] rfl (by
    intro j u hj
    have e : (⟨b, 0, none⟩ : Addr).add j = ⟨b, 0 + j, none⟩ := by unfold Addr.add; split <;> simp_all
    rw [e, Nat.zero_add]
    simp only [World.cell?, hg]
    rw [← hj]
    simp) (by
    intro u hu
    simp only [List.mem_cons, List.not_mem_nil, or_false] at hu
    rcases hu with rfl | rfl <;> rfl) (by unfold maxLen; omega) (by omega) (Nat.zero_le _)
  rcases h2.2 with ⟨_, h0⟩ | ⟨g, cap, cur, rfl, _, _, hc, hc2, _⟩
  · omega
  · exact ⟨g, cap, w', hrun, h2, h3, h5⟩

theorem step_app_msg {w : World} {ops : Array Oper} {o : Oper} {a : Act} {K : Act → World → Prop} {Q : Exit → Act → World → Prop} {E : Prop} (hgd : o.guard = none) (s x : Operand)
    (ho : o.op = .call { callee := .builtin .append, args := #[s, x], argTypes := #[39, 39] }) (n : Nat) (v : Value) (xs : List Value) (t : Int) (A : Option Addr) (l cp b c : Nat)
    (hs : a.eval s = v) (hx : a.eval x = .slice (some ⟨b, 0, none⟩) 1 c) (hv : w.ownsRow 0 69 2 v n xs) (hg : w.heap[b]? = some (.cells #[.int .i32 t, .slice A l cp] 69 (0, 0))) (hn : n ≤ 1000000)
    (h : ∀ g cap w', w'.ownsRow 0 69 2 (.slice (some ⟨g, 0, none⟩) (n + 1) cap) (n + 1) (xs ++ [.int .i32 t, .slice A l cp]) → w.grownBy w' v.ownBlock → (some g = v.ownBlock ∨ some g = some w.heap.size) → K (a.put o.dst (.slice (some ⟨g, 0, none⟩) (n + 1) cap)) w') :
    if Region.wanted o (yielded ops a.tmps) = true then Oper.wp Tryz.prog o a w K Q else E := by
  have hw : Region.wanted o (yielded ops a.tmps) = true := by simp [Region.wanted, hgd]
  rw [if_pos hw]
  obtain ⟨g, cap, w', hrun, h1, h2, h3⟩ := run_app_msg hv t A l cp (c := c) hg hn o.type
  unfold Oper.wp execOp
  simp only [ho, resolve, invoke, builtin, Sem.run_bind, Sem.run_pure, Result.andThen_ok, List.map_toArray, List.map_cons, List.map_nil, hs, hx, hrun]
  exact h g cap w' h1 h2 h3

/-- A message more stands in the row. -/
theorem MsAt.more {K K' : Nat → Prop} {w W w' : World} {mv : Value} {ms : List (Int × List Int)} {vs : List Value} (h1 : vs.length = ms.length) (h4 : ∀ i (hi : i < ms.length) (hv : i < vs.length), BytesIn (fun k => K k ∧ mv.ownBlock ≠ some k) w vs[i] ms[i].2) (hb : Below w.heap.size w W) (hK : ∀ k, K k → k < w.heap.size) {typ : Int} {A : Option Addr} {l cp : Nat} {ys : List Int} (hd : BytesIn K' W (.slice A l cp) ys) (hK' : ∀ k, K' k → mv.ownBlock ≠ some k) {g cap : Nat}
    (hrow : w'.ownsRow 0 69 2 (.slice (some ⟨g, 0, none⟩) (ms.length + 1) cap) (ms.length + 1) (msCells ((ms.map Prod.fst).zip vs) ++ [.int .i32 typ, .slice A l cp])) (hg : W.grownBy w' mv.ownBlock) (hl : some g = mv.ownBlock ∨ some g = some W.heap.size) :
    MsAt (fun k => K k ∨ K' k ∨ k = g) w' (.slice (some ⟨g, 0, none⟩) (ms.length + 1) cap) (ms ++ [(typ, ys)]) := by
  refine ⟨vs ++ [.slice A l cp], by simp [h1], ?_, fun k hk => ?_, fun i hi hv => ?_⟩
  · rw [List.map_append, List.zip_append (by simp [h1])]
    show w'.ownsRow 0 _ 2 _ (ms ++ [(typ, ys)]).length (msCells ((ms.map Prod.fst).zip vs ++ [(typ, .slice A l cp)]))
    rw [msCells_app, List.length_append]
    exact hrow
  · injection hk with hk
    exact .inr (.inr hk.symm)
  · have far : ∀ k, k < W.heap.size → mv.ownBlock ≠ some k → w'.heap[k]? = W.heap[k]? := fun k hk hn => hg.block k hk fun e => hn e.symm
    have nog : ∀ k, k < W.heap.size → mv.ownBlock ≠ some k → (Value.slice (some ⟨g, 0, none⟩) (ms.length + 1) cap).ownBlock ≠ some k := fun k hk hn e => by
      injection e with e
      have e : g = k := e
      subst e
      rcases hl with e | e
      · exact hn e.symm
      · injection e with e
        omega
    by_cases hi2 : i < ms.length
    · have hb4 := (h4 i hi2 (by omega)).below hb
      rw [List.getElem_append_left (by omega), List.getElem_append_left hi2]
      exact (hb4.keep hg.size fun k hk hkl => far k hkl hk.2).mono fun k hk hkl => ⟨.inl hk.1, nog k (Nat.lt_of_lt_of_le (hK k hk.1) hb.size) hk.2⟩
    · have hi3 : i = ms.length := by simp at hi; omega
      subst hi3
      have e1 : (vs ++ [Value.slice A l cp])[ms.length] = .slice A l cp := by
        rw [List.getElem_append_right (by omega)]
        simp [h1]
      have e2 : (ms ++ [(typ, ys)])[ms.length] = (typ, ys) := by
        rw [List.getElem_append_right (by omega)]
        simp
      rw [e1, e2]
      exact (hd.lt.keep hg.size fun k hk hkl => far k hkl (hK' k hk.1)).mono fun k hk _ => ⟨.inr (.inl hk.1), nog k hk.2 (hK' k hk.1)⟩
end Go.Proofs.YtikcnioooihncaaGreat
namespace Go.Proofs.YtikcnioooihncaaGreat
open Go.RowKit

theorem gt_kept {w W0 w1 : World} {F M Kd : Nat → Prop} {g : Nat} {s : Gs} {Am : Option Addr} {cm n : Nat} (hn : n = s.ms.length) (h : GtBare w F g s M (.slice Am s.ms.length cm)) (_hF : ∀ k, F k → k < w.heap.size) {typ : Int} {sz : Nat} (hsz : 1 ≤ sz ∧ (sz : Int) ≤ s.left) {Ad : Option Addr} {ld cd : Nat} {ys : List Int} (hd : BytesIn Kd w (.slice Ad ld cd) ys) (hKd : ∀ k, Kd k → F k ∧ k ≠ g ∧ (Value.slice Am s.ms.length cm).ownBlock ≠ some k)
    (hB : Below w.heap.size w W0) {vs : List Value} (hvs : vs.length = s.ms.length) {cells : List Value} (hce : cells = msCells ((s.ms.map Prod.fst).zip vs)) (h4 : ∀ i (hi : i < s.ms.length) (hv : i < vs.length), BytesIn (fun k => M k ∧ (Value.slice Am s.ms.length cm).ownBlock ≠ some k) w vs[i] s.ms[i].2) (h3 : ∀ k, (Value.slice Am s.ms.length cm).ownBlock = some k → M k) (hrow : w.ownsRow 0 69 2 (.slice Am n cm) n cells)
    {gr cr : Nat} (ho : w1.ownsRow 0 69 2 (.slice (some ⟨gr, 0, none⟩) (n + 1) cr) (n + 1) (cells ++ [.int .i32 typ, .slice Ad ld cd])) (hgr : W0.grownBy w1 (Value.slice Am n cm).ownBlock) (hl : some gr = (Value.slice Am n cm).ownBlock ∨ some gr = some W0.heap.size) {a0 : Ac} {av : Value} (hg1 : GtBlk w1 g s a0 av .nilFunc (.slice Am n cm)) :
    GtOpen (w1.setCell ⟨g, 12, none⟩ (.slice (some ⟨gr, 0, none⟩) (n + 1) cr)) (fun k => F k ∨ (w.heap.size ≤ k ∧ k < (w1.setCell ⟨g, 12, none⟩ (.slice (some ⟨gr, 0, none⟩) (n + 1) cr)).heap.size)) g { s with ms := s.ms ++ [(typ, ys)] } (fun k => M k ∨ (Kd k ∧ k < w.heap.size) ∨ k = gr) (.slice (some ⟨gr, 0, none⟩) (n + 1) cr) sz ∧
      Touch F w (w1.setCell ⟨g, 12, none⟩ (.slice (some ⟨gr, 0, none⟩) (n + 1) cr)) := by
  subst hn
  subst hce
  have hms : MsAt (fun k => M k ∨ (Kd k ∧ k < w.heap.size) ∨ k = gr) w1 (.slice (some ⟨gr, 0, none⟩) (s.ms.length + 1) cr) (s.ms ++ [(typ, ys)]) :=
    MsAt.more hvs h4 hB (fun k hk => (h.in_ k hk).2.2) (hd.lt.below hB) (fun k hk => (hKd k hk.1).2.2) ho hgr hl
  have hgl := h.lt
  have hgrl : gr < w1.heap.size := by
    obtain ⟨_, e | ⟨g', cap', cur', e, _, hh, _⟩⟩ := ho
    · cases e.1
    · injection e with e _ _
      injection e with e
      injection e with e _ _
      rw [e]
      exact (Array.getElem?_eq_some_iff.1 hh).1
  have hW := hB.size
  have hgrg : gr ≠ g := fun e => by
    rcases hl with e2 | e2
    · exact (h.in_ g (h3 g (by rw [← e2, e]))).2.1 rfl
    · injection e2 with e2
      omega
  have hst : Touch (fun k => k = g) w1 (w1.setCell ⟨g, 12, none⟩ (.slice (some ⟨gr, 0, none⟩) (s.ms.length + 1) cr)) := (Touch.refl (fun k => k = g) w1).setCell (p := ⟨g, 12, none⟩) rfl _
  have hss := hst.size
  have hgs := hgr.size
  have hT1 : Touch F w w1 := (Touch.of_below hB).trans ⟨hgr.os, hgr.tape, hgr.output, hgr.size, fun k hk hn => hgr.block k hk fun e => hn (h.in_ k (h3 k e.symm)).1⟩
  refine ⟨⟨⟨a0, av, hg1.set 12 _ (gt_setM s _ _ _ _ _)⟩, .inl h.own, ⟨h.ok.rg, ?_, h.ok.m0, h.ok.h0, ?_⟩, hms.keep hst.size fun k hk => ?_, fun k hk => ?_⟩, hT1.trans (hst.mono fun k e => by have e : k = g := e; rw [e]; exact h.own)⟩
  · have := hsz.2
    unfold Gs.left at this
    show ((s.dn + sz : Nat) : Int) ≤ (s.Z : Int) - Rg.place s.Z s.h
    omega
  · have := h.ok.few
    show (s.ms ++ [(typ, ys)]).length ≤ s.dn + sz
    simp only [List.length_append, List.length_cons, List.length_nil]
    omega
  · have hkg : k ≠ g ∧ k < w1.heap.size := by
      rcases hk with hk | hk | hk
      · have := h.in_ k hk
        exact ⟨this.2.1, by omega⟩
      · have := hKd k hk.1
        exact ⟨this.2.1, by omega⟩
      · exact ⟨hk ▸ hgrg, by omega⟩
    exact hst.block k hkg.2 hkg.1
  · rcases hk with hk | hk | hk
    · have := h.in_ k hk
      exact ⟨.inl this.1, this.2.1, by omega⟩
    · have := hKd k hk.1
      exact ⟨.inl this.1, this.2.1, by omega⟩
    · rcases hl with e2 | e2
      · have := h.in_ gr (h3 gr e2.symm)
        exact ⟨.inl (hk ▸ this.1), hk ▸ hgrg, by omega⟩
      · injection e2 with e2
        exact ⟨.inr ⟨by omega, by omega⟩, hk ▸ hgrg, by omega⟩

set_option maxRecDepth 100000 in
set_option maxHeartbeats 1600000 in
theorem gtTell1 {w : World} {F M : Nat → Prop} {g : Nat} {s : Gs} {mv : Value} (h : GtBare w F g s M mv) (hF : ∀ k, F k → k < w.heap.size) {typ : Int} {sz a b c : Nat} (ha : w.cell? ⟨a, 0, none⟩ = some (.pointer (some ⟨g, 0, none⟩))) (hb : w.cell? ⟨b, 0, none⟩ = some (.int .i32 typ)) (hc : w.cell? ⟨c, 0, none⟩ = some (.int .i64 sz))
    (hag : a ≠ g) (hbg : b ≠ g) (hcg : c ≠ g) (har : mv.ownBlock ≠ some a) (hbr : mv.ownBlock ≠ some b) (hcr : mv.ownBlock ≠ some c) (hsz : 1 ≤ sz ∧ (sz : Int) ≤ s.left) {Ad : Option Addr} {ld cd : Nat} {ys : List Int} {Kd : Nat → Prop} (hd : BytesIn Kd w (.slice Ad ld cd) ys) (hKd : ∀ k, Kd k → F k ∧ k ≠ g ∧ mv.ownBlock ≠ some k) :
    Calls Tryz.prog 126 #[.slice Ad ld cd, .pointer (some ⟨a, 0, none⟩), .pointer (some ⟨b, 0, none⟩), .pointer (some ⟨c, 0, none⟩)] w (GtMoved F g (s.got typ sz ys) w) := by
  obtain ⟨a0, av, hblk⟩ := h.blk
  obtain ⟨Am, cm, hmv⟩ := h.msgs.slice
  subst hmv
  have hgl := hblk.lt
  have HH := Lib.hid h
  have HFL := Lib.hid hF
  have HD := Lib.hid hd
  have HKD := Lib.hid hKd
  have HSZ := Lib.hid hsz
  have c12 := hblk.c12
  have f12 := hblk.free 12
  have hgr0 : (Value.slice Am s.ms.length cm).ownBlock ≠ some g := fun e => by
    obtain ⟨vs, _, _, h3, _⟩ := h.msgs
    exact (h.in_ g (h3 g e)).2.1 rfl
  obtain ⟨vs, hvs, hrow, h3, h4⟩ := h.msgs
  have HROW := Lib.hid hrow
  have hn : s.ms.length ≤ 1000000 := by
    have h1 := h.ok.few
    have h2 := h.ok.dn0
    have h3 := h.ok.rg.z1
    have h4 := h.ok.rg.place_in s.h
    omega
  have HN := Lib.hid hn
  obtain ⟨n, hnn⟩ : ∃ n, n = s.ms.length := ⟨_, rfl⟩
  obtain ⟨cells, hcells⟩ : ∃ cells, cells = msCells ((s.ms.map Prod.fst).zip vs) := ⟨_, rfl⟩
  rw [← hnn, ← hcells] at HROW
  have hblk2 := hblk
  rw [← hnn] at HN hgr0 c12 har hbr hcr hblk2
  have HNN := Lib.hid hnn
  have HCE := Lib.hid hcells
  have HVS := Lib.hid hvs
  have H3 := Lib.hid h3
  have H4 := Lib.hid h4
  have hB0 := (Below.refl w.heap.size w).drew.alloc (Nat.le_refl _) (.cells #[.int .i32 typ, .slice Ad ld cd] 69)
  have hbk0 := Go.Deep.blk_alloc_new w.drew (.cells #[.int .i32 typ, .slice Ad ld cd] 69)
  have hla := lt_of_cell ha
  have hlb := lt_of_cell hb
  have hlc := lt_of_cell hc
  have HB0 := Lib.hid hB0
  have HBK := Lib.hid hbk0
  have HBL := Lib.hid hblk2
  have HNE := Lib.hid (And.intro hag (And.intro hbg (And.intro hcg (And.intro har (And.intro hbr (And.intro hcr hgr0))))))
  clear h hblk hblk2 hF hd hKd hsz hrow hn hnn hcells hvs hB0 hbk0 h3 h4 hag hbg hcg har hbr hcr hgr0
  go_enter Tryz.func126, Tryz.ntmps126
  go_wp2
  go_region_law
    (first
      | (refine step_app_msg rfl _ _ rfl n (.slice Am n cm) cells typ Ad ld cd w.heap.size 1 rfl rfl (row_of_block HROW.out fun k hk => HB0.out.block k (row_lt HROW.out hk).2) HBK.out HN.out ?_; intro gr cr w1 ho hgr hlie; have hg1 := (hgr.block g (Nat.lt_of_lt_of_le hgl HB0.out.size) (fun e => HNE.out.2.2.2.2.2.2 e.symm)).trans ((HB0.out.block g hgl).trans HBL.out); have c121 : w1.cell? ⟨g, 12, none⟩ = some (.slice Am n cm) := (by simp [World.cell?, hg1, GtCells]); have f121 : w1.frozen? ⟨g, 12, none⟩ = false := (by simp [World.frozen?, hg1]); have ka1 : w1.cell? ⟨a, 0, none⟩ = some (.pointer (some ⟨g, 0, none⟩)) := (World.cell?_of_block (a := ⟨a, 0, none⟩) (hgr.block a (Nat.lt_of_lt_of_le hla HB0.out.size) (fun e => HNE.out.2.2.2.1 e.symm))).trans ((HB0.out.cell (p := ⟨a, 0, none⟩) hla).trans ha); have kc1 : w1.cell? ⟨c, 0, none⟩ = some (.int .i64 sz) := (World.cell?_of_block (a := ⟨c, 0, none⟩) (hgr.block c (Nat.lt_of_lt_of_le hlc HB0.out.size) (fun e => HNE.out.2.2.2.2.2.1 e.symm))).trans ((HB0.out.cell (p := ⟨c, 0, none⟩) hlc).trans hc); have HG1 := Lib.hid hg1; have HOO := Lib.hid ho; have HGR := Lib.hid hgr; have HLI := Lib.hid hlie; clear hg1 ho hgr hlie))
  all_goals
    have hk := gt_kept HNN.out HH.out HFL.out HSZ.out HD.out HKD.out HB0.out HVS.out HCE.out H4.out H3.out HROW.out HOO.out HGR.out HLI.out HG1.out
    have ka2 := (World.cell?_setCell_far w1 ⟨g, 12, none⟩ ⟨a, 0, none⟩ (.slice (some ⟨gr, 0, none⟩) (n + 1) cr) (fun e => HNE.out.1 e.symm)).trans ka1
    have kc2 := (World.cell?_setCell_far w1 ⟨g, 12, none⟩ ⟨c, 0, none⟩ (.slice (some ⟨gr, 0, none⟩) (n + 1) cr) (fun e => HNE.out.2.2.1 e.symm)).trans kc1
    have HK := Lib.hid hk
    clear hk ka1 kc1 c121 f121 HG1 HOO HGR HLI
    go_upto_region 1 with (fail)
    generalize w1.setCell ⟨g, 12, none⟩ (.slice (some ⟨gr, 0, none⟩) (n + 1) cr) = W2 at HK ka2 kc2 ⊢
    go_wp2_with fail
    refine (gtPass HK.out.1 fun k hk => hk.elim (fun hk => Nat.lt_of_lt_of_le (HFL.out k hk) HK.out.2.size) fun hk => hk.2).mono ?_
    intro e w3 hm
    have hm2 := hm.around HK.out.2 fun k hk => hk
    obtain ⟨rfl, _⟩ := hm
    have HM := Lib.hid hm2
    clear hm2
    go_wp2
    go_end0
    exact HM.out
end Go.Proofs.YtikcnioooihncaaGreat
namespace Go.Proofs.YtikcnioooihncaaGreat
open Go.RowKit

set_option maxRecDepth 100000 in
set_option maxHeartbeats 400000 in
theorem bytes_any {kd : Kd} {w : World} {base top g d r : Nat} {v : Value} {ys : List Int} (h : Cp w base top g kd d r v ys) (hl : ys.length ≤ 1073741824) :
    Calls Tryz.prog 146 #[.pointer (some ⟨g, 0, none⟩)] w (MadeSl ys.length ys w) := by
  obtain ⟨cv, nx, th, h1, _, _⟩ := h.head
  have hb := h.own.bytes
  obtain ⟨A, cap, rfl, _⟩ := h.own.bytes
  have hc : w.cell? ⟨g, 4, none⟩ = some (.slice A ys.length cap) := by simp [World.cell?, h1]
  have HB := Lib.hid hb
  clear h h1 hb
  go_enter Tryz.func146, Tryz.ntmps146
  go_wp2_with (go_at_call 46; refine (clone_sl A ys.length cap ys w HB.out hl).mono ?_; rintro e w1 ⟨A1, c1, rfl, ho1, hb1⟩)
  go_ret
  exact ⟨_, _, rfl, ho1, hb1⟩

set_option maxRecDepth 100000 in
set_option maxHeartbeats 400000 in
theorem bytes_nil (w : World) : Calls Tryz.prog 146 #[.pointer none] w (MadeSl 0 [] w) := by
  go_enter Tryz.func146, Tryz.ntmps146
  go_wp2
  go_ret
  exact ⟨_, _, rfl, World.ownsRow_nil _ _ _ _, Below.refl _ _⟩
end Go.Proofs.YtikcnioooihncaaGreat
namespace Go.Proofs.YtikcnioooihncaaGreat
open Go.RowKit

theorem gt_row {w : World} {F M : Nat → Prop} {g : Nat} {s : Gs} {mv : Value} (h : GtBare w F g s M mv) {k : Nat} (hk : mv.ownBlock = some k) : M k ∧ k < w.heap.size := by
  obtain ⟨vs, _, hr, h3, _⟩ := h.msgs
  exact ⟨h3 k hk, (row_lt hr hk).2⟩

/-- Bytes came in new memory: the message is kept. -/
theorem gt_on {w w2 : World} {F M : Nat → Prop} {g : Nat} {s : Gs} {mv : Value} (h : GtBare w F g s M mv) (hF : ∀ k, F k → k < w.heap.size) {typ : Int} {sz a b c : Nat} (ha : Capt w (fun k => F k ∧ ¬ M k) g a (.pointer (some ⟨g, 0, none⟩))) (hb : Capt w (fun k => F k ∧ ¬ M k) g b (.int .i32 typ)) (hc : Capt w (fun k => F k ∧ ¬ M k) g c (.int .i64 sz)) (hsz : 1 ≤ sz ∧ (sz : Int) ≤ s.left)
    {W : World} (hW : Below w.heap.size w W) {A : Option Addr} {L cp : Nat} {ys : List Int} (ho : Owns W.heap.size w2 (.slice A L cp) ys) (hb2 : Below W.heap.size W w2) :
    Calls Tryz.prog 126 #[.slice A L cp, .pointer (some ⟨a, 0, none⟩), .pointer (some ⟨b, 0, none⟩), .pointer (some ⟨c, 0, none⟩)] w2 (GtMoved F g (s.got typ sz ys) w) := by
  have hw2 : Below w.heap.size w w2 := hW.trans (hb2.mono hW.size)
  have no : ∀ {q : Nat} {u : Value}, Capt w (fun k => F k ∧ ¬ M k) g q u → mv.ownBlock ≠ some q := fun hq e => hq.1.2 (gt_row h e).1
  have at2 : ∀ {q : Nat} {u : Value}, Capt w (fun k => F k ∧ ¬ M k) g q u → w2.cell? ⟨q, 0, none⟩ = some u := fun {q u} hq => (hw2.cell (p := ⟨q, 0, none⟩) (lt_of_cell hq.2.2)).trans hq.2.2
  have hs := hw2.size
  have hWs := hW.size
  have hgl := h.lt
  refine (gtTell1 (F := fun k => F k ∨ (w.heap.size ≤ k ∧ k < w2.heap.size)) ((h.below hw2).wide fun k hk => .inl hk) (fun k hk => hk.elim (fun hk => Nat.lt_of_lt_of_le (hF k hk) hs) fun hk => hk.2) (at2 ha) (at2 hb) (at2 hc) ha.2.1 hb.2.1 hc.2.1 (no ha) (no hb) (no hc) hsz (BytesIn.of_own ho).lt (fun k hk => ⟨.inr ⟨by have := hk.1; omega, hk.2⟩, by have := hk.1; omega, fun e => by have := (gt_row h e).2; have := hk.1; omega⟩)).mono ?_
  intro e w' hm
  exact hm.around (Touch.of_below hw2) fun k hk => hk

set_option maxRecDepth 100000 in
set_option maxHeartbeats 1600000 in
theorem gtRead1 {w : World} {F M : Nat → Prop} {g : Nat} {s : Gs} {mv : Value} (h : GtBare w F g s M mv) (hF : ∀ k, F k → k < w.heap.size) {typ : Int} {sz a b c er ec gc base top n : Nat} {v : Value} {ys : List Int} {kd : Kd}
    (hr : w.cell? ⟨er, 0, none⟩ = some (.func (.func 126) #[] #[.pointer (some ⟨a, 0, none⟩), .pointer (some ⟨b, 0, none⟩), .pointer (some ⟨c, 0, none⟩)])) (hec : w.cell? ⟨ec, 0, none⟩ = some (.pointer (some ⟨gc, 0, none⟩)))
    (ha : Capt w (fun k => F k ∧ ¬ M k) g a (.pointer (some ⟨g, 0, none⟩))) (hb : Capt w (fun k => F k ∧ ¬ M k) g b (.int .i32 typ)) (hc : Capt w (fun k => F k ∧ ¬ M k) g c (.int .i64 sz)) (hsz : 1 ≤ sz ∧ (sz : Int) ≤ s.left) (hcp : Cp w base top gc kd n 0 v ys) (hl : ys.length ≤ 1073741824) :
    Calls Tryz.prog 145 #[.pointer (some ⟨er, 0, none⟩), .pointer (some ⟨ec, 0, none⟩)] w (GtMoved F g (s.got typ sz ys) w) := by
  have hlr := lt_of_cell hr
  have HON := Lib.hid (fun (W w2 : World) (hW : Below w.heap.size w W) (A : Option Addr) (cp : Nat) (ho : Owns W.heap.size w2 (.slice A ys.length cp) ys) (hb2 : Below W.heap.size W w2) => gt_on h hF ha hb hc hsz hW ho hb2)
  have HCP := Lib.hid (fun W (hW : Below w.heap.size w W) => bytes_any (hcp.below hW) hl)
  have HR := Lib.hid hr
  clear h hF ha hb hc hsz hcp hl
  go_enter Tryz.func145, Tryz.ntmps145
  go_region_with
    (first
      | (go_at_call 146; refine (HCP.out _ (Below.refl w.heap.size w).drew).mono ?_; rintro e w2 ⟨A, cp, rfl, ho, hb2⟩; have hr2 := ((below_drew hb2).cell (p := ⟨er, 0, none⟩) hlr).trans HR.out; have HO := Lib.hid ho; have HB2 := Lib.hid hb2; clear ho hb2)
      | (go_at_call 126; refine (HON.out _ _ (Below.refl w.heap.size w).drew _ _ HO.out HB2.out).mono ?_; intro e w3 hm; have HM := Lib.hid hm; obtain ⟨rfl, _⟩ := hm))
  all_goals
    go_wp2
    go_end0
    exact HM.out
end Go.Proofs.YtikcnioooihncaaGreat
