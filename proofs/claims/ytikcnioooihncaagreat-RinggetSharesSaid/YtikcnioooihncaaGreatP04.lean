/-
  The steps that machines are made of, and where a ring's numbers and places stand, walked: what is asked for next, what goes on from its answer.
  Layer 1's Align, walked. Each contract says what a call returns; the world stays as it was.
  Plain arithmetic for layer 3 (head): words joined of numbers, and what they tell; nothing of the program is walked here.
  Layer 3's functions that only reckon, walked: joined, halves, Record, Split, Flags, filled, RecordSize, FrameSize.
  Layer 7's put as a plain machine: its phases, the access of each, what an answer makes of it.
  Layer 7's small functions, walked: a put's block, is there room, the claim's access, what is asked for next.
  The steps follow a copy: its next access is asked for; at its end something else goes on.
  A slice that reads as bytes, and lies in blocks that K names; no function of the program is walked here.
  Layer 7's put in memory: its block, the closure that goes on from its answer, and what that captured.
  Layer 7's put, walked: it begins, it tries, it claims.
-/
import Derived.Test.YtikcnioooihncaaGreatP03
import Derived.Deep.CutRange
import Derived.Deep.QuietTactic
import Derived.Deep.RegionHeld3
import Derived.BigQuiet
import Derived.BigRegion
import Derived.Laws.EntriesVeiled
import Derived.WalkKit
import Derived.Laws.Bits64b
import Derived.Laws.BitsAllLaws
import Derived.IntWalk
import Derived.Test.YtikcnioooihncaaGreatP01
import Derived.Test.YtikcnioooihncaaGreatP02
namespace Go.Proofs.YtikcnioooihncaaGreat
open Go.RowKit

namespace Rg
/-- Where a ring's number stands, k behind its records. -/
def num (B Z : Nat) (k : Int) : Int := (B : Int) + (Z : Int) + k
/-- A position's place. -/
def place (Z : Nat) (v : Int) : Int := v % (Z : Int)
/-- Where a position stands. -/
def spot (B Z : Nat) (v : Int) : Int := (B : Int) + place Z v
/-- A ring that may be. -/
structure Ok (B Z : Nat) : Prop where
  pow : Wd.isP Z = true
  z0 : 64 ≤ Z
  z1 : Z ≤ 8192
  b0 : B % 8 = 0
  b1 : B + Z + 32 ≤ 131072
theorem Ok.place_in {B Z : Nat} (ok : Ok B Z) (v : Int) : 0 ≤ place Z v ∧ place Z v < Z := by
  have := ok.z0
  unfold place
  exact ⟨Int.emod_nonneg _ (by omega), Int.emod_lt_of_pos _ (by omega)⟩
end Rg

theorem un_below (w : World) (a v : Value) (T : TypeId) : Below w.heap.size w (w.alloc (.cells #[a, v] T)) := (Below.refl w.heap.size w).alloc (Nat.le_refl _) _

section
variable {B Z : Nat}

set_option maxRecDepth 100000 in
theorem rgTail (ok : Rg.Ok B Z) (w : World) : Calls Tryz.prog 106 #[.agg #[.int .i64 B, .int .i64 Z]] w (Made (.int .i64 (Rg.num B Z 0)) w) := by
  have b1 := ok.b1
  have e1 : IntKind.i64.wrap ((B : Int) + (Z : Int)) = (B : Int) + Z := IntWalk.i64_in _ (by omega)
  have e2 : IntKind.i64.wrap ((B : Int) + (Z : Int) + 0) = (B : Int) + Z + 0 := IntWalk.i64_in _ (by omega)
  have hb0 := un_below w (.int .i64 B) (.int .i64 Z) 38
  have hx := Go.Deep.blk_alloc_new w (.cells #[.int .i64 B, .int .i64 Z] 38)
  have hv : Hid (Rg.num B Z 0 = (B : Int) + Z + 0) := Lib.hid rfl
  clear ok b1
  go_enter Tryz.func106, Tryz.ntmps106
  go_upto_region 1 with (fail)
  generalize w.alloc (.cells #[.int .i64 B, .int .i64 Z] 38) = W at hb0 hx ⊢
  have x0 : W.cell? ⟨w.heap.size, 0, none⟩ = some (.int .i64 B) := by simp [World.cell?, hx]
  have x1 : W.cell? ⟨w.heap.size, 1, none⟩ = some (.int .i64 Z) := by simp [World.cell?, hx]
  clear hx
  go_wp2
  go_ret
  exact ⟨by rw [hv.out]; rfl, hb0⟩

set_option maxRecDepth 100000 in
theorem rgCopy (ok : Rg.Ok B Z) (w : World) : Calls Tryz.prog 77 #[.agg #[.int .i64 B, .int .i64 Z]] w (Made (.int .i64 (Rg.num B Z 8)) w) := by
  have b1 := ok.b1
  have e1 : IntKind.i64.wrap ((B : Int) + (Z : Int)) = (B : Int) + Z := IntWalk.i64_in _ (by omega)
  have e2 : IntKind.i64.wrap ((B : Int) + (Z : Int) + 8) = (B : Int) + Z + 8 := IntWalk.i64_in _ (by omega)
  have hb0 := un_below w (.int .i64 B) (.int .i64 Z) 38
  have hx := Go.Deep.blk_alloc_new w (.cells #[.int .i64 B, .int .i64 Z] 38)
  have hv : Hid (Rg.num B Z 8 = (B : Int) + Z + 8) := Lib.hid rfl
  clear ok b1
  go_enter Tryz.func77, Tryz.ntmps77
  go_upto_region 1 with (fail)
  generalize w.alloc (.cells #[.int .i64 B, .int .i64 Z] 38) = W at hb0 hx ⊢
  have x0 : W.cell? ⟨w.heap.size, 0, none⟩ = some (.int .i64 B) := by simp [World.cell?, hx]
  have x1 : W.cell? ⟨w.heap.size, 1, none⟩ = some (.int .i64 Z) := by simp [World.cell?, hx]
  clear hx
  go_wp2
  go_ret
  exact ⟨by rw [hv.out]; rfl, hb0⟩

set_option maxRecDepth 100000 in
theorem rgHead (ok : Rg.Ok B Z) (w : World) : Calls Tryz.prog 56 #[.agg #[.int .i64 B, .int .i64 Z]] w (Made (.int .i64 (Rg.num B Z 16)) w) := by
  have b1 := ok.b1
  have e1 : IntKind.i64.wrap ((B : Int) + (Z : Int)) = (B : Int) + Z := IntWalk.i64_in _ (by omega)
  have e2 : IntKind.i64.wrap ((B : Int) + (Z : Int) + 16) = (B : Int) + Z + 16 := IntWalk.i64_in _ (by omega)
  have hb0 := un_below w (.int .i64 B) (.int .i64 Z) 38
  have hx := Go.Deep.blk_alloc_new w (.cells #[.int .i64 B, .int .i64 Z] 38)
  have hv : Hid (Rg.num B Z 16 = (B : Int) + Z + 16) := Lib.hid rfl
  clear ok b1
  go_enter Tryz.func56, Tryz.ntmps56
  go_upto_region 1 with (fail)
  generalize w.alloc (.cells #[.int .i64 B, .int .i64 Z] 38) = W at hb0 hx ⊢
  have x0 : W.cell? ⟨w.heap.size, 0, none⟩ = some (.int .i64 B) := by simp [World.cell?, hx]
  have x1 : W.cell? ⟨w.heap.size, 1, none⟩ = some (.int .i64 Z) := by simp [World.cell?, hx]
  clear hx
  go_wp2
  go_ret
  exact ⟨by rw [hv.out]; rfl, hb0⟩

set_option maxRecDepth 100000 in
theorem rgPlace (ok : Rg.Ok B Z) (v : Int) (w : World) : Calls Tryz.prog 117 #[.agg #[.int .i64 B, .int .i64 Z], .int .i64 v] w (Made (.int .i64 (Rg.place Z v)) w) := by
  have hb0 := un_below w (.int .i64 B) (.int .i64 Z) 38
  have hx := Go.Deep.blk_alloc_new w (.cells #[.int .i64 B, .int .i64 Z] 38)
  have hv : Hid (Wd.mk v Z = Rg.place Z v) := Lib.hid (by unfold Wd.mk Rg.place; rw [if_pos ok.pow])
  have z1 := ok.z1
  clear ok
  go_enter Tryz.func117, Tryz.ntmps117
  go_upto_region 1 with (fail)
  generalize w.alloc (.cells #[.int .i64 B, .int .i64 Z] 38) = W at hb0 hx ⊢
  have x1 : W.cell? ⟨w.heap.size, 1, none⟩ = some (.int .i64 Z) := by simp [World.cell?, hx]
  clear hx
  go_wp2_with (go_at_call 138; refine (mask_any v Z _ (by omega) (by omega)).mono ?_; rintro e w2 ⟨rfl, rfl⟩)
  go_ret
  exact ⟨by rw [hv.out]; rfl, hb0⟩

set_option maxRecDepth 100000 in
theorem rgAt (ok : Rg.Ok B Z) (v : Int) (w : World) : Calls Tryz.prog 120 #[.agg #[.int .i64 B, .int .i64 Z], .int .i64 v] w (Made (.int .i64 (Rg.spot B Z v)) w) := by
  have hb0 := un_below w (.int .i64 B) (.int .i64 Z) 38
  have hx := Go.Deep.blk_alloc_new w (.cells #[.int .i64 B, .int .i64 Z] 38)
  have hp := ok.place_in v
  have b1 := ok.b1
  have e1 : IntKind.i64.wrap ((B : Int) + Rg.place Z v) = (B : Int) + Rg.place Z v := IntWalk.i64_in _ (by omega)
  have hv : Hid (Rg.spot B Z v = (B : Int) + Rg.place Z v) := Lib.hid rfl
  have HO := Lib.hid ok
  clear ok hp b1
  go_enter Tryz.func120, Tryz.ntmps120
  go_upto_region 1 with (fail)
  generalize w.alloc (.cells #[.int .i64 B, .int .i64 Z] 38) = W at hb0 hx ⊢
  have x0 : W.cell? ⟨w.heap.size, 0, none⟩ = some (.int .i64 B) := by simp [World.cell?, hx]
  have x1 : W.cell? ⟨w.heap.size, 1, none⟩ = some (.int .i64 Z) := by simp [World.cell?, hx]
  have hlt := (Array.getElem?_eq_some_iff.1 hx).1
  clear hx
  go_region_held3 (fun w' => w'.cell? ⟨w.heap.size, 0, none⟩ = some (.int .i64 B) ∧ w'.cell? ⟨w.heap.size, 1, none⟩ = some (.int .i64 Z)) (go_keep)
    (first | (go_at_call 117; refine (rgPlace HO.out v _).mono ?_; rintro e w2 ⟨rfl, hb⟩; have hb2 := below_drew hb; have k0 := (hb2.cell (p := ⟨w.heap.size, 0, none⟩) hlt).trans x0; have k1 := (hb2.cell (p := ⟨w.heap.size, 1, none⟩) hlt).trans x1))
  all_goals
    go_wp2
    go_ret
    exact ⟨by rw [hv.out]; rfl, hb0.trans (hb2.mono hb0.size)⟩
end

set_option maxRecDepth 100000 in
theorem stStore (P N : Int) (V : Nat) (w : World) : Calls Tryz.prog 143 #[.int .i64 P, .int .i64 N, .int .u64 V] w (Made (.agg #[.int .i64 2, .int .i64 P, .int .i64 N, .int .u64 V, .int .u64 0, .slice none 0 0]) w) := by
  have HA := AccNew.made w
  have HW := (Below.refl w.heap.size w).alloc (Nat.le_refl _) (.cells #[.int .i64 0, .int .i64 0, .int .i64 0, .int .u64 0, .int .u64 0, .slice none 0 0] 30)
  go_enter Tryz.func143, Tryz.ntmps143
  go_upto_region 1 with (fail)
  generalize w.alloc (.cells #[.int .i64 0, .int .i64 0, .int .i64 0, .int .u64 0, .int .u64 0, .slice none 0 0] 30) = W at HA HW ⊢
  obtain ⟨a0, a1, a2, a3, a4, a5, f0, f1, f2, f3, f4, f5, hbk⟩ := HA
  go_wp2
  refine bodyPost_ret (v := .agg #[.int .i64 2, .int .i64 P, .int .i64 N, .int .u64 V, .int .u64 0, .slice none 0 0]) (by simp [results, Tryz.results143, go_sem, a0, a1, a2, a3, a4, a5]) rfl ?_
  exact ⟨rfl, six_below HW (Nat.le_refl _) _ _ _ _ _ _⟩

set_option maxRecDepth 100000 in
theorem stLoad (P : Int) (w : World) : Calls Tryz.prog 55 #[.int .i64 P] w (Made (.agg #[.int .i64 1, .int .i64 P, .int .i64 8, .int .u64 0, .int .u64 0, .slice none 0 0]) w) := by
  have HA := AccNew.made w
  have HW := (Below.refl w.heap.size w).alloc (Nat.le_refl _) (.cells #[.int .i64 0, .int .i64 0, .int .i64 0, .int .u64 0, .int .u64 0, .slice none 0 0] 30)
  go_enter Tryz.func55, Tryz.ntmps55
  go_upto_region 1 with (fail)
  generalize w.alloc (.cells #[.int .i64 0, .int .i64 0, .int .i64 0, .int .u64 0, .int .u64 0, .slice none 0 0] 30) = W at HA HW ⊢
  obtain ⟨a0, a1, a2, a3, a4, a5, f0, f1, f2, f3, f4, f5, hbk⟩ := HA
  go_wp2
  refine bodyPost_ret (v := .agg #[.int .i64 1, .int .i64 P, .int .i64 8, .int .u64 0, .int .u64 0, .slice none 0 0]) (by simp [results, Tryz.results55, go_sem, a0, a1, a2, a3, a4, a5]) rfl ?_
  exact ⟨rfl, six_below HW (Nat.le_refl _) _ _ _ _ _ _⟩

set_option maxRecDepth 100000 in
theorem stSet (P : Int) (V : Nat) (w : World) : Calls Tryz.prog 122 #[.int .i64 P, .int .u64 V] w (Made (.agg #[.int .i64 2, .int .i64 P, .int .i64 8, .int .u64 V, .int .u64 0, .slice none 0 0]) w) := by
  have HA := Lib.hid (AccNew.made w)
  have HW := Lib.hid ((Below.refl w.heap.size w).alloc (Nat.le_refl _) (.cells #[.int .i64 0, .int .i64 0, .int .i64 0, .int .u64 0, .int .u64 0, .slice none 0 0] 30))
  go_enter Tryz.func122, Tryz.ntmps122
  go_upto_region 1 with (fail)
  generalize w.alloc (.cells #[.int .i64 0, .int .i64 0, .int .i64 0, .int .u64 0, .int .u64 0, .slice none 0 0] 30) = W at HA HW ⊢
  go_wp2_with (go_at_call 143; refine (stStore P 8 V _).mono ?_; rintro e w2 ⟨rfl, hb⟩; obtain ⟨a0, a1, a2, a3, a4, a5, f0, f1, f2, f3, f4, f5, hbk⟩ := HA.out.later hb)
  refine bodyPost_ret (v := .agg #[.int .i64 2, .int .i64 P, .int .i64 8, .int .u64 V, .int .u64 0, .slice none 0 0]) (by simp [results, Tryz.results122, go_sem, a0, a1, a2, a3, a4, a5]) rfl ?_
  exact ⟨rfl, six_below (HW.out.trans (hb.mono HW.out.size)) (Nat.le_refl _) _ _ _ _ _ _⟩

/-- The seven cells of the steps, from cell o of block g on, one after another. -/
def seven (w : World) (g o : Nat) (b : Ac) (bv th : Value) : World :=
  ((((((w.setCell ⟨g, o, none⟩ (.int .i64 b.K)).setCell ⟨g, o + 1, none⟩ (.int .i64 b.P)).setCell ⟨g, o + 2, none⟩ (.int .i64 b.N)).setCell ⟨g, o + 3, none⟩ (.int .u64 b.V)).setCell ⟨g, o + 4, none⟩ (.int .u64 b.U)).setCell ⟨g, o + 5, none⟩ bv).setCell ⟨g, o + 6, none⟩ th

/-- The steps stand in block g from cell o on. -/
structure StAt (w : World) (g o : Nat) (a : Ac) (av th : Value) : Prop where
  s0 : w.cell? ⟨g, o, none⟩ = some (.int .i64 a.K)
  s1 : w.cell? ⟨g, o + 1, none⟩ = some (.int .i64 a.P)
  s2 : w.cell? ⟨g, o + 2, none⟩ = some (.int .i64 a.N)
  s3 : w.cell? ⟨g, o + 3, none⟩ = some (.int .u64 a.V)
  s4 : w.cell? ⟨g, o + 4, none⟩ = some (.int .u64 a.U)
  s5 : w.cell? ⟨g, o + 5, none⟩ = some av
  s6 : w.cell? ⟨g, o + 6, none⟩ = some th
  free : ∀ i, w.frozen? ⟨g, i, none⟩ = false

theorem StAt.lt {w : World} {g o : Nat} {a : Ac} {av th : Value} (h : StAt w g o a av th) : g < w.heap.size := lt_of_cell h.s0
theorem StAt.below {w w' : World} {g o : Nat} {a : Ac} {av th : Value} (h : StAt w g o a av th) (hb : Below w.heap.size w w') : StAt w' g o a av th := by
  have hl := h.lt
  exact ⟨(hb.cell (p := ⟨g, _, none⟩) hl).trans h.s0, (hb.cell (p := ⟨g, _, none⟩) hl).trans h.s1, (hb.cell (p := ⟨g, _, none⟩) hl).trans h.s2, (hb.cell (p := ⟨g, _, none⟩) hl).trans h.s3, (hb.cell (p := ⟨g, _, none⟩) hl).trans h.s4, (hb.cell (p := ⟨g, _, none⟩) hl).trans h.s5, (hb.cell (p := ⟨g, _, none⟩) hl).trans h.s6, fun i => (hb.frozen (p := ⟨g, i, none⟩) hl).trans (h.free i)⟩

theorem seven_touch1 (w : World) (g o : Nat) (b : Ac) (bv th : Value) : Touch (fun k => k = g) w (seven w g o b bv th) :=
  (((((((Touch.refl (fun k => k = g) w).setCell (p := ⟨g, o, none⟩) rfl _).setCell (p := ⟨g, o + 1, none⟩) rfl _).setCell (p := ⟨g, o + 2, none⟩) rfl _).setCell (p := ⟨g, o + 3, none⟩) rfl _).setCell (p := ⟨g, o + 4, none⟩) rfl _).setCell (p := ⟨g, o + 5, none⟩) rfl _).setCell (p := ⟨g, o + 6, none⟩) rfl _

/-- An access was asked for. -/
def StAsked (g o : Nat) (b : Ac) (bv th : Value) (w : World) (e : Ending) (w' : World) : Prop :=
  e = .returned (.tuple #[]) ∧ ∃ W, Below w.heap.size w W ∧ w' = seven W g o b bv th

set_option maxRecDepth 100000 in
set_option maxHeartbeats 800000 in
theorem stDo {w : World} {g o : Nat} {a : Ac} {av th : Value} (h : StAt w g o a av th) (b : Ac) (A : Option Addr) (l c : Nat) (k : FuncId) (rc caps : Array Value) :
    Calls Tryz.prog 54 #[.pointer (some ⟨g, o, none⟩), .agg #[.int .i64 b.K, .int .i64 b.P, .int .i64 b.N, .int .u64 b.V, .int .u64 b.U, .slice A l c], .func (.func k) rc caps] w (StAsked g o b (.slice A l c) (.func (.func k) rc caps) w) := by
  have hw := (Below.refl w.heap.size w).alloc (Nat.le_refl _) (.cells #[.int .i64 b.K, .int .i64 b.P, .int .i64 b.N, .int .u64 b.V, .int .u64 b.U, .slice A l c] 30)
  have hb := Go.Deep.blk_alloc_new w (.cells #[.int .i64 b.K, .int .i64 b.P, .int .i64 b.N, .int .u64 b.V, .int .u64 b.U, .slice A l c] 30)
  have HR := h.below hw
  have hlt := h.lt
  have HW := Lib.hid hw
  clear h hw
  go_enter Tryz.func54, Tryz.ntmps54
  go_upto_region 1 with (fail)
  generalize w.alloc (.cells #[.int .i64 b.K, .int .i64 b.P, .int .i64 b.N, .int .u64 b.V, .int .u64 b.U, .slice A l c] 30) = W at hb HR HW ⊢
  have d0 : W.cell? ⟨w.heap.size, 0, none⟩ = some (.int .i64 b.K) := by simp [World.cell?, hb]
  have d1 : W.cell? ⟨w.heap.size, 1, none⟩ = some (.int .i64 b.P) := by simp [World.cell?, hb]
  have d2 : W.cell? ⟨w.heap.size, 2, none⟩ = some (.int .i64 b.N) := by simp [World.cell?, hb]
  have d3 : W.cell? ⟨w.heap.size, 3, none⟩ = some (.int .u64 b.V) := by simp [World.cell?, hb]
  have d4 : W.cell? ⟨w.heap.size, 4, none⟩ = some (.int .u64 b.U) := by simp [World.cell?, hb]
  have d5 : W.cell? ⟨w.heap.size, 5, none⟩ = some (.slice A l c) := by simp [World.cell?, hb]
  clear hb
  obtain ⟨k9, k10, k11, k12, k13, k14, k15, fr⟩ := HR
  have f9 := fr o
  have f10 := fr (o + 1)
  have f11 := fr (o + 2)
  have f12 := fr (o + 3)
  have f13 := fr (o + 4)
  have f14 := fr (o + 5)
  have f15 := fr (o + 6)
  clear fr
  go_wp2
  go_end0
  exact ⟨rfl, W, HW.out, rfl⟩

theorem st_isFunc (w : World) (f : Fn) (rc caps : Array Value) : (binOp .neq 28 (.func f rc caps) .nilFunc).run Tryz.prog w = .ok (.bool true) w := by kernel_rfl
theorem st_isNil (w : World) : (binOp .neq 28 .nilFunc .nilFunc).run Tryz.prog w = .ok (.bool false) w := by kernel_rfl

set_option maxRecDepth 100000 in
theorem stBusyYes {w : World} {g o : Nat} (k : FuncId) (rc caps : Array Value) (h : w.cell? ⟨g, o + 6, none⟩ = some (.func (.func k) rc caps)) :
    Calls Tryz.prog 29 #[.pointer (some ⟨g, o, none⟩)] w (fun e w' => e = .returned (.bool true) ∧ w = w') := by
  have q1 := st_isFunc
  have q2 := st_isNil
  go_enter Tryz.func29, Tryz.ntmps29
  go_wp2
  go_ret
  exact ⟨rfl, rfl⟩

set_option maxRecDepth 100000 in
theorem stBusyNo {w : World} {g o : Nat} (h : w.cell? ⟨g, o + 6, none⟩ = some .nilFunc) :
    Calls Tryz.prog 29 #[.pointer (some ⟨g, o, none⟩)] w (fun e w' => e = .returned (.bool false) ∧ w = w') := by
  have q1 := st_isFunc
  have q2 := st_isNil
  go_enter Tryz.func29, Tryz.ntmps29
  go_wp2
  go_ret
  exact ⟨rfl, rfl⟩

set_option maxRecDepth 100000 in
set_option maxHeartbeats 800000 in
theorem stNextNo {w : World} {g o : Nat} (h : w.cell? ⟨g, o + 6, none⟩ = some .nilFunc) :
    Calls Tryz.prog 28 #[.pointer (some ⟨g, o, none⟩)] w (NextTold none w) := by
  have HA := AccNew.made w
  have HW := Lib.hid ((Below.refl w.heap.size w).alloc (Nat.le_refl _) (.cells #[.int .i64 0, .int .i64 0, .int .i64 0, .int .u64 0, .int .u64 0, .slice none 0 0] 30))
  have h6 := (HW.out.cell (p := ⟨g, o + 6, none⟩) (lt_of_cell h)).trans h
  clear h
  go_enter Tryz.func28, Tryz.ntmps28
  go_upto_region 1 with (fail)
  generalize w.alloc (.cells #[.int .i64 0, .int .i64 0, .int .i64 0, .int .u64 0, .int .u64 0, .slice none 0 0] 30) = W at HA HW h6 ⊢
  obtain ⟨a0, a1, a2, a3, a4, a5, f0, f1, f2, f3, f4, f5, hbk⟩ := HA
  go_wp2_with (go_at_call 29; refine (stBusyNo h6).mono ?_; rintro e w2 ⟨rfl, rfl⟩)
  refine bodyPost_ret (v := .tuple #[.agg #[.int .i64 0, .int .i64 0, .int .i64 0, .int .u64 0, .int .u64 0, .slice none 0 0], .bool false]) (by simp [results, Tryz.results28, go_sem, a0, a1, a2, a3, a4, a5]) rfl ?_
  exact ⟨six_below HW.out (Nat.le_refl _) _ _ _ _ _ _, rfl⟩

set_option maxRecDepth 100000 in
set_option maxHeartbeats 1600000 in
theorem stNextYes {w : World} {g o : Nat} {a : Ac} {A : Option Addr} {l c : Nat} {k : FuncId} {rc caps : Array Value} (h : StAt w g o a (.slice A l c) (.func (.func k) rc caps)) (hb : BytesAt w (.slice A l c) a.bs) (hl : a.bs.length ≤ 1073741824) :
    Calls Tryz.prog 28 #[.pointer (some ⟨g, o, none⟩)] w (NextTold (some a) w) := by
  have HA := Lib.hid (AccNew.made w)
  have HW := Lib.hid ((Below.refl w.heap.size w).alloc (Nat.le_refl _) (.cells #[.int .i64 0, .int .i64 0, .int .i64 0, .int .u64 0, .int .u64 0, .slice none 0 0] 30))
  have HS := h.below HW.out
  have HBy := Lib.hid (hb.below HW.out)
  have hlen : a.bs.length = l := by obtain ⟨_, _, e, _⟩ := hb; injection e with _ e _; exact e.symm
  have HL := Lib.hid (show l ≤ 1073741824 by omega)
  have hlt := h.lt
  clear h hb hl hlen
  go_enter Tryz.func28, Tryz.ntmps28
  go_upto_region 1 with (fail)
  have hsz : (w.alloc (.cells #[.int .i64 0, .int .i64 0, .int .i64 0, .int .u64 0, .int .u64 0, .slice none 0 0] 30)).heap.size = w.heap.size + 1 := by simp
  generalize w.alloc (.cells #[.int .i64 0, .int .i64 0, .int .i64 0, .int .u64 0, .int .u64 0, .slice none 0 0] 30) = W at HA HW HS HBy hsz ⊢
  obtain ⟨k0, k1, k2, k3, k4, k5, k6, _⟩ := HS
  go_upto_region 4 with (go_at_call 29; refine (stBusyYes k rc caps k6).mono ?_; rintro e w2 ⟨rfl, rfl⟩)
  have hx := Go.Deep.blk_alloc_new W (.cells #[.int .i64 a.K, .int .i64 a.P, .int .i64 a.N, .int .u64 a.V, .int .u64 a.U, .slice A l c] 30)
  have hW2 := (Below.refl W.heap.size W).alloc (Nat.le_refl _) (.cells #[.int .i64 a.K, .int .i64 a.P, .int .i64 a.N, .int .u64 a.V, .int .u64 a.U, .slice A l c] 30)
  rw [hsz] at hx
  have HA2 := Lib.hid (HA.out.later hW2)
  have HW2 := Lib.hid (HW.out.trans (hW2.mono HW.out.size))
  have HB2 := Lib.hid (HBy.out.below hW2)
  clear k0 k1 k2 k3 k4 k5 k6 hW2 HBy HA HW
  generalize W.alloc (.cells #[.int .i64 a.K, .int .i64 a.P, .int .i64 a.N, .int .u64 a.V, .int .u64 a.U, .slice A l c] 30) = W2 at hx HA2 HW2 HB2 ⊢
  have hlx := (Array.getElem?_eq_some_iff.1 hx).1
  have x5 : W2.cell? ⟨w.heap.size + 1, 5, none⟩ = some (.slice A l c) := by simp [World.cell?, hx]
  have HX := Lib.hid hx
  clear hx
  go_wp2_with fail
  refine (clone_sl A l c a.bs W2 HB2.out HL.out).mono ?_
  rintro e w3 ⟨A2, c2, rfl, ho2, hb2⟩
  obtain ⟨a0, a1, a2, a3, a4, a5, f0, f1, f2, f3, f4, f5, hbk⟩ := HA2.out.later hb2
  have hq := (hb2.block _ hlx).trans HX.out
  have x0 : w3.cell? ⟨w.heap.size + 1, 0, none⟩ = some (.int .i64 a.K) := by simp [World.cell?, hq]
  have x1 : w3.cell? ⟨w.heap.size + 1, 1, none⟩ = some (.int .i64 a.P) := by simp [World.cell?, hq]
  have x2 : w3.cell? ⟨w.heap.size + 1, 2, none⟩ = some (.int .i64 a.N) := by simp [World.cell?, hq]
  have x3 : w3.cell? ⟨w.heap.size + 1, 3, none⟩ = some (.int .u64 a.V) := by simp [World.cell?, hq]
  have x4 : w3.cell? ⟨w.heap.size + 1, 4, none⟩ = some (.int .u64 a.U) := by simp [World.cell?, hq]
  have y5 : w3.cell? ⟨w.heap.size + 1, 5, none⟩ = some (.slice A l c) := by simp [World.cell?, hq]
  have z5 : w3.frozen? ⟨w.heap.size + 1, 5, none⟩ = false := by simp [World.frozen?, hq]
  have hl3 : w.heap.size + 1 < w3.heap.size := Nat.lt_of_lt_of_le hlx hb2.size
  have HO2 := Lib.hid ho2
  have HB3 := Lib.hid hb2
  clear hq hbk ho2 hb2
  go_wp2_with fail
  refine bodyPost_ret (v := .tuple #[.agg #[.int .i64 a.K, .int .i64 a.P, .int .i64 a.N, .int .u64 a.V, .int .u64 a.U, .slice A2 l c2], .bool true]) (by simp [results, Tryz.results28, go_sem, a0, a1, a2, a3, a4, a5]) rfl ?_
  have hB3 := (HW2.out.trans (HB3.out.mono HW2.out.size)).setCell (p := ⟨w.heap.size + 1, 5, none⟩) (Nat.le_succ _) (.slice A2 l c2)
  have hO3 := HO2.out.setCell (p := ⟨w.heap.size + 1, 5, none⟩) hlx (.slice A2 l c2)
  exact ⟨six_below hB3 (Nat.le_refl _) _ _ _ _ _ _, A2, l, c2, rfl, (six_own hO3 (Nat.lt_of_succ_lt hlx) _ _ _ _ _ _).down HW2.out.size⟩

set_option maxRecDepth 100000 in
set_option maxHeartbeats 800000 in
theorem stTakeNo {w : World} {g o : Nat} (h : w.cell? ⟨g, o + 6, none⟩ = some .nilFunc) (V : Nat) (D : Bool) (A : Option Addr) (l c : Nat) :
    Calls Tryz.prog 27 #[.pointer (some ⟨g, o, none⟩), .agg #[.int .u64 V, .bool D, .slice A l c]] w (fun e w' => e = .returned (.tuple #[]) ∧ Below w.heap.size w w') := by
  have HW := Lib.hid ((Below.refl w.heap.size w).alloc (Nat.le_refl _) (.cells #[.int .u64 V, .bool D, .slice A l c] 25))
  have h6 := (HW.out.cell (p := ⟨g, o + 6, none⟩) (lt_of_cell h)).trans h
  clear h
  go_enter Tryz.func27, Tryz.ntmps27
  go_upto_region 1 with (fail)
  generalize w.alloc (.cells #[.int .u64 V, .bool D, .slice A l c] 25) = W at HW h6 ⊢
  go_wp2_with (go_at_call 29; refine (stBusyNo h6).mono ?_; rintro e w2 ⟨rfl, rfl⟩)
  refine bodyPost_ret (v := .tuple #[]) (by simp [results, Tryz.results27, go_sem]) rfl ?_
  exact ⟨rfl, HW.out⟩

set_option maxRecDepth 100000 in
set_option maxHeartbeats 1600000 in
theorem stTakeYes {w : World} {g o : Nat} {a : Ac} {av : Value} {k : FuncId} {rc caps : Array Value} (h : StAt w g o a av (.func (.func k) rc caps)) (V : Nat) (D : Bool) (A : Option Addr) (l c : Nat) {Q : World → Prop}
    (args : Array Value) (hargs : rc.push (.agg #[.int .u64 V, .bool D, .slice A l c]) ++ caps = args) (hent : ∀ w, (callFunc k args).run Tryz.prog w = .ok (.enter k args) w)
    (H : ∀ W, Below w.heap.size w W → Calls Tryz.prog k args (seven W g o Ac.zero (.slice none 0 0) .nilFunc) fun e w' => e = .returned (.tuple #[]) ∧ Q w') :
    Calls Tryz.prog 27 #[.pointer (some ⟨g, o, none⟩), .agg #[.int .u64 V, .bool D, .slice A l c]] w fun e w' => e = .returned (.tuple #[]) ∧ Q w' := by
  have HW := Lib.hid ((Below.refl w.heap.size w).alloc (Nat.le_refl _) (.cells #[.int .u64 V, .bool D, .slice A l c] 25))
  have hx := Go.Deep.blk_alloc_new w (.cells #[.int .u64 V, .bool D, .slice A l c] 25)
  have HS := h.below HW.out
  have hlt := h.lt
  clear h
  go_enter Tryz.func27, Tryz.ntmps27
  go_upto_region 1 with (fail)
  generalize w.alloc (.cells #[.int .u64 V, .bool D, .slice A l c] 25) = W at HW HS hx ⊢
  obtain ⟨k0, k1, k2, k3, k4, k5, k6, fr⟩ := HS
  have f9 := fr o
  have f10 := fr (o + 1)
  have f11 := fr (o + 2)
  have f12 := fr (o + 3)
  have f13 := fr (o + 4)
  have f14 := fr (o + 5)
  have f15 := fr (o + 6)
  have hne : ¬ g = w.heap.size := by omega
  have x0 : W.cell? ⟨w.heap.size, 0, none⟩ = some (.int .u64 V) := by simp [World.cell?, hx]
  have x1 : W.cell? ⟨w.heap.size, 1, none⟩ = some (.bool D) := by simp [World.cell?, hx]
  have x2 : W.cell? ⟨w.heap.size, 2, none⟩ = some (.slice A l c) := by simp [World.cell?, hx]
  clear fr hx
  have HC := H W HW.out
  unfold seven at HC
  have he := hent ((((((((W.setCell ⟨g, o, none⟩ (.int .i64 0)).setCell ⟨g, o + 1, none⟩ (.int .i64 0)).setCell ⟨g, o + 2, none⟩ (.int .i64 0)).setCell ⟨g, o + 3, none⟩ (.int .u64 0)).setCell ⟨g, o + 4, none⟩ (.int .u64 0)).setCell ⟨g, o + 5, none⟩ (.slice none 0 0)).setCell ⟨g, o + 6, none⟩ .nilFunc))
  go_wp2_with (go_at_call 29; refine (stBusyYes k rc caps k6).mono ?_; rintro e w2 ⟨rfl, rfl⟩)
  refine HC.mono ?_
  rintro e w2 ⟨rfl, hq⟩
  go_wp2_with fail
  go_end0
  exact ⟨rfl, hq⟩
end Go.Proofs.YtikcnioooihncaaGreat
namespace Go.Proofs.YtikcnioooihncaaGreat
open Go.RowKit

/-- api.ErrArg. -/
def errArg : Int := 1
def alE (n tz : Int) : Int := if Wd.alOk n tz = true then 0 else errArg

set_option maxHeartbeats 400000 in
theorem align_any (n tz : Int) (w : World) (h1 : tz ≤ 9223372036854775807) (h0 : -9223372036854775808 ≤ tz) :
    Calls Tryz.prog 105 #[.int .i64 n, .int .i64 tz] w fun e w' => e = .returned (.tuple #[.int .i64 (Wd.al n tz), .int .i64 (alE n tz)]) ∧ w = w' := by
  cases hp : Wd.isP tz with
  | true =>
    have hb := Wd.isP_bounds hp
    by_cases hn : 0 ≤ n ∧ n ≤ 4611686018427387904
    · obtain ⟨hn0, hn1⟩ := hn
      have hm := Wd.andNot_mask (n + tz - 1) tz hp (by omega) (by omega)
      have hok : Wd.alOk n tz = true := by unfold Wd.alOk; rw [hp]; simp [hn0, hn1]
      have e : Wd.al n tz = (n + tz - 1) / tz * tz := by unfold Wd.al; rw [if_pos hok]
      have e2 : alE n tz = 0 := by unfold alE; rw [if_pos hok]
      have HP := Lib.hid hp
      have HM := Lib.hid (e.trans hm.symm)
      have HE := Lib.hid e2
      obtain ⟨hb1, hb2⟩ := hb
      clear hp hm e e2 hok
      go_enter Tryz.func105, Tryz.ntmps105
      go_wp2_with (go_at_call 51; refine (isPower_any _ _ (by omega) (by omega)).mono ?_; rintro e w' ⟨rfl, rfl⟩; rw [HP.out])
      go_ret2
      refine ⟨ret_tup ?_ (by rw [HE.out]), rfl⟩
      show Wd.al n tz = bits BinOp.andNot IntKind.i64 (wrap64 (wrap64 (n + tz) - 1)) (tz - 1)
      have ew : wrap64 (wrap64 (n + tz) - 1) = n + tz - 1 := by unfold wrap64; omega
      rw [HM.out, ew]
    · have hok : Wd.alOk n tz = false := by unfold Wd.alOk; rw [hp]; simp; omega
      have e : Wd.al n tz = 0 := by unfold Wd.al; rw [hok]; rfl
      have e2 : alE n tz = 1 := by unfold alE; rw [hok]; rfl
      have HP := Lib.hid hp
      have HM := Lib.hid e
      have HE := Lib.hid e2
      clear hp e e2 hok
      by_cases hn0 : 0 ≤ n
      · have hn1 : 4611686018427387904 < n := by omega
        clear hn
        go_enter Tryz.func105, Tryz.ntmps105
        go_wp2_with (go_at_call 51; refine (isPower_any _ _ (by omega) (by omega)).mono ?_; rintro e w' ⟨rfl, rfl⟩; rw [HP.out])
        go_ret2
        exact ⟨by rw [HM.out, HE.out]; rfl, rfl⟩
      · have hn1 : n < 0 := by omega
        clear hn hn0
        go_enter Tryz.func105, Tryz.ntmps105
        go_wp2_with (go_at_call 51; refine (isPower_any _ _ (by omega) (by omega)).mono ?_; rintro e w' ⟨rfl, rfl⟩; rw [HP.out])
        go_ret2
        exact ⟨by rw [HM.out, HE.out]; rfl, rfl⟩
  | false =>
    have hok : Wd.alOk n tz = false := by unfold Wd.alOk; rw [hp]; rfl
    have e : Wd.al n tz = 0 := by unfold Wd.al; rw [hok]; rfl
    have e2 : alE n tz = 1 := by unfold alE; rw [hok]; rfl
    have HP := Lib.hid hp
    have HM := Lib.hid e
    have HE := Lib.hid e2
    clear hp e e2 hok
    go_enter Tryz.func105, Tryz.ntmps105
    go_wp2_with (go_at_call 51; refine (isPower_any _ _ (by omega) (by omega)).mono ?_; rintro e w' ⟨rfl, rfl⟩; rw [HP.out])
    go_ret2
    exact ⟨by rw [HM.out, HE.out]; rfl, rfl⟩

end Go.Proofs.YtikcnioooihncaaGreat
namespace Go.Proofs.YtikcnioooihncaaGreat
namespace Hd
open Go

/-- The number with its sign that four bytes tell. -/
def s32 (x : Int) : Int := if x % 4294967296 < 2147483648 then x % 4294967296 else x % 4294967296 - 4294967296
/-- A word of two numbers of four bytes. -/
def jn (l h : Int) : Int := l % 4294967296 + h % 4294967296 * 4294967296
/-- A frame's first word. -/
def fw (l v f t : Int) : Int := l % 4294967296 + v * 4294967296 + f * 1099511627776 + t * 281474976710656

theorem s32_wrap (x : Int) : IntKind.i32.wrap x = s32 x := by
  rw [IntKind.wrap_i32]
  unfold s32
  split <;> omega

theorem s32_wrap32 (x : Int) : RowKit.wrap32 x = s32 x := by
  unfold RowKit.wrap32 s32
  split <;> omega

theorem or_add (x y : Int) (n : Nat) (hn : n ≤ 64) (hx : 0 ≤ x) (hx1 : x < 2 ^ n) (hy : 0 ≤ y) (h : y * 2 ^ n < 18446744073709551616) :
    bits BinOp.or IntKind.u64 x (y * 2 ^ n) = x + y * 2 ^ n := by
  obtain ⟨a, rfl⟩ := Int.eq_ofNat_of_zero_le hx
  obtain ⟨c, rfl⟩ := Int.eq_ofNat_of_zero_le hy
  have e : (c : Int) * 2 ^ n = ((2 ^ n * c : Nat) : Int) := by rw [Int.natCast_mul, Int.mul_comm]; simp
  rw [e] at h ⊢
  have ha : a < 2 ^ n := by
    have : (a : Int) < ((2 ^ n : Nat) : Int) := by simpa using hx1
    omega
  have hle : 2 ^ n * c < 18446744073709551616 := by omega
  have h64 : 2 ^ n ≤ 2 ^ 64 := Nat.pow_le_pow_right (by decide) hn
  rw [u64_or_nat a _ (by omega) hle, Nat.or_comm, ← Nat.two_pow_add_eq_or_of_lt ha]
  omega

theorem u32_wrap (x : Int) : IntKind.u32.wrap x = x % 4294967296 := by
  simp [IntKind.wrap, IntKind.bits, IntKind.signed]

theorem u64_small (x : Int) (h0 : 0 ≤ x) (h1 : x < 18446744073709551616) : IntKind.u64.wrap x = x := by
  rw [IntKind.wrap_u64]; exact Int.emod_eq_of_lt h0 h1

/-- The word as the program joins it. -/
theorem jn_bits (l h : Int) : bits BinOp.or IntKind.u64 (IntKind.u64.wrap (IntKind.u32.wrap l)) (IntKind.u64.wrap (IntKind.u64.wrap (IntKind.u32.wrap h) * 2 ^ 32)) = jn l h := by
  rw [u32_wrap, u32_wrap, u64_small _ (by omega) (by omega), u64_small (h % 4294967296) (by omega) (by omega), u64_small _ (by omega) (by omega),
    or_add _ _ 32 (by omega) (by omega) (by omega) (by omega) (by omega)]
  rfl
theorem jn_bits' (l h : Int) : bits BinOp.or IntKind.u64 (l % 4294967296) (h % 4294967296 * 4294967296) = jn l h :=
  or_add (l % 4294967296) (h % 4294967296) 32 (by omega) (by omega) (by omega) (by omega) (by omega)
/-- A frame's first word, as the program joins it. -/
theorem fw_bits (l v f t : Int) (v0 : 0 ≤ v) (v1 : v ≤ 255) (f0 : 0 ≤ f) (f1 : f ≤ 255) (t0 : 0 ≤ t) (t1 : t ≤ 65535) :
    bits BinOp.or IntKind.u64 (bits BinOp.or IntKind.u64 (bits BinOp.or IntKind.u64 (IntKind.u64.wrap (IntKind.u32.wrap l)) (IntKind.u64.wrap (IntKind.u64.wrap v * 2 ^ 32)))
      (IntKind.u64.wrap (IntKind.u64.wrap f * 2 ^ 40))) (IntKind.u64.wrap (IntKind.u64.wrap t * 2 ^ 48)) = fw l v f t := by
  rw [u32_wrap, u64_small (l % 4294967296) (by omega) (by omega), u64_small v (by omega) (by omega), u64_small f (by omega) (by omega), u64_small t (by omega) (by omega),
    u64_small (v * 2 ^ 32) (by omega) (by omega), u64_small (f * 2 ^ 40) (by omega) (by omega), u64_small (t * 2 ^ 48) (by omega) (by omega),
    or_add _ _ 32 (by omega) (by omega) (by omega) (by omega) (by omega), or_add _ _ 40 (by omega) (by omega) (by omega) (by omega) (by omega),
    or_add _ _ 48 (by omega) (by omega) (by omega) (by omega) (by omega)]
  rfl

theorem fw_bits' (l v f t : Int) (v0 : 0 ≤ v) (v1 : v ≤ 255) (f0 : 0 ≤ f) (f1 : f ≤ 255) (t0 : 0 ≤ t) (t1 : t ≤ 65535) :
    bits BinOp.or IntKind.u64 (bits BinOp.or IntKind.u64 (bits BinOp.or IntKind.u64 (l % 4294967296) (v * 4294967296)) (f * 1099511627776)) (t * 281474976710656) = fw l v f t := by
  have e1 := or_add (l % 4294967296) v 32 (by omega) (by omega) (by omega) v0 (by omega)
  have e2 := or_add (l % 4294967296 + v * 4294967296) f 40 (by omega) (by omega) (by omega) f0 (by omega)
  have e3 := or_add (l % 4294967296 + v * 4294967296 + f * 1099511627776) t 48 (by omega) (by omega) (by omega) t0 (by omega)
  exact ((congrArg (fun x => bits BinOp.or IntKind.u64 (bits BinOp.or IntKind.u64 x (f * 1099511627776)) (t * 281474976710656)) e1).trans
    (congrArg (fun x => bits BinOp.or IntKind.u64 x (t * 281474976710656)) e2)).trans e3

theorem s32_eq (x y : Int) (h : x % 4294967296 = y % 4294967296) : s32 x = s32 y := by unfold s32; rw [h]
theorem s32_in (x : Int) (h0 : -2147483648 ≤ x) (h1 : x ≤ 2147483647) : s32 x = x := by unfold s32; split <;> omega
theorem s32_mod (x : Int) : s32 x % 4294967296 = x % 4294967296 := by unfold s32; split <;> omega
theorem s32_bounds (x : Int) : -2147483648 ≤ s32 x ∧ s32 x ≤ 2147483647 := by unfold s32; split <;> omega

/-- What a word tells that was joined of two numbers. -/
theorem jn_low (l h : Int) (l0 : -2147483648 ≤ l) (l1 : l ≤ 2147483647) : s32 (jn l h) = l := by
  unfold jn s32; split <;> omega
theorem jn_high (l h : Int) (h0 : -2147483648 ≤ h) (h1 : h ≤ 2147483647) : s32 (jn l h / 4294967296) = h := by
  unfold jn s32; split <;> omega
theorem jn_bounds (l h : Int) : 0 ≤ jn l h ∧ jn l h < 18446744073709551616 := by unfold jn; omega
/-- The word that what a word tells is joined to. -/
theorem jn_back (v : Int) (h0 : 0 ≤ v) (h1 : v < 18446744073709551616) : jn (s32 v) (s32 (v / 4294967296)) = v := by
  unfold jn; rw [s32_mod, s32_mod]; omega
theorem fw_bounds (l v f t : Int) (v0 : 0 ≤ v) (v1 : v ≤ 255) (f0 : 0 ≤ f) (f1 : f ≤ 255) (t0 : 0 ≤ t) (t1 : t ≤ 65535) : 0 ≤ fw l v f t ∧ fw l v f t < 18446744073709551616 := by unfold fw; omega
theorem fw_low (l v f t : Int) (l0 : -2147483648 ≤ l) (l1 : l ≤ 2147483647) : s32 (fw l v f t) = l := by
  unfold fw s32; split <;> omega
theorem fw_tells (l v f t : Int) (v0 : 0 ≤ v) (v1 : v ≤ 255) (f0 : 0 ≤ f) (f1 : f ≤ 255) (t0 : 0 ≤ t) (t1 : t ≤ 65535) :
    fw l v f t / 4294967296 % 256 = v ∧ fw l v f t / 1099511627776 % 256 = f ∧ fw l v f t / 281474976710656 % 65536 = t := by unfold fw; omega
theorem fw_back (w : Int) (h0 : 0 ≤ w) (h1 : w < 18446744073709551616) :
    fw (s32 w) (w / 4294967296 % 256) (w / 1099511627776 % 256) (w / 281474976710656 % 65536) = w := by
  unfold fw; rw [s32_mod]; omega
end Hd
end Go.Proofs.YtikcnioooihncaaGreat
namespace Go.Proofs.YtikcnioooihncaaGreat
open Go.RowKit

theorem ret_k {k : IntKind} {a b : Int} (h : b = a) : Ending.returned (.int k a) = .returned (.int k b) := by rw [h]
theorem ret_two {k l : IntKind} {a b c d : Int} (h : c = a) (h' : d = b) : Ending.returned (.tuple #[.int k a, .int l b]) = .returned (.tuple #[.int k c, .int l d]) := by rw [h, h']

theorem joined_any (l h : Int) (w : World) :
    Calls Tryz.prog 160 #[.int .i32 l, .int .i32 h] w fun e w' => e = .returned (.int .u64 (Hd.jn l h)) ∧ w = w' := by
  have H := Lib.hid (Hd.jn_bits' l h)
  go_enter Tryz.func160, Tryz.ntmps160
  go_wp2
  go_ret
  exact ⟨ret_k H.out.symm, rfl⟩

theorem halves_any (v : Int) (w : World) :
    Calls Tryz.prog 127 #[.int .u64 v] w fun e w' => e = .returned (.tuple #[.int .i32 (Hd.s32 v), .int .i32 (Hd.s32 (v / 4294967296))]) ∧ w = w' := by
  go_enter Tryz.func127, Tryz.ntmps127
  go_wp2
  go_ret2
  exact ⟨ret_two (Hd.s32_wrap32 v).symm (Hd.s32_wrap32 (v / 4294967296)).symm, rfl⟩

theorem record_any (l h : Int) (w : World) :
    Calls Tryz.prog 150 #[.int .i32 l, .int .i32 h] w fun e w' => e = .returned (.int .u64 (Hd.jn l h)) ∧ w = w' := by
  go_enter Tryz.func150, Tryz.ntmps150
  go_wp2_with (go_at_call 160; refine (joined_any _ _ _).mono ?_; rintro e w' ⟨rfl, rfl⟩)
  go_ret
  exact ⟨rfl, rfl⟩

theorem split_any (v : Int) (w : World) :
    Calls Tryz.prog 93 #[.int .u64 v] w fun e w' => e = .returned (.tuple #[.int .i32 (Hd.s32 v), .int .i32 (Hd.s32 (v / 4294967296))]) ∧ w = w' := by
  go_enter Tryz.func93, Tryz.ntmps93
  go_wp2_with (go_at_call 127; refine (halves_any _ _).mono ?_; rintro e w' ⟨rfl, rfl⟩)
  go_ret2
  exact ⟨rfl, rfl⟩

/-- The flags. -/
def flg (a b : Bool) : Int := (if a then 128 else 0) + (if b then 64 else 0)

/-- What a header and n bytes take. -/
def szOk (n : Int) : Bool := decide (0 ≤ n) && decide (n ≤ 131072)
def sz (n head tz : Int) : Int := if szOk n = true then Wd.al (head + n) tz else 0
def szE (n head tz : Int) : Int := if szOk n = true then alE (head + n) tz else 1

theorem al_in (n tz : Int) (h : Wd.alOk n tz = true) : 0 ≤ Wd.al n tz ∧ Wd.al n tz ≤ 4611686018427387904 := by
  have hp : Wd.isP tz = true := by unfold Wd.alOk at h; simp at h; exact h.1
  have h0 : 0 ≤ n ∧ n ≤ 4611686018427387904 := by unfold Wd.alOk at h; simp at h; exact h.2
  obtain ⟨hd, hz, hs, hl⟩ := Wd.up_cases n tz hp h0.1 h0.2
  unfold Wd.al
  rw [if_pos h]
  by_cases he : n % tz = 0
  · rw [hz he]; exact h0
  · rw [hs he]
    have hb := Wd.isP_bounds hp
    exact ⟨Int.mul_nonneg (by omega) (by omega), (hl he).2⟩

theorem al_i64 (n tz : Int) : IntKind.i64.wrap (Wd.al n tz) = Wd.al n tz := by
  have hb : 0 ≤ Wd.al n tz ∧ Wd.al n tz ≤ 4611686018427387904 := by
    cases h : Wd.alOk n tz with
    | true => exact al_in n tz h
    | false =>
      have e : Wd.al n tz = 0 := by unfold Wd.al; rw [h]; rfl
      rw [e]
      exact ⟨by decide, by decide⟩
  exact IntWalk.i64_in _ (by omega)

set_option maxHeartbeats 400000 in
theorem filled_any (n head tz : Int) (w : World) (a0 : 0 ≤ head) (a1 : head ≤ 1000) (b0 : -9223372036854775808 ≤ tz) (b1 : tz ≤ 9223372036854775807) :
    Calls Tryz.prog 76 #[.int .i64 n, .int .i64 head, .int .i64 tz] w fun e w' => e = .returned (.tuple #[.int .i64 (sz n head tz), .int .i64 (szE n head tz)]) ∧ w = w' := by
  by_cases h0 : 0 ≤ n
  · by_cases h1 : n ≤ 131072
    · have hk : szOk n = true := by unfold szOk; simp [h0, h1]
      have e1 : sz n head tz = Wd.al (head + n) tz := by unfold sz; rw [if_pos hk]
      have e2 : szE n head tz = alE (head + n) tz := by unfold szE; rw [if_pos hk]
      rw [e1, e2]
      clear e1 e2 hk
      have hw : IntKind.i64.wrap (head + n) = head + n := IntWalk.i64_in _ (by omega)
      go_enter Tryz.func76, Tryz.ntmps76
      go_wp2_with (go_at_call 105; refine (align_any _ _ _ (by omega) (by omega)).mono ?_; rintro e w' ⟨rfl, rfl⟩)
      go_ret2
      exact ⟨rfl, rfl⟩
    · have hk : szOk n = false := by unfold szOk; simp; omega
      have e1 : sz n head tz = 0 := by unfold sz; rw [hk]; rfl
      have e2 : szE n head tz = 1 := by unfold szE; rw [hk]; rfl
      rw [e1, e2]
      have h1' : 131072 < n := by omega
      clear e1 e2 hk h1
      go_enter Tryz.func76, Tryz.ntmps76
      go_wp2
      go_ret2
      exact ⟨rfl, rfl⟩
  · have hk : szOk n = false := by unfold szOk; simp; omega
    have e1 : sz n head tz = 0 := by unfold sz; rw [hk]; rfl
    have e2 : szE n head tz = 1 := by unfold szE; rw [hk]; rfl
    rw [e1, e2]
    have h0' : n < 0 := by omega
    clear e1 e2 hk h0
    go_enter Tryz.func76, Tryz.ntmps76
    go_wp2
    go_ret2
    exact ⟨rfl, rfl⟩

theorem recordSize_any (n : Int) (w : World) :
    Calls Tryz.prog 45 #[.int .i64 n] w fun e w' => e = .returned (.tuple #[.int .i64 (sz n 8 8), .int .i64 (szE n 8 8)]) ∧ w = w' := by
  go_enter Tryz.func45, Tryz.ntmps45
  go_wp2_with (go_at_call 76; refine (filled_any _ 8 8 _ (by omega) (by omega) (by omega) (by omega)).mono ?_; rintro e w' ⟨rfl, rfl⟩)
  go_ret2
  exact ⟨rfl, rfl⟩

end Go.Proofs.YtikcnioooihncaaGreat
namespace Go.Proofs.YtikcnioooihncaaGreat
open Go.RowKit

/-- Where a put is. -/
inductive Ph where
  | ask | tail | head1 | copy1 | head2 (gap : Int) | copy2 (gap : Int) | cas (pad : Int) | padd (pad : Int) | hdr | byt (d : Nat) | len | fin

/-- A put: its ring, its type, its bytes; what it was told, what it claimed; where it is, and its fault. -/
structure Rs where
  B : Nat
  Z : Nat
  typ : Int
  f : Nat → Nat
  L : Nat
  h : Int
  t : Int
  p : Int
  cl : Bool
  ph : Ph
  er : Int

namespace Rs
/-- Bytes that a record takes. -/
def need (s : Rs) : Int := 8 * (((s.L + 15) / 8 : Nat) : Int)
/-- A number with its sign. -/
def wr (x : Int) : Int := wrap64 x
/-- A number without. -/
def un (x : Int) : Nat := (x % 18446744073709551616).toNat
def place (s : Rs) (v : Int) : Int := Rg.place s.Z v
def fits (s : Rs) : Bool := decide (s.need ≤ wr ((s.Z : Int) - wr (s.t - s.h)))
def ahead (s : Rs) : Bool := decide (s.need ≤ s.place s.h)
def gap (s : Rs) : Int := (s.Z : Int) - s.place s.t
def num (s : Rs) (k : Int) : Int := Rg.num s.B s.Z k
def spot (s : Rs) (v : Int) : Int := Rg.spot s.B s.Z v
/-- The access that a put is at. -/
def next (s : Rs) : Option Ac :=
  match s.ph with
  | .ask => some ⟨1, s.num 8, 8, 0, 0, []⟩
  | .tail => some ⟨1, s.num 0, 8, 0, 0, []⟩
  | .head1 | .head2 _ => some ⟨1, s.num 16, 8, 0, 0, []⟩
  | .copy1 | .copy2 _ => some ⟨2, s.num 8, 8, un s.h, 0, []⟩
  | .cas pad => some ⟨4, s.num 0, 8, un s.t, un (wr (wr (s.t + s.need) + pad)), []⟩
  | .padd pad => some ⟨2, s.spot s.t, 8, (Hd.jn pad (-1)).toNat, 0, []⟩
  | .hdr => some ⟨2, s.spot s.p, 8, (Hd.jn (-(8 + (s.L : Int))) s.typ).toNat, 0, []⟩
  | .byt d => some ⟨6, s.spot s.p + 8 + (d : Nat), (Cy.nx (s.L - d) : Nat), 0, 0, Mb.bl s.f d (Cy.nx (s.L - d))⟩
  | .len => some ⟨2, s.spot s.p, 4, 8 + s.L, 0, []⟩
  | .fin => none
/-- Room was found at the tail: the claim there, or one behind padding, or the head is asked. -/
def choose (s : Rs) : Rs := if s.need ≤ s.gap then { s with ph := .cas 0 } else if s.ahead = true then { s with ph := .cas s.gap } else { s with ph := .head2 s.gap }
/-- An answer is taken. -/
def take (s : Rs) (x : An) : Rs :=
  match s.ph with
  | .ask => { s with h := wr x.V, ph := .tail }
  | .tail => if ({ s with t := wr x.V } : Rs).fits = true then ({ s with t := wr x.V } : Rs).choose else { s with t := wr x.V, ph := .head1 }
  | .head1 => if ({ s with h := wr x.V } : Rs).fits = true then { s with h := wr x.V, ph := .copy1 } else { s with h := wr x.V, ph := .fin, er := 5 }
  | .copy1 => s.choose
  | .head2 gap => if ({ s with h := wr x.V } : Rs).ahead = true then { s with h := wr x.V, ph := .copy2 gap } else { s with h := wr x.V, ph := .fin, er := 5 }
  | .copy2 gap => { s with ph := .cas gap }
  | .cas pad => if x.D = false then { s with ph := .tail } else if pad = 0 then { s with p := wr (s.t + pad), cl := true, ph := .hdr } else { s with p := wr (s.t + pad), cl := true, ph := .padd pad }
  | .padd _ => { s with ph := .hdr }
  | .hdr => if s.L = 0 then { s with ph := .len } else { s with ph := .byt 0 }
  | .byt d => if d + Cy.nx (s.L - d) = s.L then { s with ph := .len } else { s with ph := .byt (d + Cy.nx (s.L - d)) }
  | .len => { s with ph := .fin }
  | .fin => s

/-- What holds of a put at any time. -/
structure Ok (s : Rs) : Prop where
  pow : Wd.isP s.Z = true
  z0 : 64 ≤ s.Z
  z1 : s.Z ≤ 8192
  b0 : s.B % 8 = 0
  b1 : s.B + s.Z + 32 ≤ 131072
  t0 : 1 ≤ s.typ
  t1 : s.typ ≤ 2147483647
  few : 8 * s.L ≤ s.Z
  isB : Mb.IsB s.f
  h0 : -9223372036854775808 ≤ s.h ∧ s.h ≤ 9223372036854775807
  tl : -9223372036854775808 ≤ s.t ∧ s.t ≤ 9223372036854775807
  ps : -9223372036854775808 ≤ s.p ∧ s.p ≤ 9223372036854775807

theorem wr_in (x : Int) : -9223372036854775808 ≤ wr x ∧ wr x ≤ 9223372036854775807 := by
  unfold wr wrap64
  omega
theorem Ok.rg {s : Rs} (ok : s.Ok) : Rg.Ok s.B s.Z := ⟨ok.pow, ok.z0, ok.z1, ok.b0, ok.b1⟩
theorem Ok.place_in {s : Rs} (ok : s.Ok) (v : Int) : 0 ≤ s.place v ∧ s.place v < s.Z := ok.rg.place_in v
end Rs

/-- A put's block: its fields, the access that it is at, what goes on from its answer. -/
def RpCells (s : Rs) (dv : Value) (a : Ac) (av th : Value) : Array Value :=
  #[.int .i64 s.B, .int .i64 s.Z, .int .i32 s.typ, dv, .int .i64 s.need, .int .i64 a.K, .int .i64 a.P, .int .i64 a.N, .int .u64 a.V, .int .u64 a.U, av, th, .int .i64 s.h, .int .i64 s.t, .int .i64 s.p, .bool s.cl, .int .i64 s.er]
/-- A put stands in block g. -/
def RpBlk (w : World) (g : Nat) (s : Rs) (dv : Value) (a : Ac) (av th : Value) : Prop := w.heap[g]? = some (.cells (RpCells s dv a av th) 99 (0, 0))
end Go.Proofs.YtikcnioooihncaaGreat
namespace Go.Proofs.YtikcnioooihncaaGreat
open Go.RowKit

namespace RpBlk
variable {w w' : World} {g : Nat} {s : Rs} {dv av th : Value} {a : Ac}
theorem lt (h : RpBlk w g s dv a av th) : g < w.heap.size := (Array.getElem?_eq_some_iff.1 h).1
theorem below (h : RpBlk w g s dv a av th) (hb : Below w.heap.size w w') : RpBlk w' g s dv a av th := (hb.block g h.lt).trans h
theorem of_block (h : RpBlk w g s dv a av th) (hb : w'.heap[g]? = w.heap[g]?) : RpBlk w' g s dv a av th := hb.trans h
theorem c0 (h : RpBlk w g s dv a av th) : w.cell? ⟨g, 0, none⟩ = some (.int .i64 s.B) := by simp [World.cell?, show w.heap[g]? = _ from h, RpCells]
theorem c1 (h : RpBlk w g s dv a av th) : w.cell? ⟨g, 1, none⟩ = some (.int .i64 s.Z) := by simp [World.cell?, show w.heap[g]? = _ from h, RpCells]
theorem c2 (h : RpBlk w g s dv a av th) : w.cell? ⟨g, 2, none⟩ = some (.int .i32 s.typ) := by simp [World.cell?, show w.heap[g]? = _ from h, RpCells]
theorem c3 (h : RpBlk w g s dv a av th) : w.cell? ⟨g, 3, none⟩ = some (dv) := by simp [World.cell?, show w.heap[g]? = _ from h, RpCells]
theorem c4 (h : RpBlk w g s dv a av th) : w.cell? ⟨g, 4, none⟩ = some (.int .i64 s.need) := by simp [World.cell?, show w.heap[g]? = _ from h, RpCells]
theorem c5 (h : RpBlk w g s dv a av th) : w.cell? ⟨g, 5, none⟩ = some (.int .i64 a.K) := by simp [World.cell?, show w.heap[g]? = _ from h, RpCells]
theorem c6 (h : RpBlk w g s dv a av th) : w.cell? ⟨g, 6, none⟩ = some (.int .i64 a.P) := by simp [World.cell?, show w.heap[g]? = _ from h, RpCells]
theorem c7 (h : RpBlk w g s dv a av th) : w.cell? ⟨g, 7, none⟩ = some (.int .i64 a.N) := by simp [World.cell?, show w.heap[g]? = _ from h, RpCells]
theorem c8 (h : RpBlk w g s dv a av th) : w.cell? ⟨g, 8, none⟩ = some (.int .u64 a.V) := by simp [World.cell?, show w.heap[g]? = _ from h, RpCells]
theorem c9 (h : RpBlk w g s dv a av th) : w.cell? ⟨g, 9, none⟩ = some (.int .u64 a.U) := by simp [World.cell?, show w.heap[g]? = _ from h, RpCells]
theorem c10 (h : RpBlk w g s dv a av th) : w.cell? ⟨g, 10, none⟩ = some (av) := by simp [World.cell?, show w.heap[g]? = _ from h, RpCells]
theorem c11 (h : RpBlk w g s dv a av th) : w.cell? ⟨g, 11, none⟩ = some (th) := by simp [World.cell?, show w.heap[g]? = _ from h, RpCells]
theorem c12 (h : RpBlk w g s dv a av th) : w.cell? ⟨g, 12, none⟩ = some (.int .i64 s.h) := by simp [World.cell?, show w.heap[g]? = _ from h, RpCells]
theorem c13 (h : RpBlk w g s dv a av th) : w.cell? ⟨g, 13, none⟩ = some (.int .i64 s.t) := by simp [World.cell?, show w.heap[g]? = _ from h, RpCells]
theorem c14 (h : RpBlk w g s dv a av th) : w.cell? ⟨g, 14, none⟩ = some (.int .i64 s.p) := by simp [World.cell?, show w.heap[g]? = _ from h, RpCells]
theorem c15 (h : RpBlk w g s dv a av th) : w.cell? ⟨g, 15, none⟩ = some (.bool s.cl) := by simp [World.cell?, show w.heap[g]? = _ from h, RpCells]
theorem c16 (h : RpBlk w g s dv a av th) : w.cell? ⟨g, 16, none⟩ = some (.int .i64 s.er) := by simp [World.cell?, show w.heap[g]? = _ from h, RpCells]
theorem free (h : RpBlk w g s dv a av th) (i : Nat) : w.frozen? ⟨g, i, none⟩ = false := by simp [World.frozen?, show w.heap[g]? = _ from h]
theorem st (h : RpBlk w g s dv a av th) : StAt w g 5 a av th := ⟨h.c5, h.c6, h.c7, h.c8, h.c9, h.c10, h.c11, h.free⟩
end RpBlk

section
variable {w : World} {g : Nat} {s : Rs} {dv av th : Value} {a : Ac}

theorem rpTailC (ok : s.Ok) (w : World) : Calls Tryz.prog 106 #[.agg #[.int .i64 s.B, .int .i64 s.Z]] w (Made (.int .i64 (s.num 0)) w) := rgTail ok.rg w
theorem rpCopyC (ok : s.Ok) (w : World) : Calls Tryz.prog 77 #[.agg #[.int .i64 s.B, .int .i64 s.Z]] w (Made (.int .i64 (s.num 8)) w) := rgCopy ok.rg w
theorem rpHeadC (ok : s.Ok) (w : World) : Calls Tryz.prog 56 #[.agg #[.int .i64 s.B, .int .i64 s.Z]] w (Made (.int .i64 (s.num 16)) w) := rgHead ok.rg w
theorem rpPlaceC (ok : s.Ok) (v : Int) (w : World) : Calls Tryz.prog 117 #[.agg #[.int .i64 s.B, .int .i64 s.Z], .int .i64 v] w (Made (.int .i64 (s.place v)) w) := rgPlace ok.rg v w
theorem rpAtC (ok : s.Ok) (v : Int) (w : World) : Calls Tryz.prog 120 #[.agg #[.int .i64 s.B, .int .i64 s.Z], .int .i64 v] w (Made (.int .i64 (s.spot v)) w) := rgAt ok.rg v w

set_option maxRecDepth 100000 in
theorem rpFits (h : RpBlk w g s dv a av th) : Calls Tryz.prog 109 #[.pointer (some ⟨g, 0, none⟩)] w (Made (.bool s.fits) w) := by
  have c1 := h.c1
  have c4 := h.c4
  have c12 := h.c12
  have c13 := h.c13
  have hv : Hid (decide (s.need ≤ wrap64 ((s.Z : Int) - wrap64 (s.t - s.h))) = s.fits) := Lib.hid rfl
  clear h
  go_enter Tryz.func109, Tryz.ntmps109
  go_upto_region 1 with (fail)
  go_quiet (fail)
  go_wp2
  go_ret
  exact ⟨by rw [← hv.out]; rfl, drewN_below _ _⟩

set_option maxRecDepth 100000 in
theorem rpAhead (h : RpBlk w g s dv a av th) (ok : s.Ok) : Calls Tryz.prog 135 #[.pointer (some ⟨g, 0, none⟩)] w (Made (.bool s.ahead) w) := by
  have c0 := h.c0
  have c1 := h.c1
  have c4 := h.c4
  have c12 := h.c12
  have hv : Hid (decide (s.need ≤ s.place s.h) = s.ahead) := Lib.hid rfl
  have HO := Lib.hid ok
  have hlt := h.lt
  clear h ok
  go_enter Tryz.func135, Tryz.ntmps135
  go_upto_region 1 with (fail)
  go_region_held3 (fun w' => w'.cell? ⟨g, 0, none⟩ = some (.int .i64 s.B) ∧ w'.cell? ⟨g, 1, none⟩ = some (.int .i64 s.Z) ∧ w'.cell? ⟨g, 4, none⟩ = some (.int .i64 s.need) ∧ w'.cell? ⟨g, 12, none⟩ = some (.int .i64 s.h)) (go_keep)
    (first | (go_at_call 117; refine (rpPlaceC HO.out s.h _).mono ?_; rintro e w2 ⟨rfl, hb⟩; have hb2 := below_drew hb; have k0 := (hb2.cell (p := ⟨g, 0, none⟩) hlt).trans c0; have k1 := (hb2.cell (p := ⟨g, 1, none⟩) hlt).trans c1; have k4 := (hb2.cell (p := ⟨g, 4, none⟩) hlt).trans c4; have k5 := (hb2.cell (p := ⟨g, 12, none⟩) hlt).trans c12))
  all_goals
    go_wp2
    go_ret
    exact ⟨by rw [← hv.out]; rfl, hb2⟩

/-- What 'Do' leaves: another access is asked for, something else goes on from its answer. -/
def RpAsked (g : Nat) (s : Rs) (dv : Value) (a : Ac) (av th : Value) (w : World) (e : Ending) (w' : World) : Prop :=
  e = .returned (.tuple #[]) ∧ RpBlk w' g s dv a av th ∧ Touch (fun k => k = g) w w'

theorem rp_seven {w : World} {g : Nat} {s : Rs} {dv av th : Value} {a : Ac} (h : RpBlk w g s dv a av th) (b : Ac) (bv th' : Value) :
    RpBlk (seven w g 5 b bv th') g s dv b bv th' := by
  have h' : w.heap[g]? = some (.cells (RpCells s dv a av th) 99 (0, 0)) := h
  unfold RpBlk seven
  simp [World.setCell, Array.getElem?_modify, h', RpCells]

theorem rp_st {w w' : World} {g : Nat} {s : Rs} {dv av th : Value} {a b : Ac} {bv th' : Value} {e : Ending} (h : RpBlk w g s dv a av th) (hs : StAsked g 5 b bv th' w e w') : RpAsked g s dv b bv th' w e w' := by
  obtain ⟨rfl, W, hb, rfl⟩ := hs
  exact ⟨rfl, rp_seven (h.below hb) b bv th', (Touch.of_below hb).trans (seven_touch1 W g 5 b bv th')⟩

theorem rpDo (h : RpBlk w g s dv a av th) (b : Ac) (A : Option Addr) (l c : Nat) (k : FuncId) (rc caps : Array Value) :
    Calls Tryz.prog 54 #[.pointer (some ⟨g, 5, none⟩), .agg #[.int .i64 b.K, .int .i64 b.P, .int .i64 b.N, .int .u64 b.V, .int .u64 b.U, .slice A l c], .func (.func k) rc caps] w (RpAsked g s dv b (.slice A l c) (.func (.func k) rc caps) w) :=
  (stDo h.st b A l c k rc caps).mono fun _ _ hs => rp_st h hs

theorem un_wrap (x : Int) : IntKind.u64.wrap x = ((Rs.un x : Nat) : Int) := by
  have h : 0 ≤ x % 18446744073709551616 := Int.emod_nonneg _ (by decide)
  unfold Rs.un
  rw [Int.toNat_of_nonneg h]
  simp [IntKind.wrap, IntKind.signed, IntKind.bits]

set_option maxRecDepth 100000 in
set_option maxHeartbeats 800000 in
theorem rpAdvance (h : RpBlk w g s dv a av th) (ok : s.Ok) (pad : Int) :
    Calls Tryz.prog 147 #[.pointer (some ⟨g, 0, none⟩), .int .i64 pad] w (Made (.agg #[.int .i64 4, .int .i64 (s.num 0), .int .i64 8, .int .u64 (Rs.un s.t : Nat), .int .u64 (Rs.un (Rs.wr (Rs.wr (s.t + s.need) + pad)) : Nat), .slice none 0 0]) w) := by
  have HA := Lib.hid (AccNew.made w)
  have HW := Lib.hid ((Below.refl w.heap.size w).alloc (Nat.le_refl _) (.cells #[.int .i64 0, .int .i64 0, .int .i64 0, .int .u64 0, .int .u64 0, .slice none 0 0] 30))
  have hb0 := (Below.refl w.heap.size w).alloc (Nat.le_refl _) (.cells #[.int .i64 0, .int .i64 0, .int .i64 0, .int .u64 0, .int .u64 0, .slice none 0 0] 30)
  have HR := Lib.hid (h.below hb0)
  have HO := Lib.hid ok
  have hu1 : IntKind.u64.wrap s.t = ((Rs.un s.t : Nat) : Int) := un_wrap _
  have hu2 : IntKind.u64.wrap (IntKind.i64.wrap (IntKind.i64.wrap (s.t + s.need) + pad)) = ((Rs.un (Rs.wr (Rs.wr (s.t + s.need) + pad)) : Nat) : Int) := by rw [IntWalk.i64_left, IntWalk.i64_left]; exact un_wrap _
  have hlt0 := h.lt
  have hgn : ¬ g = w.heap.size := by omega
  have hgn2 : ¬ w.heap.size = g := by omega
  clear h ok hb0
  go_enter Tryz.func147, Tryz.ntmps147
  go_upto_region 1 with (fail)
  generalize w.alloc (.cells #[.int .i64 0, .int .i64 0, .int .i64 0, .int .u64 0, .int .u64 0, .slice none 0 0] 30) = W at HA HW HR ⊢
  have k0 := HR.out.c0
  have k1 := HR.out.c1
  have k3 := HR.out.c4
  have k5 := HR.out.c13
  have hlt := HR.out.lt
  go_region_held3 (fun w' => w'.cell? ⟨g, 0, none⟩ = some (.int .i64 s.B) ∧ w'.cell? ⟨g, 1, none⟩ = some (.int .i64 s.Z) ∧ w'.cell? ⟨g, 4, none⟩ = some (.int .i64 s.need) ∧ w'.cell? ⟨g, 13, none⟩ = some (.int .i64 s.t)) (go_keep)
    (first | (go_at_call 106; refine (rpTailC HO.out _).mono ?_; rintro e w2 ⟨rfl, hb⟩; have hb2 := below_drew hb; have m0 := (hb2.cell (p := ⟨g, 0, none⟩) hlt).trans k0; have m1 := (hb2.cell (p := ⟨g, 1, none⟩) hlt).trans k1; have m4 := (hb2.cell (p := ⟨g, 4, none⟩) hlt).trans k3; have m6 := (hb2.cell (p := ⟨g, 13, none⟩) hlt).trans k5; obtain ⟨a0, a1, a2, a3, a4, a5, f0, f1, f2, f3, f4, f5, hbk⟩ := HA.out.later hb2))
  all_goals
    go_wp2
    refine bodyPost_ret (v := .agg #[.int .i64 4, .int .i64 (s.num 0), .int .i64 8, .int .u64 (Rs.un s.t : Nat), .int .u64 (Rs.un (Rs.wr (Rs.wr (s.t + s.need) + pad)) : Nat), .slice none 0 0]) (by simp [results, Tryz.results147, go_sem, a0, a1, a2, a3, a4, a5]) rfl ?_
    exact ⟨rfl, six_below (HW.out.trans (hb2.mono HW.out.size)) (Nat.le_refl _) _ _ _ _ _ _⟩
end
end Go.Proofs.YtikcnioooihncaaGreat
namespace Go.Proofs.YtikcnioooihncaaGreat
open Go.RowKit

theorem rp_box (w : World) (v : Value) (T : TypeId) : (w.alloc (.cells #[v] T)).cell? ⟨w.heap.size, 0, none⟩ = some v := by
  have h := Go.Deep.blk_alloc_new w (.cells #[v] T)
  unfold World.cell?
  simp only [h]
  rfl

theorem rp_boxes (w : World) (v0 v1 v2 : Value) (T0 T1 T2 : TypeId) (WW : World) (hWW : WW = ((w.alloc (.cells #[v0] T0)).alloc (.cells #[v1] T1)).alloc (.cells #[v2] T2)) :
    Below w.heap.size w WW ∧ WW.cell? ⟨w.heap.size, 0, none⟩ = some v0 ∧ WW.cell? ⟨w.heap.size + 1, 0, none⟩ = some v1 ∧ WW.cell? ⟨w.heap.size + 2, 0, none⟩ = some v2 ∧ WW.heap.size = w.heap.size + 3 := by
  have b1 := (Below.refl w.heap.size w).alloc (Nat.le_refl _) (.cells #[v0] T0)
  have x1 := rp_box w v0 T0
  have s1 : (w.alloc (.cells #[v0] T0)).heap.size = w.heap.size + 1 := by simp
  generalize w.alloc (.cells #[v0] T0) = W1 at *
  have b2 := (Below.refl W1.heap.size W1).alloc (Nat.le_refl _) (.cells #[v1] T1)
  have x2 := rp_box W1 v1 T1
  have s2 : (W1.alloc (.cells #[v1] T1)).heap.size = W1.heap.size + 1 := by simp
  have y1 := (b2.cell (p := ⟨w.heap.size, 0, none⟩) (by show w.heap.size < _; omega)).trans x1
  generalize W1.alloc (.cells #[v1] T1) = W2 at *
  have b3 := (Below.refl W2.heap.size W2).alloc (Nat.le_refl _) (.cells #[v2] T2)
  have x3 := rp_box W2 v2 T2
  have s3 : (W2.alloc (.cells #[v2] T2)).heap.size = W2.heap.size + 1 := by simp
  have z1 := (b3.cell (p := ⟨w.heap.size, 0, none⟩) (by show w.heap.size < _; omega)).trans y1
  have z2 := (b3.cell (p := ⟨W1.heap.size, 0, none⟩) (by show W1.heap.size < _; omega)).trans x2
  rw [s1] at z2
  rw [s2, s1] at x3
  subst hWW
  exact ⟨(b1.trans (b2.mono (by omega))).trans (b3.mono (by omega)), z1, z2, x3, by omega⟩

set_option maxRecDepth 100000 in
set_option maxHeartbeats 1600000 in
theorem stFollowNo {w : World} {base top gc d : Nat} {kd : Kd} {v : Value} {ys : List Int} (h : Cp w base top gc kd d 0 v ys) (g o : Nat) {k : FuncId} {rc caps : Array Value} {Q : World → Prop}
    (args : Array Value) (hargs : rc ++ caps = args) (hent : ∀ w, (callFunc k args).run Tryz.prog w = .ok (.enter k args) w)
    (H : ∀ W, Below w.heap.size w W → Calls Tryz.prog k args W fun e w' => e = .returned (.tuple #[]) ∧ Q w') :
    Calls Tryz.prog 118 #[.pointer (some ⟨g, o, none⟩), .iface 179 (.pointer (some ⟨gc, 0, none⟩)), .func (.func k) rc caps] w fun e w' => e = .returned (.tuple #[]) ∧ Q w' := by
  obtain ⟨WW, hWW⟩ : ∃ WW, WW = ((w.alloc (.cells #[.pointer (some ⟨g, o, none⟩)] 116)).alloc (.cells #[.iface 179 (.pointer (some ⟨gc, 0, none⟩))] 190)).alloc (.cells #[.func (.func k) rc caps] 1) := ⟨_, rfl⟩
  obtain ⟨hw3, x0, x1, x2, hsz⟩ := rp_boxes w (.pointer (some ⟨g, o, none⟩)) (.iface 179 (.pointer (some ⟨gc, 0, none⟩))) (.func (.func k) rc caps) _ _ _ WW hWW
  have HC := Lib.hid (h.below hw3)
  have HW := Lib.hid hw3
  have HH := Lib.hid H
  have hme := method_next_at gc
  clear h hw3 H
  go_enter Tryz.func118, Tryz.ntmps118
  go_upto_region 1 with (fail)
  rw [← hWW]
  clear hWW
  have hent' : ∀ w, (callFunc k (rc ++ caps)).run Tryz.prog w = .ok (.enter k args) w := fun w => by rw [hargs]; exact hent w
  go_wp2_with (go_at_call 180; refine (next_no HC.out).mono ?_; rintro e w1 ⟨rfl, hb⟩; have y2 := (hb.cell (p := ⟨w.heap.size + 1 + 1, 0, none⟩) (show w.heap.size + 1 + 1 < WW.heap.size by omega)).trans x2; have z2 := fun q => (World.cell?_alloc_lt w1 q ⟨w.heap.size + 1 + 1, 0, none⟩ (lt_of_cell y2)).trans y2)
  refine (HH.out _ (HW.out.trans ((hb.alloc hb.size _).mono HW.out.size))).mono ?_
  rintro e w2 ⟨rfl, hq⟩
  go_wp2_with fail
  refine bodyPost_ret (v := .tuple #[]) (by simp [results, Tryz.results118, go_sem]) rfl ?_
  exact ⟨rfl, hq⟩

/-- A copy's next access was asked for; the steps, the copy and what goes on stand in boxes. -/
def StFollows (g o gc : Nat) (kon : FuncId) (rc caps : Array Value) (a : Ac) (w : World) (e : Ending) (w' : World) : Prop :=
  e = .returned (.tuple #[]) ∧ ∃ W A l c, Below w.heap.size w W ∧ Owns (w.heap.size + 3) W (.slice A l c) a.bs ∧
    W.cell? ⟨w.heap.size, 0, none⟩ = some (.pointer (some ⟨g, o, none⟩)) ∧ W.cell? ⟨w.heap.size + 1, 0, none⟩ = some (.iface 179 (.pointer (some ⟨gc, 0, none⟩))) ∧ W.cell? ⟨w.heap.size + 2, 0, none⟩ = some (.func (.func kon) rc caps) ∧
    w' = seven W g o a (.slice A l c) (.func (.func 139) #[] #[.pointer (some ⟨w.heap.size + 1, 0, none⟩), .pointer (some ⟨w.heap.size, 0, none⟩), .pointer (some ⟨w.heap.size + 2, 0, none⟩)])

set_option maxRecDepth 100000 in
set_option maxHeartbeats 1600000 in
theorem stFollowYes {w : World} {base top gc d r : Nat} {kd : Kd} {v : Value} {ys : List Int} (h : Cp w base top gc kd d r v ys) (hr : 0 < r) {g o : Nat} {a0 : Ac} {av th : Value} (hs : StAt w g o a0 av th) (kon : FuncId) (rc caps : Array Value) :
    Calls Tryz.prog 118 #[.pointer (some ⟨g, o, none⟩), .iface 179 (.pointer (some ⟨gc, 0, none⟩)), .func (.func kon) rc caps] w (StFollows g o gc kon rc caps ⟨kd.kind, kd.place + d, (Cy.nx r : Nat), 0, 0, kd.bytes d (Cy.nx r)⟩ w) := by
  obtain ⟨WW, hWW⟩ : ∃ WW, WW = ((w.alloc (.cells #[.pointer (some ⟨g, o, none⟩)] 116)).alloc (.cells #[.iface 179 (.pointer (some ⟨gc, 0, none⟩))] 190)).alloc (.cells #[.func (.func kon) rc caps] 1) := ⟨_, rfl⟩
  obtain ⟨hw3, x0, x1, x2, hsz⟩ := rp_boxes w (.pointer (some ⟨g, o, none⟩)) (.iface 179 (.pointer (some ⟨gc, 0, none⟩))) (.func (.func kon) rc caps) _ _ _ WW hWW
  have HC := Lib.hid (h.below hw3)
  have HS := Lib.hid (hs.below hw3)
  have HW := Lib.hid hw3
  have hme := method_next_at gc
  generalize hK : kd.kind = K
  generalize hP : kd.place + (d : Int) = P
  generalize hN : ((Cy.nx r : Nat) : Int) = N
  generalize hB : kd.bytes d (Cy.nx r) = b
  have HN := Lib.hid (next_as HC.out hr hK hP hN hB)
  clear hK hP hN hB h hs hw3 hr
  go_enter Tryz.func118, Tryz.ntmps118
  go_upto_region 1 with (fail)
  rw [← hWW]
  clear hWW
  have hl0 : w.heap.size < WW.heap.size := by omega
  have hl1 : w.heap.size + 1 < WW.heap.size := by omega
  have hl2 : w.heap.size + 1 + 1 < WW.heap.size := by omega
  have hmf : ∀ (fn : Fn) (first cap : Array Value) (w : World), (Instr.makeFunc fn first cap).run Tryz.prog w = .ok (.func fn first cap) w := fun _ _ _ _ => rfl
  go_upto_region 4 with (go_at_call 180; refine HN.out.mono ?_; rintro e w1 ⟨A, l, c, rfl, ho, hb⟩)
  have hx := Go.Deep.blk_alloc_new w1 (.cells #[.int .i64 K, .int .i64 P, .int .i64 N, .int .u64 0, .int .u64 0, .slice A l c] 30)
  have hb2 := hb.alloc hb.size (.cells #[.int .i64 K, .int .i64 P, .int .i64 N, .int .u64 0, .int .u64 0, .slice A l c] 30)
  have ho2 := ho.alloc (.cells #[.int .i64 K, .int .i64 P, .int .i64 N, .int .u64 0, .int .u64 0, .slice A l c] 30)
  have y0 := (hb2.cell (p := ⟨w.heap.size, 0, none⟩) hl0).trans x0
  have y1 := (hb2.cell (p := ⟨w.heap.size + 1, 0, none⟩) hl1).trans x1
  have y2 := (hb2.cell (p := ⟨w.heap.size + 1 + 1, 0, none⟩) hl2).trans x2
  have HO := Lib.hid ho2
  have HS2 := Lib.hid (HS.out.below hb2)
  have HB2 := Lib.hid hb2
  generalize w1.alloc (.cells #[.int .i64 K, .int .i64 P, .int .i64 N, .int .u64 0, .int .u64 0, .slice A l c] 30) = W2 at hx y0 y1 y2 HO HS2 HB2 ⊢
  have d0 : W2.cell? ⟨w1.heap.size, 0, none⟩ = some (.int .i64 K) := by simp [World.cell?, hx]
  have d1 : W2.cell? ⟨w1.heap.size, 1, none⟩ = some (.int .i64 P) := by simp [World.cell?, hx]
  have d2 : W2.cell? ⟨w1.heap.size, 2, none⟩ = some (.int .i64 N) := by simp [World.cell?, hx]
  have d3 : W2.cell? ⟨w1.heap.size, 3, none⟩ = some (.int .u64 0) := by simp [World.cell?, hx]
  have d4 : W2.cell? ⟨w1.heap.size, 4, none⟩ = some (.int .u64 0) := by simp [World.cell?, hx]
  have d5 : W2.cell? ⟨w1.heap.size, 5, none⟩ = some (.slice A l c) := by simp [World.cell?, hx]
  clear hx hb hb2 ho ho2 x0 x1 x2
  go_wp2_with fail
  refine (stDo HS2.out ⟨K, P, N, 0, 0, b⟩ A l c 139 #[] #[.pointer (some ⟨w.heap.size + 1, 0, none⟩), .pointer (some ⟨w.heap.size, 0, none⟩), .pointer (some ⟨w.heap.size + 1 + 1, 0, none⟩)]).mono ?_
  rintro e w4 ⟨rfl, W4, hb4, rfl⟩
  have z0 := (hb4.cell (p := ⟨w.heap.size, 0, none⟩) (lt_of_cell y0)).trans y0
  have z1 := (hb4.cell (p := ⟨w.heap.size + 1, 0, none⟩) (lt_of_cell y1)).trans y1
  have z2 := (hb4.cell (p := ⟨w.heap.size + 1 + 1, 0, none⟩) (lt_of_cell y2)).trans y2
  have hO4 := HO.out.below hb4
  have hB4 := HW.out.trans ((HB2.out.trans (hb4.mono HB2.out.size)).mono HW.out.size)
  go_wp2_with fail
  go_end0
  exact ⟨rfl, W4, A, l, c, hB4, by rw [← hsz]; exact hO4, z0, z1, z2, rfl⟩

set_option maxRecDepth 100000 in
set_option maxHeartbeats 1600000 in
/-- The copy's access was answered: the copy takes the answer, and is followed further. -/
theorem stFollow1 {w : World} {base top gc d r : Nat} {kd : Kd} {v : Value} {ys zs : List Int} (h : Cp w base top gc kd d r v ys) (hr : 0 < r) {g o em es eo : Nat} {kon : FuncId} {rc caps : Array Value}
    (hm : w.cell? ⟨em, 0, none⟩ = some (.iface 179 (.pointer (some ⟨gc, 0, none⟩)))) (hs : w.cell? ⟨es, 0, none⟩ = some (.pointer (some ⟨g, o, none⟩))) (ho : w.cell? ⟨eo, 0, none⟩ = some (.func (.func kon) rc caps))
    (hnm : ¬ Mine gc v em) (hns : ¬ Mine gc v es) (hno : ¬ Mine gc v eo)
    (V : Nat) (D : Bool) (A : Option Addr) (L cp : Nat) (hz : BytesAt w (.slice A L cp) zs) (hl : kd.reads = true → ys.length + zs.length ≤ 1073741824) {Q : World → Prop}
    (H : ∀ W v', Cp W base top gc kd (d + Cy.nx r) (r - Cy.nx r) v' (ys ++ if kd.reads then zs else []) → Touch (Mine gc v) w W → Lies v v' w →
      Calls Tryz.prog 118 #[.pointer (some ⟨g, o, none⟩), .iface 179 (.pointer (some ⟨gc, 0, none⟩)), .func (.func kon) rc caps] W fun e w' => e = .returned (.tuple #[]) ∧ Q w') :
    Calls Tryz.prog 139 #[.agg #[.int .u64 V, .bool D, .slice A L cp], .pointer (some ⟨em, 0, none⟩), .pointer (some ⟨es, 0, none⟩), .pointer (some ⟨eo, 0, none⟩)] w fun e w' => e = .returned (.tuple #[]) ∧ Q w' := by
  have hb0 := (Below.refl w.heap.size w).alloc (Nat.le_refl _) (.cells #[.int .u64 V, .bool D, .slice A L cp] 25)
  have hx := Go.Deep.blk_alloc_new w (.cells #[.int .u64 V, .bool D, .slice A L cp] 25)
  have m1 := (hb0.cell (p := ⟨em, 0, none⟩) (lt_of_cell hm)).trans hm
  have s1 := (hb0.cell (p := ⟨es, 0, none⟩) (lt_of_cell hs)).trans hs
  have o1 := (hb0.cell (p := ⟨eo, 0, none⟩) (lt_of_cell ho)).trans ho
  have HC := Lib.hid (h.below hb0)
  have HZ := Lib.hid (hz.below hb0)
  have HW := Lib.hid hb0
  have HR := Lib.hid hr
  have HL := Lib.hid hl
  have HH := Lib.hid H
  have HN := Lib.hid (And.intro hnm (And.intro hns hno))
  have hme := method_take_at gc
  clear h hb0 hm hs ho hz hr hl H hnm hns hno
  go_enter Tryz.func139, Tryz.ntmps139
  go_upto_region 1 with (fail)
  generalize w.alloc (.cells #[.int .u64 V, .bool D, .slice A L cp] 25) = W at hx HC HZ HW m1 s1 o1 ⊢
  have x0 : W.cell? ⟨w.heap.size, 0, none⟩ = some (.int .u64 V) := by simp [World.cell?, hx]
  have x1 : W.cell? ⟨w.heap.size, 1, none⟩ = some (.bool D) := by simp [World.cell?, hx]
  have x2 : W.cell? ⟨w.heap.size, 2, none⟩ = some (.slice A L cp) := by simp [World.cell?, hx]
  clear hx
  go_upto_region 2 with (go_at_call 181; refine (take_gen HC.out HR.out V D A L cp HZ.out HL.out).mono ?_; rintro e w2 ⟨v', rfl, hc2, ht2, hl2⟩)
  have m2 := (ht2.cell (p := ⟨em, 0, none⟩) (lt_of_cell m1) HN.out.1).trans m1
  have s2 := (ht2.cell (p := ⟨es, 0, none⟩) (lt_of_cell s1) HN.out.2.1).trans s1
  have o2 := (ht2.cell (p := ⟨eo, 0, none⟩) (lt_of_cell o1) HN.out.2.2).trans o1
  have HQ := Lib.hid (HH.out w2 v' hc2 ((Touch.of_below HW.out).trans ht2) fun k hk => (hl2 k hk).imp id fun hk => Nat.le_trans HW.out.size hk)
  clear hc2 ht2 hl2
  go_wp2_with fail
  refine HQ.out.mono ?_
  rintro e w3 ⟨rfl, hq⟩
  go_wp2_with fail
  go_end0
  exact ⟨rfl, hq⟩
end Go.Proofs.YtikcnioooihncaaGreat
namespace Go.Proofs.YtikcnioooihncaaGreat
open Go.RowKit

/-- The slice value v reads as the bytes xs, which lie in a block that K names (an empty one may lie anywhere). -/
def BytesIn (K : Nat → Prop) (w : World) (v : Value) (xs : List Int) : Prop :=
  ∃ A cap, v = .slice A xs.length cap ∧ (0 < xs.length → ∃ b off, A = some ⟨b, off, none⟩ ∧ K b ∧ b < w.heap.size ∧ ∀ i, i < xs.length → w.cell? ⟨b, off + i, none⟩ = some (.int .u8 (xs.getD i 0)))

namespace BytesIn
variable {K K' : Nat → Prop} {w w' : World} {v : Value} {xs : List Int}
theorem bytes (h : BytesIn K w v xs) : BytesAt w v xs := by
  obtain ⟨A, c, hv, h⟩ := h
  exact ⟨A, c, hv, fun hp => by obtain ⟨b, off, e, _, h3, h4⟩ := h hp; exact ⟨b, off, e, h3, h4⟩⟩
theorem none (K : Nat → Prop) (w : World) : BytesIn K w (.slice none 0 0) [] := ⟨Option.none, 0, rfl, fun h => absurd h (by simp)⟩
theorem empty (h : BytesAt w v []) (K : Nat → Prop) : BytesIn K w v [] := by
  obtain ⟨A, c, hv, _⟩ := h
  exact ⟨A, c, hv, fun h => absurd h (by simp)⟩
theorem mono (h : BytesIn K w v xs) (hK : ∀ k, K k → k < w.heap.size → K' k) : BytesIn K' w v xs := by
  obtain ⟨A, c, hv, h⟩ := h
  exact ⟨A, c, hv, fun hp => by obtain ⟨b, off, e, h2, h3, h4⟩ := h hp; exact ⟨b, off, e, hK b h2 h3, h3, h4⟩⟩
theorem keep (h : BytesIn K w v xs) (hs : w.heap.size ≤ w'.heap.size) (hb : ∀ k, K k → k < w.heap.size → w'.heap[k]? = w.heap[k]?) : BytesIn K w' v xs := by
  obtain ⟨A, c, hv, h⟩ := h
  refine ⟨A, c, hv, fun hp => ?_⟩
  obtain ⟨b, off, e, h2, h3, h4⟩ := h hp
  exact ⟨b, off, e, h2, Nat.lt_of_lt_of_le h3 hs, fun i hi => (World.cell?_of_block (w := w) (a := ⟨b, off + i, Option.none⟩) (hb b h2 h3)).trans (h4 i hi)⟩
theorem below (h : BytesIn K w v xs) (hb : Below w.heap.size w w') : BytesIn K w' v xs := h.keep hb.size fun k _ hk => hb.block k hk
theorem touch {S : Nat → Prop} (h : BytesIn K w v xs) (ht : Touch S w w') (hn : ∀ k, K k → ¬ S k) : BytesIn K w' v xs := h.keep ht.size fun k hk hl => ht.block k hl (hn k hk)
theorem of_at (h : BytesAt w v xs) : BytesIn (fun _ => True) w v xs := by
  obtain ⟨A, c, hv, h⟩ := h
  exact ⟨A, c, hv, fun hp => by obtain ⟨b, off, e, h3, h4⟩ := h hp; exact ⟨b, off, e, trivial, h3, h4⟩⟩
theorem lt (h : BytesIn K w v xs) : BytesIn (fun k => K k ∧ k < w.heap.size) w v xs := h.mono fun _ h1 h2 => ⟨h1, h2⟩
theorem of_own {base : Nat} (h : Owns base w v xs) : BytesIn (fun k => base ≤ k) w v xs := by
  by_cases hp : 0 < xs.length
  · obtain ⟨g, cap, hv, _⟩ := h.form hp
    have hge := World.ownsRow.lt h g (by rw [hv]; rfl)
    have hc := h.bytes
    rw [hv] at hc
    obtain ⟨A, c, e, hc⟩ := hc
    obtain ⟨b, off, e1, h3, h4⟩ := hc hp
    have e2 := e1
    injection e with e _ _
    rw [← e] at e1
    injection e1 with e1
    injection e1 with e5 e6
    subst e5 e6
    refine ⟨some ⟨g, 0, Option.none⟩, cap, hv, fun _ => ⟨g, 0, rfl, hge.1, h3, h4⟩⟩
  · have hx : xs = [] := List.eq_nil_of_length_eq_zero (by omega)
    subst hx
    exact empty h.bytes _
theorem length (h : BytesIn K w v xs) : ∃ A c, v = .slice A xs.length c := by
  obtain ⟨A, c, hv, _⟩ := h
  exact ⟨A, c, hv⟩
end BytesIn
end Go.Proofs.YtikcnioooihncaaGreat
namespace Go.Proofs.YtikcnioooihncaaGreat
open Go.RowKit

/-- A captured variable's block: one of F, not the put's own. -/
def Capt (w : World) (F : Nat → Prop) (g a : Nat) (v : Value) : Prop := F a ∧ a ≠ g ∧ w.cell? ⟨a, 0, none⟩ = some v

/-- What goes on where there is room: a choice, or a claim behind padding. -/
def OnIs (w : World) (F : Nat → Prop) (g : Nat) : Option Int → Value → Prop
  | none, v => v = .func (.func 110) #[.pointer (some ⟨g, 0, none⟩)] #[]
  | some gap, v => ∃ a b, v = .func (.func 136) #[] #[.pointer (some ⟨a, 0, none⟩), .pointer (some ⟨b, 0, none⟩)] ∧ Capt w F g a (.pointer (some ⟨g, 0, none⟩)) ∧ Capt w F g b (.int .i64 gap)

/-- The question whether there is room: at the tail, or at the beginning. -/
def roomOf (g : Nat) : Option Int → Value
  | none => .func (.func 109) #[.pointer (some ⟨g, 0, none⟩)] #[]
  | some _ => .func (.func 135) #[.pointer (some ⟨g, 0, none⟩)] #[]

/-- The three that the message's writing captured. -/
def Three (w : World) (F : Nat → Prop) (g : Nat) (s : Rs) (a b c : Nat) : Prop :=
  Capt w F g a (.pointer (some ⟨g, 0, none⟩)) ∧ Capt w F g b (.int .i64 (s.spot s.p)) ∧ Capt w F g c (.int .i32 (8 + (s.L : Int)))

/-- What goes on from the next answer. -/
def ThenIs (w : World) (F : Nat → Prop) (g : Nat) (s : Rs) (dv th : Value) : Prop :=
  match s.ph with
  | .ask => ∃ a, th = .func (.func 78) #[] #[.pointer (some ⟨a, 0, none⟩)] ∧ Capt w F g a (.pointer (some ⟨g, 0, none⟩))
  | .tail => ∃ a, th = .func (.func 107) #[] #[.pointer (some ⟨a, 0, none⟩)] ∧ Capt w F g a (.pointer (some ⟨g, 0, none⟩))
  | .head1 => ∃ a b c on, th = .func (.func 132) #[] #[.pointer (some ⟨a, 0, none⟩), .pointer (some ⟨b, 0, none⟩), .pointer (some ⟨c, 0, none⟩)] ∧ Capt w F g a (.pointer (some ⟨g, 0, none⟩)) ∧ Capt w F g b (roomOf g none) ∧ Capt w F g c on ∧ OnIs w F g none on
  | .head2 gap => ∃ a b c on, th = .func (.func 132) #[] #[.pointer (some ⟨a, 0, none⟩), .pointer (some ⟨b, 0, none⟩), .pointer (some ⟨c, 0, none⟩)] ∧ Capt w F g a (.pointer (some ⟨g, 0, none⟩)) ∧ Capt w F g b (roomOf g (some gap)) ∧ Capt w F g c on ∧ OnIs w F g (some gap) on
  | .copy1 => ∃ c on, th = .func (.func 133) #[] #[.pointer (some ⟨c, 0, none⟩)] ∧ Capt w F g c on ∧ OnIs w F g none on
  | .copy2 gap => ∃ c on, th = .func (.func 133) #[] #[.pointer (some ⟨c, 0, none⟩)] ∧ Capt w F g c on ∧ OnIs w F g (some gap) on
  | .cas pad => ∃ a b, th = .func (.func 148) #[] #[.pointer (some ⟨a, 0, none⟩), .pointer (some ⟨b, 0, none⟩)] ∧ Capt w F g a (.pointer (some ⟨g, 0, none⟩)) ∧ Capt w F g b (.int .i64 pad)
  | .padd _ => ∃ a, th = .func (.func 151) #[] #[.pointer (some ⟨a, 0, none⟩)] ∧ Capt w F g a (.pointer (some ⟨g, 0, none⟩))
  | .hdr => ∃ a b c, th = .func (.func 156) #[] #[.pointer (some ⟨a, 0, none⟩), .pointer (some ⟨b, 0, none⟩), .pointer (some ⟨c, 0, none⟩)] ∧ Three w F g s a b c
  | .byt d => ∃ em es eo a b c gc base top v, th = .func (.func 139) #[] #[.pointer (some ⟨em, 0, none⟩), .pointer (some ⟨es, 0, none⟩), .pointer (some ⟨eo, 0, none⟩)] ∧
      Capt w F g em (.iface 179 (.pointer (some ⟨gc, 0, none⟩))) ∧ Capt w F g es (.pointer (some ⟨g, 5, none⟩)) ∧ Capt w F g eo (.func (.func 158) #[] #[.pointer (some ⟨a, 0, none⟩), .pointer (some ⟨b, 0, none⟩), .pointer (some ⟨c, 0, none⟩)]) ∧ Three w F g s a b c ∧
      Cp w base top gc (.wr (s.spot s.p + 8) s.f) d (s.L - d) v [] ∧ (∀ k, (base ≤ k ∧ k < top) ∨ v.ownBlock = some k → F k ∧ k ≠ g ∧ k ≠ em ∧ k ≠ es ∧ k ≠ eo ∧ k ≠ a ∧ k ≠ b ∧ k ≠ c ∧ dv.ownBlock ≠ some k) ∧ d < s.L
  | .len => th = .func (.func 159) #[] #[]
  | .fin => th = .nilFunc

/-- A put stands in the blocks F, its own block is g. -/
def PutAt (w : World) (F : Nat → Prop) (g : Nat) (s : Rs) : Prop :=
  ∃ A L c a av th, RpBlk w g s (.slice A L c) a av th ∧ F g ∧ s.Ok ∧ BytesIn (fun k => F k ∧ k ≠ g) w (.slice A L c) (Mb.bl s.f 0 s.L) ∧ L ≤ c ∧ c ≤ 9223372036854775807 ∧ ThenIs w F g s (.slice A L c) th ∧
    (∀ b, s.next = some b → a = b ∧ BytesIn (fun k => F k ∧ k ≠ g) w av b.bs)

namespace Capt
variable {w w' : World} {F F' : Nat → Prop} {g a : Nat} {v : Value}
theorem keep (h : Capt w F g a v) (hb : ∀ k, F k → k ≠ g → w'.heap[k]? = w.heap[k]?) : Capt w' F g a v := ⟨h.1, h.2.1, (World.cell?_of_block (w := w) (a := ⟨a, 0, none⟩) (hb a h.1 h.2.1)).trans h.2.2⟩
theorem mono (h : Capt w F g a v) (hF : ∀ k, F k → F' k) : Capt w F' g a v := ⟨hF a h.1, h.2⟩
end Capt

/-- Bytes that are some lie in their slice's own block. -/
theorem BytesIn.ownK {K : Nat → Prop} {w : World} {v : Value} {xs : List Int} (h : BytesIn K w v xs) : BytesIn (fun k => K k ∧ 0 < xs.length ∧ v.ownBlock = some k) w v xs := by
  obtain ⟨A, c, hv, h⟩ := h
  refine ⟨A, c, hv, fun hp => ?_⟩
  obtain ⟨b, off, e, h1, h2, h3⟩ := h hp
  exact ⟨b, off, e, ⟨h1, hp, by rw [hv, e]; rfl⟩, h2, h3⟩

/-- What a call on a put leaves: the put at s, in the same blocks or in new ones; nothing else was turned. -/
def RpMoved (F : Nat → Prop) (g : Nat) (s : Rs) (w : World) (e : Ending) (w' : World) : Prop :=
  e = .returned (.tuple #[]) ∧ ∃ F', PutAt w' F' g s ∧ Touch F w w' ∧ ∀ k, F' k → F k ∨ (w.heap.size ≤ k ∧ k < w'.heap.size)

/-- A put between two accesses: its block, its bytes; nothing goes on. -/
structure RpBare (w : World) (F : Nat → Prop) (g : Nat) (s : Rs) (dv : Value) : Prop where
  blk : ∃ a av, RpBlk w g s dv a av .nilFunc
  own : F g
  ok : s.Ok
  dat : ∃ A c, dv = .slice A s.L c ∧ s.L ≤ c ∧ c ≤ 9223372036854775807
  txt : BytesIn (fun k => F k ∧ k ≠ g) w dv (Mb.bl s.f 0 s.L)

theorem RpBare.below {w w' : World} {F : Nat → Prop} {g : Nat} {s : Rs} {dv : Value} (h : RpBare w F g s dv) (hb : Below w.heap.size w w') : RpBare w' F g s dv := by
  obtain ⟨a, av, hk⟩ := h.blk
  exact ⟨⟨a, av, hk.below hb⟩, h.own, h.ok, h.dat, h.txt.below hb⟩

/-- The claim's end: the state is at its new phase; nothing of it but that has turned. -/
theorem rp_askedS {w w0 : World} {F : Nat → Prop} {g : Nat} {s s' : Rs} {dv : Value} (h : RpBare w0 F g s dv) (hfields : s' = { s with ph := s'.ph }) {b : Ac} {av th : Value} {e : Ending} {w' : World}
    (hw : Below w0.heap.size w0 w) (hnext : s'.next = some b) (ha : RpAsked g s dv b av th w e w') (hbs : BytesIn (fun k => (F k ∨ (w0.heap.size ≤ k ∧ k < w.heap.size)) ∧ k ≠ g) w av b.bs)
    (hth : ∀ w2, w.heap.size ≤ w2.heap.size → (∀ k, k ≠ g → k < w.heap.size → w2.heap[k]? = w.heap[k]?) → ThenIs w2 (fun k => F k ∨ (w0.heap.size ≤ k ∧ k < w.heap.size)) g s' dv th) : RpMoved F g s' w0 e w' := by
  obtain ⟨he, hblk, ht⟩ := ha
  obtain ⟨A, c, hdv, hl, hc⟩ := h.dat
  obtain ⟨a0, av0, hb0⟩ := h.blk
  have hgl := hb0.lt
  have hL : s'.L = s.L := by rw [hfields]
  have hf : s'.f = s.f := by rw [hfields]
  have hblk' : RpBlk w' g s' dv b av th := by
    have hc : RpCells s' dv b av th = RpCells s dv b av th := by rw [hfields]; rfl
    unfold RpBlk at hblk ⊢
    rw [hc]
    exact hblk
  have hok : s'.Ok := by
    have h2 := h.ok
    rw [hfields]
    exact ⟨h2.pow, h2.z0, h2.z1, h2.b0, h2.b1, h2.t0, h2.t1, h2.few, h2.isB, h2.h0, h2.tl, h2.ps⟩
  have hkeep : ∀ k, k ≠ g → k < w.heap.size → w'.heap[k]? = w.heap[k]? := fun k hk hlt => ht.block k hlt fun e => hk e
  subst hdv
  refine ⟨he, fun k => F k ∨ (w0.heap.size ≤ k ∧ k < w.heap.size), ⟨A, s.L, c, b, av, th, hblk', .inl h.own, hok, ?_, hl, hc, hth w' ht.size hkeep, fun b' hb' => ?_⟩, ?_, fun k hk => ?_⟩
  · rw [hL, hf]
    exact (((h.txt.below hw).keep ht.size fun k hk hlt => hkeep k hk.2 hlt).mono fun k hk _ => ⟨.inl hk.1, hk.2⟩)
  · rw [hnext] at hb'
    injection hb' with hb'
    subst hb'
    exact ⟨rfl, hbs.keep ht.size fun k hk hlt => hkeep k hk.2 hlt⟩
  · exact (Touch.of_below hw).trans (ht.mono fun k hk => by have e : k = g := hk; rw [e]; exact h.own)
  · rcases hk with hk | hk
    · exact .inl hk
    · exact .inr ⟨hk.1, Nat.lt_of_lt_of_le hk.2 ht.size⟩

theorem rp_asked {w w0 : World} {F : Nat → Prop} {g : Nat} {s s' : Rs} {dv : Value} (h : RpBare w0 F g s dv) (hfields : s' = { s with ph := s'.ph }) {b : Ac} {av th : Value} {e : Ending} {w' : World}
    (hw : Below w0.heap.size w0 w) (hnext : s'.next = some b) (ha : RpAsked g s dv b av th w e w') (hbs : BytesIn (fun k => (F k ∨ (w0.heap.size ≤ k ∧ k < w.heap.size)) ∧ k ≠ g) w av b.bs)
    (hth : ∀ w2, (∀ k, k ≠ g → k < w.heap.size → w2.heap[k]? = w.heap[k]?) → ThenIs w2 (fun k => F k ∨ (w0.heap.size ≤ k ∧ k < w.heap.size)) g s' dv th) : RpMoved F g s' w0 e w' := rp_askedS h hfields hw hnext ha hbs fun w2 _ hk => hth w2 hk

/-- What a call on a put leaves that turned nothing but the put's own block. -/
def RpMovedG (F : Nat → Prop) (g : Nat) (s : Rs) (w : World) (e : Ending) (w' : World) : Prop := RpMoved F g s w e w' ∧ Touch (fun k => k = g) w w' ∧ w'.cell? ⟨g, 3, none⟩ = w.cell? ⟨g, 3, none⟩
end Go.Proofs.YtikcnioooihncaaGreat
namespace Go.Proofs.YtikcnioooihncaaGreat
open Go.RowKit

set_option maxRecDepth 100000 in
set_option maxHeartbeats 800000 in
theorem rpTry {w : World} {F : Nat → Prop} {g : Nat} {s : Rs} {dv : Value} (h : RpBare w F g s dv) :
    Calls Tryz.prog 79 #[.pointer (some ⟨g, 0, none⟩)] w (RpMoved F g { s with ph := .tail } w) := by
  obtain ⟨a, av, hblk⟩ := h.blk
  have hgl := hblk.lt
  have HH := Lib.hid h
  have HB := Lib.hid hblk
  have hb0 := (Below.refl w.heap.size w).alloc (Nat.le_refl _) (.cells #[.pointer (some ⟨g, 0, none⟩)] 58)
  have hbox := rp_box w (.pointer (some ⟨g, 0, none⟩)) 58
  have hsz : (w.alloc (.cells #[.pointer (some ⟨g, 0, none⟩)] 58)).heap.size = w.heap.size + 1 := by simp
  have c0 := (hb0.cell (p := ⟨g, 0, none⟩) hgl).trans hblk.c0
  have c1 := (hb0.cell (p := ⟨g, 1, none⟩) hgl).trans hblk.c1
  have HW := Lib.hid hb0
  clear h hblk hb0
  go_enter Tryz.func79, Tryz.ntmps79
  go_upto_region 1 with (fail)
  generalize w.alloc (.cells #[.pointer (some ⟨g, 0, none⟩)] 58) = W at hbox HW hsz c0 c1 ⊢
  have hga : ¬ w.heap.size = g := by omega
  have hla : w.heap.size < W.heap.size := by omega
  have hgW : g < W.heap.size := by omega
  clear hsz
  go_region_held3 (fun w' => w'.cell? ⟨w.heap.size, 0, none⟩ = some (.pointer (some ⟨g, 0, none⟩)) ∧ w'.cell? ⟨g, 0, none⟩ = some (.int .i64 s.B) ∧ w'.cell? ⟨g, 1, none⟩ = some (.int .i64 s.Z)) (go_keep)
    (first
      | (go_at_call 54; refine (rpDo (HB.out.below hbl) ⟨1, s.num 0, 8, 0, 0, []⟩ none 0 0 107 #[] #[.pointer (some ⟨w.heap.size, 0, none⟩)]).mono ?_; intro e wd has; have HAS := Lib.hid has; obtain ⟨rfl, hblkd, htd⟩ := has; have kd := (htd.cell (p := ⟨w.heap.size, 0, none⟩) (lt_of_cell k2) hga).trans k2; have o0d := hblkd.c0; have o1d := hblkd.c1; clear hblkd)
      | (go_at_call 55; refine (stLoad (s.num 0) _).mono ?_; rintro e x2 ⟨rfl, hq2⟩; have hb2 := hb1.trans (hq2.mono hb1.size); have k2 := (hb2.cell (p := ⟨w.heap.size, 0, none⟩) hla).trans hbox; have o02 := (hb2.cell (p := ⟨g, 0, none⟩) hgW).trans c0; have o12 := (hb2.cell (p := ⟨g, 1, none⟩) hgW).trans c1; have hbl := HW.out.trans (hb2.mono HW.out.size))
      | (go_at_call 106; refine (rpTailC HH.out.ok _).mono ?_; rintro e x1 ⟨rfl, hq1⟩; have hb1 := below_drew hq1; have k1 := (hb1.cell (p := ⟨w.heap.size, 0, none⟩) hla).trans hbox; have o01 := (hb1.cell (p := ⟨g, 0, none⟩) hgW).trans c0; have o11 := (hb1.cell (p := ⟨g, 1, none⟩) hgW).trans c1))
  all_goals
    go_wp2
    go_end0
    refine rp_asked (s' := { s with ph := .tail }) HH.out rfl hbl rfl HAS.out (BytesIn.none _ _) fun w2 hk => ?_
    have hl3 : w.heap.size < x2.heap.size := lt_of_cell k2
    exact ⟨w.heap.size, rfl, .inr ⟨Nat.le_refl _, hl3⟩, hga, (World.cell?_of_block (w := x2) (a := ⟨w.heap.size, 0, none⟩) (hk _ hga hl3)).trans k2⟩

set_option maxRecDepth 100000 in
set_option maxHeartbeats 800000 in
theorem rpBegin {w : World} {F : Nat → Prop} {g : Nat} {s : Rs} {dv : Value} (h : RpBare w F g s dv) :
    Calls Tryz.prog 47 #[.pointer (some ⟨g, 0, none⟩)] w (RpMoved F g { s with ph := .ask } w) := by
  obtain ⟨a, av, hblk⟩ := h.blk
  have hgl := hblk.lt
  have HH := Lib.hid h
  have HB := Lib.hid hblk
  have hb0 := (Below.refl w.heap.size w).alloc (Nat.le_refl _) (.cells #[.pointer (some ⟨g, 0, none⟩)] 58)
  have hbox := rp_box w (.pointer (some ⟨g, 0, none⟩)) 58
  have hsz : (w.alloc (.cells #[.pointer (some ⟨g, 0, none⟩)] 58)).heap.size = w.heap.size + 1 := by simp
  have c0 := (hb0.cell (p := ⟨g, 0, none⟩) hgl).trans hblk.c0
  have c1 := (hb0.cell (p := ⟨g, 1, none⟩) hgl).trans hblk.c1
  have HW := Lib.hid hb0
  clear h hblk hb0
  go_enter Tryz.func47, Tryz.ntmps47
  go_upto_region 1 with (fail)
  generalize w.alloc (.cells #[.pointer (some ⟨g, 0, none⟩)] 58) = W at hbox HW hsz c0 c1 ⊢
  have hga : ¬ w.heap.size = g := by omega
  have hla : w.heap.size < W.heap.size := by omega
  have hgW : g < W.heap.size := by omega
  clear hsz
  go_region_held3 (fun w' => w'.cell? ⟨w.heap.size, 0, none⟩ = some (.pointer (some ⟨g, 0, none⟩)) ∧ w'.cell? ⟨g, 0, none⟩ = some (.int .i64 s.B) ∧ w'.cell? ⟨g, 1, none⟩ = some (.int .i64 s.Z)) (go_keep)
    (first
      | (go_at_call 54; refine (rpDo (HB.out.below hbl) ⟨1, s.num 8, 8, 0, 0, []⟩ none 0 0 78 #[] #[.pointer (some ⟨w.heap.size, 0, none⟩)]).mono ?_; intro e wd has; have HAS := Lib.hid has; obtain ⟨rfl, hblkd, htd⟩ := has; have kd := (htd.cell (p := ⟨w.heap.size, 0, none⟩) (lt_of_cell k2) hga).trans k2; have o0d := hblkd.c0; have o1d := hblkd.c1; clear hblkd)
      | (go_at_call 55; refine (stLoad (s.num 8) _).mono ?_; rintro e x2 ⟨rfl, hq2⟩; have hb2 := hb1.trans (hq2.mono hb1.size); have k2 := (hb2.cell (p := ⟨w.heap.size, 0, none⟩) hla).trans hbox; have o02 := (hb2.cell (p := ⟨g, 0, none⟩) hgW).trans c0; have o12 := (hb2.cell (p := ⟨g, 1, none⟩) hgW).trans c1; have hbl := HW.out.trans (hb2.mono HW.out.size))
      | (go_at_call 77; refine (rpCopyC HH.out.ok _).mono ?_; rintro e x1 ⟨rfl, hq1⟩; have hb1 := below_drew hq1; have k1 := (hb1.cell (p := ⟨w.heap.size, 0, none⟩) hla).trans hbox; have o01 := (hb1.cell (p := ⟨g, 0, none⟩) hgW).trans c0; have o11 := (hb1.cell (p := ⟨g, 1, none⟩) hgW).trans c1))
  all_goals
    go_wp2
    go_end0
    refine rp_asked (s' := { s with ph := .ask }) HH.out rfl hbl rfl HAS.out (BytesIn.none _ _) fun w2 hk => ?_
    have hl3 : w.heap.size < x2.heap.size := lt_of_cell k2
    exact ⟨w.heap.size, rfl, .inr ⟨Nat.le_refl _, hl3⟩, hga, (World.cell?_of_block (w := x2) (a := ⟨w.heap.size, 0, none⟩) (hk _ hga hl3)).trans k2⟩

set_option maxRecDepth 100000 in
set_option maxHeartbeats 800000 in
theorem rpClaim {w : World} {F : Nat → Prop} {g : Nat} {s : Rs} {dv : Value} (h : RpBare w F g s dv) (pad : Int) :
    Calls Tryz.prog 134 #[.pointer (some ⟨g, 0, none⟩), .int .i64 pad] w (RpMoved F g { s with ph := .cas pad } w) := by
  obtain ⟨a, av, hblk⟩ := h.blk
  have hgl := hblk.lt
  have HH := Lib.hid h
  have HB := Lib.hid hblk
  have hb0 := (Below.refl w.heap.size w).alloc (Nat.le_refl _) (.cells #[.pointer (some ⟨g, 0, none⟩)] 58)
  have hbox0 := rp_box w (.pointer (some ⟨g, 0, none⟩)) 58
  have hsz : (w.alloc (.cells #[.pointer (some ⟨g, 0, none⟩)] 58)).heap.size = w.heap.size + 1 := by simp
  have hbox1 := rp_box (w.alloc (.cells #[.pointer (some ⟨g, 0, none⟩)] 58)) (.int .i64 pad) 2
  have hb1 := (Below.refl (w.alloc (.cells #[.pointer (some ⟨g, 0, none⟩)] 58)).heap.size (w.alloc (.cells #[.pointer (some ⟨g, 0, none⟩)] 58))).alloc (Nat.le_refl _) (.cells #[.int .i64 pad] 2)
  have hbox := (hb1.cell (p := ⟨w.heap.size, 0, none⟩) (by show w.heap.size < _; omega)).trans hbox0
  have hsz1 : ((w.alloc (.cells #[.pointer (some ⟨g, 0, none⟩)] 58)).alloc (.cells #[.int .i64 pad] 2)).heap.size = w.heap.size + 2 := by simp
  have HW := Lib.hid (hb0.trans (hb1.mono (by omega)))
  rw [hsz] at hbox1
  clear h hblk hb0 hb1 hbox0 hsz
  go_enter Tryz.func134, Tryz.ntmps134
  go_upto_region 1 with (fail)
  generalize (w.alloc (.cells #[.pointer (some ⟨g, 0, none⟩)] 58)).alloc (.cells #[.int .i64 pad] 2) = W at hbox hbox1 HW hsz1 ⊢
  have hga : ¬ w.heap.size = g := by omega
  have hgb : ¬ w.heap.size + 1 = g := by omega
  have hla : w.heap.size < W.heap.size := by omega
  have hlb : w.heap.size + 1 < W.heap.size := by omega
  clear hsz1
  go_region_held3 (fun w' => w'.cell? ⟨w.heap.size, 0, none⟩ = some (.pointer (some ⟨g, 0, none⟩)) ∧ w'.cell? ⟨w.heap.size + 1, 0, none⟩ = some (.int .i64 pad)) (go_keep)
    (first
      | (go_at_call 54; refine (rpDo (HB.out.below hbl) ⟨4, s.num 0, 8, Rs.un s.t, Rs.un (Rs.wr (Rs.wr (s.t + s.need) + pad)), []⟩ none 0 0 148 #[] #[.pointer (some ⟨w.heap.size, 0, none⟩), .pointer (some ⟨w.heap.size + 1, 0, none⟩)]).mono ?_; intro e wd has; have HAS := Lib.hid has; obtain ⟨rfl, hblkd, htd⟩ := has; have kd := (htd.cell (p := ⟨w.heap.size, 0, none⟩) (lt_of_cell k1) hga).trans k1; have md := (htd.cell (p := ⟨w.heap.size + 1, 0, none⟩) (lt_of_cell m1) hgb).trans m1; clear hblkd)
      | (go_at_call 147; refine (rpAdvance (HB.out.below HW.out.drew) HH.out.ok pad).mono ?_; rintro e x1 ⟨rfl, hq1⟩; have hb1 := below_drew hq1; have k1 := (hb1.cell (p := ⟨w.heap.size, 0, none⟩) hla).trans hbox; have m1 := (hb1.cell (p := ⟨w.heap.size + 1, 0, none⟩) hlb).trans hbox1; have hbl := HW.out.trans (hb1.mono HW.out.size)))
  all_goals
    go_wp2
    go_end0
    refine rp_asked (s' := { s with ph := .cas pad }) HH.out rfl hbl rfl HAS.out (BytesIn.none _ _) fun w2 hk => ?_
    have hl3 : w.heap.size < x1.heap.size := lt_of_cell k1
    have hm3 : w.heap.size + 1 < x1.heap.size := lt_of_cell m1
    exact ⟨w.heap.size, w.heap.size + 1, rfl, ⟨.inr ⟨Nat.le_refl _, hl3⟩, hga, (World.cell?_of_block (w := x1) (a := ⟨w.heap.size, 0, none⟩) (hk _ hga hl3)).trans k1⟩, .inr ⟨Nat.le_succ _, hm3⟩, hgb, (World.cell?_of_block (w := x1) (a := ⟨w.heap.size + 1, 0, none⟩) (hk _ hgb hm3)).trans m1⟩
end Go.Proofs.YtikcnioooihncaaGreat
