/-
  Layer 7's put as a plain machine: its phases, the access of each, what an answer makes of it.
  Layer 7's small functions, walked: a put's block, is there room, the claim's access, what is asked for next.
  The steps follow a copy: its next access is asked for; at its end something else goes on.
  A slice that reads as bytes, and lies in blocks that K names; no function of the program is walked here.
  Layer 5's In, Zero, Out and Bytes, walked.
  Layer 7's put in memory: its block, the closure that goes on from its answer, and what that captured.
  A row of its own: where its block is untouched it stands; its block is there.
  Layer 8's get as a plain machine: its phases, the access of each, what an answer makes of it; where it stands in memory.
  Layer 7's put, walked: it begins, it tries, it claims.
  Layer 7's put, walked: it waits for room, and chooses.
-/
import Derived.Test.YtikcnioooihncaaGreatP03
import Derived.Test.YtikcnioooihncaaGreatP02
import Derived.Test.YtikcnioooihncaaGreatP01
import Derived.Deep.RegionHeld3
import Derived.Laws.EntriesVeiled
import Derived.Deep.CutRange
import Derived.Deep.DeepCutAuto
namespace Go.Proofs.YtikcnioooihncaaGreat
open Go.RowKit

/-- Where a put is. -/
inductive Ph where
  | ask | tail | head1 | copy1 | head2 (gap : Int) | copy2 (gap : Int) | cas (pad : Int) | padd (pad : Int) | hdr | byt (d : Nat) | len | fin

/-- A put: its ring, its type, its bytes; what it was told, what it claimed; where it is, and its fault. -/
structure Rs where
  B : Nat
  Z : Nat
  typ : Int
  f : Nat → Nat
  L : Nat
  h : Int
  t : Int
  p : Int
  cl : Bool
  ph : Ph
  er : Int

namespace Rs
/-- Bytes that a record takes. -/
def need (s : Rs) : Int := 8 * (((s.L + 15) / 8 : Nat) : Int)
/-- A number with its sign. -/
def wr (x : Int) : Int := wrap64 x
/-- A number without. -/
def un (x : Int) : Nat := (x % 18446744073709551616).toNat
def place (s : Rs) (v : Int) : Int := Rg.place s.Z v
def fits (s : Rs) : Bool := decide (s.need ≤ wr ((s.Z : Int) - wr (s.t - s.h)))
def ahead (s : Rs) : Bool := decide (s.need ≤ s.place s.h)
def gap (s : Rs) : Int := (s.Z : Int) - s.place s.t
def num (s : Rs) (k : Int) : Int := Rg.num s.B s.Z k
def spot (s : Rs) (v : Int) : Int := Rg.spot s.B s.Z v
/-- The access that a put is at. -/
def next (s : Rs) : Option Ac :=
  match s.ph with
  | .ask => some ⟨1, s.num 8, 8, 0, 0, []⟩
  | .tail => some ⟨1, s.num 0, 8, 0, 0, []⟩
  | .head1 | .head2 _ => some ⟨1, s.num 16, 8, 0, 0, []⟩
  | .copy1 | .copy2 _ => some ⟨2, s.num 8, 8, un s.h, 0, []⟩
  | .cas pad => some ⟨4, s.num 0, 8, un s.t, un (wr (wr (s.t + s.need) + pad)), []⟩
  | .padd pad => some ⟨2, s.spot s.t, 8, (Hd.jn pad (-1)).toNat, 0, []⟩
  | .hdr => some ⟨2, s.spot s.p, 8, (Hd.jn (-(8 + (s.L : Int))) s.typ).toNat, 0, []⟩
  | .byt d => some ⟨6, s.spot s.p + 8 + (d : Nat), (Cy.nx (s.L - d) : Nat), 0, 0, Mb.bl s.f d (Cy.nx (s.L - d))⟩
  | .len => some ⟨2, s.spot s.p, 4, 8 + s.L, 0, []⟩
  | .fin => none
/-- Room was found at the tail: the claim there, or one behind padding, or the head is asked. -/
def choose (s : Rs) : Rs := if s.need ≤ s.gap then { s with ph := .cas 0 } else if s.ahead = true then { s with ph := .cas s.gap } else { s with ph := .head2 s.gap }
/-- An answer is taken. -/
def take (s : Rs) (x : An) : Rs :=
  match s.ph with
  | .ask => { s with h := wr x.V, ph := .tail }
  | .tail => if ({ s with t := wr x.V } : Rs).fits = true then ({ s with t := wr x.V } : Rs).choose else { s with t := wr x.V, ph := .head1 }
  | .head1 => if ({ s with h := wr x.V } : Rs).fits = true then { s with h := wr x.V, ph := .copy1 } else { s with h := wr x.V, ph := .fin, er := 5 }
  | .copy1 => s.choose
  | .head2 gap => if ({ s with h := wr x.V } : Rs).ahead = true then { s with h := wr x.V, ph := .copy2 gap } else { s with h := wr x.V, ph := .fin, er := 5 }
  | .copy2 gap => { s with ph := .cas gap }
  | .cas pad => if x.D = false then { s with ph := .tail } else if pad = 0 then { s with p := wr (s.t + pad), cl := true, ph := .hdr } else { s with p := wr (s.t + pad), cl := true, ph := .padd pad }
  | .padd _ => { s with ph := .hdr }
  | .hdr => if s.L = 0 then { s with ph := .len } else { s with ph := .byt 0 }
  | .byt d => if d + Cy.nx (s.L - d) = s.L then { s with ph := .len } else { s with ph := .byt (d + Cy.nx (s.L - d)) }
  | .len => { s with ph := .fin }
  | .fin => s

/-- What holds of a put at any time. -/
structure Ok (s : Rs) : Prop where
  pow : Wd.isP s.Z = true
  z0 : 64 ≤ s.Z
  z1 : s.Z ≤ 8192
  b0 : s.B % 8 = 0
  b1 : s.B + s.Z + 32 ≤ 131072
  t0 : 1 ≤ s.typ
  t1 : s.typ ≤ 2147483647
  few : 8 * s.L ≤ s.Z
  isB : Mb.IsB s.f
  h0 : -9223372036854775808 ≤ s.h ∧ s.h ≤ 9223372036854775807
  tl : -9223372036854775808 ≤ s.t ∧ s.t ≤ 9223372036854775807
  ps : -9223372036854775808 ≤ s.p ∧ s.p ≤ 9223372036854775807

theorem wr_in (x : Int) : -9223372036854775808 ≤ wr x ∧ wr x ≤ 9223372036854775807 := by
  unfold wr wrap64
  omega
theorem Ok.rg {s : Rs} (ok : s.Ok) : Rg.Ok s.B s.Z := ⟨ok.pow, ok.z0, ok.z1, ok.b0, ok.b1⟩
theorem Ok.place_in {s : Rs} (ok : s.Ok) (v : Int) : 0 ≤ s.place v ∧ s.place v < s.Z := ok.rg.place_in v
end Rs

/-- A put's block: its fields, the access that it is at, what goes on from its answer. -/
def RpCells (s : Rs) (dv : Value) (a : Ac) (av th : Value) : Array Value :=
  #[.int .i64 s.B, .int .i64 s.Z, .int .i32 s.typ, dv, .int .i64 s.need, .int .i64 a.K, .int .i64 a.P, .int .i64 a.N, .int .u64 a.V, .int .u64 a.U, av, th, .int .i64 s.h, .int .i64 s.t, .int .i64 s.p, .bool s.cl, .int .i64 s.er]
/-- A put stands in block g. -/
def RpBlk (w : World) (g : Nat) (s : Rs) (dv : Value) (a : Ac) (av th : Value) : Prop := w.heap[g]? = some (.cells (RpCells s dv a av th) 99 (0, 0))
end Go.Proofs.YtikcnioooihncaaGreat
namespace Go.Proofs.YtikcnioooihncaaGreat
open Go.RowKit

namespace RpBlk
variable {w w' : World} {g : Nat} {s : Rs} {dv av th : Value} {a : Ac}
theorem lt (h : RpBlk w g s dv a av th) : g < w.heap.size := (Array.getElem?_eq_some_iff.1 h).1
theorem below (h : RpBlk w g s dv a av th) (hb : Below w.heap.size w w') : RpBlk w' g s dv a av th := (hb.block g h.lt).trans h
theorem of_block (h : RpBlk w g s dv a av th) (hb : w'.heap[g]? = w.heap[g]?) : RpBlk w' g s dv a av th := hb.trans h
theorem c0 (h : RpBlk w g s dv a av th) : w.cell? ⟨g, 0, none⟩ = some (.int .i64 s.B) := by simp [World.cell?, show w.heap[g]? = _ from h, RpCells]
theorem c1 (h : RpBlk w g s dv a av th) : w.cell? ⟨g, 1, none⟩ = some (.int .i64 s.Z) := by simp [World.cell?, show w.heap[g]? = _ from h, RpCells]
theorem c2 (h : RpBlk w g s dv a av th) : w.cell? ⟨g, 2, none⟩ = some (.int .i32 s.typ) := by simp [World.cell?, show w.heap[g]? = _ from h, RpCells]
theorem c3 (h : RpBlk w g s dv a av th) : w.cell? ⟨g, 3, none⟩ = some (dv) := by simp [World.cell?, show w.heap[g]? = _ from h, RpCells]
theorem c4 (h : RpBlk w g s dv a av th) : w.cell? ⟨g, 4, none⟩ = some (.int .i64 s.need) := by simp [World.cell?, show w.heap[g]? = _ from h, RpCells]
theorem c5 (h : RpBlk w g s dv a av th) : w.cell? ⟨g, 5, none⟩ = some (.int .i64 a.K) := by simp [World.cell?, show w.heap[g]? = _ from h, RpCells]
theorem c6 (h : RpBlk w g s dv a av th) : w.cell? ⟨g, 6, none⟩ = some (.int .i64 a.P) := by simp [World.cell?, show w.heap[g]? = _ from h, RpCells]
theorem c7 (h : RpBlk w g s dv a av th) : w.cell? ⟨g, 7, none⟩ = some (.int .i64 a.N) := by simp [World.cell?, show w.heap[g]? = _ from h, RpCells]
theorem c8 (h : RpBlk w g s dv a av th) : w.cell? ⟨g, 8, none⟩ = some (.int .u64 a.V) := by simp [World.cell?, show w.heap[g]? = _ from h, RpCells]
theorem c9 (h : RpBlk w g s dv a av th) : w.cell? ⟨g, 9, none⟩ = some (.int .u64 a.U) := by simp [World.cell?, show w.heap[g]? = _ from h, RpCells]
theorem c10 (h : RpBlk w g s dv a av th) : w.cell? ⟨g, 10, none⟩ = some (av) := by simp [World.cell?, show w.heap[g]? = _ from h, RpCells]
theorem c11 (h : RpBlk w g s dv a av th) : w.cell? ⟨g, 11, none⟩ = some (th) := by simp [World.cell?, show w.heap[g]? = _ from h, RpCells]
theorem c12 (h : RpBlk w g s dv a av th) : w.cell? ⟨g, 12, none⟩ = some (.int .i64 s.h) := by simp [World.cell?, show w.heap[g]? = _ from h, RpCells]
theorem c13 (h : RpBlk w g s dv a av th) : w.cell? ⟨g, 13, none⟩ = some (.int .i64 s.t) := by simp [World.cell?, show w.heap[g]? = _ from h, RpCells]
theorem c14 (h : RpBlk w g s dv a av th) : w.cell? ⟨g, 14, none⟩ = some (.int .i64 s.p) := by simp [World.cell?, show w.heap[g]? = _ from h, RpCells]
theorem c15 (h : RpBlk w g s dv a av th) : w.cell? ⟨g, 15, none⟩ = some (.bool s.cl) := by simp [World.cell?, show w.heap[g]? = _ from h, RpCells]
theorem c16 (h : RpBlk w g s dv a av th) : w.cell? ⟨g, 16, none⟩ = some (.int .i64 s.er) := by simp [World.cell?, show w.heap[g]? = _ from h, RpCells]
theorem free (h : RpBlk w g s dv a av th) (i : Nat) : w.frozen? ⟨g, i, none⟩ = false := by simp [World.frozen?, show w.heap[g]? = _ from h]
theorem st (h : RpBlk w g s dv a av th) : StAt w g 5 a av th := ⟨h.c5, h.c6, h.c7, h.c8, h.c9, h.c10, h.c11, h.free⟩
end RpBlk

section
variable {w : World} {g : Nat} {s : Rs} {dv av th : Value} {a : Ac}

theorem rpTailC (ok : s.Ok) (w : World) : Calls Tryz.prog 106 #[.agg #[.int .i64 s.B, .int .i64 s.Z]] w (Made (.int .i64 (s.num 0)) w) := rgTail ok.rg w
theorem rpCopyC (ok : s.Ok) (w : World) : Calls Tryz.prog 77 #[.agg #[.int .i64 s.B, .int .i64 s.Z]] w (Made (.int .i64 (s.num 8)) w) := rgCopy ok.rg w
theorem rpHeadC (ok : s.Ok) (w : World) : Calls Tryz.prog 56 #[.agg #[.int .i64 s.B, .int .i64 s.Z]] w (Made (.int .i64 (s.num 16)) w) := rgHead ok.rg w
theorem rpPlaceC (ok : s.Ok) (v : Int) (w : World) : Calls Tryz.prog 117 #[.agg #[.int .i64 s.B, .int .i64 s.Z], .int .i64 v] w (Made (.int .i64 (s.place v)) w) := rgPlace ok.rg v w
theorem rpAtC (ok : s.Ok) (v : Int) (w : World) : Calls Tryz.prog 120 #[.agg #[.int .i64 s.B, .int .i64 s.Z], .int .i64 v] w (Made (.int .i64 (s.spot v)) w) := rgAt ok.rg v w

set_option maxRecDepth 100000 in
theorem rpFits (h : RpBlk w g s dv a av th) : Calls Tryz.prog 109 #[.pointer (some ⟨g, 0, none⟩)] w (Made (.bool s.fits) w) := by
  have c1 := h.c1
  have c4 := h.c4
  have c12 := h.c12
  have c13 := h.c13
  have hv : Hid (decide (s.need ≤ wrap64 ((s.Z : Int) - wrap64 (s.t - s.h))) = s.fits) := Lib.hid rfl
  clear h
  go_enter Tryz.func109, Tryz.ntmps109
  go_upto_region 1 with (fail)
  go_quiet (fail)
  go_wp2
  go_ret
  exact ⟨by rw [← hv.out]; rfl, drewN_below _ _⟩

set_option maxRecDepth 100000 in
theorem rpAhead (h : RpBlk w g s dv a av th) (ok : s.Ok) : Calls Tryz.prog 135 #[.pointer (some ⟨g, 0, none⟩)] w (Made (.bool s.ahead) w) := by
  have c0 := h.c0
  have c1 := h.c1
  have c4 := h.c4
  have c12 := h.c12
  have hv : Hid (decide (s.need ≤ s.place s.h) = s.ahead) := Lib.hid rfl
  have HO := Lib.hid ok
  have hlt := h.lt
  clear h ok
  go_enter Tryz.func135, Tryz.ntmps135
  go_upto_region 1 with (fail)
  go_region_held3 (fun w' => w'.cell? ⟨g, 0, none⟩ = some (.int .i64 s.B) ∧ w'.cell? ⟨g, 1, none⟩ = some (.int .i64 s.Z) ∧ w'.cell? ⟨g, 4, none⟩ = some (.int .i64 s.need) ∧ w'.cell? ⟨g, 12, none⟩ = some (.int .i64 s.h)) (go_keep)
    (first | (go_at_call 117; refine (rpPlaceC HO.out s.h _).mono ?_; rintro e w2 ⟨rfl, hb⟩; have hb2 := below_drew hb; have k0 := (hb2.cell (p := ⟨g, 0, none⟩) hlt).trans c0; have k1 := (hb2.cell (p := ⟨g, 1, none⟩) hlt).trans c1; have k4 := (hb2.cell (p := ⟨g, 4, none⟩) hlt).trans c4; have k5 := (hb2.cell (p := ⟨g, 12, none⟩) hlt).trans c12))
  all_goals
    go_wp2
    go_ret
    exact ⟨by rw [← hv.out]; rfl, hb2⟩

/-- What 'Do' leaves: another access is asked for, something else goes on from its answer. -/
def RpAsked (g : Nat) (s : Rs) (dv : Value) (a : Ac) (av th : Value) (w : World) (e : Ending) (w' : World) : Prop :=
  e = .returned (.tuple #[]) ∧ RpBlk w' g s dv a av th ∧ Touch (fun k => k = g) w w'

theorem rp_seven {w : World} {g : Nat} {s : Rs} {dv av th : Value} {a : Ac} (h : RpBlk w g s dv a av th) (b : Ac) (bv th' : Value) :
    RpBlk (seven w g 5 b bv th') g s dv b bv th' := by
  have h' : w.heap[g]? = some (.cells (RpCells s dv a av th) 99 (0, 0)) := h
  unfold RpBlk seven
  simp [World.setCell, Array.getElem?_modify, h', RpCells]

theorem rp_st {w w' : World} {g : Nat} {s : Rs} {dv av th : Value} {a b : Ac} {bv th' : Value} {e : Ending} (h : RpBlk w g s dv a av th) (hs : StAsked g 5 b bv th' w e w') : RpAsked g s dv b bv th' w e w' := by
  obtain ⟨rfl, W, hb, rfl⟩ := hs
  exact ⟨rfl, rp_seven (h.below hb) b bv th', (Touch.of_below hb).trans (seven_touch1 W g 5 b bv th')⟩

theorem rpDo (h : RpBlk w g s dv a av th) (b : Ac) (A : Option Addr) (l c : Nat) (k : FuncId) (rc caps : Array Value) :
    Calls Tryz.prog 54 #[.pointer (some ⟨g, 5, none⟩), .agg #[.int .i64 b.K, .int .i64 b.P, .int .i64 b.N, .int .u64 b.V, .int .u64 b.U, .slice A l c], .func (.func k) rc caps] w (RpAsked g s dv b (.slice A l c) (.func (.func k) rc caps) w) :=
  (stDo h.st b A l c k rc caps).mono fun _ _ hs => rp_st h hs

theorem un_wrap (x : Int) : IntKind.u64.wrap x = ((Rs.un x : Nat) : Int) := by
  have h : 0 ≤ x % 18446744073709551616 := Int.emod_nonneg _ (by decide)
  unfold Rs.un
  rw [Int.toNat_of_nonneg h]
  simp [IntKind.wrap, IntKind.signed, IntKind.bits]

set_option maxRecDepth 100000 in
set_option maxHeartbeats 800000 in
theorem rpAdvance (h : RpBlk w g s dv a av th) (ok : s.Ok) (pad : Int) :
    Calls Tryz.prog 147 #[.pointer (some ⟨g, 0, none⟩), .int .i64 pad] w (Made (.agg #[.int .i64 4, .int .i64 (s.num 0), .int .i64 8, .int .u64 (Rs.un s.t : Nat), .int .u64 (Rs.un (Rs.wr (Rs.wr (s.t + s.need) + pad)) : Nat), .slice none 0 0]) w) := by
  have HA := Lib.hid (AccNew.made w)
  have HW := Lib.hid ((Below.refl w.heap.size w).alloc (Nat.le_refl _) (.cells #[.int .i64 0, .int .i64 0, .int .i64 0, .int .u64 0, .int .u64 0, .slice none 0 0] 30))
  have hb0 := (Below.refl w.heap.size w).alloc (Nat.le_refl _) (.cells #[.int .i64 0, .int .i64 0, .int .i64 0, .int .u64 0, .int .u64 0, .slice none 0 0] 30)
  have HR := Lib.hid (h.below hb0)
  have HO := Lib.hid ok
  have hu1 : IntKind.u64.wrap s.t = ((Rs.un s.t : Nat) : Int) := un_wrap _
  have hu2 : IntKind.u64.wrap (IntKind.i64.wrap (IntKind.i64.wrap (s.t + s.need) + pad)) = ((Rs.un (Rs.wr (Rs.wr (s.t + s.need) + pad)) : Nat) : Int) := by rw [IntWalk.i64_left, IntWalk.i64_left]; exact un_wrap _
  have hlt0 := h.lt
  have hgn : ¬ g = w.heap.size := by omega
  have hgn2 : ¬ w.heap.size = g := by omega
  clear h ok hb0
  go_enter Tryz.func147, Tryz.ntmps147
  go_upto_region 1 with (fail)
  generalize w.alloc (.cells #[.int .i64 0, .int .i64 0, .int .i64 0, .int .u64 0, .int .u64 0, .slice none 0 0] 30) = W at HA HW HR ⊢
  have k0 := HR.out.c0
  have k1 := HR.out.c1
  have k3 := HR.out.c4
  have k5 := HR.out.c13
  have hlt := HR.out.lt
  go_region_held3 (fun w' => w'.cell? ⟨g, 0, none⟩ = some (.int .i64 s.B) ∧ w'.cell? ⟨g, 1, none⟩ = some (.int .i64 s.Z) ∧ w'.cell? ⟨g, 4, none⟩ = some (.int .i64 s.need) ∧ w'.cell? ⟨g, 13, none⟩ = some (.int .i64 s.t)) (go_keep)
    (first | (go_at_call 106; refine (rpTailC HO.out _).mono ?_; rintro e w2 ⟨rfl, hb⟩; have hb2 := below_drew hb; have m0 := (hb2.cell (p := ⟨g, 0, none⟩) hlt).trans k0; have m1 := (hb2.cell (p := ⟨g, 1, none⟩) hlt).trans k1; have m4 := (hb2.cell (p := ⟨g, 4, none⟩) hlt).trans k3; have m6 := (hb2.cell (p := ⟨g, 13, none⟩) hlt).trans k5; obtain ⟨a0, a1, a2, a3, a4, a5, f0, f1, f2, f3, f4, f5, hbk⟩ := HA.out.later hb2))
  all_goals
    go_wp2
    refine bodyPost_ret (v := .agg #[.int .i64 4, .int .i64 (s.num 0), .int .i64 8, .int .u64 (Rs.un s.t : Nat), .int .u64 (Rs.un (Rs.wr (Rs.wr (s.t + s.need) + pad)) : Nat), .slice none 0 0]) (by simp [results, Tryz.results147, go_sem, a0, a1, a2, a3, a4, a5]) rfl ?_
    exact ⟨rfl, six_below (HW.out.trans (hb2.mono HW.out.size)) (Nat.le_refl _) _ _ _ _ _ _⟩
end
end Go.Proofs.YtikcnioooihncaaGreat
namespace Go.Proofs.YtikcnioooihncaaGreat
open Go.RowKit

theorem rp_box (w : World) (v : Value) (T : TypeId) : (w.alloc (.cells #[v] T)).cell? ⟨w.heap.size, 0, none⟩ = some v := by
  have h := Go.Deep.blk_alloc_new w (.cells #[v] T)
  unfold World.cell?
  simp only [h]
  rfl

theorem rp_boxes (w : World) (v0 v1 v2 : Value) (T0 T1 T2 : TypeId) (WW : World) (hWW : WW = ((w.alloc (.cells #[v0] T0)).alloc (.cells #[v1] T1)).alloc (.cells #[v2] T2)) :
    Below w.heap.size w WW ∧ WW.cell? ⟨w.heap.size, 0, none⟩ = some v0 ∧ WW.cell? ⟨w.heap.size + 1, 0, none⟩ = some v1 ∧ WW.cell? ⟨w.heap.size + 2, 0, none⟩ = some v2 ∧ WW.heap.size = w.heap.size + 3 := by
  have b1 := (Below.refl w.heap.size w).alloc (Nat.le_refl _) (.cells #[v0] T0)
  have x1 := rp_box w v0 T0
  have s1 : (w.alloc (.cells #[v0] T0)).heap.size = w.heap.size + 1 := by simp
  generalize w.alloc (.cells #[v0] T0) = W1 at *
  have b2 := (Below.refl W1.heap.size W1).alloc (Nat.le_refl _) (.cells #[v1] T1)
  have x2 := rp_box W1 v1 T1
  have s2 : (W1.alloc (.cells #[v1] T1)).heap.size = W1.heap.size + 1 := by simp
  have y1 := (b2.cell (p := ⟨w.heap.size, 0, none⟩) (by show w.heap.size < _; omega)).trans x1
  generalize W1.alloc (.cells #[v1] T1) = W2 at *
  have b3 := (Below.refl W2.heap.size W2).alloc (Nat.le_refl _) (.cells #[v2] T2)
  have x3 := rp_box W2 v2 T2
  have s3 : (W2.alloc (.cells #[v2] T2)).heap.size = W2.heap.size + 1 := by simp
  have z1 := (b3.cell (p := ⟨w.heap.size, 0, none⟩) (by show w.heap.size < _; omega)).trans y1
  have z2 := (b3.cell (p := ⟨W1.heap.size, 0, none⟩) (by show W1.heap.size < _; omega)).trans x2
  rw [s1] at z2
  rw [s2, s1] at x3
  subst hWW
  exact ⟨(b1.trans (b2.mono (by omega))).trans (b3.mono (by omega)), z1, z2, x3, by omega⟩

set_option maxRecDepth 100000 in
set_option maxHeartbeats 1600000 in
theorem stFollowNo {w : World} {base top gc d : Nat} {kd : Kd} {v : Value} {ys : List Int} (h : Cp w base top gc kd d 0 v ys) (g o : Nat) {k : FuncId} {rc caps : Array Value} {Q : World → Prop}
    (args : Array Value) (hargs : rc ++ caps = args) (hent : ∀ w, (callFunc k args).run Tryz.prog w = .ok (.enter k args) w)
    (H : ∀ W, Below w.heap.size w W → Calls Tryz.prog k args W fun e w' => e = .returned (.tuple #[]) ∧ Q w') :
    Calls Tryz.prog 118 #[.pointer (some ⟨g, o, none⟩), .iface 179 (.pointer (some ⟨gc, 0, none⟩)), .func (.func k) rc caps] w fun e w' => e = .returned (.tuple #[]) ∧ Q w' := by
  obtain ⟨WW, hWW⟩ : ∃ WW, WW = ((w.alloc (.cells #[.pointer (some ⟨g, o, none⟩)] 116)).alloc (.cells #[.iface 179 (.pointer (some ⟨gc, 0, none⟩))] 190)).alloc (.cells #[.func (.func k) rc caps] 1) := ⟨_, rfl⟩
  obtain ⟨hw3, x0, x1, x2, hsz⟩ := rp_boxes w (.pointer (some ⟨g, o, none⟩)) (.iface 179 (.pointer (some ⟨gc, 0, none⟩))) (.func (.func k) rc caps) _ _ _ WW hWW
  have HC := Lib.hid (h.below hw3)
  have HW := Lib.hid hw3
  have HH := Lib.hid H
  have hme := method_next_at gc
  clear h hw3 H
  go_enter Tryz.func118, Tryz.ntmps118
  go_upto_region 1 with (fail)
  rw [← hWW]
  clear hWW
  have hent' : ∀ w, (callFunc k (rc ++ caps)).run Tryz.prog w = .ok (.enter k args) w := fun w => by rw [hargs]; exact hent w
  go_wp2_with (go_at_call 180; refine (next_no HC.out).mono ?_; rintro e w1 ⟨rfl, hb⟩; have y2 := (hb.cell (p := ⟨w.heap.size + 1 + 1, 0, none⟩) (show w.heap.size + 1 + 1 < WW.heap.size by omega)).trans x2; have z2 := fun q => (World.cell?_alloc_lt w1 q ⟨w.heap.size + 1 + 1, 0, none⟩ (lt_of_cell y2)).trans y2)
  refine (HH.out _ (HW.out.trans ((hb.alloc hb.size _).mono HW.out.size))).mono ?_
  rintro e w2 ⟨rfl, hq⟩
  go_wp2_with fail
  refine bodyPost_ret (v := .tuple #[]) (by simp [results, Tryz.results118, go_sem]) rfl ?_
  exact ⟨rfl, hq⟩

/-- A copy's next access was asked for; the steps, the copy and what goes on stand in boxes. -/
def StFollows (g o gc : Nat) (kon : FuncId) (rc caps : Array Value) (a : Ac) (w : World) (e : Ending) (w' : World) : Prop :=
  e = .returned (.tuple #[]) ∧ ∃ W A l c, Below w.heap.size w W ∧ Owns (w.heap.size + 3) W (.slice A l c) a.bs ∧
    W.cell? ⟨w.heap.size, 0, none⟩ = some (.pointer (some ⟨g, o, none⟩)) ∧ W.cell? ⟨w.heap.size + 1, 0, none⟩ = some (.iface 179 (.pointer (some ⟨gc, 0, none⟩))) ∧ W.cell? ⟨w.heap.size + 2, 0, none⟩ = some (.func (.func kon) rc caps) ∧
    w' = seven W g o a (.slice A l c) (.func (.func 139) #[] #[.pointer (some ⟨w.heap.size + 1, 0, none⟩), .pointer (some ⟨w.heap.size, 0, none⟩), .pointer (some ⟨w.heap.size + 2, 0, none⟩)])

set_option maxRecDepth 100000 in
set_option maxHeartbeats 1600000 in
theorem stFollowYes {w : World} {base top gc d r : Nat} {kd : Kd} {v : Value} {ys : List Int} (h : Cp w base top gc kd d r v ys) (hr : 0 < r) {g o : Nat} {a0 : Ac} {av th : Value} (hs : StAt w g o a0 av th) (kon : FuncId) (rc caps : Array Value) :
    Calls Tryz.prog 118 #[.pointer (some ⟨g, o, none⟩), .iface 179 (.pointer (some ⟨gc, 0, none⟩)), .func (.func kon) rc caps] w (StFollows g o gc kon rc caps ⟨kd.kind, kd.place + d, (Cy.nx r : Nat), 0, 0, kd.bytes d (Cy.nx r)⟩ w) := by
  obtain ⟨WW, hWW⟩ : ∃ WW, WW = ((w.alloc (.cells #[.pointer (some ⟨g, o, none⟩)] 116)).alloc (.cells #[.iface 179 (.pointer (some ⟨gc, 0, none⟩))] 190)).alloc (.cells #[.func (.func kon) rc caps] 1) := ⟨_, rfl⟩
  obtain ⟨hw3, x0, x1, x2, hsz⟩ := rp_boxes w (.pointer (some ⟨g, o, none⟩)) (.iface 179 (.pointer (some ⟨gc, 0, none⟩))) (.func (.func kon) rc caps) _ _ _ WW hWW
  have HC := Lib.hid (h.below hw3)
  have HS := Lib.hid (hs.below hw3)
  have HW := Lib.hid hw3
  have hme := method_next_at gc
  generalize hK : kd.kind = K
  generalize hP : kd.place + (d : Int) = P
  generalize hN : ((Cy.nx r : Nat) : Int) = N
  generalize hB : kd.bytes d (Cy.nx r) = b
  have HN := Lib.hid (next_as HC.out hr hK hP hN hB)
  clear hK hP hN hB h hs hw3 hr
  go_enter Tryz.func118, Tryz.ntmps118
  go_upto_region 1 with (fail)
  rw [← hWW]
  clear hWW
  have hl0 : w.heap.size < WW.heap.size := by omega
  have hl1 : w.heap.size + 1 < WW.heap.size := by omega
  have hl2 : w.heap.size + 1 + 1 < WW.heap.size := by omega
  have hmf : ∀ (fn : Fn) (first cap : Array Value) (w : World), (Instr.makeFunc fn first cap).run Tryz.prog w = .ok (.func fn first cap) w := fun _ _ _ _ => rfl
  go_upto_region 4 with (go_at_call 180; refine HN.out.mono ?_; rintro e w1 ⟨A, l, c, rfl, ho, hb⟩)
  have hx := Go.Deep.blk_alloc_new w1 (.cells #[.int .i64 K, .int .i64 P, .int .i64 N, .int .u64 0, .int .u64 0, .slice A l c] 30)
  have hb2 := hb.alloc hb.size (.cells #[.int .i64 K, .int .i64 P, .int .i64 N, .int .u64 0, .int .u64 0, .slice A l c] 30)
  have ho2 := ho.alloc (.cells #[.int .i64 K, .int .i64 P, .int .i64 N, .int .u64 0, .int .u64 0, .slice A l c] 30)
  have y0 := (hb2.cell (p := ⟨w.heap.size, 0, none⟩) hl0).trans x0
  have y1 := (hb2.cell (p := ⟨w.heap.size + 1, 0, none⟩) hl1).trans x1
  have y2 := (hb2.cell (p := ⟨w.heap.size + 1 + 1, 0, none⟩) hl2).trans x2
  have HO := Lib.hid ho2
  have HS2 := Lib.hid (HS.out.below hb2)
  have HB2 := Lib.hid hb2
  generalize w1.alloc (.cells #[.int .i64 K, .int .i64 P, .int .i64 N, .int .u64 0, .int .u64 0, .slice A l c] 30) = W2 at hx y0 y1 y2 HO HS2 HB2 ⊢
  have d0 : W2.cell? ⟨w1.heap.size, 0, none⟩ = some (.int .i64 K) := by simp [World.cell?, hx]
  have d1 : W2.cell? ⟨w1.heap.size, 1, none⟩ = some (.int .i64 P) := by simp [World.cell?, hx]
  have d2 : W2.cell? ⟨w1.heap.size, 2, none⟩ = some (.int .i64 N) := by simp [World.cell?, hx]
  have d3 : W2.cell? ⟨w1.heap.size, 3, none⟩ = some (.int .u64 0) := by simp [World.cell?, hx]
  have d4 : W2.cell? ⟨w1.heap.size, 4, none⟩ = some (.int .u64 0) := by simp [World.cell?, hx]
  have d5 : W2.cell? ⟨w1.heap.size, 5, none⟩ = some (.slice A l c) := by simp [World.cell?, hx]
  clear hx hb hb2 ho ho2 x0 x1 x2
  go_wp2_with fail
  refine (stDo HS2.out ⟨K, P, N, 0, 0, b⟩ A l c 139 #[] #[.pointer (some ⟨w.heap.size + 1, 0, none⟩), .pointer (some ⟨w.heap.size, 0, none⟩), .pointer (some ⟨w.heap.size + 1 + 1, 0, none⟩)]).mono ?_
  rintro e w4 ⟨rfl, W4, hb4, rfl⟩
  have z0 := (hb4.cell (p := ⟨w.heap.size, 0, none⟩) (lt_of_cell y0)).trans y0
  have z1 := (hb4.cell (p := ⟨w.heap.size + 1, 0, none⟩) (lt_of_cell y1)).trans y1
  have z2 := (hb4.cell (p := ⟨w.heap.size + 1 + 1, 0, none⟩) (lt_of_cell y2)).trans y2
  have hO4 := HO.out.below hb4
  have hB4 := HW.out.trans ((HB2.out.trans (hb4.mono HB2.out.size)).mono HW.out.size)
  go_wp2_with fail
  go_end0
  exact ⟨rfl, W4, A, l, c, hB4, by rw [← hsz]; exact hO4, z0, z1, z2, rfl⟩

set_option maxRecDepth 100000 in
set_option maxHeartbeats 1600000 in
/-- The copy's access was answered: the copy takes the answer, and is followed further. -/
theorem stFollow1 {w : World} {base top gc d r : Nat} {kd : Kd} {v : Value} {ys zs : List Int} (h : Cp w base top gc kd d r v ys) (hr : 0 < r) {g o em es eo : Nat} {kon : FuncId} {rc caps : Array Value}
    (hm : w.cell? ⟨em, 0, none⟩ = some (.iface 179 (.pointer (some ⟨gc, 0, none⟩)))) (hs : w.cell? ⟨es, 0, none⟩ = some (.pointer (some ⟨g, o, none⟩))) (ho : w.cell? ⟨eo, 0, none⟩ = some (.func (.func kon) rc caps))
    (hnm : ¬ Mine gc v em) (hns : ¬ Mine gc v es) (hno : ¬ Mine gc v eo)
    (V : Nat) (D : Bool) (A : Option Addr) (L cp : Nat) (hz : BytesAt w (.slice A L cp) zs) (hl : kd.reads = true → ys.length + zs.length ≤ 1073741824) {Q : World → Prop}
    (H : ∀ W v', Cp W base top gc kd (d + Cy.nx r) (r - Cy.nx r) v' (ys ++ if kd.reads then zs else []) → Touch (Mine gc v) w W → Lies v v' w →
      Calls Tryz.prog 118 #[.pointer (some ⟨g, o, none⟩), .iface 179 (.pointer (some ⟨gc, 0, none⟩)), .func (.func kon) rc caps] W fun e w' => e = .returned (.tuple #[]) ∧ Q w') :
    Calls Tryz.prog 139 #[.agg #[.int .u64 V, .bool D, .slice A L cp], .pointer (some ⟨em, 0, none⟩), .pointer (some ⟨es, 0, none⟩), .pointer (some ⟨eo, 0, none⟩)] w fun e w' => e = .returned (.tuple #[]) ∧ Q w' := by
  have hb0 := (Below.refl w.heap.size w).alloc (Nat.le_refl _) (.cells #[.int .u64 V, .bool D, .slice A L cp] 25)
  have hx := Go.Deep.blk_alloc_new w (.cells #[.int .u64 V, .bool D, .slice A L cp] 25)
  have m1 := (hb0.cell (p := ⟨em, 0, none⟩) (lt_of_cell hm)).trans hm
  have s1 := (hb0.cell (p := ⟨es, 0, none⟩) (lt_of_cell hs)).trans hs
  have o1 := (hb0.cell (p := ⟨eo, 0, none⟩) (lt_of_cell ho)).trans ho
  have HC := Lib.hid (h.below hb0)
  have HZ := Lib.hid (hz.below hb0)
  have HW := Lib.hid hb0
  have HR := Lib.hid hr
  have HL := Lib.hid hl
  have HH := Lib.hid H
  have HN := Lib.hid (And.intro hnm (And.intro hns hno))
  have hme := method_take_at gc
  clear h hb0 hm hs ho hz hr hl H hnm hns hno
  go_enter Tryz.func139, Tryz.ntmps139
  go_upto_region 1 with (fail)
  generalize w.alloc (.cells #[.int .u64 V, .bool D, .slice A L cp] 25) = W at hx HC HZ HW m1 s1 o1 ⊢
  have x0 : W.cell? ⟨w.heap.size, 0, none⟩ = some (.int .u64 V) := by simp [World.cell?, hx]
  have x1 : W.cell? ⟨w.heap.size, 1, none⟩ = some (.bool D) := by simp [World.cell?, hx]
  have x2 : W.cell? ⟨w.heap.size, 2, none⟩ = some (.slice A L cp) := by simp [World.cell?, hx]
  clear hx
  go_upto_region 2 with (go_at_call 181; refine (take_gen HC.out HR.out V D A L cp HZ.out HL.out).mono ?_; rintro e w2 ⟨v', rfl, hc2, ht2, hl2⟩)
  have m2 := (ht2.cell (p := ⟨em, 0, none⟩) (lt_of_cell m1) HN.out.1).trans m1
  have s2 := (ht2.cell (p := ⟨es, 0, none⟩) (lt_of_cell s1) HN.out.2.1).trans s1
  have o2 := (ht2.cell (p := ⟨eo, 0, none⟩) (lt_of_cell o1) HN.out.2.2).trans o1
  have HQ := Lib.hid (HH.out w2 v' hc2 ((Touch.of_below HW.out).trans ht2) fun k hk => (hl2 k hk).imp id fun hk => Nat.le_trans HW.out.size hk)
  clear hc2 ht2 hl2
  go_wp2_with fail
  refine HQ.out.mono ?_
  rintro e w3 ⟨rfl, hq⟩
  go_wp2_with fail
  go_end0
  exact ⟨rfl, hq⟩
end Go.Proofs.YtikcnioooihncaaGreat
namespace Go.Proofs.YtikcnioooihncaaGreat
open Go.RowKit

/-- The slice value v reads as the bytes xs, which lie in a block that K names (an empty one may lie anywhere). -/
def BytesIn (K : Nat → Prop) (w : World) (v : Value) (xs : List Int) : Prop :=
  ∃ A cap, v = .slice A xs.length cap ∧ (0 < xs.length → ∃ b off, A = some ⟨b, off, none⟩ ∧ K b ∧ b < w.heap.size ∧ ∀ i, i < xs.length → w.cell? ⟨b, off + i, none⟩ = some (.int .u8 (xs.getD i 0)))

namespace BytesIn
variable {K K' : Nat → Prop} {w w' : World} {v : Value} {xs : List Int}
theorem bytes (h : BytesIn K w v xs) : BytesAt w v xs := by
  obtain ⟨A, c, hv, h⟩ := h
  exact ⟨A, c, hv, fun hp => by obtain ⟨b, off, e, _, h3, h4⟩ := h hp; exact ⟨b, off, e, h3, h4⟩⟩
theorem none (K : Nat → Prop) (w : World) : BytesIn K w (.slice none 0 0) [] := ⟨Option.none, 0, rfl, fun h => absurd h (by simp)⟩
theorem empty (h : BytesAt w v []) (K : Nat → Prop) : BytesIn K w v [] := by
  obtain ⟨A, c, hv, _⟩ := h
  exact ⟨A, c, hv, fun h => absurd h (by simp)⟩
theorem mono (h : BytesIn K w v xs) (hK : ∀ k, K k → k < w.heap.size → K' k) : BytesIn K' w v xs := by
  obtain ⟨A, c, hv, h⟩ := h
  exact ⟨A, c, hv, fun hp => by obtain ⟨b, off, e, h2, h3, h4⟩ := h hp; exact ⟨b, off, e, hK b h2 h3, h3, h4⟩⟩
theorem keep (h : BytesIn K w v xs) (hs : w.heap.size ≤ w'.heap.size) (hb : ∀ k, K k → k < w.heap.size → w'.heap[k]? = w.heap[k]?) : BytesIn K w' v xs := by
  obtain ⟨A, c, hv, h⟩ := h
  refine ⟨A, c, hv, fun hp => ?_⟩
  obtain ⟨b, off, e, h2, h3, h4⟩ := h hp
  exact ⟨b, off, e, h2, Nat.lt_of_lt_of_le h3 hs, fun i hi => (World.cell?_of_block (w := w) (a := ⟨b, off + i, Option.none⟩) (hb b h2 h3)).trans (h4 i hi)⟩
theorem below (h : BytesIn K w v xs) (hb : Below w.heap.size w w') : BytesIn K w' v xs := h.keep hb.size fun k _ hk => hb.block k hk
theorem touch {S : Nat → Prop} (h : BytesIn K w v xs) (ht : Touch S w w') (hn : ∀ k, K k → ¬ S k) : BytesIn K w' v xs := h.keep ht.size fun k hk hl => ht.block k hl (hn k hk)
theorem of_at (h : BytesAt w v xs) : BytesIn (fun _ => True) w v xs := by
  obtain ⟨A, c, hv, h⟩ := h
  exact ⟨A, c, hv, fun hp => by obtain ⟨b, off, e, h3, h4⟩ := h hp; exact ⟨b, off, e, trivial, h3, h4⟩⟩
theorem lt (h : BytesIn K w v xs) : BytesIn (fun k => K k ∧ k < w.heap.size) w v xs := h.mono fun _ h1 h2 => ⟨h1, h2⟩
theorem of_own {base : Nat} (h : Owns base w v xs) : BytesIn (fun k => base ≤ k) w v xs := by
  by_cases hp : 0 < xs.length
  · obtain ⟨g, cap, hv, _⟩ := h.form hp
    have hge := World.ownsRow.lt h g (by rw [hv]; rfl)
    have hc := h.bytes
    rw [hv] at hc
    obtain ⟨A, c, e, hc⟩ := hc
    obtain ⟨b, off, e1, h3, h4⟩ := hc hp
    have e2 := e1
    injection e with e _ _
    rw [← e] at e1
    injection e1 with e1
    injection e1 with e5 e6
    subst e5 e6
    refine ⟨some ⟨g, 0, Option.none⟩, cap, hv, fun _ => ⟨g, 0, rfl, hge.1, h3, h4⟩⟩
  · have hx : xs = [] := List.eq_nil_of_length_eq_zero (by omega)
    subst hx
    exact empty h.bytes _
theorem length (h : BytesIn K w v xs) : ∃ A c, v = .slice A xs.length c := by
  obtain ⟨A, c, hv, _⟩ := h
  exact ⟨A, c, hv⟩
end BytesIn
end Go.Proofs.YtikcnioooihncaaGreat
namespace Go.Proofs.YtikcnioooihncaaGreat
open Go.RowKit

theorem chunks_parts (n : Int) (w : World) : Calls Tryz.prog 152 #[.int .i64 n] w (MadeParts (Cy.cks (Cy.few n)) w) := by
  refine (chunks_any n w).mono ?_
  rintro e w' ⟨v, rfl, ho, hb⟩
  rw [Cy.ckOf_few] at ho
  exact ⟨v, rfl, (Parts.of_own ho), hb⟩

/-- A machine that writes was made at block g: its parts lie below it. -/
def MadeMach (fn : Value) (n : Nat) (w : World) (e : Ending) (w' : World) : Prop :=
  ∃ g cv, e = .returned (.pointer (some ⟨g, 0, none⟩)) ∧ w'.heap[g]? = some (.cells #[cv, .int .i64 0, fn, .func (.func 153) #[] #[], .slice none 0 0] 200 (0, 0)) ∧
    w.heap.size ≤ g ∧ g + 1 = w'.heap.size ∧ Parts (fun k => w.heap.size ≤ k ∧ k < g) w' cv (Cy.cks n) ∧ Below w.heap.size w w'

set_option maxRecDepth 100000 in
set_option maxHeartbeats 400000 in
theorem writing_any (n : Int) (k : FuncId) (caps : Array Value) (w : World) :
    Calls Tryz.prog 140 #[.int .i64 n, .func (.func k) #[] caps] w (MadeMach (.func (.func k) #[] caps) (Cy.few n) w) := by
  go_enter Tryz.func140, Tryz.ntmps140
  go_wp2_with (go_at_call 152; refine (chunks_parts n _).mono ?_; rintro e w1 ⟨v1, rfl, ⟨A1, c1, rfl, h1, h2, h3⟩, hb1⟩)
  go_ret
  refine ⟨w1.heap.size, .slice A1 (Cy.cks (Cy.few n)).length c1, rfl, Go.Deep.blk_alloc_new _ _, hb1.size, by simp, ?_, hb1.alloc hb1.size _⟩
  refine Parts.of_blocks (w := w1) ⟨A1, c1, rfl, h1, h2, fun hp => ?_⟩ (by simp) fun k hk => Below.heap_alloc _ _ _ hk.2
  obtain ⟨b, off, e, hK, h4⟩ := h3 hp
  exact ⟨b, off, e, hK, h4⟩

/-- A machine was made: it copied nothing so far, n bytes are left. -/
def MadeCp (kd : Kd) (n : Nat) (w : World) (e : Ending) (w' : World) : Prop :=
  ∃ g, e = .returned (.pointer (some ⟨g, 0, none⟩)) ∧ Cp w' w.heap.size w'.heap.size g kd 0 n (.slice none 0 0) [] ∧ Below w.heap.size w w'

theorem cp_made {kd : Kd} {w w1 w2 : World} {n g : Nat} {cv nx th : Value} (hnear : -4611686018427387904 ≤ kd.place ∧ kd.place ≤ 4611686018427387904) (hn : n ≤ 131072) (HW : Below w.heap.size w w1) (hbl : Below w1.heap.size w1 w2)
    (hg : w2.heap[g]? = some (.cells #[cv, .int .i64 0, nx, th, .slice none 0 0] 200 (0, 0))) (h1 : w1.heap.size ≤ g) (h2 : g + 1 = w2.heap.size) (hp : Parts (fun k => w1.heap.size ≤ k ∧ k < g) w2 cv (Cy.cks n))
    (hb : 0 < n → Body w2 w.heap.size w2.heap.size g n kd nx th) : MadeCp kd n w (.returned (.pointer (some ⟨g, 0, none⟩))) w2 := by
  have hs := HW.size
  refine ⟨g, rfl, ⟨by omega, by omega, Nat.le_refl _, by omega, hnear, ⟨cv, nx, th, hg, hp.mono fun k hk => ⟨by omega, by omega, by omega⟩, fun hn => ?_⟩, World.ownsRow_nil _ _ _ _⟩, HW.trans (hbl.mono hs)⟩
  rw [Nat.zero_add] at hn ⊢
  exact hb hn

set_option maxRecDepth 100000 in
set_option maxHeartbeats 400000 in
theorem zero_any (at_ n : Int) (w : World) (hnear : -4611686018427387904 ≤ at_ ∧ at_ ≤ 4611686018427387904) :
    Calls Tryz.prog 119 #[.int .i64 at_, .int .i64 n] w (MadeCp (.ze at_) (Cy.few n) w) := by
  have hmf : ∀ (fn : Fn) (first cap : Array Value) (w : World), (Instr.makeFunc fn first cap).run Tryz.prog w = .ok (.func fn first cap) w := fun _ _ _ _ => rfl
  have HW := (Below.refl w.heap.size w).alloc (Nat.le_refl _) (.cells #[.int .i64 at_] 3)
  have HX := Go.Deep.blk_alloc_new w (.cells #[.int .i64 at_] 3)
  have HN := Lib.hid hnear
  clear hnear
  go_enter Tryz.func119, Tryz.ntmps119
  go_wp2_with fail
  generalize w.alloc (.cells #[.int .i64 at_] 3) = W at HW HX ⊢
  have HXX := Lib.hid HX
  have hxl := (Array.getElem?_eq_some_iff.1 HX).1
  clear HX
  refine (writing_any n 141 #[.pointer (some ⟨w.heap.size, 0, none⟩)] W).mono ?_
  rintro e w1 ⟨g, cv, rfl, hg, h1, h2, hp, hb⟩
  have HH := Lib.hid (And.intro hg hp)
  clear hg hp
  go_wp2
  go_ret
  refine cp_made HN.out (Cy.few_le n) HW hb HH.out.1 h1 h2 HH.out.2 fun _ => ⟨w.heap.size, rfl, rfl, ⟨Nat.le_refl _, by omega, by omega⟩, ?_⟩
  have := (hb.block w.heap.size hxl).trans HXX.out
  simp [World.cell?, this]

set_option maxRecDepth 100000 in
set_option maxHeartbeats 400000 in
theorem in_any (at_ : Int) (A : Option Addr) (L cap : Nat) (f : Nat → Nat) (w : World) (hnear : -4611686018427387904 ≤ at_ ∧ at_ ≤ 4611686018427387904) (hB : BytesAt w (.slice A L cap) (Mb.bl f 0 L)) (hL : L ≤ 131072) :
    Calls Tryz.prog 157 #[.int .i64 at_, .slice A L cap] w (MadeCp (.wr at_ f) L w) := by
  have hmf : ∀ (fn : Fn) (first cap : Array Value) (w : World), (Instr.makeFunc fn first cap).run Tryz.prog w = .ok (.func fn first cap) w := fun _ _ _ _ => rfl
  have HW := (Below.refl w.heap.size w).alloc (Nat.le_refl _) (.cells #[.int .i64 at_] 3)
  have HX := Go.Deep.blk_alloc_new w (.cells #[.int .i64 at_] 3)
  have HB := Lib.hid (hB.below HW)
  have HN := Lib.hid hnear
  clear hnear hB
  go_enter Tryz.func157, Tryz.ntmps157
  go_wp2_with fail
  generalize w.alloc (.cells #[.int .i64 at_] 3) = W at HW HX HB ⊢
  have HXX := Lib.hid HX
  have hxl := (Array.getElem?_eq_some_iff.1 HX).1
  clear HX
  refine (clone_sl A L cap _ W HB.out (by omega)).mono ?_
  rintro e w1 ⟨A1, c1, rfl, ho1, hb1⟩
  have HO1 := Lib.hid ho1
  clear ho1
  have HK := Go.Deep.blk_alloc_new w1 (.cells #[.slice A1 L c1] 23)
  have HW2 := HW.trans ((hb1.alloc hb1.size (.cells #[.slice A1 L c1] 23)).mono HW.size)
  go_wp2_with fail
  refine (writing_any L 161 #[.pointer (some ⟨w.heap.size, 0, none⟩), .pointer (some ⟨w1.heap.size, 0, none⟩)] _).mono ?_
  rintro e w2 ⟨g, cv, rfl, hg, h1, h2, hp, hb⟩
  have HH := Lib.hid (And.intro hg hp)
  clear hg hp
  go_wp2
  go_ret
  have hbW1 : Below w1.heap.size w1 w2 := ((Below.refl _ w1).alloc (Nat.le_refl _) _).after hb
  have hs1 := hb1.size
  have hs2 : w1.heap.size + 1 ≤ g := by simpa using h1
  rw [Cy.few_nat hL] at HH
  refine cp_made HN.out hL HW2 hb HH.out.1 h1 h2 HH.out.2 fun hpos => ?_
  obtain ⟨gk, kc, hv, hk1, hk2, hk3, hk4, _⟩ := HO1.out.form (by rw [Mb.bl_length]; exact hpos)
  rw [Mb.bl_length] at hv hk1
  injection hv with e1 _ e3
  subst e1 e3
  have hbt := HO1.out.bytes.below hbW1
  refine ⟨w.heap.size, w1.heap.size, gk, c1, rfl, rfl, ⟨Nat.le_refl _, by omega, by omega⟩, ⟨by omega, by omega, by omega⟩, ⟨by omega, by omega, by omega⟩, ?_, ?_, hbt, hk1, hk2⟩
  · have := ((hbW1.block w.heap.size (by omega)).trans (hb1.block w.heap.size hxl)).trans HXX.out
    simp [World.cell?, this]
  · have := (hb.block w1.heap.size (by simp)).trans HK
    simp [World.cell?, this]

/-- An empty machine's cells, in block b. -/
structure CpNew (b : Nat) (W : World) : Prop where
  c0 : W.cell? ⟨b, 0, none⟩ = some (.slice none 0 0)
  c1 : W.cell? ⟨b, 1, none⟩ = some (.int .i64 0)
  c2 : W.cell? ⟨b, 2, none⟩ = some .nilFunc
  c3 : W.cell? ⟨b, 3, none⟩ = some .nilFunc
  f0 : W.frozen? ⟨b, 0, none⟩ = false
  f1 : W.frozen? ⟨b, 1, none⟩ = false
  f2 : W.frozen? ⟨b, 2, none⟩ = false
  f3 : W.frozen? ⟨b, 3, none⟩ = false
  blk : W.heap[b]? = some (.cells #[.slice none 0 0, .int .i64 0, .nilFunc, .nilFunc, .slice none 0 0] 200 (0, 0))
theorem CpNew.of_blk {b : Nat} {W : World} (h : W.heap[b]? = some (.cells #[.slice none 0 0, .int .i64 0, .nilFunc, .nilFunc, .slice none 0 0] 200 (0, 0))) : CpNew b W := by
  refine ⟨?_, ?_, ?_, ?_, ?_, ?_, ?_, ?_, h⟩
  all_goals first | simp [World.cell?, h] | simp [World.frozen?, h]

theorem out_made {at_ : Int} {w W w1 : World} {n : Nat} {cv : Value} (hnear : -4611686018427387904 ≤ at_ ∧ at_ ≤ 4611686018427387904) (hn : n ≤ 131072) (HW : Below w.heap.size w W) (hS : w.heap.size + 1 + 1 + 1 ≤ W.heap.size)
    (H0 : W.heap[w.heap.size]? = some (.cells #[.int .i64 at_] 3 (0, 0))) (H2 : W.heap[w.heap.size + 1 + 1]? = some (.cells #[.pointer (some ⟨w.heap.size + 1, 0, none⟩)] 179 (0, 0))) (hb : Below W.heap.size W w1)
    (HM : w1.heap[w.heap.size + 1]? = some (.cells #[.slice none 0 0, .int .i64 0, .nilFunc, .nilFunc, .slice none 0 0] 200 (0, 0))) (hp : Parts (fun k => W.heap.size ≤ k ∧ k < w1.heap.size) w1 cv (Cy.cks n)) :
    MadeCp (.rd at_) n w (.returned (.pointer (some ⟨w.heap.size + 1, 0, none⟩))) ((((w1.setCell ⟨w.heap.size + 1, 0, none⟩ cv).setCell ⟨w.heap.size + 1, 1, none⟩ (.int .i64 0)).setCell ⟨w.heap.size + 1, 2, none⟩ (.func (.func 154) #[] #[.pointer (some ⟨w.heap.size, 0, none⟩)])).setCell ⟨w.heap.size + 1, 3, none⟩ (.func (.func 155) #[] #[.pointer (some ⟨w.heap.size + 1 + 1, 0, none⟩)])) := by
  generalize hw2 : (((w1.setCell ⟨w.heap.size + 1, 0, none⟩ cv).setCell ⟨w.heap.size + 1, 1, none⟩ (.int .i64 0)).setCell ⟨w.heap.size + 1, 2, none⟩ (.func (.func 154) #[] #[.pointer (some ⟨w.heap.size, 0, none⟩)])).setCell ⟨w.heap.size + 1, 3, none⟩ (.func (.func 155) #[] #[.pointer (some ⟨w.heap.size + 1 + 1, 0, none⟩)]) = w2
  have hne : ∀ k, k ≠ w.heap.size + 1 → w2.heap[k]? = w1.heap[k]? := fun k hk => by
    subst hw2
    exact (Below.heap_setCell _ _ _ _ hk).trans ((Below.heap_setCell _ _ _ _ hk).trans ((Below.heap_setCell _ _ _ _ hk).trans (Below.heap_setCell _ _ _ _ hk)))
  have hsz : w2.heap.size = w1.heap.size := by subst hw2; simp [World.setCell]
  have hs1 := hb.size
  have hfr : Below w.heap.size w w2 := by
    subst hw2
    exact ((((HW.trans (hb.mono (by omega))).setCell (p := ⟨w.heap.size + 1, 0, none⟩) (Nat.le_succ _) _).setCell (p := ⟨w.heap.size + 1, 1, none⟩) (Nat.le_succ _) _).setCell (p := ⟨w.heap.size + 1, 2, none⟩) (Nat.le_succ _) _).setCell (p := ⟨w.heap.size + 1, 3, none⟩) (Nat.le_succ _) _
  have hhead : w2.heap[w.heap.size + 1]? = some (.cells #[cv, .int .i64 0, .func (.func 154) #[] #[.pointer (some ⟨w.heap.size, 0, none⟩)], .func (.func 155) #[] #[.pointer (some ⟨w.heap.size + 1 + 1, 0, none⟩)], .slice none 0 0] 200 (0, 0)) := by
    subst hw2
    simp [World.setCell, Array.getElem?_modify, HM]
  clear hw2
  refine ⟨w.heap.size + 1, rfl, ⟨by omega, by omega, Nat.le_refl _, by omega, hnear, ⟨cv, _, _, hhead, (hp.mono fun k hk => ⟨by omega, by omega, by omega⟩).of_blocks (Nat.le_of_eq hsz.symm) fun k hk => hne k hk.2.2, fun _ => ?_⟩, World.ownsRow_nil _ _ _ _⟩, hfr⟩
  refine ⟨w.heap.size, w.heap.size + 1 + 1, rfl, rfl, ⟨by omega, by omega, by omega⟩, ⟨by omega, by omega, by omega⟩, ?_, ?_⟩
  · have := ((hne w.heap.size (by omega)).trans (hb.block w.heap.size (by omega))).trans H0
    simp [World.cell?, this]
  · have := ((hne (w.heap.size + 1 + 1) (by omega)).trans (hb.block (w.heap.size + 1 + 1) (by omega))).trans H2
    simp [World.cell?, this]

set_option maxRecDepth 100000 in
set_option maxHeartbeats 400000 in
theorem out_any (at_ n : Int) (w : World) (hnear : -4611686018427387904 ≤ at_ ∧ at_ ≤ 4611686018427387904) :
    Calls Tryz.prog 144 #[.int .i64 at_, .int .i64 n] w (MadeCp (.rd at_) (Cy.few n) w) := by
  have hmf : ∀ (fn : Fn) (first cap : Array Value) (w : World), (Instr.makeFunc fn first cap).run Tryz.prog w = .ok (.func fn first cap) w := fun _ _ _ _ => rfl
  have HN := Lib.hid hnear
  clear hnear
  have HW := (((Below.refl w.heap.size w).alloc (Nat.le_refl _) (.cells #[.int .i64 at_] 3)).alloc (by simp) (.cells #[.slice none 0 0, .int .i64 0, .nilFunc, .nilFunc, .slice none 0 0] 200)).alloc (by simp; omega) (.cells #[.pointer (some ⟨w.heap.size + 1, 0, none⟩)] 179)
  have hX0 := Go.Deep.blk_alloc_new w (.cells #[.int .i64 at_] 3)
  have hX1 := Go.Deep.blk_alloc_new (w.alloc (.cells #[.int .i64 at_] 3)) (.cells #[.slice none 0 0, .int .i64 0, .nilFunc, .nilFunc, .slice none 0 0] 200)
  have hX2 := Go.Deep.blk_alloc_new ((w.alloc (.cells #[.int .i64 at_] 3)).alloc (.cells #[.slice none 0 0, .int .i64 0, .nilFunc, .nilFunc, .slice none 0 0] 200)) (.cells #[.pointer (some ⟨w.heap.size + 1, 0, none⟩)] 179)
  have hX0' := (Below.heap_alloc _ (.cells #[.pointer (some ⟨w.heap.size + 1, 0, none⟩)] 179) w.heap.size (by simp; omega)).trans ((Below.heap_alloc (w.alloc (.cells #[.int .i64 at_] 3)) (.cells #[.slice none 0 0, .int .i64 0, .nilFunc, .nilFunc, .slice none 0 0] 200) w.heap.size (by simp)).trans hX0)
  have hX1' := (Below.heap_alloc _ (.cells #[.pointer (some ⟨w.heap.size + 1, 0, none⟩)] 179) _ (by simp)).trans hX1
  have e1 : (w.alloc (.cells #[.int .i64 at_] 3)).heap.size = w.heap.size + 1 := by simp
  have e2 : ((w.alloc (.cells #[.int .i64 at_] 3)).alloc (.cells #[.slice none 0 0, .int .i64 0, .nilFunc, .nilFunc, .slice none 0 0] 200)).heap.size = w.heap.size + 1 + 1 := by simp
  have e3 : (((w.alloc (.cells #[.int .i64 at_] 3)).alloc (.cells #[.slice none 0 0, .int .i64 0, .nilFunc, .nilFunc, .slice none 0 0] 200)).alloc (.cells #[.pointer (some ⟨w.heap.size + 1, 0, none⟩)] 179)).heap.size = w.heap.size + 1 + 1 + 1 := by simp
  rw [e1] at hX1'
  rw [e2] at hX2
  have hS := Nat.le_of_eq e3.symm
  clear hX0 hX1 e1 e2 e3
  go_enter Tryz.func144, Tryz.ntmps144
  go_wp2_with fail
  generalize ((w.alloc (.cells #[.int .i64 at_] 3)).alloc (.cells #[.slice none 0 0, .int .i64 0, .nilFunc, .nilFunc, .slice none 0 0] 200)).alloc (.cells #[.pointer (some ⟨w.heap.size + 1, 0, none⟩)] 179) = W at HW hX0' hX1' hX2 hS ⊢
  have hc : W.cell? ⟨w.heap.size + 1 + 1, 0, none⟩ = some (.pointer (some ⟨w.heap.size + 1, 0, none⟩)) := by simp [World.cell?, hX2]
  have H0 := Lib.hid hX0'
  have H1 := Lib.hid hX1'
  have H2 := Lib.hid hX2
  clear hX0' hX1' hX2
  go_region_held3 (fun w' => w'.cell? ⟨w.heap.size + 1 + 1, 0, none⟩ = some (.pointer (some ⟨w.heap.size + 1, 0, none⟩))) (go_keep)
    (first | (go_at_call 152; refine (chunks_parts n _).mono ?_; rintro e w1 ⟨v1, rfl, ⟨A1, c1, rfl, p1, p2, p3⟩, hb1⟩; have hb2 := below_drew hb1; have hk := (hb2.cell (p := ⟨w.heap.size + 1 + 1, 0, none⟩) (by simp; omega)).trans hc; have HM := CpNew.of_blk ((hb2.block (w.heap.size + 1) (by omega)).trans H1.out); obtain ⟨m0, m1, m2, m3, f0, f1, f2, f3, mb⟩ := HM; have HMB := Lib.hid mb; have HP3 := Lib.hid p3; clear p3 mb))
  all_goals
    go_wp2
    go_ret
    exact out_made HN.out (Cy.few_le n) HW hS H0.out H2.out hb2 HMB.out ⟨A1, c1, rfl, p1, p2, HP3.out⟩
end Go.Proofs.YtikcnioooihncaaGreat
namespace Go.Proofs.YtikcnioooihncaaGreat
open Go.RowKit

/-- A captured variable's block: one of F, not the put's own. -/
def Capt (w : World) (F : Nat → Prop) (g a : Nat) (v : Value) : Prop := F a ∧ a ≠ g ∧ w.cell? ⟨a, 0, none⟩ = some v

/-- What goes on where there is room: a choice, or a claim behind padding. -/
def OnIs (w : World) (F : Nat → Prop) (g : Nat) : Option Int → Value → Prop
  | none, v => v = .func (.func 110) #[.pointer (some ⟨g, 0, none⟩)] #[]
  | some gap, v => ∃ a b, v = .func (.func 136) #[] #[.pointer (some ⟨a, 0, none⟩), .pointer (some ⟨b, 0, none⟩)] ∧ Capt w F g a (.pointer (some ⟨g, 0, none⟩)) ∧ Capt w F g b (.int .i64 gap)

/-- The question whether there is room: at the tail, or at the beginning. -/
def roomOf (g : Nat) : Option Int → Value
  | none => .func (.func 109) #[.pointer (some ⟨g, 0, none⟩)] #[]
  | some _ => .func (.func 135) #[.pointer (some ⟨g, 0, none⟩)] #[]

/-- The three that the message's writing captured. -/
def Three (w : World) (F : Nat → Prop) (g : Nat) (s : Rs) (a b c : Nat) : Prop :=
  Capt w F g a (.pointer (some ⟨g, 0, none⟩)) ∧ Capt w F g b (.int .i64 (s.spot s.p)) ∧ Capt w F g c (.int .i32 (8 + (s.L : Int)))

/-- What goes on from the next answer. -/
def ThenIs (w : World) (F : Nat → Prop) (g : Nat) (s : Rs) (dv th : Value) : Prop :=
  match s.ph with
  | .ask => ∃ a, th = .func (.func 78) #[] #[.pointer (some ⟨a, 0, none⟩)] ∧ Capt w F g a (.pointer (some ⟨g, 0, none⟩))
  | .tail => ∃ a, th = .func (.func 107) #[] #[.pointer (some ⟨a, 0, none⟩)] ∧ Capt w F g a (.pointer (some ⟨g, 0, none⟩))
  | .head1 => ∃ a b c on, th = .func (.func 132) #[] #[.pointer (some ⟨a, 0, none⟩), .pointer (some ⟨b, 0, none⟩), .pointer (some ⟨c, 0, none⟩)] ∧ Capt w F g a (.pointer (some ⟨g, 0, none⟩)) ∧ Capt w F g b (roomOf g none) ∧ Capt w F g c on ∧ OnIs w F g none on
  | .head2 gap => ∃ a b c on, th = .func (.func 132) #[] #[.pointer (some ⟨a, 0, none⟩), .pointer (some ⟨b, 0, none⟩), .pointer (some ⟨c, 0, none⟩)] ∧ Capt w F g a (.pointer (some ⟨g, 0, none⟩)) ∧ Capt w F g b (roomOf g (some gap)) ∧ Capt w F g c on ∧ OnIs w F g (some gap) on
  | .copy1 => ∃ c on, th = .func (.func 133) #[] #[.pointer (some ⟨c, 0, none⟩)] ∧ Capt w F g c on ∧ OnIs w F g none on
  | .copy2 gap => ∃ c on, th = .func (.func 133) #[] #[.pointer (some ⟨c, 0, none⟩)] ∧ Capt w F g c on ∧ OnIs w F g (some gap) on
  | .cas pad => ∃ a b, th = .func (.func 148) #[] #[.pointer (some ⟨a, 0, none⟩), .pointer (some ⟨b, 0, none⟩)] ∧ Capt w F g a (.pointer (some ⟨g, 0, none⟩)) ∧ Capt w F g b (.int .i64 pad)
  | .padd _ => ∃ a, th = .func (.func 151) #[] #[.pointer (some ⟨a, 0, none⟩)] ∧ Capt w F g a (.pointer (some ⟨g, 0, none⟩))
  | .hdr => ∃ a b c, th = .func (.func 156) #[] #[.pointer (some ⟨a, 0, none⟩), .pointer (some ⟨b, 0, none⟩), .pointer (some ⟨c, 0, none⟩)] ∧ Three w F g s a b c
  | .byt d => ∃ em es eo a b c gc base top v, th = .func (.func 139) #[] #[.pointer (some ⟨em, 0, none⟩), .pointer (some ⟨es, 0, none⟩), .pointer (some ⟨eo, 0, none⟩)] ∧
      Capt w F g em (.iface 179 (.pointer (some ⟨gc, 0, none⟩))) ∧ Capt w F g es (.pointer (some ⟨g, 5, none⟩)) ∧ Capt w F g eo (.func (.func 158) #[] #[.pointer (some ⟨a, 0, none⟩), .pointer (some ⟨b, 0, none⟩), .pointer (some ⟨c, 0, none⟩)]) ∧ Three w F g s a b c ∧
      Cp w base top gc (.wr (s.spot s.p + 8) s.f) d (s.L - d) v [] ∧ (∀ k, (base ≤ k ∧ k < top) ∨ v.ownBlock = some k → F k ∧ k ≠ g ∧ k ≠ em ∧ k ≠ es ∧ k ≠ eo ∧ k ≠ a ∧ k ≠ b ∧ k ≠ c ∧ dv.ownBlock ≠ some k) ∧ d < s.L
  | .len => th = .func (.func 159) #[] #[]
  | .fin => th = .nilFunc

/-- A put stands in the blocks F, its own block is g. -/
def PutAt (w : World) (F : Nat → Prop) (g : Nat) (s : Rs) : Prop :=
  ∃ A L c a av th, RpBlk w g s (.slice A L c) a av th ∧ F g ∧ s.Ok ∧ BytesIn (fun k => F k ∧ k ≠ g) w (.slice A L c) (Mb.bl s.f 0 s.L) ∧ L ≤ c ∧ c ≤ 9223372036854775807 ∧ ThenIs w F g s (.slice A L c) th ∧
    (∀ b, s.next = some b → a = b ∧ BytesIn (fun k => F k ∧ k ≠ g) w av b.bs)

namespace Capt
variable {w w' : World} {F F' : Nat → Prop} {g a : Nat} {v : Value}
theorem keep (h : Capt w F g a v) (hb : ∀ k, F k → k ≠ g → w'.heap[k]? = w.heap[k]?) : Capt w' F g a v := ⟨h.1, h.2.1, (World.cell?_of_block (w := w) (a := ⟨a, 0, none⟩) (hb a h.1 h.2.1)).trans h.2.2⟩
theorem mono (h : Capt w F g a v) (hF : ∀ k, F k → F' k) : Capt w F' g a v := ⟨hF a h.1, h.2⟩
end Capt

/-- Bytes that are some lie in their slice's own block. -/
theorem BytesIn.ownK {K : Nat → Prop} {w : World} {v : Value} {xs : List Int} (h : BytesIn K w v xs) : BytesIn (fun k => K k ∧ 0 < xs.length ∧ v.ownBlock = some k) w v xs := by
  obtain ⟨A, c, hv, h⟩ := h
  refine ⟨A, c, hv, fun hp => ?_⟩
  obtain ⟨b, off, e, h1, h2, h3⟩ := h hp
  exact ⟨b, off, e, ⟨h1, hp, by rw [hv, e]; rfl⟩, h2, h3⟩

/-- What a call on a put leaves: the put at s, in the same blocks or in new ones; nothing else was turned. -/
def RpMoved (F : Nat → Prop) (g : Nat) (s : Rs) (w : World) (e : Ending) (w' : World) : Prop :=
  e = .returned (.tuple #[]) ∧ ∃ F', PutAt w' F' g s ∧ Touch F w w' ∧ ∀ k, F' k → F k ∨ (w.heap.size ≤ k ∧ k < w'.heap.size)

/-- A put between two accesses: its block, its bytes; nothing goes on. -/
structure RpBare (w : World) (F : Nat → Prop) (g : Nat) (s : Rs) (dv : Value) : Prop where
  blk : ∃ a av, RpBlk w g s dv a av .nilFunc
  own : F g
  ok : s.Ok
  dat : ∃ A c, dv = .slice A s.L c ∧ s.L ≤ c ∧ c ≤ 9223372036854775807
  txt : BytesIn (fun k => F k ∧ k ≠ g) w dv (Mb.bl s.f 0 s.L)

theorem RpBare.below {w w' : World} {F : Nat → Prop} {g : Nat} {s : Rs} {dv : Value} (h : RpBare w F g s dv) (hb : Below w.heap.size w w') : RpBare w' F g s dv := by
  obtain ⟨a, av, hk⟩ := h.blk
  exact ⟨⟨a, av, hk.below hb⟩, h.own, h.ok, h.dat, h.txt.below hb⟩

/-- The claim's end: the state is at its new phase; nothing of it but that has turned. -/
theorem rp_askedS {w w0 : World} {F : Nat → Prop} {g : Nat} {s s' : Rs} {dv : Value} (h : RpBare w0 F g s dv) (hfields : s' = { s with ph := s'.ph }) {b : Ac} {av th : Value} {e : Ending} {w' : World}
    (hw : Below w0.heap.size w0 w) (hnext : s'.next = some b) (ha : RpAsked g s dv b av th w e w') (hbs : BytesIn (fun k => (F k ∨ (w0.heap.size ≤ k ∧ k < w.heap.size)) ∧ k ≠ g) w av b.bs)
    (hth : ∀ w2, w.heap.size ≤ w2.heap.size → (∀ k, k ≠ g → k < w.heap.size → w2.heap[k]? = w.heap[k]?) → ThenIs w2 (fun k => F k ∨ (w0.heap.size ≤ k ∧ k < w.heap.size)) g s' dv th) : RpMoved F g s' w0 e w' := by
  obtain ⟨he, hblk, ht⟩ := ha
  obtain ⟨A, c, hdv, hl, hc⟩ := h.dat
  obtain ⟨a0, av0, hb0⟩ := h.blk
  have hgl := hb0.lt
  have hL : s'.L = s.L := by rw [hfields]
  have hf : s'.f = s.f := by rw [hfields]
  have hblk' : RpBlk w' g s' dv b av th := by
    have hc : RpCells s' dv b av th = RpCells s dv b av th := by rw [hfields]; rfl
    unfold RpBlk at hblk ⊢
    rw [hc]
    exact hblk
  have hok : s'.Ok := by
    have h2 := h.ok
    rw [hfields]
    exact ⟨h2.pow, h2.z0, h2.z1, h2.b0, h2.b1, h2.t0, h2.t1, h2.few, h2.isB, h2.h0, h2.tl, h2.ps⟩
  have hkeep : ∀ k, k ≠ g → k < w.heap.size → w'.heap[k]? = w.heap[k]? := fun k hk hlt => ht.block k hlt fun e => hk e
  subst hdv
  refine ⟨he, fun k => F k ∨ (w0.heap.size ≤ k ∧ k < w.heap.size), ⟨A, s.L, c, b, av, th, hblk', .inl h.own, hok, ?_, hl, hc, hth w' ht.size hkeep, fun b' hb' => ?_⟩, ?_, fun k hk => ?_⟩
  · rw [hL, hf]
    exact (((h.txt.below hw).keep ht.size fun k hk hlt => hkeep k hk.2 hlt).mono fun k hk _ => ⟨.inl hk.1, hk.2⟩)
  · rw [hnext] at hb'
    injection hb' with hb'
    subst hb'
    exact ⟨rfl, hbs.keep ht.size fun k hk hlt => hkeep k hk.2 hlt⟩
  · exact (Touch.of_below hw).trans (ht.mono fun k hk => by have e : k = g := hk; rw [e]; exact h.own)
  · rcases hk with hk | hk
    · exact .inl hk
    · exact .inr ⟨hk.1, Nat.lt_of_lt_of_le hk.2 ht.size⟩

theorem rp_asked {w w0 : World} {F : Nat → Prop} {g : Nat} {s s' : Rs} {dv : Value} (h : RpBare w0 F g s dv) (hfields : s' = { s with ph := s'.ph }) {b : Ac} {av th : Value} {e : Ending} {w' : World}
    (hw : Below w0.heap.size w0 w) (hnext : s'.next = some b) (ha : RpAsked g s dv b av th w e w') (hbs : BytesIn (fun k => (F k ∨ (w0.heap.size ≤ k ∧ k < w.heap.size)) ∧ k ≠ g) w av b.bs)
    (hth : ∀ w2, (∀ k, k ≠ g → k < w.heap.size → w2.heap[k]? = w.heap[k]?) → ThenIs w2 (fun k => F k ∨ (w0.heap.size ≤ k ∧ k < w.heap.size)) g s' dv th) : RpMoved F g s' w0 e w' := rp_askedS h hfields hw hnext ha hbs fun w2 _ hk => hth w2 hk

/-- What a call on a put leaves that turned nothing but the put's own block. -/
def RpMovedG (F : Nat → Prop) (g : Nat) (s : Rs) (w : World) (e : Ending) (w' : World) : Prop := RpMoved F g s w e w' ∧ Touch (fun k => k = g) w w' ∧ w'.cell? ⟨g, 3, none⟩ = w.cell? ⟨g, 3, none⟩
end Go.Proofs.YtikcnioooihncaaGreat
namespace Go.Proofs.YtikcnioooihncaaGreat
open Go.RowKit

theorem row_of_block {w w' : World} {base size n : Nat} {e : TypeId} {v : Value} {xs : List Value} (h : w.ownsRow base e size v n xs) (hb : ∀ k, v.ownBlock = some k → w'.heap[k]? = w.heap[k]?) : w'.ownsRow base e size v n xs := by
  refine ⟨h.1, ?_⟩
  rcases h.2 with h2 | ⟨g, cap, cur, rfl, h1, h2, h3⟩
  · exact .inl h2
  · exact .inr ⟨g, cap, cur, rfl, h1, (hb g rfl).trans h2, h3⟩
theorem row_lt {w : World} {base size n : Nat} {e : TypeId} {v : Value} {xs : List Value} (h : w.ownsRow base e size v n xs) {k : Nat} (hk : v.ownBlock = some k) : base ≤ k ∧ k < w.heap.size := by
  rcases h.2 with ⟨rfl, _⟩ | ⟨g, cap, cur, rfl, h1, h2, h3⟩
  · cases hk
  · injection hk with hk
    subst hk
    exact ⟨h1, (Array.getElem?_eq_some_iff.1 h2).1⟩
end Go.Proofs.YtikcnioooihncaaGreat
namespace Go.Proofs.YtikcnioooihncaaGreat
open Go.RowKit

/-- Where a get is: at the head, at a record's header, in a message's bytes (its type, the record's size, its length, what was read), in the zeros, at the head again, at its end. -/
inductive Gh where
  | head | look | read (typ : Int) (sz n d : Nat) (ys : List Int) | zero (d : Nat) | set | fin

/-- A get: its ring, how many it takes at most, the head as it was told, what it went over, the messages, its fault, where it is. -/
structure Gs where
  B : Nat
  Z : Nat
  most : Int
  h : Int
  dn : Nat
  ms : List (Int × List Int)
  er : Int
  ph : Gh

namespace Gs
/-- Where the next record stands; how much the ring has left for it. -/
def at_ (s : Gs) : Int := Rg.spot s.B s.Z s.h + s.dn
def left (s : Gs) : Int := (s.Z : Int) - Rg.place s.Z s.h - s.dn
/-- The access that a get is at. -/
def next (s : Gs) : Option Ac :=
  match s.ph with
  | .head => some ⟨1, Rg.num s.B s.Z 16, 8, 0, 0, []⟩
  | .look => some ⟨1, s.at_, 8, 0, 0, []⟩
  | .read _ _ n d _ => some ⟨5, s.at_ + 8 + (d : Nat), (Cy.nx (n - d) : Nat), 0, 0, []⟩
  | .zero d => some ⟨6, Rg.spot s.B s.Z s.h + (d : Nat), (Cy.nx (s.dn - d) : Nat), 0, 0, Mb.bl (fun _ => 0) d (Cy.nx (s.dn - d))⟩
  | .set => some ⟨2, Rg.num s.B s.Z 16, 8, Rs.un (Rs.wr (s.h + s.dn)), 0, []⟩
  | .fin => none
/-- Room is handed back. -/
def drain (s : Gs) : Gs := if s.dn = 0 then { s with ph := .fin } else { s with ph := .zero 0 }
/-- The next record is looked at, if there may be one that is wanted. -/
def looks (s : Gs) : Gs := if (s.ms.length : Int) = s.most ∨ s.left = 0 then s.drain else { s with ph := .look }
/-- It goes on behind a record. -/
def pass (s : Gs) (sz : Nat) : Gs := ({ s with dn := s.dn + sz } : Gs).looks
/-- A message was read. -/
def got (s : Gs) (typ : Int) (sz : Nat) (ys : List Int) : Gs := ({ s with ms := s.ms ++ [(typ, ys)] } : Gs).pass sz
/-- A record's size, of its length. -/
def size (l : Int) : Nat := (8 * ((l + 7) / 8)).toNat
/-- A record's header was told. -/
def tell (s : Gs) (l typ : Int) : Gs :=
  if l < 1 then s.drain
  else if l < 8 ∨ s.left < (size l : Int) then ({ s with er := 13 } : Gs).drain
  else if typ = -1 then s.pass (size l)
  else if l = 8 then s.got typ (size l) []
  else { s with ph := .read typ (size l) (l - 8).toNat 0 [] }
/-- An answer is taken. -/
def take (s : Gs) (x : An) : Gs :=
  match s.ph with
  | .head => ({ s with h := Rs.wr x.V } : Gs).looks
  | .look => s.tell (Hd.s32 x.V) (Hd.s32 (x.V / 4294967296))
  | .read typ sz n d ys => if d + Cy.nx (n - d) = n then s.got typ sz (ys ++ x.bs) else { s with ph := .read typ sz n (d + Cy.nx (n - d)) (ys ++ x.bs) }
  | .zero d => if d + Cy.nx (s.dn - d) = s.dn then { s with ph := .set } else { s with ph := .zero (d + Cy.nx (s.dn - d)) }
  | .set => { s with ph := .fin }
  | .fin => s

/-- What holds of a get at any time. -/
structure Ok (s : Gs) : Prop where
  rg : Rg.Ok s.B s.Z
  dn0 : (s.dn : Int) ≤ s.Z - Rg.place s.Z s.h
  m0 : 1 ≤ s.most ∧ s.most ≤ 9223372036854775807
  h0 : -9223372036854775808 ≤ s.h ∧ s.h ≤ 9223372036854775807
  few : s.ms.length ≤ s.dn
/-- What holds of where it is. -/
def PhOk (s : Gs) : Prop :=
  match s.ph with
  | .read _ sz n d _ => d < n ∧ n + 8 ≤ sz ∧ (sz : Int) ≤ s.left ∧ 1 ≤ sz
  | .zero d => d < s.dn
  | .head => s.dn = 0
  | _ => True
theorem Ok.withPh {s : Gs} (ok : s.Ok) (ph : Gh) : ({ s with ph := ph } : Gs).Ok := ⟨ok.rg, ok.dn0, ok.m0, ok.h0, ok.few⟩
theorem Ok.withEr {s : Gs} (ok : s.Ok) (er : Int) : ({ s with er := er } : Gs).Ok := ⟨ok.rg, ok.dn0, ok.m0, ok.h0, ok.few⟩
end Gs

/-- A get's block. -/
def GtCells (s : Gs) (a : Ac) (av th mv : Value) : Array Value :=
  #[.int .i64 s.B, .int .i64 s.Z, .int .i64 s.most, .int .i64 a.K, .int .i64 a.P, .int .i64 a.N, .int .u64 a.V, .int .u64 a.U, av, th, .int .i64 s.h, .int .i64 s.dn, mv, .int .i64 s.er]
/-- A get stands in block g. -/
def GtBlk (w : World) (g : Nat) (s : Gs) (a : Ac) (av th mv : Value) : Prop := w.heap[g]? = some (.cells (GtCells s a av th mv) 73 (0, 0))

namespace GtBlk
variable {w w' : World} {g : Nat} {s : Gs} {av th mv : Value} {a : Ac}
theorem lt (h : GtBlk w g s a av th mv) : g < w.heap.size := (Array.getElem?_eq_some_iff.1 h).1
theorem below (h : GtBlk w g s a av th mv) (hb : Below w.heap.size w w') : GtBlk w' g s a av th mv := (hb.block g h.lt).trans h
theorem of_block (h : GtBlk w g s a av th mv) (hb : w'.heap[g]? = w.heap[g]?) : GtBlk w' g s a av th mv := hb.trans h
theorem c0 (h : GtBlk w g s a av th mv) : w.cell? ⟨g, 0, none⟩ = some (.int .i64 s.B) := by simp [World.cell?, show w.heap[g]? = _ from h, GtCells]
theorem c1 (h : GtBlk w g s a av th mv) : w.cell? ⟨g, 1, none⟩ = some (.int .i64 s.Z) := by simp [World.cell?, show w.heap[g]? = _ from h, GtCells]
theorem c2 (h : GtBlk w g s a av th mv) : w.cell? ⟨g, 2, none⟩ = some (.int .i64 s.most) := by simp [World.cell?, show w.heap[g]? = _ from h, GtCells]
theorem c3 (h : GtBlk w g s a av th mv) : w.cell? ⟨g, 3, none⟩ = some (.int .i64 a.K) := by simp [World.cell?, show w.heap[g]? = _ from h, GtCells]
theorem c4 (h : GtBlk w g s a av th mv) : w.cell? ⟨g, 4, none⟩ = some (.int .i64 a.P) := by simp [World.cell?, show w.heap[g]? = _ from h, GtCells]
theorem c5 (h : GtBlk w g s a av th mv) : w.cell? ⟨g, 5, none⟩ = some (.int .i64 a.N) := by simp [World.cell?, show w.heap[g]? = _ from h, GtCells]
theorem c6 (h : GtBlk w g s a av th mv) : w.cell? ⟨g, 6, none⟩ = some (.int .u64 a.V) := by simp [World.cell?, show w.heap[g]? = _ from h, GtCells]
theorem c7 (h : GtBlk w g s a av th mv) : w.cell? ⟨g, 7, none⟩ = some (.int .u64 a.U) := by simp [World.cell?, show w.heap[g]? = _ from h, GtCells]
theorem c8 (h : GtBlk w g s a av th mv) : w.cell? ⟨g, 8, none⟩ = some av := by simp [World.cell?, show w.heap[g]? = _ from h, GtCells]
theorem c9 (h : GtBlk w g s a av th mv) : w.cell? ⟨g, 9, none⟩ = some th := by simp [World.cell?, show w.heap[g]? = _ from h, GtCells]
theorem c10 (h : GtBlk w g s a av th mv) : w.cell? ⟨g, 10, none⟩ = some (.int .i64 s.h) := by simp [World.cell?, show w.heap[g]? = _ from h, GtCells]
theorem c11 (h : GtBlk w g s a av th mv) : w.cell? ⟨g, 11, none⟩ = some (.int .i64 s.dn) := by simp [World.cell?, show w.heap[g]? = _ from h, GtCells]
theorem c12 (h : GtBlk w g s a av th mv) : w.cell? ⟨g, 12, none⟩ = some mv := by simp [World.cell?, show w.heap[g]? = _ from h, GtCells]
theorem c13 (h : GtBlk w g s a av th mv) : w.cell? ⟨g, 13, none⟩ = some (.int .i64 s.er) := by simp [World.cell?, show w.heap[g]? = _ from h, GtCells]
theorem free (h : GtBlk w g s a av th mv) (i : Nat) : w.frozen? ⟨g, i, none⟩ = false := by simp [World.frozen?, show w.heap[g]? = _ from h]
theorem st (h : GtBlk w g s a av th mv) : StAt w g 3 a av th := ⟨h.c3, h.c4, h.c5, h.c6, h.c7, h.c8, h.c9, h.free⟩
end GtBlk

/-- What 'Do' leaves. -/
def GtAsked (g : Nat) (s : Gs) (a : Ac) (av th mv : Value) (w : World) (e : Ending) (w' : World) : Prop :=
  e = .returned (.tuple #[]) ∧ GtBlk w' g s a av th mv ∧ Touch (fun k => k = g) w w'

theorem gt_seven {w : World} {g : Nat} {s : Gs} {av th mv : Value} {a : Ac} (h : GtBlk w g s a av th mv) (b : Ac) (bv th' : Value) :
    GtBlk (seven w g 3 b bv th') g s b bv th' mv := by
  have h' : w.heap[g]? = some (.cells (GtCells s a av th mv) 73 (0, 0)) := h
  unfold GtBlk seven
  simp [World.setCell, Array.getElem?_modify, h', GtCells]

theorem gt_st {w w' : World} {g : Nat} {s : Gs} {av th mv : Value} {a b : Ac} {bv th' : Value} {e : Ending} (h : GtBlk w g s a av th mv) (hs : StAsked g 3 b bv th' w e w') : GtAsked g s b bv th' mv w e w' := by
  obtain ⟨rfl, W, hb, rfl⟩ := hs
  exact ⟨rfl, gt_seven (h.below hb) b bv th', (Touch.of_below hb).trans (seven_touch1 W g 3 b bv th')⟩

theorem gtDo {w : World} {g : Nat} {s : Gs} {av th mv : Value} {a : Ac} (h : GtBlk w g s a av th mv) (b : Ac) (A : Option Addr) (l c : Nat) (k : FuncId) (rc caps : Array Value) :
    Calls Tryz.prog 54 #[.pointer (some ⟨g, 3, none⟩), .agg #[.int .i64 b.K, .int .i64 b.P, .int .i64 b.N, .int .u64 b.V, .int .u64 b.U, .slice A l c], .func (.func k) rc caps] w (GtAsked g s b (.slice A l c) (.func (.func k) rc caps) mv w) :=
  (stDo h.st b A l c k rc caps).mono fun _ _ hs => gt_st h hs

/-- The messages' cells: a type, bytes. -/
def msCells : List (Int × Value) → List Value
  | [] => []
  | (t, v) :: r => .int .i32 t :: v :: msCells r
/-- The messages stand as a row of their own, their bytes in blocks of K, none of them the row's. -/
def MsAt (K : Nat → Prop) (w : World) (mv : Value) (ms : List (Int × List Int)) : Prop :=
  ∃ vs : List Value, vs.length = ms.length ∧ w.ownsRow 0 69 2 mv ms.length (msCells ((ms.map Prod.fst).zip vs)) ∧ (∀ k, mv.ownBlock = some k → K k) ∧
    ∀ i (hi : i < ms.length) (hv : i < vs.length), BytesIn (fun k => K k ∧ mv.ownBlock ≠ some k) w vs[i] ms[i].2

/-- What a record's reading captured: the get, its type, its size. -/
def GTell (w : World) (F : Nat → Prop) (g : Nat) (typ : Int) (sz : Nat) (on : Value) : Prop :=
  ∃ a b c, on = .func (.func 126) #[] #[.pointer (some ⟨a, 0, none⟩), .pointer (some ⟨b, 0, none⟩), .pointer (some ⟨c, 0, none⟩)] ∧ Capt w F g a (.pointer (some ⟨g, 0, none⟩)) ∧ Capt w F g b (.int .i32 typ) ∧ Capt w F g c (.int .i64 sz)

/-- What goes on from the next answer. A copy that is followed stands in blocks of its own: none that anybody else captured, none of the messages. -/
def GThen (w : World) (F : Nat → Prop) (g : Nat) (s : Gs) (th mv : Value) : Prop :=
  match s.ph with
  | .head => ∃ a, th = .func (.func 57) #[] #[.pointer (some ⟨a, 0, none⟩)] ∧ Capt w F g a (.pointer (some ⟨g, 0, none⟩))
  | .look => ∃ a, th = .func (.func 91) #[] #[.pointer (some ⟨a, 0, none⟩)] ∧ Capt w F g a (.pointer (some ⟨g, 0, none⟩))
  | .read typ sz n d ys => ∃ em es eo er ec gc base top v on, th = .func (.func 139) #[] #[.pointer (some ⟨em, 0, none⟩), .pointer (some ⟨es, 0, none⟩), .pointer (some ⟨eo, 0, none⟩)] ∧
      Capt w F g em (.iface 179 (.pointer (some ⟨gc, 0, none⟩))) ∧ Capt w F g es (.pointer (some ⟨g, 3, none⟩)) ∧ Capt w F g eo (.func (.func 145) #[] #[.pointer (some ⟨er, 0, none⟩), .pointer (some ⟨ec, 0, none⟩)]) ∧
      Capt w F g er on ∧ Capt w F g ec (.pointer (some ⟨gc, 0, none⟩)) ∧ GTell w (fun k => F k ∧ ¬ ((base ≤ k ∧ k < top) ∨ v.ownBlock = some k)) g typ sz on ∧
      Cp w base top gc (.rd (s.at_ + 8)) d (n - d) v ys ∧ (∀ k, (base ≤ k ∧ k < top) ∨ v.ownBlock = some k → F k ∧ k ≠ g ∧ k ≠ em ∧ k ≠ es ∧ k ≠ eo ∧ k ≠ er ∧ k ≠ ec ∧ mv.ownBlock ≠ some k)
  | .zero d => ∃ em es eo a gc base top v, th = .func (.func 139) #[] #[.pointer (some ⟨em, 0, none⟩), .pointer (some ⟨es, 0, none⟩), .pointer (some ⟨eo, 0, none⟩)] ∧
      Capt w F g em (.iface 179 (.pointer (some ⟨gc, 0, none⟩))) ∧ Capt w F g es (.pointer (some ⟨g, 3, none⟩)) ∧ Capt w F g eo (.func (.func 121) #[] #[.pointer (some ⟨a, 0, none⟩)]) ∧ Capt w F g a (.pointer (some ⟨g, 0, none⟩)) ∧
      Cp w base top gc (.ze (Rg.spot s.B s.Z s.h)) d (s.dn - d) v [] ∧ (∀ k, (base ≤ k ∧ k < top) ∨ v.ownBlock = some k → F k ∧ k ≠ g ∧ k ≠ em ∧ k ≠ es ∧ k ≠ eo ∧ k ≠ a ∧ mv.ownBlock ≠ some k)
  | .set => th = .func (.func 123) #[] #[]
  | .fin => th = .nilFunc

/-- A get stands in the blocks F, its own block is g; the messages' blocks are M. -/
def GetAt (w : World) (F : Nat → Prop) (g : Nat) (s : Gs) : Prop :=
  ∃ (M : Nat → Prop) (a : Ac) (av th mv : Value), GtBlk w g s a av th mv ∧ F g ∧ s.Ok ∧ s.PhOk ∧ GThen w (fun k => F k ∧ ¬ M k) g s th mv ∧ MsAt M w mv s.ms ∧ (∀ k, M k → F k ∧ k ≠ g) ∧
    (∀ b, s.next = some b → a = b ∧ BytesIn (fun k => F k ∧ ¬ M k ∧ k ≠ g) w av b.bs)

/-- What a call on a get leaves. -/
def GtMoved (F : Nat → Prop) (g : Nat) (s : Gs) (w : World) (e : Ending) (w' : World) : Prop :=
  e = .returned (.tuple #[]) ∧ ∃ F', GetAt w' F' g s ∧ Touch F w w' ∧ ∀ k, F' k → F k ∨ (w.heap.size ≤ k ∧ k < w'.heap.size)

/-- The same, where its own block alone was turned. -/
def GtMovedG (F : Nat → Prop) (g : Nat) (s : Gs) (w : World) (e : Ending) (w' : World) : Prop := GtMoved F g s w e w' ∧ Touch (fun k => k = g) w w'

/-- A get between two accesses: its block, its messages; nothing goes on. -/
structure GtBare (w : World) (F : Nat → Prop) (g : Nat) (s : Gs) (M : Nat → Prop) (mv : Value) : Prop where
  blk : ∃ a av, GtBlk w g s a av .nilFunc mv
  own : F g
  ok : s.Ok
  msgs : MsAt M w mv s.ms
  in_ : ∀ k, M k → F k ∧ k ≠ g ∧ k < w.heap.size

theorem MsAt.keep {K : Nat → Prop} {w w' : World} {mv : Value} {ms : List (Int × List Int)} (h : MsAt K w mv ms) (hs : w.heap.size ≤ w'.heap.size) (hb : ∀ k, K k → w'.heap[k]? = w.heap[k]?) : MsAt K w' mv ms := by
  obtain ⟨vs, h1, h2, h3, h4⟩ := h
  exact ⟨vs, h1, row_of_block h2 fun k hk => hb k (h3 k hk), h3, fun i hi hv => (h4 i hi hv).keep hs fun k hk _ => hb k hk.1⟩
theorem GTell.keep {w w' : World} {F F' : Nat → Prop} {g : Nat} {typ : Int} {sz : Nat} {on : Value} (h : GTell w F g typ sz on) (hb : ∀ k, F k → k ≠ g → w'.heap[k]? = w.heap[k]?) (hF : ∀ k, F k → F' k) : GTell w' F' g typ sz on := by
  obtain ⟨a, b, c, e, h1, h2, h3⟩ := h
  exact ⟨a, b, c, e, (h1.keep hb).mono hF, (h2.keep hb).mono hF, (h3.keep hb).mono hF⟩
theorem GtBare.lt {w : World} {F M : Nat → Prop} {g : Nat} {s : Gs} {mv : Value} (h : GtBare w F g s M mv) : g < w.heap.size := by
  obtain ⟨a, av, hk⟩ := h.blk
  exact hk.lt
theorem GtBare.below {w w' : World} {F M : Nat → Prop} {g : Nat} {s : Gs} {mv : Value} (h : GtBare w F g s M mv) (hb : Below w.heap.size w w') : GtBare w' F g s M mv := by
  obtain ⟨a, av, hk⟩ := h.blk
  exact ⟨⟨a, av, hk.below hb⟩, h.own, h.ok, h.msgs.keep hb.size fun k hk => hb.block k (h.in_ k hk).2.2, fun k hk => ⟨(h.in_ k hk).1, (h.in_ k hk).2.1, Nat.lt_of_lt_of_le (h.in_ k hk).2.2 hb.size⟩⟩
theorem GtBare.wide {w : World} {F F' M : Nat → Prop} {g : Nat} {s : Gs} {mv : Value} (h : GtBare w F g s M mv) (hF : ∀ k, F k → F' k) : GtBare w F' g s M mv := ⟨h.blk, hF g h.own, h.ok, h.msgs, fun k hk => ⟨hF k (h.in_ k hk).1, (h.in_ k hk).2⟩⟩
theorem GtMoved.cells {F : Nat → Prop} {g : Nat} {s : Gs} {w : World} {e : Ending} {w' : World} (h : GtMoved F g s w e w') : w'.cell? ⟨g, 0, none⟩ = some (.int .i64 s.B) ∧ w'.cell? ⟨g, 1, none⟩ = some (.int .i64 s.Z) ∧ w'.cell? ⟨g, 10, none⟩ = some (.int .i64 s.h) ∧ w'.cell? ⟨g, 11, none⟩ = some (.int .i64 s.dn) := by
  obtain ⟨_, F', ⟨M, a, av, th, mv, hb, _⟩, _⟩ := h
  exact ⟨hb.c0, hb.c1, hb.c10, hb.c11⟩
theorem GtBare.withPh {w : World} {F M : Nat → Prop} {g : Nat} {s : Gs} {mv : Value} (h : GtBare w F g s M mv) (ph : Gh) : GtBare w F g { s with ph := ph } M mv := by
  obtain ⟨a, av, hk⟩ := h.blk
  exact ⟨⟨a, av, hk⟩, h.own, h.ok.withPh ph, h.msgs, h.in_⟩

/-- An access without bytes was asked for. -/
theorem gt_put {w w' : World} {F M : Nat → Prop} {g : Nat} {s : Gs} {mv : Value} (h : GtBare w F g s M mv) (ph : Gh) {b : Ac} {th : Value} (hT : Touch (fun k => k = g) w w') (hb : GtBlk w' g s b (.slice none 0 0) th mv) (hnext : ({ s with ph := ph } : Gs).next = some b) (hbs : b.bs = []) (hph : ({ s with ph := ph } : Gs).PhOk)
    (hth : GThen w' (fun k => (F k ∨ (w.heap.size ≤ k ∧ k < w'.heap.size)) ∧ ¬ M k) g { s with ph := ph } th mv) : GtMoved F g { s with ph := ph } w (.returned (.tuple #[])) w' := by
  refine ⟨rfl, fun k => F k ∨ (w.heap.size ≤ k ∧ k < w'.heap.size), ⟨M, b, _, th, mv, hb, .inl h.own, h.ok.withPh ph, hph, hth, h.msgs.keep hT.size fun k hk => hT.block k (h.in_ k hk).2.2 (h.in_ k hk).2.1, fun k hk => ⟨.inl (h.in_ k hk).1, (h.in_ k hk).2.1⟩, fun b' hb' => ?_⟩, hT.mono fun k e => by have e : k = g := e; rw [e]; exact h.own, fun k hk => hk⟩
  rw [hnext] at hb'
  injection hb' with hb'
  subst hb'
  refine ⟨rfl, ?_⟩
  rw [hbs]
  exact BytesIn.none _ _

/-- Nothing goes on. -/
theorem gt_done {w w' : World} {F M : Nat → Prop} {g : Nat} {s : Gs} {mv : Value} (h : GtBare w' F g s M mv) (hT : Touch F w w') (e : s.ph = .fin) : GtMoved F g s w (.returned (.tuple #[])) w' := by
  obtain ⟨a, av, hk⟩ := h.blk
  refine ⟨rfl, F, ⟨M, a, av, .nilFunc, mv, hk, h.own, h.ok, ?_, ?_, h.msgs, fun k hk => ⟨(h.in_ k hk).1, (h.in_ k hk).2.1⟩, fun b hb => ?_⟩, hT, fun k hk => .inl hk⟩
  · unfold Gs.PhOk; rw [e]; trivial
  · unfold GThen; rw [e]
  · unfold Gs.next at hb; rw [e] at hb; cases hb

theorem GtMoved.afterT {F : Nat → Prop} {g : Nat} {s : Gs} {w W : World} {e : Ending} {w' : World} (h : GtMoved F g s W e w') (ht : Touch F w W) : GtMoved F g s w e w' := by
  obtain ⟨he, F', hp, ht2, hF⟩ := h
  exact ⟨he, F', hp, ht.trans ht2, fun k hk => (hF k hk).imp id fun h => ⟨Nat.le_trans ht.size h.1, h.2⟩⟩
end Go.Proofs.YtikcnioooihncaaGreat
namespace Go.Proofs.YtikcnioooihncaaGreat
open Go.RowKit

set_option maxRecDepth 100000 in
set_option maxHeartbeats 800000 in
theorem rpTry {w : World} {F : Nat → Prop} {g : Nat} {s : Rs} {dv : Value} (h : RpBare w F g s dv) :
    Calls Tryz.prog 79 #[.pointer (some ⟨g, 0, none⟩)] w (RpMoved F g { s with ph := .tail } w) := by
  obtain ⟨a, av, hblk⟩ := h.blk
  have hgl := hblk.lt
  have HH := Lib.hid h
  have HB := Lib.hid hblk
  have hb0 := (Below.refl w.heap.size w).alloc (Nat.le_refl _) (.cells #[.pointer (some ⟨g, 0, none⟩)] 58)
  have hbox := rp_box w (.pointer (some ⟨g, 0, none⟩)) 58
  have hsz : (w.alloc (.cells #[.pointer (some ⟨g, 0, none⟩)] 58)).heap.size = w.heap.size + 1 := by simp
  have c0 := (hb0.cell (p := ⟨g, 0, none⟩) hgl).trans hblk.c0
  have c1 := (hb0.cell (p := ⟨g, 1, none⟩) hgl).trans hblk.c1
  have HW := Lib.hid hb0
  clear h hblk hb0
  go_enter Tryz.func79, Tryz.ntmps79
  go_upto_region 1 with (fail)
  generalize w.alloc (.cells #[.pointer (some ⟨g, 0, none⟩)] 58) = W at hbox HW hsz c0 c1 ⊢
  have hga : ¬ w.heap.size = g := by omega
  have hla : w.heap.size < W.heap.size := by omega
  have hgW : g < W.heap.size := by omega
  clear hsz
  go_region_held3 (fun w' => w'.cell? ⟨w.heap.size, 0, none⟩ = some (.pointer (some ⟨g, 0, none⟩)) ∧ w'.cell? ⟨g, 0, none⟩ = some (.int .i64 s.B) ∧ w'.cell? ⟨g, 1, none⟩ = some (.int .i64 s.Z)) (go_keep)
    (first
      | (go_at_call 54; refine (rpDo (HB.out.below hbl) ⟨1, s.num 0, 8, 0, 0, []⟩ none 0 0 107 #[] #[.pointer (some ⟨w.heap.size, 0, none⟩)]).mono ?_; intro e wd has; have HAS := Lib.hid has; obtain ⟨rfl, hblkd, htd⟩ := has; have kd := (htd.cell (p := ⟨w.heap.size, 0, none⟩) (lt_of_cell k2) hga).trans k2; have o0d := hblkd.c0; have o1d := hblkd.c1; clear hblkd)
      | (go_at_call 55; refine (stLoad (s.num 0) _).mono ?_; rintro e x2 ⟨rfl, hq2⟩; have hb2 := hb1.trans (hq2.mono hb1.size); have k2 := (hb2.cell (p := ⟨w.heap.size, 0, none⟩) hla).trans hbox; have o02 := (hb2.cell (p := ⟨g, 0, none⟩) hgW).trans c0; have o12 := (hb2.cell (p := ⟨g, 1, none⟩) hgW).trans c1; have hbl := HW.out.trans (hb2.mono HW.out.size))
      | (go_at_call 106; refine (rpTailC HH.out.ok _).mono ?_; rintro e x1 ⟨rfl, hq1⟩; have hb1 := below_drew hq1; have k1 := (hb1.cell (p := ⟨w.heap.size, 0, none⟩) hla).trans hbox; have o01 := (hb1.cell (p := ⟨g, 0, none⟩) hgW).trans c0; have o11 := (hb1.cell (p := ⟨g, 1, none⟩) hgW).trans c1))
  all_goals
    go_wp2
    go_end0
    refine rp_asked (s' := { s with ph := .tail }) HH.out rfl hbl rfl HAS.out (BytesIn.none _ _) fun w2 hk => ?_
    have hl3 : w.heap.size < x2.heap.size := lt_of_cell k2
    exact ⟨w.heap.size, rfl, .inr ⟨Nat.le_refl _, hl3⟩, hga, (World.cell?_of_block (w := x2) (a := ⟨w.heap.size, 0, none⟩) (hk _ hga hl3)).trans k2⟩

set_option maxRecDepth 100000 in
set_option maxHeartbeats 800000 in
theorem rpBegin {w : World} {F : Nat → Prop} {g : Nat} {s : Rs} {dv : Value} (h : RpBare w F g s dv) :
    Calls Tryz.prog 47 #[.pointer (some ⟨g, 0, none⟩)] w (RpMoved F g { s with ph := .ask } w) := by
  obtain ⟨a, av, hblk⟩ := h.blk
  have hgl := hblk.lt
  have HH := Lib.hid h
  have HB := Lib.hid hblk
  have hb0 := (Below.refl w.heap.size w).alloc (Nat.le_refl _) (.cells #[.pointer (some ⟨g, 0, none⟩)] 58)
  have hbox := rp_box w (.pointer (some ⟨g, 0, none⟩)) 58
  have hsz : (w.alloc (.cells #[.pointer (some ⟨g, 0, none⟩)] 58)).heap.size = w.heap.size + 1 := by simp
  have c0 := (hb0.cell (p := ⟨g, 0, none⟩) hgl).trans hblk.c0
  have c1 := (hb0.cell (p := ⟨g, 1, none⟩) hgl).trans hblk.c1
  have HW := Lib.hid hb0
  clear h hblk hb0
  go_enter Tryz.func47, Tryz.ntmps47
  go_upto_region 1 with (fail)
  generalize w.alloc (.cells #[.pointer (some ⟨g, 0, none⟩)] 58) = W at hbox HW hsz c0 c1 ⊢
  have hga : ¬ w.heap.size = g := by omega
  have hla : w.heap.size < W.heap.size := by omega
  have hgW : g < W.heap.size := by omega
  clear hsz
  go_region_held3 (fun w' => w'.cell? ⟨w.heap.size, 0, none⟩ = some (.pointer (some ⟨g, 0, none⟩)) ∧ w'.cell? ⟨g, 0, none⟩ = some (.int .i64 s.B) ∧ w'.cell? ⟨g, 1, none⟩ = some (.int .i64 s.Z)) (go_keep)
    (first
      | (go_at_call 54; refine (rpDo (HB.out.below hbl) ⟨1, s.num 8, 8, 0, 0, []⟩ none 0 0 78 #[] #[.pointer (some ⟨w.heap.size, 0, none⟩)]).mono ?_; intro e wd has; have HAS := Lib.hid has; obtain ⟨rfl, hblkd, htd⟩ := has; have kd := (htd.cell (p := ⟨w.heap.size, 0, none⟩) (lt_of_cell k2) hga).trans k2; have o0d := hblkd.c0; have o1d := hblkd.c1; clear hblkd)
      | (go_at_call 55; refine (stLoad (s.num 8) _).mono ?_; rintro e x2 ⟨rfl, hq2⟩; have hb2 := hb1.trans (hq2.mono hb1.size); have k2 := (hb2.cell (p := ⟨w.heap.size, 0, none⟩) hla).trans hbox; have o02 := (hb2.cell (p := ⟨g, 0, none⟩) hgW).trans c0; have o12 := (hb2.cell (p := ⟨g, 1, none⟩) hgW).trans c1; have hbl := HW.out.trans (hb2.mono HW.out.size))
      | (go_at_call 77; refine (rpCopyC HH.out.ok _).mono ?_; rintro e x1 ⟨rfl, hq1⟩; have hb1 := below_drew hq1; have k1 := (hb1.cell (p := ⟨w.heap.size, 0, none⟩) hla).trans hbox; have o01 := (hb1.cell (p := ⟨g, 0, none⟩) hgW).trans c0; have o11 := (hb1.cell (p := ⟨g, 1, none⟩) hgW).trans c1))
  all_goals
    go_wp2
    go_end0
    refine rp_asked (s' := { s with ph := .ask }) HH.out rfl hbl rfl HAS.out (BytesIn.none _ _) fun w2 hk => ?_
    have hl3 : w.heap.size < x2.heap.size := lt_of_cell k2
    exact ⟨w.heap.size, rfl, .inr ⟨Nat.le_refl _, hl3⟩, hga, (World.cell?_of_block (w := x2) (a := ⟨w.heap.size, 0, none⟩) (hk _ hga hl3)).trans k2⟩

set_option maxRecDepth 100000 in
set_option maxHeartbeats 800000 in
theorem rpClaim {w : World} {F : Nat → Prop} {g : Nat} {s : Rs} {dv : Value} (h : RpBare w F g s dv) (pad : Int) :
    Calls Tryz.prog 134 #[.pointer (some ⟨g, 0, none⟩), .int .i64 pad] w (RpMoved F g { s with ph := .cas pad } w) := by
  obtain ⟨a, av, hblk⟩ := h.blk
  have hgl := hblk.lt
  have HH := Lib.hid h
  have HB := Lib.hid hblk
  have hb0 := (Below.refl w.heap.size w).alloc (Nat.le_refl _) (.cells #[.pointer (some ⟨g, 0, none⟩)] 58)
  have hbox0 := rp_box w (.pointer (some ⟨g, 0, none⟩)) 58
  have hsz : (w.alloc (.cells #[.pointer (some ⟨g, 0, none⟩)] 58)).heap.size = w.heap.size + 1 := by simp
  have hbox1 := rp_box (w.alloc (.cells #[.pointer (some ⟨g, 0, none⟩)] 58)) (.int .i64 pad) 2
  have hb1 := (Below.refl (w.alloc (.cells #[.pointer (some ⟨g, 0, none⟩)] 58)).heap.size (w.alloc (.cells #[.pointer (some ⟨g, 0, none⟩)] 58))).alloc (Nat.le_refl _) (.cells #[.int .i64 pad] 2)
  have hbox := (hb1.cell (p := ⟨w.heap.size, 0, none⟩) (by show w.heap.size < _; omega)).trans hbox0
  have hsz1 : ((w.alloc (.cells #[.pointer (some ⟨g, 0, none⟩)] 58)).alloc (.cells #[.int .i64 pad] 2)).heap.size = w.heap.size + 2 := by simp
  have HW := Lib.hid (hb0.trans (hb1.mono (by omega)))
  rw [hsz] at hbox1
  clear h hblk hb0 hb1 hbox0 hsz
  go_enter Tryz.func134, Tryz.ntmps134
  go_upto_region 1 with (fail)
  generalize (w.alloc (.cells #[.pointer (some ⟨g, 0, none⟩)] 58)).alloc (.cells #[.int .i64 pad] 2) = W at hbox hbox1 HW hsz1 ⊢
  have hga : ¬ w.heap.size = g := by omega
  have hgb : ¬ w.heap.size + 1 = g := by omega
  have hla : w.heap.size < W.heap.size := by omega
  have hlb : w.heap.size + 1 < W.heap.size := by omega
  clear hsz1
  go_region_held3 (fun w' => w'.cell? ⟨w.heap.size, 0, none⟩ = some (.pointer (some ⟨g, 0, none⟩)) ∧ w'.cell? ⟨w.heap.size + 1, 0, none⟩ = some (.int .i64 pad)) (go_keep)
    (first
      | (go_at_call 54; refine (rpDo (HB.out.below hbl) ⟨4, s.num 0, 8, Rs.un s.t, Rs.un (Rs.wr (Rs.wr (s.t + s.need) + pad)), []⟩ none 0 0 148 #[] #[.pointer (some ⟨w.heap.size, 0, none⟩), .pointer (some ⟨w.heap.size + 1, 0, none⟩)]).mono ?_; intro e wd has; have HAS := Lib.hid has; obtain ⟨rfl, hblkd, htd⟩ := has; have kd := (htd.cell (p := ⟨w.heap.size, 0, none⟩) (lt_of_cell k1) hga).trans k1; have md := (htd.cell (p := ⟨w.heap.size + 1, 0, none⟩) (lt_of_cell m1) hgb).trans m1; clear hblkd)
      | (go_at_call 147; refine (rpAdvance (HB.out.below HW.out.drew) HH.out.ok pad).mono ?_; rintro e x1 ⟨rfl, hq1⟩; have hb1 := below_drew hq1; have k1 := (hb1.cell (p := ⟨w.heap.size, 0, none⟩) hla).trans hbox; have m1 := (hb1.cell (p := ⟨w.heap.size + 1, 0, none⟩) hlb).trans hbox1; have hbl := HW.out.trans (hb1.mono HW.out.size)))
  all_goals
    go_wp2
    go_end0
    refine rp_asked (s' := { s with ph := .cas pad }) HH.out rfl hbl rfl HAS.out (BytesIn.none _ _) fun w2 hk => ?_
    have hl3 : w.heap.size < x1.heap.size := lt_of_cell k1
    have hm3 : w.heap.size + 1 < x1.heap.size := lt_of_cell m1
    exact ⟨w.heap.size, w.heap.size + 1, rfl, ⟨.inr ⟨Nat.le_refl _, hl3⟩, hga, (World.cell?_of_block (w := x1) (a := ⟨w.heap.size, 0, none⟩) (hk _ hga hl3)).trans k1⟩, .inr ⟨Nat.le_succ _, hm3⟩, hgb, (World.cell?_of_block (w := x1) (a := ⟨w.heap.size + 1, 0, none⟩) (hk _ hgb hm3)).trans m1⟩
end Go.Proofs.YtikcnioooihncaaGreat
namespace Go.Proofs.YtikcnioooihncaaGreat
open Go.RowKit

theorem RpMoved.after {F : Nat → Prop} {g : Nat} {s : Rs} {w W : World} {e : Ending} {w' : World} (h : RpMoved F g s W e w') (hb : Below w.heap.size w W) : RpMoved F g s w e w' := by
  obtain ⟨he, F', hp, ht, hF⟩ := h
  exact ⟨he, F', hp, (Touch.of_below hb).trans ht, fun k hk => (hF k hk).imp id fun h => ⟨Nat.le_trans hb.size h.1, h.2⟩⟩

theorem Capt.below {w w' : World} {F : Nat → Prop} {g a : Nat} {v : Value} (h : Capt w F g a v) (hb : Below w.heap.size w w') : Capt w' F g a v := ⟨h.1, h.2.1, (hb.cell (p := ⟨a, 0, none⟩) (lt_of_cell h.2.2)).trans h.2.2⟩

theorem da_size (w : World) (q : Obj) : (w.alloc q).drew.heap.size = w.heap.size + 1 := by show (w.alloc q).heap.size = _; simp
theorem da_below (w : World) (q : Obj) : Below w.heap.size w (w.alloc q).drew := ((Below.refl w.heap.size w).alloc (Nat.le_refl _) q).drew
theorem rp_free (w : World) (v : Value) (T : TypeId) : (w.alloc (.cells #[v] T)).frozen? ⟨w.heap.size, 0, none⟩ = false := by
  have h := Go.Deep.blk_alloc_new w (.cells #[v] T)
  unfold World.frozen?
  simp only [h]
  rfl

set_option maxRecDepth 100000 in
theorem rpChooseOn {w : World} {F : Nat → Prop} {g : Nat} {s : Rs} {dv : Value} (h : RpBare w F g s dv) (gap : Int) {a b : Nat} (ha : w.cell? ⟨a, 0, none⟩ = some (.pointer (some ⟨g, 0, none⟩))) (hb : w.cell? ⟨b, 0, none⟩ = some (.int .i64 gap)) :
    Calls Tryz.prog 136 #[.pointer (some ⟨a, 0, none⟩), .pointer (some ⟨b, 0, none⟩)] w (RpMoved F g { s with ph := .cas gap } w) := by
  have HC := Lib.hid (rpClaim h gap)
  clear h
  go_enter Tryz.func136, Tryz.ntmps136
  go_wp2_with (go_at_call 134; refine HC.out.mono ?_; intro e w2 hm; have HM := Lib.hid hm; obtain ⟨rfl, _⟩ := hm)
  go_end0
  exact HM.out

set_option maxRecDepth 100000 in
set_option maxHeartbeats 1000000 in
/-- Waiting for room at the ring's beginning. -/
theorem rpAwaitGap {w : World} {F : Nat → Prop} {g : Nat} {s : Rs} {dv : Value} (h : RpBare w F g s dv) (hF : ∀ k, F k → k < w.heap.size) (gap : Int) {a b : Nat} (ha : Capt w F g a (.pointer (some ⟨g, 0, none⟩))) (hb' : Capt w F g b (.int .i64 gap)) :
    Calls Tryz.prog 108 #[.pointer (some ⟨g, 0, none⟩), .func (.func 135) #[.pointer (some ⟨g, 0, none⟩)] #[], .func (.func 136) #[] #[.pointer (some ⟨a, 0, none⟩), .pointer (some ⟨b, 0, none⟩)]] w (RpMoved F g (if s.ahead = true then { s with ph := .cas gap } else { s with ph := .head2 gap }) w) := by
  obtain ⟨a0, av, hblk⟩ := h.blk
  have hgl := hblk.lt
  have HH := Lib.hid h
  have HB := Lib.hid hblk
  obtain ⟨WW, hWW⟩ : ∃ WW, WW = ((w.alloc (.cells #[.pointer (some ⟨g, 0, none⟩)] 58)).alloc (.cells #[.func (.func 135) #[.pointer (some ⟨g, 0, none⟩)] #[]] 26)).alloc (.cells #[.func (.func 136) #[] #[.pointer (some ⟨a, 0, none⟩), .pointer (some ⟨b, 0, none⟩)]] 1) := ⟨_, rfl⟩
  obtain ⟨hw3, x0, x1, x2, hsz⟩ := rp_boxes w (.pointer (some ⟨g, 0, none⟩)) (.func (.func 135) #[.pointer (some ⟨g, 0, none⟩)] #[]) (.func (.func 136) #[] #[.pointer (some ⟨a, 0, none⟩), .pointer (some ⟨b, 0, none⟩)]) _ _ _ WW hWW
  have HW := Lib.hid hw3
  obtain ⟨s', hs'⟩ : ∃ s' : Rs, s' = (if s.ahead = true then { s with ph := .cas gap } else { s with ph := .head2 gap }) := ⟨_, rfl⟩
  rw [← hs']
  have HSS := Lib.hid hs'
  clear hs'
  have HA := Lib.hid (And.intro ha hb')
  have HFL := Lib.hid hF
  clear hF
  clear h hblk hw3 ha hb'
  go_enter Tryz.func108, Tryz.ntmps108
  go_upto_region 1 with (fail)
  rw [← hWW]
  clear hWW
  have hga : ¬ w.heap.size = g := by omega
  have hgb : ¬ w.heap.size + 1 = g := by omega
  have hgc : ¬ w.heap.size + 2 = g := by omega
  have hl0 : w.heap.size < WW.heap.size := by omega
  have hl1 : w.heap.size + 1 < WW.heap.size := by omega
  have hl2 : w.heap.size + 2 < WW.heap.size := by omega
  clear hsz
  cases hf : s.ahead with
  | true =>
    have HF := Lib.hid hf
    clear hf
    go_wp2_with (first
      | (go_at_call 136; refine (rpChooseOn (HH.out.below hb2) gap (HA.out.1.below hb2).2.2 (HA.out.2.below hb2).2.2).mono ?_; intro e w3 hm; have HM := Lib.hid hm; obtain ⟨rfl, _⟩ := hm)
      | (go_at_call 135; refine (rpAhead (HB.out.below HW.out) HH.out.ok).mono ?_; rintro e w2 ⟨rfl, hb⟩; rw [HF.out]; have hb2 := HW.out.trans (hb.mono HW.out.size); have k0 := (hb.cell (p := ⟨w.heap.size, 0, none⟩) hl0).trans x0; have k2 := (hb.cell (p := ⟨w.heap.size + 2, 0, none⟩) hl2).trans x2))
    go_end0
    have hss := HSS.out
    rw [if_pos HF.out] at hss
    rw [hss]
    exact HM.out.after hb2
  | false =>
    have HF := Lib.hid hf
    clear hf
    go_upto_region 3 with (go_at_call 135; refine (rpAhead (HB.out.below HW.out) HH.out.ok).mono ?_; rintro e w2 ⟨rfl, hb⟩; rw [HF.out])
    have hb2 := HW.out.trans (hb.mono HW.out.size)
    have y0 := (hb.cell (p := ⟨w.heap.size, 0, none⟩) hl0).trans x0
    have y1 := (hb.cell (p := ⟨w.heap.size + 1, 0, none⟩) hl1).trans x1
    have y2 := (hb.cell (p := ⟨w.heap.size + 2, 0, none⟩) hl2).trans x2
    have hs2 := hb.size
    have HB2 := Lib.hid hb2
    clear hb hb2 x0 x1 x2
    have hl0 : w.heap.size < w2.heap.size := by omega
    have hl1 : w.heap.size + 1 < w2.heap.size := by omega
    have hl2 : w.heap.size + 2 < w2.heap.size := by omega
    have c0 := (HB2.out.cell (p := ⟨g, 0, none⟩) hgl).trans HB.out.c0
    have c1 := (HB2.out.cell (p := ⟨g, 1, none⟩) hgl).trans HB.out.c1
    have hgW : g < w2.heap.size := Nat.lt_of_lt_of_le hgl HB2.out.size
    go_region_held3 (fun w' => w'.cell? ⟨w.heap.size, 0, none⟩ = some (.pointer (some ⟨g, 0, none⟩)) ∧ w'.cell? ⟨w.heap.size + 1, 0, none⟩ = some (.func (.func 135) #[.pointer (some ⟨g, 0, none⟩)] #[]) ∧ w'.cell? ⟨w.heap.size + 2, 0, none⟩ = some (.func (.func 136) #[] #[.pointer (some ⟨a, 0, none⟩), .pointer (some ⟨b, 0, none⟩)]) ∧ w'.cell? ⟨g, 0, none⟩ = some (.int .i64 s.B) ∧ w'.cell? ⟨g, 1, none⟩ = some (.int .i64 s.Z)) (go_keep)
      (first
        | (go_at_call 54; refine (rpDo (HB.out.below hbl) ⟨1, s.num 16, 8, 0, 0, []⟩ none 0 0 132 #[] #[.pointer (some ⟨w.heap.size, 0, none⟩), .pointer (some ⟨w.heap.size + 1, 0, none⟩), .pointer (some ⟨w.heap.size + 2, 0, none⟩)]).mono ?_; intro e wd has; have HAS := Lib.hid has; obtain ⟨rfl, hblkd, htd⟩ := has; have kd := (htd.cell (p := ⟨w.heap.size, 0, none⟩) (lt_of_cell k2) hga).trans k2; have md := (htd.cell (p := ⟨w.heap.size + 1, 0, none⟩) (lt_of_cell m2) hgb).trans m2; have nd := (htd.cell (p := ⟨w.heap.size + 2, 0, none⟩) (lt_of_cell n2) hgc).trans n2; have o0d := hblkd.c0; have o1d := hblkd.c1; clear hblkd)
        | (go_at_call 55; refine (stLoad (s.num 16) _).mono ?_; rintro e x2 ⟨rfl, hq2⟩; have hb2 := hb1.trans (hq2.mono hb1.size); have k2 := (hb2.cell (p := ⟨w.heap.size, 0, none⟩) hl0).trans y0; have m2 := (hb2.cell (p := ⟨w.heap.size + 1, 0, none⟩) hl1).trans y1; have n2 := (hb2.cell (p := ⟨w.heap.size + 2, 0, none⟩) hl2).trans y2; have o02 := (hb2.cell (p := ⟨g, 0, none⟩) hgW).trans c0; have o12 := (hb2.cell (p := ⟨g, 1, none⟩) hgW).trans c1; have hbl := HB2.out.trans (hb2.mono HB2.out.size))
        | (go_at_call 56; refine (rpHeadC HH.out.ok _).mono ?_; rintro e x1 ⟨rfl, hq1⟩; have hb1 := below_drew hq1; have k1 := (hb1.cell (p := ⟨w.heap.size, 0, none⟩) hl0).trans y0; have m1 := (hb1.cell (p := ⟨w.heap.size + 1, 0, none⟩) hl1).trans y1; have n1 := (hb1.cell (p := ⟨w.heap.size + 2, 0, none⟩) hl2).trans y2; have o01 := (hb1.cell (p := ⟨g, 0, none⟩) hgW).trans c0; have o11 := (hb1.cell (p := ⟨g, 1, none⟩) hgW).trans c1))
    all_goals
      go_wp2
      go_end0
      have hss := HSS.out
      rw [if_neg (by rw [HF.out]; decide)] at hss
      rw [hss]
      refine rp_asked (s' := { s with ph := .head2 gap }) HH.out rfl hbl rfl HAS.out (BytesIn.none _ _) fun w5 hk => ?_
      have hl3 : w.heap.size < x2.heap.size := lt_of_cell k2
      have hm3 : w.heap.size + 1 < x2.heap.size := lt_of_cell m2
      have hn3 : w.heap.size + 2 < x2.heap.size := lt_of_cell n2
      refine ⟨w.heap.size, w.heap.size + 1, w.heap.size + 2, _, rfl, ⟨.inr ⟨Nat.le_refl _, hl3⟩, hga, (World.cell?_of_block (w := x2) (a := ⟨w.heap.size, 0, none⟩) (hk _ hga hl3)).trans k2⟩, ⟨.inr ⟨by omega, hm3⟩, hgb, (World.cell?_of_block (w := x2) (a := ⟨w.heap.size + 1, 0, none⟩) (hk _ hgb hm3)).trans m2⟩, ⟨.inr ⟨by omega, hn3⟩, hgc, (World.cell?_of_block (w := x2) (a := ⟨w.heap.size + 2, 0, none⟩) (hk _ hgc hn3)).trans n2⟩, ?_⟩
      have hk5 : ∀ k, F k → k ≠ g → w5.heap[k]? = x2.heap[k]? := fun k hk' hkg => hk k hkg (Nat.lt_of_lt_of_le (HFL.out k hk') hbl.size)
      exact ⟨a, b, rfl, ((HA.out.1.below hbl).keep fun k hk hkg => hk5 k hk hkg).mono fun k hk => .inl hk, ((HA.out.2.below hbl).keep fun k hk hkg => hk5 k hk hkg).mono fun k hk => .inl hk⟩

theorem RpBare.wide {w : World} {F F' : Nat → Prop} {g : Nat} {s : Rs} {dv : Value} (h : RpBare w F g s dv) (hF : ∀ k, F k → F' k) : RpBare w F' g s dv := ⟨h.blk, hF g h.own, h.ok, h.dat, h.txt.mono fun k hk _ => ⟨hF k hk.1, hk.2⟩⟩
theorem RpMoved.narrow {F F2 : Nat → Prop} {g : Nat} {s : Rs} {w W : World} {e : Ending} {w' : World} (h : RpMoved F2 g s W e w') (hb : Below w.heap.size w W) (hF : ∀ k, F2 k → F k ∨ (w.heap.size ≤ k ∧ k < W.heap.size)) : RpMoved F g s w e w' := by
  obtain ⟨he, F', hp, ht, hF'⟩ := h
  refine ⟨he, F', hp, ⟨ht.os.trans hb.os, ht.tape.trans hb.tape, ht.output.trans hb.output, Nat.le_trans hb.size ht.size, fun k hk hn => (ht.block k (Nat.lt_of_lt_of_le hk hb.size) fun e => ?_).trans (hb.block k hk)⟩, fun k hk => ?_⟩
  · rcases hF k e with e | e
    · exact hn e
    · omega
  · rcases hF' k hk with e | e
    · exact (hF k e).imp id fun e => ⟨e.1, Nat.lt_of_lt_of_le e.2 ht.size⟩
    · exact .inr ⟨Nat.le_trans hb.size e.1, e.2⟩

theorem RpBare.lt {w : World} {F : Nat → Prop} {g : Nat} {s : Rs} {dv : Value} (h : RpBare w F g s dv) : g < w.heap.size := by
  obtain ⟨a, av, hk⟩ := h.blk
  exact hk.lt

set_option maxRecDepth 100000 in
set_option maxHeartbeats 1000000 in
theorem rpChoose {w : World} {F : Nat → Prop} {g : Nat} {s : Rs} {dv : Value} (h : RpBare w F g s dv) (hF : ∀ k, F k → k < w.heap.size) :
    Calls Tryz.prog 110 #[.pointer (some ⟨g, 0, none⟩)] w (RpMoved F g s.choose w) := by
  obtain ⟨a0, av, hblk⟩ := h.blk
  have hgl := hblk.lt
  have HH := Lib.hid h
  have hb0 := (Below.refl w.heap.size w).alloc (Nat.le_refl _) (.cells #[.pointer (some ⟨g, 0, none⟩)] 58)
  have hbox := rp_box w (.pointer (some ⟨g, 0, none⟩)) 58
  have hsz : (w.alloc (.cells #[.pointer (some ⟨g, 0, none⟩)] 58)).heap.size = w.heap.size + 1 := by simp
  have HB := Lib.hid (hblk.below hb0)
  have HW := Lib.hid hb0
  obtain ⟨s', hs'⟩ : ∃ s' : Rs, s' = s.choose := ⟨_, rfl⟩
  rw [← hs']
  have HSS := Lib.hid hs'
  have HFL := Lib.hid hF
  have hz := h.ok.place_in s.t
  have hz1 := h.ok.z1
  have he1 : IntKind.i64.wrap ((s.Z : Int) - s.place s.t) = s.gap := IntWalk.i64_in _ (by omega)
  have HE := Lib.hid he1
  clear hs' h hblk hb0 hF hz hz1 he1
  go_enter Tryz.func110, Tryz.ntmps110
  go_upto_region 1 with (fail)
  generalize w.alloc (.cells #[.pointer (some ⟨g, 0, none⟩)] 58) = W at hbox HW hsz HB ⊢
  have hga : ¬ w.heap.size = g := by omega
  have hgW : g < W.heap.size := by omega
  have hla : w.heap.size < W.heap.size := by omega
  clear hsz
  have c0 := HB.out.c0
  have c1 := HB.out.c1
  have c6 := HB.out.c13
  have y0 := World.new_ne W ⟨w.heap.size, 0, none⟩ hbox
  have y1 := World.new_ne W ⟨g, 1, none⟩ c1
  have y6 := World.new_ne W ⟨g, 13, none⟩ c6
  have yz := World.new_ne W ⟨g, 0, none⟩ c0
  have hee : IntKind.i64.wrap ((s.Z : Int) - s.place s.t) = s.gap := HE.out
  go_cut [2] (fun v wx => ∃ b, v = .pointer (some ⟨b, 0, none⟩) ∧ Below W.heap.size W wx ∧ W.heap.size ≤ b ∧ wx.cell? ⟨b, 0, none⟩ = some (.int .i64 s.gap))
  case first =>
    go_region_held3 (fun w' => w'.cell? ⟨w.heap.size, 0, none⟩ = some (.pointer (some ⟨g, 0, none⟩)) ∧ w'.cell? ⟨g, 0, none⟩ = some (.int .i64 s.B) ∧ w'.cell? ⟨g, 1, none⟩ = some (.int .i64 s.Z) ∧ w'.cell? ⟨g, 13, none⟩ = some (.int .i64 s.t)) (go_keep)
      (first
        | (go_at_call 117; refine (rpPlaceC HH.out.ok s.t (W.alloc (.cells #[.int .i64 0] 2)).drew).mono ?_; rintro e w2 ⟨rfl, hb⟩; have hb2 : Below W.heap.size W w2 := (da_below W _).trans (hb.mono (by rw [da_size]; omega)); have hnb := (hb.cell (p := ⟨W.heap.size, 0, none⟩) (by rw [da_size]; show W.heap.size < _; omega)).trans (show (W.alloc (.cells #[.int .i64 0] 2)).drew.cell? ⟨W.heap.size, 0, none⟩ = some (.int .i64 0) from rp_box W _ _); have hnf : w2.frozen? ⟨W.heap.size, 0, none⟩ = false := (hb.frozen (p := ⟨W.heap.size, 0, none⟩) (by rw [da_size]; show W.heap.size < _; omega)).trans (show (W.alloc (.cells #[.int .i64 0] 2)).drew.frozen? ⟨W.heap.size, 0, none⟩ = false from rp_free W _ _); have k0 := (hb2.cell (p := ⟨w.heap.size, 0, none⟩) hla).trans hbox; have k1 := (hb2.cell (p := ⟨g, 1, none⟩) hgW).trans c1; have kz := (hb2.cell (p := ⟨g, 0, none⟩) hgW).trans c0; have k6 := (hb2.cell (p := ⟨g, 13, none⟩) hgW).trans c6)
        | (go_at_call 117; refine (rpPlaceC HH.out.ok s.t W.drew).mono ?_; rintro e w2 ⟨rfl, hb⟩; have hb2 := below_drew hb; have k0 := (hb2.cell (p := ⟨w.heap.size, 0, none⟩) hla).trans hbox; have k1 := (hb2.cell (p := ⟨g, 1, none⟩) hgW).trans c1; have kz := (hb2.cell (p := ⟨g, 0, none⟩) hgW).trans c0; have k6 := (hb2.cell (p := ⟨g, 13, none⟩) hgW).trans c6))
    all_goals (go_wp2_with fail; go_meet)
    · exact ⟨_, rfl, hb2.alloc hb2.size _, hb2.size, rp_box w2 _ _⟩
    · exact ⟨_, rfl, hb2.setCell (Nat.le_refl _) _, Nat.le_refl _, World.cell?_setCell_same _ _ _ hnb⟩
  case rest =>
    obtain ⟨b, rfl, hbc, hbge, hgap⟩ := hcut
    have hbW := HW.out.trans (hbc.mono HW.out.size)
    have k0 := (hbc.cell (p := ⟨w.heap.size, 0, none⟩) hla).trans hbox
    have HB2 := Lib.hid (HB.out.below hbc)
    have k4 := HB2.out.c4
    have HBW := Lib.hid hbW
    have HS2 := Lib.hid hbc.size
    clear c0 c1 c6 y0 y1 y6 yz hbox hbc hbW
    go_upto_region 2 with (fail)
    obtain ⟨wq, rfl⟩ : ∃ W, W = wc := ⟨_, rfl⟩
    have hbl : b < wq.heap.size := lt_of_cell hgap
    by_cases hfit : s.need ≤ s.gap
    · have HFI := Lib.hid hfit
      have hdec : decide (s.need ≤ s.gap) = true := by simpa using hfit
      go_quiet (fail)
      have hbd : Below w.heap.size w (wq.drewN nq) := HBW.out.trans ((drewN_below wq nq).mono HBW.out.size)
      have HC := Lib.hid ((rpClaim (HH.out.below hbd) 0))
      have HBD := Lib.hid hbd
      clear hbd hdec
      go_wp2_with (go_at_call 134; refine HC.out.mono ?_; intro e w3 hm; have HM := Lib.hid hm; obtain ⟨rfl, _⟩ := hm)
      go_end0
      have hss := HSS.out
      unfold Rs.choose at hss
      rw [if_pos HFI.out] at hss
      rw [hss]
      exact HM.out.after HBD.out
    · have HFI := Lib.hid hfit
      have hdec : decide (s.need ≤ s.gap) = false := by simpa using hfit
      go_quiet (fail)
      have hbd : Below w.heap.size w (wq.drewN nq) := HBW.out.trans ((drewN_below wq nq).mono HBW.out.size)
      have HC := Lib.hid (rpAwaitGap ((HH.out.below hbd).wide (F' := fun k => F k ∨ (w.heap.size ≤ k ∧ k < wq.heap.size)) fun k hk => .inl hk) (fun k hk => by
          rcases hk with hk | hk
          · exact Nat.lt_of_lt_of_le (HFL.out k hk) hbd.size
          · exact hk.2) s.gap (a := w.heap.size) (b := b) ⟨.inr ⟨Nat.le_refl _, lt_of_cell k0⟩, hga, k0⟩ ⟨.inr ⟨by have := HW.out.size; omega, hbl⟩, by have := HH.out.lt; have := HW.out.size; omega, hgap⟩)
      have HBD := Lib.hid hbd
      clear hbd hdec
      go_wp2_with (go_at_call 108; refine HC.out.mono ?_; intro e w3 hm; have HM := Lib.hid hm; obtain ⟨rfl, _⟩ := hm)
      go_end0
      have hss := HSS.out
      unfold Rs.choose at hss
      rw [if_neg (by have := HFI.out; omega)] at hss
      rw [hss]
      exact HM.out.narrow HBD.out fun k hk => hk

set_option maxRecDepth 100000 in
set_option maxHeartbeats 1000000 in
/-- Waiting for room at the tail. -/
theorem rpAwaitTail {w : World} {F : Nat → Prop} {g : Nat} {s : Rs} {dv : Value} (h : RpBare w F g s dv) (hF : ∀ k, F k → k < w.heap.size) :
    Calls Tryz.prog 108 #[.pointer (some ⟨g, 0, none⟩), .func (.func 109) #[.pointer (some ⟨g, 0, none⟩)] #[], .func (.func 110) #[.pointer (some ⟨g, 0, none⟩)] #[]] w (RpMoved F g (if s.fits = true then s.choose else { s with ph := .head1 }) w) := by
  obtain ⟨a0, av, hblk⟩ := h.blk
  have hgl := hblk.lt
  have HH := Lib.hid h
  have HB := Lib.hid hblk
  obtain ⟨WW, hWW⟩ : ∃ WW, WW = ((w.alloc (.cells #[.pointer (some ⟨g, 0, none⟩)] 58)).alloc (.cells #[.func (.func 109) #[.pointer (some ⟨g, 0, none⟩)] #[]] 26)).alloc (.cells #[.func (.func 110) #[.pointer (some ⟨g, 0, none⟩)] #[]] 1) := ⟨_, rfl⟩
  obtain ⟨hw3, x0, x1, x2, hsz⟩ := rp_boxes w (.pointer (some ⟨g, 0, none⟩)) (.func (.func 109) #[.pointer (some ⟨g, 0, none⟩)] #[]) (.func (.func 110) #[.pointer (some ⟨g, 0, none⟩)] #[]) _ _ _ WW hWW
  have HW := Lib.hid hw3
  obtain ⟨s', hs'⟩ : ∃ s' : Rs, s' = (if s.fits = true then s.choose else { s with ph := .head1 }) := ⟨_, rfl⟩
  rw [← hs']
  have HSS := Lib.hid hs'
  clear hs'
  have HFL := Lib.hid hF
  clear h hblk hw3 hF
  go_enter Tryz.func108, Tryz.ntmps108
  go_upto_region 1 with (fail)
  rw [← hWW]
  clear hWW
  have hga : ¬ w.heap.size = g := by omega
  have hgb : ¬ w.heap.size + 1 = g := by omega
  have hgc : ¬ w.heap.size + 2 = g := by omega
  have hl0 : w.heap.size < WW.heap.size := by omega
  have hl1 : w.heap.size + 1 < WW.heap.size := by omega
  have hl2 : w.heap.size + 2 < WW.heap.size := by omega
  clear hsz
  cases hf : s.fits with
  | true =>
    have HF := Lib.hid hf
    clear hf
    go_wp2_with (first
      | (go_at_call 110; refine (rpChoose (HH.out.below hb2) (fun k hk => Nat.lt_of_lt_of_le (HFL.out k hk) hb2.size)).mono ?_; intro e w3 hm; have HM := Lib.hid hm; obtain ⟨rfl, _⟩ := hm)
      | (go_at_call 109; refine (rpFits (HB.out.below HW.out)).mono ?_; rintro e w2 ⟨rfl, hb⟩; rw [HF.out]; have hb2 := HW.out.trans (hb.mono HW.out.size); have k0 := (hb.cell (p := ⟨w.heap.size, 0, none⟩) hl0).trans x0; have k2 := (hb.cell (p := ⟨w.heap.size + 2, 0, none⟩) hl2).trans x2))
    go_end0
    have hss := HSS.out
    rw [if_pos HF.out] at hss
    rw [hss]
    exact HM.out.after hb2
  | false =>
    have HF := Lib.hid hf
    clear hf
    go_upto_region 3 with (go_at_call 109; refine (rpFits (HB.out.below HW.out)).mono ?_; rintro e w2 ⟨rfl, hb⟩; rw [HF.out])
    have hb2 := HW.out.trans (hb.mono HW.out.size)
    have y0 := (hb.cell (p := ⟨w.heap.size, 0, none⟩) hl0).trans x0
    have y1 := (hb.cell (p := ⟨w.heap.size + 1, 0, none⟩) hl1).trans x1
    have y2 := (hb.cell (p := ⟨w.heap.size + 2, 0, none⟩) hl2).trans x2
    have hs2 := hb.size
    have HB2 := Lib.hid hb2
    clear hb hb2 x0 x1 x2
    have hl0 : w.heap.size < w2.heap.size := by omega
    have hl1 : w.heap.size + 1 < w2.heap.size := by omega
    have hl2 : w.heap.size + 2 < w2.heap.size := by omega
    have c0 := (HB2.out.cell (p := ⟨g, 0, none⟩) hgl).trans HB.out.c0
    have c1 := (HB2.out.cell (p := ⟨g, 1, none⟩) hgl).trans HB.out.c1
    have hgW : g < w2.heap.size := Nat.lt_of_lt_of_le hgl HB2.out.size
    go_region_held3 (fun w' => w'.cell? ⟨w.heap.size, 0, none⟩ = some (.pointer (some ⟨g, 0, none⟩)) ∧ w'.cell? ⟨w.heap.size + 1, 0, none⟩ = some (.func (.func 109) #[.pointer (some ⟨g, 0, none⟩)] #[]) ∧ w'.cell? ⟨w.heap.size + 2, 0, none⟩ = some (.func (.func 110) #[.pointer (some ⟨g, 0, none⟩)] #[]) ∧ w'.cell? ⟨g, 0, none⟩ = some (.int .i64 s.B) ∧ w'.cell? ⟨g, 1, none⟩ = some (.int .i64 s.Z)) (go_keep)
      (first
        | (go_at_call 54; refine (rpDo (HB.out.below hbl) ⟨1, s.num 16, 8, 0, 0, []⟩ none 0 0 132 #[] #[.pointer (some ⟨w.heap.size, 0, none⟩), .pointer (some ⟨w.heap.size + 1, 0, none⟩), .pointer (some ⟨w.heap.size + 2, 0, none⟩)]).mono ?_; intro e wd has; have HAS := Lib.hid has; obtain ⟨rfl, hblkd, htd⟩ := has; have kd := (htd.cell (p := ⟨w.heap.size, 0, none⟩) (lt_of_cell k2) hga).trans k2; have md := (htd.cell (p := ⟨w.heap.size + 1, 0, none⟩) (lt_of_cell m2) hgb).trans m2; have nd := (htd.cell (p := ⟨w.heap.size + 2, 0, none⟩) (lt_of_cell n2) hgc).trans n2; have o0d := hblkd.c0; have o1d := hblkd.c1; clear hblkd)
        | (go_at_call 55; refine (stLoad (s.num 16) _).mono ?_; rintro e x2 ⟨rfl, hq2⟩; have hb2 := hb1.trans (hq2.mono hb1.size); have k2 := (hb2.cell (p := ⟨w.heap.size, 0, none⟩) hl0).trans y0; have m2 := (hb2.cell (p := ⟨w.heap.size + 1, 0, none⟩) hl1).trans y1; have n2 := (hb2.cell (p := ⟨w.heap.size + 2, 0, none⟩) hl2).trans y2; have o02 := (hb2.cell (p := ⟨g, 0, none⟩) hgW).trans c0; have o12 := (hb2.cell (p := ⟨g, 1, none⟩) hgW).trans c1; have hbl := HB2.out.trans (hb2.mono HB2.out.size))
        | (go_at_call 56; refine (rpHeadC HH.out.ok _).mono ?_; rintro e x1 ⟨rfl, hq1⟩; have hb1 := below_drew hq1; have k1 := (hb1.cell (p := ⟨w.heap.size, 0, none⟩) hl0).trans y0; have m1 := (hb1.cell (p := ⟨w.heap.size + 1, 0, none⟩) hl1).trans y1; have n1 := (hb1.cell (p := ⟨w.heap.size + 2, 0, none⟩) hl2).trans y2; have o01 := (hb1.cell (p := ⟨g, 0, none⟩) hgW).trans c0; have o11 := (hb1.cell (p := ⟨g, 1, none⟩) hgW).trans c1))
    all_goals
      go_wp2
      go_end0
      have hss := HSS.out
      rw [if_neg (by rw [HF.out]; decide)] at hss
      rw [hss]
      refine rp_asked (s' := { s with ph := .head1 }) HH.out rfl hbl rfl HAS.out (BytesIn.none _ _) fun w5 hk => ?_
      have hl3 : w.heap.size < x2.heap.size := lt_of_cell k2
      have hm3 : w.heap.size + 1 < x2.heap.size := lt_of_cell m2
      have hn3 : w.heap.size + 2 < x2.heap.size := lt_of_cell n2
      refine ⟨w.heap.size, w.heap.size + 1, w.heap.size + 2, _, rfl, ⟨.inr ⟨Nat.le_refl _, hl3⟩, hga, (World.cell?_of_block (w := x2) (a := ⟨w.heap.size, 0, none⟩) (hk _ hga hl3)).trans k2⟩, ⟨.inr ⟨by omega, hm3⟩, hgb, (World.cell?_of_block (w := x2) (a := ⟨w.heap.size + 1, 0, none⟩) (hk _ hgb hm3)).trans m2⟩, ⟨.inr ⟨by omega, hn3⟩, hgc, (World.cell?_of_block (w := x2) (a := ⟨w.heap.size + 2, 0, none⟩) (hk _ hgc hn3)).trans n2⟩, ?_⟩
      exact rfl
end Go.Proofs.YtikcnioooihncaaGreat
