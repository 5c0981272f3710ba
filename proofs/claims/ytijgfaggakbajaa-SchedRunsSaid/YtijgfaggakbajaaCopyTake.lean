/-
  Layer 5's Take, walked: what was read is kept behind what was read so far.
-/
import Derived.Test.YtijgfaggakbajaaCopyAll
import Derived.BigRegion
import Derived.Deep.RegionLaw
namespace Go.Proofs.Ytijgfaggakbajaa
open Go.RowKit

/-- The blocks that Take writes: the machine's own, and the one that holds what it read. -/
def Mine (g : Nat) (v : Value) (k : Nat) : Prop := k = g ∨ v.ownBlock = some k

/-- What was read lies where it lay, or in new memory. -/
def Lies (v v' : Value) (w : World) : Prop := ∀ k, v'.ownBlock = some k → v.ownBlock = some k ∨ w.heap.size ≤ k

/-- A call that kept bytes behind those that were read. -/
def Kept (g : Nat) (cv : Value) (d : Int) (nx th : Value) (top : Nat) (v : Value) (zs : List Int) (w : World) (e : Ending) (w' : World) : Prop :=
  ∃ v', e = .returned (.tuple #[]) ∧ w'.heap[g]? = some (.cells #[cv, .int .i64 d, nx, th, v'] 113 (0, 0)) ∧ Owns top w' v' zs ∧ Touch (Mine g v) w w' ∧ Lies v v' w

set_option maxRecDepth 100000 in
set_option maxHeartbeats 400000 in
theorem writingThen_any (V : Nat) (D : Bool) (A : Option Addr) (L cp : Nat) (w : World) :
    Calls Try.prog 67 #[.agg #[.int .u64 V, .bool D, .slice A L cp]] w (Made (.tuple #[]) w) := by
  go_enter Try.func67, Try.ntmps67
  go_wp2
  go_end0
  exact ⟨rfl, (Below.refl _ w).alloc (Nat.le_refl _) _⟩

theorem kept_end {w W w1 : World} {g top : Nat} {cv nx th v v' : Value} {d : Int} {zs : List Int} (HW : Below w.heap.size w W) (hgt : g < top) (happ : App top v zs W.drew v' w1)
    (hg1 : w1.heap[g]? = some (.cells #[cv, .int .i64 d, nx, th, v] 113 (0, 0))) : Kept g cv d nx th top v zs w (.returned (.tuple #[])) (w1.setCell ⟨g, 4, none⟩ v') := by
  refine ⟨v', rfl, ?_, happ.own.setCell (p := ⟨g, 4, none⟩) hgt _, ?_, ?_⟩
  · simp [World.setCell, Array.getElem?_modify, hg1]
  · have h1 : Touch (Mine g v) w W.drew := (Touch.of_below HW).drew
    have h2 : Touch (Mine g v) W.drew w1 := ⟨happ.grown.os, happ.grown.tape, happ.grown.output, happ.grown.size, fun k hk hn => happ.grown.block k hk fun e => hn (.inr e.symm)⟩
    exact (h1.trans h2).setCell (p := ⟨g, 4, none⟩) (.inl rfl) _
  · intro k hk
    rcases happ.lies with e | e <;> rw [e] at hk
    · exact .inl hk
    · injection hk with hk
      exact .inr (by rw [← hk]; exact HW.size)

set_option maxRecDepth 100000 in
set_option maxHeartbeats 1000000 in
theorem outThen_any (V : Nat) (D : Bool) (A : Option Addr) (L cp b g top : Nat) (cv nx th v : Value) (d : Int) (ys zs : List Int) (w : World) (hb : w.cell? ⟨b, 0, none⟩ = some (.pointer (some ⟨g, 0, none⟩)))
    (hbt : b < top) (hgt : g < top) (ht : top ≤ w.heap.size) (hg : w.heap[g]? = some (.cells #[cv, .int .i64 d, nx, th, v] 113 (0, 0))) (ho : Owns top w v ys)
    (hz : BytesAt w (.slice A L cp) zs) (hl : ys.length + zs.length ≤ 1073741824) :
    Calls Try.prog 51 #[.agg #[.int .u64 V, .bool D, .slice A L cp], .pointer (some ⟨b, 0, none⟩)] w (Kept g cv d nx th top v (ys ++ zs) w) := by
  have HW := (Below.refl w.heap.size w).alloc (Nat.le_refl _) (.cells #[.int .u64 V, .bool D, .slice A L cp] 49)
  have hgl : g < w.heap.size := by omega
  have hbl : b < w.heap.size := by omega
  have hbW := (HW.cell (p := ⟨b, 0, none⟩) hbl).trans hb
  have hgW := (HW.block g hgl).trans hg
  have hx := Go.Deep.blk_alloc_new w (.cells #[.int .u64 V, .bool D, .slice A L cp] 49)
  have HO := Lib.hid (ho.below HW)
  have HZ := Lib.hid (hz.below HW)
  obtain ⟨Av, cpv, hv, _⟩ := ho.bytes
  subst hv
  have hown := fun k hk => (ho.ge (k := k) hk)
  have HOwn := Lib.hid hown
  clear ho hz hown
  go_enter Try.func51, Try.ntmps51
  go_wp2
  generalize w.alloc (.cells #[.int .u64 V, .bool D, .slice A L cp] 49) = W at HW hbW hgW hx HO HZ ⊢
  have c4 : W.cell? ⟨g, 4, none⟩ = some (.slice Av ys.length cpv) := by simp [World.cell?, hgW]
  have cx : W.cell? ⟨w.heap.size, 2, none⟩ = some (.slice A L cp) := by simp [World.cell?, hx]
  have hWs : w.heap.size < W.heap.size := (Array.getElem?_eq_some_iff.1 hx).1
  have HG := Lib.hid hgW
  clear hgW hx
  have HNb := Lib.hid (show some b ≠ (Value.slice Av ys.length cpv).ownBlock from fun e => by have := HOwn.out b e.symm; omega)
  have HNg := Lib.hid (show some g ≠ (Value.slice Av ys.length cpv).ownBlock from fun e => by have := HOwn.out g e.symm; omega)
  have HNx := Lib.hid (show some w.heap.size ≠ (Value.slice Av ys.length cpv).ownBlock from fun e => by have := HOwn.out _ e.symm; omega)
  go_region_law
    (first
      | (refine step_app_any rfl _ _ rfl top (.slice Av ys.length cpv) (.slice A L cp) ys zs rfl rfl HO.out.drew HZ.out.drew hl (by simp; omega) ?_; intro v1 w1 happ; obtain ⟨A6, c6, rfl, _⟩ := happ.own.bytes; have hg1 := (happ.grown.block g (Nat.lt_trans hgl hWs) HNg.out).trans HG.out; have c41 : w1.cell? ⟨g, 4, none⟩ = some (.slice Av ys.length cpv) := (by simp [World.cell?, hg1]); have f41 : w1.frozen? ⟨g, 4, none⟩ = false := (by simp [World.frozen?, hg1]); have cb1 : w1.cell? ⟨b, 0, none⟩ = some (.pointer (some ⟨g, 0, none⟩)) := (World.cell?_of_block (w := W.drew) (a := ⟨b, 0, none⟩) (happ.grown.block b (Nat.lt_trans hbl hWs) HNb.out)).trans hbW; have HG1 := Lib.hid hg1; clear hg1))
  all_goals
    rw [List.length_append] at happ
    go_end0
    exact kept_end HW hgt happ HG1.out

/-- A machine took an answer with the bytes zs: it is one part further. -/
def TookIs (base top g : Nat) (kd : Kd) (d r : Nat) (v : Value) (ys zs : List Int) (w : World) (e : Ending) (w' : World) : Prop :=
  ∃ v', e = .returned (.tuple #[]) ∧ Cp w' base top g kd (d + Cy.nx r) (r - Cy.nx r) v' (ys ++ if kd.reads then zs else []) ∧ Touch (Mine g v) w w' ∧ Lies v v' w

/-- The closure that takes an answer keeps its bytes, if the machine reads. -/
theorem then_any (kd : Kd) {w : World} {base top g n d : Nat} {cv nx th v : Value} {ys zs : List Int} (V : Nat) (D : Bool) (A : Option Addr) (L cp : Nat) (hgt : g < top) (ht : top ≤ w.heap.size)
    (hg : w.heap[g]? = some (.cells #[cv, .int .i64 d, nx, th, v] 113 (0, 0))) (ho : Owns top w v ys) (hb : Body w base top g n kd nx th) (hz : BytesAt w (.slice A L cp) zs) (hl : ys.length + zs.length ≤ 1073741824) :
    (∃ b, kd.reads = true ∧ th = .func (.func 51) #[] #[.pointer (some ⟨b, 0, none⟩)] ∧ Calls Try.prog 51 #[.agg #[.int .u64 V, .bool D, .slice A L cp], .pointer (some ⟨b, 0, none⟩)] w (Kept g cv d nx th top v (ys ++ zs) w)) ∨
    (kd.reads = false ∧ th = .func (.func 67) #[] #[] ∧ Calls Try.prog 67 #[.agg #[.int .u64 V, .bool D, .slice A L cp]] w (Kept g cv d nx th top v ys w)) := by
  have hw : Calls Try.prog 67 #[.agg #[.int .u64 V, .bool D, .slice A L cp]] w (Kept g cv d nx th top v ys w) := by
    refine (writingThen_any V D A L cp w).mono ?_
    rintro e w' ⟨rfl, hbl⟩
    exact ⟨v, rfl, (hbl.block g (Nat.lt_of_lt_of_le hgt ht)).trans hg, ho.below hbl, Touch.of_below hbl, fun k hk => .inl hk⟩
  cases kd with
  | wr at_ f =>
    obtain ⟨_, _, _, _, _, e2, _⟩ := hb
    exact .inr ⟨rfl, e2, hw⟩
  | ze at_ =>
    obtain ⟨_, _, e2, _⟩ := hb
    exact .inr ⟨rfl, e2, hw⟩
  | rd at_ =>
    obtain ⟨a, b, _, e2, _, kb, _, h2⟩ := hb
    exact .inl ⟨b, rfl, e2, outThen_any V D A L cp b g top cv nx th v d ys zs w h2 kb.2.1 hgt ht hg ho hz hl⟩

set_option maxRecDepth 100000 in
set_option maxHeartbeats 1000000 in
theorem stepsTake_no {kd : Kd} {w : World} {base top g d : Nat} {v : Value} {ys : List Int} (h : Cp w base top g kd d 0 v ys) (V : Nat) (D : Bool) (A : Option Addr) (L cp : Nat) :
    Calls Try.prog 111 #[.pointer (some ⟨g, 0, none⟩), .agg #[.int .u64 V, .bool D, .slice A L cp]] w (Made (.tuple #[]) w) := by
  obtain ⟨cv, nx, th, h1, ⟨A1, cap, rfl, _, _, _⟩, _⟩ := h.head
  have hlt := h.lt
  have hc : w.cell? ⟨g, 0, none⟩ = some (.slice A1 0 cap) := by simp [World.cell?, h1, Cy.cks_zero]
  clear h h1
  go_enter Try.func111, Try.ntmps111
  go_wp2
  refine bodyPost_ret (results_none rfl _ _ _) rfl ?_
  exact ⟨rfl, (Below.refl _ w).alloc (Nat.le_refl _) _⟩
end Go.Proofs.Ytijgfaggakbajaa
