/-
  Layer 5's In, Zero, Out and Bytes, walked.
-/
import Derived.Test.YtijgfaggakbajaaCopyAll
import Derived.Deep.RegionHeld3
import Derived.Laws.EntriesVeiled
namespace Go.Proofs.Ytijgfaggakbajaa
open Go.RowKit

theorem chunks_parts (n : Int) (w : World) : Calls Try.prog 49 #[.int .i64 n] w (MadeParts (Cy.cks (Cy.few n)) w) := by
  refine (chunks_any n w).mono ?_
  rintro e w' ⟨v, rfl, ho, hb⟩
  rw [Cy.ckOf_few] at ho
  exact ⟨v, rfl, (Parts.of_own ho), hb⟩

/-- A machine that writes was made at block g: its parts lie below it. -/
def MadeMach (fn : Value) (n : Nat) (w : World) (e : Ending) (w' : World) : Prop :=
  ∃ g cv, e = .returned (.pointer (some ⟨g, 0, none⟩)) ∧ w'.heap[g]? = some (.cells #[cv, .int .i64 0, fn, .func (.func 67) #[] #[], .slice none 0 0] 113 (0, 0)) ∧
    w.heap.size ≤ g ∧ g + 1 = w'.heap.size ∧ Parts (fun k => w.heap.size ≤ k ∧ k < g) w' cv (Cy.cks n) ∧ Below w.heap.size w w'

set_option maxRecDepth 100000 in
set_option maxHeartbeats 400000 in
theorem writing_any (n : Int) (k : FuncId) (caps : Array Value) (w : World) :
    Calls Try.prog 45 #[.int .i64 n, .func (.func k) #[] caps] w (MadeMach (.func (.func k) #[] caps) (Cy.few n) w) := by
  go_enter Try.func45, Try.ntmps45
  go_wp2_with (go_at_call 49; refine (chunks_parts n _).mono ?_; rintro e w1 ⟨v1, rfl, ⟨A1, c1, rfl, h1, h2, h3⟩, hb1⟩)
  go_ret
  refine ⟨w1.heap.size, .slice A1 (Cy.cks (Cy.few n)).length c1, rfl, Go.Deep.blk_alloc_new _ _, hb1.size, by simp, ?_, hb1.alloc hb1.size _⟩
  refine Parts.of_blocks (w := w1) ⟨A1, c1, rfl, h1, h2, fun hp => ?_⟩ (by simp) fun k hk => Below.heap_alloc _ _ _ hk.2
  obtain ⟨b, off, e, hK, h4⟩ := h3 hp
  exact ⟨b, off, e, hK, h4⟩

/-- A machine was made: it copied nothing so far, n bytes are left. -/
def MadeCp (kd : Kd) (n : Nat) (w : World) (e : Ending) (w' : World) : Prop :=
  ∃ g, e = .returned (.pointer (some ⟨g, 0, none⟩)) ∧ Cp w' w.heap.size w'.heap.size g kd 0 n (.slice none 0 0) [] ∧ Below w.heap.size w w'

theorem cp_made {kd : Kd} {w w1 w2 : World} {n g : Nat} {cv nx th : Value} (hnear : -4611686018427387904 ≤ kd.place ∧ kd.place ≤ 4611686018427387904) (hn : n ≤ 131072) (HW : Below w.heap.size w w1) (hbl : Below w1.heap.size w1 w2)
    (hg : w2.heap[g]? = some (.cells #[cv, .int .i64 0, nx, th, .slice none 0 0] 113 (0, 0))) (h1 : w1.heap.size ≤ g) (h2 : g + 1 = w2.heap.size) (hp : Parts (fun k => w1.heap.size ≤ k ∧ k < g) w2 cv (Cy.cks n))
    (hb : 0 < n → Body w2 w.heap.size w2.heap.size g n kd nx th) : MadeCp kd n w (.returned (.pointer (some ⟨g, 0, none⟩))) w2 := by
  have hs := HW.size
  refine ⟨g, rfl, ⟨by omega, by omega, Nat.le_refl _, by omega, hnear, ⟨cv, nx, th, hg, hp.mono fun k hk => ⟨by omega, by omega, by omega⟩, fun hn => ?_⟩, World.ownsRow_nil _ _ _ _⟩, HW.trans (hbl.mono hs)⟩
  rw [Nat.zero_add] at hn ⊢
  exact hb hn

set_option maxRecDepth 100000 in
set_option maxHeartbeats 400000 in
theorem zero_any (at_ n : Int) (w : World) (hnear : -4611686018427387904 ≤ at_ ∧ at_ ≤ 4611686018427387904) :
    Calls Try.prog 26 #[.int .i64 at_, .int .i64 n] w (MadeCp (.ze at_) (Cy.few n) w) := by
  have hmf : ∀ (fn : Fn) (first cap : Array Value) (w : World), (Instr.makeFunc fn first cap).run Try.prog w = .ok (.func fn first cap) w := fun _ _ _ _ => rfl
  have HW := (Below.refl w.heap.size w).alloc (Nat.le_refl _) (.cells #[.int .i64 at_] 3)
  have HX := Go.Deep.blk_alloc_new w (.cells #[.int .i64 at_] 3)
  have HN := Lib.hid hnear
  clear hnear
  go_enter Try.func26, Try.ntmps26
  go_wp2_with fail
  generalize w.alloc (.cells #[.int .i64 at_] 3) = W at HW HX ⊢
  have HXX := Lib.hid HX
  have hxl := (Array.getElem?_eq_some_iff.1 HX).1
  clear HX
  refine (writing_any n 48 #[.pointer (some ⟨w.heap.size, 0, none⟩)] W).mono ?_
  rintro e w1 ⟨g, cv, rfl, hg, h1, h2, hp, hb⟩
  have HH := Lib.hid (And.intro hg hp)
  clear hg hp
  go_wp2
  go_ret
  refine cp_made HN.out (Cy.few_le n) HW hb HH.out.1 h1 h2 HH.out.2 fun _ => ⟨w.heap.size, rfl, rfl, ⟨Nat.le_refl _, by omega, by omega⟩, ?_⟩
  have := (hb.block w.heap.size hxl).trans HXX.out
  simp [World.cell?, this]

set_option maxRecDepth 100000 in
set_option maxHeartbeats 400000 in
theorem in_any (at_ : Int) (A : Option Addr) (L cap : Nat) (f : Nat → Nat) (w : World) (hnear : -4611686018427387904 ≤ at_ ∧ at_ ≤ 4611686018427387904) (hB : BytesAt w (.slice A L cap) (Mb.bl f 0 L)) (hL : L ≤ 131072) :
    Calls Try.prog 25 #[.int .i64 at_, .slice A L cap] w (MadeCp (.wr at_ f) L w) := by
  have hmf : ∀ (fn : Fn) (first cap : Array Value) (w : World), (Instr.makeFunc fn first cap).run Try.prog w = .ok (.func fn first cap) w := fun _ _ _ _ => rfl
  have HW := (Below.refl w.heap.size w).alloc (Nat.le_refl _) (.cells #[.int .i64 at_] 3)
  have HX := Go.Deep.blk_alloc_new w (.cells #[.int .i64 at_] 3)
  have HB := Lib.hid (hB.below HW)
  have HN := Lib.hid hnear
  clear hnear hB
  go_enter Try.func25, Try.ntmps25
  go_wp2_with fail
  generalize w.alloc (.cells #[.int .i64 at_] 3) = W at HW HX HB ⊢
  have HXX := Lib.hid HX
  have hxl := (Array.getElem?_eq_some_iff.1 HX).1
  clear HX
  refine (clone_sl A L cap _ W HB.out (by omega)).mono ?_
  rintro e w1 ⟨A1, c1, rfl, ho1, hb1⟩
  have HO1 := Lib.hid ho1
  clear ho1
  have HK := Go.Deep.blk_alloc_new w1 (.cells #[.slice A1 L c1] 26)
  have HW2 := HW.trans ((hb1.alloc hb1.size (.cells #[.slice A1 L c1] 26)).mono HW.size)
  go_wp2_with fail
  refine (writing_any L 46 #[.pointer (some ⟨w.heap.size, 0, none⟩), .pointer (some ⟨w1.heap.size, 0, none⟩)] _).mono ?_
  rintro e w2 ⟨g, cv, rfl, hg, h1, h2, hp, hb⟩
  have HH := Lib.hid (And.intro hg hp)
  clear hg hp
  go_wp2
  go_ret
  have hbW1 : Below w1.heap.size w1 w2 := ((Below.refl _ w1).alloc (Nat.le_refl _) _).after hb
  have hs1 := hb1.size
  have hs2 : w1.heap.size + 1 ≤ g := by simpa using h1
  rw [Cy.few_nat hL] at HH
  refine cp_made HN.out hL HW2 hb HH.out.1 h1 h2 HH.out.2 fun hpos => ?_
  obtain ⟨gk, kc, hv, hk1, hk2, hk3, hk4, _⟩ := HO1.out.form (by rw [Mb.bl_length]; exact hpos)
  rw [Mb.bl_length] at hv hk1
  injection hv with e1 _ e3
  subst e1 e3
  have hbt := HO1.out.bytes.below hbW1
  refine ⟨w.heap.size, w1.heap.size, gk, c1, rfl, rfl, ⟨Nat.le_refl _, by omega, by omega⟩, ⟨by omega, by omega, by omega⟩, ⟨by omega, by omega, by omega⟩, ?_, ?_, hbt, hk1, hk2⟩
  · have := ((hbW1.block w.heap.size (by omega)).trans (hb1.block w.heap.size hxl)).trans HXX.out
    simp [World.cell?, this]
  · have := (hb.block w1.heap.size (by simp)).trans HK
    simp [World.cell?, this]

/-- An empty machine's cells, in block b. -/
structure CpNew (b : Nat) (W : World) : Prop where
  c0 : W.cell? ⟨b, 0, none⟩ = some (.slice none 0 0)
  c1 : W.cell? ⟨b, 1, none⟩ = some (.int .i64 0)
  c2 : W.cell? ⟨b, 2, none⟩ = some .nilFunc
  c3 : W.cell? ⟨b, 3, none⟩ = some .nilFunc
  f0 : W.frozen? ⟨b, 0, none⟩ = false
  f1 : W.frozen? ⟨b, 1, none⟩ = false
  f2 : W.frozen? ⟨b, 2, none⟩ = false
  f3 : W.frozen? ⟨b, 3, none⟩ = false
  blk : W.heap[b]? = some (.cells #[.slice none 0 0, .int .i64 0, .nilFunc, .nilFunc, .slice none 0 0] 113 (0, 0))
theorem CpNew.of_blk {b : Nat} {W : World} (h : W.heap[b]? = some (.cells #[.slice none 0 0, .int .i64 0, .nilFunc, .nilFunc, .slice none 0 0] 113 (0, 0))) : CpNew b W := by
  refine ⟨?_, ?_, ?_, ?_, ?_, ?_, ?_, ?_, h⟩
  all_goals first | simp [World.cell?, h] | simp [World.frozen?, h]

theorem out_made {at_ : Int} {w W w1 : World} {n : Nat} {cv : Value} (hnear : -4611686018427387904 ≤ at_ ∧ at_ ≤ 4611686018427387904) (hn : n ≤ 131072) (HW : Below w.heap.size w W) (hS : w.heap.size + 1 + 1 + 1 ≤ W.heap.size)
    (H0 : W.heap[w.heap.size]? = some (.cells #[.int .i64 at_] 3 (0, 0))) (H2 : W.heap[w.heap.size + 1 + 1]? = some (.cells #[.pointer (some ⟨w.heap.size + 1, 0, none⟩)] 70 (0, 0))) (hb : Below W.heap.size W w1)
    (HM : w1.heap[w.heap.size + 1]? = some (.cells #[.slice none 0 0, .int .i64 0, .nilFunc, .nilFunc, .slice none 0 0] 113 (0, 0))) (hp : Parts (fun k => W.heap.size ≤ k ∧ k < w1.heap.size) w1 cv (Cy.cks n)) :
    MadeCp (.rd at_) n w (.returned (.pointer (some ⟨w.heap.size + 1, 0, none⟩))) ((((w1.setCell ⟨w.heap.size + 1, 0, none⟩ cv).setCell ⟨w.heap.size + 1, 1, none⟩ (.int .i64 0)).setCell ⟨w.heap.size + 1, 2, none⟩ (.func (.func 50) #[] #[.pointer (some ⟨w.heap.size, 0, none⟩)])).setCell ⟨w.heap.size + 1, 3, none⟩ (.func (.func 51) #[] #[.pointer (some ⟨w.heap.size + 1 + 1, 0, none⟩)])) := by
  generalize hw2 : (((w1.setCell ⟨w.heap.size + 1, 0, none⟩ cv).setCell ⟨w.heap.size + 1, 1, none⟩ (.int .i64 0)).setCell ⟨w.heap.size + 1, 2, none⟩ (.func (.func 50) #[] #[.pointer (some ⟨w.heap.size, 0, none⟩)])).setCell ⟨w.heap.size + 1, 3, none⟩ (.func (.func 51) #[] #[.pointer (some ⟨w.heap.size + 1 + 1, 0, none⟩)]) = w2
  have hne : ∀ k, k ≠ w.heap.size + 1 → w2.heap[k]? = w1.heap[k]? := fun k hk => by
    subst hw2
    exact (Below.heap_setCell _ _ _ _ hk).trans ((Below.heap_setCell _ _ _ _ hk).trans ((Below.heap_setCell _ _ _ _ hk).trans (Below.heap_setCell _ _ _ _ hk)))
  have hsz : w2.heap.size = w1.heap.size := by subst hw2; simp [World.setCell]
  have hs1 := hb.size
  have hfr : Below w.heap.size w w2 := by
    subst hw2
    exact ((((HW.trans (hb.mono (by omega))).setCell (p := ⟨w.heap.size + 1, 0, none⟩) (Nat.le_succ _) _).setCell (p := ⟨w.heap.size + 1, 1, none⟩) (Nat.le_succ _) _).setCell (p := ⟨w.heap.size + 1, 2, none⟩) (Nat.le_succ _) _).setCell (p := ⟨w.heap.size + 1, 3, none⟩) (Nat.le_succ _) _
  have hhead : w2.heap[w.heap.size + 1]? = some (.cells #[cv, .int .i64 0, .func (.func 50) #[] #[.pointer (some ⟨w.heap.size, 0, none⟩)], .func (.func 51) #[] #[.pointer (some ⟨w.heap.size + 1 + 1, 0, none⟩)], .slice none 0 0] 113 (0, 0)) := by
    subst hw2
    simp [World.setCell, Array.getElem?_modify, HM]
  clear hw2
  refine ⟨w.heap.size + 1, rfl, ⟨by omega, by omega, Nat.le_refl _, by omega, hnear, ⟨cv, _, _, hhead, (hp.mono fun k hk => ⟨by omega, by omega, by omega⟩).of_blocks (Nat.le_of_eq hsz.symm) fun k hk => hne k hk.2.2, fun _ => ?_⟩, World.ownsRow_nil _ _ _ _⟩, hfr⟩
  refine ⟨w.heap.size, w.heap.size + 1 + 1, rfl, rfl, ⟨by omega, by omega, by omega⟩, ⟨by omega, by omega, by omega⟩, ?_, ?_⟩
  · have := ((hne w.heap.size (by omega)).trans (hb.block w.heap.size (by omega))).trans H0
    simp [World.cell?, this]
  · have := ((hne (w.heap.size + 1 + 1) (by omega)).trans (hb.block (w.heap.size + 1 + 1) (by omega))).trans H2
    simp [World.cell?, this]

set_option maxRecDepth 100000 in
set_option maxHeartbeats 400000 in
theorem out_any (at_ n : Int) (w : World) (hnear : -4611686018427387904 ≤ at_ ∧ at_ ≤ 4611686018427387904) :
    Calls Try.prog 27 #[.int .i64 at_, .int .i64 n] w (MadeCp (.rd at_) (Cy.few n) w) := by
  have hmf : ∀ (fn : Fn) (first cap : Array Value) (w : World), (Instr.makeFunc fn first cap).run Try.prog w = .ok (.func fn first cap) w := fun _ _ _ _ => rfl
  have HN := Lib.hid hnear
  clear hnear
  have HW := (((Below.refl w.heap.size w).alloc (Nat.le_refl _) (.cells #[.int .i64 at_] 3)).alloc (by simp) (.cells #[.slice none 0 0, .int .i64 0, .nilFunc, .nilFunc, .slice none 0 0] 113)).alloc (by simp; omega) (.cells #[.pointer (some ⟨w.heap.size + 1, 0, none⟩)] 70)
  have hX0 := Go.Deep.blk_alloc_new w (.cells #[.int .i64 at_] 3)
  have hX1 := Go.Deep.blk_alloc_new (w.alloc (.cells #[.int .i64 at_] 3)) (.cells #[.slice none 0 0, .int .i64 0, .nilFunc, .nilFunc, .slice none 0 0] 113)
  have hX2 := Go.Deep.blk_alloc_new ((w.alloc (.cells #[.int .i64 at_] 3)).alloc (.cells #[.slice none 0 0, .int .i64 0, .nilFunc, .nilFunc, .slice none 0 0] 113)) (.cells #[.pointer (some ⟨w.heap.size + 1, 0, none⟩)] 70)
  have hX0' := (Below.heap_alloc _ (.cells #[.pointer (some ⟨w.heap.size + 1, 0, none⟩)] 70) w.heap.size (by simp; omega)).trans ((Below.heap_alloc (w.alloc (.cells #[.int .i64 at_] 3)) (.cells #[.slice none 0 0, .int .i64 0, .nilFunc, .nilFunc, .slice none 0 0] 113) w.heap.size (by simp)).trans hX0)
  have hX1' := (Below.heap_alloc _ (.cells #[.pointer (some ⟨w.heap.size + 1, 0, none⟩)] 70) _ (by simp)).trans hX1
  have e1 : (w.alloc (.cells #[.int .i64 at_] 3)).heap.size = w.heap.size + 1 := by simp
  have e2 : ((w.alloc (.cells #[.int .i64 at_] 3)).alloc (.cells #[.slice none 0 0, .int .i64 0, .nilFunc, .nilFunc, .slice none 0 0] 113)).heap.size = w.heap.size + 1 + 1 := by simp
  have e3 : (((w.alloc (.cells #[.int .i64 at_] 3)).alloc (.cells #[.slice none 0 0, .int .i64 0, .nilFunc, .nilFunc, .slice none 0 0] 113)).alloc (.cells #[.pointer (some ⟨w.heap.size + 1, 0, none⟩)] 70)).heap.size = w.heap.size + 1 + 1 + 1 := by simp
  rw [e1] at hX1'
  rw [e2] at hX2
  have hS := Nat.le_of_eq e3.symm
  clear hX0 hX1 e1 e2 e3
  go_enter Try.func27, Try.ntmps27
  go_wp2_with fail
  generalize ((w.alloc (.cells #[.int .i64 at_] 3)).alloc (.cells #[.slice none 0 0, .int .i64 0, .nilFunc, .nilFunc, .slice none 0 0] 113)).alloc (.cells #[.pointer (some ⟨w.heap.size + 1, 0, none⟩)] 70) = W at HW hX0' hX1' hX2 hS ⊢
  have hc : W.cell? ⟨w.heap.size + 1 + 1, 0, none⟩ = some (.pointer (some ⟨w.heap.size + 1, 0, none⟩)) := by simp [World.cell?, hX2]
  have H0 := Lib.hid hX0'
  have H1 := Lib.hid hX1'
  have H2 := Lib.hid hX2
  clear hX0' hX1' hX2
  go_region_held3 (fun w' => w'.cell? ⟨w.heap.size + 1 + 1, 0, none⟩ = some (.pointer (some ⟨w.heap.size + 1, 0, none⟩))) (go_keep)
    (first | (go_at_call 49; refine (chunks_parts n _).mono ?_; rintro e w1 ⟨v1, rfl, ⟨A1, c1, rfl, p1, p2, p3⟩, hb1⟩; have hb2 := below_drew hb1; have hk := (hb2.cell (p := ⟨w.heap.size + 1 + 1, 0, none⟩) (by simp; omega)).trans hc; have HM := CpNew.of_blk ((hb2.block (w.heap.size + 1) (by omega)).trans H1.out); obtain ⟨m0, m1, m2, m3, f0, f1, f2, f3, mb⟩ := HM; have HMB := Lib.hid mb; have HP3 := Lib.hid p3; clear p3 mb))
  all_goals
    go_wp2
    go_ret
    exact out_made HN.out (Cy.few_le n) HW hS H0.out H2.out hb2 HMB.out ⟨A1, c1, rfl, p1, p2, HP3.out⟩
end Go.Proofs.Ytijgfaggakbajaa
