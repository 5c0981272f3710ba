/-
  Layer 5's Next, walked: what a machine's steps do next, for each of the three that copy.
  Layer 5's Take, walked: what was read is kept behind what was read so far.
  Layer 5's Take, walked: a machine goes one part further.
  Layer 6's plain facts: accesses, answers, events; what an access does to a buffer's bytes; twelve cells of an event in a block; one copied, its bytes in new memory.
  Plain arithmetic for layer 1 (word): powers of two, what is left, the next multiple, as functions of integers; no statement of the program is proved here.
  Layer 1's IsPower, walked. Each contract says what a call returns; the world stays as it was.
  Layer 1's Mask, walked.
  What every law of this seat asks at its end: the call answered true, and nothing that was there before has turned: so each argument reads as it read.
  Arguments of layer 2's statements opened: an access by value, a list of bytes.
-/
import Derived.Test.YtikcnioooihncaaGreatP02
import Derived.BigRegion
import Derived.Deep.RegionLaw
import Derived.RegionTactic
import Derived.ChangeAlike
import Derived.WalkKit
import Derived.Laws.Bits64b
import Derived.Laws.BitsAllLaws
import Derived.IntWalk
import Derived.Lib.TrailingZeros
import Derived.Test.YtikcnioooihncaaGreatRows
import Derived.WalkSpells
import Derived.WalkLawsBesides
import Derived.Lib.Hide
import Derived.ProofKit
import Derived.LaidMore
import Derived.OpenShut
import Derived.Stop.Joined
import Derived.Lib.LaidTab
import Derived.Laws.BitsLemmas
import Derived.Laws.Bits64
import Derived.SevenTiedAt
import Derived.Test.YtikcnioooihncaaGreatP01
import Derived.Deep.Fields
namespace Go.Proofs.YtikcnioooihncaaGreat
open Go.RowKit
set_option maxRecDepth 100000 in
set_option maxHeartbeats 1000000 in
theorem stepsNext_rd (at_ : Int) {w : World} {base top g d r : Nat} {v : Value} {ys : List Int} (h : Cp w base top g (.rd at_) d r v ys) (hr : 0 < r) :
    Calls Tryz.prog 182 #[.pointer (some ⟨g, 0, none⟩)] w (NextIs (.rd at_) d (Cy.nx r) w) := by
  have hlt := h.lt
  have hnp := Cy.nx_pos hr
  have hnl := Cy.nx_le r
  have hfew := h.few
  obtain ⟨hat0, hat1⟩ := h.near
  simp only [Kd.place] at hat0 hat1
  have HW := (Below.refl w.heap.size w).alloc (Nat.le_refl _) (.cells #[.int .i64 0, .int .i64 0, .int .i64 0, .int .u64 0, .int .u64 0, .slice none 0 0] 30)
  obtain ⟨cv, nx, th, h1, hp, hbd⟩ := (h.below HW).head
  obtain ⟨ca, cb, rfl, rfl, ka, kb, q1, q2⟩ := hbd (by omega)
  rw [Cy.cks_step hr] at hp
  obtain ⟨A, cap, rfl, hcl, hcm, hp⟩ := hp
  obtain ⟨pb, po, rfl, hpf, hpl, hpc⟩ := hp (by simp)
  have hp0 := hpc 0 (by simp)
  have hm2 : cap ≤ 9223372036854775807 := by unfold maxLen at hcm; omega
  simp only [List.getD_cons_zero, Nat.add_zero, List.length_cons] at hp0 hcl h1
  generalize hLq : (Cy.cks (r - Cy.nx r)).length = L at hcl h1
  clear hLq hpc hp hbd
  have hpos : 0 < L + 1 := by omega
  have hpos2 : (0 : Int) < (L : Int) + 1 := by omega
  have hne0 : ¬ ((L : Int) + 1 = 0) := by omega
  have HA := AccNew.made w
  have hnewg : w.heap.size ≠ g := by omega
  have hub := h.there
  have hug := h.under
  have hnewp : w.heap.size ≠ pb := by have := hpf.2.1; omega
  have hnewa : w.heap.size ≠ ca := by have := ka.2.1; omega
  have hpne : pb ≠ g := hpf.2.2
  clear h
  have HH := Lib.hid h1
  have hcw : w.cell? ⟨g, 0, none⟩ = some (.slice (some ⟨pb, po, none⟩) (L + 1) cap) := by rw [← World.cell?_of_block (w := w) (w' := w.alloc (.cells #[.int .i64 0, .int .i64 0, .int .i64 0, .int .u64 0, .int .u64 0, .slice none 0 0] 30)) (a := ⟨g, 0, none⟩) (HW.block g hlt)]; simp [World.cell?, h1]
  clear h1
  go_enter Tryz.func182, Tryz.ntmps182
  go_wp2_with fail
  clear hcw
  generalize w.alloc (.cells #[.int .i64 0, .int .i64 0, .int .i64 0, .int .u64 0, .int .u64 0, .slice none 0 0] 30) = W at q1 q2 hp0 HA HH HW hpl ⊢
  have hc0 : W.cell? ⟨g, 0, none⟩ = some (.slice (some ⟨pb, po, none⟩) (L + 1) cap) := by simp [World.cell?, HH.out]
  have hc1 : W.cell? ⟨g, 1, none⟩ = some (.int .i64 d) := by simp [World.cell?, HH.out]
  have hc2 : W.cell? ⟨g, 2, none⟩ = some (.func (.func 154) #[] #[.pointer (some ⟨ca, 0, none⟩)]) := by simp [World.cell?, HH.out]
  have hgW : g < W.heap.size := Nat.lt_of_lt_of_le hlt HW.size
  have hAb : w.heap.size < W.heap.size := (Array.getElem?_eq_some_iff.1 HA.blk).1
  go_region_held3 (fun w' => w'.cell? ⟨g, 0, none⟩ = some (.slice (some ⟨pb, po, none⟩) (L + 1) cap) ∧ w'.cell? ⟨g, 1, none⟩ = some (.int .i64 d) ∧ w'.cell? ⟨g, 2, none⟩ = some (.func (.func 154) #[] #[.pointer (some ⟨ca, 0, none⟩)]) ∧ w'.cell? ⟨pb, po, none⟩ = some (.int .i64 (Cy.nx r : Nat))) (go_keep)
    (first | (go_at_call 154; refine (outNext_any d (Cy.nx r) ca at_ W.drew q1 hat0 hat1 (by omega)).mono ?_; rintro e w1 ⟨A1, l1, c1, rfl, ho1, hb1⟩; have hb2 := below_drew hb1; have hk0 := (hb2.cell (p := ⟨g, 0, none⟩) hgW).trans hc0; have hk1 := (hb2.cell (p := ⟨g, 1, none⟩) hgW).trans hc1; have hk2 := (hb2.cell (p := ⟨g, 2, none⟩) hgW).trans hc2; have hk3 := (hb2.cell (p := ⟨pb, po, none⟩) hpl).trans hp0; have HA1 := HA.later hb2; obtain ⟨a0, a1, a2, a3, a4, a5, f0, f1, f2, f3, f4, f5, _⟩ := HA1))
  go_wp2
  refine bodyPost_ret (v := .tuple #[.agg #[.int .i64 5, .int .i64 (at_ + d), .int .i64 (Cy.nx r : Nat), .int .u64 0, .int .u64 0, .slice A1 l1 c1], .bool true]) (by simp [results, Tryz.results182, go_sem, a0, a1, a2, a3, a4, a5]) rfl ?_
  refine ⟨_, _, _, rfl, (six_own (base := W.heap.size) ho1 hAb _ _ _ _ _ _).down HW.size, six_below (HW.trans (hb2.mono HW.size)) (Nat.le_refl _) _ _ _ _ _ _⟩

set_option maxRecDepth 100000 in
set_option maxHeartbeats 1000000 in
theorem stepsNext_ze (at_ : Int) {w : World} {base top g d r : Nat} {v : Value} {ys : List Int} (h : Cp w base top g (.ze at_) d r v ys) (hr : 0 < r) :
    Calls Tryz.prog 182 #[.pointer (some ⟨g, 0, none⟩)] w (NextIs (.ze at_) d (Cy.nx r) w) := by
  have hlt := h.lt
  have hnp := Cy.nx_pos hr
  have hnl := Cy.nx_le r
  have hfew := h.few
  obtain ⟨hat0, hat1⟩ := h.near
  simp only [Kd.place] at hat0 hat1
  have HW := (Below.refl w.heap.size w).alloc (Nat.le_refl _) (.cells #[.int .i64 0, .int .i64 0, .int .i64 0, .int .u64 0, .int .u64 0, .slice none 0 0] 30)
  obtain ⟨cv, nx, th, h1, hp, hbd⟩ := (h.below HW).head
  obtain ⟨ca, rfl, rfl, ka, q1⟩ := hbd (by omega)
  rw [Cy.cks_step hr] at hp
  obtain ⟨A, cap, rfl, hcl, hcm, hp⟩ := hp
  obtain ⟨pb, po, rfl, hpf, hpl, hpc⟩ := hp (by simp)
  have hp0 := hpc 0 (by simp)
  have hm2 : cap ≤ 9223372036854775807 := by unfold maxLen at hcm; omega
  simp only [List.getD_cons_zero, Nat.add_zero, List.length_cons] at hp0 hcl h1
  generalize hLq : (Cy.cks (r - Cy.nx r)).length = L at hcl h1
  clear hLq hpc hp hbd
  have hpos : 0 < L + 1 := by omega
  have hpos2 : (0 : Int) < (L : Int) + 1 := by omega
  have hne0 : ¬ ((L : Int) + 1 = 0) := by omega
  have HA := AccNew.made w
  have hnewg : w.heap.size ≠ g := by omega
  have hub := h.there
  have hug := h.under
  have hnewp : w.heap.size ≠ pb := by have := hpf.2.1; omega
  have hnewa : w.heap.size ≠ ca := by have := ka.2.1; omega
  have hpne : pb ≠ g := hpf.2.2
  clear h
  have HH := Lib.hid h1
  have hcw : w.cell? ⟨g, 0, none⟩ = some (.slice (some ⟨pb, po, none⟩) (L + 1) cap) := by rw [← World.cell?_of_block (w := w) (w' := w.alloc (.cells #[.int .i64 0, .int .i64 0, .int .i64 0, .int .u64 0, .int .u64 0, .slice none 0 0] 30)) (a := ⟨g, 0, none⟩) (HW.block g hlt)]; simp [World.cell?, h1]
  clear h1
  go_enter Tryz.func182, Tryz.ntmps182
  go_wp2_with fail
  clear hcw
  generalize w.alloc (.cells #[.int .i64 0, .int .i64 0, .int .i64 0, .int .u64 0, .int .u64 0, .slice none 0 0] 30) = W at q1  hp0 HA HH HW hpl ⊢
  have hc0 : W.cell? ⟨g, 0, none⟩ = some (.slice (some ⟨pb, po, none⟩) (L + 1) cap) := by simp [World.cell?, HH.out]
  have hc1 : W.cell? ⟨g, 1, none⟩ = some (.int .i64 d) := by simp [World.cell?, HH.out]
  have hc2 : W.cell? ⟨g, 2, none⟩ = some (.func (.func 141) #[] #[.pointer (some ⟨ca, 0, none⟩)]) := by simp [World.cell?, HH.out]
  have hgW : g < W.heap.size := Nat.lt_of_lt_of_le hlt HW.size
  have hAb : w.heap.size < W.heap.size := (Array.getElem?_eq_some_iff.1 HA.blk).1
  go_region_held3 (fun w' => w'.cell? ⟨g, 0, none⟩ = some (.slice (some ⟨pb, po, none⟩) (L + 1) cap) ∧ w'.cell? ⟨g, 1, none⟩ = some (.int .i64 d) ∧ w'.cell? ⟨g, 2, none⟩ = some (.func (.func 141) #[] #[.pointer (some ⟨ca, 0, none⟩)]) ∧ w'.cell? ⟨pb, po, none⟩ = some (.int .i64 (Cy.nx r : Nat))) (go_keep)
    (first | (go_at_call 141; refine (zeroNext_any d (Cy.nx r) ca at_ W.drew q1 hat0 hat1 (by omega) (by omega)).mono ?_; rintro e w1 ⟨A1, l1, c1, rfl, ho1, hb1⟩; have hb2 := below_drew hb1; have hk0 := (hb2.cell (p := ⟨g, 0, none⟩) hgW).trans hc0; have hk1 := (hb2.cell (p := ⟨g, 1, none⟩) hgW).trans hc1; have hk2 := (hb2.cell (p := ⟨g, 2, none⟩) hgW).trans hc2; have hk3 := (hb2.cell (p := ⟨pb, po, none⟩) hpl).trans hp0; have HA1 := HA.later hb2; obtain ⟨a0, a1, a2, a3, a4, a5, f0, f1, f2, f3, f4, f5, _⟩ := HA1))
  go_wp2
  refine bodyPost_ret (v := .tuple #[.agg #[.int .i64 6, .int .i64 (at_ + d), .int .i64 (Cy.nx r : Nat), .int .u64 0, .int .u64 0, .slice A1 l1 c1], .bool true]) (by simp [results, Tryz.results182, go_sem, a0, a1, a2, a3, a4, a5]) rfl ?_
  refine ⟨_, _, _, rfl, (six_own (base := W.heap.size) ho1 hAb _ _ _ _ _ _).down HW.size, six_below (HW.trans (hb2.mono HW.size)) (Nat.le_refl _) _ _ _ _ _ _⟩

set_option maxRecDepth 100000 in
set_option maxHeartbeats 1000000 in
theorem stepsNext_wr (at_ : Int) (f : Nat → Nat) {w : World} {base top g d r : Nat} {v : Value} {ys : List Int} (h : Cp w base top g (.wr at_ f) d r v ys) (hr : 0 < r) :
    Calls Tryz.prog 182 #[.pointer (some ⟨g, 0, none⟩)] w (NextIs (.wr at_ f) d (Cy.nx r) w) := by
  have hlt := h.lt
  have hnp := Cy.nx_pos hr
  have hnl := Cy.nx_le r
  have hfew := h.few
  obtain ⟨hat0, hat1⟩ := h.near
  simp only [Kd.place] at hat0 hat1
  have HW := (Below.refl w.heap.size w).alloc (Nat.le_refl _) (.cells #[.int .i64 0, .int .i64 0, .int .i64 0, .int .u64 0, .int .u64 0, .slice none 0 0] 30)
  obtain ⟨cv, nx, th, h1, hp, hbd⟩ := (h.below HW).head
  obtain ⟨ca, cb, gk, kcap, rfl, rfl, ka, kb, kg, q1, q2, q3, q4, q5⟩ := hbd (by omega)
  rw [Cy.cks_step hr] at hp
  obtain ⟨A, cap, rfl, hcl, hcm, hp⟩ := hp
  obtain ⟨pb, po, rfl, hpf, hpl, hpc⟩ := hp (by simp)
  have hp0 := hpc 0 (by simp)
  have hm2 : cap ≤ 9223372036854775807 := by unfold maxLen at hcm; omega
  simp only [List.getD_cons_zero, Nat.add_zero, List.length_cons] at hp0 hcl h1
  generalize hLq : (Cy.cks (r - Cy.nx r)).length = L at hcl h1
  clear hLq hpc hp hbd
  have hpos : 0 < L + 1 := by omega
  have hpos2 : (0 : Int) < (L : Int) + 1 := by omega
  have hne0 : ¬ ((L : Int) + 1 = 0) := by omega
  have HA := AccNew.made w
  have hnewg : w.heap.size ≠ g := by omega
  have hub := h.there
  have hug := h.under
  have hnewp : w.heap.size ≠ pb := by have := hpf.2.1; omega
  have hnewa : w.heap.size ≠ ca := by have := ka.2.1; omega
  have hnewb : w.heap.size ≠ cb := by have := kb.2.1; omega
  have hpne : pb ≠ g := hpf.2.2
  clear h
  have HH := Lib.hid h1
  have hcw : w.cell? ⟨g, 0, none⟩ = some (.slice (some ⟨pb, po, none⟩) (L + 1) cap) := by rw [← World.cell?_of_block (w := w) (w' := w.alloc (.cells #[.int .i64 0, .int .i64 0, .int .i64 0, .int .u64 0, .int .u64 0, .slice none 0 0] 30)) (a := ⟨g, 0, none⟩) (HW.block g hlt)]; simp [World.cell?, h1]
  clear h1
  have HB3 := Lib.hid q3
  clear q3
  go_enter Tryz.func182, Tryz.ntmps182
  go_wp2_with fail
  clear hcw
  generalize w.alloc (.cells #[.int .i64 0, .int .i64 0, .int .i64 0, .int .u64 0, .int .u64 0, .slice none 0 0] 30) = W at q1 q2 HB3 hp0 HA HH HW hpl ⊢
  have hc0 : W.cell? ⟨g, 0, none⟩ = some (.slice (some ⟨pb, po, none⟩) (L + 1) cap) := by simp [World.cell?, HH.out]
  have hc1 : W.cell? ⟨g, 1, none⟩ = some (.int .i64 d) := by simp [World.cell?, HH.out]
  have hc2 : W.cell? ⟨g, 2, none⟩ = some (.func (.func 161) #[] #[.pointer (some ⟨ca, 0, none⟩), .pointer (some ⟨cb, 0, none⟩)]) := by simp [World.cell?, HH.out]
  have hgW : g < W.heap.size := Nat.lt_of_lt_of_le hlt HW.size
  have hAb : w.heap.size < W.heap.size := (Array.getElem?_eq_some_iff.1 HA.blk).1
  go_region_held3 (fun w' => w'.cell? ⟨g, 0, none⟩ = some (.slice (some ⟨pb, po, none⟩) (L + 1) cap) ∧ w'.cell? ⟨g, 1, none⟩ = some (.int .i64 d) ∧ w'.cell? ⟨g, 2, none⟩ = some (.func (.func 161) #[] #[.pointer (some ⟨ca, 0, none⟩), .pointer (some ⟨cb, 0, none⟩)]) ∧ w'.cell? ⟨pb, po, none⟩ = some (.int .i64 (Cy.nx r : Nat))) (go_keep)
    (first | (go_at_call 161; refine (inNext_any d (Cy.nx r) (d + r) kcap ca cb gk f at_ W.drew q1 q2 HB3.out.drew hat0 hat1 hnp (by omega) (by omega) q4 q5).mono ?_; rintro e w1 ⟨A1, l1, c1, rfl, ho1, hb1⟩; have hb2 := below_drew hb1; have hk0 := (hb2.cell (p := ⟨g, 0, none⟩) hgW).trans hc0; have hk1 := (hb2.cell (p := ⟨g, 1, none⟩) hgW).trans hc1; have hk2 := (hb2.cell (p := ⟨g, 2, none⟩) hgW).trans hc2; have hk3 := (hb2.cell (p := ⟨pb, po, none⟩) hpl).trans hp0; have HA1 := HA.later hb2; obtain ⟨a0, a1, a2, a3, a4, a5, f0, f1, f2, f3, f4, f5, _⟩ := HA1))
  go_wp2
  refine bodyPost_ret (v := .tuple #[.agg #[.int .i64 6, .int .i64 (at_ + d), .int .i64 (Cy.nx r : Nat), .int .u64 0, .int .u64 0, .slice A1 l1 c1], .bool true]) (by simp [results, Tryz.results182, go_sem, a0, a1, a2, a3, a4, a5]) rfl ?_
  refine ⟨_, _, _, rfl, (six_own (base := W.heap.size) ho1 hAb _ _ _ _ _ _).down HW.size, six_below (HW.trans (hb2.mono HW.size)) (Nat.le_refl _) _ _ _ _ _ _⟩


theorem stepsNext_any {kd : Kd} {w : World} {base top g d r : Nat} {v : Value} {ys : List Int} (h : Cp w base top g kd d r v ys) (hr : 0 < r) :
    Calls Tryz.prog 182 #[.pointer (some ⟨g, 0, none⟩)] w (NextIs kd d (Cy.nx r) w) := by
  cases kd with
  | wr at_ f => exact stepsNext_wr at_ f h hr
  | ze at_ => exact stepsNext_ze at_ h hr
  | rd at_ => exact stepsNext_rd at_ h hr

set_option maxRecDepth 100000 in
set_option maxHeartbeats 400000 in
theorem next_any {kd : Kd} {w : World} {base top g d r : Nat} {v : Value} {ys : List Int} (h : Cp w base top g kd d r v ys) (hr : 0 < r) :
    Calls Tryz.prog 180 #[.pointer (some ⟨g, 0, none⟩)] w (NextIs kd d (Cy.nx r) w) := by
  have hlt := h.lt
  have HA := AccNew.made w
  have HW := (Below.refl w.heap.size w).alloc (Nat.le_refl _) (.cells #[.int .i64 0, .int .i64 0, .int .i64 0, .int .u64 0, .int .u64 0, .slice none 0 0] 30)
  have HC := Lib.hid (stepsNext_any (h.below HW) hr)
  clear h
  go_enter Tryz.func180, Tryz.ntmps180
  go_wp2_with fail
  generalize w.alloc (.cells #[.int .i64 0, .int .i64 0, .int .i64 0, .int .u64 0, .int .u64 0, .slice none 0 0] 30) = W at HA HW HC ⊢
  have hAb : w.heap.size < W.heap.size := (Array.getElem?_eq_some_iff.1 HA.blk).1
  refine HC.out.mono ?_
  rintro e w1 ⟨A1, l1, c1, rfl, ho1, hb1⟩
  have HA1 := HA.later hb1
  obtain ⟨a0, a1, a2, a3, a4, a5, f0, f1, f2, f3, f4, f5, _⟩ := HA1
  have HO := Lib.hid ho1
  clear ho1
  go_wp2
  refine bodyPost_ret (v := .tuple #[.agg #[.int .i64 kd.kind, .int .i64 (kd.place + d), .int .i64 (Cy.nx r : Nat), .int .u64 0, .int .u64 0, .slice A1 l1 c1], .bool true]) (by simp [results, Tryz.results180, go_sem, a0, a1, a2, a3, a4, a5]) rfl ?_
  exact ⟨_, _, _, rfl, (six_own (base := W.heap.size) HO.out hAb _ _ _ _ _ _).down HW.size, six_below (HW.trans (hb1.mono HW.size)) (Nat.le_refl _) _ _ _ _ _ _⟩

set_option maxRecDepth 100000 in
set_option maxHeartbeats 400000 in
theorem next_no {kd : Kd} {w : World} {base top g d : Nat} {v : Value} {ys : List Int} (h : Cp w base top g kd d 0 v ys) :
    Calls Tryz.prog 180 #[.pointer (some ⟨g, 0, none⟩)] w (NextNo w) := by
  have HA := AccNew.made w
  have HW := (Below.refl w.heap.size w).alloc (Nat.le_refl _) (.cells #[.int .i64 0, .int .i64 0, .int .i64 0, .int .u64 0, .int .u64 0, .slice none 0 0] 30)
  have HC := Lib.hid (stepsNext_no (h.below HW))
  clear h
  go_enter Tryz.func180, Tryz.ntmps180
  go_wp2_with fail
  generalize w.alloc (.cells #[.int .i64 0, .int .i64 0, .int .i64 0, .int .u64 0, .int .u64 0, .slice none 0 0] 30) = W at HA HW HC ⊢
  refine HC.out.mono ?_
  rintro e w1 ⟨rfl, hb1⟩
  have HA1 := HA.later hb1
  obtain ⟨a0, a1, a2, a3, a4, a5, f0, f1, f2, f3, f4, f5, _⟩ := HA1
  go_wp2
  refine bodyPost_ret (v := .tuple #[.agg #[.int .i64 0, .int .i64 0, .int .i64 0, .int .u64 0, .int .u64 0, .slice none 0 0], .bool false]) (by simp [results, Tryz.results180, go_sem, a0, a1, a2, a3, a4, a5]) rfl ?_
  exact ⟨rfl, six_below (HW.trans (hb1.mono HW.size)) (Nat.le_refl _) _ _ _ _ _ _⟩

set_option maxRecDepth 100000 in
set_option maxHeartbeats 400000 in
theorem next_nil (w : World) : Calls Tryz.prog 180 #[.pointer none] w (NextNo w) := by
  go_enter Tryz.func180, Tryz.ntmps180
  go_wp2
  refine bodyPost_ret (v := .tuple #[.agg #[.int .i64 0, .int .i64 0, .int .i64 0, .int .u64 0, .int .u64 0, .slice none 0 0], .bool false]) (by simp [results, Tryz.results180, go_sem]) rfl ?_
  exact ⟨rfl, (Below.refl _ w).alloc (Nat.le_refl _) _⟩

/-- A machine's next access, its fields written out. -/
def NextAs (K P N : Int) (b : List Int) (w : World) (e : Ending) (w' : World) : Prop :=
  ∃ A l cp, e = .returned (.tuple #[.agg #[.int .i64 K, .int .i64 P, .int .i64 N, .int .u64 0, .int .u64 0, .slice A l cp], .bool true]) ∧ Owns w.heap.size w' (.slice A l cp) b ∧ Below w.heap.size w w'

theorem next_as {kd : Kd} {w : World} {base top g d r : Nat} {v : Value} {ys : List Int} (h : Cp w base top g kd d r v ys) (hr : 0 < r) {K P N : Int} {b : List Int} (hK : kd.kind = K) (hP : kd.place + d = P) (hN : ((Cy.nx r : Nat) : Int) = N) (hb : kd.bytes d (Cy.nx r) = b) :
    Calls Tryz.prog 180 #[.pointer (some ⟨g, 0, none⟩)] w (NextAs K P N b w) := by
  subst hK hP hN hb
  exact next_any h hr
end Go.Proofs.YtikcnioooihncaaGreat
namespace Go.Proofs.YtikcnioooihncaaGreat
open Go.RowKit

/-- The blocks that Take writes: the machine's own, and the one that holds what it read. -/
def Mine (g : Nat) (v : Value) (k : Nat) : Prop := k = g ∨ v.ownBlock = some k

/-- What was read lies where it lay, or in new memory. -/
def Lies (v v' : Value) (w : World) : Prop := ∀ k, v'.ownBlock = some k → v.ownBlock = some k ∨ w.heap.size ≤ k

/-- A call that kept bytes behind those that were read. -/
def Kept (g : Nat) (cv : Value) (d : Int) (nx th : Value) (top : Nat) (v : Value) (zs : List Int) (w : World) (e : Ending) (w' : World) : Prop :=
  ∃ v', e = .returned (.tuple #[]) ∧ w'.heap[g]? = some (.cells #[cv, .int .i64 d, nx, th, v'] 200 (0, 0)) ∧ Owns top w' v' zs ∧ Touch (Mine g v) w w' ∧ Lies v v' w

set_option maxRecDepth 100000 in
set_option maxHeartbeats 400000 in
theorem writingThen_any (V : Nat) (D : Bool) (A : Option Addr) (L cp : Nat) (w : World) :
    Calls Tryz.prog 153 #[.agg #[.int .u64 V, .bool D, .slice A L cp]] w (Made (.tuple #[]) w) := by
  go_enter Tryz.func153, Tryz.ntmps153
  go_wp2
  go_end0
  exact ⟨rfl, (Below.refl _ w).alloc (Nat.le_refl _) _⟩

theorem kept_end {w W w1 : World} {g top : Nat} {cv nx th v v' : Value} {d : Int} {zs : List Int} (HW : Below w.heap.size w W) (hgt : g < top) (happ : App top v zs W.drew v' w1)
    (hg1 : w1.heap[g]? = some (.cells #[cv, .int .i64 d, nx, th, v] 200 (0, 0))) : Kept g cv d nx th top v zs w (.returned (.tuple #[])) (w1.setCell ⟨g, 4, none⟩ v') := by
  refine ⟨v', rfl, ?_, happ.own.setCell (p := ⟨g, 4, none⟩) hgt _, ?_, ?_⟩
  · simp [World.setCell, Array.getElem?_modify, hg1]
  · have h1 : Touch (Mine g v) w W.drew := (Touch.of_below HW).drew
    have h2 : Touch (Mine g v) W.drew w1 := ⟨happ.grown.os, happ.grown.tape, happ.grown.output, happ.grown.size, fun k hk hn => happ.grown.block k hk fun e => hn (.inr e.symm)⟩
    exact (h1.trans h2).setCell (p := ⟨g, 4, none⟩) (.inl rfl) _
  · intro k hk
    rcases happ.lies with e | e <;> rw [e] at hk
    · exact .inl hk
    · injection hk with hk
      exact .inr (by rw [← hk]; exact HW.size)

set_option maxRecDepth 100000 in
set_option maxHeartbeats 1000000 in
theorem outThen_any (V : Nat) (D : Bool) (A : Option Addr) (L cp b g top : Nat) (cv nx th v : Value) (d : Int) (ys zs : List Int) (w : World) (hb : w.cell? ⟨b, 0, none⟩ = some (.pointer (some ⟨g, 0, none⟩)))
    (hbt : b < top) (hgt : g < top) (ht : top ≤ w.heap.size) (hg : w.heap[g]? = some (.cells #[cv, .int .i64 d, nx, th, v] 200 (0, 0))) (ho : Owns top w v ys)
    (hz : BytesAt w (.slice A L cp) zs) (hl : ys.length + zs.length ≤ 1073741824) :
    Calls Tryz.prog 155 #[.agg #[.int .u64 V, .bool D, .slice A L cp], .pointer (some ⟨b, 0, none⟩)] w (Kept g cv d nx th top v (ys ++ zs) w) := by
  have HW := (Below.refl w.heap.size w).alloc (Nat.le_refl _) (.cells #[.int .u64 V, .bool D, .slice A L cp] 25)
  have hgl : g < w.heap.size := by omega
  have hbl : b < w.heap.size := by omega
  have hbW := (HW.cell (p := ⟨b, 0, none⟩) hbl).trans hb
  have hgW := (HW.block g hgl).trans hg
  have hx := Go.Deep.blk_alloc_new w (.cells #[.int .u64 V, .bool D, .slice A L cp] 25)
  have HO := Lib.hid (ho.below HW)
  have HZ := Lib.hid (hz.below HW)
  obtain ⟨Av, cpv, hv, _⟩ := ho.bytes
  subst hv
  have hown := fun k hk => (ho.ge (k := k) hk)
  have HOwn := Lib.hid hown
  clear ho hz hown
  go_enter Tryz.func155, Tryz.ntmps155
  go_wp2
  generalize w.alloc (.cells #[.int .u64 V, .bool D, .slice A L cp] 25) = W at HW hbW hgW hx HO HZ ⊢
  have c4 : W.cell? ⟨g, 4, none⟩ = some (.slice Av ys.length cpv) := by simp [World.cell?, hgW]
  have cx : W.cell? ⟨w.heap.size, 2, none⟩ = some (.slice A L cp) := by simp [World.cell?, hx]
  have hWs : w.heap.size < W.heap.size := (Array.getElem?_eq_some_iff.1 hx).1
  have HG := Lib.hid hgW
  clear hgW hx
  have HNb := Lib.hid (show some b ≠ (Value.slice Av ys.length cpv).ownBlock from fun e => by have := HOwn.out b e.symm; omega)
  have HNg := Lib.hid (show some g ≠ (Value.slice Av ys.length cpv).ownBlock from fun e => by have := HOwn.out g e.symm; omega)
  have HNx := Lib.hid (show some w.heap.size ≠ (Value.slice Av ys.length cpv).ownBlock from fun e => by have := HOwn.out _ e.symm; omega)
  go_region_law
    (first
      | (refine step_app_any rfl _ _ rfl top (.slice Av ys.length cpv) (.slice A L cp) ys zs rfl rfl HO.out.drew HZ.out.drew hl (by simp; omega) ?_; intro v1 w1 happ; obtain ⟨A6, c6, rfl, _⟩ := happ.own.bytes; have hg1 := (happ.grown.block g (Nat.lt_trans hgl hWs) HNg.out).trans HG.out; have c41 : w1.cell? ⟨g, 4, none⟩ = some (.slice Av ys.length cpv) := (by simp [World.cell?, hg1]); have f41 : w1.frozen? ⟨g, 4, none⟩ = false := (by simp [World.frozen?, hg1]); have cb1 : w1.cell? ⟨b, 0, none⟩ = some (.pointer (some ⟨g, 0, none⟩)) := (World.cell?_of_block (w := W.drew) (a := ⟨b, 0, none⟩) (happ.grown.block b (Nat.lt_trans hbl hWs) HNb.out)).trans hbW; have HG1 := Lib.hid hg1; clear hg1))
  all_goals
    rw [List.length_append] at happ
    go_end0
    exact kept_end HW hgt happ HG1.out

/-- A machine took an answer with the bytes zs: it is one part further. -/
def TookIs (base top g : Nat) (kd : Kd) (d r : Nat) (v : Value) (ys zs : List Int) (w : World) (e : Ending) (w' : World) : Prop :=
  ∃ v', e = .returned (.tuple #[]) ∧ Cp w' base top g kd (d + Cy.nx r) (r - Cy.nx r) v' (ys ++ if kd.reads then zs else []) ∧ Touch (Mine g v) w w' ∧ Lies v v' w

set_option linter.unusedVariables false in
/-- The closure that takes an answer keeps its bytes, if the machine reads. -/
theorem then_any (kd : Kd) {w : World} {base top g n d : Nat} {cv nx th v : Value} {ys zs : List Int} (V : Nat) (D : Bool) (A : Option Addr) (L cp : Nat) (hgt : g < top) (ht : top ≤ w.heap.size)
    (hg : w.heap[g]? = some (.cells #[cv, .int .i64 d, nx, th, v] 200 (0, 0))) (ho : Owns top w v ys) (hb : Body w base top g n kd nx th) (hz : BytesAt w (.slice A L cp) zs) (hl : kd.reads = true → ys.length + zs.length ≤ 1073741824) :
    (∃ b, kd.reads = true ∧ th = .func (.func 155) #[] #[.pointer (some ⟨b, 0, none⟩)] ∧ Calls Tryz.prog 155 #[.agg #[.int .u64 V, .bool D, .slice A L cp], .pointer (some ⟨b, 0, none⟩)] w (Kept g cv d nx th top v (ys ++ zs) w)) ∨
    (kd.reads = false ∧ th = .func (.func 153) #[] #[] ∧ Calls Tryz.prog 153 #[.agg #[.int .u64 V, .bool D, .slice A L cp]] w (Kept g cv d nx th top v ys w)) := by
  have hw : Calls Tryz.prog 153 #[.agg #[.int .u64 V, .bool D, .slice A L cp]] w (Kept g cv d nx th top v ys w) := by
    refine (writingThen_any V D A L cp w).mono ?_
    rintro e w' ⟨rfl, hbl⟩
    exact ⟨v, rfl, (hbl.block g (Nat.lt_of_lt_of_le hgt ht)).trans hg, ho.below hbl, Touch.of_below hbl, fun k hk => .inl hk⟩
  cases kd with
  | wr at_ f =>
    obtain ⟨_, _, _, _, _, e2, _⟩ := hb
    exact .inr ⟨rfl, e2, hw⟩
  | ze at_ =>
    obtain ⟨_, _, e2, _⟩ := hb
    exact .inr ⟨rfl, e2, hw⟩
  | rd at_ =>
    obtain ⟨a, b, _, e2, _, kb, _, h2⟩ := hb
    exact .inl ⟨b, rfl, e2, outThen_any V D A L cp b g top cv nx th v d ys zs w h2 kb.2.1 hgt ht hg ho hz (hl rfl)⟩

set_option maxRecDepth 100000 in
set_option maxHeartbeats 1000000 in
theorem stepsTake_no {kd : Kd} {w : World} {base top g d : Nat} {v : Value} {ys : List Int} (h : Cp w base top g kd d 0 v ys) (V : Nat) (D : Bool) (A : Option Addr) (L cp : Nat) :
    Calls Tryz.prog 183 #[.pointer (some ⟨g, 0, none⟩), .agg #[.int .u64 V, .bool D, .slice A L cp]] w (Made (.tuple #[]) w) := by
  obtain ⟨cv, nx, th, h1, ⟨A1, cap, rfl, _, _, _⟩, _⟩ := h.head
  have hlt := h.lt
  have hc : w.cell? ⟨g, 0, none⟩ = some (.slice A1 0 cap) := by simp [World.cell?, h1, Cy.cks_zero]
  clear h h1
  go_enter Tryz.func183, Tryz.ntmps183
  go_wp2
  refine bodyPost_ret (results_none rfl _ _ _) rfl ?_
  exact ⟨rfl, (Below.refl _ w).alloc (Nat.le_refl _) _⟩
end Go.Proofs.YtikcnioooihncaaGreat
namespace Go.Proofs.YtikcnioooihncaaGreat
open Go.RowKit

theorem took_end {kd : Kd} {w W w1 : World} {base top g d r n2 pb po po' cap cap' : Nat} {nx th v v1 : Value} {ys zs zs' : List Int} (h : Cp w base top g kd d r v ys)
    (hbd : Body w base top g (d + r) kd nx th) (hcp : Parts (Fixed base top g) w (.slice (some ⟨pb, po, none⟩) (n2 + 1) cap) (((Cy.nx r : Nat) : Int) :: Cy.cks (r - Cy.nx r))) (hn2 : (Cy.cks (r - Cy.nx r)).length = n2)
    (hzs : ys ++ (if kd.reads then zs else []) = zs') (HW : Below w.heap.size w W) (HT1 : Touch (Mine g v) W w1) (HL1 : Lies v v1 W) (HO1 : Owns top w1 v1 zs')
    (HG1 : w1.heap[g]? = some (.cells #[.slice (some ⟨pb, po, none⟩) (n2 + 1) cap, .int .i64 d, nx, th, v1] 200 (0, 0))) (hpo : 0 < n2 → po' = po + 1) (hc1 : n2 ≤ cap') (hc2 : cap' ≤ cap) :
    TookIs base top g kd d r v ys zs w (.returned (.tuple #[])) ((w1.setCell ⟨g, 1, none⟩ (.int .i64 ((d : Int) + (Cy.nx r : Nat)))).setCell ⟨g, 0, none⟩ (.slice (some ⟨pb, po', none⟩) n2 cap')).drew := by
  have hnl := Cy.nx_le r
  have hne : ∀ k, k ≠ g → (((w1.setCell ⟨g, 1, none⟩ (.int .i64 ((d : Int) + (Cy.nx r : Nat)))).setCell ⟨g, 0, none⟩ (.slice (some ⟨pb, po', none⟩) n2 cap')).drew).heap[k]? = w1.heap[k]? := fun k hk =>
    (Below.heap_setCell _ _ _ _ hk).trans (Below.heap_setCell _ _ _ _ hk)
  have hs1 : W.heap.size ≤ w1.heap.size := HT1.size
  have hT : Touch (Mine g v) w w1 := (Touch.of_below HW).trans HT1
  have hfix : ∀ k, Fixed base top g k → w1.heap[k]? = w.heap[k]? := fun k hk => hT.block k (Nat.lt_of_lt_of_le hk.2.1 h.there) fun hm => by
    rcases hm with hm | hm
    · exact hk.2.2 hm
    · have := (h.own.ge hm).1
      have := hk.2.1
      omega
  have hsz : w.heap.size ≤ (((w1.setCell ⟨g, 1, none⟩ (.int .i64 ((d : Int) + (Cy.nx r : Nat)))).setCell ⟨g, 0, none⟩ (.slice (some ⟨pb, po', none⟩) n2 cap')).drew).heap.size := by
    have := hT.size
    simpa [World.setCell, World.drew] using this
  refine ⟨v1, rfl, ⟨h.above, h.under, Nat.le_trans h.there hsz, by have := h.few; omega, h.near, ⟨.slice (some ⟨pb, po', none⟩) n2 cap', nx, th, ?_, ?_, fun _ => ?_⟩, ?_⟩, ?_, ?_⟩
  · have e : (((d + Cy.nx r : Nat) : Nat) : Int) = (d : Int) + (Cy.nx r : Nat) := by omega
    rw [e]
    simp [World.setCell, World.drew, Array.getElem?_modify, HG1]
  · obtain ⟨A, cp, hv, hcl, hcm, hp⟩ := hcp
    injection hv with e1 e2 e3
    refine ⟨some ⟨pb, po', none⟩, cap', by rw [hn2], by rw [hn2]; exact hc1, by omega, fun hpos => ?_⟩
    obtain ⟨b, off, eA, hK, hlt, hc⟩ := hp (by simp)
    rw [← e1] at eA
    injection eA with eA
    injection eA with e5 e6
    subst e5 e6
    refine ⟨pb, po', rfl, hK, by omega, fun i hi => ?_⟩
    have hcell := hc (i + 1) (by simpa using hi)
    rw [List.getD_cons_succ] at hcell
    have ho : po' + i = po + (i + 1) := by have := hpo (by omega); omega
    rw [ho, ← hcell]
    exact World.cell?_of_block (w := w) (a := ⟨pb, po + (i + 1), none⟩) ((hne pb hK.2.2).trans (hfix pb hK))
  · have e : d + Cy.nx r + (r - Cy.nx r) = d + r := by omega
    rw [e]
    exact hbd.keep hsz fun k hk => (hne k hk.2.2).trans (hfix k hk)
  · rw [hzs]
    exact HO1.of_block fun k hk => hne k (by have := (HO1.ge hk).1; have := h.under; omega)
  · exact ((hT.setCell (p := ⟨g, 1, none⟩) (.inl rfl) _).setCell (p := ⟨g, 0, none⟩) (.inl rfl) _).drew
  · intro k hk
    rcases HL1 k hk with e | e
    · exact .inl e
    · exact .inr (Nat.le_trans HW.size e)

set_option maxRecDepth 100000 in
set_option maxHeartbeats 1000000 in
theorem stepsTake_rd {kd : Kd} {w : World} {base top g d r : Nat} {v : Value} {ys : List Int} (h : Cp w base top g kd d r v ys) (hr : 0 < r) (V : Nat) (D : Bool) (A : Option Addr) (L cp : Nat) (zs zs' : List Int) {cv nx : Value} {b : Nat}
    (hg : w.heap[g]? = some (.cells #[cv, .int .i64 d, nx, .func (.func 155) #[] #[.pointer (some ⟨b, 0, none⟩)], v] 200 (0, 0))) (hcp : Parts (Fixed base top g) w cv (Cy.cks r)) (hbd : Body w base top g (d + r) kd nx (.func (.func 155) #[] #[.pointer (some ⟨b, 0, none⟩)]))
    (hcall : ∀ W : World, Below w.heap.size w W → Calls Tryz.prog 155 #[.agg #[.int .u64 V, .bool D, .slice A L cp], .pointer (some ⟨b, 0, none⟩)] W (Kept g cv d nx (.func (.func 155) #[] #[.pointer (some ⟨b, 0, none⟩)]) top v zs' W)) (hzs : ys ++ (if kd.reads then zs else []) = zs') :
    Calls Tryz.prog 183 #[.pointer (some ⟨g, 0, none⟩), .agg #[.int .u64 V, .bool D, .slice A L cp]] w (TookIs base top g kd d r v ys zs w) := by
  have hlt := h.lt
  have hnp := Cy.nx_pos hr
  have hnl := Cy.nx_le r
  have hfew := h.few
  have hnear := Lib.hid h.near
  have hbase := h.above
  have hub := h.there
  have hug := h.under
  have hown := Lib.hid (fun k hk => h.own.ge (k := k) hk)
  have HW := (Below.refl w.heap.size w).alloc (Nat.le_refl _) (.cells #[.int .u64 V, .bool D, .slice A L cp] 25)
  have HX := Go.Deep.blk_alloc_new w (.cells #[.int .u64 V, .bool D, .slice A L cp] 25)
  rw [Cy.cks_step hr] at hcp
  have HCP := Lib.hid hcp
  obtain ⟨A0, cap, hcv, hcl, hcm, hp⟩ := hcp
  subst hcv
  obtain ⟨pb, po, rfl, hpf, hpl, hpc⟩ := hp (by simp)
  have hp0 := hpc 0 (by simp)
  have hm2 : cap ≤ 9223372036854775807 := by unfold maxLen at hcm; omega
  simp only [List.getD_cons_zero, Nat.add_zero, List.length_cons] at hp0 hcl hg hcall HCP
  have HPC := Lib.hid hpc
  have HLQ : Hid (∃ L2, (Cy.cks (r - Cy.nx r)).length = L2) := ⟨_, rfl⟩
  obtain ⟨n2, hn2⟩ := HLQ.out
  rw [hn2] at hcl hg hcall HCP
  have HN2 := Lib.hid hn2
  clear HLQ hn2 hpc hp
  have hpos2 : (0 : Int) < (n2 : Int) + 1 := by omega
  have hne0 : ¬ ((n2 : Int) + 1 = 0) := by omega
  have hbdH := Lib.hid hbd
  have hgH := Lib.hid hg
  have hcw : w.cell? ⟨g, 0, none⟩ = some (.slice (some ⟨pb, po, none⟩) (n2 + 1) cap) := by simp [World.cell?, hg]
  have hcalls := Lib.hid hcall
  have hhz := Lib.hid hzs
  have HC0 := Lib.hid h
  clear h hg hcall hbd hzs
  go_enter Tryz.func183, Tryz.ntmps183
  go_wp2_with fail
  clear hcw
  generalize hxq : w.heap.size = x
  rw [hxq] at HX HW hub hlt hpl hown
  have HXQ := Lib.hid hxq
  generalize w.alloc (.cells #[.int .u64 V, .bool D, .slice A L cp] 25) = W at HW HX ⊢
  clear hxq
  have hgW := (HW.block g hlt).trans hgH.out
  have hc3 : W.cell? ⟨g, 3, none⟩ = some (.func (.func 155) #[] #[.pointer (some ⟨b, 0, none⟩)]) := by simp [World.cell?, hgW]
  have hx0 : W.cell? ⟨x, 0, none⟩ = some (.int .u64 V) := by simp [World.cell?, HX]
  have hx1 : W.cell? ⟨x, 1, none⟩ = some (.bool D) := by simp [World.cell?, HX]
  have hx2 : W.cell? ⟨x, 2, none⟩ = some (.slice A L cp) := by simp [World.cell?, HX]
  have HGW := Lib.hid hgW
  have HHX := Lib.hid HX
  clear hgW HX
  go_region_held3 (fun w' => w'.cell? ⟨g, 3, none⟩ = some (.func (.func 155) #[] #[.pointer (some ⟨b, 0, none⟩)]) ∧ w'.cell? ⟨x, 0, none⟩ = some (.int .u64 V) ∧ w'.cell? ⟨x, 1, none⟩ = some (.bool D) ∧ w'.cell? ⟨x, 2, none⟩ = some (.slice A L cp)) (go_keep)
    (first | (go_at_call 155; refine (hcalls.out _ (HXQ.out ▸ HW.drew)).mono ?_; rintro e w1 ⟨v1, rfl, hg1, ho1, ht1, hl1⟩; have hxg := (ht1.block x (Array.getElem?_eq_some_iff.1 HHX.out).1 (fun hm => by rcases hm with hm | hm; omega; have := hown.out x hm; omega)).trans HHX.out; have hk3 : w1.cell? ⟨g, 3, none⟩ = some (.func (.func 155) #[] #[.pointer (some ⟨b, 0, none⟩)]) := (by simp [World.cell?, hg1]); have hy0 : w1.cell? ⟨x, 0, none⟩ = some (.int .u64 V) := (by simp [World.cell?, hxg]); have hy1 : w1.cell? ⟨x, 1, none⟩ = some (.bool D) := (by simp [World.cell?, hxg]); have hy2 : w1.cell? ⟨x, 2, none⟩ = some (.slice A L cp) := (by simp [World.cell?, hxg]); have HG1 := Lib.hid hg1; have HO1 := Lib.hid ho1; have HT1 := Lib.hid ht1; have HL1 := Lib.hid hl1; clear hg1 ho1 ht1 hl1 hxg))
  have hh0 : w1.cell? ⟨g, 0, none⟩ = some (.slice (some ⟨pb, po, none⟩) (n2 + 1) cap) := by simp [World.cell?, HG1.out]
  have hh1 : w1.cell? ⟨g, 1, none⟩ = some (.int .i64 d) := by simp [World.cell?, HG1.out]
  have hf0 : w1.frozen? ⟨g, 0, none⟩ = false := by simp [World.frozen?, HG1.out]
  have hf1 : w1.frozen? ⟨g, 1, none⟩ = false := by simp [World.frozen?, HG1.out]
  have hpb1 := ((HT1.out.block pb (Nat.lt_of_lt_of_le hpl (HXQ.out ▸ HW.size)) (fun hm => by rcases hm with hm | hm; exact hpf.2.2 hm; have := hown.out pb hm; have := hpf.2.1; omega)).trans (HW.block pb hpl))
  have hp1 : w1.cell? ⟨pb, po, none⟩ = some (.int .i64 (Cy.nx r : Nat)) := (World.cell?_of_block (w := w) (a := ⟨pb, po, none⟩) hpb1).trans hp0
  have hpg : pb ≠ g := hpf.2.2
  have hpos3 : 0 < n2 + 1 := by omega
  clear hpb1 hc3 hx0 hx1 hx2 hy0 hy1 hy2 hk3
  go_wp2_with fail
  go_region
  have hsl1 : (1 : Int) ≤ (n2 : Int) + 1 := by omega
  have hsl2 : (n2 : Int) + 1 ≤ cap := by omega
  by_cases hc1 : cap = 1
  · subst hc1
    have hn20 : n2 = 0 := by omega
    subst hn20
    go_wp2
    go_end0
    exact took_end (po' := po) (cap' := 0) HC0.out hbdH.out HCP.out HN2.out hhz.out (HXQ.out ▸ HW.drew) HT1.out HL1.out HO1.out HG1.out (fun h => absurd h (Nat.lt_irrefl 0)) (Nat.le_refl _) (by omega)
  · go_wp2
    go_end0
    exact took_end (po' := po + 1) (cap' := cap - 1) HC0.out hbdH.out HCP.out HN2.out hhz.out (HXQ.out ▸ HW.drew) HT1.out HL1.out HO1.out HG1.out (fun _ => rfl) (by omega) (by omega)

set_option maxRecDepth 100000 in
set_option maxHeartbeats 1000000 in
theorem stepsTake_wr {kd : Kd} {w : World} {base top g d r : Nat} {v : Value} {ys : List Int} (h : Cp w base top g kd d r v ys) (hr : 0 < r) (V : Nat) (D : Bool) (A : Option Addr) (L cp : Nat) (zs zs' : List Int) {cv nx : Value}
    (hg : w.heap[g]? = some (.cells #[cv, .int .i64 d, nx, .func (.func 153) #[] #[], v] 200 (0, 0))) (hcp : Parts (Fixed base top g) w cv (Cy.cks r)) (hbd : Body w base top g (d + r) kd nx (.func (.func 153) #[] #[]))
    (hcall : ∀ W : World, Below w.heap.size w W → Calls Tryz.prog 153 #[.agg #[.int .u64 V, .bool D, .slice A L cp]] W (Kept g cv d nx (.func (.func 153) #[] #[]) top v zs' W)) (hzs : ys ++ (if kd.reads then zs else []) = zs') :
    Calls Tryz.prog 183 #[.pointer (some ⟨g, 0, none⟩), .agg #[.int .u64 V, .bool D, .slice A L cp]] w (TookIs base top g kd d r v ys zs w) := by
  have hlt := h.lt
  have hnp := Cy.nx_pos hr
  have hnl := Cy.nx_le r
  have hfew := h.few
  have hnear := Lib.hid h.near
  have hbase := h.above
  have hub := h.there
  have hug := h.under
  have hown := Lib.hid (fun k hk => h.own.ge (k := k) hk)
  have HW := (Below.refl w.heap.size w).alloc (Nat.le_refl _) (.cells #[.int .u64 V, .bool D, .slice A L cp] 25)
  have HX := Go.Deep.blk_alloc_new w (.cells #[.int .u64 V, .bool D, .slice A L cp] 25)
  rw [Cy.cks_step hr] at hcp
  have HCP := Lib.hid hcp
  obtain ⟨A0, cap, hcv, hcl, hcm, hp⟩ := hcp
  subst hcv
  obtain ⟨pb, po, rfl, hpf, hpl, hpc⟩ := hp (by simp)
  have hp0 := hpc 0 (by simp)
  have hm2 : cap ≤ 9223372036854775807 := by unfold maxLen at hcm; omega
  simp only [List.getD_cons_zero, Nat.add_zero, List.length_cons] at hp0 hcl hg hcall HCP
  have HPC := Lib.hid hpc
  have HLQ : Hid (∃ L2, (Cy.cks (r - Cy.nx r)).length = L2) := ⟨_, rfl⟩
  obtain ⟨n2, hn2⟩ := HLQ.out
  rw [hn2] at hcl hg hcall HCP
  have HN2 := Lib.hid hn2
  clear HLQ hn2 hpc hp
  have hpos2 : (0 : Int) < (n2 : Int) + 1 := by omega
  have hne0 : ¬ ((n2 : Int) + 1 = 0) := by omega
  have hbdH := Lib.hid hbd
  have hgH := Lib.hid hg
  have hcw : w.cell? ⟨g, 0, none⟩ = some (.slice (some ⟨pb, po, none⟩) (n2 + 1) cap) := by simp [World.cell?, hg]
  have hcalls := Lib.hid hcall
  have hhz := Lib.hid hzs
  have HC0 := Lib.hid h
  clear h hg hcall hbd hzs
  go_enter Tryz.func183, Tryz.ntmps183
  go_wp2_with fail
  clear hcw
  generalize hxq : w.heap.size = x
  rw [hxq] at HX HW hub hlt hpl hown
  have HXQ := Lib.hid hxq
  generalize w.alloc (.cells #[.int .u64 V, .bool D, .slice A L cp] 25) = W at HW HX ⊢
  clear hxq
  have hgW := (HW.block g hlt).trans hgH.out
  have hc3 : W.cell? ⟨g, 3, none⟩ = some (.func (.func 153) #[] #[]) := by simp [World.cell?, hgW]
  have hx0 : W.cell? ⟨x, 0, none⟩ = some (.int .u64 V) := by simp [World.cell?, HX]
  have hx1 : W.cell? ⟨x, 1, none⟩ = some (.bool D) := by simp [World.cell?, HX]
  have hx2 : W.cell? ⟨x, 2, none⟩ = some (.slice A L cp) := by simp [World.cell?, HX]
  have HGW := Lib.hid hgW
  have HHX := Lib.hid HX
  clear hgW HX
  go_region_held3 (fun w' => w'.cell? ⟨g, 3, none⟩ = some (.func (.func 153) #[] #[]) ∧ w'.cell? ⟨x, 0, none⟩ = some (.int .u64 V) ∧ w'.cell? ⟨x, 1, none⟩ = some (.bool D) ∧ w'.cell? ⟨x, 2, none⟩ = some (.slice A L cp)) (go_keep)
    (first | (go_at_call 153; refine (hcalls.out _ (HXQ.out ▸ HW.drew)).mono ?_; rintro e w1 ⟨v1, rfl, hg1, ho1, ht1, hl1⟩; have hxg := (ht1.block x (Array.getElem?_eq_some_iff.1 HHX.out).1 (fun hm => by rcases hm with hm | hm; omega; have := hown.out x hm; omega)).trans HHX.out; have hk3 : w1.cell? ⟨g, 3, none⟩ = some (.func (.func 153) #[] #[]) := (by simp [World.cell?, hg1]); have hy0 : w1.cell? ⟨x, 0, none⟩ = some (.int .u64 V) := (by simp [World.cell?, hxg]); have hy1 : w1.cell? ⟨x, 1, none⟩ = some (.bool D) := (by simp [World.cell?, hxg]); have hy2 : w1.cell? ⟨x, 2, none⟩ = some (.slice A L cp) := (by simp [World.cell?, hxg]); have HG1 := Lib.hid hg1; have HO1 := Lib.hid ho1; have HT1 := Lib.hid ht1; have HL1 := Lib.hid hl1; clear hg1 ho1 ht1 hl1 hxg))
  have hh0 : w1.cell? ⟨g, 0, none⟩ = some (.slice (some ⟨pb, po, none⟩) (n2 + 1) cap) := by simp [World.cell?, HG1.out]
  have hh1 : w1.cell? ⟨g, 1, none⟩ = some (.int .i64 d) := by simp [World.cell?, HG1.out]
  have hf0 : w1.frozen? ⟨g, 0, none⟩ = false := by simp [World.frozen?, HG1.out]
  have hf1 : w1.frozen? ⟨g, 1, none⟩ = false := by simp [World.frozen?, HG1.out]
  have hpb1 := ((HT1.out.block pb (Nat.lt_of_lt_of_le hpl (HXQ.out ▸ HW.size)) (fun hm => by rcases hm with hm | hm; exact hpf.2.2 hm; have := hown.out pb hm; have := hpf.2.1; omega)).trans (HW.block pb hpl))
  have hp1 : w1.cell? ⟨pb, po, none⟩ = some (.int .i64 (Cy.nx r : Nat)) := (World.cell?_of_block (w := w) (a := ⟨pb, po, none⟩) hpb1).trans hp0
  have hpg : pb ≠ g := hpf.2.2
  have hpos3 : 0 < n2 + 1 := by omega
  clear hpb1 hc3 hx0 hx1 hx2 hy0 hy1 hy2 hk3
  go_wp2_with fail
  go_region
  have hsl1 : (1 : Int) ≤ (n2 : Int) + 1 := by omega
  have hsl2 : (n2 : Int) + 1 ≤ cap := by omega
  by_cases hc1 : cap = 1
  · subst hc1
    have hn20 : n2 = 0 := by omega
    subst hn20
    go_wp2
    go_end0
    exact took_end (po' := po) (cap' := 0) HC0.out hbdH.out HCP.out HN2.out hhz.out (HXQ.out ▸ HW.drew) HT1.out HL1.out HO1.out HG1.out (fun h => absurd h (Nat.lt_irrefl 0)) (Nat.le_refl _) (by omega)
  · go_wp2
    go_end0
    exact took_end (po' := po + 1) (cap' := cap - 1) HC0.out hbdH.out HCP.out HN2.out hhz.out (HXQ.out ▸ HW.drew) HT1.out HL1.out HO1.out HG1.out (fun _ => rfl) (by omega) (by omega)


theorem TookIs.from_ {kd : Kd} {w W w' : World} {base top g d r : Nat} {v : Value} {ys zs : List Int} {e : Ending} (HW : Below w.heap.size w W) (h : TookIs base top g kd d r v ys zs W e w') : TookIs base top g kd d r v ys zs w e w' := by
  obtain ⟨v', he, hc, ht, hl⟩ := h
  refine ⟨v', he, hc, (Touch.of_below HW).trans ht, fun k hk => ?_⟩
  rcases hl k hk with e | e
  · exact .inl e
  · exact .inr (Nat.le_trans HW.size e)

theorem stepsTake_any {kd : Kd} {w : World} {base top g d r : Nat} {v : Value} {ys zs : List Int} (h : Cp w base top g kd d r v ys) (hr : 0 < r) (V : Nat) (D : Bool) (A : Option Addr) (L cp : Nat) (hz : BytesAt w (.slice A L cp) zs) (hl : kd.reads = true → ys.length + zs.length ≤ 1073741824) :
    Calls Tryz.prog 183 #[.pointer (some ⟨g, 0, none⟩), .agg #[.int .u64 V, .bool D, .slice A L cp]] w (TookIs base top g kd d r v ys zs w) := by
  obtain ⟨cv, nx, th, hg, hcp, hbd⟩ := h.head
  have hb := hbd (by omega)
  have hthen := fun (W : World) (HW : Below w.heap.size w W) => then_any kd (n := d + r) (cv := cv) (d := d) (nx := nx) (th := th) V D A L cp h.under (Nat.le_trans h.there HW.size) ((HW.block g h.lt).trans hg) (h.own.below HW) (hb.keep HW.size fun k hk => HW.block k (Nat.lt_of_lt_of_le hk.2.1 h.there)) (hz.below HW) hl
  rcases hthen w (Below.refl _ _) with ⟨b, hk, hth, _⟩ | ⟨hk, hth, _⟩
  · subst hth
    refine stepsTake_rd h hr V D A L cp zs (ys ++ zs) hg hcp hb (fun W HW => ?_) (by rw [hk]; rfl)
    rcases hthen W HW with ⟨b2, _, hth, hc⟩ | ⟨hk2, _, _⟩
    · obtain rfl : b2 = b := by simp at hth; exact hth.symm
      exact hc
    · rw [hk] at hk2; cases hk2
  · subst hth
    refine stepsTake_wr h hr V D A L cp zs ys hg hcp hb (fun W HW => ?_) (by rw [hk]; simp)
    rcases hthen W HW with ⟨b2, hk2, _, _⟩ | ⟨_, _, hc⟩
    · rw [hk] at hk2; cases hk2
    · exact hc

set_option maxRecDepth 100000 in
set_option maxHeartbeats 1000000 in
theorem take_gen {kd : Kd} {w : World} {base top g d r : Nat} {v : Value} {ys zs : List Int} (h : Cp w base top g kd d r v ys) (hr : 0 < r) (V : Nat) (D : Bool) (A : Option Addr) (L cp : Nat) (hz : BytesAt w (.slice A L cp) zs) (hl : kd.reads = true → ys.length + zs.length ≤ 1073741824) :
    Calls Tryz.prog 181 #[.pointer (some ⟨g, 0, none⟩), .agg #[.int .u64 V, .bool D, .slice A L cp]] w (TookIs base top g kd d r v ys zs w) := by
  have hlt := h.lt
  have hub := h.there
  have hug := h.under
  have hown := Lib.hid (fun k hk => h.own.ge (k := k) hk)
  have HW := (Below.refl w.heap.size w).alloc (Nat.le_refl _) (.cells #[.int .u64 V, .bool D, .slice A L cp] 25)
  have HX := Go.Deep.blk_alloc_new w (.cells #[.int .u64 V, .bool D, .slice A L cp] 25)
  have HC := Lib.hid (stepsTake_any (h.below (HW.drew)) hr V D A L cp (hz.below HW.drew) hl)
  clear h hz
  go_enter Tryz.func181, Tryz.ntmps181
  go_wp2_with fail
  generalize w.alloc (.cells #[.int .u64 V, .bool D, .slice A L cp] 25) = W at HW HX HC ⊢
  have hx0 : W.cell? ⟨w.heap.size, 0, none⟩ = some (.int .u64 V) := by simp [World.cell?, HX]
  have hx1 : W.cell? ⟨w.heap.size, 1, none⟩ = some (.bool D) := by simp [World.cell?, HX]
  have hx2 : W.cell? ⟨w.heap.size, 2, none⟩ = some (.slice A L cp) := by simp [World.cell?, HX]
  have HHX := Lib.hid HX
  clear HX
  go_region_held3 (fun w' => w'.cell? ⟨w.heap.size, 0, none⟩ = some (.int .u64 V) ∧ w'.cell? ⟨w.heap.size, 1, none⟩ = some (.bool D) ∧ w'.cell? ⟨w.heap.size, 2, none⟩ = some (.slice A L cp)) (go_keep)
    (first | (go_at_call 183; refine HC.out.mono ?_; rintro e w1 ⟨v1, rfl, hc1, ht1, hl1⟩; have hxg := (ht1.block w.heap.size (Array.getElem?_eq_some_iff.1 HHX.out).1 (fun hm => by rcases hm with hm | hm; omega; have := hown.out _ hm; omega)).trans HHX.out; have hy0 : w1.cell? ⟨w.heap.size, 0, none⟩ = some (.int .u64 V) := (by simp [World.cell?, hxg]); have hy1 : w1.cell? ⟨w.heap.size, 1, none⟩ = some (.bool D) := (by simp [World.cell?, hxg]); have hy2 : w1.cell? ⟨w.heap.size, 2, none⟩ = some (.slice A L cp) := (by simp [World.cell?, hxg]); have HH1 := Lib.hid (show TookIs base top g kd d r v ys zs W.drew (.returned (.tuple #[])) w1 from ⟨v1, rfl, hc1, ht1, hl1⟩); clear hc1 ht1 hl1 hxg))
  go_wp2
  go_end0
  exact HH1.out.from_ HW.drew

theorem take_any {kd : Kd} {w : World} {base top g d r : Nat} {v : Value} {ys zs : List Int} (h : Cp w base top g kd d r v ys) (hr : 0 < r) (V : Nat) (D : Bool) (A : Option Addr) (L cp : Nat) (hz : BytesAt w (.slice A L cp) zs) (hl : ys.length + zs.length ≤ 1073741824) :
    Calls Tryz.prog 181 #[.pointer (some ⟨g, 0, none⟩), .agg #[.int .u64 V, .bool D, .slice A L cp]] w (TookIs base top g kd d r v ys zs w) := take_gen h hr V D A L cp hz fun _ => hl

set_option maxRecDepth 100000 in
set_option maxHeartbeats 1000000 in
theorem take_no {kd : Kd} {w : World} {base top g d : Nat} {v : Value} {ys : List Int} (h : Cp w base top g kd d 0 v ys) (V : Nat) (D : Bool) (A : Option Addr) (L cp : Nat) :
    Calls Tryz.prog 181 #[.pointer (some ⟨g, 0, none⟩), .agg #[.int .u64 V, .bool D, .slice A L cp]] w (Made (.tuple #[]) w) := by
  have HW := (Below.refl w.heap.size w).alloc (Nat.le_refl _) (.cells #[.int .u64 V, .bool D, .slice A L cp] 25)
  have HX := Go.Deep.blk_alloc_new w (.cells #[.int .u64 V, .bool D, .slice A L cp] 25)
  have HC := Lib.hid (stepsTake_no (h.below (HW.drew)) V D A L cp)
  clear h
  go_enter Tryz.func181, Tryz.ntmps181
  go_wp2_with fail
  generalize w.alloc (.cells #[.int .u64 V, .bool D, .slice A L cp] 25) = W at HW HX HC ⊢
  have hx0 : W.cell? ⟨w.heap.size, 0, none⟩ = some (.int .u64 V) := by simp [World.cell?, HX]
  have hx1 : W.cell? ⟨w.heap.size, 1, none⟩ = some (.bool D) := by simp [World.cell?, HX]
  have hx2 : W.cell? ⟨w.heap.size, 2, none⟩ = some (.slice A L cp) := by simp [World.cell?, HX]
  have HHX := Lib.hid HX
  clear HX
  go_region_held3 (fun w' => w'.cell? ⟨w.heap.size, 0, none⟩ = some (.int .u64 V) ∧ w'.cell? ⟨w.heap.size, 1, none⟩ = some (.bool D) ∧ w'.cell? ⟨w.heap.size, 2, none⟩ = some (.slice A L cp)) (go_keep)
    (first | (go_at_call 183; refine HC.out.mono ?_; rintro e w1 ⟨rfl, hb1⟩; have hxg := (hb1.block w.heap.size (Array.getElem?_eq_some_iff.1 HHX.out).1).trans HHX.out; have hy0 : w1.cell? ⟨w.heap.size, 0, none⟩ = some (.int .u64 V) := (by simp [World.cell?, hxg]); have hy1 : w1.cell? ⟨w.heap.size, 1, none⟩ = some (.bool D) := (by simp [World.cell?, hxg]); have hy2 : w1.cell? ⟨w.heap.size, 2, none⟩ = some (.slice A L cp) := (by simp [World.cell?, hxg]); clear hxg))
  go_wp2
  go_end0
  exact ⟨rfl, HW.drew.trans (hb1.mono HW.size)⟩

set_option maxRecDepth 100000 in
set_option maxHeartbeats 400000 in
theorem take_nil (V : Nat) (D : Bool) (A : Option Addr) (L cp : Nat) (w : World) :
    Calls Tryz.prog 181 #[.pointer none, .agg #[.int .u64 V, .bool D, .slice A L cp]] w (Made (.tuple #[]) w) := by
  go_enter Tryz.func181, Tryz.ntmps181
  go_wp2
  go_end0
  exact ⟨rfl, (Below.refl _ w).alloc (Nat.le_refl _) _⟩
end Go.Proofs.YtikcnioooihncaaGreat
namespace Go.Proofs.YtikcnioooihncaaGreat
open Go.RowKit

/-- An access: its numbers, its bytes. -/
structure Ac where
  K : Int
  P : Int
  N : Int
  V : Nat
  U : Nat
  bs : List Int
/-- No access. -/
def Ac.zero : Ac := ⟨0, 0, 0, 0, 0, []⟩
/-- An answer. -/
structure An where
  V : Nat
  D : Bool
  bs : List Int
/-- No answer. -/
def An.zero : An := ⟨0, false, []⟩
/-- A pick. -/
structure Pk where
  K : Int
  A : Int
  N : Int
/-- An event. -/
structure Ev where
  pk : Pk
  ac : Ac
  an : An
/-- No event. -/
def Ev.zero : Ev := ⟨⟨0, 0, 0⟩, Ac.zero, An.zero⟩
/-- An event without an access. -/
def Ev.bare (p : Pk) : Ev := ⟨p, Ac.zero, An.zero⟩

/-- Bytes as a function of their places. -/
def fnOf (bs : List Int) : Nat → Nat := fun i => (bs.getD i 0).toNat
/-- The numbers are bytes. -/
def Bys (bs : List Int) : Prop := ∀ x ∈ bs, 0 ≤ x ∧ x < 256

theorem fnOf_isB {bs : List Int} (h : Bys bs) : Mb.IsB (fnOf bs) := fun i => by
  unfold fnOf
  rcases Nat.lt_or_ge i bs.length with hi | hi
  · have hm := h (bs[i]) (List.getElem_mem hi)
    have e : bs.getD i 0 = bs[i] := by simp [List.getD, hi]
    rw [e]
    omega
  · have e : bs.getD i 0 = 0 := by simp [List.getD, hi]
    rw [e]; decide

theorem bl_fnOf {bs : List Int} (h : Bys bs) : Mb.bl (fnOf bs) 0 bs.length = bs := by
  apply List.ext_getElem
  · simp [Mb.bl]
  · intro i h1 h2
    have hm := h (bs[i]) (List.getElem_mem h2)
    have e : bs.getD i 0 = bs[i] := by simp [List.getD, h2]
    simp only [Mb.bl, List.getElem_map, List.getElem_range, Nat.zero_add, fnOf, e]
    omega

theorem Bys.nil : Bys [] := fun _ h => by cases h
theorem Bys.bl {m : Nat → Nat} (h : Mb.IsB m) (a n : Nat) : Bys (Mb.bl m a n) := fun x hx => by
  obtain ⟨i, _, rfl⟩ := List.mem_map.1 hx
  have := h (a + i)
  omega

namespace Ac
/-- The error of an access to a buffer of n words. -/
def err (a : Ac) (n : Nat) : Int := chk (8 * (n : Int)) a.K a.P a.N a.bs.length
/-- What it tells. -/
def ans (a : Ac) (m : Nat → Nat) : An := ⟨Mb.ansV m a.K a.P.toNat a.N.toNat, Mb.ansD m a.K a.P.toNat a.N.toNat a.V, Mb.ansB m a.K a.P.toNat a.N.toNat⟩
/-- The bytes behind it. -/
def aft (a : Ac) (m : Nat → Nat) : Nat → Nat := Mb.aft m a.K a.P.toNat a.N.toNat a.V a.U (fnOf a.bs)
/-- Its numbers are numbers, its bytes bytes. -/
structure Fine (a : Ac) : Prop where
  v : a.V < 18446744073709551616
  u : a.U < 18446744073709551616
  k0 : -9223372036854775808 ≤ a.K ∧ a.K ≤ 9223372036854775807
  p0 : -9223372036854775808 ≤ a.P ∧ a.P ≤ 9223372036854775807
  n0 : -9223372036854775808 ≤ a.N ∧ a.N ≤ 9223372036854775807
  bys : Bys a.bs
  few : a.bs.length ≤ 1073741824
end Ac

theorem ansB_few {m : Nat → Nat} {K : Int} {a k : Nat} (hk : k ≤ 8) : (Mb.ansB m K a k).length ≤ 8 := by
  unfold Mb.ansB
  split
  · rw [Mb.bl_length]; exact hk
  · simp

theorem ansB_bys {m : Nat → Nat} (h : Mb.IsB m) (K : Int) (a k : Nat) : Bys (Mb.ansB m K a k) := by
  unfold Mb.ansB
  split
  · exact Bys.bl h _ _
  · exact Bys.nil

theorem nm_in {m : Nat → Nat} (h : Mb.IsB m) (a k : Nat) (hk : k ≤ 8) : Mb.nm m a k < 18446744073709551616 :=
  Nat.lt_of_lt_of_le (Mb.nm_lt h a k) (Nat.pow_le_pow_right (n := 2) (i := 8 * k) (j := 64) (by decide) (by omega))

theorem ansV_in {m : Nat → Nat} (h : Mb.IsB m) (K : Int) (a k : Nat) (hk : k ≤ 8) : Mb.ansV m K a k < 18446744073709551616 := by
  unfold Mb.ansV
  split
  · exact nm_in h a k hk
  · decide

theorem aft_isB {m : Nat → Nat} (h : Mb.IsB m) (K : Int) (a k v u : Nat) (f : Nat → Nat) : Mb.IsB (Mb.aft m K a k v u f) := by
  unfold Mb.aft
  split
  · exact Mb.put_isB h _ _ _
  · split
    · exact Mb.put_isB h _ _ _
    · split
      · split
        · exact Mb.put_isB h _ _ _
        · exact h
      · split
        · exact Mb.put_isB h _ _ _
        · exact h

/-- The answer of an access that may be. -/
structure An.Fine (x : An) : Prop where
  v : x.V < 18446744073709551616
  bys : Bys x.bs
  few : x.bs.length ≤ 8

theorem Ac.ans_fine (a : Ac) {m : Nat → Nat} {n : Nat} (hm : Mb.IsB m) (h : a.err n = 0) : (a.ans m).Fine := by
  obtain ⟨hf, _⟩ := chk_ok h
  have hl := formed_len hf
  exact ⟨ansV_in hm _ _ _ (by omega), ansB_bys hm _ _ _, ansB_few (by omega)⟩

theorem Ac.aft_isB (a : Ac) {m : Nat → Nat} (hm : Mb.IsB m) : Mb.IsB (a.aft m) := Go.Proofs.YtikcnioooihncaaGreat.aft_isB hm _ _ _ _ _ _

/-- A function with one value turned. -/
def upd {α : Type} (f : Nat → α) (i : Nat) (v : α) : Nat → α := fun j => if j = i then v else f j
theorem upd_same {α : Type} (f : Nat → α) (i : Nat) (v : α) : upd f i v i = v := if_pos rfl
theorem upd_other {α : Type} (f : Nat → α) (i : Nat) (v : α) {j : Nat} (h : j ≠ i) : upd f i v j = f j := if_neg h

theorem blkS {w : World} {g i : Nat} {cs : Array Value} {t : TypeId} (h : w.heap[g]? = some (.cells cs t (0, 0))) (u : Value) : (w.setCell ⟨g, i, none⟩ u).heap[g]? = some (.cells (cs.setIfInBounds i u) t (0, 0)) := by
  simp [World.setCell, Array.getElem?_modify, h]
theorem blkF {w : World} {g g' i : Nat} {o : Obj} (h : w.heap[g]? = some o) (hn : g ≠ g') (u : Value) : (w.setCell ⟨g', i, none⟩ u).heap[g]? = some o := (Below.heap_setCell w ⟨g', i, none⟩ u g hn).trans h

/-- What a machine wants next is told, its bytes in new memory. -/
def NextTold (o : Option Ac) (w : World) (e : Ending) (w' : World) : Prop :=
  Below w.heap.size w w' ∧ match o with
  | none => e = .returned (.tuple #[.agg #[.int .i64 0, .int .i64 0, .int .i64 0, .int .u64 0, .int .u64 0, .slice none 0 0], .bool false])
  | some a => ∃ A l c, e = .returned (.tuple #[.agg #[.int .i64 a.K, .int .i64 a.P, .int .i64 a.N, .int .u64 a.V, .int .u64 a.U, .slice A l c], .bool true]) ∧ Owns w.heap.size w' (.slice A l c) a.bs

theorem method_next (n : Nat) (g : Nat) (w : World) : (method (n + 100) 179 (.pointer (some ⟨g, 0, none⟩)) "Next").run Tryz.prog w = .ok (180, .pointer (some ⟨g, 0, none⟩)) w := by kernel_rfl
theorem method_next_at (g F : Nat) (w : World) (h : 100 ≤ F) : (method F 179 (.pointer (some ⟨g, 0, none⟩)) "Next").run Tryz.prog w = .ok (180, .pointer (some ⟨g, 0, none⟩)) w := by
  obtain ⟨n, rfl⟩ : ∃ n, F = n + 100 := ⟨F - 100, by omega⟩
  exact method_next n g w
theorem method_take (n : Nat) (g : Nat) (w : World) : (method (n + 100) 179 (.pointer (some ⟨g, 0, none⟩)) "Take").run Tryz.prog w = .ok (181, .pointer (some ⟨g, 0, none⟩)) w := by kernel_rfl
theorem method_take_at (g F : Nat) (w : World) (h : 100 ≤ F) : (method F 179 (.pointer (some ⟨g, 0, none⟩)) "Take").run Tryz.prog w = .ok (181, .pointer (some ⟨g, 0, none⟩)) w := by
  obtain ⟨n, rfl⟩ : ∃ n, F = n + 100 := ⟨F - 100, by omega⟩
  exact method_take n g w
end Go.Proofs.YtikcnioooihncaaGreat
namespace Go.Proofs.YtikcnioooihncaaGreat
open Go.RowKit

/-- An event's cells, in block b. -/
structure EvAt (b : Nat) (W : World) (p : Pk) (a : Ac) (x : An) (s1 s2 : Value) : Prop where
  blk : W.heap[b]? = some (.cells #[.int .i64 p.K, .int .i64 p.A, .int .i64 p.N, .int .i64 a.K, .int .i64 a.P, .int .i64 a.N, .int .u64 a.V, .int .u64 a.U, s1, .int .u64 x.V, .bool x.D, s2] 154 (0, 0))

namespace EvAt
variable {b : Nat} {W W' : World} {p : Pk} {a : Ac} {x : An} {s1 s2 : Value}
theorem lt (h : EvAt b W p a x s1 s2) : b < W.heap.size := (Array.getElem?_eq_some_iff.1 h.blk).1
theorem below (h : EvAt b W p a x s1 s2) (hb : Below W.heap.size W W') : EvAt b W' p a x s1 s2 := ⟨(hb.block b h.lt).trans h.blk⟩
theorem of_block (h : EvAt b W p a x s1 s2) (hb : W'.heap[b]? = W.heap[b]?) : EvAt b W' p a x s1 s2 := ⟨hb.trans h.blk⟩
theorem e0 (h : EvAt b W p a x s1 s2) : W.cell? ⟨b, 0, none⟩ = some (.int .i64 p.K) := by simp [World.cell?, h.blk]
theorem e1 (h : EvAt b W p a x s1 s2) : W.cell? ⟨b, 1, none⟩ = some (.int .i64 p.A) := by simp [World.cell?, h.blk]
theorem e2 (h : EvAt b W p a x s1 s2) : W.cell? ⟨b, 2, none⟩ = some (.int .i64 p.N) := by simp [World.cell?, h.blk]
theorem e3 (h : EvAt b W p a x s1 s2) : W.cell? ⟨b, 3, none⟩ = some (.int .i64 a.K) := by simp [World.cell?, h.blk]
theorem e4 (h : EvAt b W p a x s1 s2) : W.cell? ⟨b, 4, none⟩ = some (.int .i64 a.P) := by simp [World.cell?, h.blk]
theorem e5 (h : EvAt b W p a x s1 s2) : W.cell? ⟨b, 5, none⟩ = some (.int .i64 a.N) := by simp [World.cell?, h.blk]
theorem e6 (h : EvAt b W p a x s1 s2) : W.cell? ⟨b, 6, none⟩ = some (.int .u64 a.V) := by simp [World.cell?, h.blk]
theorem e7 (h : EvAt b W p a x s1 s2) : W.cell? ⟨b, 7, none⟩ = some (.int .u64 a.U) := by simp [World.cell?, h.blk]
theorem e8 (h : EvAt b W p a x s1 s2) : W.cell? ⟨b, 8, none⟩ = some s1 := by simp [World.cell?, h.blk]
theorem e9 (h : EvAt b W p a x s1 s2) : W.cell? ⟨b, 9, none⟩ = some (.int .u64 x.V) := by simp [World.cell?, h.blk]
theorem e10 (h : EvAt b W p a x s1 s2) : W.cell? ⟨b, 10, none⟩ = some (.bool x.D) := by simp [World.cell?, h.blk]
theorem e11 (h : EvAt b W p a x s1 s2) : W.cell? ⟨b, 11, none⟩ = some s2 := by simp [World.cell?, h.blk]
theorem free (h : EvAt b W p a x s1 s2) (i : Nat) : W.frozen? ⟨b, i, none⟩ = false := by simp [World.frozen?, h.blk]
theorem set8 (h : EvAt b W p a x s1 s2) (u : Value) : EvAt b (W.setCell ⟨b, 8, none⟩ u) p a x u s2 := ⟨blkS h.blk u⟩
theorem set11 (h : EvAt b W p a x s1 s2) (u : Value) : EvAt b (W.setCell ⟨b, 11, none⟩ u) p a x s1 u := ⟨blkS h.blk u⟩
end EvAt

/-- A new place for an event. -/
abbrev EvNew (b : Nat) (W : World) : Prop := EvAt b W ⟨0, 0, 0⟩ Ac.zero An.zero (.slice none 0 0) (.slice none 0 0)

/-- Twelve cells stored. -/
def twelve (W : World) (b : Nat) (u0 u1 u2 u3 u4 u5 u6 u7 u8 u9 u10 u11 : Value) : World :=
  (((((((((((W.setCell ⟨b, 0, none⟩ u0).setCell ⟨b, 1, none⟩ u1).setCell ⟨b, 2, none⟩ u2).setCell ⟨b, 3, none⟩ u3).setCell ⟨b, 4, none⟩ u4).setCell ⟨b, 5, none⟩ u5).setCell ⟨b, 6, none⟩ u6).setCell ⟨b, 7, none⟩ u7).setCell ⟨b, 8, none⟩ u8).setCell ⟨b, 9, none⟩ u9).setCell ⟨b, 10, none⟩ u10).setCell ⟨b, 11, none⟩ u11

theorem twelve_far (W : World) (b : Nat) (u0 u1 u2 u3 u4 u5 u6 u7 u8 u9 u10 u11 : Value) {k : Nat} (h : k ≠ b) : (twelve W b u0 u1 u2 u3 u4 u5 u6 u7 u8 u9 u10 u11).heap[k]? = W.heap[k]? := by
  unfold twelve
  rw [Below.heap_setCell _ _ _ _ h, Below.heap_setCell _ _ _ _ h, Below.heap_setCell _ _ _ _ h, Below.heap_setCell _ _ _ _ h, Below.heap_setCell _ _ _ _ h, Below.heap_setCell _ _ _ _ h, Below.heap_setCell _ _ _ _ h, Below.heap_setCell _ _ _ _ h, Below.heap_setCell _ _ _ _ h, Below.heap_setCell _ _ _ _ h, Below.heap_setCell _ _ _ _ h, Below.heap_setCell _ _ _ _ h]

theorem twelve_size (W : World) (b : Nat) (u0 u1 u2 u3 u4 u5 u6 u7 u8 u9 u10 u11 : Value) : (twelve W b u0 u1 u2 u3 u4 u5 u6 u7 u8 u9 u10 u11).heap.size = W.heap.size := by
  simp [twelve, World.setCell]

theorem twelve_touch (W : World) (b : Nat) (u0 u1 u2 u3 u4 u5 u6 u7 u8 u9 u10 u11 : Value) : Touch (fun k => k = b) W (twelve W b u0 u1 u2 u3 u4 u5 u6 u7 u8 u9 u10 u11) :=
  ((((((((((((Touch.refl (fun k => k = b) W).setCell (p := ⟨b, 0, none⟩) rfl u0).setCell (p := ⟨b, 1, none⟩) rfl u1).setCell (p := ⟨b, 2, none⟩) rfl u2).setCell (p := ⟨b, 3, none⟩) rfl u3).setCell (p := ⟨b, 4, none⟩) rfl u4).setCell (p := ⟨b, 5, none⟩) rfl u5).setCell (p := ⟨b, 6, none⟩) rfl u6).setCell (p := ⟨b, 7, none⟩) rfl u7).setCell (p := ⟨b, 8, none⟩) rfl u8).setCell (p := ⟨b, 9, none⟩) rfl u9).setCell (p := ⟨b, 10, none⟩) rfl u10).setCell (p := ⟨b, 11, none⟩) rfl u11

theorem twelve_blk {W : World} {b : Nat} {cs : Array Value} {t : TypeId} (h : W.heap[b]? = some (.cells cs t (0, 0))) (hs : cs.size = 12) (u0 u1 u2 u3 u4 u5 u6 u7 u8 u9 u10 u11 : Value) :
    (twelve W b u0 u1 u2 u3 u4 u5 u6 u7 u8 u9 u10 u11).heap[b]? = some (.cells #[u0, u1, u2, u3, u4, u5, u6, u7, u8, u9, u10, u11] t (0, 0)) := by
  match cs, hs with
  | ⟨[v0, v1, v2, v3, v4, v5, v6, v7, v8, v9, v10, v11]⟩, _ => simp [twelve, World.setCell, Array.getElem?_modify, h]

/-- A copy of an event: its bytes lie in new memory. -/
def CopyTold (p : Pk) (a : Ac) (x : An) (w : World) (e : Ending) (w' : World) : Prop :=
  ∃ A1 l1 c1 A2 l2 c2, e = .returned (.agg #[.int .i64 p.K, .int .i64 p.A, .int .i64 p.N, .int .i64 a.K, .int .i64 a.P, .int .i64 a.N, .int .u64 a.V, .int .u64 a.U, .slice A1 l1 c1, .int .u64 x.V, .bool x.D, .slice A2 l2 c2]) ∧ Owns w.heap.size w' (.slice A1 l1 c1) a.bs ∧ Owns w.heap.size w' (.slice A2 l2 c2) x.bs ∧ Below w.heap.size w w'

set_option maxRecDepth 100000 in
set_option maxHeartbeats 1000000 in
theorem copied_any (p : Pk) (a : Ac) (x : An) (A1 A2 : Option Addr) (l1 l2 c1 c2 : Nat) (w : World) (h1 : BytesAt w (.slice A1 l1 c1) a.bs) (h2 : BytesAt w (.slice A2 l2 c2) x.bs) (hl1 : a.bs.length ≤ 1073741824) (hl2 : x.bs.length ≤ 1073741824) :
    Calls Tryz.prog 115 #[.agg #[.int .i64 p.K, .int .i64 p.A, .int .i64 p.N, .int .i64 a.K, .int .i64 a.P, .int .i64 a.N, .int .u64 a.V, .int .u64 a.U, .slice A1 l1 c1, .int .u64 x.V, .bool x.D, .slice A2 l2 c2]] w (CopyTold p a x w) := by
  have e1 : a.bs.length = l1 := by obtain ⟨_, _, e, _⟩ := h1; injection e with _ e _; exact e.symm
  have e2 : x.bs.length = l2 := by obtain ⟨_, _, e, _⟩ := h2; injection e with _ e _; exact e.symm
  have HW := ((Below.refl w.heap.size w).alloc (Nat.le_refl _) (.cells #[.int .i64 p.K, .int .i64 p.A, .int .i64 p.N, .int .i64 a.K, .int .i64 a.P, .int .i64 a.N, .int .u64 a.V, .int .u64 a.U, .slice A1 l1 c1, .int .u64 x.V, .bool x.D, .slice A2 l2 c2] 154)).alloc (by simp) (.cells #[.int .i64 0, .int .i64 0, .int .i64 0, .int .i64 0, .int .i64 0, .int .i64 0, .int .u64 0, .int .u64 0, .slice none 0 0, .int .u64 0, .bool false, .slice none 0 0] 154)
  have hX : EvAt w.heap.size _ p a x (.slice A1 l1 c1) (.slice A2 l2 c2) := ⟨(Below.heap_alloc _ (.cells #[.int .i64 0, .int .i64 0, .int .i64 0, .int .i64 0, .int .i64 0, .int .i64 0, .int .u64 0, .int .u64 0, .slice none 0 0, .int .u64 0, .bool false, .slice none 0 0] 154) w.heap.size (by simp)).trans (Go.Deep.blk_alloc_new w (.cells #[.int .i64 p.K, .int .i64 p.A, .int .i64 p.N, .int .i64 a.K, .int .i64 a.P, .int .i64 a.N, .int .u64 a.V, .int .u64 a.U, .slice A1 l1 c1, .int .u64 x.V, .bool x.D, .slice A2 l2 c2] 154))⟩
  have hR := Go.Deep.blk_alloc_new (w.alloc (.cells #[.int .i64 p.K, .int .i64 p.A, .int .i64 p.N, .int .i64 a.K, .int .i64 a.P, .int .i64 a.N, .int .u64 a.V, .int .u64 a.U, .slice A1 l1 c1, .int .u64 x.V, .bool x.D, .slice A2 l2 c2] 154)) (.cells #[.int .i64 0, .int .i64 0, .int .i64 0, .int .i64 0, .int .i64 0, .int .i64 0, .int .u64 0, .int .u64 0, .slice none 0 0, .int .u64 0, .bool false, .slice none 0 0] 154)
  have e3 : (w.alloc (.cells #[.int .i64 p.K, .int .i64 p.A, .int .i64 p.N, .int .i64 a.K, .int .i64 a.P, .int .i64 a.N, .int .u64 a.V, .int .u64 a.U, .slice A1 l1 c1, .int .u64 x.V, .bool x.D, .slice A2 l2 c2] 154)).heap.size = w.heap.size + 1 := by simp
  rw [e3] at hR
  have HB1 := Lib.hid (h1.below HW)
  have HB2 := Lib.hid h2
  clear h1 h2 e3
  go_enter Tryz.func115, Tryz.ntmps115
  go_wp2_with fail
  generalize (w.alloc (.cells #[.int .i64 p.K, .int .i64 p.A, .int .i64 p.N, .int .i64 a.K, .int .i64 a.P, .int .i64 a.N, .int .u64 a.V, .int .u64 a.U, .slice A1 l1 c1, .int .u64 x.V, .bool x.D, .slice A2 l2 c2] 154)).alloc (.cells #[.int .i64 0, .int .i64 0, .int .i64 0, .int .i64 0, .int .i64 0, .int .i64 0, .int .u64 0, .int .u64 0, .slice none 0 0, .int .u64 0, .bool false, .slice none 0 0] 154) = W at HW hX hR HB1 ⊢
  have hc8 := hX.e8
  refine (clone_sl A1 l1 c1 a.bs W HB1.out (by omega)).mono ?_
  rintro e w1 ⟨B1, d1, rfl, ho1, hb1⟩
  have hX1 := hX.below hb1
  have hR1 := (hb1.block (w.heap.size + 1) (Array.getElem?_eq_some_iff.1 hR).1).trans hR
  have hz8 := hX1.free 8
  have hc8' := hX1.e8
  have hc11 := hX1.e11
  have hW1 := HW.trans (hb1.mono HW.size)
  have HW2 := hW1.setCell (p := ⟨w.heap.size, 8, none⟩) (Nat.le_refl _) (.slice B1 l1 d1)
  have hX2 := hX1.set8 (.slice B1 l1 d1)
  have hR2 := blkF (i := 8) (g' := w.heap.size) hR1 (by omega) (.slice B1 l1 d1)
  have hlW := (Array.getElem?_eq_some_iff.1 hR).1
  have HO1 := Lib.hid (ho1.setCell (p := ⟨w.heap.size, 8, none⟩) (by show w.heap.size < W.heap.size; omega) (.slice B1 l1 d1))
  have HK := Lib.hid (And.intro hX2 hR2)
  clear hX hR hR1 ho1
  go_wp2_with fail
  generalize w1.setCell ⟨w.heap.size, 8, none⟩ (.slice B1 l1 d1) = W2 at HW2 hX2 hR2 HO1 HK ⊢
  have hlW1 := hb1.size
  have hl2s := (Array.getElem?_eq_some_iff.1 hR2).1
  refine (clone_sl A2 l2 c2 x.bs W2 (HB2.out.below HW2) (by omega)).mono ?_
  rintro e w2 ⟨B2, d2, rfl, ho2, hb2⟩
  have hX3 := hX2.below hb2
  have hR3 := (hb2.block (w.heap.size + 1) hl2s).trans hR2
  have hz11 := hX3.free 11
  have hc11' := hX3.e11
  have HW3 := (HW2.trans (hb2.mono HW2.size)).setCell (p := ⟨w.heap.size, 11, none⟩) (Nat.le_refl _) (.slice B2 l2 d2)
  have hX4 := hX3.set11 (.slice B2 l2 d2)
  have hR4 := blkF (i := 11) (g' := w.heap.size) hR3 (by omega) (.slice B2 l2 d2)
  have HO3 := Lib.hid ((HO1.out.below hb2).setCell (p := ⟨w.heap.size, 11, none⟩) (by show w.heap.size < W.heap.size; omega) (.slice B2 l2 d2))
  have HO4 := Lib.hid (ho2.setCell (p := ⟨w.heap.size, 11, none⟩) (by show w.heap.size < W2.heap.size; omega) (.slice B2 l2 d2))
  have a0 := hX3.e0
  have a1 := hX3.e1
  have a2 := hX3.e2
  have a3 := hX3.e3
  have a4 := hX3.e4
  have a5 := hX3.e5
  have a6 := hX3.e6
  have a7 := hX3.e7
  have a8 := hX3.e8
  have a9 := hX3.e9
  have a10 := hX3.e10
  have r0 : w2.cell? ⟨w.heap.size + 1, 0, none⟩ = some (.int .i64 0) := by simp [World.cell?, hR3]
  have r1 : w2.cell? ⟨w.heap.size + 1, 1, none⟩ = some (.int .i64 0) := by simp [World.cell?, hR3]
  have r2 : w2.cell? ⟨w.heap.size + 1, 2, none⟩ = some (.int .i64 0) := by simp [World.cell?, hR3]
  have r3 : w2.cell? ⟨w.heap.size + 1, 3, none⟩ = some (.int .i64 0) := by simp [World.cell?, hR3]
  have r4 : w2.cell? ⟨w.heap.size + 1, 4, none⟩ = some (.int .i64 0) := by simp [World.cell?, hR3]
  have r5 : w2.cell? ⟨w.heap.size + 1, 5, none⟩ = some (.int .i64 0) := by simp [World.cell?, hR3]
  have r6 : w2.cell? ⟨w.heap.size + 1, 6, none⟩ = some (.int .u64 0) := by simp [World.cell?, hR3]
  have r7 : w2.cell? ⟨w.heap.size + 1, 7, none⟩ = some (.int .u64 0) := by simp [World.cell?, hR3]
  have r8 : w2.cell? ⟨w.heap.size + 1, 8, none⟩ = some (.slice none 0 0) := by simp [World.cell?, hR3]
  have r9 : w2.cell? ⟨w.heap.size + 1, 9, none⟩ = some (.int .u64 0) := by simp [World.cell?, hR3]
  have r10 : w2.cell? ⟨w.heap.size + 1, 10, none⟩ = some (.bool false) := by simp [World.cell?, hR3]
  have r11 : w2.cell? ⟨w.heap.size + 1, 11, none⟩ = some (.slice none 0 0) := by simp [World.cell?, hR3]
  have f0 : w2.frozen? ⟨w.heap.size + 1, 0, none⟩ = false := by simp [World.frozen?, hR3]
  have f1 : w2.frozen? ⟨w.heap.size + 1, 1, none⟩ = false := by simp [World.frozen?, hR3]
  have f2 : w2.frozen? ⟨w.heap.size + 1, 2, none⟩ = false := by simp [World.frozen?, hR3]
  have f3 : w2.frozen? ⟨w.heap.size + 1, 3, none⟩ = false := by simp [World.frozen?, hR3]
  have f4 : w2.frozen? ⟨w.heap.size + 1, 4, none⟩ = false := by simp [World.frozen?, hR3]
  have f5 : w2.frozen? ⟨w.heap.size + 1, 5, none⟩ = false := by simp [World.frozen?, hR3]
  have f6 : w2.frozen? ⟨w.heap.size + 1, 6, none⟩ = false := by simp [World.frozen?, hR3]
  have f7 : w2.frozen? ⟨w.heap.size + 1, 7, none⟩ = false := by simp [World.frozen?, hR3]
  have f8 : w2.frozen? ⟨w.heap.size + 1, 8, none⟩ = false := by simp [World.frozen?, hR3]
  have f9 : w2.frozen? ⟨w.heap.size + 1, 9, none⟩ = false := by simp [World.frozen?, hR3]
  have f10 : w2.frozen? ⟨w.heap.size + 1, 10, none⟩ = false := by simp [World.frozen?, hR3]
  have f11 : w2.frozen? ⟨w.heap.size + 1, 11, none⟩ = false := by simp [World.frozen?, hR3]
  clear hX2 hR2 hX3 hR3 hc8 hc11 ho2 hc8'
  go_wp2
  refine bodyPost_ret (v := .agg #[.int .i64 p.K, .int .i64 p.A, .int .i64 p.N, .int .i64 a.K, .int .i64 a.P, .int .i64 a.N, .int .u64 a.V, .int .u64 a.U, .slice B1 l1 d1, .int .u64 x.V, .bool x.D, .slice B2 l2 d2]) (by simp [results, Tryz.results115, go_sem, r0, r1, r2, r3, r4, r5, r6, r7, r8, r9, r10, r11]) rfl ?_
  have hR5 : (w2.setCell ⟨w.heap.size, 11, none⟩ (.slice B2 l2 d2)).heap.size = w2.heap.size := by simp [World.setCell]
  have hne : ∀ k, w.heap.size + 1 + 1 ≤ k → k ≠ w.heap.size + 1 := fun k hk => by omega
  have hs2 := hb2.size
  refine ⟨B1, l1, d1, B2, l2, d2, rfl, ?_, ?_, ?_⟩
  · exact ((HO3.out.of_block fun k hk => twelve_far _ _ _ _ _ _ _ _ _ _ _ _ _ _ (hne k (by have := (HO3.out.ge hk).1; omega)))).down (by omega)
  · exact ((HO4.out.of_block fun k hk => twelve_far _ _ _ _ _ _ _ _ _ _ _ _ _ _ (hne k (by have := (HO4.out.ge hk).1; omega)))).down (by omega)
  · exact (twelve_touch _ _ _ _ _ _ _ _ _ _ _ _ _ _).below HW3 (by omega) (fun k hk => by omega)
end Go.Proofs.YtikcnioooihncaaGreat
namespace Go.Proofs.YtikcnioooihncaaGreat
namespace Wd
open Go

/-- Is the number a power of two that an int64 holds? -/
def isP (n : Int) : Bool := (List.range 63).any fun k => n == 2 ^ k
def lg (n : Int) : Int := if isP n = true then (n.toNat.log2 : Int) else 0
def mk (n tz : Int) : Int := if isP tz = true then n % tz else 0
def alOk (n tz : Int) : Bool := isP tz && (decide (0 ≤ n) && decide (n ≤ 4611686018427387904))
def al (n tz : Int) : Int := if alOk n tz = true then (n + tz - 1) / tz * tz else 0

theorem isP_iff (n : Int) : isP n = true ↔ ∃ k : Nat, k < 63 ∧ n = 2 ^ k := by
  unfold isP
  simp [List.any_eq_true]

theorem isP_pow (k : Nat) (hk : k < 63) : isP (2 ^ k) = true := (isP_iff _).2 ⟨k, hk, rfl⟩

theorem pow_cast (k : Nat) : ((2 : Int) ^ k) = ((2 ^ k : Nat) : Int) := by simp

theorem pow_bounds (k : Nat) (hk : k < 63) : (1 : Int) ≤ 2 ^ k ∧ (2 : Int) ^ k ≤ 4611686018427387904 := by
  have h1 : 2 ^ k ≤ 2 ^ 62 := Nat.pow_le_pow_right (by decide) (by omega)
  have h2 : 0 < 2 ^ k := Nat.two_pow_pos k
  rw [pow_cast]
  omega

theorem lg_pow (k : Nat) (hk : k < 63) : lg (2 ^ k) = k := by
  unfold lg
  rw [if_pos (isP_pow k hk), pow_cast, Int.toNat_natCast, Nat.log2_two_pow]

theorem isP_bounds {n : Int} (h : isP n = true) : 1 ≤ n ∧ n ≤ 4611686018427387904 := by
  obtain ⟨k, hk, rfl⟩ := (isP_iff n).1 h
  exact pow_bounds k hk

theorem ofInt64_toNat (n : Int) : ((BitVec.ofInt 64 n).toNat : Int) = n % 18446744073709551616 := by
  rw [BitVec.toNat_ofInt]
  have : (0 : Int) ≤ n % ((2 ^ 64 : Nat) : Int) := Int.emod_nonneg _ (by decide)
  rw [Int.toNat_of_nonneg this]
  rfl

theorem ofInt64_nat (a : Nat) (ha : a < 18446744073709551616) : (BitVec.ofInt 64 (a : Int)).toNat = a := by
  rw [BitVec.ofInt_natCast, BitVec.toNat_ofNat]; exact Nat.mod_eq_of_lt (by omega)

theorem and_i64_nat (a b : Nat) (ha : a < 9223372036854775808) (hb : b < 9223372036854775808) : bits .and .i64 (a : Int) (b : Int) = ((a &&& b : Nat) : Int) := by
  have hx : a &&& b < 2 ^ 63 := Nat.and_lt_two_pow _ (by omega)
  show IntKind.i64.wrap ((BitVec.ofInt 64 (a : Int) &&& BitVec.ofInt 64 (b : Int)).toNat : Int) = _
  rw [BitVec.toNat_and, ofInt64_nat a (by omega), ofInt64_nat b (by omega), IntKind.wrap_i64]
  omega

/-- n & (n − 1) is 0 just at powers. -/
theorem and_pred (n : Int) (h0 : 0 < n) (h1 : n ≤ 9223372036854775807) : (bits BinOp.and IntKind.i64 n (n - 1) == 0) = isP n := by
  obtain ⟨a, rfl⟩ := Int.eq_ofNat_of_zero_le (by omega : 0 ≤ n)
  have e : ((a : Int) - 1) = ((a - 1 : Nat) : Int) := by omega
  rw [e, and_i64_nat a (a - 1) (by omega) (by omega), Bool.eq_iff_iff, isP_iff]
  have ha : a ≠ 0 := by omega
  have hb : ((((a &&& a - 1 : Nat) : Int) == 0) = true) ↔ (a &&& a - 1 = 0) := by simp
  rw [hb, Nat.and_sub_one_eq_zero_iff_isPowerOfTwo ha]
  constructor
  · rintro ⟨k, hk⟩
    refine ⟨k, ?_, by rw [hk, pow_cast]⟩
    have : 2 ^ k < 2 ^ 63 := by rw [← hk]; omega
    exact (Nat.pow_lt_pow_iff_right (by decide)).1 this
  · rintro ⟨k, _, hk⟩
    refine ⟨k, ?_⟩
    rw [pow_cast] at hk
    exact_mod_cast hk

/-- n & (2^k − 1) is what is left of n. -/
theorem and_mask (n tz : Int) (h : isP tz = true) : bits BinOp.and IntKind.i64 n (tz - 1) = n % tz := by
  obtain ⟨k, hk, rfl⟩ := (isP_iff tz).1 h
  have hb := pow_bounds k hk
  have hp : 0 < 2 ^ k := Nat.two_pow_pos k
  have e : ((2 : Int) ^ k - 1) = ((2 ^ k - 1 : Nat) : Int) := by rw [pow_cast]; omega
  have hlt : (2 ^ k - 1 : Nat) < 18446744073709551616 := by rw [pow_cast] at hb; omega
  show IntKind.i64.wrap ((BitVec.ofInt 64 n &&& BitVec.ofInt 64 ((2 : Int) ^ k - 1)).toNat : Int) = _
  rw [BitVec.toNat_and, e, ofInt64_nat _ hlt, Nat.and_two_pow_sub_one_eq_mod, Int.natCast_emod, ofInt64_toNat, ← pow_cast,
    Int.emod_emod_of_dvd n (by
      have h64 : (18446744073709551616 : Int) = 2 ^ k * 2 ^ (64 - k) := by
        rw [← Int.pow_add, show k + (64 - k) = 64 by omega]; decide
      rw [h64]; exact Int.dvd_mul_right _ _)]
  have := Int.emod_nonneg n (by omega : (2 : Int) ^ k ≠ 0)
  have := Int.emod_lt_of_pos n (by omega : (0 : Int) < 2 ^ k)
  exact IntWalk.i64_in _ (by omega)

theorem nat_andNot (m k : Nat) (hk : k < 63) (hm : m < 18446744073709551616) : m &&& (18446744073709551615 - (2 ^ k - 1)) = m / 2 ^ k * 2 ^ k := by
  have hp : 0 < 2 ^ k := Nat.two_pow_pos k
  have hle : 2 ^ k ≤ 2 ^ 62 := Nat.pow_le_pow_right (by decide) (by omega)
  have e : 18446744073709551615 - (2 ^ k - 1) = 2 ^ 64 - ((2 ^ k - 1) + 1) := by omega
  rw [e]
  apply Nat.eq_of_testBit_eq
  intro i
  rw [Nat.testBit_and, Nat.testBit_two_pow_sub_succ (by omega), Nat.testBit_two_pow_sub_one, Nat.testBit_mul_two_pow, Nat.testBit_div_two_pow]
  by_cases h64 : i < 64
  · by_cases hki : k ≤ i
    · have : ¬ i < k := by omega
      simp [h64, hki, this]
    · have : i < k := by omega
      simp [h64, hki, this]
  · have hz : m.testBit i = false := Nat.testBit_lt_two_pow (Nat.lt_of_lt_of_le hm (by
      have : 2 ^ 64 ≤ 2 ^ i := Nat.pow_le_pow_right (by decide) (by omega)
      omega))
    by_cases hki : k ≤ i
    · simp [h64, hki, hz]
    · simp [h64, hki]

/-- m &^ (2^k − 1) is the multiple below. -/
theorem andNot_mask (m tz : Int) (h : isP tz = true) (h0 : 0 ≤ m) (h1 : m ≤ 9223372036854775807) : bits BinOp.andNot IntKind.i64 m (tz - 1) = m / tz * tz := by
  obtain ⟨k, hk, rfl⟩ := (isP_iff tz).1 h
  obtain ⟨a, rfl⟩ := Int.eq_ofNat_of_zero_le h0
  have hb := pow_bounds k hk
  have hp : 0 < 2 ^ k := Nat.two_pow_pos k
  have e : ((2 : Int) ^ k - 1) = ((2 ^ k - 1 : Nat) : Int) := by rw [pow_cast]; omega
  have hlt : (2 ^ k - 1 : Nat) < 18446744073709551616 := by rw [pow_cast] at hb; omega
  show IntKind.i64.wrap ((BitVec.ofInt 64 (a : Int) &&& ~~~ BitVec.ofInt 64 ((2 : Int) ^ k - 1)).toNat : Int) = _
  rw [BitVec.toNat_and, BitVec.toNat_not, e, ofInt64_nat _ hlt, ofInt64_nat a (by omega)]
  have e2 : 2 ^ 64 - 1 - (2 ^ k - 1) = 18446744073709551615 - (2 ^ k - 1) := by omega
  rw [e2, nat_andNot a k hk (by omega), Int.natCast_mul, Int.natCast_ediv, ← pow_cast]
  have h2 : (a : Int) / 2 ^ k * 2 ^ k ≤ a := Int.ediv_mul_le _ (by omega)
  have h3 : 0 ≤ (a : Int) / 2 ^ k * 2 ^ k := Int.mul_nonneg (Int.ediv_nonneg (by omega) (by omega)) (by omega)
  exact IntWalk.i64_in _ (by omega)

/-- Go's remainder, raised where it is below 0, is what is left. -/
theorem tmod_mask (n tz : Int) (h : 0 < tz) : n % tz = if n.tmod tz < 0 then n.tmod tz + tz else n.tmod tz := by
  rw [Int.tmod_eq_emod]
  have h1 := Int.emod_nonneg n (by omega : tz ≠ 0)
  have h2 := Int.emod_lt_of_pos n h
  have e : (tz.natAbs : Int) = tz := by omega
  by_cases hc : 0 ≤ n ∨ tz ∣ n
  · rw [if_pos hc, if_neg (by omega)]
    omega
  · have h0 : n % tz ≠ 0 := fun h0 => hc (.inr (Int.dvd_of_emod_eq_zero h0))
    rw [if_neg hc, e, if_pos (by omega)]
    omega

/-- The next multiple by division: n itself if nothing is left, else one more multiple, which is at most 2^62. -/
theorem up_cases (n tz : Int) (h : isP tz = true) (h0 : 0 ≤ n) (h1 : n ≤ 4611686018427387904) :
    (0 ≤ n / tz ∧ n / tz ≤ n) ∧ (n % tz = 0 → (n + tz - 1) / tz * tz = n) ∧ (n % tz ≠ 0 → (n + tz - 1) / tz * tz = (n / tz + 1) * tz) ∧ (n % tz ≠ 0 → n / tz + 1 ≤ 4611686018427387904 / tz ∧ (n / tz + 1) * tz ≤ 4611686018427387904) := by
  have hb := isP_bounds h
  have hn := Int.emod_nonneg n (by omega : tz ≠ 0)
  have hl := Int.emod_lt_of_pos n (by omega : 0 < tz)
  have hd := Int.mul_ediv_add_emod n tz
  have hq : 0 ≤ n / tz := Int.ediv_nonneg h0 (by omega)
  have hle : n / tz ≤ n := by
    have := Int.ediv_le_self tz h0
    exact this
  have e0 : n + tz - 1 = (n % tz + tz - 1) + tz * (n / tz) := by omega
  have es : (n + tz - 1) / tz = (n % tz + tz - 1) / tz + n / tz := by rw [e0, Int.add_mul_ediv_left _ _ (by omega)]
  refine ⟨⟨hq, hle⟩, fun hz => ?_, fun hz => ?_, fun hz => ?_⟩
  · have e1 : (n % tz + tz - 1) / tz = 0 := Int.ediv_eq_zero_of_lt (by omega) (by omega)
    rw [es, e1, Int.zero_add, Int.mul_comm]
    omega
  · have e1 : (n % tz + tz - 1) / tz = 1 := by
      have : n % tz + tz - 1 = (n % tz - 1) + tz * 1 := by omega
      rw [this, Int.add_mul_ediv_left _ _ (by omega), Int.ediv_eq_zero_of_lt (by omega) (by omega)]
      rfl
    rw [es, e1, Int.add_comm 1]
  · obtain ⟨k, hk, rfl⟩ := (isP_iff tz).1 h
    have hs : (4611686018427387904 : Int) = 2 ^ k * 2 ^ (62 - k) := by
      rw [← Int.pow_add, show k + (62 - k) = 62 by omega]; decide
    have hdiv : (4611686018427387904 : Int) / 2 ^ k = 2 ^ (62 - k) := by
      rw [hs]; exact Int.mul_ediv_cancel_left _ (by omega)
    rw [hdiv]
    have hlt : n / 2 ^ k < 2 ^ (62 - k) := by
      apply Int.ediv_lt_of_lt_mul (by omega)
      rw [Int.mul_comm, ← hs]
      have : n ≠ 4611686018427387904 := by
        intro e
        apply hz
        rw [e, hs]
        exact Int.mul_emod_right _ _
      omega
    refine ⟨by omega, ?_⟩
    have h2 : (n / 2 ^ k + 1) * 2 ^ k ≤ 2 ^ (62 - k) * 2 ^ k := Int.mul_le_mul_of_nonneg_right (by omega) (by omega)
    rw [Int.mul_comm (2 ^ (62 - k))] at h2
    rw [← hs] at h2
    exact h2

/-- A power of two has as many zeros below its bit as its exponent tells. -/
theorem ctz_pow (k : Nat) (hk : k < 63) : Lib.ctz 64 (2 ^ k) = k := by
  have hp : 0 < 2 ^ k := Nat.two_pow_pos k
  have hl : 2 ^ k ≤ 2 ^ 62 := Nat.pow_le_pow_right (by decide) (by omega)
  obtain ⟨m, hm, _⟩ := Lib.ctzFrom_spec 64 (2 ^ k) hp (by omega)
  have e : Lib.ctz 64 (2 ^ k) = Lib.ctzFrom 64 (2 ^ k) := by unfold Lib.ctz; rw [if_neg (by omega)]
  rw [e]
  generalize Lib.ctzFrom 64 (2 ^ k) = c at hm
  have hck : c ≤ k := by
    have : 2 ^ c ≤ 2 ^ k := by rw [hm]; exact Nat.le_mul_of_pos_right _ (by omega)
    exact (Nat.pow_le_pow_iff_right (by decide)).1 this
  have hs : 2 ^ k = 2 ^ c * 2 ^ (k - c) := by rw [← Nat.pow_add]; congr 1; omega
  rw [hs] at hm
  have h2 := Nat.eq_of_mul_eq_mul_left (Nat.two_pow_pos c) hm
  by_cases hz : k - c = 0
  · omega
  · have : 2 ^ (k - c) = 2 * 2 ^ (k - c - 1) := by rw [← Nat.pow_succ']; congr 1; omega
    omega

end Wd
end Go.Proofs.YtikcnioooihncaaGreat
namespace Go.Proofs.YtikcnioooihncaaGreat
open Go.RowKit

theorem ret_i64 {a b : Int} (h : b = a) : Ending.returned (.int .i64 a) = .returned (.int .i64 b) := by rw [h]
theorem ret_tup {a b c d : Int} (h : c = a) (h' : d = b) : Ending.returned (.tuple #[.int .i64 a, .int .i64 b]) = .returned (.tuple #[.int .i64 c, .int .i64 d]) := by rw [h, h']

set_option maxHeartbeats 400000 in
theorem isPower_any (n : Int) (w : World) (h1 : n ≤ 9223372036854775807) (h0 : -9223372036854775808 ≤ n) :
    Calls Tryz.prog 51 #[.int .i64 n] w fun e w' => e = .returned (.bool (Wd.isP n)) ∧ w = w' := by
  by_cases hn : 0 < n
  · have H := Lib.hid (Wd.and_pred n hn h1)
    go_enter Tryz.func51, Tryz.ntmps51
    go_wp2
    go_ret
    exact ⟨by rw [← H.out]; rfl, rfl⟩
  · have H : Hid (Wd.isP n = false) := by
      cases e : Wd.isP n with
      | false => exact rfl
      | true => exact absurd (Wd.isP_bounds e).1 (by omega)
    go_enter Tryz.func51, Tryz.ntmps51
    go_wp2
    go_ret
    exact ⟨by rw [H.out]; rfl, rfl⟩
end Go.Proofs.YtikcnioooihncaaGreat
namespace Go.Proofs.YtikcnioooihncaaGreat
open Go.RowKit

set_option maxHeartbeats 400000 in
theorem mask_any (n tz : Int) (w : World) (h1 : tz ≤ 9223372036854775807) (h0 : -9223372036854775808 ≤ tz) :
    Calls Tryz.prog 138 #[.int .i64 n, .int .i64 tz] w fun e w' => e = .returned (.int .i64 (Wd.mk n tz)) ∧ w = w' := by
  cases hp : Wd.isP tz with
  | true =>
    have hb := Wd.isP_bounds hp
    have hm := Wd.and_mask n tz hp
    have e : Wd.mk n tz = n % tz := by unfold Wd.mk; rw [if_pos hp]
    have HP := Lib.hid hp
    have HM := Lib.hid (e.trans hm.symm)
    clear hp hm e
    go_enter Tryz.func138, Tryz.ntmps138
    go_wp2_with (go_at_call 51; refine (isPower_any _ _ (by omega) (by omega)).mono ?_; rintro e w' ⟨rfl, rfl⟩; rw [HP.out])
    go_ret
    exact ⟨by rw [HM.out]; rfl, rfl⟩
  | false =>
    have e : Wd.mk n tz = 0 := by unfold Wd.mk; rw [hp]; rfl
    have HP := Lib.hid hp
    have HE := Lib.hid e
    clear hp e
    go_enter Tryz.func138, Tryz.ntmps138
    go_wp2_with (go_at_call 51; refine (isPower_any _ _ (by omega) (by omega)).mono ?_; rintro e w' ⟨rfl, rfl⟩; rw [HP.out])
    go_ret
    exact ⟨by rw [HE.out]; rfl, rfl⟩

end Go.Proofs.YtikcnioooihncaaGreat
namespace Go.Proofs.YtikcnioooihncaaGreat
open Go.ChangeShapes Go.WideShapes Go.ChangeAt Go.RowKit

theorem own : ownKnob Tryz.prog.godebug = none := by kernel_rfl
theorem laidOut : laidOutB Tryz.prog = true := by kernel_rfl

/-- What an int64 argument's width says. -/
theorem i64_wide {n : Int} (h : (Lit.int .i64 n).wf = true) : -9223372036854775808 ≤ n ∧ n ≤ 9223372036854775807 := by
  simp only [Lit.wf, Bool.and_eq_true, decide_eq_true_eq] at h
  have e1 : IntKind.i64.min = -9223372036854775808 := by decide
  have e2 : IntKind.i64.max = 9223372036854775807 := by decide
  rw [e1, e2] at h
  exact h
theorem u64_wide {n : Int} (h : (Lit.int .u64 n).wf = true) : 0 ≤ n ∧ n ≤ 18446744073709551615 := by
  simp only [Lit.wf, Bool.and_eq_true, decide_eq_true_eq] at h
  have e1 : IntKind.u64.min = 0 := by decide
  have e2 : IntKind.u64.max = 18446744073709551615 := by decide
  rw [e1, e2] at h
  exact h

theorem noStandIn {P : Program} {ts : Array TypeId} {t : TypeId} (h : (ts.toList.all fun u => !P.wantsStandIn u) = true) (ht : t ∈ ts) : P.wantsStandIn t = false := by
  simpa using List.all_eq_true.1 h t (by simpa using ht)

section
variable {H : Type} {enc : TypeId × Value → H} {P : Program}

/-- Arguments that lie below the heap's old size read on as they read. -/
theorem trodAll_below (hl : laidOutB P = true) {W W' : World} (hb : Below W.heap.size W W') :
    ∀ {ts : List TypeId} {vs : List Value} {ds : List (DataW H)} {ps : List MemPlace}, (∀ t ∈ ts, P.readableRec t = true ∧ t < P.types.size) → (∀ x ∈ ps, x.block < W.heap.size) →
      DataW.TrodAll enc P W 0 (fun _ => true) true ts vs ds ps → DataW.TrodAll enc P W' 0 (fun b => decide (b < W.heap.size)) true ts vs ds ps
  | [], [], [], _, _, _, h => h
  | t :: ts, v :: vs, d :: ds, ps, ht, hp, h => by
    obtain ⟨p, q, h1, h2, rfl⟩ := h
    have hh := ht t (List.mem_cons_self ..)
    exact ⟨p, q, Below.trod hl hh.1 hh.2 h1 hb fun x hx => hp x (List.mem_append_left _ hx),
      trodAll_below hl hb (fun u hu => ht u (List.mem_cons_of_mem _ hu)) (fun x hx => hp x (List.mem_append_right _ hx)) h2, rfl⟩
  | [], [], _ :: _, _, _, _, h => h.elim
  | [], _ :: _, _, _, _, _, h => h.elim
  | _ :: _, [], _, _, _, _, h => h.elim
  | _ :: _, _ :: _, [], _, _, _, h => h.elim

theorem law_post {f : Func} {s : ChangeSpec} {tb : TypeId} (hl : laidOutB P = true) (hps : (f.params.toList.all fun t => P.readableRec t && decide (t < P.types.size)) = true)
    (hrt : f.resultTypes = #[tb]) (htb : P.underlying tb = some .bool) (hv : s.vars = []) {W W' : World} {args : Array Value} {ds : List (DataW H)} {before : List MemPlace}
    (hW : DataW.Whole enc P f.params.toList s.vars false W args.toList ds [] before)
    (hfn : s.fn H (ds ++ []) = { results := [.lit (.bool true)], args := ds }) (hb : Below W.heap.size W W') :
    s.post enc P f false true false false W args (.bool true) W' := by
  have hlt : ∀ p ∈ before, p.block < W.heap.size := fun p hp => hW.lt p hp
  have hW2 := hW
  obtain ⟨p, q, hA, hV, rfl, _, _⟩ := hW
  rw [hv] at hV
  have hq : q = [] := hV
  subst hq
  refine ⟨ds, [], p ++ [], [], p, [], hW2, ?_, ?_, ?_, World.keptBut_mono (fun x hx => ⟨hx, .inr (.inl (by simpa using hx))⟩) (hb.frame (· ∈ p ++ [])), fun h => by cases h⟩
  · rw [hfn, hrt]
    exact trodAll_mk1 (shut_bool htb true)
  · rw [hfn]
    refine trodAll_below hl hb (fun t ht => ?_) (fun x hx => hlt x (by simpa using hx)) hA
    have := List.all_eq_true.1 hps t ht
    simpa using this
  · rw [hfn, hv]
    rfl
end
end Go.Proofs.YtikcnioooihncaaGreat
namespace Go.Proofs.YtikcnioooihncaaGreat
open Go.ChangeShapes Go.WideShapes Go.ChangeAt Go.RowKit Go.Deep

theorem cellsU8 : Tryz.prog.cellsOf 5 = 1 := by kernel_rfl
theorem accessOne : Tryz.prog.cellsOf 30 = 6 := by kernel_rfl

/-- The bytes of a list, as numbers that stand everywhere. -/
def nums (zs : List Int) (i : Nat) : Nat := (zs.getD i 0).toNat % 256

theorem nums_isB (zs : List Int) : Mb.IsB (nums zs) := fun _ => Nat.mod_lt _ (by decide)

theorem bytes_cell {H : Type} {enc : TypeId × Value → H} {W : World} {fuel : Nat} {cs : List Value} {x : DataW H × List MemPlace}
    (h : DataW.trod enc Tryz.prog W 0 (fun _ => true) true fuel 23 cs = some x) :
    ∃ A L cap f, cs = [.slice A L cap] ∧ Mb.IsB f ∧ BytesAt W (.slice A L cap) (Mb.bl f 0 L) ∧ L ≤ cap ∧ cap ≤ 9223372036854775807 := by
  rcases open_ints Tryz.underlying23 Tryz.underlying5 cellsU8 h with ⟨hcs, _⟩ | ⟨a, len, cap, zs, hcs, _, hl, hm, hz, _, hcell, hwz⟩
  · exact ⟨none, 0, 0, fun _ => 0, hcs, Mb.zero_isB, bytesAt_none _ _ _ _, Nat.le_refl _, by decide⟩
  · simp only [if_true] at hz
    refine ⟨some a, len, cap, nums zs, hcs, nums_isB zs, ⟨some a, cap, by rw [Mb.bl_length], fun hp => ?_⟩, hl, by unfold maxLen at hm; omega⟩
    rw [Mb.bl_length] at hp ⊢
    obtain ⟨b, off, spot⟩ := a
    have hspot : spot = none := by simpa [Addr.add] using World.cell?_spot (hcell 0 (by omega))
    subst hspot
    have hc : ∀ i, i < len → W.cell? ⟨b, off + i, none⟩ = some (.int .u8 ((Mb.bl (nums zs) 0 len).getD i 0)) := by
      intro i hi
      have e : (⟨b, off, none⟩ : Addr).add i = ⟨b, off + i, none⟩ := by unfold Addr.add; split <;> simp_all
      have h1 := hcell i (by omega)
      rw [e] at h1
      rw [h1, Mb.bl_getD _ _ _ _ hi]
      have hmem : zs.getD i 0 ∈ zs := by
        rw [List.getD_eq_getElem?_getD, List.getElem?_eq_getElem (by omega)]
        exact List.getElem_mem _
      have hb := bounds_u8 (hwz _ hmem)
      unfold nums
      rw [Nat.zero_add]
      congr 2
      omega
    refine ⟨b, off, rfl, ?_, hc⟩
    rcases Nat.lt_or_ge b W.heap.size with hlt | hge
    · exact hlt
    · have := hc 0 hp
      simp [World.cell?, Array.getElem?_eq_none hge] at this

set_option maxRecDepth 100000 in
theorem open_bl {H : Type} {enc : TypeId × Value → H} {W : World} {base : Nat} {v : Value} {d : DataW H} {ps : List MemPlace}
    (hv : Value.okWide Tryz.prog W .any base 23 v) (h : DataW.Trod enc Tryz.prog W 0 (fun _ => true) true 23 v d ps) :
    ∃ A L cap f, v = .slice A L cap ∧ Mb.IsB f ∧ BytesAt W (.slice A L cap) (Mb.bl f 0 L) ∧ L ≤ cap ∧ cap ≤ 9223372036854775807 := by
  obtain ⟨a0, len, cap, rfl⟩ := okWide_slice Tryz.underlying23 hv
  obtain ⟨fuel, hf⟩ := h
  obtain ⟨A, L, cp, f, hcs, hr⟩ := bytes_cell hf
  simp [Value.cells] at hcs
  obtain ⟨rfl, rfl, rfl⟩ := hcs
  exact ⟨_, _, _, f, rfl, hr⟩

set_option maxRecDepth 100000 in
theorem open_access {H : Type} {enc : TypeId × Value → H} {W : World} {base : Nat} {v : Value} {d : DataW H} {ps : List MemPlace}
    (hv : Value.okWide Tryz.prog W .any base 30 v) (h : DataW.Trod enc Tryz.prog W 0 (fun _ => true) true 30 v d ps) :
    ∃ (K P N : Int) (V U : Nat) (A : Option Addr) (L cap : Nat) (f : Nat → Nat), v = .agg #[.int .i64 K, .int .i64 P, .int .i64 N, .int .u64 V, .int .u64 U, .slice A L cap] ∧
      (-9223372036854775808 ≤ K ∧ K ≤ 9223372036854775807) ∧ (-9223372036854775808 ≤ P ∧ P ≤ 9223372036854775807) ∧ (-9223372036854775808 ≤ N ∧ N ≤ 9223372036854775807) ∧
      V < 18446744073709551616 ∧ U < 18446744073709551616 ∧ Mb.IsB f ∧ BytesAt W (.slice A L cap) (Mb.bl f 0 L) ∧ L ≤ cap ∧ cap ≤ 9223372036854775807 := by
  obtain ⟨cs, rfl, hsz⟩ := okWide_struct Tryz.underlying30 hv
  obtain ⟨l⟩ := cs
  rw [accessOne] at hsz
  match l, hsz with
  | [v0, v1, v2, v3, v4, v5], _ =>
    obtain ⟨fuel, hf⟩ := h
    obtain ⟨xs, n, _, _, _, hlen, hg⟩ := DataW.trod_struct Tryz.underlying30 hf
    have g0 := hg 0 _ rfl
    have g1 := hg 1 _ rfl
    have g2 := hg 2 _ rfl
    have g3 := hg 3 _ rfl
    have g4 := hg 4 _ rfl
    have g5 := hg 5 _ rfl
    have cInt : Tryz.prog.cellsOf 3 = 1 := by kernel_rfl
    have cU : Tryz.prog.cellsOf 22 = 1 := by kernel_rfl
    have cB : Tryz.prog.cellsOf 23 = 1 := by kernel_rfl
    match xs, hlen with
    | [y0, y1, y2, y3, y4, y5], _ =>
      simp [Value.cells, cInt, cU, cB] at g0 g1 g2 g3 g4 g5
      obtain ⟨K, e0, _, w0⟩ := DataW.trod_int Tryz.underlying3 g0
      obtain ⟨P, e1, _, w1⟩ := DataW.trod_int Tryz.underlying3 g1
      obtain ⟨N, e2, _, w2⟩ := DataW.trod_int Tryz.underlying3 g2
      obtain ⟨V, e3, _, w3⟩ := DataW.trod_int Tryz.underlying22 g3
      obtain ⟨U, e4, _, w4⟩ := DataW.trod_int Tryz.underlying22 g4
      obtain ⟨A, L, cap, f, e5, hr⟩ := bytes_cell g5
      simp only [List.cons.injEq, and_true] at e0 e1 e2 e3 e4 e5
      subst e0 e1 e2 e3 e4 e5
      have b3 := u64_wide w3
      have b4 := u64_wide w4
      obtain ⟨V, rfl⟩ := Int.eq_ofNat_of_zero_le b3.1
      obtain ⟨U, rfl⟩ := Int.eq_ofNat_of_zero_le b4.1
      exact ⟨K, P, N, V, U, A, L, cap, f, rfl, i64_wide w0, i64_wide w1, i64_wide w2, by omega, by omega, hr⟩
end Go.Proofs.YtikcnioooihncaaGreat
