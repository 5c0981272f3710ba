/-
  Layer 5's Next, walked: what a machine's steps do next, for each of the three that copy.
-/
import Derived.Test.YtijgfaggakbajaaCopyAll
namespace Go.Proofs.Ytijgfaggakbajaa
open Go.RowKit
set_option maxRecDepth 100000 in
set_option maxHeartbeats 1000000 in
theorem stepsNext_rd (at_ : Int) {w : World} {base top g d r : Nat} {v : Value} {ys : List Int} (h : Cp w base top g (.rd at_) d r v ys) (hr : 0 < r) :
    Calls Try.prog 110 #[.pointer (some ⟨g, 0, none⟩)] w (NextIs (.rd at_) d (Cy.nx r) w) := by
  have hlt := h.lt
  have hnp := Cy.nx_pos hr
  have hnl := Cy.nx_le r
  have hfew := h.few
  obtain ⟨hat0, hat1⟩ := h.near
  simp only [Kd.place] at hat0 hat1
  have HW := (Below.refl w.heap.size w).alloc (Nat.le_refl _) (.cells #[.int .i64 0, .int .i64 0, .int .i64 0, .int .u64 0, .int .u64 0, .slice none 0 0] 47)
  obtain ⟨cv, nx, th, h1, hp, hbd⟩ := (h.below HW).head
  obtain ⟨ca, cb, rfl, rfl, ka, kb, q1, q2⟩ := hbd (by omega)
  rw [Cy.cks_step hr] at hp
  obtain ⟨A, cap, rfl, hcl, hcm, hp⟩ := hp
  obtain ⟨pb, po, rfl, hpf, hpl, hpc⟩ := hp (by simp)
  have hp0 := hpc 0 (by simp)
  have hm2 : cap ≤ 9223372036854775807 := by unfold maxLen at hcm; omega
  simp only [List.getD_cons_zero, Nat.add_zero, List.length_cons] at hp0 hcl h1
  generalize hLq : (Cy.cks (r - Cy.nx r)).length = L at hcl h1
  clear hLq hpc hp hbd
  have hpos : 0 < L + 1 := by omega
  have hpos2 : (0 : Int) < (L : Int) + 1 := by omega
  have hne0 : ¬ ((L : Int) + 1 = 0) := by omega
  have HA := AccNew.made w
  have hnewg : w.heap.size ≠ g := by omega
  have hub := h.there
  have hug := h.under
  have hnewp : w.heap.size ≠ pb := by have := hpf.2.1; omega
  have hnewa : w.heap.size ≠ ca := by have := ka.2.1; omega
  have hpne : pb ≠ g := hpf.2.2
  clear h
  have HH := Lib.hid h1
  have hcw : w.cell? ⟨g, 0, none⟩ = some (.slice (some ⟨pb, po, none⟩) (L + 1) cap) := by rw [← World.cell?_of_block (w := w) (w' := w.alloc (.cells #[.int .i64 0, .int .i64 0, .int .i64 0, .int .u64 0, .int .u64 0, .slice none 0 0] 47)) (a := ⟨g, 0, none⟩) (HW.block g hlt)]; simp [World.cell?, h1]
  clear h1
  go_enter Try.func110, Try.ntmps110
  go_wp2_with fail
  clear hcw
  generalize w.alloc (.cells #[.int .i64 0, .int .i64 0, .int .i64 0, .int .u64 0, .int .u64 0, .slice none 0 0] 47) = W at q1 q2 hp0 HA HH HW hpl ⊢
  have hc0 : W.cell? ⟨g, 0, none⟩ = some (.slice (some ⟨pb, po, none⟩) (L + 1) cap) := by simp [World.cell?, HH.out]
  have hc1 : W.cell? ⟨g, 1, none⟩ = some (.int .i64 d) := by simp [World.cell?, HH.out]
  have hc2 : W.cell? ⟨g, 2, none⟩ = some (.func (.func 50) #[] #[.pointer (some ⟨ca, 0, none⟩)]) := by simp [World.cell?, HH.out]
  have hgW : g < W.heap.size := Nat.lt_of_lt_of_le hlt HW.size
  have hAb : w.heap.size < W.heap.size := (Array.getElem?_eq_some_iff.1 HA.blk).1
  go_region_held3 (fun w' => w'.cell? ⟨g, 0, none⟩ = some (.slice (some ⟨pb, po, none⟩) (L + 1) cap) ∧ w'.cell? ⟨g, 1, none⟩ = some (.int .i64 d) ∧ w'.cell? ⟨g, 2, none⟩ = some (.func (.func 50) #[] #[.pointer (some ⟨ca, 0, none⟩)]) ∧ w'.cell? ⟨pb, po, none⟩ = some (.int .i64 (Cy.nx r : Nat))) (go_keep)
    (first | (go_at_call 50; refine (outNext_any d (Cy.nx r) ca at_ W.drew q1 hat0 hat1 (by omega)).mono ?_; rintro e w1 ⟨A1, l1, c1, rfl, ho1, hb1⟩; have hb2 := below_drew hb1; have hk0 := (hb2.cell (p := ⟨g, 0, none⟩) hgW).trans hc0; have hk1 := (hb2.cell (p := ⟨g, 1, none⟩) hgW).trans hc1; have hk2 := (hb2.cell (p := ⟨g, 2, none⟩) hgW).trans hc2; have hk3 := (hb2.cell (p := ⟨pb, po, none⟩) hpl).trans hp0; have HA1 := HA.later hb2; obtain ⟨a0, a1, a2, a3, a4, a5, f0, f1, f2, f3, f4, f5, _⟩ := HA1))
  go_wp2
  refine bodyPost_ret (v := .tuple #[.agg #[.int .i64 5, .int .i64 (at_ + d), .int .i64 (Cy.nx r : Nat), .int .u64 0, .int .u64 0, .slice A1 l1 c1], .bool true]) (by simp [results, Try.results110, go_sem, a0, a1, a2, a3, a4, a5]) rfl ?_
  refine ⟨_, _, _, rfl, (six_own (base := W.heap.size) ho1 hAb _ _ _ _ _ _).down HW.size, six_below (HW.trans (hb2.mono HW.size)) (Nat.le_refl _) _ _ _ _ _ _⟩

set_option maxRecDepth 100000 in
set_option maxHeartbeats 1000000 in
theorem stepsNext_ze (at_ : Int) {w : World} {base top g d r : Nat} {v : Value} {ys : List Int} (h : Cp w base top g (.ze at_) d r v ys) (hr : 0 < r) :
    Calls Try.prog 110 #[.pointer (some ⟨g, 0, none⟩)] w (NextIs (.ze at_) d (Cy.nx r) w) := by
  have hlt := h.lt
  have hnp := Cy.nx_pos hr
  have hnl := Cy.nx_le r
  have hfew := h.few
  obtain ⟨hat0, hat1⟩ := h.near
  simp only [Kd.place] at hat0 hat1
  have HW := (Below.refl w.heap.size w).alloc (Nat.le_refl _) (.cells #[.int .i64 0, .int .i64 0, .int .i64 0, .int .u64 0, .int .u64 0, .slice none 0 0] 47)
  obtain ⟨cv, nx, th, h1, hp, hbd⟩ := (h.below HW).head
  obtain ⟨ca, rfl, rfl, ka, q1⟩ := hbd (by omega)
  rw [Cy.cks_step hr] at hp
  obtain ⟨A, cap, rfl, hcl, hcm, hp⟩ := hp
  obtain ⟨pb, po, rfl, hpf, hpl, hpc⟩ := hp (by simp)
  have hp0 := hpc 0 (by simp)
  have hm2 : cap ≤ 9223372036854775807 := by unfold maxLen at hcm; omega
  simp only [List.getD_cons_zero, Nat.add_zero, List.length_cons] at hp0 hcl h1
  generalize hLq : (Cy.cks (r - Cy.nx r)).length = L at hcl h1
  clear hLq hpc hp hbd
  have hpos : 0 < L + 1 := by omega
  have hpos2 : (0 : Int) < (L : Int) + 1 := by omega
  have hne0 : ¬ ((L : Int) + 1 = 0) := by omega
  have HA := AccNew.made w
  have hnewg : w.heap.size ≠ g := by omega
  have hub := h.there
  have hug := h.under
  have hnewp : w.heap.size ≠ pb := by have := hpf.2.1; omega
  have hnewa : w.heap.size ≠ ca := by have := ka.2.1; omega
  have hpne : pb ≠ g := hpf.2.2
  clear h
  have HH := Lib.hid h1
  have hcw : w.cell? ⟨g, 0, none⟩ = some (.slice (some ⟨pb, po, none⟩) (L + 1) cap) := by rw [← World.cell?_of_block (w := w) (w' := w.alloc (.cells #[.int .i64 0, .int .i64 0, .int .i64 0, .int .u64 0, .int .u64 0, .slice none 0 0] 47)) (a := ⟨g, 0, none⟩) (HW.block g hlt)]; simp [World.cell?, h1]
  clear h1
  go_enter Try.func110, Try.ntmps110
  go_wp2_with fail
  clear hcw
  generalize w.alloc (.cells #[.int .i64 0, .int .i64 0, .int .i64 0, .int .u64 0, .int .u64 0, .slice none 0 0] 47) = W at q1  hp0 HA HH HW hpl ⊢
  have hc0 : W.cell? ⟨g, 0, none⟩ = some (.slice (some ⟨pb, po, none⟩) (L + 1) cap) := by simp [World.cell?, HH.out]
  have hc1 : W.cell? ⟨g, 1, none⟩ = some (.int .i64 d) := by simp [World.cell?, HH.out]
  have hc2 : W.cell? ⟨g, 2, none⟩ = some (.func (.func 48) #[] #[.pointer (some ⟨ca, 0, none⟩)]) := by simp [World.cell?, HH.out]
  have hgW : g < W.heap.size := Nat.lt_of_lt_of_le hlt HW.size
  have hAb : w.heap.size < W.heap.size := (Array.getElem?_eq_some_iff.1 HA.blk).1
  go_region_held3 (fun w' => w'.cell? ⟨g, 0, none⟩ = some (.slice (some ⟨pb, po, none⟩) (L + 1) cap) ∧ w'.cell? ⟨g, 1, none⟩ = some (.int .i64 d) ∧ w'.cell? ⟨g, 2, none⟩ = some (.func (.func 48) #[] #[.pointer (some ⟨ca, 0, none⟩)]) ∧ w'.cell? ⟨pb, po, none⟩ = some (.int .i64 (Cy.nx r : Nat))) (go_keep)
    (first | (go_at_call 48; refine (zeroNext_any d (Cy.nx r) ca at_ W.drew q1 hat0 hat1 (by omega) (by omega)).mono ?_; rintro e w1 ⟨A1, l1, c1, rfl, ho1, hb1⟩; have hb2 := below_drew hb1; have hk0 := (hb2.cell (p := ⟨g, 0, none⟩) hgW).trans hc0; have hk1 := (hb2.cell (p := ⟨g, 1, none⟩) hgW).trans hc1; have hk2 := (hb2.cell (p := ⟨g, 2, none⟩) hgW).trans hc2; have hk3 := (hb2.cell (p := ⟨pb, po, none⟩) hpl).trans hp0; have HA1 := HA.later hb2; obtain ⟨a0, a1, a2, a3, a4, a5, f0, f1, f2, f3, f4, f5, _⟩ := HA1))
  go_wp2
  refine bodyPost_ret (v := .tuple #[.agg #[.int .i64 6, .int .i64 (at_ + d), .int .i64 (Cy.nx r : Nat), .int .u64 0, .int .u64 0, .slice A1 l1 c1], .bool true]) (by simp [results, Try.results110, go_sem, a0, a1, a2, a3, a4, a5]) rfl ?_
  refine ⟨_, _, _, rfl, (six_own (base := W.heap.size) ho1 hAb _ _ _ _ _ _).down HW.size, six_below (HW.trans (hb2.mono HW.size)) (Nat.le_refl _) _ _ _ _ _ _⟩

set_option maxRecDepth 100000 in
set_option maxHeartbeats 1000000 in
theorem stepsNext_wr (at_ : Int) (f : Nat → Nat) {w : World} {base top g d r : Nat} {v : Value} {ys : List Int} (h : Cp w base top g (.wr at_ f) d r v ys) (hr : 0 < r) :
    Calls Try.prog 110 #[.pointer (some ⟨g, 0, none⟩)] w (NextIs (.wr at_ f) d (Cy.nx r) w) := by
  have hlt := h.lt
  have hnp := Cy.nx_pos hr
  have hnl := Cy.nx_le r
  have hfew := h.few
  obtain ⟨hat0, hat1⟩ := h.near
  simp only [Kd.place] at hat0 hat1
  have HW := (Below.refl w.heap.size w).alloc (Nat.le_refl _) (.cells #[.int .i64 0, .int .i64 0, .int .i64 0, .int .u64 0, .int .u64 0, .slice none 0 0] 47)
  obtain ⟨cv, nx, th, h1, hp, hbd⟩ := (h.below HW).head
  obtain ⟨ca, cb, gk, kcap, rfl, rfl, ka, kb, kg, q1, q2, q3, q4, q5⟩ := hbd (by omega)
  rw [Cy.cks_step hr] at hp
  obtain ⟨A, cap, rfl, hcl, hcm, hp⟩ := hp
  obtain ⟨pb, po, rfl, hpf, hpl, hpc⟩ := hp (by simp)
  have hp0 := hpc 0 (by simp)
  have hm2 : cap ≤ 9223372036854775807 := by unfold maxLen at hcm; omega
  simp only [List.getD_cons_zero, Nat.add_zero, List.length_cons] at hp0 hcl h1
  generalize hLq : (Cy.cks (r - Cy.nx r)).length = L at hcl h1
  clear hLq hpc hp hbd
  have hpos : 0 < L + 1 := by omega
  have hpos2 : (0 : Int) < (L : Int) + 1 := by omega
  have hne0 : ¬ ((L : Int) + 1 = 0) := by omega
  have HA := AccNew.made w
  have hnewg : w.heap.size ≠ g := by omega
  have hub := h.there
  have hug := h.under
  have hnewp : w.heap.size ≠ pb := by have := hpf.2.1; omega
  have hnewa : w.heap.size ≠ ca := by have := ka.2.1; omega
  have hnewb : w.heap.size ≠ cb := by have := kb.2.1; omega
  have hpne : pb ≠ g := hpf.2.2
  clear h
  have HH := Lib.hid h1
  have hcw : w.cell? ⟨g, 0, none⟩ = some (.slice (some ⟨pb, po, none⟩) (L + 1) cap) := by rw [← World.cell?_of_block (w := w) (w' := w.alloc (.cells #[.int .i64 0, .int .i64 0, .int .i64 0, .int .u64 0, .int .u64 0, .slice none 0 0] 47)) (a := ⟨g, 0, none⟩) (HW.block g hlt)]; simp [World.cell?, h1]
  clear h1
  have HB3 := Lib.hid q3
  clear q3
  go_enter Try.func110, Try.ntmps110
  go_wp2_with fail
  clear hcw
  generalize w.alloc (.cells #[.int .i64 0, .int .i64 0, .int .i64 0, .int .u64 0, .int .u64 0, .slice none 0 0] 47) = W at q1 q2 HB3 hp0 HA HH HW hpl ⊢
  have hc0 : W.cell? ⟨g, 0, none⟩ = some (.slice (some ⟨pb, po, none⟩) (L + 1) cap) := by simp [World.cell?, HH.out]
  have hc1 : W.cell? ⟨g, 1, none⟩ = some (.int .i64 d) := by simp [World.cell?, HH.out]
  have hc2 : W.cell? ⟨g, 2, none⟩ = some (.func (.func 46) #[] #[.pointer (some ⟨ca, 0, none⟩), .pointer (some ⟨cb, 0, none⟩)]) := by simp [World.cell?, HH.out]
  have hgW : g < W.heap.size := Nat.lt_of_lt_of_le hlt HW.size
  have hAb : w.heap.size < W.heap.size := (Array.getElem?_eq_some_iff.1 HA.blk).1
  go_region_held3 (fun w' => w'.cell? ⟨g, 0, none⟩ = some (.slice (some ⟨pb, po, none⟩) (L + 1) cap) ∧ w'.cell? ⟨g, 1, none⟩ = some (.int .i64 d) ∧ w'.cell? ⟨g, 2, none⟩ = some (.func (.func 46) #[] #[.pointer (some ⟨ca, 0, none⟩), .pointer (some ⟨cb, 0, none⟩)]) ∧ w'.cell? ⟨pb, po, none⟩ = some (.int .i64 (Cy.nx r : Nat))) (go_keep)
    (first | (go_at_call 46; refine (inNext_any d (Cy.nx r) (d + r) kcap ca cb gk f at_ W.drew q1 q2 HB3.out.drew hat0 hat1 hnp (by omega) (by omega) q4 q5).mono ?_; rintro e w1 ⟨A1, l1, c1, rfl, ho1, hb1⟩; have hb2 := below_drew hb1; have hk0 := (hb2.cell (p := ⟨g, 0, none⟩) hgW).trans hc0; have hk1 := (hb2.cell (p := ⟨g, 1, none⟩) hgW).trans hc1; have hk2 := (hb2.cell (p := ⟨g, 2, none⟩) hgW).trans hc2; have hk3 := (hb2.cell (p := ⟨pb, po, none⟩) hpl).trans hp0; have HA1 := HA.later hb2; obtain ⟨a0, a1, a2, a3, a4, a5, f0, f1, f2, f3, f4, f5, _⟩ := HA1))
  go_wp2
  refine bodyPost_ret (v := .tuple #[.agg #[.int .i64 6, .int .i64 (at_ + d), .int .i64 (Cy.nx r : Nat), .int .u64 0, .int .u64 0, .slice A1 l1 c1], .bool true]) (by simp [results, Try.results110, go_sem, a0, a1, a2, a3, a4, a5]) rfl ?_
  refine ⟨_, _, _, rfl, (six_own (base := W.heap.size) ho1 hAb _ _ _ _ _ _).down HW.size, six_below (HW.trans (hb2.mono HW.size)) (Nat.le_refl _) _ _ _ _ _ _⟩


theorem stepsNext_any {kd : Kd} {w : World} {base top g d r : Nat} {v : Value} {ys : List Int} (h : Cp w base top g kd d r v ys) (hr : 0 < r) :
    Calls Try.prog 110 #[.pointer (some ⟨g, 0, none⟩)] w (NextIs kd d (Cy.nx r) w) := by
  cases kd with
  | wr at_ f => exact stepsNext_wr at_ f h hr
  | ze at_ => exact stepsNext_ze at_ h hr
  | rd at_ => exact stepsNext_rd at_ h hr

set_option maxRecDepth 100000 in
set_option maxHeartbeats 400000 in
theorem next_any {kd : Kd} {w : World} {base top g d r : Nat} {v : Value} {ys : List Int} (h : Cp w base top g kd d r v ys) (hr : 0 < r) :
    Calls Try.prog 108 #[.pointer (some ⟨g, 0, none⟩)] w (NextIs kd d (Cy.nx r) w) := by
  have hlt := h.lt
  have HA := AccNew.made w
  have HW := (Below.refl w.heap.size w).alloc (Nat.le_refl _) (.cells #[.int .i64 0, .int .i64 0, .int .i64 0, .int .u64 0, .int .u64 0, .slice none 0 0] 47)
  have HC := Lib.hid (stepsNext_any (h.below HW) hr)
  clear h
  go_enter Try.func108, Try.ntmps108
  go_wp2_with fail
  generalize w.alloc (.cells #[.int .i64 0, .int .i64 0, .int .i64 0, .int .u64 0, .int .u64 0, .slice none 0 0] 47) = W at HA HW HC ⊢
  have hAb : w.heap.size < W.heap.size := (Array.getElem?_eq_some_iff.1 HA.blk).1
  refine HC.out.mono ?_
  rintro e w1 ⟨A1, l1, c1, rfl, ho1, hb1⟩
  have HA1 := HA.later hb1
  obtain ⟨a0, a1, a2, a3, a4, a5, f0, f1, f2, f3, f4, f5, _⟩ := HA1
  have HO := Lib.hid ho1
  clear ho1
  go_wp2
  refine bodyPost_ret (v := .tuple #[.agg #[.int .i64 kd.kind, .int .i64 (kd.place + d), .int .i64 (Cy.nx r : Nat), .int .u64 0, .int .u64 0, .slice A1 l1 c1], .bool true]) (by simp [results, Try.results108, go_sem, a0, a1, a2, a3, a4, a5]) rfl ?_
  exact ⟨_, _, _, rfl, (six_own (base := W.heap.size) HO.out hAb _ _ _ _ _ _).down HW.size, six_below (HW.trans (hb1.mono HW.size)) (Nat.le_refl _) _ _ _ _ _ _⟩

set_option maxRecDepth 100000 in
set_option maxHeartbeats 400000 in
theorem next_no {kd : Kd} {w : World} {base top g d : Nat} {v : Value} {ys : List Int} (h : Cp w base top g kd d 0 v ys) :
    Calls Try.prog 108 #[.pointer (some ⟨g, 0, none⟩)] w (NextNo w) := by
  have HA := AccNew.made w
  have HW := (Below.refl w.heap.size w).alloc (Nat.le_refl _) (.cells #[.int .i64 0, .int .i64 0, .int .i64 0, .int .u64 0, .int .u64 0, .slice none 0 0] 47)
  have HC := Lib.hid (stepsNext_no (h.below HW))
  clear h
  go_enter Try.func108, Try.ntmps108
  go_wp2_with fail
  generalize w.alloc (.cells #[.int .i64 0, .int .i64 0, .int .i64 0, .int .u64 0, .int .u64 0, .slice none 0 0] 47) = W at HA HW HC ⊢
  refine HC.out.mono ?_
  rintro e w1 ⟨rfl, hb1⟩
  have HA1 := HA.later hb1
  obtain ⟨a0, a1, a2, a3, a4, a5, f0, f1, f2, f3, f4, f5, _⟩ := HA1
  go_wp2
  refine bodyPost_ret (v := .tuple #[.agg #[.int .i64 0, .int .i64 0, .int .i64 0, .int .u64 0, .int .u64 0, .slice none 0 0], .bool false]) (by simp [results, Try.results108, go_sem, a0, a1, a2, a3, a4, a5]) rfl ?_
  exact ⟨rfl, six_below (HW.trans (hb1.mono HW.size)) (Nat.le_refl _) _ _ _ _ _ _⟩

set_option maxRecDepth 100000 in
set_option maxHeartbeats 400000 in
theorem next_nil (w : World) : Calls Try.prog 108 #[.pointer none] w (NextNo w) := by
  go_enter Try.func108, Try.ntmps108
  go_wp2
  refine bodyPost_ret (v := .tuple #[.agg #[.int .i64 0, .int .i64 0, .int .i64 0, .int .u64 0, .int .u64 0, .slice none 0 0], .bool false]) (by simp [results, Try.results108, go_sem]) rfl ?_
  exact ⟨rfl, (Below.refl _ w).alloc (Nat.le_refl _) _⟩

/-- A machine's next access, its fields written out. -/
def NextAs (K P N : Int) (b : List Int) (w : World) (e : Ending) (w' : World) : Prop :=
  ∃ A l cp, e = .returned (.tuple #[.agg #[.int .i64 K, .int .i64 P, .int .i64 N, .int .u64 0, .int .u64 0, .slice A l cp], .bool true]) ∧ Owns w.heap.size w' (.slice A l cp) b ∧ Below w.heap.size w w'

theorem next_as {kd : Kd} {w : World} {base top g d r : Nat} {v : Value} {ys : List Int} (h : Cp w base top g kd d r v ys) (hr : 0 < r) {K P N : Int} {b : List Int} (hK : kd.kind = K) (hP : kd.place + d = P) (hN : ((Cy.nx r : Nat) : Int) = N) (hb : kd.bytes d (Cy.nx r) = b) :
    Calls Try.prog 108 #[.pointer (some ⟨g, 0, none⟩)] w (NextAs K P N b w) := by
  subst hK hP hN hb
  exact next_any h hr
end Go.Proofs.Ytijgfaggakbajaa
