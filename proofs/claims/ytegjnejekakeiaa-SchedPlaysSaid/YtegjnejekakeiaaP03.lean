/-
  Layer 5's Take, walked: a machine goes one part further.
  Layer 6's plain facts: accesses, answers, events; what an access does to a buffer's bytes; what a pick does to a scheduler's state.
  Layer 6's machines, as far as this seat reaches them: what each does next, what it does with an answer, where it stands in memory.
  Layer 6's next: a machine's next access, asked through the interface, its bytes in new memory.
  Layer 6's events: twelve cells in a block; one copied, its bytes in new memory.
  A slice that reads as bytes, and lies in blocks that K names; no function of the program is walked here.
  Layer 2's Do once more: what was read lies in new memory.
  Layer 6's scheduler in memory: who owns which block; what turns, and what stays.
-/
import Derived.Test.YtegjnejekakeiaaP02
import Derived.RegionTactic
import Derived.ChangeAlike
import Derived.Test.YtegjnejekakeiaaP01
namespace Go.Proofs.Ytegjnejekakeiaa
open Go.RowKit

theorem took_end {kd : Kd} {w W w1 : World} {base top g d r n2 pb po po' cap cap' : Nat} {nx th v v1 : Value} {ys zs zs' : List Int} (h : Cp w base top g kd d r v ys)
    (hbd : Body w base top g (d + r) kd nx th) (hcp : Parts (Fixed base top g) w (.slice (some ⟨pb, po, none⟩) (n2 + 1) cap) (((Cy.nx r : Nat) : Int) :: Cy.cks (r - Cy.nx r))) (hn2 : (Cy.cks (r - Cy.nx r)).length = n2)
    (hzs : ys ++ (if kd.reads then zs else []) = zs') (HW : Below w.heap.size w W) (HT1 : Touch (Mine g v) W w1) (HL1 : Lies v v1 W) (HO1 : Owns top w1 v1 zs')
    (HG1 : w1.heap[g]? = some (.cells #[.slice (some ⟨pb, po, none⟩) (n2 + 1) cap, .int .i64 d, nx, th, v1] 113 (0, 0))) (hpo : 0 < n2 → po' = po + 1) (hc1 : n2 ≤ cap') (hc2 : cap' ≤ cap) :
    TookIs base top g kd d r v ys zs w (.returned (.tuple #[])) ((w1.setCell ⟨g, 1, none⟩ (.int .i64 ((d : Int) + (Cy.nx r : Nat)))).setCell ⟨g, 0, none⟩ (.slice (some ⟨pb, po', none⟩) n2 cap')).drew := by
  have hnl := Cy.nx_le r
  have hne : ∀ k, k ≠ g → (((w1.setCell ⟨g, 1, none⟩ (.int .i64 ((d : Int) + (Cy.nx r : Nat)))).setCell ⟨g, 0, none⟩ (.slice (some ⟨pb, po', none⟩) n2 cap')).drew).heap[k]? = w1.heap[k]? := fun k hk =>
    (Below.heap_setCell _ _ _ _ hk).trans (Below.heap_setCell _ _ _ _ hk)
  have hs1 : W.heap.size ≤ w1.heap.size := HT1.size
  have hT : Touch (Mine g v) w w1 := (Touch.of_below HW).trans HT1
  have hfix : ∀ k, Fixed base top g k → w1.heap[k]? = w.heap[k]? := fun k hk => hT.block k (Nat.lt_of_lt_of_le hk.2.1 h.there) fun hm => by
    rcases hm with hm | hm
    · exact hk.2.2 hm
    · have := (h.own.ge hm).1
      have := hk.2.1
      omega
  have hsz : w.heap.size ≤ (((w1.setCell ⟨g, 1, none⟩ (.int .i64 ((d : Int) + (Cy.nx r : Nat)))).setCell ⟨g, 0, none⟩ (.slice (some ⟨pb, po', none⟩) n2 cap')).drew).heap.size := by
    have := hT.size
    simpa [World.setCell, World.drew] using this
  refine ⟨v1, rfl, ⟨h.above, h.under, Nat.le_trans h.there hsz, by have := h.few; omega, h.near, ⟨.slice (some ⟨pb, po', none⟩) n2 cap', nx, th, ?_, ?_, fun _ => ?_⟩, ?_⟩, ?_, ?_⟩
  · have e : (((d + Cy.nx r : Nat) : Nat) : Int) = (d : Int) + (Cy.nx r : Nat) := by omega
    rw [e]
    simp [World.setCell, World.drew, Array.getElem?_modify, HG1]
  · obtain ⟨A, cp, hv, hcl, hcm, hp⟩ := hcp
    injection hv with e1 e2 e3
    refine ⟨some ⟨pb, po', none⟩, cap', by rw [hn2], by rw [hn2]; exact hc1, by omega, fun hpos => ?_⟩
    obtain ⟨b, off, eA, hK, hlt, hc⟩ := hp (by simp)
    rw [← e1] at eA
    injection eA with eA
    injection eA with e5 e6
    subst e5 e6
    refine ⟨pb, po', rfl, hK, by omega, fun i hi => ?_⟩
    have hcell := hc (i + 1) (by simpa using hi)
    rw [List.getD_cons_succ] at hcell
    have ho : po' + i = po + (i + 1) := by have := hpo (by omega); omega
    rw [ho, ← hcell]
    exact World.cell?_of_block (w := w) (a := ⟨pb, po + (i + 1), none⟩) ((hne pb hK.2.2).trans (hfix pb hK))
  · have e : d + Cy.nx r + (r - Cy.nx r) = d + r := by omega
    rw [e]
    exact hbd.keep hsz fun k hk => (hne k hk.2.2).trans (hfix k hk)
  · rw [hzs]
    exact HO1.of_block fun k hk => hne k (by have := (HO1.ge hk).1; have := h.under; omega)
  · exact ((hT.setCell (p := ⟨g, 1, none⟩) (.inl rfl) _).setCell (p := ⟨g, 0, none⟩) (.inl rfl) _).drew
  · intro k hk
    rcases HL1 k hk with e | e
    · exact .inl e
    · exact .inr (Nat.le_trans HW.size e)

set_option maxRecDepth 100000 in
set_option maxHeartbeats 1000000 in
theorem stepsTake_rd {kd : Kd} {w : World} {base top g d r : Nat} {v : Value} {ys : List Int} (h : Cp w base top g kd d r v ys) (hr : 0 < r) (V : Nat) (D : Bool) (A : Option Addr) (L cp : Nat) (zs zs' : List Int) {cv nx : Value} {b : Nat}
    (hg : w.heap[g]? = some (.cells #[cv, .int .i64 d, nx, .func (.func 51) #[] #[.pointer (some ⟨b, 0, none⟩)], v] 113 (0, 0))) (hcp : Parts (Fixed base top g) w cv (Cy.cks r)) (hbd : Body w base top g (d + r) kd nx (.func (.func 51) #[] #[.pointer (some ⟨b, 0, none⟩)]))
    (hcall : ∀ W : World, Below w.heap.size w W → Calls Try.prog 51 #[.agg #[.int .u64 V, .bool D, .slice A L cp], .pointer (some ⟨b, 0, none⟩)] W (Kept g cv d nx (.func (.func 51) #[] #[.pointer (some ⟨b, 0, none⟩)]) top v zs' W)) (hzs : ys ++ (if kd.reads then zs else []) = zs') :
    Calls Try.prog 111 #[.pointer (some ⟨g, 0, none⟩), .agg #[.int .u64 V, .bool D, .slice A L cp]] w (TookIs base top g kd d r v ys zs w) := by
  have hlt := h.lt
  have hnp := Cy.nx_pos hr
  have hnl := Cy.nx_le r
  have hfew := h.few
  have hnear := Lib.hid h.near
  have hbase := h.above
  have hub := h.there
  have hug := h.under
  have hown := Lib.hid (fun k hk => h.own.ge (k := k) hk)
  have HW := (Below.refl w.heap.size w).alloc (Nat.le_refl _) (.cells #[.int .u64 V, .bool D, .slice A L cp] 49)
  have HX := Go.Deep.blk_alloc_new w (.cells #[.int .u64 V, .bool D, .slice A L cp] 49)
  rw [Cy.cks_step hr] at hcp
  have HCP := Lib.hid hcp
  obtain ⟨A0, cap, hcv, hcl, hcm, hp⟩ := hcp
  subst hcv
  obtain ⟨pb, po, rfl, hpf, hpl, hpc⟩ := hp (by simp)
  have hp0 := hpc 0 (by simp)
  have hm2 : cap ≤ 9223372036854775807 := by unfold maxLen at hcm; omega
  simp only [List.getD_cons_zero, Nat.add_zero, List.length_cons] at hp0 hcl hg hcall HCP
  have HPC := Lib.hid hpc
  have HLQ : Hid (∃ L2, (Cy.cks (r - Cy.nx r)).length = L2) := ⟨_, rfl⟩
  obtain ⟨n2, hn2⟩ := HLQ.out
  rw [hn2] at hcl hg hcall HCP
  have HN2 := Lib.hid hn2
  clear HLQ hn2 hpc hp
  have hpos2 : (0 : Int) < (n2 : Int) + 1 := by omega
  have hne0 : ¬ ((n2 : Int) + 1 = 0) := by omega
  have hbdH := Lib.hid hbd
  have hgH := Lib.hid hg
  have hcw : w.cell? ⟨g, 0, none⟩ = some (.slice (some ⟨pb, po, none⟩) (n2 + 1) cap) := by simp [World.cell?, hg]
  have hcalls := Lib.hid hcall
  have hhz := Lib.hid hzs
  have HC0 := Lib.hid h
  clear h hg hcall hbd hzs
  go_enter Try.func111, Try.ntmps111
  go_wp2_with fail
  clear hcw
  generalize hxq : w.heap.size = x
  rw [hxq] at HX HW hub hlt hpl hown
  have HXQ := Lib.hid hxq
  generalize w.alloc (.cells #[.int .u64 V, .bool D, .slice A L cp] 49) = W at HW HX ⊢
  clear hxq
  have hgW := (HW.block g hlt).trans hgH.out
  have hc3 : W.cell? ⟨g, 3, none⟩ = some (.func (.func 51) #[] #[.pointer (some ⟨b, 0, none⟩)]) := by simp [World.cell?, hgW]
  have hx0 : W.cell? ⟨x, 0, none⟩ = some (.int .u64 V) := by simp [World.cell?, HX]
  have hx1 : W.cell? ⟨x, 1, none⟩ = some (.bool D) := by simp [World.cell?, HX]
  have hx2 : W.cell? ⟨x, 2, none⟩ = some (.slice A L cp) := by simp [World.cell?, HX]
  have HGW := Lib.hid hgW
  have HHX := Lib.hid HX
  clear hgW HX
  go_region_held3 (fun w' => w'.cell? ⟨g, 3, none⟩ = some (.func (.func 51) #[] #[.pointer (some ⟨b, 0, none⟩)]) ∧ w'.cell? ⟨x, 0, none⟩ = some (.int .u64 V) ∧ w'.cell? ⟨x, 1, none⟩ = some (.bool D) ∧ w'.cell? ⟨x, 2, none⟩ = some (.slice A L cp)) (go_keep)
    (first | (go_at_call 51; refine (hcalls.out _ (HXQ.out ▸ HW.drew)).mono ?_; rintro e w1 ⟨v1, rfl, hg1, ho1, ht1, hl1⟩; have hxg := (ht1.block x (Array.getElem?_eq_some_iff.1 HHX.out).1 (fun hm => by rcases hm with hm | hm; omega; have := hown.out x hm; omega)).trans HHX.out; have hk3 : w1.cell? ⟨g, 3, none⟩ = some (.func (.func 51) #[] #[.pointer (some ⟨b, 0, none⟩)]) := (by simp [World.cell?, hg1]); have hy0 : w1.cell? ⟨x, 0, none⟩ = some (.int .u64 V) := (by simp [World.cell?, hxg]); have hy1 : w1.cell? ⟨x, 1, none⟩ = some (.bool D) := (by simp [World.cell?, hxg]); have hy2 : w1.cell? ⟨x, 2, none⟩ = some (.slice A L cp) := (by simp [World.cell?, hxg]); have HG1 := Lib.hid hg1; have HO1 := Lib.hid ho1; have HT1 := Lib.hid ht1; have HL1 := Lib.hid hl1; clear hg1 ho1 ht1 hl1 hxg))
  have hh0 : w1.cell? ⟨g, 0, none⟩ = some (.slice (some ⟨pb, po, none⟩) (n2 + 1) cap) := by simp [World.cell?, HG1.out]
  have hh1 : w1.cell? ⟨g, 1, none⟩ = some (.int .i64 d) := by simp [World.cell?, HG1.out]
  have hf0 : w1.frozen? ⟨g, 0, none⟩ = false := by simp [World.frozen?, HG1.out]
  have hf1 : w1.frozen? ⟨g, 1, none⟩ = false := by simp [World.frozen?, HG1.out]
  have hpb1 := ((HT1.out.block pb (Nat.lt_of_lt_of_le hpl (HXQ.out ▸ HW.size)) (fun hm => by rcases hm with hm | hm; exact hpf.2.2 hm; have := hown.out pb hm; have := hpf.2.1; omega)).trans (HW.block pb hpl))
  have hp1 : w1.cell? ⟨pb, po, none⟩ = some (.int .i64 (Cy.nx r : Nat)) := (World.cell?_of_block (w := w) (a := ⟨pb, po, none⟩) hpb1).trans hp0
  have hpg : pb ≠ g := hpf.2.2
  have hpos3 : 0 < n2 + 1 := by omega
  clear hpb1 hc3 hx0 hx1 hx2 hy0 hy1 hy2 hk3
  go_wp2_with fail
  go_region
  have hsl1 : (1 : Int) ≤ (n2 : Int) + 1 := by omega
  have hsl2 : (n2 : Int) + 1 ≤ cap := by omega
  by_cases hc1 : cap = 1
  · subst hc1
    have hn20 : n2 = 0 := by omega
    subst hn20
    go_wp2
    go_end0
    exact took_end (po' := po) (cap' := 0) HC0.out hbdH.out HCP.out HN2.out hhz.out (HXQ.out ▸ HW.drew) HT1.out HL1.out HO1.out HG1.out (fun h => absurd h (Nat.lt_irrefl 0)) (Nat.le_refl _) (by omega)
  · go_wp2
    go_end0
    exact took_end (po' := po + 1) (cap' := cap - 1) HC0.out hbdH.out HCP.out HN2.out hhz.out (HXQ.out ▸ HW.drew) HT1.out HL1.out HO1.out HG1.out (fun _ => rfl) (by omega) (by omega)

set_option maxRecDepth 100000 in
set_option maxHeartbeats 1000000 in
theorem stepsTake_wr {kd : Kd} {w : World} {base top g d r : Nat} {v : Value} {ys : List Int} (h : Cp w base top g kd d r v ys) (hr : 0 < r) (V : Nat) (D : Bool) (A : Option Addr) (L cp : Nat) (zs zs' : List Int) {cv nx : Value}
    (hg : w.heap[g]? = some (.cells #[cv, .int .i64 d, nx, .func (.func 67) #[] #[], v] 113 (0, 0))) (hcp : Parts (Fixed base top g) w cv (Cy.cks r)) (hbd : Body w base top g (d + r) kd nx (.func (.func 67) #[] #[]))
    (hcall : ∀ W : World, Below w.heap.size w W → Calls Try.prog 67 #[.agg #[.int .u64 V, .bool D, .slice A L cp]] W (Kept g cv d nx (.func (.func 67) #[] #[]) top v zs' W)) (hzs : ys ++ (if kd.reads then zs else []) = zs') :
    Calls Try.prog 111 #[.pointer (some ⟨g, 0, none⟩), .agg #[.int .u64 V, .bool D, .slice A L cp]] w (TookIs base top g kd d r v ys zs w) := by
  have hlt := h.lt
  have hnp := Cy.nx_pos hr
  have hnl := Cy.nx_le r
  have hfew := h.few
  have hnear := Lib.hid h.near
  have hbase := h.above
  have hub := h.there
  have hug := h.under
  have hown := Lib.hid (fun k hk => h.own.ge (k := k) hk)
  have HW := (Below.refl w.heap.size w).alloc (Nat.le_refl _) (.cells #[.int .u64 V, .bool D, .slice A L cp] 49)
  have HX := Go.Deep.blk_alloc_new w (.cells #[.int .u64 V, .bool D, .slice A L cp] 49)
  rw [Cy.cks_step hr] at hcp
  have HCP := Lib.hid hcp
  obtain ⟨A0, cap, hcv, hcl, hcm, hp⟩ := hcp
  subst hcv
  obtain ⟨pb, po, rfl, hpf, hpl, hpc⟩ := hp (by simp)
  have hp0 := hpc 0 (by simp)
  have hm2 : cap ≤ 9223372036854775807 := by unfold maxLen at hcm; omega
  simp only [List.getD_cons_zero, Nat.add_zero, List.length_cons] at hp0 hcl hg hcall HCP
  have HPC := Lib.hid hpc
  have HLQ : Hid (∃ L2, (Cy.cks (r - Cy.nx r)).length = L2) := ⟨_, rfl⟩
  obtain ⟨n2, hn2⟩ := HLQ.out
  rw [hn2] at hcl hg hcall HCP
  have HN2 := Lib.hid hn2
  clear HLQ hn2 hpc hp
  have hpos2 : (0 : Int) < (n2 : Int) + 1 := by omega
  have hne0 : ¬ ((n2 : Int) + 1 = 0) := by omega
  have hbdH := Lib.hid hbd
  have hgH := Lib.hid hg
  have hcw : w.cell? ⟨g, 0, none⟩ = some (.slice (some ⟨pb, po, none⟩) (n2 + 1) cap) := by simp [World.cell?, hg]
  have hcalls := Lib.hid hcall
  have hhz := Lib.hid hzs
  have HC0 := Lib.hid h
  clear h hg hcall hbd hzs
  go_enter Try.func111, Try.ntmps111
  go_wp2_with fail
  clear hcw
  generalize hxq : w.heap.size = x
  rw [hxq] at HX HW hub hlt hpl hown
  have HXQ := Lib.hid hxq
  generalize w.alloc (.cells #[.int .u64 V, .bool D, .slice A L cp] 49) = W at HW HX ⊢
  clear hxq
  have hgW := (HW.block g hlt).trans hgH.out
  have hc3 : W.cell? ⟨g, 3, none⟩ = some (.func (.func 67) #[] #[]) := by simp [World.cell?, hgW]
  have hx0 : W.cell? ⟨x, 0, none⟩ = some (.int .u64 V) := by simp [World.cell?, HX]
  have hx1 : W.cell? ⟨x, 1, none⟩ = some (.bool D) := by simp [World.cell?, HX]
  have hx2 : W.cell? ⟨x, 2, none⟩ = some (.slice A L cp) := by simp [World.cell?, HX]
  have HGW := Lib.hid hgW
  have HHX := Lib.hid HX
  clear hgW HX
  go_region_held3 (fun w' => w'.cell? ⟨g, 3, none⟩ = some (.func (.func 67) #[] #[]) ∧ w'.cell? ⟨x, 0, none⟩ = some (.int .u64 V) ∧ w'.cell? ⟨x, 1, none⟩ = some (.bool D) ∧ w'.cell? ⟨x, 2, none⟩ = some (.slice A L cp)) (go_keep)
    (first | (go_at_call 67; refine (hcalls.out _ (HXQ.out ▸ HW.drew)).mono ?_; rintro e w1 ⟨v1, rfl, hg1, ho1, ht1, hl1⟩; have hxg := (ht1.block x (Array.getElem?_eq_some_iff.1 HHX.out).1 (fun hm => by rcases hm with hm | hm; omega; have := hown.out x hm; omega)).trans HHX.out; have hk3 : w1.cell? ⟨g, 3, none⟩ = some (.func (.func 67) #[] #[]) := (by simp [World.cell?, hg1]); have hy0 : w1.cell? ⟨x, 0, none⟩ = some (.int .u64 V) := (by simp [World.cell?, hxg]); have hy1 : w1.cell? ⟨x, 1, none⟩ = some (.bool D) := (by simp [World.cell?, hxg]); have hy2 : w1.cell? ⟨x, 2, none⟩ = some (.slice A L cp) := (by simp [World.cell?, hxg]); have HG1 := Lib.hid hg1; have HO1 := Lib.hid ho1; have HT1 := Lib.hid ht1; have HL1 := Lib.hid hl1; clear hg1 ho1 ht1 hl1 hxg))
  have hh0 : w1.cell? ⟨g, 0, none⟩ = some (.slice (some ⟨pb, po, none⟩) (n2 + 1) cap) := by simp [World.cell?, HG1.out]
  have hh1 : w1.cell? ⟨g, 1, none⟩ = some (.int .i64 d) := by simp [World.cell?, HG1.out]
  have hf0 : w1.frozen? ⟨g, 0, none⟩ = false := by simp [World.frozen?, HG1.out]
  have hf1 : w1.frozen? ⟨g, 1, none⟩ = false := by simp [World.frozen?, HG1.out]
  have hpb1 := ((HT1.out.block pb (Nat.lt_of_lt_of_le hpl (HXQ.out ▸ HW.size)) (fun hm => by rcases hm with hm | hm; exact hpf.2.2 hm; have := hown.out pb hm; have := hpf.2.1; omega)).trans (HW.block pb hpl))
  have hp1 : w1.cell? ⟨pb, po, none⟩ = some (.int .i64 (Cy.nx r : Nat)) := (World.cell?_of_block (w := w) (a := ⟨pb, po, none⟩) hpb1).trans hp0
  have hpg : pb ≠ g := hpf.2.2
  have hpos3 : 0 < n2 + 1 := by omega
  clear hpb1 hc3 hx0 hx1 hx2 hy0 hy1 hy2 hk3
  go_wp2_with fail
  go_region
  have hsl1 : (1 : Int) ≤ (n2 : Int) + 1 := by omega
  have hsl2 : (n2 : Int) + 1 ≤ cap := by omega
  by_cases hc1 : cap = 1
  · subst hc1
    have hn20 : n2 = 0 := by omega
    subst hn20
    go_wp2
    go_end0
    exact took_end (po' := po) (cap' := 0) HC0.out hbdH.out HCP.out HN2.out hhz.out (HXQ.out ▸ HW.drew) HT1.out HL1.out HO1.out HG1.out (fun h => absurd h (Nat.lt_irrefl 0)) (Nat.le_refl _) (by omega)
  · go_wp2
    go_end0
    exact took_end (po' := po + 1) (cap' := cap - 1) HC0.out hbdH.out HCP.out HN2.out hhz.out (HXQ.out ▸ HW.drew) HT1.out HL1.out HO1.out HG1.out (fun _ => rfl) (by omega) (by omega)


theorem TookIs.from_ {kd : Kd} {w W w' : World} {base top g d r : Nat} {v : Value} {ys zs : List Int} {e : Ending} (HW : Below w.heap.size w W) (h : TookIs base top g kd d r v ys zs W e w') : TookIs base top g kd d r v ys zs w e w' := by
  obtain ⟨v', he, hc, ht, hl⟩ := h
  refine ⟨v', he, hc, (Touch.of_below HW).trans ht, fun k hk => ?_⟩
  rcases hl k hk with e | e
  · exact .inl e
  · exact .inr (Nat.le_trans HW.size e)

theorem stepsTake_any {kd : Kd} {w : World} {base top g d r : Nat} {v : Value} {ys zs : List Int} (h : Cp w base top g kd d r v ys) (hr : 0 < r) (V : Nat) (D : Bool) (A : Option Addr) (L cp : Nat) (hz : BytesAt w (.slice A L cp) zs) (hl : ys.length + zs.length ≤ 1073741824) :
    Calls Try.prog 111 #[.pointer (some ⟨g, 0, none⟩), .agg #[.int .u64 V, .bool D, .slice A L cp]] w (TookIs base top g kd d r v ys zs w) := by
  obtain ⟨cv, nx, th, hg, hcp, hbd⟩ := h.head
  have hb := hbd (by omega)
  have hthen := fun (W : World) (HW : Below w.heap.size w W) => then_any kd (n := d + r) (cv := cv) (d := d) (nx := nx) (th := th) V D A L cp h.under (Nat.le_trans h.there HW.size) ((HW.block g h.lt).trans hg) (h.own.below HW) (hb.keep HW.size fun k hk => HW.block k (Nat.lt_of_lt_of_le hk.2.1 h.there)) (hz.below HW) hl
  rcases hthen w (Below.refl _ _) with ⟨b, hk, hth, _⟩ | ⟨hk, hth, _⟩
  · subst hth
    refine stepsTake_rd h hr V D A L cp zs (ys ++ zs) hg hcp hb (fun W HW => ?_) (by rw [hk]; rfl)
    rcases hthen W HW with ⟨b2, _, hth, hc⟩ | ⟨hk2, _, _⟩
    · obtain rfl : b2 = b := by simp at hth; exact hth.symm
      exact hc
    · rw [hk] at hk2; cases hk2
  · subst hth
    refine stepsTake_wr h hr V D A L cp zs ys hg hcp hb (fun W HW => ?_) (by rw [hk]; simp)
    rcases hthen W HW with ⟨b2, hk2, _, _⟩ | ⟨_, _, hc⟩
    · rw [hk] at hk2; cases hk2
    · exact hc

set_option maxRecDepth 100000 in
set_option maxHeartbeats 1000000 in
theorem take_any {kd : Kd} {w : World} {base top g d r : Nat} {v : Value} {ys zs : List Int} (h : Cp w base top g kd d r v ys) (hr : 0 < r) (V : Nat) (D : Bool) (A : Option Addr) (L cp : Nat) (hz : BytesAt w (.slice A L cp) zs) (hl : ys.length + zs.length ≤ 1073741824) :
    Calls Try.prog 109 #[.pointer (some ⟨g, 0, none⟩), .agg #[.int .u64 V, .bool D, .slice A L cp]] w (TookIs base top g kd d r v ys zs w) := by
  have hlt := h.lt
  have hub := h.there
  have hug := h.under
  have hown := Lib.hid (fun k hk => h.own.ge (k := k) hk)
  have HW := (Below.refl w.heap.size w).alloc (Nat.le_refl _) (.cells #[.int .u64 V, .bool D, .slice A L cp] 49)
  have HX := Go.Deep.blk_alloc_new w (.cells #[.int .u64 V, .bool D, .slice A L cp] 49)
  have HC := Lib.hid (stepsTake_any (h.below (HW.drew)) hr V D A L cp (hz.below HW.drew) hl)
  clear h hz
  go_enter Try.func109, Try.ntmps109
  go_wp2_with fail
  generalize w.alloc (.cells #[.int .u64 V, .bool D, .slice A L cp] 49) = W at HW HX HC ⊢
  have hx0 : W.cell? ⟨w.heap.size, 0, none⟩ = some (.int .u64 V) := by simp [World.cell?, HX]
  have hx1 : W.cell? ⟨w.heap.size, 1, none⟩ = some (.bool D) := by simp [World.cell?, HX]
  have hx2 : W.cell? ⟨w.heap.size, 2, none⟩ = some (.slice A L cp) := by simp [World.cell?, HX]
  have HHX := Lib.hid HX
  clear HX
  go_region_held3 (fun w' => w'.cell? ⟨w.heap.size, 0, none⟩ = some (.int .u64 V) ∧ w'.cell? ⟨w.heap.size, 1, none⟩ = some (.bool D) ∧ w'.cell? ⟨w.heap.size, 2, none⟩ = some (.slice A L cp)) (go_keep)
    (first | (go_at_call 111; refine HC.out.mono ?_; rintro e w1 ⟨v1, rfl, hc1, ht1, hl1⟩; have hxg := (ht1.block w.heap.size (Array.getElem?_eq_some_iff.1 HHX.out).1 (fun hm => by rcases hm with hm | hm; omega; have := hown.out _ hm; omega)).trans HHX.out; have hy0 : w1.cell? ⟨w.heap.size, 0, none⟩ = some (.int .u64 V) := (by simp [World.cell?, hxg]); have hy1 : w1.cell? ⟨w.heap.size, 1, none⟩ = some (.bool D) := (by simp [World.cell?, hxg]); have hy2 : w1.cell? ⟨w.heap.size, 2, none⟩ = some (.slice A L cp) := (by simp [World.cell?, hxg]); have HH1 := Lib.hid (show TookIs base top g kd d r v ys zs W.drew (.returned (.tuple #[])) w1 from ⟨v1, rfl, hc1, ht1, hl1⟩); clear hc1 ht1 hl1 hxg))
  go_wp2
  go_end0
  exact HH1.out.from_ HW.drew

set_option maxRecDepth 100000 in
set_option maxHeartbeats 1000000 in
theorem take_no {kd : Kd} {w : World} {base top g d : Nat} {v : Value} {ys : List Int} (h : Cp w base top g kd d 0 v ys) (V : Nat) (D : Bool) (A : Option Addr) (L cp : Nat) :
    Calls Try.prog 109 #[.pointer (some ⟨g, 0, none⟩), .agg #[.int .u64 V, .bool D, .slice A L cp]] w (Made (.tuple #[]) w) := by
  have HW := (Below.refl w.heap.size w).alloc (Nat.le_refl _) (.cells #[.int .u64 V, .bool D, .slice A L cp] 49)
  have HX := Go.Deep.blk_alloc_new w (.cells #[.int .u64 V, .bool D, .slice A L cp] 49)
  have HC := Lib.hid (stepsTake_no (h.below (HW.drew)) V D A L cp)
  clear h
  go_enter Try.func109, Try.ntmps109
  go_wp2_with fail
  generalize w.alloc (.cells #[.int .u64 V, .bool D, .slice A L cp] 49) = W at HW HX HC ⊢
  have hx0 : W.cell? ⟨w.heap.size, 0, none⟩ = some (.int .u64 V) := by simp [World.cell?, HX]
  have hx1 : W.cell? ⟨w.heap.size, 1, none⟩ = some (.bool D) := by simp [World.cell?, HX]
  have hx2 : W.cell? ⟨w.heap.size, 2, none⟩ = some (.slice A L cp) := by simp [World.cell?, HX]
  have HHX := Lib.hid HX
  clear HX
  go_region_held3 (fun w' => w'.cell? ⟨w.heap.size, 0, none⟩ = some (.int .u64 V) ∧ w'.cell? ⟨w.heap.size, 1, none⟩ = some (.bool D) ∧ w'.cell? ⟨w.heap.size, 2, none⟩ = some (.slice A L cp)) (go_keep)
    (first | (go_at_call 111; refine HC.out.mono ?_; rintro e w1 ⟨rfl, hb1⟩; have hxg := (hb1.block w.heap.size (Array.getElem?_eq_some_iff.1 HHX.out).1).trans HHX.out; have hy0 : w1.cell? ⟨w.heap.size, 0, none⟩ = some (.int .u64 V) := (by simp [World.cell?, hxg]); have hy1 : w1.cell? ⟨w.heap.size, 1, none⟩ = some (.bool D) := (by simp [World.cell?, hxg]); have hy2 : w1.cell? ⟨w.heap.size, 2, none⟩ = some (.slice A L cp) := (by simp [World.cell?, hxg]); clear hxg))
  go_wp2
  go_end0
  exact ⟨rfl, HW.drew.trans (hb1.mono HW.size)⟩

set_option maxRecDepth 100000 in
set_option maxHeartbeats 400000 in
theorem take_nil (V : Nat) (D : Bool) (A : Option Addr) (L cp : Nat) (w : World) :
    Calls Try.prog 109 #[.pointer none, .agg #[.int .u64 V, .bool D, .slice A L cp]] w (Made (.tuple #[]) w) := by
  go_enter Try.func109, Try.ntmps109
  go_wp2
  go_end0
  exact ⟨rfl, (Below.refl _ w).alloc (Nat.le_refl _) _⟩
end Go.Proofs.Ytegjnejekakeiaa
namespace Go.Proofs.Ytegjnejekakeiaa
open Go.RowKit

/-- An access: its numbers, its bytes. -/
structure Ac where
  K : Int
  P : Int
  N : Int
  V : Nat
  U : Nat
  bs : List Int
/-- No access. -/
def Ac.zero : Ac := ⟨0, 0, 0, 0, 0, []⟩
/-- An answer. -/
structure An where
  V : Nat
  D : Bool
  bs : List Int
/-- No answer. -/
def An.zero : An := ⟨0, false, []⟩
/-- A pick. -/
structure Pk where
  K : Int
  A : Int
  N : Int
/-- An event. -/
structure Ev where
  pk : Pk
  ac : Ac
  an : An
/-- No event. -/
def Ev.zero : Ev := ⟨⟨0, 0, 0⟩, Ac.zero, An.zero⟩
/-- An event without an access. -/
def Ev.bare (p : Pk) : Ev := ⟨p, Ac.zero, An.zero⟩

/-- Bytes as a function of their places. -/
def fnOf (bs : List Int) : Nat → Nat := fun i => (bs.getD i 0).toNat
/-- The numbers are bytes. -/
def Bys (bs : List Int) : Prop := ∀ x ∈ bs, 0 ≤ x ∧ x < 256

theorem fnOf_isB {bs : List Int} (h : Bys bs) : Mb.IsB (fnOf bs) := fun i => by
  unfold fnOf
  rcases Nat.lt_or_ge i bs.length with hi | hi
  · have hm := h (bs[i]) (List.getElem_mem hi)
    have e : bs.getD i 0 = bs[i] := by simp [List.getD, hi]
    rw [e]
    omega
  · have e : bs.getD i 0 = 0 := by simp [List.getD, hi]
    rw [e]; decide

theorem bl_fnOf {bs : List Int} (h : Bys bs) : Mb.bl (fnOf bs) 0 bs.length = bs := by
  apply List.ext_getElem
  · simp [Mb.bl]
  · intro i h1 h2
    have hm := h (bs[i]) (List.getElem_mem h2)
    have e : bs.getD i 0 = bs[i] := by simp [List.getD, h2]
    simp only [Mb.bl, List.getElem_map, List.getElem_range, Nat.zero_add, fnOf, e]
    omega

theorem Bys.nil : Bys [] := fun _ h => by cases h
theorem Bys.bl {m : Nat → Nat} (h : Mb.IsB m) (a n : Nat) : Bys (Mb.bl m a n) := fun x hx => by
  obtain ⟨i, _, rfl⟩ := List.mem_map.1 hx
  have := h (a + i)
  omega

namespace Ac
/-- The error of an access to a buffer of n words. -/
def err (a : Ac) (n : Nat) : Int := chk (8 * (n : Int)) a.K a.P a.N a.bs.length
/-- What it tells. -/
def ans (a : Ac) (m : Nat → Nat) : An := ⟨Mb.ansV m a.K a.P.toNat a.N.toNat, Mb.ansD m a.K a.P.toNat a.N.toNat a.V, Mb.ansB m a.K a.P.toNat a.N.toNat⟩
/-- The bytes behind it. -/
def aft (a : Ac) (m : Nat → Nat) : Nat → Nat := Mb.aft m a.K a.P.toNat a.N.toNat a.V a.U (fnOf a.bs)
/-- Its numbers are numbers, its bytes bytes. -/
structure Fine (a : Ac) : Prop where
  v : a.V < 18446744073709551616
  u : a.U < 18446744073709551616
  k0 : -9223372036854775808 ≤ a.K ∧ a.K ≤ 9223372036854775807
  p0 : -9223372036854775808 ≤ a.P ∧ a.P ≤ 9223372036854775807
  n0 : -9223372036854775808 ≤ a.N ∧ a.N ≤ 9223372036854775807
  bys : Bys a.bs
  few : a.bs.length ≤ 1073741824
end Ac

theorem ansB_few {m : Nat → Nat} {K : Int} {a k : Nat} (hk : k ≤ 8) : (Mb.ansB m K a k).length ≤ 8 := by
  unfold Mb.ansB
  split
  · rw [Mb.bl_length]; exact hk
  · simp

theorem ansB_bys {m : Nat → Nat} (h : Mb.IsB m) (K : Int) (a k : Nat) : Bys (Mb.ansB m K a k) := by
  unfold Mb.ansB
  split
  · exact Bys.bl h _ _
  · exact Bys.nil

theorem nm_in {m : Nat → Nat} (h : Mb.IsB m) (a k : Nat) (hk : k ≤ 8) : Mb.nm m a k < 18446744073709551616 :=
  Nat.lt_of_lt_of_le (Mb.nm_lt h a k) (Nat.pow_le_pow_right (n := 2) (i := 8 * k) (j := 64) (by decide) (by omega))

theorem ansV_in {m : Nat → Nat} (h : Mb.IsB m) (K : Int) (a k : Nat) (hk : k ≤ 8) : Mb.ansV m K a k < 18446744073709551616 := by
  unfold Mb.ansV
  split
  · exact nm_in h a k hk
  · decide

theorem aft_isB {m : Nat → Nat} (h : Mb.IsB m) (K : Int) (a k v u : Nat) (f : Nat → Nat) : Mb.IsB (Mb.aft m K a k v u f) := by
  unfold Mb.aft
  split
  · exact Mb.put_isB h _ _ _
  · split
    · exact Mb.put_isB h _ _ _
    · split
      · split
        · exact Mb.put_isB h _ _ _
        · exact h
      · split
        · exact Mb.put_isB h _ _ _
        · exact h

/-- The answer of an access that may be. -/
structure An.Fine (x : An) : Prop where
  v : x.V < 18446744073709551616
  bys : Bys x.bs
  few : x.bs.length ≤ 8

theorem Ac.ans_fine (a : Ac) {m : Nat → Nat} {n : Nat} (hm : Mb.IsB m) (h : a.err n = 0) : (a.ans m).Fine := by
  obtain ⟨hf, _⟩ := chk_ok h
  have hl := formed_len hf
  exact ⟨ansV_in hm _ _ _ (by omega), ansB_bys hm _ _ _, ansB_few (by omega)⟩

theorem Ac.aft_isB (a : Ac) {m : Nat → Nat} (hm : Mb.IsB m) : Mb.IsB (a.aft m) := Go.Proofs.Ytegjnejekakeiaa.aft_isB hm _ _ _ _ _ _

/-- A function with one value turned. -/
def upd {α : Type} (f : Nat → α) (i : Nat) (v : α) : Nat → α := fun j => if j = i then v else f j
theorem upd_same {α : Type} (f : Nat → α) (i : Nat) (v : α) : upd f i v i = v := if_pos rfl
theorem upd_other {α : Type} (f : Nat → α) (i : Nat) (v : α) {j : Nat} (h : j ≠ i) : upd f i v j = f j := if_neg h

theorem blkS {w : World} {g i : Nat} {cs : Array Value} {t : TypeId} (h : w.heap[g]? = some (.cells cs t (0, 0))) (u : Value) : (w.setCell ⟨g, i, none⟩ u).heap[g]? = some (.cells (cs.setIfInBounds i u) t (0, 0)) := by
  simp [World.setCell, Array.getElem?_modify, h]
theorem blkF {w : World} {g g' i : Nat} {o : Obj} (h : w.heap[g]? = some o) (hn : g ≠ g') (u : Value) : (w.setCell ⟨g', i, none⟩ u).heap[g]? = some o := (Below.heap_setCell w ⟨g', i, none⟩ u g hn).trans h
end Go.Proofs.Ytegjnejekakeiaa
namespace Go.Proofs.Ytegjnejekakeiaa
open Go.RowKit

/-- A machine: none, or a copy. -/
inductive Mc where
  | none
  | copy (kd : Kd) (d r : Nat) (ys : List Int)

/-- What a copy writes are bytes. -/
def Kd.Okay : Kd → Prop
  | .wr _ f => Mb.IsB f
  | _ => True

theorem Kd.bytes_bys {kd : Kd} (h : kd.Okay) (d c : Nat) : Bys (kd.bytes d c) := by
  cases kd with
  | wr a f => exact Bys.bl h d c
  | ze a => exact Bys.bl (m := fun _ => 0) Mb.zero_isB d c
  | rd a => exact Bys.nil

theorem Kd.bytes_few (kd : Kd) (d c : Nat) : (kd.bytes d c).length ≤ c := by
  cases kd with
  | wr a f => exact Nat.le_of_eq (Mb.bl_length _ _ _)
  | ze a => simp [Kd.bytes, Mb.bl]
  | rd a => exact Nat.zero_le _

namespace Mc
/-- The next access. -/
def next : Mc → Option Ac
  | .none => .none
  | .copy kd d r _ => if r = 0 then .none else some ⟨kd.kind, kd.place + d, Cy.nx r, 0, 0, kd.bytes d (Cy.nx r)⟩
/-- An answer is taken. -/
def take : Mc → An → Mc
  | .none, _ => .none
  | .copy kd d r ys, x => if r = 0 then .copy kd d r ys else .copy kd (d + Cy.nx r) (r - Cy.nx r) (ys ++ if kd.reads then x.bs else [])
/-- The clock is told. -/
def tick (s : Mc) (_ : Int) : Mc := s
theorem next_copy (kd : Kd) (d r : Nat) (ys : List Int) : (Mc.copy kd d r ys).next = if r = 0 then .none else some ⟨kd.kind, kd.place + d, Cy.nx r, 0, 0, kd.bytes d (Cy.nx r)⟩ := rfl
theorem take_copy (kd : Kd) (d r : Nat) (ys : List Int) (x : An) : (Mc.copy kd d r ys).take x = if r = 0 then .copy kd d r ys else .copy kd (d + Cy.nx r) (r - Cy.nx r) (ys ++ if kd.reads then x.bs else []) := rfl
end Mc

/-- A machine stands in the blocks F; x is the interface's value. -/
def MRep (w : World) (F : Nat → Prop) (x : Value) : Mc → Prop
  | .none => x = .nilIface
  | .copy kd d r ys => ∃ base top g v, x = .iface 70 (.pointer (some ⟨g, 0, none⟩)) ∧ Cp w base top g kd d r v ys ∧ (∀ k, base ≤ k → k < top → F k) ∧ (∀ k, v.ownBlock = some k → F k) ∧ kd.Okay ∧ ys.length ≤ 8 * d

namespace MRep
variable {w w' : World} {F F' : Nat → Prop} {x : Value} {s : Mc}
theorem keep (h : MRep w F x s) (hs : w.heap.size ≤ w'.heap.size) (hb : ∀ k, F k → w'.heap[k]? = w.heap[k]?) : MRep w' F x s := by
  cases s with
  | none => exact h
  | copy kd d r ys =>
    obtain ⟨base, top, g, v, e, hc, h1, h2, h3, h4⟩ := h
    exact ⟨base, top, g, v, e, hc.keep hs (fun k a b => hb k (h1 k a b)) (fun k hk => hb k (h2 k hk)), h1, h2, h3, h4⟩
theorem mono (h : MRep w F x s) (hF : ∀ k, F k → F' k) : MRep w F' x s := by
  cases s with
  | none => exact h
  | copy kd d r ys =>
    obtain ⟨base, top, g, v, e, hc, h1, h2, h3, h4⟩ := h
    exact ⟨base, top, g, v, e, hc, fun k a b => hF k (h1 k a b), fun k hk => hF k (h2 k hk), h3, h4⟩
/-- No machine, or an interface's value. -/
theorem shape (h : MRep w F x s) : (x = .nilIface ∧ s = .none) ∨ ∃ T y, x = .iface T y := by
  cases s with
  | none => exact .inl ⟨h, rfl⟩
  | copy kd d r ys =>
    obtain ⟨_, _, _, _, e, _⟩ := h
    exact .inr ⟨_, _, e⟩
/-- What a machine asks for is an access. -/
theorem fine (h : MRep w F x s) {a : Ac} (ha : s.next = some a) : a.Fine := by
  cases s with
  | none => cases ha
  | copy kd d r ys =>
    obtain ⟨base, top, g, v, e, hc, h1, h2, h3, h4⟩ := h
    rw [Mc.next_copy] at ha
    by_cases hr : r = 0
    · rw [if_pos hr] at ha; cases ha
    · rw [if_neg hr] at ha
      injection ha with ha
      subst ha
      have hn := Cy.nx_le r
      have hf := hc.few
      have hp := hc.near
      have hb := kd.bytes_few d (Cy.nx r)
      refine ⟨by show (0:Nat) < _; decide, by show (0:Nat) < _; decide, ?_, ?_, ?_, Kd.bytes_bys h3 _ _, ?_⟩
      · show _ ≤ kd.kind ∧ kd.kind ≤ _
        cases kd <;> (simp [Kd.kind])
      · show _ ≤ kd.place + (d : Int) ∧ kd.place + (d : Int) ≤ _
        omega
      · show _ ≤ ((Cy.nx r : Nat) : Int) ∧ ((Cy.nx r : Nat) : Int) ≤ _
        omega
      · show (kd.bytes d (Cy.nx r)).length ≤ _
        omega
end MRep

/-- The two blocks that a closure hands its results in. -/
def Pair (a b k : Nat) : Prop := k = a ∨ k = b

/-- What a machine wants stands in block pa; whether it wants anything in block po. -/
def Asked (o : Option Ac) (pa po : Nat) (w w' : World) : Prop :=
  Touch (Pair pa po) w w' ∧ match o with
  | none => w'.heap[pa]? = some (.cells #[.int .i64 0, .int .i64 0, .int .i64 0, .int .u64 0, .int .u64 0, .slice none 0 0] 47 (0, 0)) ∧ w'.heap[po]? = some (.cells #[.bool false] 4 (0, 0))
  | some a => ∃ A l c, w'.heap[pa]? = some (.cells #[.int .i64 a.K, .int .i64 a.P, .int .i64 a.N, .int .u64 a.V, .int .u64 a.U, .slice A l c] 47 (0, 0)) ∧ w'.heap[po]? = some (.cells #[.bool true] 4 (0, 0)) ∧
      BytesAt w' (.slice A l c) a.bs

theorem method_next (n : Nat) (g : Nat) (w : World) : (method (n + 100) 70 (.pointer (some ⟨g, 0, none⟩)) "Next").run Try.prog w = .ok (108, .pointer (some ⟨g, 0, none⟩)) w := by kernel_rfl
theorem method_next_at (g F : Nat) (w : World) (h : 100 ≤ F) : (method F 70 (.pointer (some ⟨g, 0, none⟩)) "Next").run Try.prog w = .ok (108, .pointer (some ⟨g, 0, none⟩)) w := by
  obtain ⟨n, rfl⟩ : ∃ n, F = n + 100 := ⟨F - 100, by omega⟩
  exact method_next n g w
theorem method_take (n : Nat) (g : Nat) (w : World) : (method (n + 100) 70 (.pointer (some ⟨g, 0, none⟩)) "Take").run Try.prog w = .ok (109, .pointer (some ⟨g, 0, none⟩)) w := by kernel_rfl
theorem method_take_at (g F : Nat) (w : World) (h : 100 ≤ F) : (method F 70 (.pointer (some ⟨g, 0, none⟩)) "Take").run Try.prog w = .ok (109, .pointer (some ⟨g, 0, none⟩)) w := by
  obtain ⟨n, rfl⟩ : ∃ n, F = n + 100 := ⟨F - 100, by omega⟩
  exact method_take n g w

/-- A new place for whether. -/
structure BoolNew (b : Nat) (W : World) : Prop where
  c0 : W.cell? ⟨b, 0, none⟩ = some (.bool false)
  f0 : W.frozen? ⟨b, 0, none⟩ = false
  blk : W.heap[b]? = some (.cells #[.bool false] 4 (0, 0))
theorem BoolNew.of_blk {b : Nat} {W : World} (h : W.heap[b]? = some (.cells #[.bool false] 4 (0, 0))) : BoolNew b W := by
  refine ⟨?_, ?_, h⟩
  · simp [World.cell?, h]
  · simp [World.frozen?, h]

/-- An access and a truth, stored in two places. -/
theorem seven_blocks {W : World} {pa po : Nat} (hne : pa ≠ po) (ha : W.heap[pa]? = some (.cells #[.int .i64 0, .int .i64 0, .int .i64 0, .int .u64 0, .int .u64 0, .slice none 0 0] 47 (0, 0))) (ho : W.heap[po]? = some (.cells #[.bool false] 4 (0, 0))) (u0 u1 u2 u3 u4 u5 u6 : Value) :
    ((six W pa u0 u1 u2 u3 u4 u5).setCell ⟨po, 0, none⟩ u6).heap[pa]? = some (.cells #[u0, u1, u2, u3, u4, u5] 47 (0, 0)) ∧ ((six W pa u0 u1 u2 u3 u4 u5).setCell ⟨po, 0, none⟩ u6).heap[po]? = some (.cells #[u6] 4 (0, 0)) := by
  refine ⟨?_, ?_⟩
  · rw [Below.heap_setCell _ _ _ _ hne]
    simp [six, World.setCell, Array.getElem?_modify, ha]
  · have h6 : (six W pa u0 u1 u2 u3 u4 u5).heap[po]? = W.heap[po]? := by
      unfold six
      rw [Below.heap_setCell _ _ _ _ hne.symm, Below.heap_setCell _ _ _ _ hne.symm, Below.heap_setCell _ _ _ _ hne.symm, Below.heap_setCell _ _ _ _ hne.symm, Below.heap_setCell _ _ _ _ hne.symm, Below.heap_setCell _ _ _ _ hne.symm]
    have h7 := h6.trans ho
    simp [World.setCell, Array.getElem?_modify, h7]

theorem seven_touch {w W : World} {pa po : Nat} (h : Touch (Pair pa po) w W) (u0 u1 u2 u3 u4 u5 u6 : Value) : Touch (Pair pa po) w ((six W pa u0 u1 u2 u3 u4 u5).setCell ⟨po, 0, none⟩ u6) :=
  ((((((h.setCell (p := ⟨pa, 0, none⟩) (.inl rfl) u0).setCell (p := ⟨pa, 1, none⟩) (.inl rfl) u1).setCell (p := ⟨pa, 2, none⟩) (.inl rfl) u2).setCell (p := ⟨pa, 3, none⟩) (.inl rfl) u3).setCell (p := ⟨pa, 4, none⟩) (.inl rfl) u4).setCell (p := ⟨pa, 5, none⟩) (.inl rfl) u5).setCell (p := ⟨po, 0, none⟩) (.inr rfl) u6

set_option maxRecDepth 100000 in
set_option maxHeartbeats 400000 in
theorem nextIn_some {kd : Kd} {w : World} {base top g d r : Nat} {v : Value} {ys : List Int} (h : Cp w base top g kd d r v ys) (hr : 0 < r) (pm pa po : Nat)
    (hm : w.cell? ⟨pm, 0, none⟩ = some (.iface 70 (.pointer (some ⟨g, 0, none⟩)))) (ha : AccNew pa w) (ho : BoolNew po w) (hne : pa ≠ po) :
    Calls Try.prog 54 #[.pointer (some ⟨pm, 0, none⟩), .pointer (some ⟨pa, 0, none⟩), .pointer (some ⟨po, 0, none⟩)] w fun e w' => e = .returned (.tuple #[]) ∧ Asked (some ⟨kd.kind, kd.place + d, Cy.nx r, 0, 0, kd.bytes d (Cy.nx r)⟩) pa po w w' := by
  have HC := Lib.hid h
  have HA := Lib.hid ha
  have HO := Lib.hid ho
  clear h ha ho
  have hme := method_next_at g
  go_enter Try.func54, Try.ntmps54
  go_wp2_with (go_at_call 108; refine (next_any HC.out hr).mono ?_; rintro e w1 ⟨A, l, cp, rfl, ho, hb⟩; have hoN := BoolNew.of_blk ((hb.block po (Array.getElem?_eq_some_iff.1 HO.out.blk).1).trans HO.out.blk); have haN := HA.out.later hb; obtain ⟨a0, a1, a2, a3, a4, a5, f0, f1, f2, f3, f4, f5, ab⟩ := haN; obtain ⟨o0, z0, ob⟩ := hoN; have HH := Lib.hid (And.intro ab ob); have HOW := Lib.hid ho; clear ho ab ob)
  go_end0
  have h7 := seven_blocks hne HH.out.1 HH.out.2
  refine ⟨rfl, seven_touch (Touch.of_below hb) _ _ _ _ _ _ _, A, l, cp, (h7 _ _ _ _ _ _ _).1, (h7 _ _ _ _ _ _ _).2, ?_⟩
  have hpa := (Array.getElem?_eq_some_iff.1 HA.out.blk).1
  have hpo := (Array.getElem?_eq_some_iff.1 HO.out.blk).1
  exact ((six_own HOW.out hpa _ _ _ _ _ _).setCell (p := ⟨po, 0, none⟩) hpo _).bytes

set_option maxRecDepth 100000 in
set_option maxHeartbeats 400000 in
theorem nextIn_none {kd : Kd} {w : World} {base top g d : Nat} {v : Value} {ys : List Int} (h : Cp w base top g kd d 0 v ys) (pm pa po : Nat)
    (hm : w.cell? ⟨pm, 0, none⟩ = some (.iface 70 (.pointer (some ⟨g, 0, none⟩)))) (ha : AccNew pa w) (ho : BoolNew po w) (hne : pa ≠ po) :
    Calls Try.prog 54 #[.pointer (some ⟨pm, 0, none⟩), .pointer (some ⟨pa, 0, none⟩), .pointer (some ⟨po, 0, none⟩)] w fun e w' => e = .returned (.tuple #[]) ∧ Asked none pa po w w' := by
  have HC := Lib.hid h
  have HA := Lib.hid ha
  have HO := Lib.hid ho
  clear h ha ho
  have hme := method_next_at g
  go_enter Try.func54, Try.ntmps54
  go_wp2_with (go_at_call 108; refine (next_no HC.out).mono ?_; rintro e w1 ⟨rfl, hb⟩; have hoN := BoolNew.of_blk ((hb.block po (Array.getElem?_eq_some_iff.1 HO.out.blk).1).trans HO.out.blk); have haN := HA.out.later hb; obtain ⟨a0, a1, a2, a3, a4, a5, f0, f1, f2, f3, f4, f5, ab⟩ := haN; obtain ⟨o0, z0, ob⟩ := hoN; have HH := Lib.hid (And.intro ab ob); clear ab ob)
  go_end0
  have h7 := seven_blocks hne HH.out.1 HH.out.2
  exact ⟨rfl, seven_touch (Touch.of_below hb) _ _ _ _ _ _ _, (h7 _ _ _ _ _ _ _).1, (h7 _ _ _ _ _ _ _).2⟩

/-- What a machine wants, asked through the interface. -/
theorem nextIn_any {w : World} {F : Nat → Prop} {T : TypeId} {y : Value} {s : Mc} (h : MRep w F (.iface T y) s) (pm pa po : Nat) (hm : w.cell? ⟨pm, 0, none⟩ = some (.iface T y)) (ha : AccNew pa w) (ho : BoolNew po w) (hne : pa ≠ po) :
    Calls Try.prog 54 #[.pointer (some ⟨pm, 0, none⟩), .pointer (some ⟨pa, 0, none⟩), .pointer (some ⟨po, 0, none⟩)] w fun e w' => e = .returned (.tuple #[]) ∧ Asked s.next pa po w w' := by
  cases s with
  | none => cases h
  | copy kd d r ys =>
    obtain ⟨base, top, g, v, e, hc, h1, h2, h3, h4⟩ := h
    injection e with e1 e2
    subst e1 e2
    rw [Mc.next_copy]
    by_cases hr : r = 0
    · subst hr
      exact nextIn_none hc pm pa po hm ha ho hne
    · rw [if_neg hr]
      exact nextIn_some hc (by omega) pm pa po hm ha ho hne

/-- A machine took something: it stands in its blocks, and in new ones. -/
def Moved (F : Nat → Prop) (x : Value) (s : Mc) (w : World) (w' : World) : Prop :=
  ∃ F', MRep w' F' x s ∧ Touch F w w' ∧ (∀ k, F' k → F k ∨ (w.heap.size ≤ k ∧ k < w'.heap.size))

theorem Moved.of_below {F : Nat → Prop} {x : Value} {s : Mc} {w w' : World} (h : MRep w F x s) (hlt : ∀ k, F k → k < w.heap.size) (hb : Below w.heap.size w w') : Moved F x s w w' :=
  ⟨F, h.keep hb.size fun k hk => hb.block k (hlt k hk), Touch.of_below hb, fun _ hk => .inl hk⟩

/-- A copy takes an answer. -/
theorem takeIn_copy {kd : Kd} {d r : Nat} {ys : List Int} {w : World} {F : Nat → Prop} {g : Nat} (h : MRep w F (.iface 70 (.pointer (some ⟨g, 0, none⟩))) (.copy kd d r ys)) (hlt : ∀ k, F k → k < w.heap.size) (x : An) (hx : x.Fine) (A : Option Addr) (l c : Nat) (hB : BytesAt w (.slice A l c) x.bs) :
    Calls Try.prog 109 #[.pointer (some ⟨g, 0, none⟩), .agg #[.int .u64 x.V, .bool x.D, .slice A l c]] w fun e w' => e = .returned (.tuple #[]) ∧ Moved F (.iface 70 (.pointer (some ⟨g, 0, none⟩))) ((Mc.copy kd d r ys).take x) w w' := by
  obtain ⟨base, top, g', v, e, hc, h1, h2, h3, h4⟩ := h
  injection e with e1 e2
  injection e2 with e3
  injection e3 with e4
  injection e4 with e5
  subst e5
  rw [Mc.take_copy]
  by_cases hr : r = 0
  · subst hr
    refine (take_no hc x.V x.D A l c).mono ?_
    rintro e w' ⟨rfl, hb⟩
    exact ⟨rfl, Moved.of_below (s := .copy kd d 0 ys) ⟨base, top, g, v, rfl, hc, h1, h2, h3, h4⟩ hlt hb⟩
  · rw [if_neg hr]
    have hd := hc.few
    have hxl := hx.few
    refine (take_any hc (by omega) x.V x.D A l c hB (by omega)).mono ?_
    rintro e w' ⟨v', rfl, hc', ht, hl⟩
    have hnp := Cy.nx_pos (r := r) (by omega)
    have hT : Touch F w w' := ht.mono fun k hk => by
      rcases hk with hk | hk
      · subst hk; exact h1 _ hc.above hc.under
      · exact h2 k hk
    refine ⟨rfl, fun k => F k ∨ (w.heap.size ≤ k ∧ k < w'.heap.size), ⟨base, top, g, v', rfl, hc', fun k a b => .inl (h1 k a b), fun k hk => ?_, h3, ?_⟩, hT, fun k hk => hk⟩
    · rcases hl k hk with e | e
      · exact .inl (h2 k e)
      · exact .inr ⟨e, (hc'.own.ge hk).2⟩
    · rw [List.length_append]
      split
      · omega
      · simp; omega
end Go.Proofs.Ytegjnejekakeiaa
namespace Go.Proofs.Ytegjnejekakeiaa
open Go.RowKit

/-- What a machine wants next is told, its bytes in new memory. -/
def NextTold (o : Option Ac) (w : World) (e : Ending) (w' : World) : Prop :=
  Below w.heap.size w w' ∧ match o with
  | none => e = .returned (.tuple #[.agg #[.int .i64 0, .int .i64 0, .int .i64 0, .int .u64 0, .int .u64 0, .slice none 0 0], .bool false])
  | some a => ∃ A l c, e = .returned (.tuple #[.agg #[.int .i64 a.K, .int .i64 a.P, .int .i64 a.N, .int .u64 a.V, .int .u64 a.U, .slice A l c], .bool true]) ∧ Owns w.heap.size w' (.slice A l c) a.bs

theorem pair_below {w W W' : World} {B a b : Nat} (h : Below B w W) (ht : Touch (Pair a b) W W') (hB : B ≤ W.heap.size) (ha : B ≤ a) (hb : B ≤ b) : Below B w W' := ht.below h hB fun k hk => by rcases hk with rfl | rfl <;> assumption

theorem clone_none (w : World) : Calls Try.prog 44 #[.slice none 0 0] w fun e w' => e = .returned (.slice none 0 0) ∧ w = w' := by
  have heq := fun (w : World) (a : Option Addr) => Lib.run_eql_slice_nil (P := Try.prog) w 26 5 a 0 0 0 0 Try.underlying26
  go_enter Try.func44, Try.ntmps44
  go_wp2
  go_ret
  exact ⟨rfl, rfl⟩

set_option maxRecDepth 100000 in
set_option maxHeartbeats 400000 in
theorem next_nilIface (w : World) : Calls Try.prog 30 #[.nilIface] w (NextTold none w) := by
  have HW := (((Below.refl w.heap.size w).alloc (Nat.le_refl _) (.cells #[.nilIface] 85)).alloc (by simp) (.cells #[.int .i64 0, .int .i64 0, .int .i64 0, .int .u64 0, .int .u64 0, .slice none 0 0] 47)).alloc (by simp; omega) (.cells #[.bool false] 4)
  have hA := Go.Deep.blk_alloc_new (w.alloc (.cells #[.nilIface] 85)) (.cells #[.int .i64 0, .int .i64 0, .int .i64 0, .int .u64 0, .int .u64 0, .slice none 0 0] 47)
  have hA2 := (Below.heap_alloc _ (.cells #[.bool false] 4) _ (by simp)).trans hA
  have e1 : (w.alloc (.cells #[.nilIface] 85)).heap.size = w.heap.size + 1 := by simp
  rw [e1] at hA2
  have HA := AccNew.of_blk hA2
  have hO := Go.Deep.blk_alloc_new ((w.alloc (.cells #[.nilIface] 85)).alloc (.cells #[.int .i64 0, .int .i64 0, .int .i64 0, .int .u64 0, .int .u64 0, .slice none 0 0] 47)) (.cells #[.bool false] 4)
  have e2 : ((w.alloc (.cells #[.nilIface] 85)).alloc (.cells #[.int .i64 0, .int .i64 0, .int .i64 0, .int .u64 0, .int .u64 0, .slice none 0 0] 47)).heap.size = w.heap.size + 1 + 1 := by simp
  rw [e2] at hO
  have HO := BoolNew.of_blk hO
  clear hA hA2 e1 hO e2
  go_enter Try.func30, Try.ntmps30
  go_wp2_with fail
  generalize ((w.alloc (.cells #[.nilIface] 85)).alloc (.cells #[.int .i64 0, .int .i64 0, .int .i64 0, .int .u64 0, .int .u64 0, .slice none 0 0] 47)).alloc (.cells #[.bool false] 4) = W at HW HA HO ⊢
  obtain ⟨a0, a1, a2, a3, a4, a5, f0, f1, f2, f3, f4, f5, ab⟩ := HA
  obtain ⟨o0, z0, ob⟩ := HO
  refine bodyPost_ret (v := .tuple #[.agg #[.int .i64 0, .int .i64 0, .int .i64 0, .int .u64 0, .int .u64 0, .slice none 0 0], .bool false]) (by simp [results, Try.results30, go_sem, a0, a1, a2, a3, a4, a5, o0]) rfl ?_
  exact ⟨HW, rfl⟩

/-- The machine's box, the place for an access, the place for whether. -/
theorem next_boxes (w : World) (x : Value) (W : World) (hW : W = ((w.alloc (.cells #[x] 85)).alloc (.cells #[.int .i64 0, .int .i64 0, .int .i64 0, .int .u64 0, .int .u64 0, .slice none 0 0] 47)).alloc (.cells #[.bool false] 4)) :
    Below w.heap.size w W ∧ W.cell? ⟨w.heap.size, 0, none⟩ = some x ∧ AccNew (w.heap.size + 1) W ∧ BoolNew (w.heap.size + 1 + 1) W := by
  subst hW
  have HW := (((Below.refl w.heap.size w).alloc (Nat.le_refl _) (.cells #[x] 85)).alloc (by simp) (.cells #[.int .i64 0, .int .i64 0, .int .i64 0, .int .u64 0, .int .u64 0, .slice none 0 0] 47)).alloc (by simp; omega) (.cells #[.bool false] 4)
  have hX := Go.Deep.blk_alloc_new w (.cells #[x] 85)
  have hX2 := (Below.heap_alloc _ (.cells #[.bool false] 4) _ (by simp; omega)).trans ((Below.heap_alloc _ (.cells #[.int .i64 0, .int .i64 0, .int .i64 0, .int .u64 0, .int .u64 0, .slice none 0 0] 47) _ (by simp)).trans hX)
  have hA := Go.Deep.blk_alloc_new (w.alloc (.cells #[x] 85)) (.cells #[.int .i64 0, .int .i64 0, .int .i64 0, .int .u64 0, .int .u64 0, .slice none 0 0] 47)
  have hA2 := (Below.heap_alloc _ (.cells #[.bool false] 4) _ (by simp)).trans hA
  have e1 : (w.alloc (.cells #[x] 85)).heap.size = w.heap.size + 1 := by simp
  rw [e1] at hA2
  have hO := Go.Deep.blk_alloc_new ((w.alloc (.cells #[x] 85)).alloc (.cells #[.int .i64 0, .int .i64 0, .int .i64 0, .int .u64 0, .int .u64 0, .slice none 0 0] 47)) (.cells #[.bool false] 4)
  have e2 : ((w.alloc (.cells #[x] 85)).alloc (.cells #[.int .i64 0, .int .i64 0, .int .i64 0, .int .u64 0, .int .u64 0, .slice none 0 0] 47)).heap.size = w.heap.size + 1 + 1 := by simp
  rw [e2] at hO
  exact ⟨HW, by simp [World.cell?, hX2], AccNew.of_blk hA2, BoolNew.of_blk hO⟩

theorem enter_next (caps : Array Value) (w : World) : (callFunc 54 caps).run Try.prog w = .ok (.enter 54 caps) w := by
  simp [go_sem]

set_option maxRecDepth 100000 in
set_option maxHeartbeats 400000 in
theorem next_some {w : World} {F : Nat → Prop} {T : TypeId} {y : Value} {s : Mc} {a : Ac} (h : MRep w F (.iface T y) s) (hlt : ∀ k, F k → k < w.heap.size) (ha : s.next = some a) :
    Calls Try.prog 30 #[.iface T y] w (NextTold (some a) w) := by
  have hmf : ∀ (fn : Fn) (first cap : Array Value) (w : World), (Instr.makeFunc fn first cap).run Try.prog w = .ok (.func fn first cap) w := fun _ _ _ _ => rfl
  have HH := Lib.hid h
  have HL := Lib.hid hlt
  have HFI := Lib.hid (h.fine ha)
  have HN := Lib.hid ha
  clear h hlt ha
  obtain ⟨WW, hWW⟩ : ∃ WW, WW = ((w.alloc (.cells #[.iface T y] 85)).alloc (.cells #[.int .i64 0, .int .i64 0, .int .i64 0, .int .u64 0, .int .u64 0, .slice none 0 0] 47)).alloc (.cells #[.bool false] 4) := ⟨_, rfl⟩
  have HB := Lib.hid (next_boxes w (.iface T y) WW hWW)
  go_enter Try.func30, Try.ntmps30
  go_wp2_with fail
  rw [← hWW]
  clear hWW
  obtain ⟨hb0, hx0, hA0, hO0⟩ := HB.out
  refine (caught_any _ _ WW (enter_next _) (nextIn_any (HH.out.keep hb0.size fun k hk => hb0.block k (HL.out k hk)) w.heap.size (w.heap.size + 1) (w.heap.size + 1 + 1) hx0 hA0 hO0 (by omega))).mono ?_
  rintro e w1 ⟨rfl, ht, hm⟩
  rw [HN.out] at hm
  obtain ⟨A, l, c, hp, ho, hby⟩ := hm
  have hB1 := pair_below hb0 ht hb0.size (by omega) (by omega)
  have hl : a.bs.length = l := by obtain ⟨_, _, e, _⟩ := hby; injection e with _ e _; exact e.symm
  have hlf := HFI.out.few
  have hc5 : w1.cell? ⟨w.heap.size + 1, 5, none⟩ = some (.slice A l c) := by simp [World.cell?, hp]
  have HP := Lib.hid (And.intro hp (And.intro ho hby))
  have hs1 := (Array.getElem?_eq_some_iff.1 hp).1
  have hs2 := (Array.getElem?_eq_some_iff.1 ho).1
  clear hp ho hby hb0 hx0 hA0 hO0 ht
  go_wp2_with fail
  refine (clone_sl A l c a.bs w1 HP.out.2.2 (by omega)).mono ?_
  rintro e w2 ⟨A2, c2, rfl, ho2, hb2⟩
  have hq1 := (hb2.block _ hs1).trans HP.out.1
  have hq2 := (hb2.block _ hs2).trans HP.out.2.1
  have hz5 : w2.frozen? ⟨w.heap.size + 1, 5, none⟩ = false := by simp [World.frozen?, hq1]
  have hc52 : w2.cell? ⟨w.heap.size + 1, 5, none⟩ = some (.slice A l c) := by simp [World.cell?, hq1]
  have HO2 := Lib.hid ho2
  have hq3 := blkS (i := 5) hq1 (.slice A2 l c2)
  have hq4 := blkF (i := 5) (g' := w.heap.size + 1) hq2 (by omega) (.slice A2 l c2)
  go_wp2_with fail
  have hB3 : Below w.heap.size w (w2.setCell ⟨w.heap.size + 1, 5, none⟩ (.slice A2 l c2)) := (hB1.trans (hb2.mono hB1.size)).setCell (Nat.le_succ _) _
  have HO3 := Lib.hid (HO2.out.setCell (p := ⟨w.heap.size + 1, 5, none⟩) (by show w.heap.size + 1 < w1.heap.size; omega) (.slice A2 l c2))
  generalize w2.setCell ⟨w.heap.size + 1, 5, none⟩ (.slice A2 l c2) = W3 at hq3 hq4 hB3 HO3 ⊢
  have hq5 : W3.heap[w.heap.size + 1]? = some (.cells #[.int .i64 a.K, .int .i64 a.P, .int .i64 a.N, .int .u64 a.V, .int .u64 a.U, .slice A2 l c2] 47 (0, 0)) := hq3
  have HACC := Lib.hid hq5
  have a0 : W3.cell? ⟨w.heap.size + 1, 0, none⟩ = some (.int .i64 a.K) := by simp [World.cell?, hq5]
  have a1 : W3.cell? ⟨w.heap.size + 1, 1, none⟩ = some (.int .i64 a.P) := by simp [World.cell?, hq5]
  have a2 : W3.cell? ⟨w.heap.size + 1, 2, none⟩ = some (.int .i64 a.N) := by simp [World.cell?, hq5]
  have a3 : W3.cell? ⟨w.heap.size + 1, 3, none⟩ = some (.int .u64 a.V) := by simp [World.cell?, hq5]
  have a4 : W3.cell? ⟨w.heap.size + 1, 4, none⟩ = some (.int .u64 a.U) := by simp [World.cell?, hq5]
  have a5 : W3.cell? ⟨w.heap.size + 1, 5, none⟩ = some (.slice A2 l c2) := by simp [World.cell?, hq5]
  have f0 : W3.frozen? ⟨w.heap.size + 1, 0, none⟩ = false := by simp [World.frozen?, hq5]
  have f1 : W3.frozen? ⟨w.heap.size + 1, 1, none⟩ = false := by simp [World.frozen?, hq5]
  have f2 : W3.frozen? ⟨w.heap.size + 1, 2, none⟩ = false := by simp [World.frozen?, hq5]
  have f3 : W3.frozen? ⟨w.heap.size + 1, 3, none⟩ = false := by simp [World.frozen?, hq5]
  have f4 : W3.frozen? ⟨w.heap.size + 1, 4, none⟩ = false := by simp [World.frozen?, hq5]
  have f5 : W3.frozen? ⟨w.heap.size + 1, 5, none⟩ = false := by simp [World.frozen?, hq5]
  have o0 : W3.cell? ⟨w.heap.size + 1 + 1, 0, none⟩ = some (.bool true) := by simp [World.cell?, hq4]
  have z0 : W3.frozen? ⟨w.heap.size + 1 + 1, 0, none⟩ = false := by simp [World.frozen?, hq4]
  clear hq1 hq2 hq3 hq4 hq5 hz5 hb2 HO2 ho2 hc5 hB1 hc52
  go_region
  all_goals go_wp2
  refine bodyPost_ret (v := .tuple #[.agg #[.int .i64 a.K, .int .i64 a.P, .int .i64 a.N, .int .u64 a.V, .int .u64 a.U, .slice A2 l c2], .bool true]) (by simp [results, Try.results30, go_sem, a0, a1, a2, a3, a4, a5, o0]) rfl ?_
  refine ⟨?_, A2, l, c2, rfl, ?_⟩
  · exact (seven_touch (pa := w.heap.size + 1) (po := w.heap.size + 1 + 1) (w := W3) (Touch.refl _ _) (.int .i64 a.K) (.int .i64 a.P) (.int .i64 a.N) (.int .u64 a.V) (.int .u64 a.U) (.slice A2 l c2) (.bool true)).drew.below hB3 hB3.size (fun k hk => by rcases hk with rfl | rfl <;> omega)
  · exact (((six_own HO3.out (b := w.heap.size + 1) hs1 _ _ _ _ _ _).setCell (p := ⟨w.heap.size + 1 + 1, 0, none⟩) hs2 _).drew).down (by omega)


set_option maxRecDepth 100000 in
set_option maxHeartbeats 400000 in
theorem next_end {w : World} {F : Nat → Prop} {T : TypeId} {y : Value} {s : Mc} (h : MRep w F (.iface T y) s) (hlt : ∀ k, F k → k < w.heap.size) (ha : s.next = none) :
    Calls Try.prog 30 #[.iface T y] w (NextTold none w) := by
  have hmf : ∀ (fn : Fn) (first cap : Array Value) (w : World), (Instr.makeFunc fn first cap).run Try.prog w = .ok (.func fn first cap) w := fun _ _ _ _ => rfl
  have HH := Lib.hid h
  have HL := Lib.hid hlt
  have HN := Lib.hid ha
  clear h hlt ha
  obtain ⟨WW, hWW⟩ : ∃ WW, WW = ((w.alloc (.cells #[.iface T y] 85)).alloc (.cells #[.int .i64 0, .int .i64 0, .int .i64 0, .int .u64 0, .int .u64 0, .slice none 0 0] 47)).alloc (.cells #[.bool false] 4) := ⟨_, rfl⟩
  have HB := Lib.hid (next_boxes w (.iface T y) WW hWW)
  go_enter Try.func30, Try.ntmps30
  go_wp2_with fail
  rw [← hWW]
  clear hWW
  obtain ⟨hb0, hx0, hA0, hO0⟩ := HB.out
  refine (caught_any _ _ WW (enter_next _) (nextIn_any (HH.out.keep hb0.size fun k hk => hb0.block k (HL.out k hk)) w.heap.size (w.heap.size + 1) (w.heap.size + 1 + 1) hx0 hA0 hO0 (by omega))).mono ?_
  rintro e w1 ⟨rfl, ht, hm⟩
  rw [HN.out] at hm
  obtain ⟨hp, ho⟩ := hm
  have hB1 := pair_below hb0 ht hb0.size (by omega) (by omega)
  have hc5 : w1.cell? ⟨w.heap.size + 1, 5, none⟩ = some (.slice none 0 0) := by simp [World.cell?, hp]
  have HP := Lib.hid (And.intro hp ho)
  have hs1 := (Array.getElem?_eq_some_iff.1 hp).1
  have hs2 := (Array.getElem?_eq_some_iff.1 ho).1
  clear hp ho hb0 hx0 hA0 hO0 ht
  go_wp2_with fail
  refine (clone_none w1).mono ?_
  rintro e w1 ⟨rfl, rfl⟩
  have hq1 := HP.out.1
  have hq2 := HP.out.2
  have hz5 : w1.frozen? ⟨w.heap.size + 1, 5, none⟩ = false := by simp [World.frozen?, hq1]
  have hq3 := blkS (i := 5) hq1 (.slice none 0 0)
  have hq4 := blkF (i := 5) (g' := w.heap.size + 1) hq2 (by omega) (.slice none 0 0)
  go_wp2_with fail
  have hB3 : Below w.heap.size w (w1.setCell ⟨w.heap.size + 1, 5, none⟩ (.slice none 0 0)) := hB1.setCell (Nat.le_succ _) _
  generalize w1.setCell ⟨w.heap.size + 1, 5, none⟩ (.slice none 0 0) = W3 at hq3 hq4 hB3 ⊢
  have hq5 : W3.heap[w.heap.size + 1]? = some (.cells #[.int .i64 0, .int .i64 0, .int .i64 0, .int .u64 0, .int .u64 0, .slice none 0 0] 47 (0, 0)) := hq3
  have HACC := Lib.hid hq5
  have a0 : W3.cell? ⟨w.heap.size + 1, 0, none⟩ = some (.int .i64 0) := by simp [World.cell?, hq5]
  have a1 : W3.cell? ⟨w.heap.size + 1, 1, none⟩ = some (.int .i64 0) := by simp [World.cell?, hq5]
  have a2 : W3.cell? ⟨w.heap.size + 1, 2, none⟩ = some (.int .i64 0) := by simp [World.cell?, hq5]
  have a3 : W3.cell? ⟨w.heap.size + 1, 3, none⟩ = some (.int .u64 0) := by simp [World.cell?, hq5]
  have a4 : W3.cell? ⟨w.heap.size + 1, 4, none⟩ = some (.int .u64 0) := by simp [World.cell?, hq5]
  have a5 : W3.cell? ⟨w.heap.size + 1, 5, none⟩ = some (.slice none 0 0) := by simp [World.cell?, hq5]
  have f0 : W3.frozen? ⟨w.heap.size + 1, 0, none⟩ = false := by simp [World.frozen?, hq5]
  have f1 : W3.frozen? ⟨w.heap.size + 1, 1, none⟩ = false := by simp [World.frozen?, hq5]
  have f2 : W3.frozen? ⟨w.heap.size + 1, 2, none⟩ = false := by simp [World.frozen?, hq5]
  have f3 : W3.frozen? ⟨w.heap.size + 1, 3, none⟩ = false := by simp [World.frozen?, hq5]
  have f4 : W3.frozen? ⟨w.heap.size + 1, 4, none⟩ = false := by simp [World.frozen?, hq5]
  have f5 : W3.frozen? ⟨w.heap.size + 1, 5, none⟩ = false := by simp [World.frozen?, hq5]
  have o0 : W3.cell? ⟨w.heap.size + 1 + 1, 0, none⟩ = some (.bool false) := by simp [World.cell?, hq4]
  have z0 : W3.frozen? ⟨w.heap.size + 1 + 1, 0, none⟩ = false := by simp [World.frozen?, hq4]
  clear hq1 hq2 hq3 hq4 hq5 hz5 hc5 hB1
  go_region
  all_goals go_wp2
  refine bodyPost_ret (v := .tuple #[.agg #[.int .i64 0, .int .i64 0, .int .i64 0, .int .u64 0, .int .u64 0, .slice none 0 0], .bool false]) (by simp [results, Try.results30, go_sem, a0, a1, a2, a3, a4, a5, o0]) rfl ?_
  refine ⟨?_, rfl⟩
  · exact (seven_touch (pa := w.heap.size + 1) (po := w.heap.size + 1 + 1) (w := W3) (Touch.refl _ _) (.int .i64 0) (.int .i64 0) (.int .i64 0) (.int .u64 0) (.int .u64 0) (.slice none 0 0) (.bool false)).drew.below hB3 hB3.size (fun k hk => by rcases hk with rfl | rfl <;> omega)

/-- What a machine wants next. -/
theorem next_told {w : World} {F : Nat → Prop} {x : Value} {s : Mc} (h : MRep w F x s) (hlt : ∀ k, F k → k < w.heap.size) : Calls Try.prog 30 #[x] w (NextTold s.next w) := by
  rcases h.shape with ⟨rfl, rfl⟩ | ⟨T, y, rfl⟩
  · exact next_nilIface w
  · cases ha : s.next with
    | none => exact next_end h hlt ha
    | some a => exact next_some h hlt ha
end Go.Proofs.Ytegjnejekakeiaa
namespace Go.Proofs.Ytegjnejekakeiaa
open Go.RowKit

/-- An event's cells, in block b. -/
structure EvAt (b : Nat) (W : World) (p : Pk) (a : Ac) (x : An) (s1 s2 : Value) : Prop where
  blk : W.heap[b]? = some (.cells #[.int .i64 p.K, .int .i64 p.A, .int .i64 p.N, .int .i64 a.K, .int .i64 a.P, .int .i64 a.N, .int .u64 a.V, .int .u64 a.U, s1, .int .u64 x.V, .bool x.D, s2] 51 (0, 0))

namespace EvAt
variable {b : Nat} {W W' : World} {p : Pk} {a : Ac} {x : An} {s1 s2 : Value}
theorem lt (h : EvAt b W p a x s1 s2) : b < W.heap.size := (Array.getElem?_eq_some_iff.1 h.blk).1
theorem below (h : EvAt b W p a x s1 s2) (hb : Below W.heap.size W W') : EvAt b W' p a x s1 s2 := ⟨(hb.block b h.lt).trans h.blk⟩
theorem of_block (h : EvAt b W p a x s1 s2) (hb : W'.heap[b]? = W.heap[b]?) : EvAt b W' p a x s1 s2 := ⟨hb.trans h.blk⟩
theorem e0 (h : EvAt b W p a x s1 s2) : W.cell? ⟨b, 0, none⟩ = some (.int .i64 p.K) := by simp [World.cell?, h.blk]
theorem e1 (h : EvAt b W p a x s1 s2) : W.cell? ⟨b, 1, none⟩ = some (.int .i64 p.A) := by simp [World.cell?, h.blk]
theorem e2 (h : EvAt b W p a x s1 s2) : W.cell? ⟨b, 2, none⟩ = some (.int .i64 p.N) := by simp [World.cell?, h.blk]
theorem e3 (h : EvAt b W p a x s1 s2) : W.cell? ⟨b, 3, none⟩ = some (.int .i64 a.K) := by simp [World.cell?, h.blk]
theorem e4 (h : EvAt b W p a x s1 s2) : W.cell? ⟨b, 4, none⟩ = some (.int .i64 a.P) := by simp [World.cell?, h.blk]
theorem e5 (h : EvAt b W p a x s1 s2) : W.cell? ⟨b, 5, none⟩ = some (.int .i64 a.N) := by simp [World.cell?, h.blk]
theorem e6 (h : EvAt b W p a x s1 s2) : W.cell? ⟨b, 6, none⟩ = some (.int .u64 a.V) := by simp [World.cell?, h.blk]
theorem e7 (h : EvAt b W p a x s1 s2) : W.cell? ⟨b, 7, none⟩ = some (.int .u64 a.U) := by simp [World.cell?, h.blk]
theorem e8 (h : EvAt b W p a x s1 s2) : W.cell? ⟨b, 8, none⟩ = some s1 := by simp [World.cell?, h.blk]
theorem e9 (h : EvAt b W p a x s1 s2) : W.cell? ⟨b, 9, none⟩ = some (.int .u64 x.V) := by simp [World.cell?, h.blk]
theorem e10 (h : EvAt b W p a x s1 s2) : W.cell? ⟨b, 10, none⟩ = some (.bool x.D) := by simp [World.cell?, h.blk]
theorem e11 (h : EvAt b W p a x s1 s2) : W.cell? ⟨b, 11, none⟩ = some s2 := by simp [World.cell?, h.blk]
theorem free (h : EvAt b W p a x s1 s2) (i : Nat) : W.frozen? ⟨b, i, none⟩ = false := by simp [World.frozen?, h.blk]
theorem set8 (h : EvAt b W p a x s1 s2) (u : Value) : EvAt b (W.setCell ⟨b, 8, none⟩ u) p a x u s2 := ⟨blkS h.blk u⟩
theorem set11 (h : EvAt b W p a x s1 s2) (u : Value) : EvAt b (W.setCell ⟨b, 11, none⟩ u) p a x s1 u := ⟨blkS h.blk u⟩
end EvAt

/-- A new place for an event. -/
abbrev EvNew (b : Nat) (W : World) : Prop := EvAt b W ⟨0, 0, 0⟩ Ac.zero An.zero (.slice none 0 0) (.slice none 0 0)

/-- Twelve cells stored. -/
def twelve (W : World) (b : Nat) (u0 u1 u2 u3 u4 u5 u6 u7 u8 u9 u10 u11 : Value) : World :=
  (((((((((((W.setCell ⟨b, 0, none⟩ u0).setCell ⟨b, 1, none⟩ u1).setCell ⟨b, 2, none⟩ u2).setCell ⟨b, 3, none⟩ u3).setCell ⟨b, 4, none⟩ u4).setCell ⟨b, 5, none⟩ u5).setCell ⟨b, 6, none⟩ u6).setCell ⟨b, 7, none⟩ u7).setCell ⟨b, 8, none⟩ u8).setCell ⟨b, 9, none⟩ u9).setCell ⟨b, 10, none⟩ u10).setCell ⟨b, 11, none⟩ u11

theorem twelve_far (W : World) (b : Nat) (u0 u1 u2 u3 u4 u5 u6 u7 u8 u9 u10 u11 : Value) {k : Nat} (h : k ≠ b) : (twelve W b u0 u1 u2 u3 u4 u5 u6 u7 u8 u9 u10 u11).heap[k]? = W.heap[k]? := by
  unfold twelve
  rw [Below.heap_setCell _ _ _ _ h, Below.heap_setCell _ _ _ _ h, Below.heap_setCell _ _ _ _ h, Below.heap_setCell _ _ _ _ h, Below.heap_setCell _ _ _ _ h, Below.heap_setCell _ _ _ _ h, Below.heap_setCell _ _ _ _ h, Below.heap_setCell _ _ _ _ h, Below.heap_setCell _ _ _ _ h, Below.heap_setCell _ _ _ _ h, Below.heap_setCell _ _ _ _ h, Below.heap_setCell _ _ _ _ h]

theorem twelve_size (W : World) (b : Nat) (u0 u1 u2 u3 u4 u5 u6 u7 u8 u9 u10 u11 : Value) : (twelve W b u0 u1 u2 u3 u4 u5 u6 u7 u8 u9 u10 u11).heap.size = W.heap.size := by
  simp [twelve, World.setCell]

theorem twelve_touch (W : World) (b : Nat) (u0 u1 u2 u3 u4 u5 u6 u7 u8 u9 u10 u11 : Value) : Touch (fun k => k = b) W (twelve W b u0 u1 u2 u3 u4 u5 u6 u7 u8 u9 u10 u11) :=
  ((((((((((((Touch.refl (fun k => k = b) W).setCell (p := ⟨b, 0, none⟩) rfl u0).setCell (p := ⟨b, 1, none⟩) rfl u1).setCell (p := ⟨b, 2, none⟩) rfl u2).setCell (p := ⟨b, 3, none⟩) rfl u3).setCell (p := ⟨b, 4, none⟩) rfl u4).setCell (p := ⟨b, 5, none⟩) rfl u5).setCell (p := ⟨b, 6, none⟩) rfl u6).setCell (p := ⟨b, 7, none⟩) rfl u7).setCell (p := ⟨b, 8, none⟩) rfl u8).setCell (p := ⟨b, 9, none⟩) rfl u9).setCell (p := ⟨b, 10, none⟩) rfl u10).setCell (p := ⟨b, 11, none⟩) rfl u11

theorem twelve_blk {W : World} {b : Nat} {cs : Array Value} {t : TypeId} (h : W.heap[b]? = some (.cells cs t (0, 0))) (hs : cs.size = 12) (u0 u1 u2 u3 u4 u5 u6 u7 u8 u9 u10 u11 : Value) :
    (twelve W b u0 u1 u2 u3 u4 u5 u6 u7 u8 u9 u10 u11).heap[b]? = some (.cells #[u0, u1, u2, u3, u4, u5, u6, u7, u8, u9, u10, u11] t (0, 0)) := by
  match cs, hs with
  | ⟨[v0, v1, v2, v3, v4, v5, v6, v7, v8, v9, v10, v11]⟩, _ => simp [twelve, World.setCell, Array.getElem?_modify, h]

/-- A copy of an event: its bytes lie in new memory. -/
def CopyTold (p : Pk) (a : Ac) (x : An) (w : World) (e : Ending) (w' : World) : Prop :=
  ∃ A1 l1 c1 A2 l2 c2, e = .returned (.agg #[.int .i64 p.K, .int .i64 p.A, .int .i64 p.N, .int .i64 a.K, .int .i64 a.P, .int .i64 a.N, .int .u64 a.V, .int .u64 a.U, .slice A1 l1 c1, .int .u64 x.V, .bool x.D, .slice A2 l2 c2]) ∧ Owns w.heap.size w' (.slice A1 l1 c1) a.bs ∧ Owns w.heap.size w' (.slice A2 l2 c2) x.bs ∧ Below w.heap.size w w'

set_option maxRecDepth 100000 in
set_option maxHeartbeats 1000000 in
theorem copied_any (p : Pk) (a : Ac) (x : An) (A1 A2 : Option Addr) (l1 l2 c1 c2 : Nat) (w : World) (h1 : BytesAt w (.slice A1 l1 c1) a.bs) (h2 : BytesAt w (.slice A2 l2 c2) x.bs) (hl1 : a.bs.length ≤ 1073741824) (hl2 : x.bs.length ≤ 1073741824) :
    Calls Try.prog 38 #[.agg #[.int .i64 p.K, .int .i64 p.A, .int .i64 p.N, .int .i64 a.K, .int .i64 a.P, .int .i64 a.N, .int .u64 a.V, .int .u64 a.U, .slice A1 l1 c1, .int .u64 x.V, .bool x.D, .slice A2 l2 c2]] w (CopyTold p a x w) := by
  have e1 : a.bs.length = l1 := by obtain ⟨_, _, e, _⟩ := h1; injection e with _ e _; exact e.symm
  have e2 : x.bs.length = l2 := by obtain ⟨_, _, e, _⟩ := h2; injection e with _ e _; exact e.symm
  have HW := ((Below.refl w.heap.size w).alloc (Nat.le_refl _) (.cells #[.int .i64 p.K, .int .i64 p.A, .int .i64 p.N, .int .i64 a.K, .int .i64 a.P, .int .i64 a.N, .int .u64 a.V, .int .u64 a.U, .slice A1 l1 c1, .int .u64 x.V, .bool x.D, .slice A2 l2 c2] 51)).alloc (by simp) (.cells #[.int .i64 0, .int .i64 0, .int .i64 0, .int .i64 0, .int .i64 0, .int .i64 0, .int .u64 0, .int .u64 0, .slice none 0 0, .int .u64 0, .bool false, .slice none 0 0] 51)
  have hX : EvAt w.heap.size _ p a x (.slice A1 l1 c1) (.slice A2 l2 c2) := ⟨(Below.heap_alloc _ (.cells #[.int .i64 0, .int .i64 0, .int .i64 0, .int .i64 0, .int .i64 0, .int .i64 0, .int .u64 0, .int .u64 0, .slice none 0 0, .int .u64 0, .bool false, .slice none 0 0] 51) w.heap.size (by simp)).trans (Go.Deep.blk_alloc_new w (.cells #[.int .i64 p.K, .int .i64 p.A, .int .i64 p.N, .int .i64 a.K, .int .i64 a.P, .int .i64 a.N, .int .u64 a.V, .int .u64 a.U, .slice A1 l1 c1, .int .u64 x.V, .bool x.D, .slice A2 l2 c2] 51))⟩
  have hR := Go.Deep.blk_alloc_new (w.alloc (.cells #[.int .i64 p.K, .int .i64 p.A, .int .i64 p.N, .int .i64 a.K, .int .i64 a.P, .int .i64 a.N, .int .u64 a.V, .int .u64 a.U, .slice A1 l1 c1, .int .u64 x.V, .bool x.D, .slice A2 l2 c2] 51)) (.cells #[.int .i64 0, .int .i64 0, .int .i64 0, .int .i64 0, .int .i64 0, .int .i64 0, .int .u64 0, .int .u64 0, .slice none 0 0, .int .u64 0, .bool false, .slice none 0 0] 51)
  have e3 : (w.alloc (.cells #[.int .i64 p.K, .int .i64 p.A, .int .i64 p.N, .int .i64 a.K, .int .i64 a.P, .int .i64 a.N, .int .u64 a.V, .int .u64 a.U, .slice A1 l1 c1, .int .u64 x.V, .bool x.D, .slice A2 l2 c2] 51)).heap.size = w.heap.size + 1 := by simp
  rw [e3] at hR
  have HB1 := Lib.hid (h1.below HW)
  have HB2 := Lib.hid h2
  clear h1 h2 e3
  go_enter Try.func38, Try.ntmps38
  go_wp2_with fail
  generalize (w.alloc (.cells #[.int .i64 p.K, .int .i64 p.A, .int .i64 p.N, .int .i64 a.K, .int .i64 a.P, .int .i64 a.N, .int .u64 a.V, .int .u64 a.U, .slice A1 l1 c1, .int .u64 x.V, .bool x.D, .slice A2 l2 c2] 51)).alloc (.cells #[.int .i64 0, .int .i64 0, .int .i64 0, .int .i64 0, .int .i64 0, .int .i64 0, .int .u64 0, .int .u64 0, .slice none 0 0, .int .u64 0, .bool false, .slice none 0 0] 51) = W at HW hX hR HB1 ⊢
  have hc8 := hX.e8
  refine (clone_sl A1 l1 c1 a.bs W HB1.out (by omega)).mono ?_
  rintro e w1 ⟨B1, d1, rfl, ho1, hb1⟩
  have hX1 := hX.below hb1
  have hR1 := (hb1.block (w.heap.size + 1) (Array.getElem?_eq_some_iff.1 hR).1).trans hR
  have hz8 := hX1.free 8
  have hc8' := hX1.e8
  have hc11 := hX1.e11
  have hW1 := HW.trans (hb1.mono HW.size)
  have HW2 := hW1.setCell (p := ⟨w.heap.size, 8, none⟩) (Nat.le_refl _) (.slice B1 l1 d1)
  have hX2 := hX1.set8 (.slice B1 l1 d1)
  have hR2 := blkF (i := 8) (g' := w.heap.size) hR1 (by omega) (.slice B1 l1 d1)
  have hlW := (Array.getElem?_eq_some_iff.1 hR).1
  have HO1 := Lib.hid (ho1.setCell (p := ⟨w.heap.size, 8, none⟩) (by show w.heap.size < W.heap.size; omega) (.slice B1 l1 d1))
  have HK := Lib.hid (And.intro hX2 hR2)
  clear hX hR hR1 ho1
  go_wp2_with fail
  generalize w1.setCell ⟨w.heap.size, 8, none⟩ (.slice B1 l1 d1) = W2 at HW2 hX2 hR2 HO1 HK ⊢
  have hlW1 := hb1.size
  have hl2s := (Array.getElem?_eq_some_iff.1 hR2).1
  refine (clone_sl A2 l2 c2 x.bs W2 (HB2.out.below HW2) (by omega)).mono ?_
  rintro e w2 ⟨B2, d2, rfl, ho2, hb2⟩
  have hX3 := hX2.below hb2
  have hR3 := (hb2.block (w.heap.size + 1) hl2s).trans hR2
  have hz11 := hX3.free 11
  have hc11' := hX3.e11
  have HW3 := (HW2.trans (hb2.mono HW2.size)).setCell (p := ⟨w.heap.size, 11, none⟩) (Nat.le_refl _) (.slice B2 l2 d2)
  have hX4 := hX3.set11 (.slice B2 l2 d2)
  have hR4 := blkF (i := 11) (g' := w.heap.size) hR3 (by omega) (.slice B2 l2 d2)
  have HO3 := Lib.hid ((HO1.out.below hb2).setCell (p := ⟨w.heap.size, 11, none⟩) (by show w.heap.size < W.heap.size; omega) (.slice B2 l2 d2))
  have HO4 := Lib.hid (ho2.setCell (p := ⟨w.heap.size, 11, none⟩) (by show w.heap.size < W2.heap.size; omega) (.slice B2 l2 d2))
  have a0 := hX3.e0
  have a1 := hX3.e1
  have a2 := hX3.e2
  have a3 := hX3.e3
  have a4 := hX3.e4
  have a5 := hX3.e5
  have a6 := hX3.e6
  have a7 := hX3.e7
  have a8 := hX3.e8
  have a9 := hX3.e9
  have a10 := hX3.e10
  have r0 : w2.cell? ⟨w.heap.size + 1, 0, none⟩ = some (.int .i64 0) := by simp [World.cell?, hR3]
  have r1 : w2.cell? ⟨w.heap.size + 1, 1, none⟩ = some (.int .i64 0) := by simp [World.cell?, hR3]
  have r2 : w2.cell? ⟨w.heap.size + 1, 2, none⟩ = some (.int .i64 0) := by simp [World.cell?, hR3]
  have r3 : w2.cell? ⟨w.heap.size + 1, 3, none⟩ = some (.int .i64 0) := by simp [World.cell?, hR3]
  have r4 : w2.cell? ⟨w.heap.size + 1, 4, none⟩ = some (.int .i64 0) := by simp [World.cell?, hR3]
  have r5 : w2.cell? ⟨w.heap.size + 1, 5, none⟩ = some (.int .i64 0) := by simp [World.cell?, hR3]
  have r6 : w2.cell? ⟨w.heap.size + 1, 6, none⟩ = some (.int .u64 0) := by simp [World.cell?, hR3]
  have r7 : w2.cell? ⟨w.heap.size + 1, 7, none⟩ = some (.int .u64 0) := by simp [World.cell?, hR3]
  have r8 : w2.cell? ⟨w.heap.size + 1, 8, none⟩ = some (.slice none 0 0) := by simp [World.cell?, hR3]
  have r9 : w2.cell? ⟨w.heap.size + 1, 9, none⟩ = some (.int .u64 0) := by simp [World.cell?, hR3]
  have r10 : w2.cell? ⟨w.heap.size + 1, 10, none⟩ = some (.bool false) := by simp [World.cell?, hR3]
  have r11 : w2.cell? ⟨w.heap.size + 1, 11, none⟩ = some (.slice none 0 0) := by simp [World.cell?, hR3]
  have f0 : w2.frozen? ⟨w.heap.size + 1, 0, none⟩ = false := by simp [World.frozen?, hR3]
  have f1 : w2.frozen? ⟨w.heap.size + 1, 1, none⟩ = false := by simp [World.frozen?, hR3]
  have f2 : w2.frozen? ⟨w.heap.size + 1, 2, none⟩ = false := by simp [World.frozen?, hR3]
  have f3 : w2.frozen? ⟨w.heap.size + 1, 3, none⟩ = false := by simp [World.frozen?, hR3]
  have f4 : w2.frozen? ⟨w.heap.size + 1, 4, none⟩ = false := by simp [World.frozen?, hR3]
  have f5 : w2.frozen? ⟨w.heap.size + 1, 5, none⟩ = false := by simp [World.frozen?, hR3]
  have f6 : w2.frozen? ⟨w.heap.size + 1, 6, none⟩ = false := by simp [World.frozen?, hR3]
  have f7 : w2.frozen? ⟨w.heap.size + 1, 7, none⟩ = false := by simp [World.frozen?, hR3]
  have f8 : w2.frozen? ⟨w.heap.size + 1, 8, none⟩ = false := by simp [World.frozen?, hR3]
  have f9 : w2.frozen? ⟨w.heap.size + 1, 9, none⟩ = false := by simp [World.frozen?, hR3]
  have f10 : w2.frozen? ⟨w.heap.size + 1, 10, none⟩ = false := by simp [World.frozen?, hR3]
  have f11 : w2.frozen? ⟨w.heap.size + 1, 11, none⟩ = false := by simp [World.frozen?, hR3]
  clear hX2 hR2 hX3 hR3 hc8 hc11 ho2 hc8'
  go_wp2
  refine bodyPost_ret (v := .agg #[.int .i64 p.K, .int .i64 p.A, .int .i64 p.N, .int .i64 a.K, .int .i64 a.P, .int .i64 a.N, .int .u64 a.V, .int .u64 a.U, .slice B1 l1 d1, .int .u64 x.V, .bool x.D, .slice B2 l2 d2]) (by simp [results, Try.results38, go_sem, r0, r1, r2, r3, r4, r5, r6, r7, r8, r9, r10, r11]) rfl ?_
  have hR5 : (w2.setCell ⟨w.heap.size, 11, none⟩ (.slice B2 l2 d2)).heap.size = w2.heap.size := by simp [World.setCell]
  have hne : ∀ k, w.heap.size + 1 + 1 ≤ k → k ≠ w.heap.size + 1 := fun k hk => by omega
  have hs2 := hb2.size
  refine ⟨B1, l1, d1, B2, l2, d2, rfl, ?_, ?_, ?_⟩
  · exact ((HO3.out.of_block fun k hk => twelve_far _ _ _ _ _ _ _ _ _ _ _ _ _ _ (hne k (by have := (HO3.out.ge hk).1; omega)))).down (by omega)
  · exact ((HO4.out.of_block fun k hk => twelve_far _ _ _ _ _ _ _ _ _ _ _ _ _ _ (hne k (by have := (HO4.out.ge hk).1; omega)))).down (by omega)
  · exact (twelve_touch _ _ _ _ _ _ _ _ _ _ _ _ _ _).below HW3 (by omega) (fun k hk => by omega)
end Go.Proofs.Ytegjnejekakeiaa
namespace Go.Proofs.Ytegjnejekakeiaa
open Go.RowKit

/-- The slice value v reads as the bytes xs, which lie in a block that K names (an empty one may lie anywhere). -/
def BytesIn (K : Nat → Prop) (w : World) (v : Value) (xs : List Int) : Prop :=
  ∃ A cap, v = .slice A xs.length cap ∧ (0 < xs.length → ∃ b off, A = some ⟨b, off, none⟩ ∧ K b ∧ b < w.heap.size ∧ ∀ i, i < xs.length → w.cell? ⟨b, off + i, none⟩ = some (.int .u8 (xs.getD i 0)))

namespace BytesIn
variable {K K' : Nat → Prop} {w w' : World} {v : Value} {xs : List Int}
theorem bytes (h : BytesIn K w v xs) : BytesAt w v xs := by
  obtain ⟨A, c, hv, h⟩ := h
  exact ⟨A, c, hv, fun hp => by obtain ⟨b, off, e, _, h3, h4⟩ := h hp; exact ⟨b, off, e, h3, h4⟩⟩
theorem none (K : Nat → Prop) (w : World) : BytesIn K w (.slice none 0 0) [] := ⟨Option.none, 0, rfl, fun h => absurd h (by simp)⟩
theorem empty (h : BytesAt w v []) (K : Nat → Prop) : BytesIn K w v [] := by
  obtain ⟨A, c, hv, _⟩ := h
  exact ⟨A, c, hv, fun h => absurd h (by simp)⟩
theorem mono (h : BytesIn K w v xs) (hK : ∀ k, K k → k < w.heap.size → K' k) : BytesIn K' w v xs := by
  obtain ⟨A, c, hv, h⟩ := h
  exact ⟨A, c, hv, fun hp => by obtain ⟨b, off, e, h2, h3, h4⟩ := h hp; exact ⟨b, off, e, hK b h2 h3, h3, h4⟩⟩
theorem keep (h : BytesIn K w v xs) (hs : w.heap.size ≤ w'.heap.size) (hb : ∀ k, K k → k < w.heap.size → w'.heap[k]? = w.heap[k]?) : BytesIn K w' v xs := by
  obtain ⟨A, c, hv, h⟩ := h
  refine ⟨A, c, hv, fun hp => ?_⟩
  obtain ⟨b, off, e, h2, h3, h4⟩ := h hp
  exact ⟨b, off, e, h2, Nat.lt_of_lt_of_le h3 hs, fun i hi => (World.cell?_of_block (w := w) (a := ⟨b, off + i, Option.none⟩) (hb b h2 h3)).trans (h4 i hi)⟩
theorem below (h : BytesIn K w v xs) (hb : Below w.heap.size w w') : BytesIn K w' v xs := h.keep hb.size fun k _ hk => hb.block k hk
theorem touch {S : Nat → Prop} (h : BytesIn K w v xs) (ht : Touch S w w') (hn : ∀ k, K k → ¬ S k) : BytesIn K w' v xs := h.keep ht.size fun k hk hl => ht.block k hl (hn k hk)
theorem of_at (h : BytesAt w v xs) : BytesIn (fun _ => True) w v xs := by
  obtain ⟨A, c, hv, h⟩ := h
  exact ⟨A, c, hv, fun hp => by obtain ⟨b, off, e, h3, h4⟩ := h hp; exact ⟨b, off, e, trivial, h3, h4⟩⟩
theorem lt (h : BytesIn K w v xs) : BytesIn (fun k => K k ∧ k < w.heap.size) w v xs := h.mono fun _ h1 h2 => ⟨h1, h2⟩
theorem of_own {base : Nat} (h : Owns base w v xs) : BytesIn (fun k => base ≤ k) w v xs := by
  by_cases hp : 0 < xs.length
  · obtain ⟨g, cap, hv, _⟩ := h.form hp
    have hge := World.ownsRow.lt h g (by rw [hv]; rfl)
    have hc := h.bytes
    rw [hv] at hc
    obtain ⟨A, c, e, hc⟩ := hc
    obtain ⟨b, off, e1, h3, h4⟩ := hc hp
    have e2 := e1
    injection e with e _ _
    rw [← e] at e1
    injection e1 with e1
    injection e1 with e5 e6
    subst e5 e6
    refine ⟨some ⟨g, 0, Option.none⟩, cap, hv, fun _ => ⟨g, 0, rfl, hge.1, h3, h4⟩⟩
  · have hx : xs = [] := List.eq_nil_of_length_eq_zero (by omega)
    subst hx
    exact empty h.bytes _
theorem length (h : BytesIn K w v xs) : ∃ A c, v = .slice A xs.length c := by
  obtain ⟨A, c, hv, _⟩ := h
  exact ⟨A, c, hv⟩
end BytesIn
end Go.Proofs.Ytegjnejekakeiaa
namespace Go.Proofs.Ytegjnejekakeiaa
open Go.RowKit

/-- A call that read bytes into new memory. -/
def MadeRead (xs : List Int) (w : World) (e : Ending) (w' : World) : Prop :=
  ∃ v, e = .returned v ∧ Owns w.heap.size w' v xs ∧ Below w.heap.size w w'

/-- An access answered; the bytes of the answer lie in new memory, if there are any. -/
def AnsweredIn (V : Nat) (D : Bool) (xs : List Int) (g h : Nat) (m : Nat → Nat) (n : Nat) (c : Int) (w : World) (e : Ending) (w' : World) : Prop :=
  ∃ s, e = .returned (.agg #[.int .u64 V, .bool D, s]) ∧ BytesIn (fun k => w.heap.size ≤ k) w' s xs ∧ Stored g h m n c w w'

/-- An access was done; the bytes of the answer lie in new memory. -/
def DidIn (V : Nat) (D : Bool) (xs : List Int) (g h : Nat) (m : Nat → Nat) (n : Nat) (c : Int) (w : World) (e : Ending) (w' : World) : Prop :=
  ∃ s, e = .returned (.tuple #[.agg #[.int .u64 V, .bool D, s], .int .i64 0]) ∧ BytesIn (fun k => w.heap.size ≤ k) w' s xs ∧ Stored g h m n c w w'

theorem BytesIn.answer' {K : Nat → Prop} {W : World} {v : Value} {xs : List Int} {b : Nat} (hv : BytesIn K W v xs) (ha : AnsAt b W) (x y z : Value) : BytesIn K (((W.setCell ⟨b, 0, Option.none⟩ x).setCell ⟨b, 1, Option.none⟩ y).setCell ⟨b, 2, Option.none⟩ z) v xs := by
  obtain ⟨A, cap, hv, h⟩ := hv
  refine ⟨A, cap, hv, fun hp => ?_⟩
  obtain ⟨d, off, h1, hK, h3, h4⟩ := h hp
  have hne : d ≠ b := by
    intro e
    subst e
    have h5 := h4 0 hp
    simp only [World.cell?, ha.blk] at h5
    match off, h5 with
    | 0, h5 => simp at h5
    | 1, h5 => simp at h5
    | 2, h5 => simp at h5
    | k + 3, h5 => simp at h5
  refine ⟨d, off, h1, hK, by simpa [World.setCell] using h3, fun i hi => ?_⟩
  rw [← h4 i hi]
  refine World.cell?_of_block ?_
  rw [Below.heap_setCell _ _ _ _ hne, Below.heap_setCell _ _ _ _ hne, Below.heap_setCell _ _ _ _ hne]

set_option maxHeartbeats 1000000 in
theorem read_own {w : World} {g h n : Nat} {m : Nat → Nat} {c : Int} (B : Buf w g h m n c) (a k : Nat) (hin : a + k ≤ 8 * n) :
    Calls Try.prog 36 #[.pointer (some ⟨g, 0, none⟩), .int .i64 a, .int .i64 k] w (MadeRead (Mb.bl m a k) w) := by
  obtain ⟨i0, hi, hz0, hz1, hz2⟩ := info_parts infoU8
  have hf := B.few
  have HB := Lib.hid B
  clear B
  go_enter Try.func36, Try.ntmps36
  go_wp2_with (refine wpList_make_own _ rfl _ _ 26 rfl w.heap.size 5 i0 (.int .u8 0) 1 Try.underlying26 hi hz0 hz1 .i64 .i64 _ k rfl rfl rfl (by rw [hz2]; omega) (by unfold maxLen; omega) (Nat.le_refl _) ?_; intro w0 hown0 hg0)
  have hbel0 : Below w.heap.size w w0 := (Below.refl _ w).grown hg0 (Nat.le_refl _) (fun g hg => by cases hg)
  clear hg0
  go_loopw [1, 2, 7] (fun t1 t2 r wr => ∃ p q : Nat, a ≤ p ∧ p + q = a + k ∧ t1 = .int .i64 p ∧ t2 = .int .i64 q ∧ Below w.heap.size w wr ∧ wr.ownsRow w.heap.size 5 1 r (p - a) ((Mb.bl m a (p - a)).map (Value.int .u8))) (fun _ t2 _ _ => (intOf t2).toNat)
  case atStart => exact ⟨a, k, by omega, rfl, rfl, rfl, hbel0, by rw [Nat.sub_self]; exact hown0⟩
  case round =>
    obtain ⟨p, q, hp, hpq, rfl, rfl, hbel, hown⟩ := hrel
    clear hown0 hbel0
    by_cases hlt : 0 < q
    · obtain ⟨j, hj⟩ : ∃ j, j = min q (8 - p % 8) := ⟨_, rfl⟩
      have hj1 : 1 ≤ j := by omega
      have hj2 : j ≤ q := by omega
      have hj3 : p % 8 + j ≤ 8 := by omega
      have hpb : p ≤ 131072 := by omega
      have hqb : q ≤ 131072 := by omega
      have hj4 : p / 8 < n := by omega
      have HJ := Lib.hid hj
      have HQ := Lib.hid hpq
      have hBr := HB.out.below hbel
      have HBr := Lib.hid hBr
      have HBel := Lib.hid hbel
      have HO := Lib.hid hown
      clear hj hpq hBr hbel hown
      go_wp2_with (first
        | (go_at_call 61; refine (inWord_at p q j _ (by omega) HJ.out).mono ?_; rintro e w' ⟨rfl, rfl⟩)
        | (go_at_call 63; refine (load_any HBr.out p j hj3 hj4).mono ?_; rintro e w1 ⟨rfl, nd, rfl⟩)
        | (go_at_call 62; refine (bytes_at HBr.out.bytes p j _ hj1 (by omega)).mono ?_; rintro e w2 ⟨sb, so, cp, rfl, hcs, hb2⟩; have hb3 : Below wr.heap.size wr w2 := (drewN_below wr nd).after hb2; clear hb2)
        | (at_builtin; refine wpList_append_own _ rfl (.tmp 16) (.tmp 22) 26 rfl w.heap.size 5 i0 (.int .u8 0) 1 1 Try.underlying26 hi hz0 hz1 hz2 rfl (by decide) _ _ _ rfl (ownsRow_below HO.out hb3) ⟨sb, so, none⟩ j cp ((Mb.bl m p j).map (Value.int .u8)) rfl (by simp [Mb.bl_length]) hcs (u8_one _) (by unfold maxLen; omega) (by omega) (Nat.le_trans HBel.out.size hb3.size) ?_; intro v' w3 hown' hgrow _; have hbel3 : Below w.heap.size w w3 := (HBel.out.trans (hb3.mono HBel.out.size)).grown hgrow (Nat.le_trans HBel.out.size hb3.size) (fun g hg => (HO.out.lt g hg).1); rw [Mb.bl_next m a p j hp, show p - a + j = p + j - a by omega] at hown'; have HO3 := Lib.hid hown'; have HB3 := Lib.hid hbel3; clear hown' hgrow hbel3))
      go_roundw
      case rel =>
        have hpq := HQ.out
        exact ⟨p + j, q - j, by omega, by omega, by go_num, by go_num, HB3.out, HO3.out⟩
      case measure => simp [intOf]; omega
    · have hq0 : q = 0 := by omega
      have HQ := Lib.hid (show p - a = k by omega)
      subst hq0
      have HBel := Lib.hid hbel
      have HO := Lib.hid hown
      clear hpq hbel hown
      go_wp2
      go_ret
      have hO := HO.out
      rw [HQ.out] at hO
      exact ⟨_, rfl, by unfold Owns; rw [Mb.bl_length]; exact hO, HBel.out⟩

set_option maxHeartbeats 1000000 in
theorem access_read_own {w : World} {g h n : Nat} {m : Nat → Nat} {c : Int} (B : Buf w g h m n c) (a k : Nat) (hin : a + k ≤ 8 * n) (v u : Int) (s : Value) :
    Calls Try.prog 72 #[.pointer (some ⟨g, 0, none⟩), .agg #[.int .i64 5, .int .i64 a, .int .i64 k, .int .u64 v, .int .u64 u, s]] w
      (AnsweredIn 0 false (Mb.bl m a k) g h m n c w) := by
  have hg := B.g_lt
  have hh := B.h_lt
  have HB := Lib.hid B
  clear B
  go_enter Try.func72, Try.ntmps72
  go_wp2_with (go_at_call 36; refine (read_own ((HB.out.alloc _).alloc _) a k hin).mono ?_; rintro e w1 ⟨x, rfl, hx0, hb⟩; obtain ⟨A, cp, rfl, hx⟩ := hx0.bytes; have HA := Lib.hid (ans_touch (Touch.of_below (S := Two g h) hb) hg hh); obtain ⟨a0, a1, a2, f0, f1, f2, fb⟩ := HA.out; have HBe := Lib.hid hb; have HX := Lib.hid hx0; clear hb hx hx0 fb)
  refine bodyPost_ret (v := .agg #[.int .u64 0, .bool false, .slice A (Mb.bl m a k).length cp]) ?_ rfl ?_
  · simp [results, Try.results72, go_sem, a0, a1, a2]
  · refine ⟨_, rfl, ((BytesIn.of_own HX.out).mono fun k hk _ => by simp at hk; omega).answer' HA.out _ _ _, ?_⟩
    have HST := Stored.mk_ (((HB.out.alloc _).alloc _).below HBe.out) ((boxes_touch (Two g h) w _ _).trans (Touch.of_below HBe.out))
    exact ((HST.setNew hg hh (Nat.le_succ _) _).setNew hg hh (Nat.le_succ _) _).setNew hg hh (Nat.le_succ _) _

theorem access_in {w : World} {g h n : Nat} {m : Nat → Nat} {c : Int} (B : Buf w g h m n c) (K : Int) (a k v u : Nat) {f : Nat → Nat} (hf : Mb.IsB f) (A : Option Addr) (L cap : Nat) (hcap : L ≤ cap) (hcap2 : cap ≤ 9223372036854775807)
    (hb : BytesAt w (.slice A L cap) (Mb.bl f 0 L)) (hv : v < 18446744073709551616) (ok : chk (8 * (n : Int)) K a k L = 0) :
    Calls Try.prog 72 #[.pointer (some ⟨g, 0, none⟩), .agg #[.int .i64 K, .int .i64 a, .int .i64 k, .int .u64 v, .int .u64 u, .slice A L cap]] w
      (AnsweredIn (Mb.ansV m K a k) (Mb.ansD m K a k v) (Mb.ansB m K a k) g h (Mb.aft m K a k v u f) n c w) := by
  by_cases h5 : K = 5
  · subst h5
    obtain ⟨_, _, h1, h2, _⟩ := chk_ok ok
    refine (access_read_own B a k (by omega) v u _).mono ?_
    rintro e w' ⟨s, rfl, ho, hs⟩
    exact ⟨s, rfl, ho, hs⟩
  · have e : Mb.ansB m K a k = [] := by unfold Mb.ansB; rw [if_neg h5]
    refine (access_any B K a k v u hf A L cap hcap hcap2 hb hv ok).mono ?_
    rintro e' w' ⟨s, rfl, ho, hs⟩
    rw [e] at ho ⊢
    exact ⟨s, rfl, BytesIn.empty ho _, hs⟩

set_option maxHeartbeats 1000000 in
theorem do_in {w : World} {g h n : Nat} {m : Nat → Nat} {c : Int} (B : Buf w g h m n c) (K : Int) (a k v u : Nat) {f : Nat → Nat} (hf : Mb.IsB f) (A : Option Addr) (L cap : Nat) (hcap : L ≤ cap) (hcap2 : cap ≤ 9223372036854775807)
    (hb : BytesAt w (.slice A L cap) (Mb.bl f 0 L)) (hv : v < 18446744073709551616) (ok : chk (8 * (n : Int)) K a k L = 0) :
    Calls Try.prog 55 #[.pointer (some ⟨g, 0, none⟩), .agg #[.int .i64 K, .int .i64 a, .int .i64 k, .int .u64 v, .int .u64 u, .slice A L cap]] w
      (DidIn (Mb.ansV m K a k) (Mb.ansD m K a k v) (Mb.ansB m K a k) g h (Mb.aft m K a k v u f) n (nxt c) w) := by
  have hg := B.g_lt
  have hh := B.h_lt
  have hfw := B.few
  have HB0 := (B.alloc (.cells #[.int .i64 K, .int .i64 a, .int .i64 k, .int .u64 v, .int .u64 u, .slice A L cap] 47)).alloc (.cells #[.int .u64 0, .bool false, .slice none 0 0] 49)
  have HC := acc_made w K a k v u (.slice A L cap) (.cells #[.int .u64 0, .bool false, .slice none 0 0] 49)
  have HA := ans_made w (.cells #[.int .i64 K, .int .i64 a, .int .i64 k, .int .u64 v, .int .u64 u, .slice A L cap] 47)
  have HW := ((Below.refl w.heap.size w).alloc (Nat.le_refl _) (.cells #[.int .i64 K, .int .i64 a, .int .i64 k, .int .u64 v, .int .u64 u, .slice A L cap] 47)).alloc (by simp) (.cells #[.int .u64 0, .bool false, .slice none 0 0] 49)
  have HV := hb.below HW
  have HQ := Lib.hid ok
  have HF := Lib.hid hf
  clear B ok hb hf
  go_enter Try.func55, Try.ntmps55
  go_wp2
  generalize (w.alloc (.cells #[.int .i64 K, .int .i64 (a : Int), .int .i64 (k : Int), .int .u64 (v : Int), .int .u64 (u : Int), .slice A L cap] 47)).alloc (.cells #[.int .u64 0, .bool false, .slice none 0 0] 49) = W at HC HA HB0 HW HV ⊢
  have HC2 := HC
  obtain ⟨c0, c1, c2, c3, c4, c5⟩ := HC2
  go_region_held3 (fun w' => w'.cell? ⟨w.heap.size, 0, none⟩ = some (.int .i64 K) ∧ w'.cell? ⟨w.heap.size, 1, none⟩ = some (.int .i64 a) ∧ w'.cell? ⟨w.heap.size, 2, none⟩ = some (.int .i64 k) ∧ w'.cell? ⟨w.heap.size, 3, none⟩ = some (.int .u64 v) ∧ w'.cell? ⟨w.heap.size, 4, none⟩ = some (.int .u64 u) ∧ w'.cell? ⟨w.heap.size, 5, none⟩ = some (.slice A L cap))
    (go_keep)
    (first
      | (go_at_call 37; refine (size_any HB0.drew).mono ?_; rintro e w' ⟨rfl, rfl⟩)
      | (go_at_call 70; refine (check_any _ K a k v u A L cap _ (by omega)).mono ?_; rintro e w1 ⟨rfl, hb1⟩; rw [HQ.out]; have hb2 := below_drew hb1; clear hb1; obtain ⟨k0, k1, k2, k3, k4, k5⟩ := HC.below hb2))
  have HB1 := HB0.below hb2
  have hn0 := HB1.count
  have hn1 := HB1.count_free
  have HB2 := HB1.setCount (nxt c)
  have HT2 := (Touch.refl (Two g h) w1).setCell (p := ⟨g, 1, none⟩) (.inl rfl) (.int .i64 (nxt c))
  have HC2 := (HC.below hb2).touch HT2 (by omega) (by omega)
  have HA2 := (HA.later hb2).touch HT2 (by omega) (by omega)
  have HV2 := (HV.below hb2).touch HB1 HT2
  have hszW := HW.size
  have hszb := hb2.size
  have HT1 := (Touch.of_below (S := Two g h) HW).trans ((Touch.of_below (S := Two g h) hb2).trans HT2)
  clear c0 c1 c2 c3 c4 c5 k0 k1 k2 k3 k4 k5 HB0 HC HA HV HW hb2 HB1
  go_wp2_with (first
    | (go_at_call 71; refine (addOne g 1 c _ hn0 hn1).mono ?_; rintro e w2 ⟨rfl, hw2⟩; rw [hw2] at HB2 HT2 HC2 HA2 HV2 HT1; clear hw2 hn0 hn1; obtain ⟨c0, c1, c2, c3, c4, c5⟩ := HC2)
    | (go_at_call 72; refine (access_in HB2 K a k v u HF.out A L cap hcap hcap2 HV2 hv HQ.out).mono ?_; rintro e w3 ⟨x, rfl, hx, hst⟩; obtain ⟨A3, cp3, rfl⟩ := hx.length; have HX := Lib.hid hx; have hsz2 := hst.2.size; have HA3 := HA2.touch hst.2 (by omega) (by omega); have HA4 := HA3; obtain ⟨a0, a1, a2, f0, f1, f2, _⟩ := HA4; have HST := Lib.hid (hst.from_ HT1); clear hx hst))
  refine bodyPost_ret (v := .tuple #[.agg #[.int .u64 (Mb.ansV m K a k : Nat), .bool (Mb.ansD m K a k v), .slice A3 (Mb.ansB m K a k).length cp3], .int .i64 0]) ?_ rfl ?_
  · simp [results, Try.results55, go_sem, a0, a1, a2]
  · refine ⟨_, rfl, (HX.out.mono fun k hk _ => ?_).answer' HA3 _ _ _, ?_⟩
    · have := HT1.size
      exact Nat.le_trans this hk
    · exact ((HST.out.setNew hg hh (Nat.le_succ _) _).setNew hg hh (Nat.le_succ _) _).setNew hg hh (Nat.le_succ _) _
end Go.Proofs.Ytegjnejekakeiaa
namespace Go.Proofs.Ytegjnejekakeiaa
open Go.RowKit

/-- Whose a block is: nobody's, the scheduler's own, its actors', its buffer's, a machine's, its trace's row's, its trace's bytes'. -/
inductive Pt where
  | no
  | wd
  | ac
  | bf
  | ma (i : Nat)
  | ro
  | tx

/-- An event, and where its bytes stand. -/
structure Tx where
  e : Ev
  s1 : Value
  s2 : Value

/-- Its cells. -/
def Tx.cells (t : Tx) : List Value := [.int .i64 t.e.pk.K, .int .i64 t.e.pk.A, .int .i64 t.e.pk.N, .int .i64 t.e.ac.K, .int .i64 t.e.ac.P, .int .i64 t.e.ac.N, .int .u64 t.e.ac.V, .int .u64 t.e.ac.U, t.s1, .int .u64 t.e.an.V, .bool t.e.an.D, t.s2]

/-- An event's bytes are few. -/
def Ev.Small (e : Ev) : Prop := e.ac.bs.length ≤ 1073741824 ∧ e.an.bs.length ≤ 1073741824

/-- A scheduler's state. -/
structure St where
  na : Nat
  ms : Nat → Mc
  dead : Nat → Bool
  m : Nat → Nat
  nw : Nat
  c : Int
  clock : Int
  tr : List Ev

/-- The cells of an actor's row. -/
def acCell (ax : Nat → Value) (dead : Nat → Bool) (j : Nat) : Value := if j % 2 = 0 then ax (j / 2) else .bool (dead (j / 2))

theorem acCell_even (ax : Nat → Value) (dead : Nat → Bool) (i : Nat) : acCell ax dead (i * 2) = ax i := by
  unfold acCell
  rw [if_pos (by omega)]
  congr 1
  omega
theorem acCell_odd (ax : Nat → Value) (dead : Nat → Bool) (i : Nat) : acCell ax dead (i * 2 + 1) = .bool (dead i) := by
  unfold acCell
  rw [if_neg (by omega)]
  congr 2
  omega

/-- A trace stands in memory. -/
structure TrAt (w : World) (o : Nat → Pt) (tv : Value) (ts : List Tx) : Prop where
  row : w.ownsRow 0 51 12 tv ts.length (ts.flatMap Tx.cells)
  txt : ∀ t ∈ ts, BytesIn (fun k => o k = .tx) w t.s1 t.e.ac.bs ∧ BytesIn (fun k => o k = .tx) w t.s2 t.e.an.bs
  own : ∀ k, tv.ownBlock = some k → o k = .ro

theorem ownsRow_keep {w w' : World} {base : Nat} {T : TypeId} {n k : Nat} {v : Value} {xs : List Value} (h : w.ownsRow base T n v k xs) (hb : ∀ q, v.ownBlock = some q → w'.heap[q]? = w.heap[q]?) : w'.ownsRow base T n v k xs := by
  obtain ⟨h1, h2⟩ := h
  refine ⟨h1, ?_⟩
  rcases h2 with h2 | ⟨g, cap, cur, hv, h3, h4, h5⟩
  · exact .inl h2
  · exact .inr ⟨g, cap, cur, hv, h3, (hb g (by rw [hv]; rfl)).trans h4, h5⟩

namespace TrAt
variable {w w' : World} {o o' : Nat → Pt} {tv : Value} {ts : List Tx}
theorem keep (h : TrAt w o tv ts) (hs : w.heap.size ≤ w'.heap.size) (hb : ∀ k, o k ≠ .no → w'.heap[k]? = w.heap[k]?) : TrAt w' o tv ts :=
  ⟨ownsRow_keep h.row fun q hq => hb q (by rw [h.own q hq]; simp), fun t ht => ⟨(h.txt t ht).1.keep hs fun k hk _ => hb k (by rw [hk]; simp), (h.txt t ht).2.keep hs fun k hk _ => hb k (by rw [hk]; simp)⟩, h.own⟩
theorem own_to (h : TrAt w o tv ts) (ho : ∀ k, k < w.heap.size → o' k = o k) : TrAt w o' tv ts :=
  ⟨h.row, fun t ht => ⟨(h.txt t ht).1.mono fun k hk hl => (ho k hl).trans hk, (h.txt t ht).2.mono fun k hk hl => (ho k hl).trans hk⟩, fun k hk => (ho k (World.ownsRow.lt h.row k hk).2).trans (h.own k hk)⟩
end TrAt

/-- A scheduler stands in memory: its own block gw, its actors' block ga, its buffer's blocks gb and hb; who owns what. -/
structure Sw (w : World) (o : Nat → Pt) (gw ga gb hb : Nat) (ax : Nat → Value) (tv : Value) (ts : List Tx) (st : St) : Prop where
  head : w.heap[gw]? = some (.cells #[.pointer (some ⟨gb, 0, none⟩), .slice (some ⟨ga, 0, none⟩) st.na st.na, .int .i64 st.clock, tv] 83 (0, 0))
  row : w.rowIs ga 87 (2 * st.na) (acCell ax st.dead)
  buf : Buf w gb hb st.m st.nw st.c
  mach : ∀ i, i < st.na → MRep w (fun k => o k = .ma i) (ax i) (st.ms i)
  tr : TrAt w o tv ts
  told : st.tr = ts.map Tx.e
  ogw : o gw = .wd
  oga : o ga = .ac
  ogb : o gb = .bf
  ohb : o hb = .bf
  lt : ∀ k, o k ≠ .no → k < w.heap.size
  few : st.na ≤ 1000
  small : ∀ e ∈ st.tr, e.Small

/-- The blocks of a scheduler. -/
def Own (o : Nat → Pt) (k : Nat) : Prop := o k ≠ .no

/-- New blocks of F become p's. -/
noncomputable def claimed (o : Nat → Pt) (n : Nat) (F : Nat → Prop) (p : Pt) : Nat → Pt := fun k => @ite _ (n ≤ k ∧ F k) (Classical.propDecidable _) p (o k)
theorem claimed_new {o : Nat → Pt} {n : Nat} {F : Nat → Prop} {p : Pt} {k : Nat} (h : n ≤ k) (hF : F k) : claimed o n F p k = p := @if_pos _ (Classical.propDecidable _) ⟨h, hF⟩ _ _ _
theorem claimed_not {o : Nat → Pt} {n : Nat} {F : Nat → Prop} {p : Pt} {k : Nat} (h : ¬ (n ≤ k ∧ F k)) : claimed o n F p k = o k := @if_neg _ (Classical.propDecidable _) h _ _ _
theorem claimed_old {o : Nat → Pt} {n : Nat} {F : Nat → Prop} {p : Pt} {k : Nat} (h : k < n) : claimed o n F p k = o k := claimed_not fun e => by omega

namespace Sw
variable {w w' : World} {o o' : Nat → Pt} {gw ga gb hb : Nat} {ax : Nat → Value} {tv : Value} {ts : List Tx} {st : St}
theorem keep (h : Sw w o gw ga gb hb ax tv ts st) (hs : w.heap.size ≤ w'.heap.size) (hk : ∀ k, o k ≠ .no → w'.heap[k]? = w.heap[k]?) : Sw w' o gw ga gb hb ax tv ts st :=
  ⟨(hk gw (by rw [h.ogw]; simp)).trans h.head, h.row.of_block (hk ga (by rw [h.oga]; simp)), h.buf.of_blocks (hk gb (by rw [h.ogb]; simp)) (hk hb (by rw [h.ohb]; simp)),
    fun i hi => (h.mach i hi).keep hs fun k hm => hk k (by rw [hm]; simp), h.tr.keep hs hk, h.told, h.ogw, h.oga, h.ogb, h.ohb, fun k hn => Nat.lt_of_lt_of_le (h.lt k hn) hs, h.few, h.small⟩
theorem below (h : Sw w o gw ga gb hb ax tv ts st) (hb' : Below w.heap.size w w') : Sw w' o gw ga gb hb ax tv ts st := h.keep hb'.size fun k hk => hb'.block k (h.lt k hk)
theorem touch {S : Nat → Prop} (h : Sw w o gw ga gb hb ax tv ts st) (ht : Touch S w w') (hn : ∀ k, o k ≠ .no → ¬ S k) : Sw w' o gw ga gb hb ax tv ts st := h.keep ht.size fun k hk => ht.block k (h.lt k hk) (hn k hk)
theorem alloc (h : Sw w o gw ga gb hb ax tv ts st) (q : Obj) : Sw (w.alloc q) o gw ga gb hb ax tv ts st := h.below ((Below.refl _ _).alloc (Nat.le_refl _) q)
theorem drew (h : Sw w o gw ga gb hb ax tv ts st) : Sw w.drew o gw ga gb hb ax tv ts st := h.below ((Below.refl _ _).drew)

theorem gw_lt (h : Sw w o gw ga gb hb ax tv ts st) : gw < w.heap.size := h.lt gw (by rw [h.ogw]; simp)
theorem ga_lt (h : Sw w o gw ga gb hb ax tv ts st) : ga < w.heap.size := h.lt ga (by rw [h.oga]; simp)
theorem ne_wa (h : Sw w o gw ga gb hb ax tv ts st) : gw ≠ ga := fun e => by have h1 := h.ogw; rw [e, h.oga] at h1; cases h1
theorem w0 (h : Sw w o gw ga gb hb ax tv ts st) : w.cell? ⟨gw, 0, none⟩ = some (.pointer (some ⟨gb, 0, none⟩)) := by simp [World.cell?, h.head]
theorem w1 (h : Sw w o gw ga gb hb ax tv ts st) : w.cell? ⟨gw, 1, none⟩ = some (.slice (some ⟨ga, 0, none⟩) st.na st.na) := by simp [World.cell?, h.head]
theorem w2 (h : Sw w o gw ga gb hb ax tv ts st) : w.cell? ⟨gw, 2, none⟩ = some (.int .i64 st.clock) := by simp [World.cell?, h.head]
theorem w3 (h : Sw w o gw ga gb hb ax tv ts st) : w.cell? ⟨gw, 3, none⟩ = some tv := by simp [World.cell?, h.head]
theorem wfree (h : Sw w o gw ga gb hb ax tv ts st) (i : Nat) : w.frozen? ⟨gw, i, none⟩ = false := by simp [World.frozen?, h.head]
theorem amach (h : Sw w o gw ga gb hb ax tv ts st) {i : Nat} (hi : i < st.na) : w.cell? ⟨ga, i * 2, none⟩ = some (ax i) := by
  rw [h.row.cell (by omega), acCell_even]
theorem adead (h : Sw w o gw ga gb hb ax tv ts st) {i : Nat} (hi : i < st.na) : w.cell? ⟨ga, i * 2 + 1, none⟩ = some (.bool (st.dead i)) := by
  rw [h.row.cell (by omega), acCell_odd]
theorem afree (h : Sw w o gw ga gb hb ax tv ts st) (i : Nat) : w.frozen? ⟨ga, i, none⟩ = false := h.row.frozen i

/-- Blocks that were not there may be anybody's. -/
theorem own_to (h : Sw w o gw ga gb hb ax tv ts st) (ho : ∀ k, k < w.heap.size → o' k = o k) (hl : ∀ k, o' k ≠ .no → k < w.heap.size) : Sw w o' gw ga gb hb ax tv ts st :=
  ⟨h.head, h.row, h.buf, fun i hi => (h.mach i hi).mono fun k hk => (ho k (h.lt k (by rw [hk]; simp))).trans hk, h.tr.own_to ho, h.told, (ho gw h.gw_lt).trans h.ogw, (ho ga h.ga_lt).trans h.oga, (ho gb h.buf.g_lt).trans h.ogb, (ho hb h.buf.h_lt).trans h.ohb, hl, h.few, h.small⟩

/-- An actor is killed. -/
theorem setDead (h : Sw w o gw ga gb hb ax tv ts st) {i : Nat} : Sw (w.setCell ⟨ga, i * 2 + 1, none⟩ (.bool true)) o gw ga gb hb ax tv ts { st with dead := upd st.dead i true } := by
  have hne : ∀ k, k ≠ ga → (w.setCell ⟨ga, i * 2 + 1, none⟩ (.bool true)).heap[k]? = w.heap[k]? := fun k hk => Below.heap_setCell _ _ _ _ hk
  have hpt : ∀ k, o k ≠ .ac → k ≠ ga := fun k hk e => hk (e ▸ h.oga)
  have hs : w.heap.size ≤ (w.setCell ⟨ga, i * 2 + 1, none⟩ (.bool true)).heap.size := by simp [World.setCell]
  refine ⟨(hne gw h.ne_wa).trans h.head, ?_, h.buf.of_blocks (hne gb (hpt gb (by rw [h.ogb]; simp))) (hne hb (hpt hb (by rw [h.ohb]; simp))), fun j hj => (h.mach j hj).keep hs fun k hk => hne k (hpt k (by rw [hk]; simp)),
    ⟨ownsRow_keep h.tr.row fun q hq => hne q (hpt q (by rw [h.tr.own q hq]; simp)), fun t ht => ⟨(h.tr.txt t ht).1.keep hs fun k hk _ => hne k (hpt k (by rw [hk]; simp)), (h.tr.txt t ht).2.keep hs fun k hk _ => hne k (hpt k (by rw [hk]; simp))⟩, h.tr.own⟩,
    h.told, h.ogw, h.oga, h.ogb, h.ohb, fun k hk => Nat.lt_of_lt_of_le (h.lt k hk) hs, h.few, h.small⟩
  refine (h.row.set (i * 2 + 1) (.bool true)).congr fun j hj => ?_
  show _ = acCell ax (upd st.dead i true) j
  unfold acCell
  by_cases e : j = i * 2 + 1
  · subst e
    rw [if_pos rfl, if_neg (by omega), show (i * 2 + 1) / 2 = i by omega, upd_same]
  · rw [if_neg e]
    by_cases e2 : j % 2 = 0
    · rw [if_pos e2, if_pos e2]
    · rw [if_neg e2, if_neg e2, upd_other _ _ _ (by omega)]

/-- The clock is another. -/
theorem setClock (h : Sw w o gw ga gb hb ax tv ts st) (x : Int) : Sw (w.setCell ⟨gw, 2, none⟩ (.int .i64 x)) o gw ga gb hb ax tv ts { st with clock := x } := by
  have hne : ∀ k, k ≠ gw → (w.setCell ⟨gw, 2, none⟩ (.int .i64 x)).heap[k]? = w.heap[k]? := fun k hk => Below.heap_setCell _ _ _ _ hk
  have hpt : ∀ k, o k ≠ .wd → k ≠ gw := fun k hk e => hk (e ▸ h.ogw)
  have hs : w.heap.size ≤ (w.setCell ⟨gw, 2, none⟩ (.int .i64 x)).heap.size := by simp [World.setCell]
  refine ⟨blkS h.head _, h.row.of_block (hne ga h.ne_wa.symm), h.buf.of_blocks (hne gb (hpt gb (by rw [h.ogb]; simp))) (hne hb (hpt hb (by rw [h.ohb]; simp))), fun j hj => (h.mach j hj).keep hs fun k hk => hne k (hpt k (by rw [hk]; simp)),
    ⟨ownsRow_keep h.tr.row fun q hq => hne q (hpt q (by rw [h.tr.own q hq]; simp)), fun t ht => ⟨(h.tr.txt t ht).1.keep hs fun k hk _ => hne k (hpt k (by rw [hk]; simp)), (h.tr.txt t ht).2.keep hs fun k hk _ => hne k (hpt k (by rw [hk]; simp))⟩, h.tr.own⟩,
    h.told, h.ogw, h.oga, h.ogb, h.ohb, fun k hk => Nat.lt_of_lt_of_le (h.lt k hk) hs, h.few, h.small⟩

/-- The buffer did an access. -/
theorem setBuf (h : Sw w o gw ga gb hb ax tv ts st) {m : Nat → Nat} {c : Int} (hst : Stored gb hb m st.nw c w w') : Sw w' o gw ga gb hb ax tv ts { st with m := m, c := c } := by
  have hpt : ∀ k, o k ≠ .bf → ¬ Two gb hb k := fun k hk e => by
    rcases e with e | e
    · exact hk (e ▸ h.ogb)
    · exact hk (e ▸ h.ohb)
  have hne : ∀ k, o k ≠ .bf → k < w.heap.size → w'.heap[k]? = w.heap[k]? := fun k hk hl => hst.2.block k hl (hpt k hk)
  have hn2 : ∀ k, o k ≠ .no → o k ≠ .bf → w'.heap[k]? = w.heap[k]? := fun k h1 h2 => hne k h2 (h.lt k h1)
  refine ⟨(hn2 gw (by rw [h.ogw]; simp) (by rw [h.ogw]; simp)).trans h.head, h.row.of_block (hn2 ga (by rw [h.oga]; simp) (by rw [h.oga]; simp)), hst.1, fun j hj => (h.mach j hj).keep hst.2.size fun k hk => hn2 k (by rw [hk]; simp) (by rw [hk]; simp),
    ⟨ownsRow_keep h.tr.row fun q hq => hn2 q (by rw [h.tr.own q hq]; simp) (by rw [h.tr.own q hq]; simp), fun t ht => ⟨(h.tr.txt t ht).1.keep hst.2.size fun k hk _ => hn2 k (by rw [hk]; simp) (by rw [hk]; simp), (h.tr.txt t ht).2.keep hst.2.size fun k hk _ => hn2 k (by rw [hk]; simp) (by rw [hk]; simp)⟩, h.tr.own⟩,
    h.told, h.ogw, h.oga, h.ogb, h.ohb, fun k hk => Nat.lt_of_lt_of_le (h.lt k hk) hst.2.size, h.few, h.small⟩

/-- A machine moved. -/
theorem setMach (h : Sw w o gw ga gb hb ax tv ts st) {i : Nat} (_hi : i < st.na) {s : Mc} (hm : Moved (fun k => o k = .ma i) (ax i) s w w') :
    ∃ o', Sw w' o' gw ga gb hb ax tv ts { st with ms := upd st.ms i s } ∧ Touch (Own o) w w' ∧ (∀ k, k < w.heap.size → o' k = o k) := by
  obtain ⟨F, hr, ht, hF⟩ := hm
  have hn2 : ∀ k, o k ≠ .no → o k ≠ .ma i → w'.heap[k]? = w.heap[k]? := fun k h1 h2 => ht.block k (h.lt k h1) h2
  refine ⟨claimed o w.heap.size F (.ma i), ⟨(hn2 gw (by rw [h.ogw]; simp) (by rw [h.ogw]; simp)).trans h.head, h.row.of_block (hn2 ga (by rw [h.oga]; simp) (by rw [h.oga]; simp)), h.buf.of_blocks (hn2 gb (by rw [h.ogb]; simp) (by rw [h.ogb]; simp)) (hn2 hb (by rw [h.ohb]; simp) (by rw [h.ohb]; simp)), fun j hj => ?_,
    ?_, h.told, ?_, ?_, ?_, ?_, fun k hk => ?_, h.few, h.small⟩, ht.mono fun k hk => by unfold Own; rw [hk]; simp, fun k hk => claimed_old hk⟩
  · by_cases e : j = i
    · subst e
      show MRep w' _ (ax j) (upd st.ms j s j)
      rw [upd_same]
      refine hr.mono fun k hk => ?_
      rcases hF k hk with e | ⟨e, _⟩
      · have := h.lt k (by rw [e]; simp)
        exact (claimed_old this).trans e
      · exact claimed_new e hk
    · show MRep w' _ (ax j) (upd st.ms i s j)
      rw [upd_other _ _ _ e]
      refine ((h.mach j hj).keep ht.size fun k hk => hn2 k (by rw [hk]; simp) (by rw [hk]; intro e2; injection e2 with e2; exact e e2)).mono fun k hk => ?_
      have := h.lt k (by rw [hk]; simp)
      exact (claimed_old this).trans hk
  · have h1 : TrAt w' o tv ts := ⟨ownsRow_keep h.tr.row fun q hq => hn2 q (by rw [h.tr.own q hq]; simp) (by rw [h.tr.own q hq]; simp), fun t ht2 => ⟨(h.tr.txt t ht2).1.keep ht.size fun k hk _ => hn2 k (by rw [hk]; simp) (by rw [hk]; simp), (h.tr.txt t ht2).2.keep ht.size fun k hk _ => hn2 k (by rw [hk]; simp) (by rw [hk]; simp)⟩, h.tr.own⟩
    have hlt : ∀ k, o k ≠ .no → ¬ (w.heap.size ≤ k ∧ F k) := fun k hk e => by have := h.lt k hk; omega
    exact ⟨h1.row, fun t ht2 => ⟨(h1.txt t ht2).1.mono fun k hk _ => (claimed_not (hlt k (by rw [hk]; simp))).trans hk, (h1.txt t ht2).2.mono fun k hk _ => (claimed_not (hlt k (by rw [hk]; simp))).trans hk⟩, fun k hk => (claimed_not (hlt k (by rw [h1.own k hk]; simp))).trans (h1.own k hk)⟩
  · exact (claimed_old h.gw_lt).trans h.ogw
  · exact (claimed_old h.ga_lt).trans h.oga
  · exact (claimed_old h.buf.g_lt).trans h.ogb
  · exact (claimed_old h.buf.h_lt).trans h.ohb
  · by_cases e : w.heap.size ≤ k ∧ F k
    · rcases hF k e.2 with e3 | e3
      · exact Nat.lt_of_lt_of_le (h.lt k (by rw [e3]; simp)) ht.size
      · exact e3.2
    · rw [claimed_not e] at hk
      exact Nat.lt_of_lt_of_le (h.lt k hk) ht.size
end Sw

/-- A scheduler stands in memory. -/
def SwX (w : World) (o : Nat → Pt) (gw gb hb : Nat) (st : St) : Prop := ∃ ga ax tv ts, Sw w o gw ga gb hb ax tv ts st

/-- What a call on a scheduler left: nothing but its own blocks was turned, and no block that was there changed hands. -/
def Went (o : Nat → Pt) (gw gb hb : Nat) (st : St) (w w' : World) (o' : Nat → Pt) : Prop :=
  SwX w' o' gw gb hb st ∧ Touch (Own o) w w' ∧ (∀ k, k < w.heap.size → o' k = o k)

theorem SwX.below {w w' : World} {o : Nat → Pt} {gw gb hb : Nat} {st : St} (h : SwX w o gw gb hb st) (hbl : Below w.heap.size w w') : SwX w' o gw gb hb st := by
  obtain ⟨ga, ax, tv, ts, h⟩ := h
  exact ⟨ga, ax, tv, ts, h.below hbl⟩
theorem SwX.touch {S : Nat → Prop} {w w' : World} {o : Nat → Pt} {gw gb hb : Nat} {st : St} (h : SwX w o gw gb hb st) (ht : Touch S w w') (hn : ∀ k, o k ≠ .no → ¬ S k) : SwX w' o gw gb hb st := by
  obtain ⟨ga, ax, tv, ts, h⟩ := h
  exact ⟨ga, ax, tv, ts, h.touch ht hn⟩
theorem SwX.lt {w : World} {o : Nat → Pt} {gw gb hb : Nat} {st : St} (h : SwX w o gw gb hb st) {k : Nat} (hk : o k ≠ .no) : k < w.heap.size := by
  obtain ⟨ga, ax, tv, ts, h⟩ := h
  exact h.lt k hk
end Go.Proofs.Ytegjnejekakeiaa
