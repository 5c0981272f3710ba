/-
  Layer 5's Take, walked: a machine goes one part further.
-/
import Derived.Test.YtijgfaggakbajaaCopyTake
namespace Go.Proofs.Ytijgfaggakbajaa
open Go.RowKit

theorem took_end {kd : Kd} {w W w1 : World} {base top g d r n2 pb po po' cap cap' : Nat} {nx th v v1 : Value} {ys zs zs' : List Int} (h : Cp w base top g kd d r v ys)
    (hbd : Body w base top g (d + r) kd nx th) (hcp : Parts (Fixed base top g) w (.slice (some ⟨pb, po, none⟩) (n2 + 1) cap) (((Cy.nx r : Nat) : Int) :: Cy.cks (r - Cy.nx r))) (hn2 : (Cy.cks (r - Cy.nx r)).length = n2)
    (hzs : ys ++ (if kd.reads then zs else []) = zs') (HW : Below w.heap.size w W) (HT1 : Touch (Mine g v) W w1) (HL1 : Lies v v1 W) (HO1 : Owns top w1 v1 zs')
    (HG1 : w1.heap[g]? = some (.cells #[.slice (some ⟨pb, po, none⟩) (n2 + 1) cap, .int .i64 d, nx, th, v1] 113 (0, 0))) (hpo : 0 < n2 → po' = po + 1) (hc1 : n2 ≤ cap') (hc2 : cap' ≤ cap) :
    TookIs base top g kd d r v ys zs w (.returned (.tuple #[])) ((w1.setCell ⟨g, 1, none⟩ (.int .i64 ((d : Int) + (Cy.nx r : Nat)))).setCell ⟨g, 0, none⟩ (.slice (some ⟨pb, po', none⟩) n2 cap')).drew := by
  have hnl := Cy.nx_le r
  have hne : ∀ k, k ≠ g → (((w1.setCell ⟨g, 1, none⟩ (.int .i64 ((d : Int) + (Cy.nx r : Nat)))).setCell ⟨g, 0, none⟩ (.slice (some ⟨pb, po', none⟩) n2 cap')).drew).heap[k]? = w1.heap[k]? := fun k hk =>
    (Below.heap_setCell _ _ _ _ hk).trans (Below.heap_setCell _ _ _ _ hk)
  have hs1 : W.heap.size ≤ w1.heap.size := HT1.size
  have hT : Touch (Mine g v) w w1 := (Touch.of_below HW).trans HT1
  have hfix : ∀ k, Fixed base top g k → w1.heap[k]? = w.heap[k]? := fun k hk => hT.block k (Nat.lt_of_lt_of_le hk.2.1 h.there) fun hm => by
    rcases hm with hm | hm
    · exact hk.2.2 hm
    · have := (h.own.ge hm).1
      have := hk.2.1
      omega
  have hsz : w.heap.size ≤ (((w1.setCell ⟨g, 1, none⟩ (.int .i64 ((d : Int) + (Cy.nx r : Nat)))).setCell ⟨g, 0, none⟩ (.slice (some ⟨pb, po', none⟩) n2 cap')).drew).heap.size := by
    have := hT.size
    simpa [World.setCell, World.drew] using this
  refine ⟨v1, rfl, ⟨h.above, h.under, Nat.le_trans h.there hsz, by have := h.few; omega, h.near, ⟨.slice (some ⟨pb, po', none⟩) n2 cap', nx, th, ?_, ?_, fun _ => ?_⟩, ?_⟩, ?_, ?_⟩
  · have e : (((d + Cy.nx r : Nat) : Nat) : Int) = (d : Int) + (Cy.nx r : Nat) := by omega
    rw [e]
    simp [World.setCell, World.drew, Array.getElem?_modify, HG1]
  · obtain ⟨A, cp, hv, hcl, hcm, hp⟩ := hcp
    injection hv with e1 e2 e3
    refine ⟨some ⟨pb, po', none⟩, cap', by rw [hn2], by rw [hn2]; exact hc1, by omega, fun hpos => ?_⟩
    obtain ⟨b, off, eA, hK, hlt, hc⟩ := hp (by simp)
    rw [← e1] at eA
    injection eA with eA
    injection eA with e5 e6
    subst e5 e6
    refine ⟨pb, po', rfl, hK, by omega, fun i hi => ?_⟩
    have hcell := hc (i + 1) (by simpa using hi)
    rw [List.getD_cons_succ] at hcell
    have ho : po' + i = po + (i + 1) := by have := hpo (by omega); omega
    rw [ho, ← hcell]
    exact World.cell?_of_block (w := w) (a := ⟨pb, po + (i + 1), none⟩) ((hne pb hK.2.2).trans (hfix pb hK))
  · have e : d + Cy.nx r + (r - Cy.nx r) = d + r := by omega
    rw [e]
    exact hbd.keep hsz fun k hk => (hne k hk.2.2).trans (hfix k hk)
  · rw [hzs]
    exact HO1.of_block fun k hk => hne k (by have := (HO1.ge hk).1; have := h.under; omega)
  · exact ((hT.setCell (p := ⟨g, 1, none⟩) (.inl rfl) _).setCell (p := ⟨g, 0, none⟩) (.inl rfl) _).drew
  · intro k hk
    rcases HL1 k hk with e | e
    · exact .inl e
    · exact .inr (Nat.le_trans HW.size e)

set_option maxRecDepth 100000 in
set_option maxHeartbeats 1000000 in
theorem stepsTake_rd {kd : Kd} {w : World} {base top g d r : Nat} {v : Value} {ys : List Int} (h : Cp w base top g kd d r v ys) (hr : 0 < r) (V : Nat) (D : Bool) (A : Option Addr) (L cp : Nat) (zs zs' : List Int) {cv nx : Value} {b : Nat}
    (hg : w.heap[g]? = some (.cells #[cv, .int .i64 d, nx, .func (.func 51) #[] #[.pointer (some ⟨b, 0, none⟩)], v] 113 (0, 0))) (hcp : Parts (Fixed base top g) w cv (Cy.cks r)) (hbd : Body w base top g (d + r) kd nx (.func (.func 51) #[] #[.pointer (some ⟨b, 0, none⟩)]))
    (hcall : ∀ W : World, Below w.heap.size w W → Calls Try.prog 51 #[.agg #[.int .u64 V, .bool D, .slice A L cp], .pointer (some ⟨b, 0, none⟩)] W (Kept g cv d nx (.func (.func 51) #[] #[.pointer (some ⟨b, 0, none⟩)]) top v zs' W)) (hzs : ys ++ (if kd.reads then zs else []) = zs') :
    Calls Try.prog 111 #[.pointer (some ⟨g, 0, none⟩), .agg #[.int .u64 V, .bool D, .slice A L cp]] w (TookIs base top g kd d r v ys zs w) := by
  have hlt := h.lt
  have hnp := Cy.nx_pos hr
  have hnl := Cy.nx_le r
  have hfew := h.few
  have hnear := Lib.hid h.near
  have hbase := h.above
  have hub := h.there
  have hug := h.under
  have hown := Lib.hid (fun k hk => h.own.ge (k := k) hk)
  have HW := (Below.refl w.heap.size w).alloc (Nat.le_refl _) (.cells #[.int .u64 V, .bool D, .slice A L cp] 49)
  have HX := Go.Deep.blk_alloc_new w (.cells #[.int .u64 V, .bool D, .slice A L cp] 49)
  rw [Cy.cks_step hr] at hcp
  have HCP := Lib.hid hcp
  obtain ⟨A0, cap, hcv, hcl, hcm, hp⟩ := hcp
  subst hcv
  obtain ⟨pb, po, rfl, hpf, hpl, hpc⟩ := hp (by simp)
  have hp0 := hpc 0 (by simp)
  have hm2 : cap ≤ 9223372036854775807 := by unfold maxLen at hcm; omega
  simp only [List.getD_cons_zero, Nat.add_zero, List.length_cons] at hp0 hcl hg hcall HCP
  have HPC := Lib.hid hpc
  have HLQ : Hid (∃ L2, (Cy.cks (r - Cy.nx r)).length = L2) := ⟨_, rfl⟩
  obtain ⟨n2, hn2⟩ := HLQ.out
  rw [hn2] at hcl hg hcall HCP
  have HN2 := Lib.hid hn2
  clear HLQ hn2 hpc hp
  have hpos2 : (0 : Int) < (n2 : Int) + 1 := by omega
  have hne0 : ¬ ((n2 : Int) + 1 = 0) := by omega
  have hbdH := Lib.hid hbd
  have hgH := Lib.hid hg
  have hcw : w.cell? ⟨g, 0, none⟩ = some (.slice (some ⟨pb, po, none⟩) (n2 + 1) cap) := by simp [World.cell?, hg]
  have hcalls := Lib.hid hcall
  have hhz := Lib.hid hzs
  have HC0 := Lib.hid h
  clear h hg hcall hbd hzs
  go_enter Try.func111, Try.ntmps111
  go_wp2_with fail
  clear hcw
  generalize hxq : w.heap.size = x
  rw [hxq] at HX HW hub hlt hpl hown
  have HXQ := Lib.hid hxq
  generalize w.alloc (.cells #[.int .u64 V, .bool D, .slice A L cp] 49) = W at HW HX ⊢
  clear hxq
  have hgW := (HW.block g hlt).trans hgH.out
  have hc3 : W.cell? ⟨g, 3, none⟩ = some (.func (.func 51) #[] #[.pointer (some ⟨b, 0, none⟩)]) := by simp [World.cell?, hgW]
  have hx0 : W.cell? ⟨x, 0, none⟩ = some (.int .u64 V) := by simp [World.cell?, HX]
  have hx1 : W.cell? ⟨x, 1, none⟩ = some (.bool D) := by simp [World.cell?, HX]
  have hx2 : W.cell? ⟨x, 2, none⟩ = some (.slice A L cp) := by simp [World.cell?, HX]
  have HGW := Lib.hid hgW
  have HHX := Lib.hid HX
  clear hgW HX
  go_region_held3 (fun w' => w'.cell? ⟨g, 3, none⟩ = some (.func (.func 51) #[] #[.pointer (some ⟨b, 0, none⟩)]) ∧ w'.cell? ⟨x, 0, none⟩ = some (.int .u64 V) ∧ w'.cell? ⟨x, 1, none⟩ = some (.bool D) ∧ w'.cell? ⟨x, 2, none⟩ = some (.slice A L cp)) (go_keep)
    (first | (go_at_call 51; refine (hcalls.out _ (HXQ.out ▸ HW.drew)).mono ?_; rintro e w1 ⟨v1, rfl, hg1, ho1, ht1, hl1⟩; have hxg := (ht1.block x (Array.getElem?_eq_some_iff.1 HHX.out).1 (fun hm => by rcases hm with hm | hm; omega; have := hown.out x hm; omega)).trans HHX.out; have hk3 : w1.cell? ⟨g, 3, none⟩ = some (.func (.func 51) #[] #[.pointer (some ⟨b, 0, none⟩)]) := (by simp [World.cell?, hg1]); have hy0 : w1.cell? ⟨x, 0, none⟩ = some (.int .u64 V) := (by simp [World.cell?, hxg]); have hy1 : w1.cell? ⟨x, 1, none⟩ = some (.bool D) := (by simp [World.cell?, hxg]); have hy2 : w1.cell? ⟨x, 2, none⟩ = some (.slice A L cp) := (by simp [World.cell?, hxg]); have HG1 := Lib.hid hg1; have HO1 := Lib.hid ho1; have HT1 := Lib.hid ht1; have HL1 := Lib.hid hl1; clear hg1 ho1 ht1 hl1 hxg))
  have hh0 : w1.cell? ⟨g, 0, none⟩ = some (.slice (some ⟨pb, po, none⟩) (n2 + 1) cap) := by simp [World.cell?, HG1.out]
  have hh1 : w1.cell? ⟨g, 1, none⟩ = some (.int .i64 d) := by simp [World.cell?, HG1.out]
  have hf0 : w1.frozen? ⟨g, 0, none⟩ = false := by simp [World.frozen?, HG1.out]
  have hf1 : w1.frozen? ⟨g, 1, none⟩ = false := by simp [World.frozen?, HG1.out]
  have hpb1 := ((HT1.out.block pb (Nat.lt_of_lt_of_le hpl (HXQ.out ▸ HW.size)) (fun hm => by rcases hm with hm | hm; exact hpf.2.2 hm; have := hown.out pb hm; have := hpf.2.1; omega)).trans (HW.block pb hpl))
  have hp1 : w1.cell? ⟨pb, po, none⟩ = some (.int .i64 (Cy.nx r : Nat)) := (World.cell?_of_block (w := w) (a := ⟨pb, po, none⟩) hpb1).trans hp0
  have hpg : pb ≠ g := hpf.2.2
  have hpos3 : 0 < n2 + 1 := by omega
  clear hpb1 hc3 hx0 hx1 hx2 hy0 hy1 hy2 hk3
  go_wp2_with fail
  go_region
  have hsl1 : (1 : Int) ≤ (n2 : Int) + 1 := by omega
  have hsl2 : (n2 : Int) + 1 ≤ cap := by omega
  by_cases hc1 : cap = 1
  · subst hc1
    have hn20 : n2 = 0 := by omega
    subst hn20
    go_wp2
    go_end0
    exact took_end (po' := po) (cap' := 0) HC0.out hbdH.out HCP.out HN2.out hhz.out (HXQ.out ▸ HW.drew) HT1.out HL1.out HO1.out HG1.out (fun h => absurd h (Nat.lt_irrefl 0)) (Nat.le_refl _) (by omega)
  · go_wp2
    go_end0
    exact took_end (po' := po + 1) (cap' := cap - 1) HC0.out hbdH.out HCP.out HN2.out hhz.out (HXQ.out ▸ HW.drew) HT1.out HL1.out HO1.out HG1.out (fun _ => rfl) (by omega) (by omega)

set_option maxRecDepth 100000 in
set_option maxHeartbeats 1000000 in
theorem stepsTake_wr {kd : Kd} {w : World} {base top g d r : Nat} {v : Value} {ys : List Int} (h : Cp w base top g kd d r v ys) (hr : 0 < r) (V : Nat) (D : Bool) (A : Option Addr) (L cp : Nat) (zs zs' : List Int) {cv nx : Value}
    (hg : w.heap[g]? = some (.cells #[cv, .int .i64 d, nx, .func (.func 67) #[] #[], v] 113 (0, 0))) (hcp : Parts (Fixed base top g) w cv (Cy.cks r)) (hbd : Body w base top g (d + r) kd nx (.func (.func 67) #[] #[]))
    (hcall : ∀ W : World, Below w.heap.size w W → Calls Try.prog 67 #[.agg #[.int .u64 V, .bool D, .slice A L cp]] W (Kept g cv d nx (.func (.func 67) #[] #[]) top v zs' W)) (hzs : ys ++ (if kd.reads then zs else []) = zs') :
    Calls Try.prog 111 #[.pointer (some ⟨g, 0, none⟩), .agg #[.int .u64 V, .bool D, .slice A L cp]] w (TookIs base top g kd d r v ys zs w) := by
  have hlt := h.lt
  have hnp := Cy.nx_pos hr
  have hnl := Cy.nx_le r
  have hfew := h.few
  have hnear := Lib.hid h.near
  have hbase := h.above
  have hub := h.there
  have hug := h.under
  have hown := Lib.hid (fun k hk => h.own.ge (k := k) hk)
  have HW := (Below.refl w.heap.size w).alloc (Nat.le_refl _) (.cells #[.int .u64 V, .bool D, .slice A L cp] 49)
  have HX := Go.Deep.blk_alloc_new w (.cells #[.int .u64 V, .bool D, .slice A L cp] 49)
  rw [Cy.cks_step hr] at hcp
  have HCP := Lib.hid hcp
  obtain ⟨A0, cap, hcv, hcl, hcm, hp⟩ := hcp
  subst hcv
  obtain ⟨pb, po, rfl, hpf, hpl, hpc⟩ := hp (by simp)
  have hp0 := hpc 0 (by simp)
  have hm2 : cap ≤ 9223372036854775807 := by unfold maxLen at hcm; omega
  simp only [List.getD_cons_zero, Nat.add_zero, List.length_cons] at hp0 hcl hg hcall HCP
  have HPC := Lib.hid hpc
  have HLQ : Hid (∃ L2, (Cy.cks (r - Cy.nx r)).length = L2) := ⟨_, rfl⟩
  obtain ⟨n2, hn2⟩ := HLQ.out
  rw [hn2] at hcl hg hcall HCP
  have HN2 := Lib.hid hn2
  clear HLQ hn2 hpc hp
  have hpos2 : (0 : Int) < (n2 : Int) + 1 := by omega
  have hne0 : ¬ ((n2 : Int) + 1 = 0) := by omega
  have hbdH := Lib.hid hbd
  have hgH := Lib.hid hg
  have hcw : w.cell? ⟨g, 0, none⟩ = some (.slice (some ⟨pb, po, none⟩) (n2 + 1) cap) := by simp [World.cell?, hg]
  have hcalls := Lib.hid hcall
  have hhz := Lib.hid hzs
  have HC0 := Lib.hid h
  clear h hg hcall hbd hzs
  go_enter Try.func111, Try.ntmps111
  go_wp2_with fail
  clear hcw
  generalize hxq : w.heap.size = x
  rw [hxq] at HX HW hub hlt hpl hown
  have HXQ := Lib.hid hxq
  generalize w.alloc (.cells #[.int .u64 V, .bool D, .slice A L cp] 49) = W at HW HX ⊢
  clear hxq
  have hgW := (HW.block g hlt).trans hgH.out
  have hc3 : W.cell? ⟨g, 3, none⟩ = some (.func (.func 67) #[] #[]) := by simp [World.cell?, hgW]
  have hx0 : W.cell? ⟨x, 0, none⟩ = some (.int .u64 V) := by simp [World.cell?, HX]
  have hx1 : W.cell? ⟨x, 1, none⟩ = some (.bool D) := by simp [World.cell?, HX]
  have hx2 : W.cell? ⟨x, 2, none⟩ = some (.slice A L cp) := by simp [World.cell?, HX]
  have HGW := Lib.hid hgW
  have HHX := Lib.hid HX
  clear hgW HX
  go_region_held3 (fun w' => w'.cell? ⟨g, 3, none⟩ = some (.func (.func 67) #[] #[]) ∧ w'.cell? ⟨x, 0, none⟩ = some (.int .u64 V) ∧ w'.cell? ⟨x, 1, none⟩ = some (.bool D) ∧ w'.cell? ⟨x, 2, none⟩ = some (.slice A L cp)) (go_keep)
    (first | (go_at_call 67; refine (hcalls.out _ (HXQ.out ▸ HW.drew)).mono ?_; rintro e w1 ⟨v1, rfl, hg1, ho1, ht1, hl1⟩; have hxg := (ht1.block x (Array.getElem?_eq_some_iff.1 HHX.out).1 (fun hm => by rcases hm with hm | hm; omega; have := hown.out x hm; omega)).trans HHX.out; have hk3 : w1.cell? ⟨g, 3, none⟩ = some (.func (.func 67) #[] #[]) := (by simp [World.cell?, hg1]); have hy0 : w1.cell? ⟨x, 0, none⟩ = some (.int .u64 V) := (by simp [World.cell?, hxg]); have hy1 : w1.cell? ⟨x, 1, none⟩ = some (.bool D) := (by simp [World.cell?, hxg]); have hy2 : w1.cell? ⟨x, 2, none⟩ = some (.slice A L cp) := (by simp [World.cell?, hxg]); have HG1 := Lib.hid hg1; have HO1 := Lib.hid ho1; have HT1 := Lib.hid ht1; have HL1 := Lib.hid hl1; clear hg1 ho1 ht1 hl1 hxg))
  have hh0 : w1.cell? ⟨g, 0, none⟩ = some (.slice (some ⟨pb, po, none⟩) (n2 + 1) cap) := by simp [World.cell?, HG1.out]
  have hh1 : w1.cell? ⟨g, 1, none⟩ = some (.int .i64 d) := by simp [World.cell?, HG1.out]
  have hf0 : w1.frozen? ⟨g, 0, none⟩ = false := by simp [World.frozen?, HG1.out]
  have hf1 : w1.frozen? ⟨g, 1, none⟩ = false := by simp [World.frozen?, HG1.out]
  have hpb1 := ((HT1.out.block pb (Nat.lt_of_lt_of_le hpl (HXQ.out ▸ HW.size)) (fun hm => by rcases hm with hm | hm; exact hpf.2.2 hm; have := hown.out pb hm; have := hpf.2.1; omega)).trans (HW.block pb hpl))
  have hp1 : w1.cell? ⟨pb, po, none⟩ = some (.int .i64 (Cy.nx r : Nat)) := (World.cell?_of_block (w := w) (a := ⟨pb, po, none⟩) hpb1).trans hp0
  have hpg : pb ≠ g := hpf.2.2
  have hpos3 : 0 < n2 + 1 := by omega
  clear hpb1 hc3 hx0 hx1 hx2 hy0 hy1 hy2 hk3
  go_wp2_with fail
  go_region
  have hsl1 : (1 : Int) ≤ (n2 : Int) + 1 := by omega
  have hsl2 : (n2 : Int) + 1 ≤ cap := by omega
  by_cases hc1 : cap = 1
  · subst hc1
    have hn20 : n2 = 0 := by omega
    subst hn20
    go_wp2
    go_end0
    exact took_end (po' := po) (cap' := 0) HC0.out hbdH.out HCP.out HN2.out hhz.out (HXQ.out ▸ HW.drew) HT1.out HL1.out HO1.out HG1.out (fun h => absurd h (Nat.lt_irrefl 0)) (Nat.le_refl _) (by omega)
  · go_wp2
    go_end0
    exact took_end (po' := po + 1) (cap' := cap - 1) HC0.out hbdH.out HCP.out HN2.out hhz.out (HXQ.out ▸ HW.drew) HT1.out HL1.out HO1.out HG1.out (fun _ => rfl) (by omega) (by omega)


theorem TookIs.from_ {kd : Kd} {w W w' : World} {base top g d r : Nat} {v : Value} {ys zs : List Int} {e : Ending} (HW : Below w.heap.size w W) (h : TookIs base top g kd d r v ys zs W e w') : TookIs base top g kd d r v ys zs w e w' := by
  obtain ⟨v', he, hc, ht, hl⟩ := h
  refine ⟨v', he, hc, (Touch.of_below HW).trans ht, fun k hk => ?_⟩
  rcases hl k hk with e | e
  · exact .inl e
  · exact .inr (Nat.le_trans HW.size e)

theorem stepsTake_any {kd : Kd} {w : World} {base top g d r : Nat} {v : Value} {ys zs : List Int} (h : Cp w base top g kd d r v ys) (hr : 0 < r) (V : Nat) (D : Bool) (A : Option Addr) (L cp : Nat) (hz : BytesAt w (.slice A L cp) zs) (hl : ys.length + zs.length ≤ 1073741824) :
    Calls Try.prog 111 #[.pointer (some ⟨g, 0, none⟩), .agg #[.int .u64 V, .bool D, .slice A L cp]] w (TookIs base top g kd d r v ys zs w) := by
  obtain ⟨cv, nx, th, hg, hcp, hbd⟩ := h.head
  have hb := hbd (by omega)
  have hthen := fun (W : World) (HW : Below w.heap.size w W) => then_any kd (n := d + r) (cv := cv) (d := d) (nx := nx) (th := th) V D A L cp h.under (Nat.le_trans h.there HW.size) ((HW.block g h.lt).trans hg) (h.own.below HW) (hb.keep HW.size fun k hk => HW.block k (Nat.lt_of_lt_of_le hk.2.1 h.there)) (hz.below HW) hl
  rcases hthen w (Below.refl _ _) with ⟨b, hk, hth, _⟩ | ⟨hk, hth, _⟩
  · subst hth
    refine stepsTake_rd h hr V D A L cp zs (ys ++ zs) hg hcp hb (fun W HW => ?_) (by rw [hk]; rfl)
    rcases hthen W HW with ⟨b2, _, hth, hc⟩ | ⟨hk2, _, _⟩
    · obtain rfl : b2 = b := by simp at hth; exact hth.symm
      exact hc
    · rw [hk] at hk2; cases hk2
  · subst hth
    refine stepsTake_wr h hr V D A L cp zs ys hg hcp hb (fun W HW => ?_) (by rw [hk]; simp)
    rcases hthen W HW with ⟨b2, hk2, _, _⟩ | ⟨_, _, hc⟩
    · rw [hk] at hk2; cases hk2
    · exact hc

set_option maxRecDepth 100000 in
set_option maxHeartbeats 1000000 in
theorem take_any {kd : Kd} {w : World} {base top g d r : Nat} {v : Value} {ys zs : List Int} (h : Cp w base top g kd d r v ys) (hr : 0 < r) (V : Nat) (D : Bool) (A : Option Addr) (L cp : Nat) (hz : BytesAt w (.slice A L cp) zs) (hl : ys.length + zs.length ≤ 1073741824) :
    Calls Try.prog 109 #[.pointer (some ⟨g, 0, none⟩), .agg #[.int .u64 V, .bool D, .slice A L cp]] w (TookIs base top g kd d r v ys zs w) := by
  have hlt := h.lt
  have hub := h.there
  have hug := h.under
  have hown := Lib.hid (fun k hk => h.own.ge (k := k) hk)
  have HW := (Below.refl w.heap.size w).alloc (Nat.le_refl _) (.cells #[.int .u64 V, .bool D, .slice A L cp] 49)
  have HX := Go.Deep.blk_alloc_new w (.cells #[.int .u64 V, .bool D, .slice A L cp] 49)
  have HC := Lib.hid (stepsTake_any (h.below (HW.drew)) hr V D A L cp (hz.below HW.drew) hl)
  clear h hz
  go_enter Try.func109, Try.ntmps109
  go_wp2_with fail
  generalize w.alloc (.cells #[.int .u64 V, .bool D, .slice A L cp] 49) = W at HW HX HC ⊢
  have hx0 : W.cell? ⟨w.heap.size, 0, none⟩ = some (.int .u64 V) := by simp [World.cell?, HX]
  have hx1 : W.cell? ⟨w.heap.size, 1, none⟩ = some (.bool D) := by simp [World.cell?, HX]
  have hx2 : W.cell? ⟨w.heap.size, 2, none⟩ = some (.slice A L cp) := by simp [World.cell?, HX]
  have HHX := Lib.hid HX
  clear HX
  go_region_held3 (fun w' => w'.cell? ⟨w.heap.size, 0, none⟩ = some (.int .u64 V) ∧ w'.cell? ⟨w.heap.size, 1, none⟩ = some (.bool D) ∧ w'.cell? ⟨w.heap.size, 2, none⟩ = some (.slice A L cp)) (go_keep)
    (first | (go_at_call 111; refine HC.out.mono ?_; rintro e w1 ⟨v1, rfl, hc1, ht1, hl1⟩; have hxg := (ht1.block w.heap.size (Array.getElem?_eq_some_iff.1 HHX.out).1 (fun hm => by rcases hm with hm | hm; omega; have := hown.out _ hm; omega)).trans HHX.out; have hy0 : w1.cell? ⟨w.heap.size, 0, none⟩ = some (.int .u64 V) := (by simp [World.cell?, hxg]); have hy1 : w1.cell? ⟨w.heap.size, 1, none⟩ = some (.bool D) := (by simp [World.cell?, hxg]); have hy2 : w1.cell? ⟨w.heap.size, 2, none⟩ = some (.slice A L cp) := (by simp [World.cell?, hxg]); have HH1 := Lib.hid (show TookIs base top g kd d r v ys zs W.drew (.returned (.tuple #[])) w1 from ⟨v1, rfl, hc1, ht1, hl1⟩); clear hc1 ht1 hl1 hxg))
  go_wp2
  go_end0
  exact HH1.out.from_ HW.drew

set_option maxRecDepth 100000 in
set_option maxHeartbeats 1000000 in
theorem take_no {kd : Kd} {w : World} {base top g d : Nat} {v : Value} {ys : List Int} (h : Cp w base top g kd d 0 v ys) (V : Nat) (D : Bool) (A : Option Addr) (L cp : Nat) :
    Calls Try.prog 109 #[.pointer (some ⟨g, 0, none⟩), .agg #[.int .u64 V, .bool D, .slice A L cp]] w (Made (.tuple #[]) w) := by
  have HW := (Below.refl w.heap.size w).alloc (Nat.le_refl _) (.cells #[.int .u64 V, .bool D, .slice A L cp] 49)
  have HX := Go.Deep.blk_alloc_new w (.cells #[.int .u64 V, .bool D, .slice A L cp] 49)
  have HC := Lib.hid (stepsTake_no (h.below (HW.drew)) V D A L cp)
  clear h
  go_enter Try.func109, Try.ntmps109
  go_wp2_with fail
  generalize w.alloc (.cells #[.int .u64 V, .bool D, .slice A L cp] 49) = W at HW HX HC ⊢
  have hx0 : W.cell? ⟨w.heap.size, 0, none⟩ = some (.int .u64 V) := by simp [World.cell?, HX]
  have hx1 : W.cell? ⟨w.heap.size, 1, none⟩ = some (.bool D) := by simp [World.cell?, HX]
  have hx2 : W.cell? ⟨w.heap.size, 2, none⟩ = some (.slice A L cp) := by simp [World.cell?, HX]
  have HHX := Lib.hid HX
  clear HX
  go_region_held3 (fun w' => w'.cell? ⟨w.heap.size, 0, none⟩ = some (.int .u64 V) ∧ w'.cell? ⟨w.heap.size, 1, none⟩ = some (.bool D) ∧ w'.cell? ⟨w.heap.size, 2, none⟩ = some (.slice A L cp)) (go_keep)
    (first | (go_at_call 111; refine HC.out.mono ?_; rintro e w1 ⟨rfl, hb1⟩; have hxg := (hb1.block w.heap.size (Array.getElem?_eq_some_iff.1 HHX.out).1).trans HHX.out; have hy0 : w1.cell? ⟨w.heap.size, 0, none⟩ = some (.int .u64 V) := (by simp [World.cell?, hxg]); have hy1 : w1.cell? ⟨w.heap.size, 1, none⟩ = some (.bool D) := (by simp [World.cell?, hxg]); have hy2 : w1.cell? ⟨w.heap.size, 2, none⟩ = some (.slice A L cp) := (by simp [World.cell?, hxg]); clear hxg))
  go_wp2
  go_end0
  exact ⟨rfl, HW.drew.trans (hb1.mono HW.size)⟩

set_option maxRecDepth 100000 in
set_option maxHeartbeats 400000 in
theorem take_nil (V : Nat) (D : Bool) (A : Option Addr) (L cp : Nat) (w : World) :
    Calls Try.prog 109 #[.pointer none, .agg #[.int .u64 V, .bool D, .slice A L cp]] w (Made (.tuple #[]) w) := by
  go_enter Try.func109, Try.ntmps109
  go_wp2
  go_end0
  exact ⟨rfl, (Below.refl _ w).alloc (Nat.le_refl _) _⟩
end Go.Proofs.Ytijgfaggakbajaa
