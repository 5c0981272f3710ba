/-
  Layer 7's put, walked: the message's writing begins.
  Layer 9's fix, walked: it begins, it spans, it looks, further on and further back, it makes padding.
  Layer 9's fix, walked: further on, further back, what the head's header tells, the span.
  Layer 9's fix, walked: what the head's header tells; the span that is looked through.
  Layer 9's fix, walked: what goes on from an answer.
  Layer 7's put, walked: behind the padding's header the message is written; behind the length nothing goes on.
  Layer 7's put, walked: the bytes are stored: the length.
  Layer 7's put, walked: what the claim was told.
  Layer 7's put, walked: the claim moved the tail over padding.
  Layer 7's put, walked: its bytes are followed, part by part; then comes the length.
  Layer 7's put, walked: the header was stored, or a part of the bytes: the bytes are followed.
-/
import Derived.Test.YtaomkamdfbibbaaGreatP04
import Derived.Deep.RegionHeld3
namespace Go.Proofs.YtaomkamdfbibbaaGreat
open Go.RowKit

theorem daa_size (w : World) (q q' : Obj) : ((w.alloc q).alloc q').drew.heap.size = w.heap.size + 2 := by show ((w.alloc q).alloc q').heap.size = _; simp
theorem daa_blk (w : World) (q q' : Obj) : ((w.alloc q).alloc q').drew.heap[w.heap.size + 1]? = some q' := by
  have := Go.Deep.blk_alloc_new (w.alloc q) q'
  rw [show (w.alloc q).heap.size = w.heap.size + 1 by simp] at this
  exact this
theorem daa_below (w : World) (q q' : Obj) : Below w.heap.size w ((w.alloc q).alloc q').drew := (((Below.refl w.heap.size w).alloc (Nat.le_refl _) q).alloc (by simp) q').drew
theorem rp_boxed {w0 w2 : World} {n : Nat} {o : Value} {t : Nat} (hb : Below w0.heap.size w0 w2) (hq : w0.heap[n]? = some (.cells #[o] t)) : w2.cell? ⟨n, 0, none⟩ = some o ∧ w2.frozen? ⟨n, 0, none⟩ = false := by
  have hq' := (hb.block n ((Array.getElem?_eq_some_iff.1 hq).1)).trans hq
  exact ⟨by simp [World.cell?, hq'], by simp [World.frozen?, hq']⟩
theorem rp_over {w2 : World} {n : Nat} {o : Value} (q : Obj) (hc : w2.cell? ⟨n, 0, none⟩ = some o) (hz : w2.frozen? ⟨n, 0, none⟩ = false) : (w2.alloc q).cell? ⟨n, 0, none⟩ = some o ∧ (w2.alloc q).frozen? ⟨n, 0, none⟩ = false :=
  have hl : n < w2.heap.size := lt_of_cell hc
  ⟨(((Below.refl w2.heap.size w2).alloc (Nat.le_refl _) q).cell (p := ⟨n, 0, none⟩) hl).trans hc, (((Below.refl w2.heap.size w2).alloc (Nat.le_refl _) q).frozen (p := ⟨n, 0, none⟩) hl).trans hz⟩
theorem rp_two (w : World) (x : Value) (t : Nat) (q : Obj) : ((w.alloc (.cells #[x] t)).alloc q).cell? ⟨w.heap.size, 0, none⟩ = some x := (World.cell?_alloc_lt _ _ _ (by simp)).trans (rp_box w x t)
theorem rp_two' (w : World) (x : Value) (t : Nat) (q : Obj) : ((w.alloc q).alloc (.cells #[x] t)).cell? ⟨w.heap.size + 1, 0, none⟩ = some x := by
  have := rp_box (w.alloc q) x t
  rw [show (w.alloc q).heap.size = w.heap.size + 1 by simp] at this
  exact this
theorem rp_cast (x : Int) (h : 0 ≤ x) : ∃ V : Nat, x = (V : Int) ∧ x.toNat = V := ⟨x.toNat, (Int.toNat_of_nonneg h).symm, rfl⟩
theorem rp_lt_of {w : World} {k : Nat} {o : Obj} (h : w.heap[k]? = some o) : k < w.heap.size := (Array.getElem?_eq_some_iff.1 h).1

set_option maxRecDepth 100000 in
set_option maxHeartbeats 2000000 in
theorem rpWrite {w : World} {F : Nat → Prop} {g : Nat} {s : Rs} {dv : Value} (h : RpBare w F g s dv) :
    Calls Tryz.prog 102 #[.pointer (some ⟨g, 0, none⟩)] w (RpMoved F g { s with ph := .hdr } w) := by
  obtain ⟨a0, av, hblk⟩ := h.blk
  have hgl := hblk.lt
  have HH := Lib.hid h
  have hb0 := (Below.refl w.heap.size w).alloc (Nat.le_refl _) (.cells #[.pointer (some ⟨g, 0, none⟩)] 51)
  have hbox := rp_box w (.pointer (some ⟨g, 0, none⟩)) 51
  have hsz : (w.alloc (.cells #[.pointer (some ⟨g, 0, none⟩)] 51)).heap.size = w.heap.size + 1 := by simp
  have HB := Lib.hid (hblk.below hb0)
  have HW := Lib.hid hb0
  have hfew := h.ok.few
  have hz1 := h.ok.z1
  have he1 : IntKind.i64.wrap (8 + (s.L : Int)) = 8 + s.L := IntWalk.i64_in _ (by omega)
  have he2 : IntKind.i32.wrap (8 + (s.L : Int)) = 8 + s.L := by rw [Hd.s32_wrap]; unfold Hd.s32; omega
  have he3 : IntKind.i32.wrap (-(8 + (s.L : Int))) = -(8 + s.L) := by rw [Hd.s32_wrap]; unfold Hd.s32; omega
  obtain ⟨V, hV, hVn⟩ : ∃ V : Nat, Hd.jn (-(8 + (s.L : Int))) s.typ = (V : Int) ∧ (Hd.jn (-(8 + (s.L : Int))) s.typ).toNat = V := rp_cast _ (Hd.jn_bounds _ _).1
  obtain ⟨Ad, cd, hdv, _, _⟩ := h.dat
  subst hdv
  clear h hblk hb0 hfew hz1
  go_enter Tryz.func102, Tryz.ntmps102
  go_upto_region 1 with (fail)
  generalize w.alloc (.cells #[.pointer (some ⟨g, 0, none⟩)] 51) = W at hbox HW hsz HB ⊢
  have hga : ¬ w.heap.size = g := by omega
  have hgW : g < W.heap.size := by omega
  have hla : w.heap.size < W.heap.size := by omega
  clear hsz
  have c7 := HB.out.c14
  have c0 := HB.out.c0
  have c1 := HB.out.c1
  have c3 := HB.out.c3
  have y0 := World.new_ne W ⟨w.heap.size, 0, none⟩ hbox
  have y7 := World.new_ne W ⟨g, 14, none⟩ c7
  have yz := World.new_ne W ⟨g, 0, none⟩ c0
  have yo := World.new_ne W ⟨g, 1, none⟩ c1
  have y3 := World.new_ne W ⟨g, 3, none⟩ c3
  have z0 : ¬ W.heap.size + 1 = w.heap.size := by omega
  have z7 : ¬ W.heap.size + 1 = g := by omega
  go_cut [2, 3] (fun v u wx => ∃ bA bL, v = .pointer (some ⟨bA, 0, none⟩) ∧ u = .pointer (some ⟨bL, 0, none⟩) ∧ Below W.heap.size W wx ∧ W.heap.size ≤ bA ∧ W.heap.size ≤ bL ∧ wx.cell? ⟨bA, 0, none⟩ = some (.int .i64 (s.spot s.p)) ∧ wx.cell? ⟨bL, 0, none⟩ = some (.int .i32 (8 + (s.L : Int))))
  case first =>
    go_region_held3 (fun w' => w'.cell? ⟨w.heap.size, 0, none⟩ = some (.pointer (some ⟨g, 0, none⟩)) ∧ w'.cell? ⟨g, 14, none⟩ = some (.int .i64 s.p) ∧ w'.cell? ⟨g, 0, none⟩ = some (.int .i64 s.B) ∧ w'.cell? ⟨g, 1, none⟩ = some (.int .i64 s.Z) ∧ w'.cell? ⟨g, 3, none⟩ = some (.slice Ad s.L cd)) (go_keep)
      (first
        | (go_at_call 48; refine (rpAtC HH.out.ok s.p (((W.alloc (.cells #[.int .i64 0] 3)).alloc (.cells #[.int .i32 0] 21)).drew)).mono ?_; rintro e w2 ⟨rfl, hb⟩; have hbq : Below W.heap.size W (((W.alloc (.cells #[.int .i64 0] 3)).alloc (.cells #[.int .i32 0] 21)).drew) := daa_below W (.cells #[.int .i64 0] 3) (.cells #[.int .i32 0] 21); have hb2 : Below W.heap.size W w2 := hbq.trans (hb.mono hbq.size); obtain ⟨hc0, hz0⟩ := rp_boxed (n := W.heap.size) (o := .int .i64 0) (t := 3) hb ((Below.heap_alloc (W.alloc (.cells #[.int .i64 0] 3)) (.cells #[.int .i32 0] 21) W.heap.size (by simp)).trans (Go.Deep.blk_alloc_new W _)); obtain ⟨hc1, hz1⟩ := rp_boxed (n := (W.heap.size + 1)) (o := .int .i32 0) (t := 21) hb (daa_blk W _ _); have k0 := (hb2.cell (p := ⟨w.heap.size, 0, none⟩) hla).trans hbox; have k7 := (hb2.cell (p := ⟨g, 14, none⟩) hgW).trans c7; have kz := (hb2.cell (p := ⟨g, 0, none⟩) hgW).trans c0; have ko := (hb2.cell (p := ⟨g, 1, none⟩) hgW).trans c1; have k3 := (hb2.cell (p := ⟨g, 3, none⟩) hgW).trans c3; have yy0 := World.new_ne w2 ⟨w.heap.size, 0, none⟩ k0; have yy7 := World.new_ne w2 ⟨g, 14, none⟩ k7; have yyz := World.new_ne w2 ⟨g, 0, none⟩ kz; have yyo := World.new_ne w2 ⟨g, 1, none⟩ ko; have yy3 := World.new_ne w2 ⟨g, 3, none⟩ k3; have yc0 := World.new_ne w2 ⟨W.heap.size, 0, none⟩ hc0; have yc1 := World.new_ne w2 ⟨(W.heap.size + 1), 0, none⟩ hc1)
        | (go_at_call 48; refine (rpAtC HH.out.ok s.p (((W.alloc (.cells #[.int .i32 0] 21)).alloc (.cells #[.int .i64 0] 3)).drew)).mono ?_; rintro e w2 ⟨rfl, hb⟩; have hbq : Below W.heap.size W (((W.alloc (.cells #[.int .i32 0] 21)).alloc (.cells #[.int .i64 0] 3)).drew) := daa_below W (.cells #[.int .i32 0] 21) (.cells #[.int .i64 0] 3); have hb2 : Below W.heap.size W w2 := hbq.trans (hb.mono hbq.size); obtain ⟨hc0, hz0⟩ := rp_boxed (n := W.heap.size) (o := .int .i32 0) (t := 21) hb ((Below.heap_alloc (W.alloc (.cells #[.int .i32 0] 21)) (.cells #[.int .i64 0] 3) W.heap.size (by simp)).trans (Go.Deep.blk_alloc_new W _)); obtain ⟨hc1, hz1⟩ := rp_boxed (n := (W.heap.size + 1)) (o := .int .i64 0) (t := 3) hb (daa_blk W _ _); have k0 := (hb2.cell (p := ⟨w.heap.size, 0, none⟩) hla).trans hbox; have k7 := (hb2.cell (p := ⟨g, 14, none⟩) hgW).trans c7; have kz := (hb2.cell (p := ⟨g, 0, none⟩) hgW).trans c0; have ko := (hb2.cell (p := ⟨g, 1, none⟩) hgW).trans c1; have k3 := (hb2.cell (p := ⟨g, 3, none⟩) hgW).trans c3; have yy0 := World.new_ne w2 ⟨w.heap.size, 0, none⟩ k0; have yy7 := World.new_ne w2 ⟨g, 14, none⟩ k7; have yyz := World.new_ne w2 ⟨g, 0, none⟩ kz; have yyo := World.new_ne w2 ⟨g, 1, none⟩ ko; have yy3 := World.new_ne w2 ⟨g, 3, none⟩ k3; have yc0 := World.new_ne w2 ⟨W.heap.size, 0, none⟩ hc0; have yc1 := World.new_ne w2 ⟨(W.heap.size + 1), 0, none⟩ hc1)
        | (go_at_call 48; refine (rpAtC HH.out.ok s.p ((W.alloc (.cells #[.int .i64 0] 3)).drew)).mono ?_; rintro e w2 ⟨rfl, hb⟩; have hbq : Below W.heap.size W ((W.alloc (.cells #[.int .i64 0] 3)).drew) := da_below W (.cells #[.int .i64 0] 3); have hb2 : Below W.heap.size W w2 := hbq.trans (hb.mono hbq.size); obtain ⟨hc0, hz0⟩ := rp_boxed (n := W.heap.size) (o := .int .i64 0) (t := 3) hb (Go.Deep.blk_alloc_new W _); have k0 := (hb2.cell (p := ⟨w.heap.size, 0, none⟩) hla).trans hbox; have k7 := (hb2.cell (p := ⟨g, 14, none⟩) hgW).trans c7; have kz := (hb2.cell (p := ⟨g, 0, none⟩) hgW).trans c0; have ko := (hb2.cell (p := ⟨g, 1, none⟩) hgW).trans c1; have k3 := (hb2.cell (p := ⟨g, 3, none⟩) hgW).trans c3; have yy0 := World.new_ne w2 ⟨w.heap.size, 0, none⟩ k0; have yy7 := World.new_ne w2 ⟨g, 14, none⟩ k7; have yyz := World.new_ne w2 ⟨g, 0, none⟩ kz; have yyo := World.new_ne w2 ⟨g, 1, none⟩ ko; have yy3 := World.new_ne w2 ⟨g, 3, none⟩ k3; have yc0 := World.new_ne w2 ⟨W.heap.size, 0, none⟩ hc0; have hv0 := fun q => (rp_over q hc0 hz0).1; have hf0 := fun q => (rp_over q hc0 hz0).2)
        | (go_at_call 48; refine (rpAtC HH.out.ok s.p ((W.alloc (.cells #[.int .i32 0] 21)).drew)).mono ?_; rintro e w2 ⟨rfl, hb⟩; have hbq : Below W.heap.size W ((W.alloc (.cells #[.int .i32 0] 21)).drew) := da_below W (.cells #[.int .i32 0] 21); have hb2 : Below W.heap.size W w2 := hbq.trans (hb.mono hbq.size); obtain ⟨hc0, hz0⟩ := rp_boxed (n := W.heap.size) (o := .int .i32 0) (t := 21) hb (Go.Deep.blk_alloc_new W _); have k0 := (hb2.cell (p := ⟨w.heap.size, 0, none⟩) hla).trans hbox; have k7 := (hb2.cell (p := ⟨g, 14, none⟩) hgW).trans c7; have kz := (hb2.cell (p := ⟨g, 0, none⟩) hgW).trans c0; have ko := (hb2.cell (p := ⟨g, 1, none⟩) hgW).trans c1; have k3 := (hb2.cell (p := ⟨g, 3, none⟩) hgW).trans c3; have yy0 := World.new_ne w2 ⟨w.heap.size, 0, none⟩ k0; have yy7 := World.new_ne w2 ⟨g, 14, none⟩ k7; have yyz := World.new_ne w2 ⟨g, 0, none⟩ kz; have yyo := World.new_ne w2 ⟨g, 1, none⟩ ko; have yy3 := World.new_ne w2 ⟨g, 3, none⟩ k3; have yc0 := World.new_ne w2 ⟨W.heap.size, 0, none⟩ hc0; have hv0 := fun q => (rp_over q hc0 hz0).1; have hf0 := fun q => (rp_over q hc0 hz0).2)
        | (go_at_call 48; refine (rpAtC HH.out.ok s.p (W.drew)).mono ?_; rintro e w2 ⟨rfl, hb⟩; have hbq : Below W.heap.size W (W.drew) := (Below.refl _ W).drew; have hb2 : Below W.heap.size W w2 := hbq.trans (hb.mono hbq.size); have k0 := (hb2.cell (p := ⟨w.heap.size, 0, none⟩) hla).trans hbox; have k7 := (hb2.cell (p := ⟨g, 14, none⟩) hgW).trans c7; have kz := (hb2.cell (p := ⟨g, 0, none⟩) hgW).trans c0; have ko := (hb2.cell (p := ⟨g, 1, none⟩) hgW).trans c1; have k3 := (hb2.cell (p := ⟨g, 3, none⟩) hgW).trans c3; have yy0 := World.new_ne w2 ⟨w.heap.size, 0, none⟩ k0; have yy7 := World.new_ne w2 ⟨g, 14, none⟩ k7; have yyz := World.new_ne w2 ⟨g, 0, none⟩ kz; have yyo := World.new_ne w2 ⟨g, 1, none⟩ ko; have yy3 := World.new_ne w2 ⟨g, 3, none⟩ k3)
)
    all_goals (go_wp2_with fail; go_meet)
    · exact ⟨_, _, rfl, rfl, (hb2.alloc hb2.size _).alloc (by have := hb2.size; simp; omega) _, hb2.size, Nat.le_succ_of_le hb2.size, rp_two w2 _ _ _, rp_two' w2 _ _ _⟩
    · exact ⟨_, _, rfl, rfl, (hb2.alloc hb2.size _).alloc (by have := hb2.size; simp; omega) _, Nat.le_succ_of_le hb2.size, hb2.size, rp_two' w2 _ _ _, rp_two w2 _ _ _⟩
    · exact ⟨_, _, rfl, rfl, ((hb2.alloc hb2.size _).setCell (Nat.le_refl _) _).setCell hb2.size _, Nat.le_refl _, hb2.size, (World.cell?_setCell_far _ _ _ _ yc0).trans (World.cell?_setCell_same _ _ _ (hv0 _)), World.cell?_setCell_same _ _ _ ((World.cell?_setCell_far _ _ _ _ yc0.symm).trans (rp_box w2 _ _))⟩
    · exact ⟨_, _, rfl, rfl, (hb2.setCell (Nat.le_refl _) _).setCell (Nat.le_succ _) _, Nat.le_refl _, Nat.le_succ _, (World.cell?_setCell_far _ _ _ _ (Nat.succ_ne_self _)).trans (World.cell?_setCell_same _ _ _ hc0), World.cell?_setCell_same _ _ _ ((World.cell?_setCell_far _ _ _ _ (Nat.succ_ne_self _).symm).trans hc1)⟩
    · exact ⟨_, _, rfl, rfl, (hb2.alloc hb2.size _).setCell (Nat.le_refl _) _, hb2.size, Nat.le_refl _, (World.cell?_setCell_far _ _ _ _ yc0.symm).trans (rp_box w2 _ _), World.cell?_setCell_same _ _ _ (hv0 _)⟩
    · exact ⟨_, _, rfl, rfl, (hb2.setCell (Nat.le_succ _) _).setCell (Nat.le_refl _) _, Nat.le_succ _, Nat.le_refl _, (World.cell?_setCell_far _ _ _ _ (Nat.succ_ne_self _).symm).trans (World.cell?_setCell_same _ _ _ hc1), World.cell?_setCell_same _ _ _ ((World.cell?_setCell_far _ _ _ _ (Nat.succ_ne_self _)).trans hc0)⟩
  case rest =>
    obtain ⟨bA, bL, rfl, rfl, hbc, hA, hL, hca, hcl⟩ := hcut
    have hbW := HW.out.trans (hbc.mono HW.out.size)
    have k0 := (hbc.cell (p := ⟨w.heap.size, 0, none⟩) hla).trans hbox
    have HB2 := Lib.hid (HB.out.below hbc)
    have k2 := HB2.out.c2
    have HBW := Lib.hid hbW
    have hAg : ¬ bA = g := by omega
    have hLg : ¬ bL = g := by omega
    have hwA : w.heap.size ≤ bA := by omega
    have hwL : w.heap.size ≤ bL := by omega
    have hla' : w.heap.size < wc.heap.size := lt_of_cell k0
    have hbA : bA < wc.heap.size := lt_of_cell hca
    have hbL : bL < wc.heap.size := lt_of_cell hcl
    have hgc : g < wc.heap.size := lt_of_cell k2
    clear c7 c3 c0 c1 y0 y7 y3 yz yo z0 z7 hbox hbc hbW he1 he2 HB HW hla hgW hA hL
    go_upto_region 2 with (fail)
    go_region_held3 (fun w' => w'.cell? ⟨w.heap.size, 0, none⟩ = some (.pointer (some ⟨g, 0, none⟩)) ∧ w'.cell? ⟨bA, 0, none⟩ = some (.int .i64 (s.spot s.p)) ∧ w'.cell? ⟨bL, 0, none⟩ = some (.int .i32 (8 + (s.L : Int))) ∧ w'.cell? ⟨g, 2, none⟩ = some (.int .i32 s.typ)) (go_keep)
      (first
        | (go_at_call 27; refine (rpDo (HB2.out.below hb1) ⟨2, s.spot s.p, 8, V, 0, []⟩ none 0 0 117 #[] #[.pointer (some ⟨w.heap.size, 0, none⟩), .pointer (some ⟨bA, 0, none⟩), .pointer (some ⟨bL, 0, none⟩)]).mono ?_; intro e wd has; have HAS := Lib.hid has; obtain ⟨rfl, hblkd, htd⟩ := has; have kd := (htd.cell (p := ⟨w.heap.size, 0, none⟩) (lt_of_cell k1) hga).trans k1; have ad := (htd.cell (p := ⟨bA, 0, none⟩) (lt_of_cell a1) hAg).trans a1; have ld := (htd.cell (p := ⟨bL, 0, none⟩) (lt_of_cell l1) hLg).trans l1; have o2d := hblkd.c2; clear hblkd)
        | (go_at_call 88; refine (record_any (-(8 + (s.L : Int))) s.typ _).mono ?_; rintro e w' ⟨rfl, rfl⟩; rw [hV])
        | (go_at_call 80; refine (stSet (s.spot s.p) V _).mono ?_; rintro e x1 ⟨rfl, hq1⟩; have hb1 := below_drew hq1; have k1 := (hb1.cell (p := ⟨w.heap.size, 0, none⟩) hla').trans k0; have a1 := (hb1.cell (p := ⟨bA, 0, none⟩) hbA).trans hca; have l1 := (hb1.cell (p := ⟨bL, 0, none⟩) hbL).trans hcl; have o21 := (hb1.cell (p := ⟨g, 2, none⟩) hgc).trans k2; have hbl := HBW.out.trans (hb1.mono HBW.out.size)))
    all_goals
      go_wp2
      go_end0
      refine rp_asked (s' := { s with ph := .hdr }) HH.out rfl hbl (show some (⟨2, s.spot s.p, 8, (Hd.jn (-(8 + (s.L : Int))) s.typ).toNat, 0, []⟩ : Ac) = _ by rw [hVn]) HAS.out (BytesIn.none _ _) fun w2 hk => ?_
      have hl3 : w.heap.size < x1.heap.size := lt_of_cell k1
      have hm3 : bA < x1.heap.size := lt_of_cell a1
      have hn3 : bL < x1.heap.size := lt_of_cell l1
      exact ⟨w.heap.size, bA, bL, rfl, ⟨.inr ⟨Nat.le_refl _, hl3⟩, hga, (World.cell?_of_block (w := x1) (a := ⟨w.heap.size, 0, none⟩) (hk _ hga hl3)).trans k1⟩, ⟨.inr ⟨hwA, hm3⟩, hAg, (World.cell?_of_block (w := x1) (a := ⟨bA, 0, none⟩) (hk _ hAg hm3)).trans a1⟩, ⟨.inr ⟨hwL, hn3⟩, hLg, (World.cell?_of_block (w := x1) (a := ⟨bL, 0, none⟩) (hk _ hLg hn3)).trans l1⟩⟩
end Go.Proofs.YtaomkamdfbibbaaGreat
namespace Go.Proofs.YtaomkamdfbibbaaGreat
open Go.RowKit

theorem fx_box2 (w : World) (v0 v1 : Value) (T0 T1 : TypeId) (WW : World) (hWW : WW = (w.alloc (.cells #[v0] T0)).alloc (.cells #[v1] T1)) :
    Below w.heap.size w WW ∧ WW.cell? ⟨w.heap.size, 0, none⟩ = some v0 ∧ WW.cell? ⟨w.heap.size + 1, 0, none⟩ = some v1 ∧ WW.heap.size = w.heap.size + 2 := by
  have b1 := (Below.refl w.heap.size w).alloc (Nat.le_refl _) (.cells #[v0] T0)
  have x1 := rp_box w v0 T0
  have s1 : (w.alloc (.cells #[v0] T0)).heap.size = w.heap.size + 1 := by simp
  generalize w.alloc (.cells #[v0] T0) = W1 at *
  have b2 := (Below.refl W1.heap.size W1).alloc (Nat.le_refl _) (.cells #[v1] T1)
  have x2 := rp_box W1 v1 T1
  have s2 : (W1.alloc (.cells #[v1] T1)).heap.size = W1.heap.size + 1 := by simp
  have y1 := (b2.cell (p := ⟨w.heap.size, 0, none⟩) (by show w.heap.size < _; omega)).trans x1
  rw [s1] at x2
  subst hWW
  exact ⟨b1.trans (b2.mono (by omega)), y1, x2, by omega⟩

set_option maxRecDepth 100000 in
set_option maxHeartbeats 800000 in
theorem fxBegin {w : World} {F : Nat → Prop} {g : Nat} {s : Fs} (h : FxBare w F g s) :
    Calls Tryz.prog 16 #[.pointer (some ⟨g, 0, none⟩)] w (FxMoved F g { s with ph := .head } w) := by
  obtain ⟨a, hblk⟩ := h.blk
  have hgl := hblk.lt
  have HH := Lib.hid h
  have HB := Lib.hid hblk
  have hb0 := (Below.refl w.heap.size w).alloc (Nat.le_refl _) (.cells #[.pointer (some ⟨g, 0, none⟩)] 26)
  have hbox := rp_box w (.pointer (some ⟨g, 0, none⟩)) 26
  have hsz : (w.alloc (.cells #[.pointer (some ⟨g, 0, none⟩)] 26)).heap.size = w.heap.size + 1 := by simp
  have c0 := (hb0.cell (p := ⟨g, 0, none⟩) hgl).trans hblk.c0
  have c1 := (hb0.cell (p := ⟨g, 1, none⟩) hgl).trans hblk.c1
  have HW := Lib.hid hb0
  clear h hblk hb0
  go_enter Tryz.func16, Tryz.ntmps16
  go_upto_region 1 with (fail)
  generalize w.alloc (.cells #[.pointer (some ⟨g, 0, none⟩)] 26) = W at hbox HW hsz c0 c1 ⊢
  have hga : ¬ w.heap.size = g := by omega
  have hla : w.heap.size < W.heap.size := by omega
  have hgW : g < W.heap.size := by omega
  clear hsz
  go_region_held3 (fun w' => w'.cell? ⟨w.heap.size, 0, none⟩ = some (.pointer (some ⟨g, 0, none⟩)) ∧ w'.cell? ⟨g, 0, none⟩ = some (.int .i64 s.B) ∧ w'.cell? ⟨g, 1, none⟩ = some (.int .i64 s.Z)) (go_keep)
    (first
      | (go_at_call 27; refine (fxDo (HB.out.below hbl) ⟨1, Rg.num s.B s.Z 16, 8, 0, 0, []⟩ none 0 0 30 #[] #[.pointer (some ⟨w.heap.size, 0, none⟩)]).mono ?_; intro e wd has; have HAS := Lib.hid has; obtain ⟨rfl, hblkd, htd⟩ := has; have kd := (htd.cell (p := ⟨w.heap.size, 0, none⟩) (lt_of_cell k2) hga).trans k2; have o0d := hblkd.c0; have o1d := hblkd.c1; clear hblkd)
      | (go_at_call 28; refine (stLoad (Rg.num s.B s.Z 16) _).mono ?_; rintro e x2 ⟨rfl, hq2⟩; have hb2 := hb1.trans (hq2.mono hb1.size); have k2 := (hb2.cell (p := ⟨w.heap.size, 0, none⟩) hla).trans hbox; have o02 := (hb2.cell (p := ⟨g, 0, none⟩) hgW).trans c0; have o12 := (hb2.cell (p := ⟨g, 1, none⟩) hgW).trans c1; have hbl := HW.out.trans (hb2.mono HW.out.size))
      | (go_at_call 29; refine (rgHead HH.out.ok.rg _).mono ?_; rintro e x1 ⟨rfl, hq1⟩; have hb1 := below_drew hq1; have k1 := (hb1.cell (p := ⟨w.heap.size, 0, none⟩) hla).trans hbox; have o01 := (hb1.cell (p := ⟨g, 0, none⟩) hgW).trans c0; have o11 := (hb1.cell (p := ⟨g, 1, none⟩) hgW).trans c1))
  all_goals
    go_wp2
    go_end0
    obtain ⟨_, hbk, hT⟩ := HAS.out
    exact fx_put HH.out .head ((Touch.of_below hbl).trans hT) hbk rfl trivial ⟨w.heap.size, rfl, .inr ⟨Nat.le_refl _, lt_of_cell kd⟩, hga, kd⟩

/-- What looking at a place leaves. -/
def FxLook (g : Nat) (s : Fs) (q : Int) (on : Value) (w : World) (e : Ending) (w' : World) : Prop :=
  e = .returned (.tuple #[]) ∧ ∃ c, FxBlk w' g s ⟨1, Rg.spot s.B s.Z q, 4, 0, 0, []⟩ (.slice none 0 0) (.func (.func 105) #[] #[.pointer (some ⟨c, 0, none⟩)]) ∧ w.heap.size ≤ c ∧ c < w'.heap.size ∧ w'.cell? ⟨c, 0, none⟩ = some on ∧ Touch (fun k => k = g) w w'

set_option maxRecDepth 100000 in
set_option maxHeartbeats 800000 in
theorem fxLook {w : World} {g : Nat} {s : Fs} {a : Ac} {av th : Value} (hblk : FxBlk w g s a av th) (ok : Rg.Ok s.B s.Z) (q : Int) (k : FuncId) (rc caps : Array Value) :
    Calls Tryz.prog 85 #[.pointer (some ⟨g, 0, none⟩), .int .i64 q, .func (.func k) rc caps] w (FxLook g s q (.func (.func k) rc caps) w) := by
  have hgl := hblk.lt
  have HO := Lib.hid ok
  have HB := Lib.hid hblk
  have hb0 := (Below.refl w.heap.size w).alloc (Nat.le_refl _) (.cells #[.func (.func k) rc caps] 135)
  have hbox := rp_box w (.func (.func k) rc caps) 135
  have hsz : (w.alloc (.cells #[.func (.func k) rc caps] 135)).heap.size = w.heap.size + 1 := by simp
  have c0 := (hb0.cell (p := ⟨g, 0, none⟩) hgl).trans hblk.c0
  have c1 := (hb0.cell (p := ⟨g, 1, none⟩) hgl).trans hblk.c1
  have HW := Lib.hid hb0
  clear hblk hb0 ok
  go_enter Tryz.func85, Tryz.ntmps85
  go_upto_region 1 with (fail)
  generalize w.alloc (.cells #[.func (.func k) rc caps] 135) = W at hbox HW hsz c0 c1 ⊢
  have hga : ¬ w.heap.size = g := by omega
  have hla : w.heap.size < W.heap.size := by omega
  have hgW : g < W.heap.size := by omega
  clear hsz
  go_region_held3 (fun w' => w'.cell? ⟨w.heap.size, 0, none⟩ = some (.func (.func k) rc caps) ∧ w'.cell? ⟨g, 0, none⟩ = some (.int .i64 s.B) ∧ w'.cell? ⟨g, 1, none⟩ = some (.int .i64 s.Z)) (go_keep)
    (first
      | (go_at_call 27; refine (fxDo (HB.out.below hbl) ⟨1, Rg.spot s.B s.Z q, 4, 0, 0, []⟩ none 0 0 105 #[] #[.pointer (some ⟨w.heap.size, 0, none⟩)]).mono ?_; intro e wd has; have HAS := Lib.hid has; obtain ⟨rfl, hblkd, htd⟩ := has; have kd := (htd.cell (p := ⟨w.heap.size, 0, none⟩) (lt_of_cell k2) hga).trans k2; have o0d := hblkd.c0; have o1d := hblkd.c1; clear hblkd)
      | (go_at_call 104; refine (stLoadHalf (Rg.spot s.B s.Z q) _).mono ?_; rintro e x2 ⟨rfl, hq2⟩; have hb2 := hb1.trans (hq2.mono hb1.size); have k2 := (hb2.cell (p := ⟨w.heap.size, 0, none⟩) hla).trans hbox; have o02 := (hb2.cell (p := ⟨g, 0, none⟩) hgW).trans c0; have o12 := (hb2.cell (p := ⟨g, 1, none⟩) hgW).trans c1; have hbl := HW.out.trans (hb2.mono HW.out.size))
      | (go_at_call 48; refine (rgAt HO.out q _).mono ?_; rintro e x1 ⟨rfl, hq1⟩; have hb1 := below_drew hq1; have k1 := (hb1.cell (p := ⟨w.heap.size, 0, none⟩) hla).trans hbox; have o01 := (hb1.cell (p := ⟨g, 0, none⟩) hgW).trans c0; have o11 := (hb1.cell (p := ⟨g, 1, none⟩) hgW).trans c1))
  all_goals
    go_wp2
    go_end0
    obtain ⟨_, hbk, hT⟩ := HAS.out
    exact ⟨rfl, w.heap.size, hbk, Nat.le_refl _, lt_of_cell kd, kd, (Touch.of_below hbl).trans hT⟩

set_option maxRecDepth 100000 in
set_option maxHeartbeats 800000 in
theorem fxPad {w : World} {F : Nat → Prop} {g : Nat} {s : Fs} (h : FxBare w F g s) (n : Int) (hn : -8192 ≤ n ∧ n ≤ 8192) :
    Calls Tryz.prog 72 #[.pointer (some ⟨g, 0, none⟩), .int .i32 n] w (FxMoved F g { s with ph := .padd n } w) := by
  obtain ⟨a, hblk⟩ := h.blk
  have hgl := hblk.lt
  have HH := Lib.hid h
  have HB := Lib.hid hblk
  obtain ⟨WW, hWW⟩ : ∃ WW, WW = (w.alloc (.cells #[.pointer (some ⟨g, 0, none⟩)] 26)).alloc (.cells #[.int .i32 n] 21) := ⟨_, rfl⟩
  obtain ⟨hb0, hbox, hbox1, hsz⟩ := fx_box2 w (.pointer (some ⟨g, 0, none⟩)) (.int .i32 n) _ _ WW hWW
  have c0 := (hb0.cell (p := ⟨g, 0, none⟩) hgl).trans hblk.c0
  have c1 := (hb0.cell (p := ⟨g, 1, none⟩) hgl).trans hblk.c1
  have c9 := (hb0.cell (p := ⟨g, 9, none⟩) hgl).trans hblk.c9
  have HW := Lib.hid hb0
  have HN := Lib.hid hn
  clear h hblk hb0 hn
  go_enter Tryz.func72, Tryz.ntmps72
  go_upto_region 1 with (fail)
  rw [← hWW]
  clear hWW
  have hga : ¬ w.heap.size = g := by omega
  have hgb : ¬ w.heap.size + 1 = g := by omega
  have hla : w.heap.size < WW.heap.size := by omega
  have hlb : w.heap.size + 1 < WW.heap.size := by omega
  have hgW : g < WW.heap.size := by omega
  clear hsz
  obtain ⟨Vp, hV, hVn⟩ : ∃ V : Nat, Hd.jn n (-1) = (V : Int) ∧ (Hd.jn n (-1)).toNat = V := rp_cast _ (Hd.jn_bounds _ _).1
  have HVN := Lib.hid hVn
  clear hVn
  go_region_held3 (fun w' => w'.cell? ⟨w.heap.size, 0, none⟩ = some (.pointer (some ⟨g, 0, none⟩)) ∧ w'.cell? ⟨w.heap.size + 1, 0, none⟩ = some (.int .i32 n) ∧ w'.cell? ⟨g, 0, none⟩ = some (.int .i64 s.B) ∧ w'.cell? ⟨g, 1, none⟩ = some (.int .i64 s.Z) ∧ w'.cell? ⟨g, 9, none⟩ = some (.int .i64 s.a)) (go_keep)
    (first
      | (go_at_call 27; refine (fxDo (HB.out.below hbl) ⟨2, Rg.spot s.B s.Z s.a, 8, Vp, 0, []⟩ none 0 0 89 #[] #[.pointer (some ⟨w.heap.size + 1, 0, none⟩), .pointer (some ⟨w.heap.size, 0, none⟩)]).mono ?_; intro e wd has; have HAS := Lib.hid has; obtain ⟨rfl, hblkd, htd⟩ := has; have kd := (htd.cell (p := ⟨w.heap.size, 0, none⟩) (lt_of_cell k3) hga).trans k3; have md := (htd.cell (p := ⟨w.heap.size + 1, 0, none⟩) (lt_of_cell m3) hgb).trans m3; have o0d := hblkd.c0; have o1d := hblkd.c1; have o9d := hblkd.c9; clear hblkd)
      | (go_at_call 80; refine (stSet (Rg.spot s.B s.Z s.a) Vp _).mono ?_; rintro e x3 ⟨rfl, hq3⟩; have hb3 := hb1.trans (hq3.mono hb1.size); have k3 := (hb3.cell (p := ⟨w.heap.size, 0, none⟩) hla).trans hbox; have m3 := (hb3.cell (p := ⟨w.heap.size + 1, 0, none⟩) hlb).trans hbox1; have o03 := (hb3.cell (p := ⟨g, 0, none⟩) hgW).trans c0; have o13 := (hb3.cell (p := ⟨g, 1, none⟩) hgW).trans c1; have o93 := (hb3.cell (p := ⟨g, 9, none⟩) hgW).trans c9; have hbl := HW.out.trans (hb3.mono HW.out.size))
      | (go_at_call 88; refine (record_any n (-1) _).mono ?_; rintro e x2 ⟨rfl, rfl⟩; rw [hV])
      | (go_at_call 48; refine (rgAt HH.out.ok.rg s.a _).mono ?_; rintro e x1 ⟨rfl, hq1⟩; have hb1 := below_drew hq1; have k1 := (hb1.cell (p := ⟨w.heap.size, 0, none⟩) hla).trans hbox; have m1 := (hb1.cell (p := ⟨w.heap.size + 1, 0, none⟩) hlb).trans hbox1; have o01 := (hb1.cell (p := ⟨g, 0, none⟩) hgW).trans c0; have o11 := (hb1.cell (p := ⟨g, 1, none⟩) hgW).trans c1; have o91 := (hb1.cell (p := ⟨g, 9, none⟩) hgW).trans c9))
  all_goals
    go_wp2
    go_end0
    obtain ⟨_, hbk, hT⟩ := HAS.out
    refine fx_put HH.out (.padd n) ((Touch.of_below hbl).trans hT) hbk (by show some (⟨2, Rg.spot s.B s.Z s.a, 8, (Hd.jn n (-1)).toNat, 0, []⟩ : Ac) = _; rw [HVN.out]) HN.out ⟨w.heap.size + 1, w.heap.size, rfl, ⟨.inr ⟨Nat.le_succ _, lt_of_cell md⟩, hgb, md⟩, .inr ⟨Nat.le_refl _, lt_of_cell kd⟩, hga, kd⟩

end Go.Proofs.YtaomkamdfbibbaaGreat
namespace Go.Proofs.YtaomkamdfbibbaaGreat
open Go.RowKit

/-- What looking at a place leaves, of a fix that is at one. -/
theorem fx_looked {w w1 w3 : World} {F : Nat → Prop} {g : Nat} {s : Fs} {q : Int} {on : Value} {e : Ending} (h : FxBare w F g s) (hw : Below w.heap.size w w1) (hl : FxLook g s q on w1 e w3) (ph : Fh) (hph : ph = .up q ∨ ph = .down q) (hq : 0 ≤ q ∧ q ≤ s.Z)
    (hon : (ph = .up q → FUp w3 (fun k => F k ∨ (w.heap.size ≤ k ∧ k < w3.heap.size)) g q on) ∧ (ph = .down q → FDown w3 (fun k => F k ∨ (w.heap.size ≤ k ∧ k < w3.heap.size)) g q on)) : FxMoved F g { s with ph := ph } w e w3 := by
  obtain ⟨rfl, c, hk, h1, h2, h3, ht⟩ := hl
  have hgl := h.lt
  have hc : Capt w3 (fun k => F k ∨ (w.heap.size ≤ k ∧ k < w3.heap.size)) g c on := ⟨.inr ⟨Nat.le_trans hw.size h1, h2⟩, by have := hw.size; omega, h3⟩
  have hT := (Touch.of_below (S := fun k => k = g) hw).trans ht
  rcases hph with e | e
  · subst e
    exact fx_put h (.up q) hT hk rfl hq ⟨c, on, rfl, hc, hon.1 rfl⟩
  · subst e
    exact fx_put h (.down q) hT hk rfl hq ⟨c, on, rfl, hc, hon.2 rfl⟩

set_option maxRecDepth 100000 in
set_option maxHeartbeats 800000 in
theorem fxAhead {w : World} {F : Nat → Prop} {g : Nat} {s : Fs} (h : FxBare w F g s) (q : Int) (hq : 0 ≤ q ∧ q ≤ 20000) :
    Calls Tryz.prog 70 #[.pointer (some ⟨g, 0, none⟩), .int .i64 q, .func (.func 71) #[.pointer (some ⟨g, 0, none⟩)] #[]] w (FxMoved F g (s.ahead q) w) := by
  obtain ⟨a, hblk⟩ := h.blk
  have hgl := hblk.lt
  have HH := Lib.hid h
  have HB := Lib.hid hblk
  obtain ⟨WW, hWW⟩ : ∃ WW, WW = ((w.alloc (.cells #[.pointer (some ⟨g, 0, none⟩)] 26)).alloc (.cells #[.int .i64 q] 2)).alloc (.cells #[.func (.func 71) #[.pointer (some ⟨g, 0, none⟩)] #[]] 125) := ⟨_, rfl⟩
  obtain ⟨hb0, x0, x1, x2, hsz⟩ := rp_boxes w (.pointer (some ⟨g, 0, none⟩)) (.int .i64 q) (.func (.func 71) #[.pointer (some ⟨g, 0, none⟩)] #[]) _ _ _ WW hWW
  have c10 := (hb0.cell (p := ⟨g, 10, none⟩) hgl).trans hblk.c10
  have hbl : ∀ n, Below w.heap.size w (WW.drewN n) := fun n => hb0.trans ((drewN_below WW n).mono hb0.size)
  have HBL := Lib.hid hbl
  have HQ := Lib.hid hq
  clear h hblk hb0 hbl hq
  by_cases hle : s.b ≤ q
  · have hd : decide (s.b ≤ q) = true := decide_eq_true hle
    have HS := Lib.hid (show s.ahead q = { s with ph := .fin } by unfold Fs.ahead; rw [if_pos hle])
    clear hle
    go_enter Tryz.func70, Tryz.ntmps70
    go_upto_region 1 with (fail)
    rw [← hWW]
    clear hWW
    go_quiet (fail)
    go_wp2
    go_end0
    rw [HS.out]
    exact fx_done ((HH.out.below (HBL.out _)).withPh .fin) (Touch.of_below (HBL.out _)) rfl
  · have hd : decide (s.b ≤ q) = false := decide_eq_false hle
    have HS := Lib.hid (show s.ahead q = { s with ph := .up q } by unfold Fs.ahead; rw [if_neg hle])
    have HLE := Lib.hid hle
    clear hle
    go_enter Tryz.func70, Tryz.ntmps70
    go_upto_region 1 with (fail)
    rw [← hWW]
    clear hWW
    go_quiet (fail)
    go_wp2_with (go_at_call 85; refine (fxLook (HB.out.below (HBL.out _)) HH.out.ok.rg q 86 #[] #[.pointer (some ⟨w.heap.size, 0, none⟩), .pointer (some ⟨w.heap.size + 1, 0, none⟩), .pointer (some ⟨w.heap.size + 2, 0, none⟩)]).mono ?_; intro e w3 hl; have HL := Lib.hid hl; obtain ⟨rfl, _⟩ := hl)
    go_end0
    rw [HS.out]
    obtain ⟨_, c, hk, h1, h2, h3, ht⟩ := HL.out
    have hs3 : w.heap.size + 3 ≤ w3.heap.size := by have := ht.size; have e : (WW.drewN nq).heap.size = WW.heap.size := rfl; omega
    refine fx_looked HH.out (HBL.out _) HL.out (.up q) (.inl rfl) ⟨HQ.out.1, by have := HLE.out; have := HH.out.ok.b0; omega⟩ ⟨fun _ => ⟨w.heap.size, w.heap.size + 1, w.heap.size + 2, rfl, ⟨.inr ⟨by omega, by omega⟩, by omega, ?_⟩, ⟨.inr ⟨by omega, by omega⟩, by omega, ?_⟩, ⟨.inr ⟨by omega, by omega⟩, by omega, ?_⟩⟩, fun e => (by cases e)⟩
    · exact (ht.cell (p := ⟨w.heap.size, 0, none⟩) (show w.heap.size < WW.heap.size by omega) (show ¬ w.heap.size = g by omega)).trans x0
    · exact (ht.cell (p := ⟨w.heap.size + 1, 0, none⟩) (show w.heap.size + 1 < WW.heap.size by omega) (show ¬ w.heap.size + 1 = g by omega)).trans x1
    · exact (ht.cell (p := ⟨w.heap.size + 2, 0, none⟩) (show w.heap.size + 2 < WW.heap.size by omega) (show ¬ w.heap.size + 2 = g by omega)).trans x2

set_option maxRecDepth 100000 in
set_option maxHeartbeats 800000 in
theorem fxBack {w : World} {F : Nat → Prop} {g : Nat} {s : Fs} (h : FxBare w F g s) (q : Int) (hq : 0 ≤ q ∧ q ≤ s.Z) :
    Calls Tryz.prog 71 #[.pointer (some ⟨g, 0, none⟩), .int .i64 q] w (FxMoved F g (s.back q) w) := by
  obtain ⟨a, hblk⟩ := h.blk
  have hgl := hblk.lt
  have HH := Lib.hid h
  have HB := Lib.hid hblk
  have hz1 := h.ok.rg.z1
  have ha0 := h.ok.a0
  have hm0 := h.ok.m0
  have e1 : IntKind.i64.wrap (q - 8) = q - 8 := IntWalk.i64_in _ (by omega)
  have e2 : IntKind.i64.wrap (s.m - s.a) = s.m - s.a := IntWalk.i64_in _ (by omega)
  have e3 : wrap32 (s.m - s.a) = s.m - s.a := by unfold wrap32; omega
  have e4 : IntKind.i32.wrap (s.m - s.a) = s.m - s.a := (Hd.s32_wrap _).trans (Hd.s32_in _ (by omega) (by omega))
  obtain ⟨WW, hWW⟩ : ∃ WW, WW = (w.alloc (.cells #[.pointer (some ⟨g, 0, none⟩)] 26)).alloc (.cells #[.int .i64 (q - 8)] 2) := ⟨_, rfl⟩
  obtain ⟨hb0, x0, x1, hsz⟩ := fx_box2 w (.pointer (some ⟨g, 0, none⟩)) (.int .i64 (q - 8)) _ _ WW hWW
  have c9 := (hb0.cell (p := ⟨g, 9, none⟩) hgl).trans hblk.c9
  have c11 := (hb0.cell (p := ⟨g, 11, none⟩) hgl).trans hblk.c11
  have hbl : ∀ n, Below w.heap.size w (WW.drewN n) := fun n => hb0.trans ((drewN_below WW n).mono hb0.size)
  have HBL := Lib.hid hbl
  have HQ := Lib.hid hq
  have HA := Lib.hid (And.intro hz1 (And.intro ha0 hm0))
  clear h hblk hb0 hbl hq hz1 ha0 hm0
  by_cases hle : q - 8 < s.a
  · have hd : decide (q - 8 < s.a) = true := decide_eq_true hle
    have HS := Lib.hid (show s.back q = { s with ph := .padd (s.m - s.a) } by unfold Fs.back; rw [if_pos hle])
    clear hle
    go_enter Tryz.func71, Tryz.ntmps71
    go_upto_region 2 with (fail)
    rw [← hWW]
    clear hWW
    go_quiet (fail)
    go_upto_region 3 with (fail)
    obtain ⟨n1, hn1⟩ : ∃ n, n = nq := ⟨_, rfl⟩
    rw [← hn1]
    clear hn1
    have HBN := Lib.hid (HBL.out n1)
    have HWN : Hid ((WW.drewN n1).heap.size = WW.heap.size) := Lib.hid rfl
    have y0 : (WW.drewN n1).cell? ⟨w.heap.size, 0, none⟩ = some (.pointer (some ⟨g, 0, none⟩)) := x0
    have y9 : (WW.drewN n1).cell? ⟨g, 9, none⟩ = some (.int .i64 s.a) := c9
    have y11 : (WW.drewN n1).cell? ⟨g, 11, none⟩ = some (.int .i64 s.m) := c11
    generalize WW.drewN n1 = W at HBN HWN y0 y9 y11 ⊢
    clear x0 x1 c9 c11 HBL
    have hga : ¬ w.heap.size = g := by omega
    go_region_held3 (fun w' => w'.cell? ⟨w.heap.size, 0, none⟩ = some (.pointer (some ⟨g, 0, none⟩)) ∧ w'.cell? ⟨g, 9, none⟩ = some (.int .i64 s.a) ∧ w'.cell? ⟨g, 11, none⟩ = some (.int .i64 s.m)) (go_keep)
      (first | (go_at_call 72; refine (fxPad (HH.out.below HBN.out.drew) (s.m - s.a) (by have := HA.out; omega)).mono ?_; intro e w3 hm; have HM := Lib.hid hm; obtain ⟨rfl, F3, hf, ht, _⟩ := hm; have z0 := (ht.cell (p := ⟨w.heap.size, 0, none⟩) (lt_of_cell y0) hga).trans y0; have z9 := fx_c9 hf; have z11 := fx_c11 hf))
    all_goals
      go_wp2
      go_end0
      rw [HS.out]
      exact HM.out.afterT (Touch.of_below HBN.out.drew)
  · have hd : decide (q - 8 < s.a) = false := decide_eq_false hle
    have HS := Lib.hid (show s.back q = { s with ph := .down (q - 8) } by unfold Fs.back; rw [if_neg hle])
    have HLE := Lib.hid hle
    clear hle
    go_enter Tryz.func71, Tryz.ntmps71
    go_upto_region 2 with (fail)
    rw [← hWW]
    clear hWW
    go_quiet (fail)
    go_wp2_with (go_at_call 85; refine (fxLook (HB.out.below (HBL.out _)) HH.out.ok.rg (q - 8) 87 #[] #[.pointer (some ⟨w.heap.size, 0, none⟩), .pointer (some ⟨w.heap.size + 1, 0, none⟩)]).mono ?_; intro e w3 hl; have HL := Lib.hid hl; obtain ⟨rfl, _⟩ := hl)
    go_end0
    rw [HS.out]
    obtain ⟨_, c, hk, h1, h2, h3, ht⟩ := HL.out
    have hs3 : w.heap.size + 2 ≤ w3.heap.size := by have := ht.size; have e : (WW.drewN nq).heap.size = WW.heap.size := rfl; omega
    refine fx_looked HH.out (HBL.out _) HL.out (.down (q - 8)) (.inr rfl) ⟨by have := HLE.out; have := HA.out; omega, by have := HQ.out; omega⟩ ⟨fun e => (by cases e), fun _ => ⟨w.heap.size, w.heap.size + 1, rfl, ⟨.inr ⟨by omega, by omega⟩, by omega, ?_⟩, ⟨.inr ⟨by omega, by omega⟩, by omega, ?_⟩⟩⟩
    · exact (ht.cell (p := ⟨w.heap.size, 0, none⟩) (show w.heap.size < WW.heap.size by omega) (show ¬ w.heap.size = g by omega)).trans x0
    · exact (ht.cell (p := ⟨w.heap.size + 1, 0, none⟩) (show w.heap.size + 1 < WW.heap.size by omega) (show ¬ w.heap.size + 1 = g by omega)).trans x1

end Go.Proofs.YtaomkamdfbibbaaGreat
namespace Go.Proofs.YtaomkamdfbibbaaGreat
open Go.RowKit

set_option maxRecDepth 100000 in
set_option maxHeartbeats 800000 in
theorem fxJudge {w : World} {F : Nat → Prop} {g : Nat} {s : Fs} (h : FxBare w F g s) (l : Int) (hl : -2147483648 ≤ l ∧ l ≤ 2147483647) :
    Calls Tryz.prog 51 #[.pointer (some ⟨g, 0, none⟩), .int .i32 l] w (FxMoved F g (s.judge l) w) := by
  obtain ⟨a, hblk⟩ := h.blk
  have HH := Lib.hid h
  have hz1 := h.ok.rg.z1
  have ha0 := h.ok.a0
  have c1 := hblk.c1
  have c9 := hblk.c9
  have e5 : IntKind.i64.wrap l = l := IntWalk.i64_in _ (by omega)
  have e1 : IntKind.i64.wrap (s.a + 8) = s.a + 8 := IntWalk.i64_in _ (by omega)
  have e2 : IntKind.i64.wrap (s.a - l) = s.a - l := IntWalk.i64_in _ (by omega)
  have HA := Lib.hid (And.intro hz1 (And.intro ha0 hl))
  clear h hblk hz1
  by_cases h0 : l = 0
  · have hd : (l == 0) = true := by simpa using h0
    have HS := Lib.hid (show s.judge l = s.ahead (s.a + 8) by unfold Fs.judge; rw [if_pos h0])
    have HC := Lib.hid (fxAhead HH.out (s.a + 8) (by have := HA.out; omega))
    clear h0 ha0 hl
    go_enter Tryz.func51, Tryz.ntmps51
    go_wp2_with (go_at_call 70; refine HC.out.mono ?_; intro e w3 hm; have HM := Lib.hid hm; obtain ⟨rfl, _⟩ := hm)
    go_end0
    rw [HS.out]
    exact HM.out
  · have hd : (l == 0) = false := by simpa using h0
    have hz1 := HA.out.1
    by_cases h1 : l < 0
    · have hd1 : decide (l < 0) = true := decide_eq_true h1
      by_cases h2 : s.a - l ≤ s.Z
      · have hd2 : decide (s.a - l ≤ s.Z) = true := decide_eq_true h2
        have HS := Lib.hid (show s.judge l = { s with ph := .padd (-l) } by unfold Fs.judge; rw [if_neg h0, if_pos ⟨h1, h2⟩])
        have e6 : IntKind.i32.wrap (-l) = -l := (Hd.s32_wrap _).trans (Hd.s32_in _ (by omega) (by omega))
        have e7 : wrap32 (-l) = -l := by unfold wrap32; omega
        have HC : ∀ n, Calls Tryz.prog 72 #[.pointer (some ⟨g, 0, none⟩), .int .i32 (-l)] (w.drewN n) (FxMoved F g { s with ph := .padd (-l) } (w.drewN n)) := fun n => fxPad (HH.out.below (drewN_below _ _)) (-l) (by have := HA.out; omega)
        have HCC := Lib.hid HC
        clear HC h0 h1 h2 ha0 hl
        go_enter Tryz.func51, Tryz.ntmps51
        go_upto_region 2 with (fail)
        go_quiet (fail)
        go_wp2_with (go_at_call 72; refine (HCC.out _).mono ?_; intro e w3 hm; have HM := Lib.hid hm; obtain ⟨rfl, _⟩ := hm)
        go_end0
        rw [HS.out]
        exact HM.out.afterT (Touch.of_below (drewN_below _ _))
      · have hd2 : decide (s.a - l ≤ s.Z) = false := decide_eq_false h2
        have HS := Lib.hid (show s.judge l = { s with ph := .fin } by unfold Fs.judge; rw [if_neg h0, if_neg (fun e => h2 e.2)])
        clear h0 h1 h2 ha0 hl hz1
        go_enter Tryz.func51, Tryz.ntmps51
        go_upto_region 2 with (fail)
        go_quiet (fail)
        go_wp2
        go_end0
        rw [HS.out]
        exact fx_done ((HH.out.below (drewN_below _ _)).withPh .fin) (Touch.of_below (drewN_below _ _)) rfl
    · have hd1 : decide (l < 0) = false := decide_eq_false h1
      have HS := Lib.hid (show s.judge l = { s with ph := .fin } by unfold Fs.judge; rw [if_neg h0, if_neg (fun e => h1 e.1)])
      clear h0 h1 ha0 hl hz1
      go_enter Tryz.func51, Tryz.ntmps51
      go_upto_region 2 with (fail)
      go_quiet (fail)
      go_wp2
      go_end0
      rw [HS.out]
      exact fx_done ((HH.out.below (drewN_below _ _)).withPh .fin) (Touch.of_below (drewN_below _ _)) rfl

theorem fx_setA (s : Fs) (v : Int) (a : Ac) (av th : Value) : (FxCells s a av th).setIfInBounds 9 (.int .i64 v) = FxCells { s with a := v } a av th := by simp [FxCells]
theorem fx_setB (s : Fs) (v : Int) (a : Ac) (av th : Value) : (FxCells s a av th).setIfInBounds 10 (.int .i64 v) = FxCells { s with b := v } a av th := by simp [FxCells]
theorem fx_setM (s : Fs) (v : Int) (a : Ac) (av th : Value) : (FxCells s a av th).setIfInBounds 11 (.int .i64 v) = FxCells { s with m := v } a av th := by simp [FxCells]
theorem fx_setN (s : Fs) (v : Int) (a : Ac) (av th : Value) : (FxCells s a av th).setIfInBounds 12 (.int .i32 v) = FxCells { s with n := v } a av th := by simp [FxCells]
theorem Fs.Ok.withA {s : Fs} (ok : s.Ok) (v : Int) : ({ s with a := Rg.place s.Z v } : Fs).Ok := ⟨ok.rg, by have := ok.rg.place_in v; show 0 ≤ Rg.place s.Z v ∧ Rg.place s.Z v ≤ s.Z; omega, ok.b0, ok.m0, ok.n0⟩
theorem Fs.Ok.withB {s : Fs} (ok : s.Ok) (v : Int) : ({ s with b := Rg.place s.Z v } : Fs).Ok := ⟨ok.rg, ok.a0, by have := ok.rg.place_in v; show 0 ≤ Rg.place s.Z v ∧ Rg.place s.Z v ≤ s.Z; omega, ok.m0, ok.n0⟩
theorem Fs.Ok.withBZ {s : Fs} (ok : s.Ok) : ({ s with b := (s.Z : Int) } : Fs).Ok := ⟨ok.rg, ok.a0, by show 0 ≤ (s.Z : Int) ∧ (s.Z : Int) ≤ s.Z; omega, ok.m0, ok.n0⟩

set_option maxRecDepth 100000 in
set_option maxHeartbeats 1600000 in
theorem fxSpan {w : World} {F : Nat → Prop} {g : Nat} {s : Fs} (h : FxBare w F g s) (d t : Int) :
    Calls Tryz.prog 33 #[.pointer (some ⟨g, 0, none⟩), .int .i64 d, .int .i64 t] w (FxMoved F g (s.span d t) w) := by
  obtain ⟨a, hblk⟩ := h.blk
  have hgl := hblk.lt
  have HH := Lib.hid h
  have hb0 := (Below.refl w.heap.size w).alloc (Nat.le_refl _) (.cells #[.pointer (some ⟨g, 0, none⟩)] 26)
  have hbox := rp_box w (.pointer (some ⟨g, 0, none⟩)) 26
  have hsz : (w.alloc (.cells #[.pointer (some ⟨g, 0, none⟩)] 26)).heap.size = w.heap.size + 1 := by simp
  have c0 := (hb0.cell (p := ⟨g, 0, none⟩) hgl).trans hblk.c0
  have c1 := (hb0.cell (p := ⟨g, 1, none⟩) hgl).trans hblk.c1
  have c9 := (hb0.cell (p := ⟨g, 9, none⟩) hgl).trans hblk.c9
  have c10 := (hb0.cell (p := ⟨g, 10, none⟩) hgl).trans hblk.c10
  have f9 := (hblk.below hb0).free 9
  have f10 := (hblk.below hb0).free 10
  have HW := Lib.hid hb0
  clear h hblk hb0
  go_enter Tryz.func33, Tryz.ntmps33
  go_upto_region 1 with (fail)
  generalize w.alloc (.cells #[.pointer (some ⟨g, 0, none⟩)] 26) = W at hbox HW hsz c0 c1 c9 c10 f9 f10 ⊢
  have hga : ¬ w.heap.size = g := by omega
  have hag : ¬ g = w.heap.size := by omega
  have hla : w.heap.size < W.heap.size := by omega
  have hgW : g < W.heap.size := by omega
  clear hsz
  go_region_held3 (fun w' => w'.cell? ⟨w.heap.size, 0, none⟩ = some (.pointer (some ⟨g, 0, none⟩)) ∧ w'.cell? ⟨g, 0, none⟩ = some (.int .i64 s.B) ∧ w'.cell? ⟨g, 1, none⟩ = some (.int .i64 s.Z)) (simp [*, World.cell?_setCell_far, World.cell?_setCell_other])
    (first
      | (go_at_call 47; refine (rgPlace HH.out.ok.rg t _).mono ?_; rintro e x2 ⟨rfl, hq2⟩; have hb2 := hb1.trans (hq2.mono hb1.size); have k2 := (hb2.cell (p := ⟨w.heap.size, 0, none⟩) hla).trans hbox; have o02 := (hb2.cell (p := ⟨g, 0, none⟩) hgW).trans c0; have o12 := (hb2.cell (p := ⟨g, 1, none⟩) hgW).trans c1; have o92 := (hb2.cell (p := ⟨g, 9, none⟩) hgW).trans c9; have o102 := (hb2.cell (p := ⟨g, 10, none⟩) hgW).trans c10; have z92 := (hb2.frozen (p := ⟨g, 9, none⟩) hgW).trans f9; have z102 := (hb2.frozen (p := ⟨g, 10, none⟩) hgW).trans f10)
      | (go_at_call 47; refine (rgPlace HH.out.ok.rg d _).mono ?_; rintro e x1 ⟨rfl, hq1⟩; have hb1 := below_drew hq1; have k1 := (hb1.cell (p := ⟨w.heap.size, 0, none⟩) hla).trans hbox; have o01 := (hb1.cell (p := ⟨g, 0, none⟩) hgW).trans c0; have o11 := (hb1.cell (p := ⟨g, 1, none⟩) hgW).trans c1; have o91 := (hb1.cell (p := ⟨g, 9, none⟩) hgW).trans c9; have o101 := (hb1.cell (p := ⟨g, 10, none⟩) hgW).trans c10; have z91 := (hb1.frozen (p := ⟨g, 9, none⟩) hgW).trans f9; have z101 := (hb1.frozen (p := ⟨g, 10, none⟩) hgW).trans f10))
  have hB2 := HW.out.trans (hb2.mono HW.out.size)
  have HS2 := Lib.hid (((HH.out.below hB2).store (s' := { s with a := Rg.place s.Z d }) 9 (.int .i64 (Rg.place s.Z d)) (fun _ => fx_setA _ _ _ _ _) (HH.out.ok.withA d)).store (s' := { s with a := Rg.place s.Z d, b := Rg.place s.Z t }) 10 (.int .i64 (Rg.place s.Z t)) (fun _ => fx_setB _ _ _ _ _) ((HH.out.ok.withA d).withB t))
  have HT2 : Hid (Touch (fun k => k = g) w ((x2.setCell ⟨g, 9, none⟩ (.int .i64 (Rg.place s.Z d))).setCell ⟨g, 10, none⟩ (.int .i64 (Rg.place s.Z t)))) := Lib.hid (((Touch.of_below (S := fun k => k = g) hB2).setCell (p := ⟨g, 9, none⟩) rfl _).setCell (p := ⟨g, 10, none⟩) rfl _)
  have k3 : ((x2.setCell ⟨g, 9, none⟩ (.int .i64 (Rg.place s.Z d))).setCell ⟨g, 10, none⟩ (.int .i64 (Rg.place s.Z t))).cell? ⟨w.heap.size, 0, none⟩ = some (.pointer (some ⟨g, 0, none⟩)) := (World.cell?_setCell_far _ _ _ _ hag).trans ((World.cell?_setCell_far _ _ _ _ hag).trans k2)
  clear hbox c0 c1 c9 c10 f9 f10 k1 o01 o11 o91 o101 z91 z101 o02 o12 o92 o102 z92 z102 k2 hb1 hb2 hq1 hq2 hB2 HW hla hgW
  generalize (x2.setCell ⟨g, 9, none⟩ (.int .i64 (Rg.place s.Z d))).setCell ⟨g, 10, none⟩ (.int .i64 (Rg.place s.Z t)) = W2 at HS2 HT2 k3 ⊢
  obtain ⟨a2, hblk2⟩ := HS2.out.blk
  have c9 : W2.cell? ⟨g, 9, none⟩ = some (.int .i64 (Rg.place s.Z d)) := hblk2.c9
  have c10 : W2.cell? ⟨g, 10, none⟩ = some (.int .i64 (Rg.place s.Z t)) := hblk2.c10
  clear hblk2
  by_cases hle : Rg.place s.Z t ≤ Rg.place s.Z d
  · have hd : decide (Rg.place s.Z t ≤ Rg.place s.Z d) = true := decide_eq_true hle
    have HS := Lib.hid (show s.span d t = { ({ s with a := Rg.place s.Z d, b := (s.Z : Int) } : Fs) with ph := .hdr } by unfold Fs.span; rw [if_pos hle])
    have HOK := Lib.hid ((HH.out.ok.withA d).withBZ)
    clear hle
    go_upto_region 2 with (fail)
    go_quiet (fail)
    go_upto_region 3 with (fail)
    obtain ⟨n1, hn1⟩ : ∃ n, n = nq := ⟨_, rfl⟩
    rw [← hn1]
    clear hn1
    have HS3 := Lib.hid (HS2.out.below (drewN_below W2 n1))
    have HT3 := Lib.hid (HT2.out.trans (Touch.of_below (drewN_below W2 n1)))
    have k4 : (W2.drewN n1).cell? ⟨w.heap.size, 0, none⟩ = some (.pointer (some ⟨g, 0, none⟩)) := k3
    generalize W2.drewN n1 = W3 at HS3 HT3 k4 ⊢
    clear c9 c10 k3 HS2 HT2
    obtain ⟨a3, hblk3⟩ := HS3.out.blk
    have c1 : W3.cell? ⟨g, 1, none⟩ = some (.int .i64 s.Z) := hblk3.c1
    have c10 : W3.cell? ⟨g, 10, none⟩ = some (.int .i64 (Rg.place s.Z t)) := hblk3.c10
    have f10 := hblk3.free 10
    clear hblk3
    go_region_held3 (fun w' => w'.cell? ⟨w.heap.size, 0, none⟩ = some (.pointer (some ⟨g, 0, none⟩)) ∧ w'.cell? ⟨g, 1, none⟩ = some (.int .i64 s.Z)) (simp [*, World.cell?_setCell_far, World.cell?_setCell_other]) (fail)
    have HS4 := Lib.hid ((HS3.out.store (s' := { s with a := Rg.place s.Z d, b := (s.Z : Int) }) 10 (.int .i64 s.Z) (fun _ => fx_setB _ _ _ _ _) HOK.out).below (Below.refl _ _).drew)
    have HTT := Lib.hid ((HT3.out.setCell (p := ⟨g, 10, none⟩) rfl (.int .i64 s.Z)).trans (Touch.of_below (Below.refl (W3.setCell ⟨g, 10, none⟩ (.int .i64 s.Z)).heap.size (W3.setCell ⟨g, 10, none⟩ (.int .i64 s.Z))).drew))
    have k5 : (W3.setCell ⟨g, 10, none⟩ (.int .i64 s.Z)).drew.cell? ⟨w.heap.size, 0, none⟩ = some (.pointer (some ⟨g, 0, none⟩)) := (World.cell?_setCell_far _ _ _ _ hag).trans k4
    clear c1 c10 f10 k4 HS3 HT3
    generalize (W3.setCell ⟨g, 10, none⟩ (.int .i64 s.Z)).drew = W at HS4 HTT k5 ⊢
    obtain ⟨a5, hblk5⟩ := HS4.out.blk
    have HB := Lib.hid hblk5
    have hbox := k5
    have c0 : W.cell? ⟨g, 0, none⟩ = some (.int .i64 s.B) := hblk5.c0
    have c1 : W.cell? ⟨g, 1, none⟩ = some (.int .i64 s.Z) := hblk5.c1
    have c9 : W.cell? ⟨g, 9, none⟩ = some (.int .i64 (Rg.place s.Z d)) := hblk5.c9
    have hla := lt_of_cell k5
    have hgW := hblk5.lt
    have HBR := Lib.hid (Below.refl W.heap.size W)
    clear hblk5 k5
    go_upto_region 4 with (fail)
    go_region_held3 (fun w' => w'.cell? ⟨w.heap.size, 0, none⟩ = some (.pointer (some ⟨g, 0, none⟩)) ∧ w'.cell? ⟨g, 0, none⟩ = some (.int .i64 s.B) ∧ w'.cell? ⟨g, 1, none⟩ = some (.int .i64 s.Z) ∧ w'.cell? ⟨g, 9, none⟩ = some (.int .i64 (Rg.place s.Z d))) (go_keep)
      (first
        | (go_at_call 27; refine (fxDo (HB.out.below hbl) ⟨1, Rg.spot s.B s.Z (Rg.place s.Z d), 8, 0, 0, []⟩ none 0 0 49 #[] #[.pointer (some ⟨w.heap.size, 0, none⟩)]).mono ?_; intro e wd has; have HAS := Lib.hid has; obtain ⟨rfl, hblkd, htd⟩ := has; have kd := (htd.cell (p := ⟨w.heap.size, 0, none⟩) (lt_of_cell k2) hga).trans k2; have o0d := hblkd.c0; have o1d := hblkd.c1; have o9d := hblkd.c9; clear hblkd)
        | (go_at_call 28; refine (stLoad (Rg.spot s.B s.Z (Rg.place s.Z d)) _).mono ?_; rintro e x2 ⟨rfl, hq2⟩; have hb2 := hb1.trans (hq2.mono hb1.size); have k2 := (hb2.cell (p := ⟨w.heap.size, 0, none⟩) hla).trans hbox; have o02 := (hb2.cell (p := ⟨g, 0, none⟩) hgW).trans c0; have o12 := (hb2.cell (p := ⟨g, 1, none⟩) hgW).trans c1; have o92 := (hb2.cell (p := ⟨g, 9, none⟩) hgW).trans c9; have hbl := HBR.out.trans (hb2.mono HBR.out.size))
        | (go_at_call 48; refine (rgAt HH.out.ok.rg (Rg.place s.Z d) _).mono ?_; rintro e x1 ⟨rfl, hq1⟩; have hb1 := below_drew hq1; have k1 := (hb1.cell (p := ⟨w.heap.size, 0, none⟩) hla).trans hbox; have o01 := (hb1.cell (p := ⟨g, 0, none⟩) hgW).trans c0; have o11 := (hb1.cell (p := ⟨g, 1, none⟩) hgW).trans c1; have o91 := (hb1.cell (p := ⟨g, 9, none⟩) hgW).trans c9))
    all_goals
      go_wp2
      go_end0
      obtain ⟨_, hbk, hT⟩ := HAS.out
      rw [HS.out]
      exact fx_put0 (s := { s with a := Rg.place s.Z d, b := (s.Z : Int) }) HH.out.own HOK.out .hdr (HTT.out.trans ((Touch.of_below (hbl.mono (Nat.le_refl _))).trans hT)) hbk rfl trivial ⟨w.heap.size, rfl, .inr ⟨Nat.le_refl _, lt_of_cell kd⟩, hga, kd⟩
  · have hd : decide (Rg.place s.Z t ≤ Rg.place s.Z d) = false := decide_eq_false hle
    have HS := Lib.hid (show s.span d t = { ({ s with a := Rg.place s.Z d, b := Rg.place s.Z t } : Fs) with ph := .hdr } by unfold Fs.span; rw [if_neg hle])
    have HOK := Lib.hid ((HH.out.ok.withA d).withB t)
    clear hle
    go_upto_region 2 with (fail)
    go_quiet (fail)
    go_upto_region 4 with (fail)
    obtain ⟨n1, hn1⟩ : ∃ n, n = nq := ⟨_, rfl⟩
    rw [← hn1]
    clear hn1
    have HS4 := Lib.hid (HS2.out.below (drewN_below W2 n1))
    have HTT := Lib.hid (HT2.out.trans (Touch.of_below (drewN_below W2 n1)))
    have k5 : (W2.drewN n1).cell? ⟨w.heap.size, 0, none⟩ = some (.pointer (some ⟨g, 0, none⟩)) := k3
    generalize W2.drewN n1 = W at HS4 HTT k5 ⊢
    clear c9 c10 k3 HS2 HT2
    obtain ⟨a5, hblk5⟩ := HS4.out.blk
    have HB := Lib.hid hblk5
    have hbox := k5
    have c0 : W.cell? ⟨g, 0, none⟩ = some (.int .i64 s.B) := hblk5.c0
    have c1 : W.cell? ⟨g, 1, none⟩ = some (.int .i64 s.Z) := hblk5.c1
    have c9 : W.cell? ⟨g, 9, none⟩ = some (.int .i64 (Rg.place s.Z d)) := hblk5.c9
    have hla := lt_of_cell k5
    have hgW := hblk5.lt
    have HBR := Lib.hid (Below.refl W.heap.size W)
    clear hblk5 k5
    go_region_held3 (fun w' => w'.cell? ⟨w.heap.size, 0, none⟩ = some (.pointer (some ⟨g, 0, none⟩)) ∧ w'.cell? ⟨g, 0, none⟩ = some (.int .i64 s.B) ∧ w'.cell? ⟨g, 1, none⟩ = some (.int .i64 s.Z) ∧ w'.cell? ⟨g, 9, none⟩ = some (.int .i64 (Rg.place s.Z d))) (go_keep)
      (first
        | (go_at_call 27; refine (fxDo (HB.out.below hbl) ⟨1, Rg.spot s.B s.Z (Rg.place s.Z d), 8, 0, 0, []⟩ none 0 0 49 #[] #[.pointer (some ⟨w.heap.size, 0, none⟩)]).mono ?_; intro e wd has; have HAS := Lib.hid has; obtain ⟨rfl, hblkd, htd⟩ := has; have kd := (htd.cell (p := ⟨w.heap.size, 0, none⟩) (lt_of_cell k2) hga).trans k2; have o0d := hblkd.c0; have o1d := hblkd.c1; have o9d := hblkd.c9; clear hblkd)
        | (go_at_call 28; refine (stLoad (Rg.spot s.B s.Z (Rg.place s.Z d)) _).mono ?_; rintro e x2 ⟨rfl, hq2⟩; have hb2 := hb1.trans (hq2.mono hb1.size); have k2 := (hb2.cell (p := ⟨w.heap.size, 0, none⟩) hla).trans hbox; have o02 := (hb2.cell (p := ⟨g, 0, none⟩) hgW).trans c0; have o12 := (hb2.cell (p := ⟨g, 1, none⟩) hgW).trans c1; have o92 := (hb2.cell (p := ⟨g, 9, none⟩) hgW).trans c9; have hbl := HBR.out.trans (hb2.mono HBR.out.size))
        | (go_at_call 48; refine (rgAt HH.out.ok.rg (Rg.place s.Z d) _).mono ?_; rintro e x1 ⟨rfl, hq1⟩; have hb1 := below_drew hq1; have k1 := (hb1.cell (p := ⟨w.heap.size, 0, none⟩) hla).trans hbox; have o01 := (hb1.cell (p := ⟨g, 0, none⟩) hgW).trans c0; have o11 := (hb1.cell (p := ⟨g, 1, none⟩) hgW).trans c1; have o91 := (hb1.cell (p := ⟨g, 9, none⟩) hgW).trans c9))
    all_goals
      go_wp2
      go_end0
      obtain ⟨_, hbk, hT⟩ := HAS.out
      rw [HS.out]
      exact fx_put0 (s := { s with a := Rg.place s.Z d, b := Rg.place s.Z t }) HH.out.own HOK.out .hdr (HTT.out.trans ((Touch.of_below (hbl.mono (Nat.le_refl _))).trans hT)) hbk rfl trivial ⟨w.heap.size, rfl, .inr ⟨Nat.le_refl _, lt_of_cell kd⟩, hga, kd⟩

end Go.Proofs.YtaomkamdfbibbaaGreat
namespace Go.Proofs.YtaomkamdfbibbaaGreat
open Go.RowKit

theorem fx_capt {w w' : World} {F : Nat → Prop} {g a : Nat} {v : Value} (h : Capt w F g a v) (hb : Below w.heap.size w w') : w'.cell? ⟨a, 0, none⟩ = some v := (hb.cell (p := ⟨a, 0, none⟩) (lt_of_cell h.2.2)).trans h.2.2

set_option maxRecDepth 100000 in
set_option maxHeartbeats 800000 in
theorem fxBegin1 {w : World} {F : Nat → Prop} {g : Nat} {s : Fs} (h : FxBare w F g s) {a : Nat} (ha : Capt w F g a (.pointer (some ⟨g, 0, none⟩))) (V : Nat) (D : Bool) (A : Option Addr) (L cp : Nat) (hV : V < 18446744073709551616) :
    Calls Tryz.prog 30 #[.agg #[.int .u64 V, .bool D, .slice A L cp], .pointer (some ⟨a, 0, none⟩)] w (FxMoved F g { s with ph := .tail V } w) := by
  obtain ⟨a0, hblk⟩ := h.blk
  have hgl := hblk.lt
  have HH := Lib.hid h
  have HB := Lib.hid hblk
  have hb0 := (Below.refl w.heap.size w).alloc (Nat.le_refl _) (.cells #[.int .u64 V, .bool D, .slice A L cp] 37)
  have hx := Go.Deep.blk_alloc_new w (.cells #[.int .u64 V, .bool D, .slice A L cp] 37)
  have hsz : (w.alloc (.cells #[.int .u64 V, .bool D, .slice A L cp] 37)).heap.size = w.heap.size + 1 := by simp
  have c0 := (hb0.cell (p := ⟨g, 0, none⟩) hgl).trans hblk.c0
  have c1 := (hb0.cell (p := ⟨g, 1, none⟩) hgl).trans hblk.c1
  have hk := fx_capt ha hb0
  have HW := Lib.hid hb0
  have HA := Lib.hid ha
  have HV := Lib.hid hV
  have hag : ¬ a = g := ha.2.1
  clear h hblk hb0 ha hV
  go_enter Tryz.func30, Tryz.ntmps30
  go_upto_region 1 with (fail)
  generalize w.alloc (.cells #[.int .u64 V, .bool D, .slice A L cp] 37) = W at hx HW hsz c0 c1 hk ⊢
  have hm : W.cell? ⟨w.heap.size, 0, none⟩ = some (.int .u64 V) := by simp [World.cell?, hx]
  have hmg : ¬ w.heap.size = g := by omega
  have hla : w.heap.size < W.heap.size := by omega
  have hgW : g < W.heap.size := by omega
  have hka := lt_of_cell hk
  clear hsz hx
  go_region_held3 (fun w' => w'.cell? ⟨a, 0, none⟩ = some (.pointer (some ⟨g, 0, none⟩)) ∧ w'.cell? ⟨w.heap.size, 0, none⟩ = some (.int .u64 V) ∧ w'.cell? ⟨g, 0, none⟩ = some (.int .i64 s.B) ∧ w'.cell? ⟨g, 1, none⟩ = some (.int .i64 s.Z)) (go_keep)
    (first
      | (go_at_call 27; refine (fxDo (HB.out.below hbl) ⟨1, Rg.num s.B s.Z 0, 8, 0, 0, []⟩ none 0 0 32 #[] #[.pointer (some ⟨w.heap.size, 0, none⟩), .pointer (some ⟨a, 0, none⟩)]).mono ?_; intro e wd has; have HAS := Lib.hid has; obtain ⟨rfl, hblkd, htd⟩ := has; have kd := (htd.cell (p := ⟨a, 0, none⟩) (lt_of_cell k2) hag).trans k2; have md := (htd.cell (p := ⟨w.heap.size, 0, none⟩) (lt_of_cell m2) hmg).trans m2; have o0d := hblkd.c0; have o1d := hblkd.c1; clear hblkd)
      | (go_at_call 28; refine (stLoad (Rg.num s.B s.Z 0) _).mono ?_; rintro e x2 ⟨rfl, hq2⟩; have hb2 := hb1.trans (hq2.mono hb1.size); have k2 := (hb2.cell (p := ⟨a, 0, none⟩) hka).trans hk; have m2 := (hb2.cell (p := ⟨w.heap.size, 0, none⟩) hla).trans hm; have o02 := (hb2.cell (p := ⟨g, 0, none⟩) hgW).trans c0; have o12 := (hb2.cell (p := ⟨g, 1, none⟩) hgW).trans c1; have hbl := HW.out.trans (hb2.mono HW.out.size))
      | (go_at_call 31; refine (rgTail HH.out.ok.rg _).mono ?_; rintro e x1 ⟨rfl, hq1⟩; have hb1 := below_drew hq1; have k1 := (hb1.cell (p := ⟨a, 0, none⟩) hka).trans hk; have m1 := (hb1.cell (p := ⟨w.heap.size, 0, none⟩) hla).trans hm; have o01 := (hb1.cell (p := ⟨g, 0, none⟩) hgW).trans c0; have o11 := (hb1.cell (p := ⟨g, 1, none⟩) hgW).trans c1))
  all_goals
    go_wp2
    go_end0
    obtain ⟨_, hbk, hT⟩ := HAS.out
    exact fx_put HH.out (.tail V) ((Touch.of_below hbl).trans hT) hbk rfl HV.out ⟨w.heap.size, a, rfl, ⟨.inr ⟨Nat.le_refl _, lt_of_cell md⟩, hmg, md⟩, .inl HA.out.1, hag, kd⟩

set_option maxRecDepth 100000 in
set_option maxHeartbeats 800000 in
theorem fxBegin11Yes {w : World} {F : Nat → Prop} {g : Nat} {s : Fs} (h : FxBare w F g s) {a b d : Nat} (hb : Capt w F g b (.int .u64 d)) (ha : Capt w F g a (.pointer (some ⟨g, 0, none⟩))) (V : Nat) (D : Bool) (A : Option Addr) (L cp : Nat) (hVd : V = d) :
    Calls Tryz.prog 32 #[.agg #[.int .u64 V, .bool D, .slice A L cp], .pointer (some ⟨b, 0, none⟩), .pointer (some ⟨a, 0, none⟩)] w (FxMoved F g { s with ph := .fin } w) := by
  have HH := Lib.hid h
  have hb0 := (Below.refl w.heap.size w).alloc (Nat.le_refl _) (.cells #[.int .u64 V, .bool D, .slice A L cp] 37)
  have hx := Go.Deep.blk_alloc_new w (.cells #[.int .u64 V, .bool D, .slice A L cp] 37)
  have hk := fx_capt ha hb0
  have hm := fx_capt hb hb0
  have HW := Lib.hid hb0
  have hd : ((V : Int) != (d : Int)) = false := by subst hVd; simp
  clear h hb0 ha hb hVd
  go_enter Tryz.func32, Tryz.ntmps32
  go_upto_region 1 with (fail)
  generalize w.alloc (.cells #[.int .u64 V, .bool D, .slice A L cp] 37) = W at hx HW hk hm ⊢
  have x0 : W.cell? ⟨w.heap.size, 0, none⟩ = some (.int .u64 V) := by simp [World.cell?, hx]
  clear hx
  go_wp2
  go_end0
  exact fx_done ((HH.out.below HW.out).withPh .fin) (Touch.of_below HW.out) rfl

set_option maxRecDepth 100000 in
set_option maxHeartbeats 800000 in
theorem fxBegin11No {w : World} {F : Nat → Prop} {g : Nat} {s : Fs} (h : FxBare w F g s) {a b d : Nat} (hb : Capt w F g b (.int .u64 d)) (ha : Capt w F g a (.pointer (some ⟨g, 0, none⟩))) (V : Nat) (D : Bool) (A : Option Addr) (L cp : Nat) (hVd : V ≠ d) :
    Calls Tryz.prog 32 #[.agg #[.int .u64 V, .bool D, .slice A L cp], .pointer (some ⟨b, 0, none⟩), .pointer (some ⟨a, 0, none⟩)] w (FxMoved F g (s.span (Rs.wr d) (Rs.wr V)) w) := by
  have HH := Lib.hid h
  have hb0 := (Below.refl w.heap.size w).alloc (Nat.le_refl _) (.cells #[.int .u64 V, .bool D, .slice A L cp] 37)
  have hx := Go.Deep.blk_alloc_new w (.cells #[.int .u64 V, .bool D, .slice A L cp] 37)
  have hk := fx_capt ha hb0
  have hm := fx_capt hb hb0
  have HW := Lib.hid hb0
  have hd : ((V : Int) != (d : Int)) = true := by simp; omega
  have HC := Lib.hid (fxSpan (h.below hb0) (wrap64 d) (wrap64 V))
  clear h hb0 ha hb hVd
  go_enter Tryz.func32, Tryz.ntmps32
  go_upto_region 1 with (fail)
  generalize w.alloc (.cells #[.int .u64 V, .bool D, .slice A L cp] 37) = W at hx HW hk hm HC ⊢
  have x0 : W.cell? ⟨w.heap.size, 0, none⟩ = some (.int .u64 V) := by simp [World.cell?, hx]
  clear hx
  go_wp2_with (go_at_call 33; refine HC.out.mono ?_; intro e w3 hm; have HM := Lib.hid hm; obtain ⟨rfl, _⟩ := hm)
  go_end0
  exact HM.out.afterT (Touch.of_below HW.out)

set_option maxRecDepth 100000 in
set_option maxHeartbeats 800000 in
theorem fxSpan1 {w : World} {F : Nat → Prop} {g : Nat} {s : Fs} (h : FxBare w F g s) {a : Nat} (ha : Capt w F g a (.pointer (some ⟨g, 0, none⟩))) (V : Nat) (D : Bool) (A : Option Addr) (L cp : Nat) :
    Calls Tryz.prog 49 #[.agg #[.int .u64 V, .bool D, .slice A L cp], .pointer (some ⟨a, 0, none⟩)] w (FxMoved F g (s.judge (Hd.s32 V)) w) := by
  have hb0 := (Below.refl w.heap.size w).alloc (Nat.le_refl _) (.cells #[.int .u64 V, .bool D, .slice A L cp] 37)
  have hx := Go.Deep.blk_alloc_new w (.cells #[.int .u64 V, .bool D, .slice A L cp] 37)
  have hk := fx_capt ha hb0
  have HW := Lib.hid hb0
  have HC := Lib.hid (fxJudge (h.below hb0) (Hd.s32 V) (Hd.s32_bounds _))
  clear h hb0 ha
  go_enter Tryz.func49, Tryz.ntmps49
  go_upto_region 1 with (fail)
  generalize w.alloc (.cells #[.int .u64 V, .bool D, .slice A L cp] 37) = W at hx HW hk HC ⊢
  have x0 : W.cell? ⟨w.heap.size, 0, none⟩ = some (.int .u64 V) := by simp [World.cell?, hx]
  clear hx
  go_wp2_with (first
    | (go_at_call 50; refine (split_any V _).mono ?_; rintro e w2 ⟨rfl, rfl⟩)
    | (go_at_call 51; refine HC.out.mono ?_; intro e w3 hm; have HM := Lib.hid hm; obtain ⟨rfl, _⟩ := hm))
  go_end0
  exact HM.out.afterT (Touch.of_below HW.out)

set_option maxRecDepth 100000 in
set_option maxHeartbeats 800000 in
theorem fxLook1 {w : World} {c : Nat} {k : FuncId} {caps : Array Value} (hc : w.cell? ⟨c, 0, none⟩ = some (.func (.func k) #[] caps)) (V : Nat) (D : Bool) (A : Option Addr) (L cp : Nat) (q : Bool) (hq : ((V : Int) % 4294967296 == 0) = q) {Q : World → Prop}
    (args : Array Value) (hargs : (#[.bool q] : Array Value) ++ caps = args) (hent : ∀ w, (callFunc k args).run Tryz.prog w = .ok (.enter k args) w)
    (H : ∀ W, Below w.heap.size w W → Calls Tryz.prog k args W fun e w' => e = .returned (.tuple #[]) ∧ Q w') :
    Calls Tryz.prog 105 #[.agg #[.int .u64 V, .bool D, .slice A L cp], .pointer (some ⟨c, 0, none⟩)] w fun e w' => e = .returned (.tuple #[]) ∧ Q w' := by
  have hb0 := (Below.refl w.heap.size w).alloc (Nat.le_refl _) (.cells #[.int .u64 V, .bool D, .slice A L cp] 37)
  have hx := Go.Deep.blk_alloc_new w (.cells #[.int .u64 V, .bool D, .slice A L cp] 37)
  have hk := (hb0.cell (p := ⟨c, 0, none⟩) (lt_of_cell hc)).trans hc
  have HC := Lib.hid (H _ hb0)
  have hq2 : (IntKind.u32.wrap (V : Int) == 0) = q := by rw [Hd.u32_wrap]; exact hq
  clear hb0 hc H
  go_enter Tryz.func105, Tryz.ntmps105
  go_upto_region 1 with (fail)
  generalize w.alloc (.cells #[.int .u64 V, .bool D, .slice A L cp] 37) = W at hx HC hk ⊢
  have x0 : W.cell? ⟨w.heap.size, 0, none⟩ = some (.int .u64 V) := by simp [World.cell?, hx]
  have he : (callFunc k (#[.bool q] ++ caps)).run Tryz.prog W = .ok (.enter k args) W := by rw [hargs]; exact hent W
  clear hx
  go_wp2_with fail
  refine HC.out.mono ?_
  rintro e w2 ⟨rfl, hq⟩
  go_wp2_with fail
  go_end0
  exact ⟨rfl, hq⟩

set_option maxRecDepth 100000 in
set_option maxHeartbeats 800000 in
theorem fxAhead1Yes {w : World} {F : Nat → Prop} {g : Nat} {s : Fs} (h : FxBare w F g s) {a b d : Nat} {q : Int} (hq : 0 ≤ q ∧ q ≤ s.Z) (ha : Capt w F g a (.pointer (some ⟨g, 0, none⟩))) (hb : Capt w F g b (.int .i64 q)) (hd : Capt w F g d (.func (.func 71) #[.pointer (some ⟨g, 0, none⟩)] #[])) :
    Calls Tryz.prog 86 #[.bool true, .pointer (some ⟨a, 0, none⟩), .pointer (some ⟨b, 0, none⟩), .pointer (some ⟨d, 0, none⟩)] w (FxMoved F g (s.ahead (q + 8)) w) := by
  have k0 := ha.2.2
  have k1 := hb.2.2
  have k2 := hd.2.2
  have hz := h.ok.rg.z1
  have e1 : IntKind.i64.wrap (q + 8) = q + 8 := IntWalk.i64_in _ (by omega)
  have HC := Lib.hid (fxAhead h (q + 8) (by omega))
  clear h ha hb hd hq hz
  go_enter Tryz.func86, Tryz.ntmps86
  go_wp2_with (go_at_call 70; refine HC.out.mono ?_; intro e w3 hm; have HM := Lib.hid hm; obtain ⟨rfl, _⟩ := hm)
  go_end0
  exact HM.out

set_option maxRecDepth 100000 in
set_option maxHeartbeats 800000 in
theorem fxAhead1No {w : World} {F : Nat → Prop} {g : Nat} {s : Fs} (h : FxBare w F g s) {a b d : Nat} {q : Int} (hq : 0 ≤ q ∧ q ≤ s.Z) (ha : Capt w F g a (.pointer (some ⟨g, 0, none⟩))) (hb : Capt w F g b (.int .i64 q)) (hd : Capt w F g d (.func (.func 71) #[.pointer (some ⟨g, 0, none⟩)] #[])) :
    Calls Tryz.prog 86 #[.bool false, .pointer (some ⟨a, 0, none⟩), .pointer (some ⟨b, 0, none⟩), .pointer (some ⟨d, 0, none⟩)] w (FxMoved F g (({ s with m := q } : Fs).back q) w) := by
  have k0 := ha.2.2
  have k1 := hb.2.2
  have k2 := hd.2.2
  have hga : ¬ g = a := fun e => ha.2.1 e.symm
  have hgb : ¬ g = b := fun e => hb.2.1 e.symm
  have hgd : ¬ g = d := fun e => hd.2.1 e.symm
  obtain ⟨a0, hblk⟩ := h.blk
  have c11 := hblk.c11
  have f11 := hblk.free 11
  have HS := Lib.hid (h.store (s' := { s with m := q }) 11 (.int .i64 q) (fun _ => fx_setM _ _ _ _ _) ⟨h.ok.rg, h.ok.a0, h.ok.b0, hq, h.ok.n0⟩)
  have HT : Hid (Touch (fun k => k = g) w (w.setCell ⟨g, 11, none⟩ (.int .i64 q))) := Lib.hid ((Touch.refl (fun k => k = g) w).setCell (p := ⟨g, 11, none⟩) rfl _)
  have HC := Lib.hid (fxBack HS.out q hq)
  have k1' : (w.setCell ⟨g, 11, none⟩ (.int .i64 q)).cell? ⟨b, 0, none⟩ = some (.int .i64 q) := (World.cell?_setCell_far _ _ _ _ hgb).trans k1
  have k2' : (w.setCell ⟨g, 11, none⟩ (.int .i64 q)).cell? ⟨d, 0, none⟩ = some (.func (.func 71) #[.pointer (some ⟨g, 0, none⟩)] #[]) := (World.cell?_setCell_far _ _ _ _ hgd).trans k2
  clear h ha hb hd hq hblk
  go_enter Tryz.func86, Tryz.ntmps86
  go_upto_region 2 with (fail)
  go_upto_region 3 with (fail)
  clear k0 k1 k2 c11 f11
  generalize w.setCell ⟨g, 11, none⟩ (.int .i64 q) = W2 at HS HT HC k1' k2' ⊢
  go_wp2_with (go_at_call 71; refine HC.out.mono ?_; intro e w3 hm; have HM := Lib.hid hm; obtain ⟨rfl, _⟩ := hm)
  go_end0
  exact HM.out.afterT HT.out

set_option maxRecDepth 100000 in
set_option maxHeartbeats 800000 in
theorem fxBack1Yes {w : World} {F : Nat → Prop} {g : Nat} {s : Fs} (h : FxBare w F g s) {a b : Nat} {q : Int} (hq : 0 ≤ q ∧ q ≤ s.Z) (ha : Capt w F g a (.pointer (some ⟨g, 0, none⟩))) (hb : Capt w F g b (.int .i64 q)) :
    Calls Tryz.prog 87 #[.bool true, .pointer (some ⟨a, 0, none⟩), .pointer (some ⟨b, 0, none⟩)] w (FxMoved F g (s.back q) w) := by
  have k0 := ha.2.2
  have k1 := hb.2.2
  have HC := Lib.hid (fxBack h q hq)
  clear h ha hb hq
  go_enter Tryz.func87, Tryz.ntmps87
  go_wp2_with (go_at_call 71; refine HC.out.mono ?_; intro e w3 hm; have HM := Lib.hid hm; obtain ⟨rfl, _⟩ := hm)
  go_end0
  exact HM.out

set_option maxRecDepth 100000 in
set_option maxHeartbeats 800000 in
theorem fxBack1No {w : World} {F : Nat → Prop} {g : Nat} {s : Fs} (h : FxBare w F g s) (a b : Nat) :
    Calls Tryz.prog 87 #[.bool false, .pointer (some ⟨a, 0, none⟩), .pointer (some ⟨b, 0, none⟩)] w (FxMoved F g { s with ph := .fin } w) := by
  have HH := Lib.hid h
  clear h
  go_enter Tryz.func87, Tryz.ntmps87
  go_wp2
  go_end0
  exact fx_done (HH.out.withPh .fin) (Touch.refl _ _) rfl

set_option maxRecDepth 100000 in
set_option maxHeartbeats 800000 in
theorem fxPad1 {w : World} {F : Nat → Prop} {g : Nat} {s : Fs} (h : FxBare w F g s) {a b : Nat} {n : Int} (hn : -8192 ≤ n ∧ n ≤ 8192) (hb : Capt w F g b (.int .i32 n)) (ha : Capt w F g a (.pointer (some ⟨g, 0, none⟩))) (V : Nat) (D : Bool) (A : Option Addr) (L cp : Nat) :
    Calls Tryz.prog 89 #[.agg #[.int .u64 V, .bool D, .slice A L cp], .pointer (some ⟨b, 0, none⟩), .pointer (some ⟨a, 0, none⟩)] w (FxMoved F g { s with n := n, ph := .fin } w) := by
  have hb0 := (Below.refl w.heap.size w).alloc (Nat.le_refl _) (.cells #[.int .u64 V, .bool D, .slice A L cp] 37)
  have k0 := fx_capt ha hb0
  have k1 := fx_capt hb hb0
  have HH := Lib.hid (h.below hb0)
  obtain ⟨a0, hblk⟩ := HH.out.blk
  have c12 := hblk.c12
  have f12 := hblk.free 12
  have HW := Lib.hid hb0
  have HN := Lib.hid hn
  clear h ha hb hn hblk hb0
  go_enter Tryz.func89, Tryz.ntmps89
  go_upto_region 1 with (fail)
  generalize w.alloc (.cells #[.int .u64 V, .bool D, .slice A L cp] 37) = W at HH HW k0 k1 c12 f12 ⊢
  go_wp2
  go_end0
  exact fx_done ((HH.out.store (s' := { s with n := n }) 12 (.int .i32 n) (fun _ => fx_setN _ _ _ _ _) ⟨HH.out.ok.rg, HH.out.ok.a0, HH.out.ok.b0, HH.out.ok.m0, HN.out⟩).withPh .fin) ((Touch.of_below (S := fun k => k = g) HW.out).setCell (p := ⟨g, 12, none⟩) rfl _) rfl

end Go.Proofs.YtaomkamdfbibbaaGreat
namespace Go.Proofs.YtaomkamdfbibbaaGreat
open Go.RowKit

theorem Rs.Ok.withPh {s : Rs} (ok : s.Ok) (ph : Ph) : ({ s with ph := ph } : Rs).Ok := ⟨ok.pow, ok.z0, ok.z1, ok.b0, ok.b1, ok.t0, ok.t1, ok.few, ok.isB, ok.h0, ok.tl, ok.ps⟩
theorem RpBare.withPh {w : World} {F : Nat → Prop} {g : Nat} {s : Rs} {dv : Value} (h : RpBare w F g s dv) (ph : Ph) : RpBare w F g { s with ph := ph } dv := by
  obtain ⟨a, av, hk⟩ := h.blk
  exact ⟨⟨a, av, hk⟩, h.own, h.ok.withPh ph, h.dat, h.txt⟩

set_option maxRecDepth 100000 in
set_option maxHeartbeats 800000 in
/-- The padding's header was stored: the message's writing begins. -/
theorem rpClaim11 {w : World} {F : Nat → Prop} {g : Nat} {s : Rs} {dv : Value} (h : RpBare w F g s dv) {a : Nat} (ha : Capt w F g a (.pointer (some ⟨g, 0, none⟩))) (V : Nat) (D : Bool) (A : Option Addr) (L cp : Nat) :
    Calls Tryz.prog 103 #[.agg #[.int .u64 V, .bool D, .slice A L cp], .pointer (some ⟨a, 0, none⟩)] w (RpMoved F g { s with ph := .hdr } w) := by
  have hb0 := (Below.refl w.heap.size w).alloc (Nat.le_refl _) (.cells #[.int .u64 V, .bool D, .slice A L cp] 37)
  have hc1 := (hb0.cell (p := ⟨a, 0, none⟩) (lt_of_cell ha.2.2)).trans ha.2.2
  have HC := Lib.hid (rpWrite (h.below hb0))
  have HW := Lib.hid hb0
  clear h hb0 ha
  go_enter Tryz.func103, Tryz.ntmps103
  go_upto_region 1 with (fail)
  generalize w.alloc (.cells #[.int .u64 V, .bool D, .slice A L cp] 37) = W at HC HW hc1 ⊢
  go_wp2_with (go_at_call 102; refine HC.out.mono ?_; intro e w3 hm; have HM := Lib.hid hm; obtain ⟨rfl, _⟩ := hm)
  go_end0
  exact HM.out.after HW.out

set_option maxRecDepth 100000 in
set_option maxHeartbeats 800000 in
/-- The length was stored: the message is whole. -/
theorem rpWrite111 {w : World} {F : Nat → Prop} {g : Nat} {s : Rs} {dv : Value} (h : RpBare w F g s dv) (V : Nat) (D : Bool) (A : Option Addr) (L cp : Nat) :
    Calls Tryz.prog 121 #[.agg #[.int .u64 V, .bool D, .slice A L cp]] w (RpMoved F g { s with ph := .fin } w) := by
  have hb0 := (Below.refl w.heap.size w).alloc (Nat.le_refl _) (.cells #[.int .u64 V, .bool D, .slice A L cp] 37)
  have HH := Lib.hid h
  have HW := Lib.hid hb0
  clear h hb0
  go_enter Tryz.func121, Tryz.ntmps121
  go_wp2
  go_end0
  exact rp_done ((HH.out.below HW.out).withPh .fin) rfl (Touch.of_below HW.out)
end Go.Proofs.YtaomkamdfbibbaaGreat
namespace Go.Proofs.YtaomkamdfbibbaaGreat
open Go.RowKit

set_option maxRecDepth 100000 in
set_option maxHeartbeats 1000000 in
theorem rpWrite11 {w : World} {F : Nat → Prop} {g : Nat} {s : Rs} {dv : Value} (h : RpBare w F g s dv) {a b c : Nat} (ht : Three w F g s a b c) :
    Calls Tryz.prog 120 #[.pointer (some ⟨a, 0, none⟩), .pointer (some ⟨b, 0, none⟩), .pointer (some ⟨c, 0, none⟩)] w (RpMovedG F g { s with ph := .len } w) := by
  obtain ⟨a0, av, hblk⟩ := h.blk
  have HH := Lib.hid h
  have HB := Lib.hid hblk
  have hfew := h.ok.few
  have hz1 := h.ok.z1
  have he : IntKind.u64.wrap (8 + (s.L : Int)) = ((8 + s.L : Nat) : Int) := by
    rw [show (8 + (s.L : Int)) = ((8 + s.L : Nat) : Int) by omega]
    exact IntWalk.u64_in _ (by omega)
  obtain ⟨⟨_, hag, hca⟩, ⟨_, hbg, hcb⟩, ⟨_, hcg, hcc⟩⟩ := ht
  have hga : ¬ a = g := hag
  have hgb : ¬ b = g := hbg
  have hgc : ¬ c = g := hcg
  have hla := lt_of_cell hca
  have hlb := lt_of_cell hcb
  have hlc := lt_of_cell hcc
  clear h hblk hfew hz1 hag hbg hcg
  go_enter Tryz.func120, Tryz.ntmps120
  go_upto_region 1 with (fail)
  go_region_held3 (fun w' => w'.cell? ⟨a, 0, none⟩ = some (.pointer (some ⟨g, 0, none⟩)) ∧ w'.cell? ⟨b, 0, none⟩ = some (.int .i64 (s.spot s.p)) ∧ w'.cell? ⟨c, 0, none⟩ = some (.int .i32 (8 + (s.L : Int)))) (go_keep)
    (first
      | (go_at_call 27; refine (rpDo (HB.out.below hb1) ⟨2, s.spot s.p, 4, 8 + s.L, 0, []⟩ none 0 0 121 #[] #[]).mono ?_; intro e wd has; have HAS := Lib.hid has; obtain ⟨rfl, hblkd, htd⟩ := has; have kd := (htd.cell (p := ⟨a, 0, none⟩) (lt_of_cell k1) hga).trans k1; have ad := (htd.cell (p := ⟨b, 0, none⟩) (lt_of_cell a1) hgb).trans a1; have ld := (htd.cell (p := ⟨c, 0, none⟩) (lt_of_cell l1) hgc).trans l1; clear hblkd)
      | (go_at_call 99; refine (stStore (s.spot s.p) 4 (8 + s.L) _).mono ?_; rintro e x1 ⟨rfl, hq1⟩; have hb1 := below_drew hq1; have k1 := (hb1.cell (p := ⟨a, 0, none⟩) hla).trans hca; have a1 := (hb1.cell (p := ⟨b, 0, none⟩) hlb).trans hcb; have l1 := (hb1.cell (p := ⟨c, 0, none⟩) hlc).trans hcc))
  all_goals
    go_wp2
    go_end0
    exact ⟨rp_asked (s' := { s with ph := .len }) HH.out rfl hb1 rfl HAS.out (BytesIn.none _ _) (fun w2 hk => rfl), (Touch.of_below hb1).trans HAS.out.2.2, HAS.out.2.1.c3.trans HB.out.c3.symm⟩
end Go.Proofs.YtaomkamdfbibbaaGreat
namespace Go.Proofs.YtaomkamdfbibbaaGreat
open Go.RowKit

set_option maxRecDepth 100000 in
set_option maxHeartbeats 1000000 in
/-- Another one was faster: it is tried again. -/
theorem rpClaim1No {w : World} {F : Nat → Prop} {g : Nat} {s : Rs} {dv : Value} (h : RpBare w F g s dv) {a b : Nat} (ha : Capt w F g a (.pointer (some ⟨g, 0, none⟩))) (V : Nat) (A : Option Addr) (L cp : Nat) :
    Calls Tryz.prog 101 #[.agg #[.int .u64 V, .bool false, .slice A L cp], .pointer (some ⟨a, 0, none⟩), .pointer (some ⟨b, 0, none⟩)] w (RpMoved F g { s with ph := .tail } w) := by
  have hb0 := (Below.refl w.heap.size w).alloc (Nat.le_refl _) (.cells #[.int .u64 V, .bool false, .slice A L cp] 37)
  have hx := Go.Deep.blk_alloc_new w (.cells #[.int .u64 V, .bool false, .slice A L cp] 37)
  have hc1 := (hb0.cell (p := ⟨a, 0, none⟩) (lt_of_cell ha.2.2)).trans ha.2.2
  have HH := Lib.hid (h.below hb0)
  have HW := Lib.hid hb0
  clear h hb0 ha
  go_enter Tryz.func101, Tryz.ntmps101
  go_upto_region 1 with (fail)
  generalize w.alloc (.cells #[.int .u64 V, .bool false, .slice A L cp] 37) = W at hx HH HW hc1 ⊢
  have x1 : W.cell? ⟨w.heap.size, 1, none⟩ = some (.bool false) := by simp [World.cell?, hx]
  clear hx
  go_wp2_with (go_at_call 46; refine (rpTry HH.out).mono ?_; intro e w3 hm; have HM := Lib.hid hm; obtain ⟨rfl, _⟩ := hm)
  go_end0
  exact HM.out.after HW.out

theorem rp_setP (s : Rs) (v : Int) (dv : Value) (a : Ac) (av th : Value) : (RpCells s dv a av th).setIfInBounds 14 (.int .i64 v) = RpCells { s with p := v } dv a av th := by simp [RpCells, Rs.need]
theorem Rs.Ok.withP {s : Rs} (ok : s.Ok) (v : Int) : ({ s with p := Rs.wr v } : Rs).Ok := ⟨ok.pow, ok.z0, ok.z1, ok.b0, ok.b1, ok.t0, ok.t1, ok.few, ok.isB, ok.h0, ok.tl, Rs.wr_in v⟩
theorem Rs.Ok.withC {s : Rs} {v : Bool} (ok : s.Ok) : ({ s with cl := v } : Rs).Ok := ⟨ok.pow, ok.z0, ok.z1, ok.b0, ok.b1, ok.t0, ok.t1, ok.few, ok.isB, ok.h0, ok.tl, ok.ps⟩
theorem rp_setC (s : Rs) (v : Bool) (dv : Value) (a : Ac) (av th : Value) : (RpCells s dv a av th).setIfInBounds 15 (.bool v) = RpCells { s with cl := v } dv a av th := by simp [RpCells, Rs.need]

set_option maxRecDepth 100000 in
set_option maxHeartbeats 1000000 in
/-- The tail is moved, no padding: the message's writing begins. -/
theorem rpClaim1Yes {w : World} {F : Nat → Prop} {g : Nat} {s : Rs} {dv : Value} (h : RpBare w F g s dv) {a b : Nat} (ha : Capt w F g a (.pointer (some ⟨g, 0, none⟩))) (hb : Capt w F g b (.int .i64 0)) (V : Nat) (A : Option Addr) (L cp : Nat) :
    Calls Tryz.prog 101 #[.agg #[.int .u64 V, .bool true, .slice A L cp], .pointer (some ⟨a, 0, none⟩), .pointer (some ⟨b, 0, none⟩)] w (RpMoved F g { s with p := Rs.wr (s.t + 0), cl := true, ph := .hdr } w) := by
  have hb0 := (Below.refl w.heap.size w).alloc (Nat.le_refl _) (.cells #[.int .u64 V, .bool true, .slice A L cp] 37)
  have hx := Go.Deep.blk_alloc_new w (.cells #[.int .u64 V, .bool true, .slice A L cp] 37)
  have hc1 := (hb0.cell (p := ⟨a, 0, none⟩) (lt_of_cell ha.2.2)).trans ha.2.2
  have hp1 := (hb0.cell (p := ⟨b, 0, none⟩) (lt_of_cell hb.2.2)).trans hb.2.2
  have hag : ¬ g = a := fun e => ha.2.1 e.symm
  have hbg : ¬ g = b := fun e => hb.2.1 e.symm
  have HH := Lib.hid (h.below hb0)
  have HW := Lib.hid hb0
  clear h hb0 ha hb
  go_enter Tryz.func101, Tryz.ntmps101
  go_upto_region 1 with (fail)
  generalize w.alloc (.cells #[.int .u64 V, .bool true, .slice A L cp] 37) = W at hx HH HW hc1 hp1 ⊢
  have x1 : W.cell? ⟨w.heap.size, 1, none⟩ = some (.bool true) := by simp [World.cell?, hx]
  clear hx
  obtain ⟨b0, bv, hblk⟩ := HH.out.blk
  have c13 := hblk.c13
  have c14 := hblk.c14
  have c15 := hblk.c15
  have f14 := hblk.free 14
  have f15 := hblk.free 15
  clear hblk
  go_upto_region 2 with (fail)
  go_upto_region 3 with (fail)
  go_region_held3 (fun w' => w'.cell? ⟨a, 0, none⟩ = some (.pointer (some ⟨g, 0, none⟩)) ∧ w'.cell? ⟨b, 0, none⟩ = some (.int .i64 0) ∧ w'.cell? ⟨g, 13, none⟩ = some (.int .i64 s.t)) (simp [*, World.cell?_setCell_far, World.cell?_setCell_other]) (fail)
  have hwr : IntKind.i64.wrap s.t = Rs.wr (s.t + 0) := by rw [Int.add_zero, IntKind.wrap_i64, Rs.wr, wrap64]
  rw [hwr]
  have HS := Lib.hid ((HH.out.store (s' := { s with p := Rs.wr (s.t + 0) }) 14 (.int .i64 (Rs.wr (s.t + 0))) (fun _ _ => rp_setP _ _ _ _ _ _) (HH.out.ok.withP _) rfl rfl).store (s' := { s with p := Rs.wr (s.t + 0), cl := true }) 15 (.bool true) (fun _ _ => rp_setC _ _ _ _ _ _) (HH.out.ok.withP _).withC rfl rfl)
  have HT : Hid (Touch F w ((W.setCell ⟨g, 14, none⟩ (.int .i64 (Rs.wr (s.t + 0)))).setCell ⟨g, 15, none⟩ (.bool true))) := Lib.hid (((Touch.of_below HW.out).setCell (p := ⟨g, 14, none⟩) HH.out.own _).setCell (p := ⟨g, 15, none⟩) HH.out.own _)
  have ha2 : ((W.setCell ⟨g, 14, none⟩ (.int .i64 (Rs.wr (s.t + 0)))).setCell ⟨g, 15, none⟩ (.bool true)).cell? ⟨a, 0, none⟩ = some (.pointer (some ⟨g, 0, none⟩)) := (World.cell?_setCell_far _ _ _ _ hag).trans ((World.cell?_setCell_far _ _ _ _ hag).trans hc1)
  have hp2 : ((W.setCell ⟨g, 14, none⟩ (.int .i64 (Rs.wr (s.t + 0)))).setCell ⟨g, 15, none⟩ (.bool true)).cell? ⟨b, 0, none⟩ = some (.int .i64 0) := (World.cell?_setCell_far _ _ _ _ hbg).trans ((World.cell?_setCell_far _ _ _ _ hbg).trans hp1)
  clear c13 c14 c15 f14 f15 x1 hc1 hp1 hwr
  generalize (W.setCell ⟨g, 14, none⟩ (.int .i64 (Rs.wr (s.t + 0)))).setCell ⟨g, 15, none⟩ (.bool true) = W2 at HS HT ha2 hp2 ⊢
  go_upto_region 4 with (fail)
  go_upto_region 5 with (fail)
  have HBD := Lib.hid ((Below.refl W2.heap.size W2).drew)
  have HC := Lib.hid (rpWrite (HS.out.below HBD.out))
  go_wp2_with (go_at_call 102; refine HC.out.mono ?_; intro e w3 hm; have HM := Lib.hid hm; obtain ⟨rfl, _⟩ := hm)
  go_end0
  exact (HM.out.after HBD.out).afterT HT.out
end Go.Proofs.YtaomkamdfbibbaaGreat
namespace Go.Proofs.YtaomkamdfbibbaaGreat
open Go.RowKit

theorem rp_jn (pad : Int) : Hd.jn (wrap32 pad) (-1) = Hd.jn pad (-1) := by
  have h : wrap32 pad = Hd.s32 pad := by unfold wrap32 Hd.s32; omega
  rw [h]
  unfold Hd.jn Hd.s32
  split <;> omega

set_option maxRecDepth 100000 in
set_option maxHeartbeats 1600000 in
/-- The tail is moved over padding: its header is written. -/
theorem rpClaim1Pad {w : World} {F : Nat → Prop} {g : Nat} {s : Rs} {dv : Value} (h : RpBare w F g s dv) {a b : Nat} (ha : Capt w F g a (.pointer (some ⟨g, 0, none⟩))) (pad : Int) (hnz : pad ≠ 0) (hb : Capt w F g b (.int .i64 pad)) (V : Nat) (A : Option Addr) (L cp : Nat) :
    Calls Tryz.prog 101 #[.agg #[.int .u64 V, .bool true, .slice A L cp], .pointer (some ⟨a, 0, none⟩), .pointer (some ⟨b, 0, none⟩)] w (RpMoved F g { s with p := Rs.wr (s.t + pad), cl := true, ph := .padd pad } w) := by
  have hb0 := (Below.refl w.heap.size w).alloc (Nat.le_refl _) (.cells #[.int .u64 V, .bool true, .slice A L cp] 37)
  have hx := Go.Deep.blk_alloc_new w (.cells #[.int .u64 V, .bool true, .slice A L cp] 37)
  have hc1 := (hb0.cell (p := ⟨a, 0, none⟩) (lt_of_cell ha.2.2)).trans ha.2.2
  have hp1 := (hb0.cell (p := ⟨b, 0, none⟩) (lt_of_cell hb.2.2)).trans hb.2.2
  have hFa := ha.1
  have hag : ¬ g = a := fun e => ha.2.1 e.symm
  have hbg : ¬ g = b := fun e => hb.2.1 e.symm
  have HH := Lib.hid (h.below hb0)
  have HW := Lib.hid hb0
  clear h hb0 ha hb
  go_enter Tryz.func101, Tryz.ntmps101
  go_upto_region 1 with (fail)
  generalize w.alloc (.cells #[.int .u64 V, .bool true, .slice A L cp] 37) = W at hx HH HW hc1 hp1 ⊢
  have x1 : W.cell? ⟨w.heap.size, 1, none⟩ = some (.bool true) := by simp [World.cell?, hx]
  clear hx
  obtain ⟨b0, bv, hblk⟩ := HH.out.blk
  have c13 := hblk.c13
  have c14 := hblk.c14
  have c15 := hblk.c15
  have f14 := hblk.free 14
  have f15 := hblk.free 15
  clear hblk
  go_upto_region 2 with (fail)
  go_upto_region 3 with (fail)
  go_region_held3 (fun w' => w'.cell? ⟨a, 0, none⟩ = some (.pointer (some ⟨g, 0, none⟩)) ∧ w'.cell? ⟨b, 0, none⟩ = some (.int .i64 pad) ∧ w'.cell? ⟨g, 13, none⟩ = some (.int .i64 s.t)) (simp [*, World.cell?_setCell_far, World.cell?_setCell_other]) (fail)
  have hwr : IntKind.i64.wrap (s.t + pad) = Rs.wr (s.t + pad) := by rw [IntKind.wrap_i64, Rs.wr, wrap64]
  rw [hwr]
  have HS := Lib.hid ((HH.out.store (s' := { s with p := Rs.wr (s.t + pad) }) 14 (.int .i64 (Rs.wr (s.t + pad))) (fun _ _ => rp_setP _ _ _ _ _ _) (HH.out.ok.withP _) rfl rfl).store (s' := { s with p := Rs.wr (s.t + pad), cl := true }) 15 (.bool true) (fun _ _ => rp_setC _ _ _ _ _ _) (HH.out.ok.withP _).withC rfl rfl)
  have HT : Hid (Touch F w ((W.setCell ⟨g, 14, none⟩ (.int .i64 (Rs.wr (s.t + pad)))).setCell ⟨g, 15, none⟩ (.bool true))) := Lib.hid (((Touch.of_below HW.out).setCell (p := ⟨g, 14, none⟩) HH.out.own _).setCell (p := ⟨g, 15, none⟩) HH.out.own _)
  have ha2 : ((W.setCell ⟨g, 14, none⟩ (.int .i64 (Rs.wr (s.t + pad)))).setCell ⟨g, 15, none⟩ (.bool true)).cell? ⟨a, 0, none⟩ = some (.pointer (some ⟨g, 0, none⟩)) := (World.cell?_setCell_far _ _ _ _ hag).trans ((World.cell?_setCell_far _ _ _ _ hag).trans hc1)
  have hp2 : ((W.setCell ⟨g, 14, none⟩ (.int .i64 (Rs.wr (s.t + pad)))).setCell ⟨g, 15, none⟩ (.bool true)).cell? ⟨b, 0, none⟩ = some (.int .i64 pad) := (World.cell?_setCell_far _ _ _ _ hbg).trans ((World.cell?_setCell_far _ _ _ _ hbg).trans hp1)
  clear c13 c14 c15 f14 f15 x1 hc1 hp1 hwr
  generalize (W.setCell ⟨g, 14, none⟩ (.int .i64 (Rs.wr (s.t + pad)))).setCell ⟨g, 15, none⟩ (.bool true) = W2 at HS HT ha2 hp2 ⊢
  go_upto_region 4 with (fail)
  have hdec : decide (pad = 0) = false := by simpa using hnz
  have hjn := rp_jn pad
  obtain ⟨Vp, hV, hVn⟩ : ∃ V : Nat, Hd.jn pad (-1) = (V : Int) ∧ (Hd.jn pad (-1)).toNat = V := rp_cast _ (Hd.jn_bounds _ _).1
  have HVN := Lib.hid hVn
  clear hVn
  go_upto_region 7 with (go_at_call 88; refine (record_any (wrap32 pad) (-1) _).mono ?_; rintro e w' ⟨rfl, rfl⟩; rw [hjn, hV])
  have HBD := Lib.hid ((Below.refl W2.heap.size W2).drew)
  have HS3 := Lib.hid (HS.out.below HBD.out)
  have k3 : W2.drew.cell? ⟨a, 0, none⟩ = some (.pointer (some ⟨g, 0, none⟩)) := ha2
  obtain ⟨b3, v3, hblk3⟩ := HS3.out.blk
  have HB3 := Lib.hid hblk3
  have t3 := hblk3.c13
  have z3 := hblk3.c0
  have o3 := hblk3.c1
  clear hblk3 ha2 hp2
  generalize W2.drew = W3 at HBD HS3 HB3 k3 t3 z3 o3 ⊢
  have hla := lt_of_cell k3
  have hlg := lt_of_cell t3
  have hga : ¬ a = g := fun e => hag e.symm
  go_region_held3 (fun w' => w'.cell? ⟨a, 0, none⟩ = some (.pointer (some ⟨g, 0, none⟩)) ∧ w'.cell? ⟨g, 0, none⟩ = some (.int .i64 s.B) ∧ w'.cell? ⟨g, 1, none⟩ = some (.int .i64 s.Z) ∧ w'.cell? ⟨g, 13, none⟩ = some (.int .i64 s.t)) (go_keep)
    (first
      | (go_at_call 27; refine (rpDo (HB3.out.below hb2) ⟨2, s.spot s.t, 8, Vp, 0, []⟩ none 0 0 103 #[] #[.pointer (some ⟨a, 0, none⟩)]).mono ?_; intro e wd has; have HAS := Lib.hid has; obtain ⟨rfl, hblkd, htd⟩ := has; have kd := (htd.cell (p := ⟨a, 0, none⟩) (lt_of_cell k2) hga).trans k2; have o0d := hblkd.c0; have o1d := hblkd.c1; have o13d := hblkd.c13; clear hblkd)
      | (go_at_call 80; refine (stSet (s.spot s.t) Vp _).mono ?_; rintro e x2 ⟨rfl, hq2⟩; have hb2 := hb1.trans (hq2.mono hb1.size); have k2 := (hb2.cell (p := ⟨a, 0, none⟩) hla).trans k3; have o02 := (hb2.cell (p := ⟨g, 0, none⟩) hlg).trans z3; have o12 := (hb2.cell (p := ⟨g, 1, none⟩) hlg).trans o3; have o132 := (hb2.cell (p := ⟨g, 13, none⟩) hlg).trans t3)
      | (go_at_call 48; refine (rpAtC HS3.out.ok s.t _).mono ?_; rintro e x1 ⟨rfl, hq1⟩; have hb1 := below_drew hq1; have k1 := (hb1.cell (p := ⟨a, 0, none⟩) hla).trans k3; have o01 := (hb1.cell (p := ⟨g, 0, none⟩) hlg).trans z3; have o11 := (hb1.cell (p := ⟨g, 1, none⟩) hlg).trans o3; have o131 := (hb1.cell (p := ⟨g, 13, none⟩) hlg).trans t3))
  all_goals
    go_wp2
    go_end0
    refine RpMoved.afterT (RpMoved.after (rp_asked (s' := { s with p := Rs.wr (s.t + pad), cl := true, ph := .padd pad }) HS3.out rfl hb2 (show some (⟨2, s.spot s.t, 8, (Hd.jn pad (-1)).toNat, 0, []⟩ : Ac) = _ by rw [HVN.out]) HAS.out (BytesIn.none _ _) fun w8 hk => ?_) HBD.out) HT.out
    exact ⟨a, rfl, ⟨.inl hFa, hga, (World.cell?_of_block (w := x2) (a := ⟨a, 0, none⟩) (hk _ hga (lt_of_cell k2))).trans k2⟩⟩
end Go.Proofs.YtaomkamdfbibbaaGreat
namespace Go.Proofs.YtaomkamdfbibbaaGreat
open Go.RowKit

theorem Three.below {w w' : World} {F : Nat → Prop} {g : Nat} {s : Rs} {a b c : Nat} (h : Three w F g s a b c) (hb : Below w.heap.size w w') : Three w' F g s a b c := ⟨h.1.below hb, h.2.1.below hb, h.2.2.below hb⟩
theorem Three.keep {w w' : World} {F F' : Nat → Prop} {g : Nat} {s : Rs} {a b c : Nat} (h : Three w F g s a b c) (hb : ∀ k, F k → k ≠ g → w'.heap[k]? = w.heap[k]?) (hF : ∀ k, F k → F' k) : Three w' F' g s a b c := ⟨(h.1.keep hb).mono hF, (h.2.1.keep hb).mono hF, (h.2.2.keep hb).mono hF⟩

theorem RpMovedG.after {F : Nat → Prop} {g : Nat} {s : Rs} {w W : World} {e : Ending} {w' : World} (h : RpMovedG F g s W e w') (hb : Below w.heap.size w W) (hg : g < w.heap.size) : RpMovedG F g s w e w' := ⟨h.1.after hb, (Touch.of_below hb).trans h.2.1, h.2.2.trans (hb.cell (p := ⟨g, 3, none⟩) hg)⟩

theorem rp_enter (a b c : Nat) (w : World) : (callFunc 120 #[.pointer (some ⟨a, 0, none⟩), .pointer (some ⟨b, 0, none⟩), .pointer (some ⟨c, 0, none⟩)]).run Tryz.prog w = .ok (.enter 120 #[.pointer (some ⟨a, 0, none⟩), .pointer (some ⟨b, 0, none⟩), .pointer (some ⟨c, 0, none⟩)]) w := by
  simp [go_sem]

/-- The bytes' copy is followed: its next access is asked for, or the length's. -/
theorem rpFollow {w : World} {F : Nat → Prop} {g : Nat} {s : Rs} {dv : Value} (h : RpBare w F g s dv) (hF : ∀ k, F k → k < w.heap.size) {a b c : Nat} (ht : Three w F g s a b c) {base top gc d : Nat} {v : Value}
    (hc : Cp w base top gc (.wr (s.spot s.p + 8) s.f) d (s.L - d) v []) (hd : d ≤ s.L) (hsep : ∀ k, (base ≤ k ∧ k < top) ∨ v.ownBlock = some k → F k ∧ k ≠ g ∧ k ≠ a ∧ k ≠ b ∧ k ≠ c ∧ (0 < s.L → dv.ownBlock ≠ some k)) :
    Calls Tryz.prog 118 #[.pointer (some ⟨g, 5, none⟩), .iface 161 (.pointer (some ⟨gc, 0, none⟩)), .func (.func 120) #[] #[.pointer (some ⟨a, 0, none⟩), .pointer (some ⟨b, 0, none⟩), .pointer (some ⟨c, 0, none⟩)]] w (RpMovedG F g (if d = s.L then { s with ph := .len } else { s with ph := .byt d }) w) := by
  by_cases hl : d = s.L
  · rw [if_pos hl]
    have hz : s.L - d = 0 := by omega
    rw [hz] at hc
    refine (stFollowNo hc g 5 (Q := fun w' => RpMovedG F g { s with ph := .len } w (.returned (.tuple #[])) w') #[.pointer (some ⟨a, 0, none⟩), .pointer (some ⟨b, 0, none⟩), .pointer (some ⟨c, 0, none⟩)] (by simp) (rp_enter a b c) fun W hW => ?_).mono ?_
    · refine (rpWrite11 (h.below hW) (ht.below hW)).mono ?_
      intro e w' hm
      have hm2 := hm.after hW h.lt
      obtain ⟨⟨rfl, _⟩, _⟩ := hm
      exact ⟨rfl, hm2⟩
    · rintro e w' ⟨rfl, hm⟩
      exact hm
  · rw [if_neg hl]
    obtain ⟨a0, av, hblk⟩ := h.blk
    refine (stFollowYes hc (by omega) hblk.st 120 #[] #[.pointer (some ⟨a, 0, none⟩), .pointer (some ⟨b, 0, none⟩), .pointer (some ⟨c, 0, none⟩)]).mono ?_
    rintro e w' ⟨rfl, W, A, l, cp, hW, ho, k0, k1, k2, rfl⟩
    have hgl := hblk.lt
    have has : RpAsked g s dv ⟨6, s.spot s.p + 8 + (d : Nat), (Cy.nx (s.L - d) : Nat), 0, 0, Mb.bl s.f d (Cy.nx (s.L - d))⟩ (.slice A l cp) (.func (.func 126) #[] #[.pointer (some ⟨w.heap.size + 1, 0, none⟩), .pointer (some ⟨w.heap.size, 0, none⟩), .pointer (some ⟨w.heap.size + 2, 0, none⟩)]) W (.returned (.tuple #[])) _ :=
      ⟨rfl, rp_seven (hblk.below hW) _ _ _, seven_touch1 W g 5 _ _ _⟩
    refine ⟨rp_askedS (s' := { s with ph := .byt d }) h rfl hW rfl has ?_ fun w2 hs hk => ?_, (Touch.of_below hW).trans (seven_touch1 W g 5 _ _ _), has.2.1.c3.trans hblk.c3.symm⟩
    · have hbi := (BytesIn.of_own ho).lt
      exact hbi.mono fun k h1 _ => ⟨.inr ⟨by have := h1.1; omega, h1.2⟩, by have := h1.1; omega⟩
    · have l0 := lt_of_cell k0
      have l1 := lt_of_cell k1
      have l2 := lt_of_cell k2
      have hne0 : w.heap.size ≠ g := by omega
      have hne1 : w.heap.size + 1 ≠ g := by omega
      have hne2 : w.heap.size + 2 ≠ g := by omega
      have hFk : ∀ k, F k → k ≠ g → w2.heap[k]? = w.heap[k]? := fun k hkF hkg => (hk k hkg (Nat.lt_of_lt_of_le (hF k hkF) hW.size)).trans (hW.block k (hF k hkF))
      refine ⟨w.heap.size + 1, w.heap.size, w.heap.size + 2, a, b, c, gc, base, top, v, rfl, ⟨.inr ⟨by omega, l1⟩, hne1, (World.cell?_of_block (w := W) (a := ⟨w.heap.size + 1, 0, none⟩) (hk _ hne1 l1)).trans k1⟩, ⟨.inr ⟨by omega, l0⟩, hne0, (World.cell?_of_block (w := W) (a := ⟨w.heap.size, 0, none⟩) (hk _ hne0 l0)).trans k0⟩, ⟨.inr ⟨by omega, l2⟩, hne2, (World.cell?_of_block (w := W) (a := ⟨w.heap.size + 2, 0, none⟩) (hk _ hne2 l2)).trans k2⟩, ht.keep hFk fun k hk => .inl hk, ?_, fun k hk2 => ?_, show d < s.L by omega⟩
      · refine hc.keep (Nat.le_trans hW.size hs) (fun k h1 h2 => ?_) fun k h1 => ?_
        · have := hsep k (.inl ⟨h1, h2⟩)
          exact hFk k this.1 this.2.1
        · have := hsep k (.inr h1)
          exact hFk k this.1 this.2.1
      · have h5 := hsep k hk2
        have h6 := hF k h5.1
        exact ⟨.inl h5.1, h5.2.1, by omega, by omega, by omega, h5.2.2.1, h5.2.2.2.1, h5.2.2.2.2.1, h5.2.2.2.2.2 (by omega)⟩
end Go.Proofs.YtaomkamdfbibbaaGreat
namespace Go.Proofs.YtaomkamdfbibbaaGreat
open Go.RowKit

theorem RpMovedG.narrow {F F2 : Nat → Prop} {g : Nat} {s : Rs} {w W : World} {e : Ending} {w' : World} (h : RpMovedG F2 g s W e w') (hb : Below w.heap.size w W) (hg : g < w.heap.size) (hF : ∀ k, F2 k → F k ∨ (w.heap.size ≤ k ∧ k < W.heap.size)) : RpMovedG F g s w e w' := ⟨h.1.narrow hb hF, (Touch.of_below hb).trans h.2.1, h.2.2.trans (hb.cell (p := ⟨g, 3, none⟩) hg)⟩

theorem rp_sep {w : World} {F : Nat → Prop} {g : Nat} {s : Rs} {dv : Value} (h : RpBare w F g s dv) {n top a b c : Nat} (hnm : n ≤ w.heap.size) (ha : a < w.heap.size) (hb : b < w.heap.size) (hc : c < w.heap.size) (k : Nat) (hk : (w.heap.size ≤ k ∧ k < top) ∨ Value.ownBlock (.slice none 0 0) = some k) :
    (F k ∨ (n ≤ k ∧ k < top)) ∧ k ≠ g ∧ k ≠ a ∧ k ≠ b ∧ k ≠ c ∧ (0 < s.L → dv.ownBlock ≠ some k) := by
  have hg := h.lt
  rcases hk with hk | hk
  · refine ⟨.inr ⟨by omega, hk.2⟩, by omega, by omega, by omega, by omega, fun hp e => ?_⟩
    have hx : 0 < (Mb.bl s.f 0 s.L).length := by rw [Mb.bl_length]; exact hp
    obtain ⟨A, cp, hv, hh⟩ := h.txt
    obtain ⟨b', off, e2, h1, h2, h3⟩ := hh hx
    rw [hv, e2] at e
    injection e with e
    simp only at e
    omega
  · cases hk

set_option maxRecDepth 100000 in
set_option maxHeartbeats 1600000 in
/-- The header was stored: the bytes' copy is made and followed. -/
theorem rpWrite1 {w : World} {F : Nat → Prop} {g : Nat} {s : Rs} {dv : Value} (h : RpBare w F g s dv) (hF : ∀ k, F k → k < w.heap.size) {a b c : Nat} (ht : Three w F g s a b c) (V : Nat) (D : Bool) (A : Option Addr) (L cp : Nat) :
    Calls Tryz.prog 117 #[.agg #[.int .u64 V, .bool D, .slice A L cp], .pointer (some ⟨a, 0, none⟩), .pointer (some ⟨b, 0, none⟩), .pointer (some ⟨c, 0, none⟩)] w (RpMovedG F g (if 0 = s.L then { s with ph := .len } else { s with ph := .byt 0 }) w) := by
  have hb0 := (Below.refl w.heap.size w).alloc (Nat.le_refl _) (.cells #[.int .u64 V, .bool D, .slice A L cp] 37)
  have hsp := h.ok.place_in s.p
  have hb1 := h.ok.b1
  have hfew := h.ok.few
  have hz1 := h.ok.z1
  have hsv : s.spot s.p = (s.B : Int) + s.place s.p := rfl
  have hnear : -4611686018427387904 ≤ s.spot s.p + 8 ∧ s.spot s.p + 8 ≤ 4611686018427387904 := by omega
  have hadd : IntKind.i64.wrap (s.spot s.p + 8) = s.spot s.p + 8 := IntWalk.i64_in _ (by omega)
  have HNE := Lib.hid hnear
  have HLL := Lib.hid (show s.L ≤ 131072 by omega)
  have hgl := h.lt
  have HH := Lib.hid (h.below hb0)
  have HT := Lib.hid (ht.below hb0)
  have HW := Lib.hid hb0
  have HFL := Lib.hid hF
  have hag := ht.1.2.1
  have hbg := ht.2.1.2.1
  have hcg := ht.2.2.2.1
  obtain ⟨s', hs'⟩ : ∃ s' : Rs, s' = (if 0 = s.L then { s with ph := .len } else { s with ph := .byt 0 }) := ⟨_, rfl⟩
  rw [← hs']
  have HS' := Lib.hid hs'
  obtain ⟨Ad, cd, hdv, _, _⟩ := h.dat
  subst hdv
  clear hs' h hb0 hsp hb1 hfew hz1 hsv hnear ht hF
  go_enter Tryz.func117, Tryz.ntmps117
  go_upto_region 1 with (fail)
  generalize w.alloc (.cells #[.int .u64 V, .bool D, .slice A L cp] 37) = W at HH HT HW ⊢
  have hca := HT.out.1.2.2
  have hcb := HT.out.2.1.2.2
  have hcc := HT.out.2.2.2.2
  have hla := lt_of_cell hca
  have hlb := lt_of_cell hcb
  have hlc := lt_of_cell hcc
  obtain ⟨a0, av, hblk⟩ := HH.out.blk
  have c3 := hblk.c3
  have hgW := hblk.lt
  clear hblk
  have hga : ¬ a = g := hag
  have hgb : ¬ b = g := hbg
  have hgc : ¬ c = g := hcg
  clear hag hbg hcg
  go_region_held3 (fun w' => w'.cell? ⟨a, 0, none⟩ = some (.pointer (some ⟨g, 0, none⟩)) ∧ w'.cell? ⟨b, 0, none⟩ = some (.int .i64 (s.spot s.p)) ∧ w'.cell? ⟨g, 3, none⟩ = some (.slice Ad s.L cd)) (go_keep)
    (first
      | (go_at_call 118; refine (rpFollow (HB1.out.wide (F' := fun k => F k ∨ (w.heap.size ≤ k ∧ k < w1.heap.size)) fun k hk => .inl hk) (fun k hk => hk.elim (fun hk => Nat.lt_of_lt_of_le (HFL.out k hk) hbW.size) fun hk => hk.2) (HT1.out.keep (fun _ _ _ => rfl) fun k hk => .inl hk) hc1 (Nat.zero_le _) (rp_sep HH.out HW.out.size hla hlb hlc)).mono ?_; intro e w4 hm; have HM := Lib.hid hm; obtain ⟨⟨rfl, _⟩, ht4, h34⟩ := hm; have o4 := h34.trans o1; have k4 := (ht4.cell (p := ⟨a, 0, none⟩) (lt_of_cell k1) hga).trans k1; have m4 := (ht4.cell (p := ⟨b, 0, none⟩) (lt_of_cell m1) hgb).trans m1)
      | (go_at_call 119; refine (in_any (s.spot s.p + 8) Ad s.L cd s.f W.drew HNE.out ((HH.out.below (Below.refl W.heap.size W).drew).txt.bytes) HLL.out).mono ?_; rintro e w1 ⟨gc, rfl, hc1, hq1⟩; have hb2 := below_drew hq1; have k1 := (hb2.cell (p := ⟨a, 0, none⟩) hla).trans hca; have m1 := (hb2.cell (p := ⟨b, 0, none⟩) hlb).trans hcb; have o1 := (hb2.cell (p := ⟨g, 3, none⟩) hgW).trans c3; have HB1 := Lib.hid (HH.out.below hb2); have HT1 := Lib.hid (HT.out.below hb2); have hbW := HW.out.trans (hb2.mono HW.out.size)))
  all_goals
    go_wp2
    go_end0
    rw [HS'.out]
    exact HM.out.narrow hbW hgl fun k hk => hk

/-- What a call leaves that turned blocks of the put alone: in the sense of what went on before. -/
theorem RpMoved.around {F F2 : Nat → Prop} {g : Nat} {s : Rs} {w W : World} {e : Ending} {w' : World} (h : RpMoved F2 g s W e w') (ht : Touch F w W) (hF : ∀ k, F2 k → F k ∨ (w.heap.size ≤ k ∧ k < W.heap.size)) : RpMoved F g s w e w' := by
  obtain ⟨he, F', hp, ht2, hF'⟩ := h
  refine ⟨he, F', hp, ⟨ht2.os.trans ht.os, ht2.tape.trans ht.tape, ht2.output.trans ht.output, Nat.le_trans ht.size ht2.size, fun k hk hn => (ht2.block k (Nat.lt_of_lt_of_le hk ht.size) fun e => ?_).trans (ht.block k hk hn)⟩, fun k hk => ?_⟩
  · rcases hF k e with e | e
    · exact hn e
    · omega
  · rcases hF' k hk with e | e
    · exact (hF k e).imp id fun e => ⟨e.1, Nat.lt_of_lt_of_le e.2 ht2.size⟩
    · exact .inr ⟨Nat.le_trans ht.size e.1, e.2⟩

set_option maxHeartbeats 800000 in
/-- A part of the bytes was stored: the next one, or the length. -/
theorem rpFollow1 {w : World} {F : Nat → Prop} {g : Nat} {s : Rs} {dv : Value} (h : RpBare w F g s dv) (hF : ∀ k, F k → k < w.heap.size) {em es eo a b c gc base top d : Nat} {v : Value}
    (hm : Capt w F g em (.iface 161 (.pointer (some ⟨gc, 0, none⟩)))) (hs : Capt w F g es (.pointer (some ⟨g, 5, none⟩))) (ho : Capt w F g eo (.func (.func 120) #[] #[.pointer (some ⟨a, 0, none⟩), .pointer (some ⟨b, 0, none⟩), .pointer (some ⟨c, 0, none⟩)])) (ht : Three w F g s a b c)
    (hc : Cp w base top gc (.wr (s.spot s.p + 8) s.f) d (s.L - d) v []) (hsep : ∀ k, (base ≤ k ∧ k < top) ∨ v.ownBlock = some k → F k ∧ k ≠ g ∧ k ≠ em ∧ k ≠ es ∧ k ≠ eo ∧ k ≠ a ∧ k ≠ b ∧ k ≠ c ∧ dv.ownBlock ≠ some k) (hd : d < s.L)
    (V : Nat) (D : Bool) (A : Option Addr) (L cp : Nat) {zs : List Int} (hz : BytesAt w (.slice A L cp) zs) :
    Calls Tryz.prog 126 #[.agg #[.int .u64 V, .bool D, .slice A L cp], .pointer (some ⟨em, 0, none⟩), .pointer (some ⟨es, 0, none⟩), .pointer (some ⟨eo, 0, none⟩)] w (RpMoved F g (if d + Cy.nx (s.L - d) = s.L then { s with ph := .len } else { s with ph := .byt (d + Cy.nx (s.L - d)) }) w) := by
  have hmine : ∀ k, Mine gc v k → F k ∧ k ≠ g ∧ k ≠ em ∧ k ≠ es ∧ k ≠ eo ∧ k ≠ a ∧ k ≠ b ∧ k ≠ c ∧ dv.ownBlock ≠ some k := fun k hk => by
    rcases hk with hk | hk
    · exact hsep k (.inl ⟨hk ▸ hc.above, hk ▸ hc.under⟩)
    · exact hsep k (.inr hk)
  have hnl := Cy.nx_le (s.L - d)
  obtain ⟨s', hs'⟩ : ∃ s' : Rs, s' = (if d + Cy.nx (s.L - d) = s.L then { s with ph := .len } else { s with ph := .byt (d + Cy.nx (s.L - d)) }) := ⟨_, rfl⟩
  rw [← hs']
  refine (stFollow1 hc (by omega) hm.2.2 hs.2.2 ho.2.2 (fun e => (hmine _ e).2.2.1 rfl) (fun e => (hmine _ e).2.2.2.1 rfl) (fun e => (hmine _ e).2.2.2.2.1 rfl) V D A L cp hz (fun e => by cases e) (Q := fun w' => RpMoved F g s' w (.returned (.tuple #[])) w') fun W v' hc' ht' hl' => ?_).mono ?_
  · have hTF : Touch F w W := ht'.mono fun k hk => (hmine k hk).1
    obtain ⟨a0, av, hblk⟩ := h.blk
    have hgM : ¬ Mine gc v g := fun e => (hmine g e).2.1 rfl
    have hk3 : ∀ q, q ≠ g → F q → (q = a ∨ q = b ∨ q = c) → W.heap[q]? = w.heap[q]? := fun q _ hq hq2 => ht'.block q (hF q hq) fun e => by
      have := hmine q e
      omega
    have hb : RpBare W (fun k => F k ∨ (w.heap.size ≤ k ∧ k < W.heap.size)) g s dv :=
      ⟨⟨a0, av, hblk.of_block (ht'.block g hblk.lt hgM)⟩, .inl h.own, h.ok, h.dat, (h.txt.ownK.keep ht'.size fun k hk hlt => ht'.block k hlt fun e => (hmine k e).2.2.2.2.2.2.2.2 hk.2.2).mono fun k hk _ => ⟨.inl hk.1.1, hk.1.2⟩⟩
    have ht3 : Three W (fun k => F k ∨ (w.heap.size ≤ k ∧ k < W.heap.size)) g s a b c := by
      have cap : ∀ {q : Nat} {u : Value}, Capt w F g q u → (q = a ∨ q = b ∨ q = c) → Capt W (fun k => F k ∨ (w.heap.size ≤ k ∧ k < W.heap.size)) g q u := fun hq h2 => ⟨.inl hq.1, hq.2.1, (World.cell?_of_block (w := w) (a := ⟨_, 0, none⟩) (hk3 _ hq.2.1 hq.1 h2)).trans hq.2.2⟩
      exact ⟨cap ht.1 (.inl rfl), cap ht.2.1 (.inr (.inl rfl)), cap ht.2.2 (.inr (.inr rfl))⟩
    have hsub : s.L - d - Cy.nx (s.L - d) = s.L - (d + Cy.nx (s.L - d)) := by omega
    rw [hsub] at hc'
    have hlt3 : ∀ {q : Nat} {u : Value}, Capt w F g q u → q < w.heap.size := fun hq => hF _ hq.1
    have la := hlt3 ht.1
    have lb := hlt3 ht.2.1
    have lc := hlt3 ht.2.2
    have hgl := hblk.lt
    have hdl : ∀ k, dv.ownBlock = some k → k < w.heap.size := fun k hk => by
      have hx : 0 < (Mb.bl s.f 0 s.L).length := by rw [Mb.bl_length]; omega
      obtain ⟨A', cp', hv, hh⟩ := h.txt
      obtain ⟨b', off, e2, h1, h2, h3⟩ := hh hx
      rw [hv, e2] at hk
      injection hk with hk
      simp only at hk
      omega
    refine (rpFollow hb (fun k hk => hk.elim (fun hk => Nat.lt_of_lt_of_le (hF k hk) ht'.size) fun hk => hk.2) ht3 hc' (by omega) fun k hk => ?_).mono fun e w' hm => ?_
    · have key : (F k ∧ k ≠ g ∧ k ≠ em ∧ k ≠ es ∧ k ≠ eo ∧ k ≠ a ∧ k ≠ b ∧ k ≠ c ∧ dv.ownBlock ≠ some k) ∨ (w.heap.size ≤ k ∧ k < W.heap.size) := by
        rcases hk with hk | hk
        · exact .inl (hsep k (.inl hk))
        · rcases hl' k hk with e | e
          · exact .inl (hsep k (.inr e))
          · exact .inr ⟨e, (hc'.own.ge hk).2⟩
      rcases key with h5 | h5
      · exact ⟨.inl h5.1, h5.2.1, h5.2.2.2.2.2.1, h5.2.2.2.2.2.2.1, h5.2.2.2.2.2.2.2.1, fun _ => h5.2.2.2.2.2.2.2.2⟩
      · exact ⟨.inr h5, by omega, by omega, by omega, by omega, fun _ e => by have := hdl k e; omega⟩
    · have h6 := hm.1.around hTF fun k hk => hk
      rw [← hs'] at h6
      obtain ⟨rfl, _⟩ := hm.1
      exact ⟨rfl, h6⟩
  · rintro e w' ⟨rfl, hm⟩
    exact hm
end Go.Proofs.YtaomkamdfbibbaaGreat
