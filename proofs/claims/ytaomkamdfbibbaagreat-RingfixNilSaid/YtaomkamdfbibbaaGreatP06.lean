/-
  Layer 9's fix, walked: what the head's header tells; the span that is looked through.
  Layer 9's fix, walked: what goes on from an answer.
  Layer 7's put is made.
  Layer 9's fix takes an answer, whatever phase it is in; from outside: Take, Next, Result; it is made.
  Layer 6's machines, as far as this seat reaches them: what each does next, what it does with an answer, where it stands in memory.
  Layer 6's next: a machine's next access, asked through the interface, its bytes in new memory.
-/
import Derived.Test.YtaomkamdfbibbaaGreatP05
import Derived.Test.YtaomkamdfbibbaaGreatP03
namespace Go.Proofs.YtaomkamdfbibbaaGreat
open Go.RowKit

set_option maxRecDepth 100000 in
set_option maxHeartbeats 800000 in
theorem fxJudge {w : World} {F : Nat → Prop} {g : Nat} {s : Fs} (h : FxBare w F g s) (l : Int) (hl : -2147483648 ≤ l ∧ l ≤ 2147483647) :
    Calls Tryz.prog 51 #[.pointer (some ⟨g, 0, none⟩), .int .i32 l] w (FxMoved F g (s.judge l) w) := by
  obtain ⟨a, hblk⟩ := h.blk
  have HH := Lib.hid h
  have hz1 := h.ok.rg.z1
  have ha0 := h.ok.a0
  have c1 := hblk.c1
  have c9 := hblk.c9
  have e5 : IntKind.i64.wrap l = l := IntWalk.i64_in _ (by omega)
  have e1 : IntKind.i64.wrap (s.a + 8) = s.a + 8 := IntWalk.i64_in _ (by omega)
  have e2 : IntKind.i64.wrap (s.a - l) = s.a - l := IntWalk.i64_in _ (by omega)
  have HA := Lib.hid (And.intro hz1 (And.intro ha0 hl))
  clear h hblk hz1
  by_cases h0 : l = 0
  · have hd : (l == 0) = true := by simpa using h0
    have HS := Lib.hid (show s.judge l = s.ahead (s.a + 8) by unfold Fs.judge; rw [if_pos h0])
    have HC := Lib.hid (fxAhead HH.out (s.a + 8) (by have := HA.out; omega))
    clear h0 ha0 hl
    go_enter Tryz.func51, Tryz.ntmps51
    go_wp2_with (go_at_call 70; refine HC.out.mono ?_; intro e w3 hm; have HM := Lib.hid hm; obtain ⟨rfl, _⟩ := hm)
    go_end0
    rw [HS.out]
    exact HM.out
  · have hd : (l == 0) = false := by simpa using h0
    have hz1 := HA.out.1
    by_cases h1 : l < 0
    · have hd1 : decide (l < 0) = true := decide_eq_true h1
      by_cases h2 : s.a - l ≤ s.Z
      · have hd2 : decide (s.a - l ≤ s.Z) = true := decide_eq_true h2
        have HS := Lib.hid (show s.judge l = { s with ph := .padd (-l) } by unfold Fs.judge; rw [if_neg h0, if_pos ⟨h1, h2⟩])
        have e6 : IntKind.i32.wrap (-l) = -l := (Hd.s32_wrap _).trans (Hd.s32_in _ (by omega) (by omega))
        have e7 : wrap32 (-l) = -l := by unfold wrap32; omega
        have HC : ∀ n, Calls Tryz.prog 72 #[.pointer (some ⟨g, 0, none⟩), .int .i32 (-l)] (w.drewN n) (FxMoved F g { s with ph := .padd (-l) } (w.drewN n)) := fun n => fxPad (HH.out.below (drewN_below _ _)) (-l) (by have := HA.out; omega)
        have HCC := Lib.hid HC
        clear HC h0 h1 h2 ha0 hl
        go_enter Tryz.func51, Tryz.ntmps51
        go_upto_region 2 with (fail)
        go_quiet (fail)
        go_wp2_with (go_at_call 72; refine (HCC.out _).mono ?_; intro e w3 hm; have HM := Lib.hid hm; obtain ⟨rfl, _⟩ := hm)
        go_end0
        rw [HS.out]
        exact HM.out.afterT (Touch.of_below (drewN_below _ _))
      · have hd2 : decide (s.a - l ≤ s.Z) = false := decide_eq_false h2
        have HS := Lib.hid (show s.judge l = { s with ph := .fin } by unfold Fs.judge; rw [if_neg h0, if_neg (fun e => h2 e.2)])
        clear h0 h1 h2 ha0 hl hz1
        go_enter Tryz.func51, Tryz.ntmps51
        go_upto_region 2 with (fail)
        go_quiet (fail)
        go_wp2
        go_end0
        rw [HS.out]
        exact fx_done ((HH.out.below (drewN_below _ _)).withPh .fin) (Touch.of_below (drewN_below _ _)) rfl
    · have hd1 : decide (l < 0) = false := decide_eq_false h1
      have HS := Lib.hid (show s.judge l = { s with ph := .fin } by unfold Fs.judge; rw [if_neg h0, if_neg (fun e => h1 e.1)])
      clear h0 h1 ha0 hl hz1
      go_enter Tryz.func51, Tryz.ntmps51
      go_upto_region 2 with (fail)
      go_quiet (fail)
      go_wp2
      go_end0
      rw [HS.out]
      exact fx_done ((HH.out.below (drewN_below _ _)).withPh .fin) (Touch.of_below (drewN_below _ _)) rfl

theorem fx_setA (s : Fs) (v : Int) (a : Ac) (av th : Value) : (FxCells s a av th).setIfInBounds 9 (.int .i64 v) = FxCells { s with a := v } a av th := by simp [FxCells]
theorem fx_setB (s : Fs) (v : Int) (a : Ac) (av th : Value) : (FxCells s a av th).setIfInBounds 10 (.int .i64 v) = FxCells { s with b := v } a av th := by simp [FxCells]
theorem fx_setM (s : Fs) (v : Int) (a : Ac) (av th : Value) : (FxCells s a av th).setIfInBounds 11 (.int .i64 v) = FxCells { s with m := v } a av th := by simp [FxCells]
theorem fx_setN (s : Fs) (v : Int) (a : Ac) (av th : Value) : (FxCells s a av th).setIfInBounds 12 (.int .i32 v) = FxCells { s with n := v } a av th := by simp [FxCells]
theorem Fs.Ok.withA {s : Fs} (ok : s.Ok) (v : Int) : ({ s with a := Rg.place s.Z v } : Fs).Ok := ⟨ok.rg, by have := ok.rg.place_in v; show 0 ≤ Rg.place s.Z v ∧ Rg.place s.Z v ≤ s.Z; omega, ok.b0, ok.m0, ok.n0⟩
theorem Fs.Ok.withB {s : Fs} (ok : s.Ok) (v : Int) : ({ s with b := Rg.place s.Z v } : Fs).Ok := ⟨ok.rg, ok.a0, by have := ok.rg.place_in v; show 0 ≤ Rg.place s.Z v ∧ Rg.place s.Z v ≤ s.Z; omega, ok.m0, ok.n0⟩
theorem Fs.Ok.withBZ {s : Fs} (ok : s.Ok) : ({ s with b := (s.Z : Int) } : Fs).Ok := ⟨ok.rg, ok.a0, by show 0 ≤ (s.Z : Int) ∧ (s.Z : Int) ≤ s.Z; omega, ok.m0, ok.n0⟩

set_option maxRecDepth 100000 in
set_option maxHeartbeats 1600000 in
theorem fxSpan {w : World} {F : Nat → Prop} {g : Nat} {s : Fs} (h : FxBare w F g s) (d t : Int) :
    Calls Tryz.prog 33 #[.pointer (some ⟨g, 0, none⟩), .int .i64 d, .int .i64 t] w (FxMoved F g (s.span d t) w) := by
  obtain ⟨a, hblk⟩ := h.blk
  have hgl := hblk.lt
  have HH := Lib.hid h
  have hb0 := (Below.refl w.heap.size w).alloc (Nat.le_refl _) (.cells #[.pointer (some ⟨g, 0, none⟩)] 26)
  have hbox := rp_box w (.pointer (some ⟨g, 0, none⟩)) 26
  have hsz : (w.alloc (.cells #[.pointer (some ⟨g, 0, none⟩)] 26)).heap.size = w.heap.size + 1 := by simp
  have c0 := (hb0.cell (p := ⟨g, 0, none⟩) hgl).trans hblk.c0
  have c1 := (hb0.cell (p := ⟨g, 1, none⟩) hgl).trans hblk.c1
  have c9 := (hb0.cell (p := ⟨g, 9, none⟩) hgl).trans hblk.c9
  have c10 := (hb0.cell (p := ⟨g, 10, none⟩) hgl).trans hblk.c10
  have f9 := (hblk.below hb0).free 9
  have f10 := (hblk.below hb0).free 10
  have HW := Lib.hid hb0
  clear h hblk hb0
  go_enter Tryz.func33, Tryz.ntmps33
  go_upto_region 1 with (fail)
  generalize w.alloc (.cells #[.pointer (some ⟨g, 0, none⟩)] 26) = W at hbox HW hsz c0 c1 c9 c10 f9 f10 ⊢
  have hga : ¬ w.heap.size = g := by omega
  have hag : ¬ g = w.heap.size := by omega
  have hla : w.heap.size < W.heap.size := by omega
  have hgW : g < W.heap.size := by omega
  clear hsz
  go_region_held3 (fun w' => w'.cell? ⟨w.heap.size, 0, none⟩ = some (.pointer (some ⟨g, 0, none⟩)) ∧ w'.cell? ⟨g, 0, none⟩ = some (.int .i64 s.B) ∧ w'.cell? ⟨g, 1, none⟩ = some (.int .i64 s.Z)) (simp [*, World.cell?_setCell_far, World.cell?_setCell_other])
    (first
      | (go_at_call 47; refine (rgPlace HH.out.ok.rg t _).mono ?_; rintro e x2 ⟨rfl, hq2⟩; have hb2 := hb1.trans (hq2.mono hb1.size); have k2 := (hb2.cell (p := ⟨w.heap.size, 0, none⟩) hla).trans hbox; have o02 := (hb2.cell (p := ⟨g, 0, none⟩) hgW).trans c0; have o12 := (hb2.cell (p := ⟨g, 1, none⟩) hgW).trans c1; have o92 := (hb2.cell (p := ⟨g, 9, none⟩) hgW).trans c9; have o102 := (hb2.cell (p := ⟨g, 10, none⟩) hgW).trans c10; have z92 := (hb2.frozen (p := ⟨g, 9, none⟩) hgW).trans f9; have z102 := (hb2.frozen (p := ⟨g, 10, none⟩) hgW).trans f10)
      | (go_at_call 47; refine (rgPlace HH.out.ok.rg d _).mono ?_; rintro e x1 ⟨rfl, hq1⟩; have hb1 := below_drew hq1; have k1 := (hb1.cell (p := ⟨w.heap.size, 0, none⟩) hla).trans hbox; have o01 := (hb1.cell (p := ⟨g, 0, none⟩) hgW).trans c0; have o11 := (hb1.cell (p := ⟨g, 1, none⟩) hgW).trans c1; have o91 := (hb1.cell (p := ⟨g, 9, none⟩) hgW).trans c9; have o101 := (hb1.cell (p := ⟨g, 10, none⟩) hgW).trans c10; have z91 := (hb1.frozen (p := ⟨g, 9, none⟩) hgW).trans f9; have z101 := (hb1.frozen (p := ⟨g, 10, none⟩) hgW).trans f10))
  have hB2 := HW.out.trans (hb2.mono HW.out.size)
  have HS2 := Lib.hid (((HH.out.below hB2).store (s' := { s with a := Rg.place s.Z d }) 9 (.int .i64 (Rg.place s.Z d)) (fun _ => fx_setA _ _ _ _ _) (HH.out.ok.withA d)).store (s' := { s with a := Rg.place s.Z d, b := Rg.place s.Z t }) 10 (.int .i64 (Rg.place s.Z t)) (fun _ => fx_setB _ _ _ _ _) ((HH.out.ok.withA d).withB t))
  have HT2 : Hid (Touch (fun k => k = g) w ((x2.setCell ⟨g, 9, none⟩ (.int .i64 (Rg.place s.Z d))).setCell ⟨g, 10, none⟩ (.int .i64 (Rg.place s.Z t)))) := Lib.hid (((Touch.of_below (S := fun k => k = g) hB2).setCell (p := ⟨g, 9, none⟩) rfl _).setCell (p := ⟨g, 10, none⟩) rfl _)
  have k3 : ((x2.setCell ⟨g, 9, none⟩ (.int .i64 (Rg.place s.Z d))).setCell ⟨g, 10, none⟩ (.int .i64 (Rg.place s.Z t))).cell? ⟨w.heap.size, 0, none⟩ = some (.pointer (some ⟨g, 0, none⟩)) := (World.cell?_setCell_far _ _ _ _ hag).trans ((World.cell?_setCell_far _ _ _ _ hag).trans k2)
  clear hbox c0 c1 c9 c10 f9 f10 k1 o01 o11 o91 o101 z91 z101 o02 o12 o92 o102 z92 z102 k2 hb1 hb2 hq1 hq2 hB2 HW hla hgW
  generalize (x2.setCell ⟨g, 9, none⟩ (.int .i64 (Rg.place s.Z d))).setCell ⟨g, 10, none⟩ (.int .i64 (Rg.place s.Z t)) = W2 at HS2 HT2 k3 ⊢
  obtain ⟨a2, hblk2⟩ := HS2.out.blk
  have c9 : W2.cell? ⟨g, 9, none⟩ = some (.int .i64 (Rg.place s.Z d)) := hblk2.c9
  have c10 : W2.cell? ⟨g, 10, none⟩ = some (.int .i64 (Rg.place s.Z t)) := hblk2.c10
  clear hblk2
  by_cases hle : Rg.place s.Z t ≤ Rg.place s.Z d
  · have hd : decide (Rg.place s.Z t ≤ Rg.place s.Z d) = true := decide_eq_true hle
    have HS := Lib.hid (show s.span d t = { ({ s with a := Rg.place s.Z d, b := (s.Z : Int) } : Fs) with ph := .hdr } by unfold Fs.span; rw [if_pos hle])
    have HOK := Lib.hid ((HH.out.ok.withA d).withBZ)
    clear hle
    go_upto_region 2 with (fail)
    go_quiet (fail)
    go_upto_region 3 with (fail)
    obtain ⟨n1, hn1⟩ : ∃ n, n = nq := ⟨_, rfl⟩
    rw [← hn1]
    clear hn1
    have HS3 := Lib.hid (HS2.out.below (drewN_below W2 n1))
    have HT3 := Lib.hid (HT2.out.trans (Touch.of_below (drewN_below W2 n1)))
    have k4 : (W2.drewN n1).cell? ⟨w.heap.size, 0, none⟩ = some (.pointer (some ⟨g, 0, none⟩)) := k3
    generalize W2.drewN n1 = W3 at HS3 HT3 k4 ⊢
    clear c9 c10 k3 HS2 HT2
    obtain ⟨a3, hblk3⟩ := HS3.out.blk
    have c1 : W3.cell? ⟨g, 1, none⟩ = some (.int .i64 s.Z) := hblk3.c1
    have c10 : W3.cell? ⟨g, 10, none⟩ = some (.int .i64 (Rg.place s.Z t)) := hblk3.c10
    have f10 := hblk3.free 10
    clear hblk3
    go_region_held3 (fun w' => w'.cell? ⟨w.heap.size, 0, none⟩ = some (.pointer (some ⟨g, 0, none⟩)) ∧ w'.cell? ⟨g, 1, none⟩ = some (.int .i64 s.Z)) (simp [*, World.cell?_setCell_far, World.cell?_setCell_other]) (fail)
    have HS4 := Lib.hid ((HS3.out.store (s' := { s with a := Rg.place s.Z d, b := (s.Z : Int) }) 10 (.int .i64 s.Z) (fun _ => fx_setB _ _ _ _ _) HOK.out).below (Below.refl _ _).drew)
    have HTT := Lib.hid ((HT3.out.setCell (p := ⟨g, 10, none⟩) rfl (.int .i64 s.Z)).trans (Touch.of_below (Below.refl (W3.setCell ⟨g, 10, none⟩ (.int .i64 s.Z)).heap.size (W3.setCell ⟨g, 10, none⟩ (.int .i64 s.Z))).drew))
    have k5 : (W3.setCell ⟨g, 10, none⟩ (.int .i64 s.Z)).drew.cell? ⟨w.heap.size, 0, none⟩ = some (.pointer (some ⟨g, 0, none⟩)) := (World.cell?_setCell_far _ _ _ _ hag).trans k4
    clear c1 c10 f10 k4 HS3 HT3
    generalize (W3.setCell ⟨g, 10, none⟩ (.int .i64 s.Z)).drew = W at HS4 HTT k5 ⊢
    obtain ⟨a5, hblk5⟩ := HS4.out.blk
    have HB := Lib.hid hblk5
    have hbox := k5
    have c0 : W.cell? ⟨g, 0, none⟩ = some (.int .i64 s.B) := hblk5.c0
    have c1 : W.cell? ⟨g, 1, none⟩ = some (.int .i64 s.Z) := hblk5.c1
    have c9 : W.cell? ⟨g, 9, none⟩ = some (.int .i64 (Rg.place s.Z d)) := hblk5.c9
    have hla := lt_of_cell k5
    have hgW := hblk5.lt
    have HBR := Lib.hid (Below.refl W.heap.size W)
    clear hblk5 k5
    go_upto_region 4 with (fail)
    go_region_held3 (fun w' => w'.cell? ⟨w.heap.size, 0, none⟩ = some (.pointer (some ⟨g, 0, none⟩)) ∧ w'.cell? ⟨g, 0, none⟩ = some (.int .i64 s.B) ∧ w'.cell? ⟨g, 1, none⟩ = some (.int .i64 s.Z) ∧ w'.cell? ⟨g, 9, none⟩ = some (.int .i64 (Rg.place s.Z d))) (go_keep)
      (first
        | (go_at_call 27; refine (fxDo (HB.out.below hbl) ⟨1, Rg.spot s.B s.Z (Rg.place s.Z d), 8, 0, 0, []⟩ none 0 0 49 #[] #[.pointer (some ⟨w.heap.size, 0, none⟩)]).mono ?_; intro e wd has; have HAS := Lib.hid has; obtain ⟨rfl, hblkd, htd⟩ := has; have kd := (htd.cell (p := ⟨w.heap.size, 0, none⟩) (lt_of_cell k2) hga).trans k2; have o0d := hblkd.c0; have o1d := hblkd.c1; have o9d := hblkd.c9; clear hblkd)
        | (go_at_call 28; refine (stLoad (Rg.spot s.B s.Z (Rg.place s.Z d)) _).mono ?_; rintro e x2 ⟨rfl, hq2⟩; have hb2 := hb1.trans (hq2.mono hb1.size); have k2 := (hb2.cell (p := ⟨w.heap.size, 0, none⟩) hla).trans hbox; have o02 := (hb2.cell (p := ⟨g, 0, none⟩) hgW).trans c0; have o12 := (hb2.cell (p := ⟨g, 1, none⟩) hgW).trans c1; have o92 := (hb2.cell (p := ⟨g, 9, none⟩) hgW).trans c9; have hbl := HBR.out.trans (hb2.mono HBR.out.size))
        | (go_at_call 48; refine (rgAt HH.out.ok.rg (Rg.place s.Z d) _).mono ?_; rintro e x1 ⟨rfl, hq1⟩; have hb1 := below_drew hq1; have k1 := (hb1.cell (p := ⟨w.heap.size, 0, none⟩) hla).trans hbox; have o01 := (hb1.cell (p := ⟨g, 0, none⟩) hgW).trans c0; have o11 := (hb1.cell (p := ⟨g, 1, none⟩) hgW).trans c1; have o91 := (hb1.cell (p := ⟨g, 9, none⟩) hgW).trans c9))
    all_goals
      go_wp2
      go_end0
      obtain ⟨_, hbk, hT⟩ := HAS.out
      rw [HS.out]
      exact fx_put0 (s := { s with a := Rg.place s.Z d, b := (s.Z : Int) }) HH.out.own HOK.out .hdr (HTT.out.trans ((Touch.of_below (hbl.mono (Nat.le_refl _))).trans hT)) hbk rfl trivial ⟨w.heap.size, rfl, .inr ⟨Nat.le_refl _, lt_of_cell kd⟩, hga, kd⟩
  · have hd : decide (Rg.place s.Z t ≤ Rg.place s.Z d) = false := decide_eq_false hle
    have HS := Lib.hid (show s.span d t = { ({ s with a := Rg.place s.Z d, b := Rg.place s.Z t } : Fs) with ph := .hdr } by unfold Fs.span; rw [if_neg hle])
    have HOK := Lib.hid ((HH.out.ok.withA d).withB t)
    clear hle
    go_upto_region 2 with (fail)
    go_quiet (fail)
    go_upto_region 4 with (fail)
    obtain ⟨n1, hn1⟩ : ∃ n, n = nq := ⟨_, rfl⟩
    rw [← hn1]
    clear hn1
    have HS4 := Lib.hid (HS2.out.below (drewN_below W2 n1))
    have HTT := Lib.hid (HT2.out.trans (Touch.of_below (drewN_below W2 n1)))
    have k5 : (W2.drewN n1).cell? ⟨w.heap.size, 0, none⟩ = some (.pointer (some ⟨g, 0, none⟩)) := k3
    generalize W2.drewN n1 = W at HS4 HTT k5 ⊢
    clear c9 c10 k3 HS2 HT2
    obtain ⟨a5, hblk5⟩ := HS4.out.blk
    have HB := Lib.hid hblk5
    have hbox := k5
    have c0 : W.cell? ⟨g, 0, none⟩ = some (.int .i64 s.B) := hblk5.c0
    have c1 : W.cell? ⟨g, 1, none⟩ = some (.int .i64 s.Z) := hblk5.c1
    have c9 : W.cell? ⟨g, 9, none⟩ = some (.int .i64 (Rg.place s.Z d)) := hblk5.c9
    have hla := lt_of_cell k5
    have hgW := hblk5.lt
    have HBR := Lib.hid (Below.refl W.heap.size W)
    clear hblk5 k5
    go_region_held3 (fun w' => w'.cell? ⟨w.heap.size, 0, none⟩ = some (.pointer (some ⟨g, 0, none⟩)) ∧ w'.cell? ⟨g, 0, none⟩ = some (.int .i64 s.B) ∧ w'.cell? ⟨g, 1, none⟩ = some (.int .i64 s.Z) ∧ w'.cell? ⟨g, 9, none⟩ = some (.int .i64 (Rg.place s.Z d))) (go_keep)
      (first
        | (go_at_call 27; refine (fxDo (HB.out.below hbl) ⟨1, Rg.spot s.B s.Z (Rg.place s.Z d), 8, 0, 0, []⟩ none 0 0 49 #[] #[.pointer (some ⟨w.heap.size, 0, none⟩)]).mono ?_; intro e wd has; have HAS := Lib.hid has; obtain ⟨rfl, hblkd, htd⟩ := has; have kd := (htd.cell (p := ⟨w.heap.size, 0, none⟩) (lt_of_cell k2) hga).trans k2; have o0d := hblkd.c0; have o1d := hblkd.c1; have o9d := hblkd.c9; clear hblkd)
        | (go_at_call 28; refine (stLoad (Rg.spot s.B s.Z (Rg.place s.Z d)) _).mono ?_; rintro e x2 ⟨rfl, hq2⟩; have hb2 := hb1.trans (hq2.mono hb1.size); have k2 := (hb2.cell (p := ⟨w.heap.size, 0, none⟩) hla).trans hbox; have o02 := (hb2.cell (p := ⟨g, 0, none⟩) hgW).trans c0; have o12 := (hb2.cell (p := ⟨g, 1, none⟩) hgW).trans c1; have o92 := (hb2.cell (p := ⟨g, 9, none⟩) hgW).trans c9; have hbl := HBR.out.trans (hb2.mono HBR.out.size))
        | (go_at_call 48; refine (rgAt HH.out.ok.rg (Rg.place s.Z d) _).mono ?_; rintro e x1 ⟨rfl, hq1⟩; have hb1 := below_drew hq1; have k1 := (hb1.cell (p := ⟨w.heap.size, 0, none⟩) hla).trans hbox; have o01 := (hb1.cell (p := ⟨g, 0, none⟩) hgW).trans c0; have o11 := (hb1.cell (p := ⟨g, 1, none⟩) hgW).trans c1; have o91 := (hb1.cell (p := ⟨g, 9, none⟩) hgW).trans c9))
    all_goals
      go_wp2
      go_end0
      obtain ⟨_, hbk, hT⟩ := HAS.out
      rw [HS.out]
      exact fx_put0 (s := { s with a := Rg.place s.Z d, b := Rg.place s.Z t }) HH.out.own HOK.out .hdr (HTT.out.trans ((Touch.of_below (hbl.mono (Nat.le_refl _))).trans hT)) hbk rfl trivial ⟨w.heap.size, rfl, .inr ⟨Nat.le_refl _, lt_of_cell kd⟩, hga, kd⟩

end Go.Proofs.YtaomkamdfbibbaaGreat
namespace Go.Proofs.YtaomkamdfbibbaaGreat
open Go.RowKit

theorem fx_capt {w w' : World} {F : Nat → Prop} {g a : Nat} {v : Value} (h : Capt w F g a v) (hb : Below w.heap.size w w') : w'.cell? ⟨a, 0, none⟩ = some v := (hb.cell (p := ⟨a, 0, none⟩) (lt_of_cell h.2.2)).trans h.2.2

set_option maxRecDepth 100000 in
set_option maxHeartbeats 800000 in
theorem fxBegin1 {w : World} {F : Nat → Prop} {g : Nat} {s : Fs} (h : FxBare w F g s) {a : Nat} (ha : Capt w F g a (.pointer (some ⟨g, 0, none⟩))) (V : Nat) (D : Bool) (A : Option Addr) (L cp : Nat) (hV : V < 18446744073709551616) :
    Calls Tryz.prog 30 #[.agg #[.int .u64 V, .bool D, .slice A L cp], .pointer (some ⟨a, 0, none⟩)] w (FxMoved F g { s with ph := .tail V } w) := by
  obtain ⟨a0, hblk⟩ := h.blk
  have hgl := hblk.lt
  have HH := Lib.hid h
  have HB := Lib.hid hblk
  have hb0 := (Below.refl w.heap.size w).alloc (Nat.le_refl _) (.cells #[.int .u64 V, .bool D, .slice A L cp] 37)
  have hx := Go.Deep.blk_alloc_new w (.cells #[.int .u64 V, .bool D, .slice A L cp] 37)
  have hsz : (w.alloc (.cells #[.int .u64 V, .bool D, .slice A L cp] 37)).heap.size = w.heap.size + 1 := by simp
  have c0 := (hb0.cell (p := ⟨g, 0, none⟩) hgl).trans hblk.c0
  have c1 := (hb0.cell (p := ⟨g, 1, none⟩) hgl).trans hblk.c1
  have hk := fx_capt ha hb0
  have HW := Lib.hid hb0
  have HA := Lib.hid ha
  have HV := Lib.hid hV
  have hag : ¬ a = g := ha.2.1
  clear h hblk hb0 ha hV
  go_enter Tryz.func30, Tryz.ntmps30
  go_upto_region 1 with (fail)
  generalize w.alloc (.cells #[.int .u64 V, .bool D, .slice A L cp] 37) = W at hx HW hsz c0 c1 hk ⊢
  have hm : W.cell? ⟨w.heap.size, 0, none⟩ = some (.int .u64 V) := by simp [World.cell?, hx]
  have hmg : ¬ w.heap.size = g := by omega
  have hla : w.heap.size < W.heap.size := by omega
  have hgW : g < W.heap.size := by omega
  have hka := lt_of_cell hk
  clear hsz hx
  go_region_held3 (fun w' => w'.cell? ⟨a, 0, none⟩ = some (.pointer (some ⟨g, 0, none⟩)) ∧ w'.cell? ⟨w.heap.size, 0, none⟩ = some (.int .u64 V) ∧ w'.cell? ⟨g, 0, none⟩ = some (.int .i64 s.B) ∧ w'.cell? ⟨g, 1, none⟩ = some (.int .i64 s.Z)) (go_keep)
    (first
      | (go_at_call 27; refine (fxDo (HB.out.below hbl) ⟨1, Rg.num s.B s.Z 0, 8, 0, 0, []⟩ none 0 0 32 #[] #[.pointer (some ⟨w.heap.size, 0, none⟩), .pointer (some ⟨a, 0, none⟩)]).mono ?_; intro e wd has; have HAS := Lib.hid has; obtain ⟨rfl, hblkd, htd⟩ := has; have kd := (htd.cell (p := ⟨a, 0, none⟩) (lt_of_cell k2) hag).trans k2; have md := (htd.cell (p := ⟨w.heap.size, 0, none⟩) (lt_of_cell m2) hmg).trans m2; have o0d := hblkd.c0; have o1d := hblkd.c1; clear hblkd)
      | (go_at_call 28; refine (stLoad (Rg.num s.B s.Z 0) _).mono ?_; rintro e x2 ⟨rfl, hq2⟩; have hb2 := hb1.trans (hq2.mono hb1.size); have k2 := (hb2.cell (p := ⟨a, 0, none⟩) hka).trans hk; have m2 := (hb2.cell (p := ⟨w.heap.size, 0, none⟩) hla).trans hm; have o02 := (hb2.cell (p := ⟨g, 0, none⟩) hgW).trans c0; have o12 := (hb2.cell (p := ⟨g, 1, none⟩) hgW).trans c1; have hbl := HW.out.trans (hb2.mono HW.out.size))
      | (go_at_call 31; refine (rgTail HH.out.ok.rg _).mono ?_; rintro e x1 ⟨rfl, hq1⟩; have hb1 := below_drew hq1; have k1 := (hb1.cell (p := ⟨a, 0, none⟩) hka).trans hk; have m1 := (hb1.cell (p := ⟨w.heap.size, 0, none⟩) hla).trans hm; have o01 := (hb1.cell (p := ⟨g, 0, none⟩) hgW).trans c0; have o11 := (hb1.cell (p := ⟨g, 1, none⟩) hgW).trans c1))
  all_goals
    go_wp2
    go_end0
    obtain ⟨_, hbk, hT⟩ := HAS.out
    exact fx_put HH.out (.tail V) ((Touch.of_below hbl).trans hT) hbk rfl HV.out ⟨w.heap.size, a, rfl, ⟨.inr ⟨Nat.le_refl _, lt_of_cell md⟩, hmg, md⟩, .inl HA.out.1, hag, kd⟩

set_option maxRecDepth 100000 in
set_option maxHeartbeats 800000 in
theorem fxBegin11Yes {w : World} {F : Nat → Prop} {g : Nat} {s : Fs} (h : FxBare w F g s) {a b d : Nat} (hb : Capt w F g b (.int .u64 d)) (ha : Capt w F g a (.pointer (some ⟨g, 0, none⟩))) (V : Nat) (D : Bool) (A : Option Addr) (L cp : Nat) (hVd : V = d) :
    Calls Tryz.prog 32 #[.agg #[.int .u64 V, .bool D, .slice A L cp], .pointer (some ⟨b, 0, none⟩), .pointer (some ⟨a, 0, none⟩)] w (FxMoved F g { s with ph := .fin } w) := by
  have HH := Lib.hid h
  have hb0 := (Below.refl w.heap.size w).alloc (Nat.le_refl _) (.cells #[.int .u64 V, .bool D, .slice A L cp] 37)
  have hx := Go.Deep.blk_alloc_new w (.cells #[.int .u64 V, .bool D, .slice A L cp] 37)
  have hk := fx_capt ha hb0
  have hm := fx_capt hb hb0
  have HW := Lib.hid hb0
  have hd : ((V : Int) != (d : Int)) = false := by subst hVd; simp
  clear h hb0 ha hb hVd
  go_enter Tryz.func32, Tryz.ntmps32
  go_upto_region 1 with (fail)
  generalize w.alloc (.cells #[.int .u64 V, .bool D, .slice A L cp] 37) = W at hx HW hk hm ⊢
  have x0 : W.cell? ⟨w.heap.size, 0, none⟩ = some (.int .u64 V) := by simp [World.cell?, hx]
  clear hx
  go_wp2
  go_end0
  exact fx_done ((HH.out.below HW.out).withPh .fin) (Touch.of_below HW.out) rfl

set_option maxRecDepth 100000 in
set_option maxHeartbeats 800000 in
theorem fxBegin11No {w : World} {F : Nat → Prop} {g : Nat} {s : Fs} (h : FxBare w F g s) {a b d : Nat} (hb : Capt w F g b (.int .u64 d)) (ha : Capt w F g a (.pointer (some ⟨g, 0, none⟩))) (V : Nat) (D : Bool) (A : Option Addr) (L cp : Nat) (hVd : V ≠ d) :
    Calls Tryz.prog 32 #[.agg #[.int .u64 V, .bool D, .slice A L cp], .pointer (some ⟨b, 0, none⟩), .pointer (some ⟨a, 0, none⟩)] w (FxMoved F g (s.span (Rs.wr d) (Rs.wr V)) w) := by
  have HH := Lib.hid h
  have hb0 := (Below.refl w.heap.size w).alloc (Nat.le_refl _) (.cells #[.int .u64 V, .bool D, .slice A L cp] 37)
  have hx := Go.Deep.blk_alloc_new w (.cells #[.int .u64 V, .bool D, .slice A L cp] 37)
  have hk := fx_capt ha hb0
  have hm := fx_capt hb hb0
  have HW := Lib.hid hb0
  have hd : ((V : Int) != (d : Int)) = true := by simp; omega
  have HC := Lib.hid (fxSpan (h.below hb0) (wrap64 d) (wrap64 V))
  clear h hb0 ha hb hVd
  go_enter Tryz.func32, Tryz.ntmps32
  go_upto_region 1 with (fail)
  generalize w.alloc (.cells #[.int .u64 V, .bool D, .slice A L cp] 37) = W at hx HW hk hm HC ⊢
  have x0 : W.cell? ⟨w.heap.size, 0, none⟩ = some (.int .u64 V) := by simp [World.cell?, hx]
  clear hx
  go_wp2_with (go_at_call 33; refine HC.out.mono ?_; intro e w3 hm; have HM := Lib.hid hm; obtain ⟨rfl, _⟩ := hm)
  go_end0
  exact HM.out.afterT (Touch.of_below HW.out)

set_option maxRecDepth 100000 in
set_option maxHeartbeats 800000 in
theorem fxSpan1 {w : World} {F : Nat → Prop} {g : Nat} {s : Fs} (h : FxBare w F g s) {a : Nat} (ha : Capt w F g a (.pointer (some ⟨g, 0, none⟩))) (V : Nat) (D : Bool) (A : Option Addr) (L cp : Nat) :
    Calls Tryz.prog 49 #[.agg #[.int .u64 V, .bool D, .slice A L cp], .pointer (some ⟨a, 0, none⟩)] w (FxMoved F g (s.judge (Hd.s32 V)) w) := by
  have hb0 := (Below.refl w.heap.size w).alloc (Nat.le_refl _) (.cells #[.int .u64 V, .bool D, .slice A L cp] 37)
  have hx := Go.Deep.blk_alloc_new w (.cells #[.int .u64 V, .bool D, .slice A L cp] 37)
  have hk := fx_capt ha hb0
  have HW := Lib.hid hb0
  have HC := Lib.hid (fxJudge (h.below hb0) (Hd.s32 V) (Hd.s32_bounds _))
  clear h hb0 ha
  go_enter Tryz.func49, Tryz.ntmps49
  go_upto_region 1 with (fail)
  generalize w.alloc (.cells #[.int .u64 V, .bool D, .slice A L cp] 37) = W at hx HW hk HC ⊢
  have x0 : W.cell? ⟨w.heap.size, 0, none⟩ = some (.int .u64 V) := by simp [World.cell?, hx]
  clear hx
  go_wp2_with (first
    | (go_at_call 50; refine (split_any V _).mono ?_; rintro e w2 ⟨rfl, rfl⟩)
    | (go_at_call 51; refine HC.out.mono ?_; intro e w3 hm; have HM := Lib.hid hm; obtain ⟨rfl, _⟩ := hm))
  go_end0
  exact HM.out.afterT (Touch.of_below HW.out)

set_option maxRecDepth 100000 in
set_option maxHeartbeats 800000 in
theorem fxLook1 {w : World} {c : Nat} {k : FuncId} {caps : Array Value} (hc : w.cell? ⟨c, 0, none⟩ = some (.func (.func k) #[] caps)) (V : Nat) (D : Bool) (A : Option Addr) (L cp : Nat) (q : Bool) (hq : ((V : Int) % 4294967296 == 0) = q) {Q : World → Prop}
    (args : Array Value) (hargs : (#[.bool q] : Array Value) ++ caps = args) (hent : ∀ w, (callFunc k args).run Tryz.prog w = .ok (.enter k args) w)
    (H : ∀ W, Below w.heap.size w W → Calls Tryz.prog k args W fun e w' => e = .returned (.tuple #[]) ∧ Q w') :
    Calls Tryz.prog 105 #[.agg #[.int .u64 V, .bool D, .slice A L cp], .pointer (some ⟨c, 0, none⟩)] w fun e w' => e = .returned (.tuple #[]) ∧ Q w' := by
  have hb0 := (Below.refl w.heap.size w).alloc (Nat.le_refl _) (.cells #[.int .u64 V, .bool D, .slice A L cp] 37)
  have hx := Go.Deep.blk_alloc_new w (.cells #[.int .u64 V, .bool D, .slice A L cp] 37)
  have hk := (hb0.cell (p := ⟨c, 0, none⟩) (lt_of_cell hc)).trans hc
  have HC := Lib.hid (H _ hb0)
  have hq2 : (IntKind.u32.wrap (V : Int) == 0) = q := by rw [Hd.u32_wrap]; exact hq
  clear hb0 hc H
  go_enter Tryz.func105, Tryz.ntmps105
  go_upto_region 1 with (fail)
  generalize w.alloc (.cells #[.int .u64 V, .bool D, .slice A L cp] 37) = W at hx HC hk ⊢
  have x0 : W.cell? ⟨w.heap.size, 0, none⟩ = some (.int .u64 V) := by simp [World.cell?, hx]
  have he : (callFunc k (#[.bool q] ++ caps)).run Tryz.prog W = .ok (.enter k args) W := by rw [hargs]; exact hent W
  clear hx
  go_wp2_with fail
  refine HC.out.mono ?_
  rintro e w2 ⟨rfl, hq⟩
  go_wp2_with fail
  go_end0
  exact ⟨rfl, hq⟩

set_option maxRecDepth 100000 in
set_option maxHeartbeats 800000 in
theorem fxAhead1Yes {w : World} {F : Nat → Prop} {g : Nat} {s : Fs} (h : FxBare w F g s) {a b d : Nat} {q : Int} (hq : 0 ≤ q ∧ q ≤ s.Z) (ha : Capt w F g a (.pointer (some ⟨g, 0, none⟩))) (hb : Capt w F g b (.int .i64 q)) (hd : Capt w F g d (.func (.func 71) #[.pointer (some ⟨g, 0, none⟩)] #[])) :
    Calls Tryz.prog 86 #[.bool true, .pointer (some ⟨a, 0, none⟩), .pointer (some ⟨b, 0, none⟩), .pointer (some ⟨d, 0, none⟩)] w (FxMoved F g (s.ahead (q + 8)) w) := by
  have k0 := ha.2.2
  have k1 := hb.2.2
  have k2 := hd.2.2
  have hz := h.ok.rg.z1
  have e1 : IntKind.i64.wrap (q + 8) = q + 8 := IntWalk.i64_in _ (by omega)
  have HC := Lib.hid (fxAhead h (q + 8) (by omega))
  clear h ha hb hd hq hz
  go_enter Tryz.func86, Tryz.ntmps86
  go_wp2_with (go_at_call 70; refine HC.out.mono ?_; intro e w3 hm; have HM := Lib.hid hm; obtain ⟨rfl, _⟩ := hm)
  go_end0
  exact HM.out

set_option maxRecDepth 100000 in
set_option maxHeartbeats 800000 in
theorem fxAhead1No {w : World} {F : Nat → Prop} {g : Nat} {s : Fs} (h : FxBare w F g s) {a b d : Nat} {q : Int} (hq : 0 ≤ q ∧ q ≤ s.Z) (ha : Capt w F g a (.pointer (some ⟨g, 0, none⟩))) (hb : Capt w F g b (.int .i64 q)) (hd : Capt w F g d (.func (.func 71) #[.pointer (some ⟨g, 0, none⟩)] #[])) :
    Calls Tryz.prog 86 #[.bool false, .pointer (some ⟨a, 0, none⟩), .pointer (some ⟨b, 0, none⟩), .pointer (some ⟨d, 0, none⟩)] w (FxMoved F g (({ s with m := q } : Fs).back q) w) := by
  have k0 := ha.2.2
  have k1 := hb.2.2
  have k2 := hd.2.2
  have hga : ¬ g = a := fun e => ha.2.1 e.symm
  have hgb : ¬ g = b := fun e => hb.2.1 e.symm
  have hgd : ¬ g = d := fun e => hd.2.1 e.symm
  obtain ⟨a0, hblk⟩ := h.blk
  have c11 := hblk.c11
  have f11 := hblk.free 11
  have HS := Lib.hid (h.store (s' := { s with m := q }) 11 (.int .i64 q) (fun _ => fx_setM _ _ _ _ _) ⟨h.ok.rg, h.ok.a0, h.ok.b0, hq, h.ok.n0⟩)
  have HT : Hid (Touch (fun k => k = g) w (w.setCell ⟨g, 11, none⟩ (.int .i64 q))) := Lib.hid ((Touch.refl (fun k => k = g) w).setCell (p := ⟨g, 11, none⟩) rfl _)
  have HC := Lib.hid (fxBack HS.out q hq)
  have k1' : (w.setCell ⟨g, 11, none⟩ (.int .i64 q)).cell? ⟨b, 0, none⟩ = some (.int .i64 q) := (World.cell?_setCell_far _ _ _ _ hgb).trans k1
  have k2' : (w.setCell ⟨g, 11, none⟩ (.int .i64 q)).cell? ⟨d, 0, none⟩ = some (.func (.func 71) #[.pointer (some ⟨g, 0, none⟩)] #[]) := (World.cell?_setCell_far _ _ _ _ hgd).trans k2
  clear h ha hb hd hq hblk
  go_enter Tryz.func86, Tryz.ntmps86
  go_upto_region 2 with (fail)
  go_upto_region 3 with (fail)
  clear k0 k1 k2 c11 f11
  generalize w.setCell ⟨g, 11, none⟩ (.int .i64 q) = W2 at HS HT HC k1' k2' ⊢
  go_wp2_with (go_at_call 71; refine HC.out.mono ?_; intro e w3 hm; have HM := Lib.hid hm; obtain ⟨rfl, _⟩ := hm)
  go_end0
  exact HM.out.afterT HT.out

set_option maxRecDepth 100000 in
set_option maxHeartbeats 800000 in
theorem fxBack1Yes {w : World} {F : Nat → Prop} {g : Nat} {s : Fs} (h : FxBare w F g s) {a b : Nat} {q : Int} (hq : 0 ≤ q ∧ q ≤ s.Z) (ha : Capt w F g a (.pointer (some ⟨g, 0, none⟩))) (hb : Capt w F g b (.int .i64 q)) :
    Calls Tryz.prog 87 #[.bool true, .pointer (some ⟨a, 0, none⟩), .pointer (some ⟨b, 0, none⟩)] w (FxMoved F g (s.back q) w) := by
  have k0 := ha.2.2
  have k1 := hb.2.2
  have HC := Lib.hid (fxBack h q hq)
  clear h ha hb hq
  go_enter Tryz.func87, Tryz.ntmps87
  go_wp2_with (go_at_call 71; refine HC.out.mono ?_; intro e w3 hm; have HM := Lib.hid hm; obtain ⟨rfl, _⟩ := hm)
  go_end0
  exact HM.out

set_option maxRecDepth 100000 in
set_option maxHeartbeats 800000 in
theorem fxBack1No {w : World} {F : Nat → Prop} {g : Nat} {s : Fs} (h : FxBare w F g s) (a b : Nat) :
    Calls Tryz.prog 87 #[.bool false, .pointer (some ⟨a, 0, none⟩), .pointer (some ⟨b, 0, none⟩)] w (FxMoved F g { s with ph := .fin } w) := by
  have HH := Lib.hid h
  clear h
  go_enter Tryz.func87, Tryz.ntmps87
  go_wp2
  go_end0
  exact fx_done (HH.out.withPh .fin) (Touch.refl _ _) rfl

set_option maxRecDepth 100000 in
set_option maxHeartbeats 800000 in
theorem fxPad1 {w : World} {F : Nat → Prop} {g : Nat} {s : Fs} (h : FxBare w F g s) {a b : Nat} {n : Int} (hn : -8192 ≤ n ∧ n ≤ 8192) (hb : Capt w F g b (.int .i32 n)) (ha : Capt w F g a (.pointer (some ⟨g, 0, none⟩))) (V : Nat) (D : Bool) (A : Option Addr) (L cp : Nat) :
    Calls Tryz.prog 89 #[.agg #[.int .u64 V, .bool D, .slice A L cp], .pointer (some ⟨b, 0, none⟩), .pointer (some ⟨a, 0, none⟩)] w (FxMoved F g { s with n := n, ph := .fin } w) := by
  have hb0 := (Below.refl w.heap.size w).alloc (Nat.le_refl _) (.cells #[.int .u64 V, .bool D, .slice A L cp] 37)
  have k0 := fx_capt ha hb0
  have k1 := fx_capt hb hb0
  have HH := Lib.hid (h.below hb0)
  obtain ⟨a0, hblk⟩ := HH.out.blk
  have c12 := hblk.c12
  have f12 := hblk.free 12
  have HW := Lib.hid hb0
  have HN := Lib.hid hn
  clear h ha hb hn hblk hb0
  go_enter Tryz.func89, Tryz.ntmps89
  go_upto_region 1 with (fail)
  generalize w.alloc (.cells #[.int .u64 V, .bool D, .slice A L cp] 37) = W at HH HW k0 k1 c12 f12 ⊢
  go_wp2
  go_end0
  exact fx_done ((HH.out.store (s' := { s with n := n }) 12 (.int .i32 n) (fun _ => fx_setN _ _ _ _ _) ⟨HH.out.ok.rg, HH.out.ok.a0, HH.out.ok.b0, HH.out.ok.m0, HN.out⟩).withPh .fin) ((Touch.of_below (S := fun k => k = g) HW.out).setCell (p := ⟨g, 12, none⟩) rfl _) rfl

end Go.Proofs.YtaomkamdfbibbaaGreat
namespace Go.Proofs.YtaomkamdfbibbaaGreat
open Go.RowKit

/-- May a ring be? -/
def Rg.right (B Z : Int) : Prop := Wd.isP Z = true ∧ 64 ≤ Z ∧ Z ≤ 8192 ∧ 0 ≤ B ∧ B ≤ 131072 - Z - 32 ∧ B % 8 = 0
instance (B Z : Int) : Decidable (Rg.right B Z) := by unfold Rg.right; infer_instance

set_option maxRecDepth 100000 in
set_option maxHeartbeats 800000 in
theorem rpCheck (B Z : Int) (hB : -9223372036854775808 ≤ B ∧ B ≤ 9223372036854775807) (hZ : -9223372036854775808 ≤ Z ∧ Z ≤ 9223372036854775807) (w : World) :
    Calls Tryz.prog 15 #[.agg #[.int .i64 B, .int .i64 Z]] w (Made (.int .i64 (if Rg.right B Z then 0 else 1)) w) := by
  have hb0 := un_below w (.int .i64 B) (.int .i64 Z) 23
  have hx := Go.Deep.blk_alloc_new w (.cells #[.int .i64 B, .int .i64 Z] 23)
  obtain ⟨q, hq⟩ : ∃ q : Int, q = (if Rg.right B Z then 0 else 1) := ⟨_, rfl⟩
  rw [← hq]
  have HQ := Lib.hid hq
  clear hq
  go_enter Tryz.func15, Tryz.ntmps15
  go_upto_region 1 with (fail)
  generalize w.alloc (.cells #[.int .i64 B, .int .i64 Z] 23) = W at hb0 hx ⊢
  have x0 : W.cell? ⟨w.heap.size, 0, none⟩ = some (.int .i64 B) := by simp [World.cell?, hx]
  have x1 : W.cell? ⟨w.heap.size, 1, none⟩ = some (.int .i64 Z) := by simp [World.cell?, hx]
  clear hx
  cases hp : Wd.isP Z with
  | false =>
    have HP := Lib.hid hp
    clear hp
    go_wp2_with (go_at_call 26; refine (isPower_any Z _ (by omega) (by omega)).mono ?_; rintro e w2 ⟨rfl, rfl⟩; rw [HP.out])
    all_goals
      go_ret
      refine ⟨?_, hb0⟩
      rw [HQ.out, if_neg (fun h => by have := h.1; rw [HP.out] at this; cases this)]
      rfl
  | true =>
    have HP := Lib.hid hp
    clear hp
    go_wp2_with (go_at_call 26; refine (isPower_any Z _ (by omega) (by omega)).mono ?_; rintro e w2 ⟨rfl, rfl⟩; rw [HP.out])
    all_goals
      go_ret
      refine ⟨?_, hb0⟩
      rw [HQ.out]
      simp only [bne_eq_false_iff_eq, bne_iff_ne, ne_eq] at *
      first
        | (rw [if_pos ⟨HP.out, by omega, by omega, by omega, by omega, by omega⟩]; rfl)
        | (rw [if_neg (fun ⟨_, _, _, _, _, _⟩ => by omega)]; rfl)

theorem rp_need_aux (n : Nat) (h : n ≤ 131072) : sz (n : Int) 8 8 = 8 * (((n + 15) / 8 : Nat) : Int) := by
  unfold sz szOk Wd.al Wd.alOk
  have h1 : decide (0 ≤ (n : Int)) = true := by simp
  have h2 : decide ((n : Int) ≤ 131072) = true := by simp; omega
  have h3 : Wd.isP 8 = true := by decide
  have h4 : decide (0 ≤ (8 : Int) + n) = true := by simp; omega
  have h5 : decide ((8 : Int) + n ≤ 4611686018427387904) = true := by simp; omega
  rw [h1, h2, h3, h4, h5]
  simp only [Bool.and_self, if_true]
  omega

/-- A put was made: it stands in new memory. -/
def NewIs (m : Pm) (w : World) (e : Ending) (w' : World) : Prop :=
  ∃ g, e = .returned (.pointer (some ⟨g, 0, none⟩)) ∧ PmAt w' (fun k => w.heap.size ≤ k ∧ k < w'.heap.size) g m ∧ Below w.heap.size w w'

/-- The put that is made. -/
def Pm.new (B Z typ : Int) (f : Nat → Nat) (L : Nat) : Pm :=
  if ¬ Rg.right B Z ∨ typ < 1 then .dead 0 0 else if Z < 8 * (L : Int) then .dead Z 4 else .live ⟨B.toNat, Z.toNat, typ, f, L, 0, 0, 0, false, .ask, 0⟩

theorem new_dead (w W : World) (hb : Below w.heap.size w W) (B Z er : Int) : NewIs (.dead Z er) w (.returned (.pointer (some ⟨W.heap.size, 0, none⟩))) (W.alloc (.cells (PxCells B Z er) 80)) :=
  ⟨W.heap.size, rfl, ⟨⟨hb.size, by simp⟩, B, Go.Deep.blk_alloc_new _ _⟩, hb.alloc hb.size _⟩

set_option maxRecDepth 100000 in
set_option maxHeartbeats 800000 in
theorem rpNewBad (B Z typ : Int) (hB : -9223372036854775808 ≤ B ∧ B ≤ 9223372036854775807) (hZ : -9223372036854775808 ≤ Z ∧ Z ≤ 9223372036854775807) (hbad : ¬ Rg.right B Z) (A : Option Addr) (L c : Nat) (w : World) :
    Calls Tryz.prog 14 #[.agg #[.int .i64 B, .int .i64 Z], .int .i32 typ, .slice A L c] w (NewIs (.dead 0 0) w) := by
  have hb0 := un_below w (.int .i64 B) (.int .i64 Z) 23
  have hx := Go.Deep.blk_alloc_new w (.cells #[.int .i64 B, .int .i64 Z] 23)
  have HBZ := Lib.hid (And.intro hB hZ)
  have HN := Lib.hid hbad
  clear hB hZ hbad
  go_enter Tryz.func14, Tryz.ntmps14
  go_upto_region 1 with (fail)
  generalize w.alloc (.cells #[.int .i64 B, .int .i64 Z] 23) = W at hb0 hx ⊢
  have x0 : W.cell? ⟨w.heap.size, 0, none⟩ = some (.int .i64 B) := by simp [World.cell?, hx]
  have x1 : W.cell? ⟨w.heap.size, 1, none⟩ = some (.int .i64 Z) := by simp [World.cell?, hx]
  clear hx
  go_wp2_with (go_at_call 15; refine (rpCheck B Z HBZ.out.1 HBZ.out.2 W).mono ?_; rintro e w2 ⟨rfl, hb⟩; rw [if_neg HN.out])
  go_ret
  exact new_dead w w2 (hb0.trans (hb.mono hb0.size)) 0 0 0

set_option maxRecDepth 100000 in
set_option maxHeartbeats 800000 in
theorem rpNewTyp (B Z typ : Int) (hB : -9223372036854775808 ≤ B ∧ B ≤ 9223372036854775807) (hZ : -9223372036854775808 ≤ Z ∧ Z ≤ 9223372036854775807) (hok : Rg.right B Z) (htyp : typ < 1) (A : Option Addr) (L c : Nat) (w : World) :
    Calls Tryz.prog 14 #[.agg #[.int .i64 B, .int .i64 Z], .int .i32 typ, .slice A L c] w (NewIs (.dead 0 0) w) := by
  have hb0 := un_below w (.int .i64 B) (.int .i64 Z) 23
  have hx := Go.Deep.blk_alloc_new w (.cells #[.int .i64 B, .int .i64 Z] 23)
  have HBZ := Lib.hid (And.intro hB hZ)
  have HN := Lib.hid hok
  have hd : decide (typ < 1) = true := by simpa using htyp
  clear hB hZ hok
  go_enter Tryz.func14, Tryz.ntmps14
  go_upto_region 1 with (fail)
  generalize w.alloc (.cells #[.int .i64 B, .int .i64 Z] 23) = W at hb0 hx ⊢
  have x0 : W.cell? ⟨w.heap.size, 0, none⟩ = some (.int .i64 B) := by simp [World.cell?, hx]
  have x1 : W.cell? ⟨w.heap.size, 1, none⟩ = some (.int .i64 Z) := by simp [World.cell?, hx]
  clear hx
  go_wp2_with (go_at_call 15; refine (rpCheck B Z HBZ.out.1 HBZ.out.2 W).mono ?_; rintro e w2 ⟨rfl, hb⟩; rw [if_pos HN.out])
  go_ret
  exact new_dead w w2 (hb0.trans (hb.mono hb0.size)) 0 0 0

set_option maxRecDepth 100000 in
set_option maxHeartbeats 800000 in
theorem rpNewLong (B Z typ : Int) (hB : -9223372036854775808 ≤ B ∧ B ≤ 9223372036854775807) (hZ : -9223372036854775808 ≤ Z ∧ Z ≤ 9223372036854775807) (hok : Rg.right B Z) (htyp : ¬ typ < 1) (A : Option Addr) (L c : Nat) (hlong : Z < 8 * (L : Int)) (w : World) :
    Calls Tryz.prog 14 #[.agg #[.int .i64 B, .int .i64 Z], .int .i32 typ, .slice A L c] w (NewIs (.dead Z 4) w) := by
  have hb0 := un_below w (.int .i64 B) (.int .i64 Z) 23
  have hx := Go.Deep.blk_alloc_new w (.cells #[.int .i64 B, .int .i64 Z] 23)
  have HBZ := Lib.hid (And.intro hB hZ)
  have HN := Lib.hid hok
  have hd : decide (typ < 1) = false := by simpa using htyp
  have hz0 : 64 ≤ Z := hok.2.1
  have hz1 : Z ≤ 8192 := hok.2.2.1
  have hdl : Z / 8 < (L : Int) := by omega
  have hdd : decide (Z / 8 < (L : Int)) = true := by simpa using hdl
  clear hB hZ hok htyp hlong
  go_enter Tryz.func14, Tryz.ntmps14
  go_upto_region 1 with (fail)
  generalize w.alloc (.cells #[.int .i64 B, .int .i64 Z] 23) = W at hb0 hx ⊢
  have x0 : W.cell? ⟨w.heap.size, 0, none⟩ = some (.int .i64 B) := by simp [World.cell?, hx]
  have x1 : W.cell? ⟨w.heap.size, 1, none⟩ = some (.int .i64 Z) := by simp [World.cell?, hx]
  have hlx := (Array.getElem?_eq_some_iff.1 hx).1
  clear hx
  go_wp2_with (go_at_call 15; refine (rpCheck B Z HBZ.out.1 HBZ.out.2 W).mono ?_; rintro e w2 ⟨rfl, hb⟩; rw [if_pos HN.out]; have y0 := (hb.cell (p := ⟨w.heap.size, 0, none⟩) hlx).trans x0; have y1 := (hb.cell (p := ⟨w.heap.size, 1, none⟩) hlx).trans x1)
  go_ret
  exact new_dead w w2 (hb0.trans (hb.mono hb0.size)) B Z 4

/-- The block of a put that is made. -/
theorem rp_made {w w4 W5 : World} {B Z typ : Int} {A4 : Option Addr} {L c4 base : Nat} {f : Nat → Nat}
    (hW5 : W5 = w4.alloc (.cells #[.int .i64 B, .int .i64 Z, .int .i32 typ, .slice A4 L c4, .int .i64 (8 * (((L : Int) + 15) / 8)), .int .i64 0, .int .i64 0, .int .i64 0, .int .u64 0, .int .u64 0, .slice none 0 0, .nilFunc, .int .i64 0, .int .i64 0, .int .i64 0, .bool false, .int .i64 0] 80))
    (hb : Below w.heap.size w w4) (hbase : w.heap.size ≤ base) (hr : Rg.right B Z) (ht : 1 ≤ typ) (ht2 : typ ≤ 2147483647) (hfew : 8 * (L : Int) ≤ Z) (hf : Mb.IsB f) (ho : Owns base w4 (.slice A4 L c4) (Mb.bl f 0 L)) :
    RpBare W5 (fun k => w.heap.size ≤ k ∧ k < W5.heap.size) w4.heap.size ⟨B.toNat, Z.toNat, typ, f, L, 0, 0, 0, false, .ask, 0⟩ (.slice A4 L c4) := by
  obtain ⟨h1, h2, h3, h4, h5, h6⟩ := hr
  have hB : ((B.toNat : Nat) : Int) = B := Int.toNat_of_nonneg h4
  have hZ : ((Z.toNat : Nat) : Int) = Z := Int.toNat_of_nonneg (by omega)
  have hsz : W5.heap.size = w4.heap.size + 1 := by rw [hW5]; simp
  have hbl : Below w4.heap.size w4 W5 := by rw [hW5]; exact (Below.refl _ _).alloc (Nat.le_refl _) _
  have ho5 := (BytesIn.of_own ho).lt.below hbl
  have hc : L ≤ c4 ∧ c4 ≤ 9223372036854775807 := by
    obtain ⟨_, e | ⟨g, cap, cur, e, _, _, e2, e3, _⟩⟩ := ho
    · obtain ⟨e1, e2⟩ := e
      injection e1 with _ e3 e4
      omega
    · injection e with _ e4 e5
      unfold maxLen at e3
      omega
  refine ⟨⟨Ac.zero, .slice none 0 0, ?_⟩, ⟨hb.size, by omega⟩, ⟨by rw [← h1, hZ], by simp only; omega, by simp only; omega, by simp only; omega, by simp only; omega, ht, ht2, by simp only; omega, hf, by simp only; omega, by simp only; omega, by simp only; omega⟩, ⟨A4, c4, rfl, hc.1, hc.2⟩, ho5.mono fun k hk _ => ⟨⟨by omega, by omega⟩, by omega⟩⟩
  unfold RpBlk
  rw [hW5, Go.Deep.blk_alloc_new]
  have hn : (8 * (((L + 15) / 8 : Nat) : Int)) = 8 * (((L : Int) + 15) / 8) := by omega
  simp only [RpCells, Rs.need, hB, hZ, hn, Ac.zero]
  rfl

set_option maxRecDepth 100000 in
set_option maxHeartbeats 800000 in
theorem rpNewOk (B Z typ : Int) (hB : -9223372036854775808 ≤ B ∧ B ≤ 9223372036854775807) (hZ : -9223372036854775808 ≤ Z ∧ Z ≤ 9223372036854775807) (hok : Rg.right B Z) (htyp : ¬ typ < 1) (htyp2 : typ ≤ 2147483647) (A : Option Addr) (L c : Nat) (hfew : ¬ Z < 8 * (L : Int)) (f : Nat → Nat) (hf : Mb.IsB f) (w : World) (hby : BytesAt w (.slice A L c) (Mb.bl f 0 L)) :
    Calls Tryz.prog 14 #[.agg #[.int .i64 B, .int .i64 Z], .int .i32 typ, .slice A L c] w (NewIs (.live ⟨B.toNat, Z.toNat, typ, f, L, 0, 0, 0, false, .ask, 0⟩) w) := by
  have hb0 := un_below w (.int .i64 B) (.int .i64 Z) 23
  have hx := Go.Deep.blk_alloc_new w (.cells #[.int .i64 B, .int .i64 Z] 23)
  have HBZ := Lib.hid (And.intro hB hZ)
  have HN := Lib.hid hok
  have HY := Lib.hid hby
  have hd : decide (typ < 1) = false := by simpa using htyp
  have hz0 : 64 ≤ Z := hok.2.1
  have hz1 : Z ≤ 8192 := hok.2.2.1
  have hdl : ¬ Z / 8 < (L : Int) := by omega
  have hdd : decide (Z / 8 < (L : Int)) = false := by simpa using hdl
  have HT := Lib.hid (And.intro htyp htyp2)
  have HFE := Lib.hid hfew
  clear hB hZ hok htyp hfew hby htyp2
  go_enter Tryz.func14, Tryz.ntmps14
  go_upto_region 1 with (fail)
  generalize w.alloc (.cells #[.int .i64 B, .int .i64 Z] 23) = W at hb0 hx ⊢
  have x0 : W.cell? ⟨w.heap.size, 0, none⟩ = some (.int .i64 B) := by simp [World.cell?, hx]
  have x1 : W.cell? ⟨w.heap.size, 1, none⟩ = some (.int .i64 Z) := by simp [World.cell?, hx]
  have hlx := (Array.getElem?_eq_some_iff.1 hx).1
  clear hx
  go_upto_region 5 with (go_at_call 15; refine (rpCheck B Z HBZ.out.1 HBZ.out.2 W).mono ?_; rintro e w2 ⟨rfl, hb⟩; rw [if_pos HN.out]; have y0 := (hb.cell (p := ⟨w.heap.size, 0, none⟩) hlx).trans x0; have y1 := (hb.cell (p := ⟨w.heap.size, 1, none⟩) hlx).trans x1)
  have hneed := rp_need_aux L (by omega)
  have HNE := Lib.hid hneed
  have HB2 := Lib.hid (hb0.trans (hb.mono hb0.size))
  have hl2 : w.heap.size < w2.heap.size := lt_of_cell y0
  clear hneed hb hdl hd hdd hz0 hz1 x0 x1 hlx hb0
  go_upto_region 6 with (go_at_call 23; refine (recordSize_any (L : Int) w2).mono ?_; rintro e w3 ⟨rfl, rfl⟩; rw [HNE.out])
  obtain ⟨wq, hwq⟩ : ∃ W, W = w2 := ⟨_, rfl⟩
  go_region_held3 (fun w' => w'.cell? ⟨w.heap.size, 0, none⟩ = some (.int .i64 B) ∧ w'.cell? ⟨w.heap.size, 1, none⟩ = some (.int .i64 Z)) (go_keep)
    (first | (go_at_call 24; refine (clone_sl A L c (Mb.bl f 0 L) w2.drew (HY.out.below HB2.out.drew) (by have := HFE.out; have := HN.out.2.2.1; omega)).mono ?_; rintro e w4 ⟨A4, c4, rfl, ho4, hb4⟩; have z0 := (hb4.cell (p := ⟨w.heap.size, 0, none⟩) (lt_of_cell y0)).trans y0; have z1 := (hb4.cell (p := ⟨w.heap.size, 1, none⟩) (lt_of_cell y0)).trans y1))
  all_goals
    have hq := HN.out
    obtain ⟨W5, hW5⟩ : ∃ W5, W5 = w4.alloc (.cells #[.int .i64 B, .int .i64 Z, .int .i32 typ, .slice A4 L c4, .int .i64 (8 * (((L : Int) + 15) / 8)), .int .i64 0, .int .i64 0, .int .i64 0, .int .u64 0, .int .u64 0, .slice none 0 0, .nilFunc, .int .i64 0, .int .i64 0, .int .i64 0, .bool false, .int .i64 0] 80) := ⟨_, rfl⟩
    have hmade := rp_made (w := w) hW5 (HB2.out.drew.trans (hb4.mono HB2.out.size)) HB2.out.size hq HT.out.1 HT.out.2 HFE.out hf ho4
    rw [← hW5]
    have HM := Lib.hid hmade
    have hbk : Below w.heap.size w W5 := by rw [hW5]; exact (HB2.out.drew.trans (hb4.mono HB2.out.size)).alloc (Nat.le_trans HB2.out.size hb4.size) _
    have HBK := Lib.hid hbk
    clear hW5 hmade hbk
    go_wp2_with (go_at_call 25; refine (rpBegin HM.out).mono ?_; intro e w6 hm; have HMM := Lib.hid hm; obtain ⟨rfl, _⟩ := hm)
    go_ret
    obtain ⟨_, F', hp, ht, hF'⟩ := HMM.out
    refine ⟨_, rfl, ?_, ht.below HBK.out HBK.out.size fun k hk => hk.1⟩
    refine PutAt.wide (F' := fun k => w.heap.size ≤ k ∧ k < w6.heap.size) hp fun k hk => ?_
    · show w.heap.size ≤ k ∧ k < w6.heap.size
      rcases hF' k hk with e | e
      · exact ⟨e.1, Nat.lt_of_lt_of_le e.2 ht.size⟩
      · exact ⟨Nat.le_trans HBK.out.size e.1, e.2⟩

/-- A put is made, of whatever ring, type and bytes. -/
theorem rpNew (B Z typ : Int) (hB : -9223372036854775808 ≤ B ∧ B ≤ 9223372036854775807) (hZ : -9223372036854775808 ≤ Z ∧ Z ≤ 9223372036854775807) (htyp : typ ≤ 2147483647) (A : Option Addr) (L c : Nat) (f : Nat → Nat) (hf : Mb.IsB f) (w : World) (hby : BytesAt w (.slice A L c) (Mb.bl f 0 L)) :
    Calls Tryz.prog 14 #[.agg #[.int .i64 B, .int .i64 Z], .int .i32 typ, .slice A L c] w (NewIs (Pm.new B Z typ f L) w) := by
  unfold Pm.new
  by_cases h1 : Rg.right B Z
  · by_cases h2 : typ < 1
    · rw [if_pos (.inr h2)]
      exact rpNewTyp B Z typ hB hZ h1 h2 A L c w
    · rw [if_neg (fun h => h.elim (fun h => h h1) h2)]
      by_cases h3 : Z < 8 * (L : Int)
      · rw [if_pos h3]
        exact rpNewLong B Z typ hB hZ h1 h2 A L c h3 w
      · rw [if_neg h3]
        exact rpNewOk B Z typ hB hZ h1 h2 htyp A L c h3 f hf w hby
  · rw [if_pos (.inl h1)]
    exact rpNewBad B Z typ hB hZ h1 A L c w
end Go.Proofs.YtaomkamdfbibbaaGreat
namespace Go.Proofs.YtaomkamdfbibbaaGreat
open Go.RowKit

set_option maxHeartbeats 1000000 in
theorem fxStepsTake {w : World} {F : Nat → Prop} {g : Nat} {s : Fs} (h : FixAt w F g s) (hF : ∀ k, F k → k < w.heap.size) (x : An) (hx : x.V < 18446744073709551616) (A : Option Addr) (l c : Nat) :
    Calls Tryz.prog 20 #[.pointer (some ⟨g, 2, none⟩), .agg #[.int .u64 x.V, .bool x.D, .slice A l c]] w (FxMoved F g (s.take x) w) := by
  obtain ⟨a, th, hblk, hFg, hok, hpk, hth, hnx⟩ := h
  have hgl := hblk.lt
  have hbare : ∀ W, Below w.heap.size w W → FxBare (seven W g 2 Ac.zero (.slice none 0 0) .nilFunc) F g s := fun W hW => ⟨⟨Ac.zero, fx_seven (hblk.below hW) _ _ _⟩, hFg, hok⟩
  have hkeep : ∀ W, Below w.heap.size w W → ∀ k, F k → k ≠ g → (seven W g 2 Ac.zero (.slice none 0 0) .nilFunc).heap[k]? = w.heap[k]? := fun W hW k hk hkg =>
    ((seven_touch1 W g 2 Ac.zero (.slice none 0 0) .nilFunc).block k (Nat.lt_of_lt_of_le (hF k hk) hW.size) hkg).trans (hW.block k (hF k hk))
  have hTF : ∀ W, Below w.heap.size w W → Touch (fun k => k = g) w (seven W g 2 Ac.zero (.slice none 0 0) .nilFunc) := fun W hW => (Touch.of_below hW).trans (seven_touch1 W g 2 _ _ _)
  have fin : ∀ {k : FuncId} {caps : Array Value} (s' : Fs) (hthv : th = .func (.func k) #[] caps) (args : Array Value) (ha : (#[] : Array Value).push (.agg #[.int .u64 x.V, .bool x.D, .slice A l c]) ++ caps = args) (he : ∀ w, (callFunc k args).run Tryz.prog w = .ok (.enter k args) w)
      (H : ∀ W, Below w.heap.size w W → Calls Tryz.prog k args (seven W g 2 Ac.zero (.slice none 0 0) .nilFunc) (FxMoved F g s' (seven W g 2 Ac.zero (.slice none 0 0) .nilFunc))),
      Calls Tryz.prog 20 #[.pointer (some ⟨g, 2, none⟩), .agg #[.int .u64 x.V, .bool x.D, .slice A l c]] w (FxMoved F g s' w) := by
    intro k caps s' hthv args ha he H
    subst hthv
    refine (stTakeYes hblk.st x.V x.D A l c (Q := fun w' => FxMoved F g s' w (.returned (.tuple #[])) w') args ha he fun W hW => (H W hW).mono fun e w' hm => ?_).mono ?_
    · have h2 := hm.afterT (hTF W hW)
      obtain ⟨rfl, _⟩ := hm
      exact ⟨rfl, h2⟩
    · rintro e w' ⟨rfl, hm⟩
      exact hm
  have moved : ∀ {s' : Fs} {W W2 : World} {e : Ending} {w' : World}, Below W.heap.size W W2 → FxMoved F g s' W2 e w' → e = .returned (.tuple #[]) ∧ FxMoved F g s' W (.returned (.tuple #[])) w' := by
    intro s' W W2 e w' hb hm
    have h2 := hm.afterT (Touch.of_below hb)
    obtain ⟨rfl, _⟩ := hm
    exact ⟨rfl, h2⟩
  have back : ∀ {s' : Fs} {W : World} {e : Ending} {w' : World}, (e = .returned (.tuple #[]) ∧ FxMoved F g s' W (.returned (.tuple #[])) w') → FxMoved F g s' W e w' := by
    rintro s' W e w' ⟨rfl, h⟩
    exact h
  have capt : ∀ {W W2 : World} {b : Nat} {v : Value}, Below w.heap.size w W → Below (seven W g 2 Ac.zero (.slice none 0 0) .nilFunc).heap.size (seven W g 2 Ac.zero (.slice none 0 0) .nilFunc) W2 → Capt w F g b v → Capt W2 F g b v := fun hW hW2 hc =>
    (hc.keep (hkeep _ hW)).keep fun k hk _ => hW2.block k (by rw [seven_size]; exact Nat.lt_of_lt_of_le (hF k hk) hW.size)
  unfold FThen at hth
  unfold Fs.PhOk at hpk
  unfold Fs.take
  cases hph : s.ph with
  | head =>
    rw [hph] at hth
    obtain ⟨b, e, hb⟩ := hth
    exact fin _ e _ (by simp) (fun w => by simp [go_sem]) fun W hW => fxBegin1 (hbare W hW) (hb.keep (hkeep W hW)) x.V x.D A l c hx
  | tail d =>
    rw [hph] at hth
    obtain ⟨b, b2, e, hb, hb2⟩ := hth
    refine fin _ e _ (by simp; rfl) (fun w => by simp [go_sem]) fun W hW => ?_
    by_cases hv : x.V = d
    · simp only [if_pos hv]
      exact fxBegin11Yes (hbare W hW) (hb.keep (hkeep W hW)) (hb2.keep (hkeep W hW)) x.V x.D A l c hv
    · simp only [if_neg hv]
      exact fxBegin11No (hbare W hW) (hb.keep (hkeep W hW)) (hb2.keep (hkeep W hW)) x.V x.D A l c hv
  | hdr =>
    rw [hph] at hth
    obtain ⟨b, e, hb⟩ := hth
    exact fin _ e _ (by simp) (fun w => by simp [go_sem]) fun W hW => fxSpan1 (hbare W hW) (hb.keep (hkeep W hW)) x.V x.D A l c
  | up q =>
    rw [hph] at hth hpk
    obtain ⟨b, on, e, hb, b1, b2, b3, e2, h1, h2, h3⟩ := hth
    subst e2
    refine fin _ e _ (by simp; rfl) (fun w => by simp [go_sem]) fun W hW => ?_
    by_cases hv : x.V % 4294967296 = 0
    · simp only [if_pos hv]
      refine (fxLook1 (Q := fun w' => FxMoved F g (s.ahead (q + 8)) (seven W g 2 Ac.zero (.slice none 0 0) .nilFunc) (.returned (.tuple #[])) w') (hb.keep (hkeep W hW)).2.2 x.V x.D A l c true (by simp; omega) _ (by simp) (fun w => by simp [go_sem]) fun W2 hW2 => (fxAhead1Yes ((hbare W hW).below hW2) hpk (capt hW hW2 h1) (capt hW hW2 h2) (capt hW hW2 h3)).mono fun _ _ hm => moved hW2 hm).mono fun _ _ hm => back hm
    · simp only [if_neg hv]
      refine (fxLook1 (Q := fun w' => FxMoved F g (({ s with m := q } : Fs).back q) (seven W g 2 Ac.zero (.slice none 0 0) .nilFunc) (.returned (.tuple #[])) w') (hb.keep (hkeep W hW)).2.2 x.V x.D A l c false (by simp; omega) _ (by simp) (fun w => by simp [go_sem]) fun W2 hW2 => (fxAhead1No ((hbare W hW).below hW2) hpk (capt hW hW2 h1) (capt hW hW2 h2) (capt hW hW2 h3)).mono fun _ _ hm => moved hW2 hm).mono fun _ _ hm => back hm
  | down q =>
    rw [hph] at hth hpk
    obtain ⟨b, on, e, hb, b1, b2, e2, h1, h2⟩ := hth
    subst e2
    refine fin _ e _ (by simp; rfl) (fun w => by simp [go_sem]) fun W hW => ?_
    by_cases hv : x.V % 4294967296 = 0
    · simp only [if_pos hv]
      refine (fxLook1 (Q := fun w' => FxMoved F g (s.back q) (seven W g 2 Ac.zero (.slice none 0 0) .nilFunc) (.returned (.tuple #[])) w') (hb.keep (hkeep W hW)).2.2 x.V x.D A l c true (by simp; omega) _ (by simp) (fun w => by simp [go_sem]) fun W2 hW2 => (fxBack1Yes ((hbare W hW).below hW2) hpk (capt hW hW2 h1) (capt hW hW2 h2)).mono fun _ _ hm => moved hW2 hm).mono fun _ _ hm => back hm
    · simp only [if_neg hv]
      refine (fxLook1 (Q := fun w' => FxMoved F g { s with ph := .fin } (seven W g 2 Ac.zero (.slice none 0 0) .nilFunc) (.returned (.tuple #[])) w') (hb.keep (hkeep W hW)).2.2 x.V x.D A l c false (by simp; omega) _ (by simp) (fun w => by simp [go_sem]) fun W2 hW2 => (fxBack1No ((hbare W hW).below hW2) b1 b2).mono fun _ _ hm => moved hW2 hm).mono fun _ _ hm => back hm
  | padd n =>
    rw [hph] at hth hpk
    obtain ⟨b, b2, e, hb, hb2⟩ := hth
    exact fin _ e _ (by simp) (fun w => by simp [go_sem]) fun W hW => fxPad1 (hbare W hW) hpk (hb.keep (hkeep W hW)) (hb2.keep (hkeep W hW)) x.V x.D A l c
  | fin =>
    rw [hph] at hth
    have e : th = .nilFunc := hth
    subst e
    refine (stTakeNo hblk.c8 x.V x.D A l c).mono ?_
    rintro e w' ⟨rfl, hb⟩
    refine ⟨rfl, F, ⟨a, _, hblk.below hb, hFg, hok, ?_, ?_, fun b hb' => ?_⟩, Touch.of_below hb, fun k hk => .inl hk⟩
    · unfold Fs.PhOk; rw [hph]; trivial
    · unfold FThen; rw [hph]
    · unfold Fs.next at hb'; rw [hph] at hb'; cases hb'

/-- A fix: one that goes on, or one that never began. -/
inductive Fm where
  | live (s : Fs) | dead
namespace Fm
def next : Fm → Option Ac
  | .live s => s.next
  | .dead => none
def take : Fm → An → Fm
  | .live s, x => .live (s.take x)
  | .dead, _ => .dead
def busy : Fm → Bool
  | .live s => s.next.isSome
  | .dead => false
def size : Fm → Int
  | .live s => s.Z
  | .dead => 0
def fixed : Fm → Int
  | .live s => s.n
  | .dead => 0
/-- How it ended: bytes, an error. -/
def result (m : Fm) : Int × Int := if m.size = 0 then (0, 1) else if m.busy = true then (0, 10) else (m.fixed, 0)
/-- The one that is made. -/
def new (B Z : Int) : Fm := if Rg.right B Z then .live ⟨B.toNat, Z.toNat, 0, 0, 0, 0, .head⟩ else .dead
end Fm

/-- A fix stands in the blocks F, its own block is g. -/
def FmAt (w : World) (F : Nat → Prop) (g : Nat) : Fm → Prop
  | .live s => FixAt w F g s
  | .dead => F g ∧ FxBlk w g ⟨0, 0, 0, 0, 0, 0, .fin⟩ Ac.zero (.slice none 0 0) .nilFunc
/-- What a call on a fix leaves. -/
def FmMoved (F : Nat → Prop) (g : Nat) (m : Fm) (w : World) (e : Ending) (w' : World) : Prop :=
  e = .returned (.tuple #[]) ∧ ∃ F', FmAt w' F' g m ∧ Touch (fun k => k = g) w w' ∧ ∀ k, F' k → F k ∨ (w.heap.size ≤ k ∧ k < w'.heap.size)

theorem FmAt.keep {w w' : World} {F : Nat → Prop} {g : Nat} {m : Fm} (h : FmAt w F g m) (hb : ∀ k, F k → w'.heap[k]? = w.heap[k]?) : FmAt w' F g m := by
  cases m with
  | live s =>
    obtain ⟨a, th, h1, h2, h3, h4, h5, h6⟩ := h
    exact ⟨a, th, h1.of_block (hb g h2), h2, h3, h4, h5.keep (fun k hk _ => hb k hk) fun _ hk => hk, h6⟩
  | dead => exact ⟨h.1, h.2.of_block (hb g h.1)⟩
theorem FmAt.wide {w : World} {F F' : Nat → Prop} {g : Nat} {m : Fm} (h : FmAt w F g m) (hF : ∀ k, F k → F' k) : FmAt w F' g m := by
  cases m with
  | live s =>
    obtain ⟨a, th, h1, h2, h3, h4, h5, h6⟩ := h
    exact ⟨a, th, h1, hF g h2, h3, h4, h5.keep (fun k _ _ => rfl) hF, h6⟩
  | dead => exact ⟨hF g h.1, h.2⟩
theorem FmAt.own {w : World} {F : Nat → Prop} {g : Nat} {m : Fm} (h : FmAt w F g m) : F g := by
  cases m with
  | live s =>
    obtain ⟨a, th, h1, h2, _⟩ := h
    exact h2
  | dead => exact h.1

/-- Something goes on where, and only where, there is a next access. -/
theorem FThen.is {w : World} {F : Nat → Prop} {g : Nat} {s : Fs} {th : Value} (h : FThen w F g s th) : (s.next = none ∧ th = .nilFunc) ∨ (s.next ≠ none ∧ ∃ k rc caps, th = .func (.func k) rc caps) := by
  unfold FThen at h
  unfold Fs.next
  cases hph : s.ph with
  | fin => rw [hph] at h; exact .inl ⟨rfl, h⟩
  | head => rw [hph] at h; obtain ⟨_, e, _⟩ := h; exact .inr ⟨by simp, _, _, _, e⟩
  | tail d => rw [hph] at h; obtain ⟨_, _, e, _⟩ := h; exact .inr ⟨by simp, _, _, _, e⟩
  | hdr => rw [hph] at h; obtain ⟨_, e, _⟩ := h; exact .inr ⟨by simp, _, _, _, e⟩
  | up q => rw [hph] at h; obtain ⟨_, _, e, _⟩ := h; exact .inr ⟨by simp, _, _, _, e⟩
  | down q => rw [hph] at h; obtain ⟨_, _, e, _⟩ := h; exact .inr ⟨by simp, _, _, _, e⟩
  | padd n => rw [hph] at h; obtain ⟨_, _, e, _⟩ := h; exact .inr ⟨by simp, _, _, _, e⟩

set_option maxRecDepth 100000 in
set_option maxHeartbeats 800000 in
theorem fixTakeNil (V : Nat) (D : Bool) (A : Option Addr) (l c : Nat) (w : World) :
    Calls Tryz.prog 9 #[.pointer none, .agg #[.int .u64 V, .bool D, .slice A l c]] w (Made (.tuple #[]) w) := by
  have HW := Lib.hid ((Below.refl w.heap.size w).alloc (Nat.le_refl _) (.cells #[.int .u64 V, .bool D, .slice A l c] 37))
  go_enter Tryz.func9, Tryz.ntmps9
  go_upto_region 1 with (fail)
  generalize w.alloc (.cells #[.int .u64 V, .bool D, .slice A l c] 37) = W at HW ⊢
  go_wp2
  go_end0
  exact ⟨rfl, HW.out⟩

set_option maxRecDepth 100000 in
set_option maxHeartbeats 800000 in
theorem fixTake {w : World} {F : Nat → Prop} {g : Nat} {m : Fm} (h : FmAt w F g m) (hF : ∀ k, F k → k < w.heap.size) (x : An) (hx : x.V < 18446744073709551616) (A : Option Addr) (l c : Nat) :
    Calls Tryz.prog 9 #[.pointer (some ⟨g, 0, none⟩), .agg #[.int .u64 x.V, .bool x.D, .slice A l c]] w (FmMoved F g (m.take x) w) := by
  have hb0 := (Below.refl w.heap.size w).alloc (Nat.le_refl _) (.cells #[.int .u64 x.V, .bool x.D, .slice A l c] 37)
  obtain ⟨x0, x1, x2⟩ := rp_ans_box w x.V x.D A l c
  have HW := Lib.hid hb0
  have HC : Hid (∀ W, Below w.heap.size w W → Calls Tryz.prog 20 #[.pointer (some ⟨g, 2, none⟩), .agg #[.int .u64 x.V, .bool x.D, .slice A l c]] W (FmMoved F g (m.take x) W)) := Lib.hid fun W hW => by
    have hk := h.keep fun k hk => hW.block k (hF k hk)
    cases m with
    | live s => exact (fxStepsTake hk (fun k hk => Nat.lt_of_lt_of_le (hF k hk) hW.size) x hx A l c).mono fun e w' hm => hm
    | dead =>
      refine (stTakeNo hk.2.c8 x.V x.D A l c).mono ?_
      rintro e w' ⟨rfl, hb⟩
      exact ⟨rfl, F, ⟨hk.1, hk.2.below hb⟩, Touch.of_below hb, fun k hk => .inl hk⟩
  have hng : ¬ w.heap.size = g := fun e => Nat.lt_irrefl _ (e ▸ hF _ h.own)
  clear h hF hb0
  go_enter Tryz.func9, Tryz.ntmps9
  go_upto_region 1 with (fail)
  generalize w.alloc (.cells #[.int .u64 x.V, .bool x.D, .slice A l c] 37) = W at HW x0 x1 x2 ⊢
  go_upto_region 2 with (fail)
  go_region_held3 (fun w' => w'.cell? ⟨w.heap.size, 0, none⟩ = some (.int .u64 x.V) ∧ w'.cell? ⟨w.heap.size, 1, none⟩ = some (.bool x.D) ∧ w'.cell? ⟨w.heap.size, 2, none⟩ = some (.slice A l c)) (go_keep)
    (first | (go_at_call 20; refine (HC.out W.drew HW.out.drew).mono ?_; intro e w3 hm; have HM := Lib.hid hm; obtain ⟨rfl, F', hp, ht, hF'⟩ := hm; have y0 := (ht.cell (p := ⟨w.heap.size, 0, none⟩) (lt_of_cell x0) hng).trans x0; have y1 := (ht.cell (p := ⟨w.heap.size, 1, none⟩) (lt_of_cell x0) hng).trans x1; have y2 := (ht.cell (p := ⟨w.heap.size, 2, none⟩) (lt_of_cell x0) hng).trans x2))
  all_goals
    go_wp2
    go_end0
    exact ⟨rfl, F', hp, (Touch.of_below HW.out.drew).trans ht, fun k hk => (hF' k hk).imp id fun h => ⟨Nat.le_trans HW.out.size h.1, h.2⟩⟩

set_option maxRecDepth 100000 in
set_option maxHeartbeats 800000 in
theorem fixNextNil (w : World) : Calls Tryz.prog 8 #[.pointer none] w (NextTold none w) := by
  have HA := AccNew.made w
  have HW := Lib.hid ((Below.refl w.heap.size w).alloc (Nat.le_refl _) (.cells #[.int .i64 0, .int .i64 0, .int .i64 0, .int .u64 0, .int .u64 0, .slice none 0 0] 32))
  go_enter Tryz.func8, Tryz.ntmps8
  go_upto_region 1 with (fail)
  generalize w.alloc (.cells #[.int .i64 0, .int .i64 0, .int .i64 0, .int .u64 0, .int .u64 0, .slice none 0 0] 32) = W at HA HW ⊢
  obtain ⟨a0, a1, a2, a3, a4, a5, f0, f1, f2, f3, f4, f5, hbk⟩ := HA
  go_wp2
  refine bodyPost_ret (v := .tuple #[.agg #[.int .i64 0, .int .i64 0, .int .i64 0, .int .u64 0, .int .u64 0, .slice none 0 0], .bool false]) (by simp [results, Tryz.results8, go_sem, a0, a1, a2, a3, a4, a5]) rfl ?_
  exact ⟨six_below HW.out (Nat.le_refl _) _ _ _ _ _ _, rfl⟩

theorem Fm.fine {w : World} {F : Nat → Prop} {g : Nat} {m : Fm} (h : FmAt w F g m) {a : Ac} (ha : m.next = some a) : a.Fine := by
  cases m with
  | dead => cases ha
  | live s =>
    obtain ⟨a0, th, h1, h2, ok, h4, h5, h6⟩ := h
    have okr := ok.rg
    have z1 := okr.z1
    have b1 := okr.b1
    have jn_lt : ∀ x y : Int, (Hd.jn x y).toNat < 18446744073709551616 := fun x y => by have := Hd.jn_bounds x y; omega
    have num : ∀ k : Int, 0 ≤ k → k ≤ 16 → -9223372036854775808 ≤ Rg.num s.B s.Z k ∧ Rg.num s.B s.Z k ≤ 9223372036854775807 := fun k _ _ => by unfold Rg.num; omega
    have spot : ∀ v : Int, 0 ≤ Rg.spot s.B s.Z v ∧ Rg.spot s.B s.Z v ≤ 140000 := fun v => by have := okr.place_in v; unfold Rg.spot; omega
    have mk : ∀ (K P N : Int) (V U : Nat), (0 ≤ K ∧ K ≤ 8) → (-9223372036854775808 ≤ P ∧ P ≤ 9223372036854775807) → (0 ≤ N ∧ N ≤ 8) → V < 18446744073709551616 → U < 18446744073709551616 → Ac.Fine ⟨K, P, N, V, U, []⟩ := fun K P N V U h1 h2 h3 h4 h5 => ⟨h4, h5, ⟨by show _ ≤ K; omega, by show K ≤ _; omega⟩, h2, ⟨by show _ ≤ N; omega, by show N ≤ _; omega⟩, Bys.nil, by show (0 : Nat) ≤ _; omega⟩
    have ha' : s.next = some a := ha
    unfold Fs.next at ha'
    cases hph : s.ph with
    | fin => rw [hph] at ha'; cases ha'
    | head => rw [hph] at ha'; injection ha' with e; subst e; exact mk _ _ _ _ _ (by omega) (num _ (by omega) (by omega)) (by omega) (by omega) (by omega)
    | tail d => rw [hph] at ha'; injection ha' with e; subst e; exact mk _ _ _ _ _ (by omega) (num _ (by omega) (by omega)) (by omega) (by omega) (by omega)
    | hdr => rw [hph] at ha'; injection ha' with e; subst e; have := spot s.a; exact mk _ _ _ _ _ (by omega) (by omega) (by omega) (by omega) (by omega)
    | up q => rw [hph] at ha'; injection ha' with e; subst e; have := spot q; exact mk _ _ _ _ _ (by omega) (by omega) (by omega) (by omega) (by omega)
    | down q => rw [hph] at ha'; injection ha' with e; subst e; have := spot q; exact mk _ _ _ _ _ (by omega) (by omega) (by omega) (by omega) (by omega)
    | padd n => rw [hph] at ha'; injection ha' with e; subst e; have := spot s.a; exact mk _ _ _ _ _ (by omega) (by omega) (by omega) (jn_lt _ _) (by omega)

theorem Fs.next_bs {s : Fs} {b : Ac} (h : s.next = some b) : b.bs = [] := by
  unfold Fs.next at h
  cases hph : s.ph <;> (rw [hph] at h; first | (cases h; done) | (injection h with e; subst e; rfl))

set_option maxRecDepth 100000 in
set_option maxHeartbeats 800000 in
theorem fixNext {w : World} {F : Nat → Prop} {g : Nat} {m : Fm} (h : FmAt w F g m) (hF : ∀ k, F k → k < w.heap.size) :
    Calls Tryz.prog 8 #[.pointer (some ⟨g, 0, none⟩)] w (NextTold m.next w) := by
  have HA := Lib.hid (AccNew.made w)
  have HW := Lib.hid ((Below.refl w.heap.size w).alloc (Nat.le_refl _) (.cells #[.int .i64 0, .int .i64 0, .int .i64 0, .int .u64 0, .int .u64 0, .slice none 0 0] 32))
  have HC : Hid (∀ W, Below w.heap.size w W → Calls Tryz.prog 19 #[.pointer (some ⟨g, 2, none⟩)] W (NextTold m.next W)) := Lib.hid fun W hW => by
    have hk := h.keep fun k hk => hW.block k (hF k hk)
    have hfine := fun a (ha : m.next = some a) => Fm.fine hk ha
    cases m with
    | live s =>
      obtain ⟨a, th, h1, h2, h3, h4, h5, h6⟩ := hk
      show Calls _ _ _ _ (NextTold s.next W)
      rcases h5.is with ⟨e1, e2⟩ | ⟨e1, k, rc, caps, e2⟩
      · rw [e1]
        have := h1.c8
        rw [e2] at this
        exact stNextNo this
      · cases hn : s.next with
        | none => exact absurd hn e1
        | some b =>
          have e3 := h6 b hn
          subst e3
          subst e2
          exact stNextYes h1.st (by rw [Fs.next_bs hn]; exact BytesAt.nil W) (hfine a hn).few
    | dead => exact stNextNo hk.2.c8
  generalize m.next = o at HC ⊢
  clear h hF
  go_enter Tryz.func8, Tryz.ntmps8
  go_upto_region 1 with (fail)
  generalize w.alloc (.cells #[.int .i64 0, .int .i64 0, .int .i64 0, .int .u64 0, .int .u64 0, .slice none 0 0] 32) = W at HA HW ⊢
  cases o with
  | none =>
    go_wp2_with (go_at_call 19; refine (HC.out W HW.out).mono ?_; rintro e w2 ⟨hb, rfl⟩; obtain ⟨a0, a1, a2, a3, a4, a5, f0, f1, f2, f3, f4, f5, hbk⟩ := HA.out.later hb)
    refine bodyPost_ret (v := .tuple #[.agg #[.int .i64 0, .int .i64 0, .int .i64 0, .int .u64 0, .int .u64 0, .slice none 0 0], .bool false]) (by simp [results, Tryz.results8, go_sem, a0, a1, a2, a3, a4, a5]) rfl ?_
    exact ⟨six_below (HW.out.trans (hb.mono HW.out.size)) (Nat.le_refl _) _ _ _ _ _ _, rfl⟩
  | some a =>
    go_wp2_with (go_at_call 19; refine (HC.out W HW.out).mono ?_; rintro e w2 ⟨hb, A, l, c, rfl, ho⟩; obtain ⟨a0, a1, a2, a3, a4, a5, f0, f1, f2, f3, f4, f5, hbk⟩ := HA.out.later hb; have HO := Lib.hid ho)
    refine bodyPost_ret (v := .tuple #[.agg #[.int .i64 a.K, .int .i64 a.P, .int .i64 a.N, .int .u64 a.V, .int .u64 a.U, .slice A l c], .bool true]) (by simp [results, Tryz.results8, go_sem, a0, a1, a2, a3, a4, a5]) rfl ?_
    exact ⟨six_below (HW.out.trans (hb.mono HW.out.size)) (Nat.le_refl _) _ _ _ _ _ _, A, l, c, rfl, (six_own HO.out (Array.getElem?_eq_some_iff.1 HA.out.blk).1 _ _ _ _ _ _).down HW.out.size⟩

set_option maxRecDepth 100000 in
theorem fixResultNil (w : World) : Calls Tryz.prog 10 #[.pointer none] w (fun e w' => e = .returned (.tuple #[.int .i64 0, .int .i64 1]) ∧ w = w') := by
  go_enter Tryz.func10, Tryz.ntmps10
  go_wp2
  refine bodyPost_ret (v := .tuple #[.int .i64 0, .int .i64 1]) (by simp [results, Tryz.results10, go_sem]) rfl ?_
  exact ⟨rfl, rfl⟩

set_option maxRecDepth 100000 in
set_option maxHeartbeats 800000 in
theorem fixResult {w : World} {F : Nat → Prop} {g : Nat} {m : Fm} (h : FmAt w F g m) : Calls Tryz.prog 10 #[.pointer (some ⟨g, 0, none⟩)] w (fun e w' => e = .returned (.tuple #[.int .i64 m.result.1, .int .i64 m.result.2]) ∧ w = w') := by
  have hc : w.cell? ⟨g, 1, none⟩ = some (.int .i64 m.size) ∧ w.cell? ⟨g, 12, none⟩ = some (.int .i32 m.fixed) ∧ (-8192 ≤ m.fixed ∧ m.fixed ≤ 8192) ∧
      Calls Tryz.prog 21 #[.pointer (some ⟨g, 2, none⟩)] w (fun e w' => e = .returned (.bool m.busy) ∧ w = w') := by
    cases m with
    | live s =>
      obtain ⟨a, th, h1, _, h3, _, h5, _⟩ := h
      refine ⟨h1.c1, h1.c12, h3.n0, ?_⟩
      have h8 := h1.c8
      rcases h5.is with ⟨e1, e2⟩ | ⟨e1, k, rc, caps, e2⟩
      · rw [e2] at h8
        have hb : (Fm.live s).busy = false := by show s.next.isSome = false; rw [e1]; rfl
        rw [hb]
        exact stBusyNo h8
      · rw [e2] at h8
        have hb : (Fm.live s).busy = true := by
          show s.next.isSome = true
          cases hn : s.next with
          | none => exact absurd hn e1
          | some b => rfl
        rw [hb]
        exact stBusyYes k rc caps h8
    | dead => exact ⟨h.2.c1, h.2.c12, by simp [Fm.fixed], stBusyNo h.2.c8⟩
  obtain ⟨c1, c12, hn, hB⟩ := hc
  unfold Fm.result
  generalize m.size = Z at c1 ⊢
  generalize m.fixed = n at c12 hn ⊢
  generalize m.busy = bs at hB ⊢
  have HB := Lib.hid hB
  have e1 : IntKind.i64.wrap n = n := IntWalk.i64_in _ (by omega)
  clear h hB hn
  by_cases hz : Z = 0
  · subst hz
    rw [if_pos rfl]
    go_enter Tryz.func10, Tryz.ntmps10
    go_wp2
    refine bodyPost_ret (v := .tuple #[.int .i64 0, .int .i64 1]) (by simp [results, Tryz.results10, go_sem]) rfl ?_
    exact ⟨rfl, rfl⟩
  · rw [if_neg hz]
    have hd : decide (Z = 0) = false := by simpa using hz
    cases bs with
    | true =>
      rw [if_pos rfl]
      go_enter Tryz.func10, Tryz.ntmps10
      go_wp2_with (go_at_call 21; refine HB.out.mono ?_; rintro e w2 ⟨rfl, rfl⟩)
      refine bodyPost_ret (v := .tuple #[.int .i64 0, .int .i64 10]) (by simp [results, Tryz.results10, go_sem]) rfl ?_
      exact ⟨rfl, rfl⟩
    | false =>
      rw [if_neg (by decide)]
      go_enter Tryz.func10, Tryz.ntmps10
      go_wp2_with (go_at_call 21; refine HB.out.mono ?_; rintro e w2 ⟨rfl, rfl⟩)
      refine bodyPost_ret (v := .tuple #[.int .i64 n, .int .i64 0]) (by simp [results, Tryz.results10, go_sem]) rfl ?_
      exact ⟨rfl, rfl⟩

/-- A fix was made: it stands in new memory. -/
def FNewIs (m : Fm) (w : World) (e : Ending) (w' : World) : Prop :=
  ∃ g, e = .returned (.pointer (some ⟨g, 0, none⟩)) ∧ FmAt w' (fun k => w.heap.size ≤ k ∧ k < w'.heap.size) g m ∧ Below w.heap.size w w'

set_option maxRecDepth 100000 in
set_option maxHeartbeats 800000 in
theorem fxNewBad (B Z : Int) (hB : -9223372036854775808 ≤ B ∧ B ≤ 9223372036854775807) (hZ : -9223372036854775808 ≤ Z ∧ Z ≤ 9223372036854775807) (hbad : ¬ Rg.right B Z) (w : World) :
    Calls Tryz.prog 6 #[.agg #[.int .i64 B, .int .i64 Z]] w (FNewIs .dead w) := by
  have hb0 := un_below w (.int .i64 B) (.int .i64 Z) 23
  have hx := Go.Deep.blk_alloc_new w (.cells #[.int .i64 B, .int .i64 Z] 23)
  have HBZ := Lib.hid (And.intro hB hZ)
  have HN := Lib.hid hbad
  clear hB hZ hbad
  go_enter Tryz.func6, Tryz.ntmps6
  go_upto_region 1 with (fail)
  generalize w.alloc (.cells #[.int .i64 B, .int .i64 Z] 23) = W at hb0 hx ⊢
  have x0 : W.cell? ⟨w.heap.size, 0, none⟩ = some (.int .i64 B) := by simp [World.cell?, hx]
  have x1 : W.cell? ⟨w.heap.size, 1, none⟩ = some (.int .i64 Z) := by simp [World.cell?, hx]
  clear hx
  go_wp2_with (go_at_call 15; refine (rpCheck B Z HBZ.out.1 HBZ.out.2 W).mono ?_; rintro e w2 ⟨rfl, hb⟩; rw [if_neg HN.out])
  go_ret
  have hw2 := hb0.trans (hb.mono hb0.size)
  exact ⟨w2.heap.size, rfl, ⟨⟨hw2.size, by simp⟩, Go.Deep.blk_alloc_new _ _⟩, hw2.alloc hw2.size _⟩

/-- The block of a fix that is made. -/
theorem fx_made {w w4 W5 : World} {B Z : Int} (hW5 : W5 = w4.alloc (.cells #[.int .i64 B, .int .i64 Z, .int .i64 0, .int .i64 0, .int .i64 0, .int .u64 0, .int .u64 0, .slice none 0 0, .nilFunc, .int .i64 0, .int .i64 0, .int .i64 0, .int .i32 0] 57))
    (hb : Below w.heap.size w w4) (hr : Rg.right B Z) : FxBare W5 (fun k => w.heap.size ≤ k ∧ k < W5.heap.size) w4.heap.size ⟨B.toNat, Z.toNat, 0, 0, 0, 0, .head⟩ := by
  obtain ⟨h1, h2, h3, h4, h5, h6⟩ := hr
  have hB : ((B.toNat : Nat) : Int) = B := Int.toNat_of_nonneg h4
  have hZ : ((Z.toNat : Nat) : Int) = Z := Int.toNat_of_nonneg (by omega)
  have hsz : W5.heap.size = w4.heap.size + 1 := by rw [hW5]; simp
  refine ⟨⟨Ac.zero, ?_⟩, ⟨hb.size, by omega⟩, ⟨⟨by rw [← h1, hZ], by simp only; omega, by simp only; omega, by simp only; omega, by simp only; omega⟩, by simp only; omega, by simp only; omega, by simp only; omega, by simp only; omega⟩⟩
  unfold FxBlk
  rw [hW5, Go.Deep.blk_alloc_new]
  simp only [FxCells, hB, hZ, Ac.zero]
  rfl

set_option maxRecDepth 100000 in
set_option maxHeartbeats 800000 in
theorem fxNewOk (B Z : Int) (hB : -9223372036854775808 ≤ B ∧ B ≤ 9223372036854775807) (hZ : -9223372036854775808 ≤ Z ∧ Z ≤ 9223372036854775807) (hok : Rg.right B Z) (w : World) :
    Calls Tryz.prog 6 #[.agg #[.int .i64 B, .int .i64 Z]] w (FNewIs (.live ⟨B.toNat, Z.toNat, 0, 0, 0, 0, .head⟩) w) := by
  have hb0 := un_below w (.int .i64 B) (.int .i64 Z) 23
  have hx := Go.Deep.blk_alloc_new w (.cells #[.int .i64 B, .int .i64 Z] 23)
  have HBZ := Lib.hid (And.intro hB hZ)
  have HN := Lib.hid hok
  clear hB hZ hok
  go_enter Tryz.func6, Tryz.ntmps6
  go_upto_region 1 with (fail)
  generalize w.alloc (.cells #[.int .i64 B, .int .i64 Z] 23) = W at hb0 hx ⊢
  have x0 : W.cell? ⟨w.heap.size, 0, none⟩ = some (.int .i64 B) := by simp [World.cell?, hx]
  have x1 : W.cell? ⟨w.heap.size, 1, none⟩ = some (.int .i64 Z) := by simp [World.cell?, hx]
  have hlx := (Array.getElem?_eq_some_iff.1 hx).1
  clear hx
  go_upto_region 4 with (go_at_call 15; refine (rpCheck B Z HBZ.out.1 HBZ.out.2 W).mono ?_; rintro e w2 ⟨rfl, hb⟩; rw [if_pos HN.out]; have y0 := (hb.cell (p := ⟨w.heap.size, 0, none⟩) hlx).trans x0; have y1 := (hb.cell (p := ⟨w.heap.size, 1, none⟩) hlx).trans x1)
  have hw2 := hb0.trans (hb.mono hb0.size)
  obtain ⟨W5, hW5⟩ : ∃ W5, W5 = w2.alloc (.cells #[.int .i64 B, .int .i64 Z, .int .i64 0, .int .i64 0, .int .i64 0, .int .u64 0, .int .u64 0, .slice none 0 0, .nilFunc, .int .i64 0, .int .i64 0, .int .i64 0, .int .i32 0] 57) := ⟨_, rfl⟩
  have hmade := fx_made (w := w) hW5 hw2 HN.out
  have hbk : Below w.heap.size w W5 := by rw [hW5]; exact hw2.alloc hw2.size _
  rw [← hW5]
  have HM := Lib.hid (fxBegin hmade)
  have HBK := Lib.hid hbk
  have hgw := hw2.size
  clear hW5 hmade hbk hb0 hb y0 y1 hw2 hlx x0 x1
  go_wp2_with (go_at_call 16; refine HM.out.mono ?_; intro e w6 hm; have HMM := Lib.hid hm; obtain ⟨rfl, _⟩ := hm)
  go_ret
  obtain ⟨_, F', hp, ht, hF'⟩ := HMM.out
  refine ⟨_, rfl, ?_, ht.below HBK.out HBK.out.size fun k hk => by have e : k = w2.heap.size := hk; rw [e]; exact hgw⟩
  refine FmAt.wide (m := .live _) hp fun k hk => ?_
  rcases hF' k hk with e | e
  · exact ⟨e.1, Nat.lt_of_lt_of_le e.2 ht.size⟩
  · exact ⟨Nat.le_trans HBK.out.size e.1, e.2⟩

theorem fxNew (B Z : Int) (hB : -9223372036854775808 ≤ B ∧ B ≤ 9223372036854775807) (hZ : -9223372036854775808 ≤ Z ∧ Z ≤ 9223372036854775807) (w : World) :
    Calls Tryz.prog 6 #[.agg #[.int .i64 B, .int .i64 Z]] w (FNewIs (Fm.new B Z) w) := by
  unfold Fm.new
  by_cases h1 : Rg.right B Z
  · rw [if_pos h1]
    exact fxNewOk B Z hB hZ h1 w
  · rw [if_neg h1]
    exact fxNewBad B Z hB hZ h1 w
end Go.Proofs.YtaomkamdfbibbaaGreat
namespace Go.Proofs.YtaomkamdfbibbaaGreat
open Go.RowKit

/-- A machine: none, a copy, or what else this seat reaches. -/
inductive Mc where
  | none
  | copy (kd : Kd) (d r : Nat) (ys : List Int)
  | put (m : Pm)
  | fix (m : Fm)

/-- What a copy writes are bytes. -/
def Kd.Okay : Kd → Prop
  | .wr _ f => Mb.IsB f
  | _ => True

theorem Kd.bytes_bys {kd : Kd} (h : kd.Okay) (d c : Nat) : Bys (kd.bytes d c) := by
  cases kd with
  | wr a f => exact Bys.bl h d c
  | ze a => exact Bys.bl (m := fun _ => 0) Mb.zero_isB d c
  | rd a => exact Bys.nil

theorem Kd.bytes_few (kd : Kd) (d c : Nat) : (kd.bytes d c).length ≤ c := by
  cases kd with
  | wr a f => exact Nat.le_of_eq (Mb.bl_length _ _ _)
  | ze a => simp [Kd.bytes, Mb.bl]
  | rd a => exact Nat.zero_le _

namespace Mc
/-- The next access. -/
def next : Mc → Option Ac
  | .none => .none
  | .copy kd d r _ => if r = 0 then .none else some ⟨kd.kind, kd.place + d, Cy.nx r, 0, 0, kd.bytes d (Cy.nx r)⟩
  | .put m => m.next
  | .fix m => m.next
/-- An answer is taken. -/
def take : Mc → An → Mc
  | .none, _ => .none
  | .copy kd d r ys, x => if r = 0 then .copy kd d r ys else .copy kd (d + Cy.nx r) (r - Cy.nx r) (ys ++ if kd.reads then x.bs else [])
  | .put m, x => .put (m.take x)
  | .fix m, x => .fix (m.take x)
/-- The clock is told. -/
def tick (s : Mc) (_ : Int) : Mc := s
theorem next_copy (kd : Kd) (d r : Nat) (ys : List Int) : (Mc.copy kd d r ys).next = if r = 0 then .none else some ⟨kd.kind, kd.place + d, Cy.nx r, 0, 0, kd.bytes d (Cy.nx r)⟩ := rfl
theorem take_copy (kd : Kd) (d r : Nat) (ys : List Int) (x : An) : (Mc.copy kd d r ys).take x = if r = 0 then .copy kd d r ys else .copy kd (d + Cy.nx r) (r - Cy.nx r) (ys ++ if kd.reads then x.bs else []) := rfl
end Mc

/-- A machine stands in the blocks F; x is the interface's value. -/
def MRep (w : World) (F : Nat → Prop) (x : Value) : Mc → Prop
  | .none => x = .nilIface
  | .copy kd d r ys => ∃ base top g v, x = .iface 161 (.pointer (some ⟨g, 0, none⟩)) ∧ Cp w base top g kd d r v ys ∧ (∀ k, base ≤ k → k < top → F k) ∧ (∀ k, v.ownBlock = some k → F k) ∧ kd.Okay ∧ ys.length ≤ 8 * d
  | .put m => ∃ g, x = .iface 51 (.pointer (some ⟨g, 0, none⟩)) ∧ PmAt w F g m
  | .fix m => ∃ g, x = .iface 26 (.pointer (some ⟨g, 0, none⟩)) ∧ FmAt w F g m

namespace MRep
variable {w w' : World} {F F' : Nat → Prop} {x : Value} {s : Mc}
theorem keep (h : MRep w F x s) (hs : w.heap.size ≤ w'.heap.size) (hb : ∀ k, F k → w'.heap[k]? = w.heap[k]?) : MRep w' F x s := by
  cases s with
  | none => exact h
  | copy kd d r ys =>
    obtain ⟨base, top, g, v, e, hc, h1, h2, h3, h4⟩ := h
    exact ⟨base, top, g, v, e, hc.keep hs (fun k a b => hb k (h1 k a b)) (fun k hk => hb k (h2 k hk)), h1, h2, h3, h4⟩
  | put m =>
    obtain ⟨g, e, h1⟩ := h
    exact ⟨g, e, h1.keep hs hb⟩
  | fix m =>
    obtain ⟨g, e, h1⟩ := h
    exact ⟨g, e, h1.keep hb⟩
theorem mono (h : MRep w F x s) (hF : ∀ k, F k → F' k) : MRep w F' x s := by
  cases s with
  | none => exact h
  | copy kd d r ys =>
    obtain ⟨base, top, g, v, e, hc, h1, h2, h3, h4⟩ := h
    exact ⟨base, top, g, v, e, hc, fun k a b => hF k (h1 k a b), fun k hk => hF k (h2 k hk), h3, h4⟩
  | put m =>
    obtain ⟨g, e, h1⟩ := h
    exact ⟨g, e, h1.wide hF⟩
  | fix m =>
    obtain ⟨g, e, h1⟩ := h
    exact ⟨g, e, h1.wide hF⟩
/-- No machine, or an interface's value. -/
theorem shape (h : MRep w F x s) : (x = .nilIface ∧ s = .none) ∨ ∃ T y, x = .iface T y := by
  cases s with
  | none => exact .inl ⟨h, rfl⟩
  | copy kd d r ys =>
    obtain ⟨_, _, _, _, e, _⟩ := h
    exact .inr ⟨_, _, e⟩
  | put m =>
    obtain ⟨_, e, _⟩ := h
    exact .inr ⟨_, _, e⟩
  | fix m =>
    obtain ⟨_, e, _⟩ := h
    exact .inr ⟨_, _, e⟩
/-- What a machine asks for is an access. -/
theorem fine (h : MRep w F x s) {a : Ac} (ha : s.next = some a) : a.Fine := by
  cases s with
  | none => cases ha
  | copy kd d r ys =>
    obtain ⟨base, top, g, v, e, hc, h1, h2, h3, h4⟩ := h
    rw [Mc.next_copy] at ha
    by_cases hr : r = 0
    · rw [if_pos hr] at ha; cases ha
    · rw [if_neg hr] at ha
      injection ha with ha
      subst ha
      have hn := Cy.nx_le r
      have hf := hc.few
      have hp := hc.near
      have hb := kd.bytes_few d (Cy.nx r)
      refine ⟨by show (0:Nat) < _; decide, by show (0:Nat) < _; decide, ?_, ?_, ?_, Kd.bytes_bys h3 _ _, ?_⟩
      · show _ ≤ kd.kind ∧ kd.kind ≤ _
        cases kd <;> (simp [Kd.kind])
      · show _ ≤ kd.place + (d : Int) ∧ kd.place + (d : Int) ≤ _
        omega
      · show _ ≤ ((Cy.nx r : Nat) : Int) ∧ ((Cy.nx r : Nat) : Int) ≤ _
        omega
      · show (kd.bytes d (Cy.nx r)).length ≤ _
        omega
  | put m =>
    obtain ⟨g, _, h1⟩ := h
    exact Pm.fine h1 ha
  | fix m =>
    obtain ⟨g, _, h1⟩ := h
    exact Fm.fine h1 ha
end MRep

theorem method_next_put0 (n : Nat) (g : Nat) (w : World) : (method (n + 100) 51 (.pointer (some ⟨g, 0, none⟩)) "Next").run Tryz.prog w = .ok (149, .pointer (some ⟨g, 0, none⟩)) w := by kernel_rfl

theorem method_next_fix0 (n : Nat) (g : Nat) (w : World) : (method (n + 100) 26 (.pointer (some ⟨g, 0, none⟩)) "Next").run Tryz.prog w = .ok (8, .pointer (some ⟨g, 0, none⟩)) w := by kernel_rfl

theorem method_next_put (g F : Nat) (w : World) (h : 100 ≤ F) : (method F 51 (.pointer (some ⟨g, 0, none⟩)) "Next").run Tryz.prog w = .ok (149, .pointer (some ⟨g, 0, none⟩)) w := by
  obtain ⟨n, rfl⟩ : ∃ n, F = n + 100 := ⟨F - 100, by omega⟩
  exact method_next_put0 n g w

theorem method_next_fix (g F : Nat) (w : World) (h : 100 ≤ F) : (method F 26 (.pointer (some ⟨g, 0, none⟩)) "Next").run Tryz.prog w = .ok (8, .pointer (some ⟨g, 0, none⟩)) w := by
  obtain ⟨n, rfl⟩ : ∃ n, F = n + 100 := ⟨F - 100, by omega⟩
  exact method_next_fix0 n g w

theorem method_take_put0 (n : Nat) (g : Nat) (w : World) : (method (n + 100) 51 (.pointer (some ⟨g, 0, none⟩)) "Take").run Tryz.prog w = .ok (150, .pointer (some ⟨g, 0, none⟩)) w := by kernel_rfl

theorem method_take_fix0 (n : Nat) (g : Nat) (w : World) : (method (n + 100) 26 (.pointer (some ⟨g, 0, none⟩)) "Take").run Tryz.prog w = .ok (9, .pointer (some ⟨g, 0, none⟩)) w := by kernel_rfl

theorem method_take_put (g F : Nat) (w : World) (h : 100 ≤ F) : (method F 51 (.pointer (some ⟨g, 0, none⟩)) "Take").run Tryz.prog w = .ok (150, .pointer (some ⟨g, 0, none⟩)) w := by
  obtain ⟨n, rfl⟩ : ∃ n, F = n + 100 := ⟨F - 100, by omega⟩
  exact method_take_put0 n g w

theorem method_take_fix (g F : Nat) (w : World) (h : 100 ≤ F) : (method F 26 (.pointer (some ⟨g, 0, none⟩)) "Take").run Tryz.prog w = .ok (9, .pointer (some ⟨g, 0, none⟩)) w := by
  obtain ⟨n, rfl⟩ : ∃ n, F = n + 100 := ⟨F - 100, by omega⟩
  exact method_take_fix0 n g w

/-- The two blocks that a closure hands its results in. -/
def Pair (a b k : Nat) : Prop := k = a ∨ k = b

/-- What a machine wants stands in block pa; whether it wants anything in block po. -/
def Asked (o : Option Ac) (pa po : Nat) (w w' : World) : Prop :=
  Touch (Pair pa po) w w' ∧ match o with
  | none => w'.heap[pa]? = some (.cells #[.int .i64 0, .int .i64 0, .int .i64 0, .int .u64 0, .int .u64 0, .slice none 0 0] 32 (0, 0)) ∧ w'.heap[po]? = some (.cells #[.bool false] 4 (0, 0))
  | some a => ∃ A l c, w'.heap[pa]? = some (.cells #[.int .i64 a.K, .int .i64 a.P, .int .i64 a.N, .int .u64 a.V, .int .u64 a.U, .slice A l c] 32 (0, 0)) ∧ w'.heap[po]? = some (.cells #[.bool true] 4 (0, 0)) ∧
      BytesAt w' (.slice A l c) a.bs

/-- A new place for whether. -/
structure BoolNew (b : Nat) (W : World) : Prop where
  c0 : W.cell? ⟨b, 0, none⟩ = some (.bool false)
  f0 : W.frozen? ⟨b, 0, none⟩ = false
  blk : W.heap[b]? = some (.cells #[.bool false] 4 (0, 0))
theorem BoolNew.of_blk {b : Nat} {W : World} (h : W.heap[b]? = some (.cells #[.bool false] 4 (0, 0))) : BoolNew b W := by
  refine ⟨?_, ?_, h⟩
  · simp [World.cell?, h]
  · simp [World.frozen?, h]

/-- An access and a truth, stored in two places. -/
theorem seven_blocks {W : World} {pa po : Nat} (hne : pa ≠ po) (ha : W.heap[pa]? = some (.cells #[.int .i64 0, .int .i64 0, .int .i64 0, .int .u64 0, .int .u64 0, .slice none 0 0] 32 (0, 0))) (ho : W.heap[po]? = some (.cells #[.bool false] 4 (0, 0))) (u0 u1 u2 u3 u4 u5 u6 : Value) :
    ((six W pa u0 u1 u2 u3 u4 u5).setCell ⟨po, 0, none⟩ u6).heap[pa]? = some (.cells #[u0, u1, u2, u3, u4, u5] 32 (0, 0)) ∧ ((six W pa u0 u1 u2 u3 u4 u5).setCell ⟨po, 0, none⟩ u6).heap[po]? = some (.cells #[u6] 4 (0, 0)) := by
  refine ⟨?_, ?_⟩
  · rw [Below.heap_setCell _ _ _ _ hne]
    simp [six, World.setCell, Array.getElem?_modify, ha]
  · have h6 : (six W pa u0 u1 u2 u3 u4 u5).heap[po]? = W.heap[po]? := by
      unfold six
      rw [Below.heap_setCell _ _ _ _ hne.symm, Below.heap_setCell _ _ _ _ hne.symm, Below.heap_setCell _ _ _ _ hne.symm, Below.heap_setCell _ _ _ _ hne.symm, Below.heap_setCell _ _ _ _ hne.symm, Below.heap_setCell _ _ _ _ hne.symm]
    have h7 := h6.trans ho
    simp [World.setCell, Array.getElem?_modify, h7]

theorem seven_touch {w W : World} {pa po : Nat} (h : Touch (Pair pa po) w W) (u0 u1 u2 u3 u4 u5 u6 : Value) : Touch (Pair pa po) w ((six W pa u0 u1 u2 u3 u4 u5).setCell ⟨po, 0, none⟩ u6) :=
  ((((((h.setCell (p := ⟨pa, 0, none⟩) (.inl rfl) u0).setCell (p := ⟨pa, 1, none⟩) (.inl rfl) u1).setCell (p := ⟨pa, 2, none⟩) (.inl rfl) u2).setCell (p := ⟨pa, 3, none⟩) (.inl rfl) u3).setCell (p := ⟨pa, 4, none⟩) (.inl rfl) u4).setCell (p := ⟨pa, 5, none⟩) (.inl rfl) u5).setCell (p := ⟨po, 0, none⟩) (.inr rfl) u6

set_option maxRecDepth 100000 in
set_option maxHeartbeats 400000 in
theorem nextIn_told {w : World} {T : TypeId} {y : Value} {fid : FuncId} {q : Option Ac} (hme : ∀ n w, 100 ≤ n → (method n T y "Next").run Tryz.prog w = .ok (fid, y) w) (hent : ∀ w, (callFunc fid #[y]).run Tryz.prog w = .ok (.enter fid #[y]) w) (hc : Calls Tryz.prog fid #[y] w (NextTold q w)) (pm pa po : Nat)
    (hm : w.cell? ⟨pm, 0, none⟩ = some (.iface T y)) (ha : AccNew pa w) (ho : BoolNew po w) (hne : pa ≠ po) :
    Calls Tryz.prog 59 #[.pointer (some ⟨pm, 0, none⟩), .pointer (some ⟨pa, 0, none⟩), .pointer (some ⟨po, 0, none⟩)] w fun e w' => e = .returned (.tuple #[]) ∧ Asked q pa po w w' := by
  have HC := Lib.hid hc
  have HA := Lib.hid ha
  have HO := Lib.hid ho
  clear hc ha ho
  have hpa := (Array.getElem?_eq_some_iff.1 HA.out.blk).1
  have hpo := (Array.getElem?_eq_some_iff.1 HO.out.blk).1
  go_enter Tryz.func59, Tryz.ntmps59
  go_wp2_with fail
  refine HC.out.mono ?_
  cases q with
  | none =>
    rintro e w1 ⟨hb, rfl⟩
    have hoN := BoolNew.of_blk ((hb.block po hpo).trans HO.out.blk)
    obtain ⟨a0, a1, a2, a3, a4, a5, f0, f1, f2, f3, f4, f5, ab⟩ := HA.out.later hb
    obtain ⟨o0, z0, ob⟩ := hoN
    have HH := Lib.hid (And.intro ab ob)
    clear ab ob
    go_wp2_with fail
    go_end0
    have h7 := seven_blocks hne HH.out.1 HH.out.2
    exact ⟨rfl, seven_touch (Touch.of_below hb) _ _ _ _ _ _ _, (h7 _ _ _ _ _ _ _).1, (h7 _ _ _ _ _ _ _).2⟩
  | some a =>
    rintro e w1 ⟨hb, A, l, cp, rfl, how⟩
    have hoN := BoolNew.of_blk ((hb.block po hpo).trans HO.out.blk)
    obtain ⟨a0, a1, a2, a3, a4, a5, f0, f1, f2, f3, f4, f5, ab⟩ := HA.out.later hb
    obtain ⟨o0, z0, ob⟩ := hoN
    have HH := Lib.hid (And.intro ab ob)
    have HOW := Lib.hid how
    clear how ab ob
    go_wp2_with fail
    go_end0
    have h7 := seven_blocks hne HH.out.1 HH.out.2
    refine ⟨rfl, seven_touch (Touch.of_below hb) _ _ _ _ _ _ _, A, l, cp, (h7 _ _ _ _ _ _ _).1, (h7 _ _ _ _ _ _ _).2, ?_⟩
    exact ((six_own HOW.out hpa _ _ _ _ _ _).setCell (p := ⟨po, 0, none⟩) hpo _).bytes

theorem cp_nextTold {kd : Kd} {w : World} {base top g d r : Nat} {v : Value} {ys : List Int} (h : Cp w base top g kd d r v ys) : Calls Tryz.prog 154 #[.pointer (some ⟨g, 0, none⟩)] w (NextTold (Mc.copy kd d r ys).next w) := by
  rw [Mc.next_copy]
  by_cases hr : r = 0
  · subst hr
    rw [if_pos rfl]
    refine (next_no h).mono ?_
    rintro e w' ⟨rfl, hb⟩
    exact ⟨hb, rfl⟩
  · rw [if_neg hr]
    refine (next_any h (by omega)).mono ?_
    rintro e w' ⟨A, l, c, rfl, ho, hb⟩
    exact ⟨hb, A, l, c, rfl, ho⟩

/-- A machine's own Next: which function, and what it tells. -/
theorem mrep_next {w : World} {F : Nat → Prop} {T : TypeId} {y : Value} {s : Mc} (h : MRep w F (.iface T y) s) (hlt : ∀ k, F k → k < w.heap.size) :
    ∃ fid, (∀ n w, 100 ≤ n → (method n T y "Next").run Tryz.prog w = .ok (fid, y) w) ∧ (∀ w, (callFunc fid #[y]).run Tryz.prog w = .ok (.enter fid #[y]) w) ∧ Calls Tryz.prog fid #[y] w (NextTold s.next w) := by
  cases s with
  | none => cases h
  | copy kd d r ys =>
    obtain ⟨base, top, g, v, e, hc, h1, h2, h3, h4⟩ := h
    injection e with e1 e2
    subst e1 e2
    exact ⟨_, method_next_at g, fun w => by simp [go_sem], cp_nextTold hc⟩
  | put m =>
    obtain ⟨g, e, hp⟩ := h
    injection e with e1 e2
    subst e1 e2
    exact ⟨_, method_next_put g, fun w => by simp [go_sem], putNext hp hlt⟩
  | fix m =>
    obtain ⟨g, e, hp⟩ := h
    injection e with e1 e2
    subst e1 e2
    exact ⟨_, method_next_fix g, fun w => by simp [go_sem], fixNext hp hlt⟩

/-- What a machine wants, asked through the interface. -/
theorem nextIn_any {w : World} {F : Nat → Prop} {T : TypeId} {y : Value} {s : Mc} (h : MRep w F (.iface T y) s) (hlt : ∀ k, F k → k < w.heap.size) (pm pa po : Nat) (hm : w.cell? ⟨pm, 0, none⟩ = some (.iface T y)) (ha : AccNew pa w) (ho : BoolNew po w) (hne : pa ≠ po) :
    Calls Tryz.prog 59 #[.pointer (some ⟨pm, 0, none⟩), .pointer (some ⟨pa, 0, none⟩), .pointer (some ⟨po, 0, none⟩)] w fun e w' => e = .returned (.tuple #[]) ∧ Asked s.next pa po w w' := by
  obtain ⟨fid, hme, hent, hc⟩ := mrep_next h hlt
  exact nextIn_told hme hent hc pm pa po hm ha ho hne

/-- A machine took something: it stands in its blocks, and in new ones. -/
def Moved (F : Nat → Prop) (x : Value) (s : Mc) (w : World) (w' : World) : Prop :=
  ∃ F', MRep w' F' x s ∧ Touch F w w' ∧ (∀ k, F' k → F k ∨ (w.heap.size ≤ k ∧ k < w'.heap.size))

theorem Moved.of_below {F : Nat → Prop} {x : Value} {s : Mc} {w w' : World} (h : MRep w F x s) (hlt : ∀ k, F k → k < w.heap.size) (hb : Below w.heap.size w w') : Moved F x s w w' :=
  ⟨F, h.keep hb.size fun k hk => hb.block k (hlt k hk), Touch.of_below hb, fun _ hk => .inl hk⟩

/-- A copy takes an answer. -/
theorem takeIn_copy {kd : Kd} {d r : Nat} {ys : List Int} {w : World} {F : Nat → Prop} {g : Nat} (h : MRep w F (.iface 161 (.pointer (some ⟨g, 0, none⟩))) (.copy kd d r ys)) (hlt : ∀ k, F k → k < w.heap.size) (x : An) (hx : x.Fine) (A : Option Addr) (l c : Nat) (hB : BytesAt w (.slice A l c) x.bs) :
    Calls Tryz.prog 155 #[.pointer (some ⟨g, 0, none⟩), .agg #[.int .u64 x.V, .bool x.D, .slice A l c]] w fun e w' => e = .returned (.tuple #[]) ∧ Moved F (.iface 161 (.pointer (some ⟨g, 0, none⟩))) ((Mc.copy kd d r ys).take x) w w' := by
  obtain ⟨base, top, g', v, e, hc, h1, h2, h3, h4⟩ := h
  injection e with e1 e2
  injection e2 with e3
  injection e3 with e4
  injection e4 with e5
  subst e5
  rw [Mc.take_copy]
  by_cases hr : r = 0
  · subst hr
    refine (take_no hc x.V x.D A l c).mono ?_
    rintro e w' ⟨rfl, hb⟩
    exact ⟨rfl, Moved.of_below (s := .copy kd d 0 ys) ⟨base, top, g, v, rfl, hc, h1, h2, h3, h4⟩ hlt hb⟩
  · rw [if_neg hr]
    have hd := hc.few
    have hxl := hx.few
    refine (take_any hc (by omega) x.V x.D A l c hB (by omega)).mono ?_
    rintro e w' ⟨v', rfl, hc', ht, hl⟩
    have hnp := Cy.nx_pos (r := r) (by omega)
    have hT : Touch F w w' := ht.mono fun k hk => by
      rcases hk with hk | hk
      · subst hk; exact h1 _ hc.above hc.under
      · exact h2 k hk
    refine ⟨rfl, fun k => F k ∨ (w.heap.size ≤ k ∧ k < w'.heap.size), ⟨base, top, g, v', rfl, hc', fun k a b => .inl (h1 k a b), fun k hk => ?_, h3, ?_⟩, hT, fun k hk => hk⟩
    · rcases hl k hk with e | e
      · exact .inl (h2 k e)
      · exact .inr ⟨e, (hc'.own.ge hk).2⟩
    · rw [List.length_append]
      split
      · omega
      · simp; omega

/-- A machine's own Take: which function, and what it leaves. -/
theorem mrep_take {w : World} {F : Nat → Prop} {T : TypeId} {y : Value} {s : Mc} (h : MRep w F (.iface T y) s) (hlt : ∀ k, F k → k < w.heap.size) (x : An) (hx : x.Fine) (A : Option Addr) (l c : Nat) (hB : BytesAt w (.slice A l c) x.bs) :
    ∃ fid, (∀ n w, 100 ≤ n → (method n T y "Take").run Tryz.prog w = .ok (fid, y) w) ∧ (∀ w, (callFunc fid #[y, .agg #[.int .u64 x.V, .bool x.D, .slice A l c]]).run Tryz.prog w = .ok (.enter fid #[y, .agg #[.int .u64 x.V, .bool x.D, .slice A l c]]) w) ∧
      Calls Tryz.prog fid #[y, .agg #[.int .u64 x.V, .bool x.D, .slice A l c]] w fun e w' => e = .returned (.tuple #[]) ∧ Moved F (.iface T y) (s.take x) w w' := by
  cases s with
  | none => cases h
  | copy kd d r ys =>
    have h0 := h
    obtain ⟨base, top, g, v, e, hc, h1, h2, h3, h4⟩ := h
    injection e with e1 e2
    subst e1 e2
    exact ⟨_, method_take_at g, fun w => by simp [go_sem], takeIn_copy h0 hlt x hx A l c hB⟩
  | put m =>
    obtain ⟨g, e, hp⟩ := h
    injection e with e1 e2
    subst e1 e2
    refine ⟨_, method_take_put g, fun w => by simp [go_sem], (putTake hp hlt x hx.v A l c hB).mono ?_⟩
    rintro e w' ⟨rfl, F', h1, h2, h3⟩
    exact ⟨rfl, F', ⟨g, rfl, h1⟩, h2, h3⟩
  | fix m =>
    obtain ⟨g, e, hp⟩ := h
    injection e with e1 e2
    subst e1 e2
    refine ⟨_, method_take_fix g, fun w => by simp [go_sem], (fixTake hp hlt x hx.v A l c).mono ?_⟩
    rintro e w' ⟨rfl, F', h1, h2, h3⟩
    exact ⟨rfl, F', ⟨g, rfl, h1⟩, h2.mono fun k hk => (by have e : k = g := hk; rw [e]; exact hp.own), h3⟩
end Go.Proofs.YtaomkamdfbibbaaGreat
namespace Go.Proofs.YtaomkamdfbibbaaGreat
open Go.RowKit

theorem pair_below {w W W' : World} {B a b : Nat} (h : Below B w W) (ht : Touch (Pair a b) W W') (hB : B ≤ W.heap.size) (ha : B ≤ a) (hb : B ≤ b) : Below B w W' := ht.below h hB fun k hk => by rcases hk with rfl | rfl <;> assumption

theorem clone_none (w : World) : Calls Tryz.prog 24 #[.slice none 0 0] w fun e w' => e = .returned (.slice none 0 0) ∧ w = w' := by
  have heq := fun (w : World) (a : Option Addr) => Lib.run_eql_slice_nil (P := Tryz.prog) w 30 5 a 0 0 0 0 Tryz.underlying30
  go_enter Tryz.func24, Tryz.ntmps24
  go_wp2
  go_ret
  exact ⟨rfl, rfl⟩

set_option maxRecDepth 100000 in
set_option maxHeartbeats 400000 in
theorem next_nilIface (w : World) : Calls Tryz.prog 41 #[.nilIface] w (NextTold none w) := by
  have HW := (((Below.refl w.heap.size w).alloc (Nat.le_refl _) (.cells #[.nilIface] 76)).alloc (by simp) (.cells #[.int .i64 0, .int .i64 0, .int .i64 0, .int .u64 0, .int .u64 0, .slice none 0 0] 32)).alloc (by simp; omega) (.cells #[.bool false] 4)
  have hA := Go.Deep.blk_alloc_new (w.alloc (.cells #[.nilIface] 76)) (.cells #[.int .i64 0, .int .i64 0, .int .i64 0, .int .u64 0, .int .u64 0, .slice none 0 0] 32)
  have hA2 := (Below.heap_alloc _ (.cells #[.bool false] 4) _ (by simp)).trans hA
  have e1 : (w.alloc (.cells #[.nilIface] 76)).heap.size = w.heap.size + 1 := by simp
  rw [e1] at hA2
  have HA := AccNew.of_blk hA2
  have hO := Go.Deep.blk_alloc_new ((w.alloc (.cells #[.nilIface] 76)).alloc (.cells #[.int .i64 0, .int .i64 0, .int .i64 0, .int .u64 0, .int .u64 0, .slice none 0 0] 32)) (.cells #[.bool false] 4)
  have e2 : ((w.alloc (.cells #[.nilIface] 76)).alloc (.cells #[.int .i64 0, .int .i64 0, .int .i64 0, .int .u64 0, .int .u64 0, .slice none 0 0] 32)).heap.size = w.heap.size + 1 + 1 := by simp
  rw [e2] at hO
  have HO := BoolNew.of_blk hO
  clear hA hA2 e1 hO e2
  go_enter Tryz.func41, Tryz.ntmps41
  go_wp2_with fail
  generalize ((w.alloc (.cells #[.nilIface] 76)).alloc (.cells #[.int .i64 0, .int .i64 0, .int .i64 0, .int .u64 0, .int .u64 0, .slice none 0 0] 32)).alloc (.cells #[.bool false] 4) = W at HW HA HO ⊢
  obtain ⟨a0, a1, a2, a3, a4, a5, f0, f1, f2, f3, f4, f5, ab⟩ := HA
  obtain ⟨o0, z0, ob⟩ := HO
  refine bodyPost_ret (v := .tuple #[.agg #[.int .i64 0, .int .i64 0, .int .i64 0, .int .u64 0, .int .u64 0, .slice none 0 0], .bool false]) (by simp [results, Tryz.results41, go_sem, a0, a1, a2, a3, a4, a5, o0]) rfl ?_
  exact ⟨HW, rfl⟩

/-- The machine's box, the place for an access, the place for whether. -/
theorem next_boxes (w : World) (x : Value) (W : World) (hW : W = ((w.alloc (.cells #[x] 76)).alloc (.cells #[.int .i64 0, .int .i64 0, .int .i64 0, .int .u64 0, .int .u64 0, .slice none 0 0] 32)).alloc (.cells #[.bool false] 4)) :
    Below w.heap.size w W ∧ W.cell? ⟨w.heap.size, 0, none⟩ = some x ∧ AccNew (w.heap.size + 1) W ∧ BoolNew (w.heap.size + 1 + 1) W := by
  subst hW
  have HW := (((Below.refl w.heap.size w).alloc (Nat.le_refl _) (.cells #[x] 76)).alloc (by simp) (.cells #[.int .i64 0, .int .i64 0, .int .i64 0, .int .u64 0, .int .u64 0, .slice none 0 0] 32)).alloc (by simp; omega) (.cells #[.bool false] 4)
  have hX := Go.Deep.blk_alloc_new w (.cells #[x] 76)
  have hX2 := (Below.heap_alloc _ (.cells #[.bool false] 4) _ (by simp; omega)).trans ((Below.heap_alloc _ (.cells #[.int .i64 0, .int .i64 0, .int .i64 0, .int .u64 0, .int .u64 0, .slice none 0 0] 32) _ (by simp)).trans hX)
  have hA := Go.Deep.blk_alloc_new (w.alloc (.cells #[x] 76)) (.cells #[.int .i64 0, .int .i64 0, .int .i64 0, .int .u64 0, .int .u64 0, .slice none 0 0] 32)
  have hA2 := (Below.heap_alloc _ (.cells #[.bool false] 4) _ (by simp)).trans hA
  have e1 : (w.alloc (.cells #[x] 76)).heap.size = w.heap.size + 1 := by simp
  rw [e1] at hA2
  have hO := Go.Deep.blk_alloc_new ((w.alloc (.cells #[x] 76)).alloc (.cells #[.int .i64 0, .int .i64 0, .int .i64 0, .int .u64 0, .int .u64 0, .slice none 0 0] 32)) (.cells #[.bool false] 4)
  have e2 : ((w.alloc (.cells #[x] 76)).alloc (.cells #[.int .i64 0, .int .i64 0, .int .i64 0, .int .u64 0, .int .u64 0, .slice none 0 0] 32)).heap.size = w.heap.size + 1 + 1 := by simp
  rw [e2] at hO
  exact ⟨HW, by simp [World.cell?, hX2], AccNew.of_blk hA2, BoolNew.of_blk hO⟩

theorem enter_next (caps : Array Value) (w : World) : (callFunc 59 caps).run Tryz.prog w = .ok (.enter 59 caps) w := by
  simp [go_sem]

set_option maxRecDepth 100000 in
set_option maxHeartbeats 400000 in
theorem next_some {w : World} {F : Nat → Prop} {T : TypeId} {y : Value} {s : Mc} {a : Ac} (h : MRep w F (.iface T y) s) (hlt : ∀ k, F k → k < w.heap.size) (ha : s.next = some a) :
    Calls Tryz.prog 41 #[.iface T y] w (NextTold (some a) w) := by
  have hmf : ∀ (fn : Fn) (first cap : Array Value) (w : World), (Instr.makeFunc fn first cap).run Tryz.prog w = .ok (.func fn first cap) w := fun _ _ _ _ => rfl
  have HH := Lib.hid h
  have HL := Lib.hid hlt
  have HFI := Lib.hid (h.fine ha)
  have HN := Lib.hid ha
  clear h hlt ha
  obtain ⟨WW, hWW⟩ : ∃ WW, WW = ((w.alloc (.cells #[.iface T y] 76)).alloc (.cells #[.int .i64 0, .int .i64 0, .int .i64 0, .int .u64 0, .int .u64 0, .slice none 0 0] 32)).alloc (.cells #[.bool false] 4) := ⟨_, rfl⟩
  have HB := Lib.hid (next_boxes w (.iface T y) WW hWW)
  go_enter Tryz.func41, Tryz.ntmps41
  go_wp2_with fail
  rw [← hWW]
  clear hWW
  obtain ⟨hb0, hx0, hA0, hO0⟩ := HB.out
  refine (caught_any _ _ WW (enter_next _) (nextIn_any (HH.out.keep hb0.size fun k hk => hb0.block k (HL.out k hk)) (fun k hk => Nat.lt_of_lt_of_le (HL.out k hk) hb0.size) w.heap.size (w.heap.size + 1) (w.heap.size + 1 + 1) hx0 hA0 hO0 (by omega))).mono ?_
  rintro e w1 ⟨rfl, ht, hm⟩
  rw [HN.out] at hm
  obtain ⟨A, l, c, hp, ho, hby⟩ := hm
  have hB1 := pair_below hb0 ht hb0.size (by omega) (by omega)
  have hl : a.bs.length = l := by obtain ⟨_, _, e, _⟩ := hby; injection e with _ e _; exact e.symm
  have hlf := HFI.out.few
  have hc5 : w1.cell? ⟨w.heap.size + 1, 5, none⟩ = some (.slice A l c) := by simp [World.cell?, hp]
  have HP := Lib.hid (And.intro hp (And.intro ho hby))
  have hs1 := (Array.getElem?_eq_some_iff.1 hp).1
  have hs2 := (Array.getElem?_eq_some_iff.1 ho).1
  clear hp ho hby hb0 hx0 hA0 hO0 ht
  go_wp2_with fail
  refine (clone_sl A l c a.bs w1 HP.out.2.2 (by omega)).mono ?_
  rintro e w2 ⟨A2, c2, rfl, ho2, hb2⟩
  have hq1 := (hb2.block _ hs1).trans HP.out.1
  have hq2 := (hb2.block _ hs2).trans HP.out.2.1
  have hz5 : w2.frozen? ⟨w.heap.size + 1, 5, none⟩ = false := by simp [World.frozen?, hq1]
  have hc52 : w2.cell? ⟨w.heap.size + 1, 5, none⟩ = some (.slice A l c) := by simp [World.cell?, hq1]
  have HO2 := Lib.hid ho2
  have hq3 := blkS (i := 5) hq1 (.slice A2 l c2)
  have hq4 := blkF (i := 5) (g' := w.heap.size + 1) hq2 (by omega) (.slice A2 l c2)
  go_wp2_with fail
  have hB3 : Below w.heap.size w (w2.setCell ⟨w.heap.size + 1, 5, none⟩ (.slice A2 l c2)) := (hB1.trans (hb2.mono hB1.size)).setCell (Nat.le_succ _) _
  have HO3 := Lib.hid (HO2.out.setCell (p := ⟨w.heap.size + 1, 5, none⟩) (by show w.heap.size + 1 < w1.heap.size; omega) (.slice A2 l c2))
  generalize w2.setCell ⟨w.heap.size + 1, 5, none⟩ (.slice A2 l c2) = W3 at hq3 hq4 hB3 HO3 ⊢
  have hq5 : W3.heap[w.heap.size + 1]? = some (.cells #[.int .i64 a.K, .int .i64 a.P, .int .i64 a.N, .int .u64 a.V, .int .u64 a.U, .slice A2 l c2] 32 (0, 0)) := hq3
  have HACC := Lib.hid hq5
  have a0 : W3.cell? ⟨w.heap.size + 1, 0, none⟩ = some (.int .i64 a.K) := by simp [World.cell?, hq5]
  have a1 : W3.cell? ⟨w.heap.size + 1, 1, none⟩ = some (.int .i64 a.P) := by simp [World.cell?, hq5]
  have a2 : W3.cell? ⟨w.heap.size + 1, 2, none⟩ = some (.int .i64 a.N) := by simp [World.cell?, hq5]
  have a3 : W3.cell? ⟨w.heap.size + 1, 3, none⟩ = some (.int .u64 a.V) := by simp [World.cell?, hq5]
  have a4 : W3.cell? ⟨w.heap.size + 1, 4, none⟩ = some (.int .u64 a.U) := by simp [World.cell?, hq5]
  have a5 : W3.cell? ⟨w.heap.size + 1, 5, none⟩ = some (.slice A2 l c2) := by simp [World.cell?, hq5]
  have f0 : W3.frozen? ⟨w.heap.size + 1, 0, none⟩ = false := by simp [World.frozen?, hq5]
  have f1 : W3.frozen? ⟨w.heap.size + 1, 1, none⟩ = false := by simp [World.frozen?, hq5]
  have f2 : W3.frozen? ⟨w.heap.size + 1, 2, none⟩ = false := by simp [World.frozen?, hq5]
  have f3 : W3.frozen? ⟨w.heap.size + 1, 3, none⟩ = false := by simp [World.frozen?, hq5]
  have f4 : W3.frozen? ⟨w.heap.size + 1, 4, none⟩ = false := by simp [World.frozen?, hq5]
  have f5 : W3.frozen? ⟨w.heap.size + 1, 5, none⟩ = false := by simp [World.frozen?, hq5]
  have o0 : W3.cell? ⟨w.heap.size + 1 + 1, 0, none⟩ = some (.bool true) := by simp [World.cell?, hq4]
  have z0 : W3.frozen? ⟨w.heap.size + 1 + 1, 0, none⟩ = false := by simp [World.frozen?, hq4]
  clear hq1 hq2 hq3 hq4 hq5 hz5 hb2 HO2 ho2 hc5 hB1 hc52
  go_region
  all_goals go_wp2
  refine bodyPost_ret (v := .tuple #[.agg #[.int .i64 a.K, .int .i64 a.P, .int .i64 a.N, .int .u64 a.V, .int .u64 a.U, .slice A2 l c2], .bool true]) (by simp [results, Tryz.results41, go_sem, a0, a1, a2, a3, a4, a5, o0]) rfl ?_
  refine ⟨?_, A2, l, c2, rfl, ?_⟩
  · exact (seven_touch (pa := w.heap.size + 1) (po := w.heap.size + 1 + 1) (w := W3) (Touch.refl _ _) (.int .i64 a.K) (.int .i64 a.P) (.int .i64 a.N) (.int .u64 a.V) (.int .u64 a.U) (.slice A2 l c2) (.bool true)).drew.below hB3 hB3.size (fun k hk => by rcases hk with rfl | rfl <;> omega)
  · exact (((six_own HO3.out (b := w.heap.size + 1) hs1 _ _ _ _ _ _).setCell (p := ⟨w.heap.size + 1 + 1, 0, none⟩) hs2 _).drew).down (by omega)


set_option maxRecDepth 100000 in
set_option maxHeartbeats 400000 in
theorem next_end {w : World} {F : Nat → Prop} {T : TypeId} {y : Value} {s : Mc} (h : MRep w F (.iface T y) s) (hlt : ∀ k, F k → k < w.heap.size) (ha : s.next = none) :
    Calls Tryz.prog 41 #[.iface T y] w (NextTold none w) := by
  have hmf : ∀ (fn : Fn) (first cap : Array Value) (w : World), (Instr.makeFunc fn first cap).run Tryz.prog w = .ok (.func fn first cap) w := fun _ _ _ _ => rfl
  have HH := Lib.hid h
  have HL := Lib.hid hlt
  have HN := Lib.hid ha
  clear h hlt ha
  obtain ⟨WW, hWW⟩ : ∃ WW, WW = ((w.alloc (.cells #[.iface T y] 76)).alloc (.cells #[.int .i64 0, .int .i64 0, .int .i64 0, .int .u64 0, .int .u64 0, .slice none 0 0] 32)).alloc (.cells #[.bool false] 4) := ⟨_, rfl⟩
  have HB := Lib.hid (next_boxes w (.iface T y) WW hWW)
  go_enter Tryz.func41, Tryz.ntmps41
  go_wp2_with fail
  rw [← hWW]
  clear hWW
  obtain ⟨hb0, hx0, hA0, hO0⟩ := HB.out
  refine (caught_any _ _ WW (enter_next _) (nextIn_any (HH.out.keep hb0.size fun k hk => hb0.block k (HL.out k hk)) (fun k hk => Nat.lt_of_lt_of_le (HL.out k hk) hb0.size) w.heap.size (w.heap.size + 1) (w.heap.size + 1 + 1) hx0 hA0 hO0 (by omega))).mono ?_
  rintro e w1 ⟨rfl, ht, hm⟩
  rw [HN.out] at hm
  obtain ⟨hp, ho⟩ := hm
  have hB1 := pair_below hb0 ht hb0.size (by omega) (by omega)
  have hc5 : w1.cell? ⟨w.heap.size + 1, 5, none⟩ = some (.slice none 0 0) := by simp [World.cell?, hp]
  have HP := Lib.hid (And.intro hp ho)
  have hs1 := (Array.getElem?_eq_some_iff.1 hp).1
  have hs2 := (Array.getElem?_eq_some_iff.1 ho).1
  clear hp ho hb0 hx0 hA0 hO0 ht
  go_wp2_with fail
  refine (clone_none w1).mono ?_
  rintro e w1 ⟨rfl, rfl⟩
  have hq1 := HP.out.1
  have hq2 := HP.out.2
  have hz5 : w1.frozen? ⟨w.heap.size + 1, 5, none⟩ = false := by simp [World.frozen?, hq1]
  have hq3 := blkS (i := 5) hq1 (.slice none 0 0)
  have hq4 := blkF (i := 5) (g' := w.heap.size + 1) hq2 (by omega) (.slice none 0 0)
  go_wp2_with fail
  have hB3 : Below w.heap.size w (w1.setCell ⟨w.heap.size + 1, 5, none⟩ (.slice none 0 0)) := hB1.setCell (Nat.le_succ _) _
  generalize w1.setCell ⟨w.heap.size + 1, 5, none⟩ (.slice none 0 0) = W3 at hq3 hq4 hB3 ⊢
  have hq5 : W3.heap[w.heap.size + 1]? = some (.cells #[.int .i64 0, .int .i64 0, .int .i64 0, .int .u64 0, .int .u64 0, .slice none 0 0] 32 (0, 0)) := hq3
  have HACC := Lib.hid hq5
  have a0 : W3.cell? ⟨w.heap.size + 1, 0, none⟩ = some (.int .i64 0) := by simp [World.cell?, hq5]
  have a1 : W3.cell? ⟨w.heap.size + 1, 1, none⟩ = some (.int .i64 0) := by simp [World.cell?, hq5]
  have a2 : W3.cell? ⟨w.heap.size + 1, 2, none⟩ = some (.int .i64 0) := by simp [World.cell?, hq5]
  have a3 : W3.cell? ⟨w.heap.size + 1, 3, none⟩ = some (.int .u64 0) := by simp [World.cell?, hq5]
  have a4 : W3.cell? ⟨w.heap.size + 1, 4, none⟩ = some (.int .u64 0) := by simp [World.cell?, hq5]
  have a5 : W3.cell? ⟨w.heap.size + 1, 5, none⟩ = some (.slice none 0 0) := by simp [World.cell?, hq5]
  have f0 : W3.frozen? ⟨w.heap.size + 1, 0, none⟩ = false := by simp [World.frozen?, hq5]
  have f1 : W3.frozen? ⟨w.heap.size + 1, 1, none⟩ = false := by simp [World.frozen?, hq5]
  have f2 : W3.frozen? ⟨w.heap.size + 1, 2, none⟩ = false := by simp [World.frozen?, hq5]
  have f3 : W3.frozen? ⟨w.heap.size + 1, 3, none⟩ = false := by simp [World.frozen?, hq5]
  have f4 : W3.frozen? ⟨w.heap.size + 1, 4, none⟩ = false := by simp [World.frozen?, hq5]
  have f5 : W3.frozen? ⟨w.heap.size + 1, 5, none⟩ = false := by simp [World.frozen?, hq5]
  have o0 : W3.cell? ⟨w.heap.size + 1 + 1, 0, none⟩ = some (.bool false) := by simp [World.cell?, hq4]
  have z0 : W3.frozen? ⟨w.heap.size + 1 + 1, 0, none⟩ = false := by simp [World.frozen?, hq4]
  clear hq1 hq2 hq3 hq4 hq5 hz5 hc5 hB1
  go_region
  all_goals go_wp2
  refine bodyPost_ret (v := .tuple #[.agg #[.int .i64 0, .int .i64 0, .int .i64 0, .int .u64 0, .int .u64 0, .slice none 0 0], .bool false]) (by simp [results, Tryz.results41, go_sem, a0, a1, a2, a3, a4, a5, o0]) rfl ?_
  refine ⟨?_, rfl⟩
  · exact (seven_touch (pa := w.heap.size + 1) (po := w.heap.size + 1 + 1) (w := W3) (Touch.refl _ _) (.int .i64 0) (.int .i64 0) (.int .i64 0) (.int .u64 0) (.int .u64 0) (.slice none 0 0) (.bool false)).drew.below hB3 hB3.size (fun k hk => by rcases hk with rfl | rfl <;> omega)

/-- What a machine wants next. -/
theorem next_told {w : World} {F : Nat → Prop} {x : Value} {s : Mc} (h : MRep w F x s) (hlt : ∀ k, F k → k < w.heap.size) : Calls Tryz.prog 41 #[x] w (NextTold s.next w) := by
  rcases h.shape with ⟨rfl, rfl⟩ | ⟨T, y, rfl⟩
  · exact next_nilIface w
  · cases ha : s.next with
    | none => exact next_end h hlt ha
    | some a => exact next_some h hlt ha
end Go.Proofs.YtaomkamdfbibbaaGreat
