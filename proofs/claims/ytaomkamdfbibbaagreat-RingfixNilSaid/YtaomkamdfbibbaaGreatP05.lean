/-
  Layer 7's put, walked: the bytes are stored: the length.
  Layer 7's put, walked: what the claim was told.
  Layer 7's put, walked: the claim moved the tail over padding.
  Layer 7's put, walked: its bytes are followed, part by part; then comes the length.
  Layer 7's put, walked: the header was stored, or a part of the bytes: the bytes are followed.
  Layer 7's put takes an answer, whatever phase it is in.
  Layer 7's put from outside: what it does next, what it takes, how it ended, where its record stands; one that never began; none at all.
  Layer 7's put from outside, walked: Take, Next, Result, At.
  The steps' access that loads half a word, walked.
  Layer 9's fix as a plain machine: its phases, the access of each, what an answer makes of it; where it stands in memory.
  Layer 9's fix, walked: it begins, it spans, it looks, further on and further back, it makes padding.
  Layer 9's fix, walked: further on, further back, what the head's header tells, the span.
-/
import Derived.Test.YtaomkamdfbibbaaGreatP04
import Derived.Test.YtaomkamdfbibbaaGreatP03
import Derived.Deep.RegionHeld3
namespace Go.Proofs.YtaomkamdfbibbaaGreat
open Go.RowKit

set_option maxRecDepth 100000 in
set_option maxHeartbeats 1000000 in
theorem rpWrite11 {w : World} {F : Nat → Prop} {g : Nat} {s : Rs} {dv : Value} (h : RpBare w F g s dv) {a b c : Nat} (ht : Three w F g s a b c) :
    Calls Tryz.prog 120 #[.pointer (some ⟨a, 0, none⟩), .pointer (some ⟨b, 0, none⟩), .pointer (some ⟨c, 0, none⟩)] w (RpMovedG F g { s with ph := .len } w) := by
  obtain ⟨a0, av, hblk⟩ := h.blk
  have HH := Lib.hid h
  have HB := Lib.hid hblk
  have hfew := h.ok.few
  have hz1 := h.ok.z1
  have he : IntKind.u64.wrap (8 + (s.L : Int)) = ((8 + s.L : Nat) : Int) := by
    rw [show (8 + (s.L : Int)) = ((8 + s.L : Nat) : Int) by omega]
    exact IntWalk.u64_in _ (by omega)
  obtain ⟨⟨_, hag, hca⟩, ⟨_, hbg, hcb⟩, ⟨_, hcg, hcc⟩⟩ := ht
  have hga : ¬ a = g := hag
  have hgb : ¬ b = g := hbg
  have hgc : ¬ c = g := hcg
  have hla := lt_of_cell hca
  have hlb := lt_of_cell hcb
  have hlc := lt_of_cell hcc
  clear h hblk hfew hz1 hag hbg hcg
  go_enter Tryz.func120, Tryz.ntmps120
  go_upto_region 1 with (fail)
  go_region_held3 (fun w' => w'.cell? ⟨a, 0, none⟩ = some (.pointer (some ⟨g, 0, none⟩)) ∧ w'.cell? ⟨b, 0, none⟩ = some (.int .i64 (s.spot s.p)) ∧ w'.cell? ⟨c, 0, none⟩ = some (.int .i32 (8 + (s.L : Int)))) (go_keep)
    (first
      | (go_at_call 27; refine (rpDo (HB.out.below hb1) ⟨2, s.spot s.p, 4, 8 + s.L, 0, []⟩ none 0 0 121 #[] #[]).mono ?_; intro e wd has; have HAS := Lib.hid has; obtain ⟨rfl, hblkd, htd⟩ := has; have kd := (htd.cell (p := ⟨a, 0, none⟩) (lt_of_cell k1) hga).trans k1; have ad := (htd.cell (p := ⟨b, 0, none⟩) (lt_of_cell a1) hgb).trans a1; have ld := (htd.cell (p := ⟨c, 0, none⟩) (lt_of_cell l1) hgc).trans l1; clear hblkd)
      | (go_at_call 99; refine (stStore (s.spot s.p) 4 (8 + s.L) _).mono ?_; rintro e x1 ⟨rfl, hq1⟩; have hb1 := below_drew hq1; have k1 := (hb1.cell (p := ⟨a, 0, none⟩) hla).trans hca; have a1 := (hb1.cell (p := ⟨b, 0, none⟩) hlb).trans hcb; have l1 := (hb1.cell (p := ⟨c, 0, none⟩) hlc).trans hcc))
  all_goals
    go_wp2
    go_end0
    exact ⟨rp_asked (s' := { s with ph := .len }) HH.out rfl hb1 rfl HAS.out (BytesIn.none _ _) (fun w2 hk => rfl), (Touch.of_below hb1).trans HAS.out.2.2, HAS.out.2.1.c3.trans HB.out.c3.symm⟩
end Go.Proofs.YtaomkamdfbibbaaGreat
namespace Go.Proofs.YtaomkamdfbibbaaGreat
open Go.RowKit

set_option maxRecDepth 100000 in
set_option maxHeartbeats 1000000 in
/-- Another one was faster: it is tried again. -/
theorem rpClaim1No {w : World} {F : Nat → Prop} {g : Nat} {s : Rs} {dv : Value} (h : RpBare w F g s dv) {a b : Nat} (ha : Capt w F g a (.pointer (some ⟨g, 0, none⟩))) (V : Nat) (A : Option Addr) (L cp : Nat) :
    Calls Tryz.prog 101 #[.agg #[.int .u64 V, .bool false, .slice A L cp], .pointer (some ⟨a, 0, none⟩), .pointer (some ⟨b, 0, none⟩)] w (RpMoved F g { s with ph := .tail } w) := by
  have hb0 := (Below.refl w.heap.size w).alloc (Nat.le_refl _) (.cells #[.int .u64 V, .bool false, .slice A L cp] 37)
  have hx := Go.Deep.blk_alloc_new w (.cells #[.int .u64 V, .bool false, .slice A L cp] 37)
  have hc1 := (hb0.cell (p := ⟨a, 0, none⟩) (lt_of_cell ha.2.2)).trans ha.2.2
  have HH := Lib.hid (h.below hb0)
  have HW := Lib.hid hb0
  clear h hb0 ha
  go_enter Tryz.func101, Tryz.ntmps101
  go_upto_region 1 with (fail)
  generalize w.alloc (.cells #[.int .u64 V, .bool false, .slice A L cp] 37) = W at hx HH HW hc1 ⊢
  have x1 : W.cell? ⟨w.heap.size, 1, none⟩ = some (.bool false) := by simp [World.cell?, hx]
  clear hx
  go_wp2_with (go_at_call 46; refine (rpTry HH.out).mono ?_; intro e w3 hm; have HM := Lib.hid hm; obtain ⟨rfl, _⟩ := hm)
  go_end0
  exact HM.out.after HW.out

theorem rp_setP (s : Rs) (v : Int) (dv : Value) (a : Ac) (av th : Value) : (RpCells s dv a av th).setIfInBounds 14 (.int .i64 v) = RpCells { s with p := v } dv a av th := by simp [RpCells, Rs.need]
theorem Rs.Ok.withP {s : Rs} (ok : s.Ok) (v : Int) : ({ s with p := Rs.wr v } : Rs).Ok := ⟨ok.pow, ok.z0, ok.z1, ok.b0, ok.b1, ok.t0, ok.t1, ok.few, ok.isB, ok.h0, ok.tl, Rs.wr_in v⟩
theorem Rs.Ok.withC {s : Rs} {v : Bool} (ok : s.Ok) : ({ s with cl := v } : Rs).Ok := ⟨ok.pow, ok.z0, ok.z1, ok.b0, ok.b1, ok.t0, ok.t1, ok.few, ok.isB, ok.h0, ok.tl, ok.ps⟩
theorem rp_setC (s : Rs) (v : Bool) (dv : Value) (a : Ac) (av th : Value) : (RpCells s dv a av th).setIfInBounds 15 (.bool v) = RpCells { s with cl := v } dv a av th := by simp [RpCells, Rs.need]

set_option maxRecDepth 100000 in
set_option maxHeartbeats 1000000 in
/-- The tail is moved, no padding: the message's writing begins. -/
theorem rpClaim1Yes {w : World} {F : Nat → Prop} {g : Nat} {s : Rs} {dv : Value} (h : RpBare w F g s dv) {a b : Nat} (ha : Capt w F g a (.pointer (some ⟨g, 0, none⟩))) (hb : Capt w F g b (.int .i64 0)) (V : Nat) (A : Option Addr) (L cp : Nat) :
    Calls Tryz.prog 101 #[.agg #[.int .u64 V, .bool true, .slice A L cp], .pointer (some ⟨a, 0, none⟩), .pointer (some ⟨b, 0, none⟩)] w (RpMoved F g { s with p := Rs.wr (s.t + 0), cl := true, ph := .hdr } w) := by
  have hb0 := (Below.refl w.heap.size w).alloc (Nat.le_refl _) (.cells #[.int .u64 V, .bool true, .slice A L cp] 37)
  have hx := Go.Deep.blk_alloc_new w (.cells #[.int .u64 V, .bool true, .slice A L cp] 37)
  have hc1 := (hb0.cell (p := ⟨a, 0, none⟩) (lt_of_cell ha.2.2)).trans ha.2.2
  have hp1 := (hb0.cell (p := ⟨b, 0, none⟩) (lt_of_cell hb.2.2)).trans hb.2.2
  have hag : ¬ g = a := fun e => ha.2.1 e.symm
  have hbg : ¬ g = b := fun e => hb.2.1 e.symm
  have HH := Lib.hid (h.below hb0)
  have HW := Lib.hid hb0
  clear h hb0 ha hb
  go_enter Tryz.func101, Tryz.ntmps101
  go_upto_region 1 with (fail)
  generalize w.alloc (.cells #[.int .u64 V, .bool true, .slice A L cp] 37) = W at hx HH HW hc1 hp1 ⊢
  have x1 : W.cell? ⟨w.heap.size, 1, none⟩ = some (.bool true) := by simp [World.cell?, hx]
  clear hx
  obtain ⟨b0, bv, hblk⟩ := HH.out.blk
  have c13 := hblk.c13
  have c14 := hblk.c14
  have c15 := hblk.c15
  have f14 := hblk.free 14
  have f15 := hblk.free 15
  clear hblk
  go_upto_region 2 with (fail)
  go_upto_region 3 with (fail)
  go_region_held3 (fun w' => w'.cell? ⟨a, 0, none⟩ = some (.pointer (some ⟨g, 0, none⟩)) ∧ w'.cell? ⟨b, 0, none⟩ = some (.int .i64 0) ∧ w'.cell? ⟨g, 13, none⟩ = some (.int .i64 s.t)) (simp [*, World.cell?_setCell_far, World.cell?_setCell_other]) (fail)
  have hwr : IntKind.i64.wrap s.t = Rs.wr (s.t + 0) := by rw [Int.add_zero, IntKind.wrap_i64, Rs.wr, wrap64]
  rw [hwr]
  have HS := Lib.hid ((HH.out.store (s' := { s with p := Rs.wr (s.t + 0) }) 14 (.int .i64 (Rs.wr (s.t + 0))) (fun _ _ => rp_setP _ _ _ _ _ _) (HH.out.ok.withP _) rfl rfl).store (s' := { s with p := Rs.wr (s.t + 0), cl := true }) 15 (.bool true) (fun _ _ => rp_setC _ _ _ _ _ _) (HH.out.ok.withP _).withC rfl rfl)
  have HT : Hid (Touch F w ((W.setCell ⟨g, 14, none⟩ (.int .i64 (Rs.wr (s.t + 0)))).setCell ⟨g, 15, none⟩ (.bool true))) := Lib.hid (((Touch.of_below HW.out).setCell (p := ⟨g, 14, none⟩) HH.out.own _).setCell (p := ⟨g, 15, none⟩) HH.out.own _)
  have ha2 : ((W.setCell ⟨g, 14, none⟩ (.int .i64 (Rs.wr (s.t + 0)))).setCell ⟨g, 15, none⟩ (.bool true)).cell? ⟨a, 0, none⟩ = some (.pointer (some ⟨g, 0, none⟩)) := (World.cell?_setCell_far _ _ _ _ hag).trans ((World.cell?_setCell_far _ _ _ _ hag).trans hc1)
  have hp2 : ((W.setCell ⟨g, 14, none⟩ (.int .i64 (Rs.wr (s.t + 0)))).setCell ⟨g, 15, none⟩ (.bool true)).cell? ⟨b, 0, none⟩ = some (.int .i64 0) := (World.cell?_setCell_far _ _ _ _ hbg).trans ((World.cell?_setCell_far _ _ _ _ hbg).trans hp1)
  clear c13 c14 c15 f14 f15 x1 hc1 hp1 hwr
  generalize (W.setCell ⟨g, 14, none⟩ (.int .i64 (Rs.wr (s.t + 0)))).setCell ⟨g, 15, none⟩ (.bool true) = W2 at HS HT ha2 hp2 ⊢
  go_upto_region 4 with (fail)
  go_upto_region 5 with (fail)
  have HBD := Lib.hid ((Below.refl W2.heap.size W2).drew)
  have HC := Lib.hid (rpWrite (HS.out.below HBD.out))
  go_wp2_with (go_at_call 102; refine HC.out.mono ?_; intro e w3 hm; have HM := Lib.hid hm; obtain ⟨rfl, _⟩ := hm)
  go_end0
  exact (HM.out.after HBD.out).afterT HT.out
end Go.Proofs.YtaomkamdfbibbaaGreat
namespace Go.Proofs.YtaomkamdfbibbaaGreat
open Go.RowKit

theorem rp_jn (pad : Int) : Hd.jn (wrap32 pad) (-1) = Hd.jn pad (-1) := by
  have h : wrap32 pad = Hd.s32 pad := by unfold wrap32 Hd.s32; omega
  rw [h]
  unfold Hd.jn Hd.s32
  split <;> omega

set_option maxRecDepth 100000 in
set_option maxHeartbeats 1600000 in
/-- The tail is moved over padding: its header is written. -/
theorem rpClaim1Pad {w : World} {F : Nat → Prop} {g : Nat} {s : Rs} {dv : Value} (h : RpBare w F g s dv) {a b : Nat} (ha : Capt w F g a (.pointer (some ⟨g, 0, none⟩))) (pad : Int) (hnz : pad ≠ 0) (hb : Capt w F g b (.int .i64 pad)) (V : Nat) (A : Option Addr) (L cp : Nat) :
    Calls Tryz.prog 101 #[.agg #[.int .u64 V, .bool true, .slice A L cp], .pointer (some ⟨a, 0, none⟩), .pointer (some ⟨b, 0, none⟩)] w (RpMoved F g { s with p := Rs.wr (s.t + pad), cl := true, ph := .padd pad } w) := by
  have hb0 := (Below.refl w.heap.size w).alloc (Nat.le_refl _) (.cells #[.int .u64 V, .bool true, .slice A L cp] 37)
  have hx := Go.Deep.blk_alloc_new w (.cells #[.int .u64 V, .bool true, .slice A L cp] 37)
  have hc1 := (hb0.cell (p := ⟨a, 0, none⟩) (lt_of_cell ha.2.2)).trans ha.2.2
  have hp1 := (hb0.cell (p := ⟨b, 0, none⟩) (lt_of_cell hb.2.2)).trans hb.2.2
  have hFa := ha.1
  have hag : ¬ g = a := fun e => ha.2.1 e.symm
  have hbg : ¬ g = b := fun e => hb.2.1 e.symm
  have HH := Lib.hid (h.below hb0)
  have HW := Lib.hid hb0
  clear h hb0 ha hb
  go_enter Tryz.func101, Tryz.ntmps101
  go_upto_region 1 with (fail)
  generalize w.alloc (.cells #[.int .u64 V, .bool true, .slice A L cp] 37) = W at hx HH HW hc1 hp1 ⊢
  have x1 : W.cell? ⟨w.heap.size, 1, none⟩ = some (.bool true) := by simp [World.cell?, hx]
  clear hx
  obtain ⟨b0, bv, hblk⟩ := HH.out.blk
  have c13 := hblk.c13
  have c14 := hblk.c14
  have c15 := hblk.c15
  have f14 := hblk.free 14
  have f15 := hblk.free 15
  clear hblk
  go_upto_region 2 with (fail)
  go_upto_region 3 with (fail)
  go_region_held3 (fun w' => w'.cell? ⟨a, 0, none⟩ = some (.pointer (some ⟨g, 0, none⟩)) ∧ w'.cell? ⟨b, 0, none⟩ = some (.int .i64 pad) ∧ w'.cell? ⟨g, 13, none⟩ = some (.int .i64 s.t)) (simp [*, World.cell?_setCell_far, World.cell?_setCell_other]) (fail)
  have hwr : IntKind.i64.wrap (s.t + pad) = Rs.wr (s.t + pad) := by rw [IntKind.wrap_i64, Rs.wr, wrap64]
  rw [hwr]
  have HS := Lib.hid ((HH.out.store (s' := { s with p := Rs.wr (s.t + pad) }) 14 (.int .i64 (Rs.wr (s.t + pad))) (fun _ _ => rp_setP _ _ _ _ _ _) (HH.out.ok.withP _) rfl rfl).store (s' := { s with p := Rs.wr (s.t + pad), cl := true }) 15 (.bool true) (fun _ _ => rp_setC _ _ _ _ _ _) (HH.out.ok.withP _).withC rfl rfl)
  have HT : Hid (Touch F w ((W.setCell ⟨g, 14, none⟩ (.int .i64 (Rs.wr (s.t + pad)))).setCell ⟨g, 15, none⟩ (.bool true))) := Lib.hid (((Touch.of_below HW.out).setCell (p := ⟨g, 14, none⟩) HH.out.own _).setCell (p := ⟨g, 15, none⟩) HH.out.own _)
  have ha2 : ((W.setCell ⟨g, 14, none⟩ (.int .i64 (Rs.wr (s.t + pad)))).setCell ⟨g, 15, none⟩ (.bool true)).cell? ⟨a, 0, none⟩ = some (.pointer (some ⟨g, 0, none⟩)) := (World.cell?_setCell_far _ _ _ _ hag).trans ((World.cell?_setCell_far _ _ _ _ hag).trans hc1)
  have hp2 : ((W.setCell ⟨g, 14, none⟩ (.int .i64 (Rs.wr (s.t + pad)))).setCell ⟨g, 15, none⟩ (.bool true)).cell? ⟨b, 0, none⟩ = some (.int .i64 pad) := (World.cell?_setCell_far _ _ _ _ hbg).trans ((World.cell?_setCell_far _ _ _ _ hbg).trans hp1)
  clear c13 c14 c15 f14 f15 x1 hc1 hp1 hwr
  generalize (W.setCell ⟨g, 14, none⟩ (.int .i64 (Rs.wr (s.t + pad)))).setCell ⟨g, 15, none⟩ (.bool true) = W2 at HS HT ha2 hp2 ⊢
  go_upto_region 4 with (fail)
  have hdec : decide (pad = 0) = false := by simpa using hnz
  have hjn := rp_jn pad
  obtain ⟨Vp, hV, hVn⟩ : ∃ V : Nat, Hd.jn pad (-1) = (V : Int) ∧ (Hd.jn pad (-1)).toNat = V := rp_cast _ (Hd.jn_bounds _ _).1
  have HVN := Lib.hid hVn
  clear hVn
  go_upto_region 7 with (go_at_call 88; refine (record_any (wrap32 pad) (-1) _).mono ?_; rintro e w' ⟨rfl, rfl⟩; rw [hjn, hV])
  have HBD := Lib.hid ((Below.refl W2.heap.size W2).drew)
  have HS3 := Lib.hid (HS.out.below HBD.out)
  have k3 : W2.drew.cell? ⟨a, 0, none⟩ = some (.pointer (some ⟨g, 0, none⟩)) := ha2
  obtain ⟨b3, v3, hblk3⟩ := HS3.out.blk
  have HB3 := Lib.hid hblk3
  have t3 := hblk3.c13
  have z3 := hblk3.c0
  have o3 := hblk3.c1
  clear hblk3 ha2 hp2
  generalize W2.drew = W3 at HBD HS3 HB3 k3 t3 z3 o3 ⊢
  have hla := lt_of_cell k3
  have hlg := lt_of_cell t3
  have hga : ¬ a = g := fun e => hag e.symm
  go_region_held3 (fun w' => w'.cell? ⟨a, 0, none⟩ = some (.pointer (some ⟨g, 0, none⟩)) ∧ w'.cell? ⟨g, 0, none⟩ = some (.int .i64 s.B) ∧ w'.cell? ⟨g, 1, none⟩ = some (.int .i64 s.Z) ∧ w'.cell? ⟨g, 13, none⟩ = some (.int .i64 s.t)) (go_keep)
    (first
      | (go_at_call 27; refine (rpDo (HB3.out.below hb2) ⟨2, s.spot s.t, 8, Vp, 0, []⟩ none 0 0 103 #[] #[.pointer (some ⟨a, 0, none⟩)]).mono ?_; intro e wd has; have HAS := Lib.hid has; obtain ⟨rfl, hblkd, htd⟩ := has; have kd := (htd.cell (p := ⟨a, 0, none⟩) (lt_of_cell k2) hga).trans k2; have o0d := hblkd.c0; have o1d := hblkd.c1; have o13d := hblkd.c13; clear hblkd)
      | (go_at_call 80; refine (stSet (s.spot s.t) Vp _).mono ?_; rintro e x2 ⟨rfl, hq2⟩; have hb2 := hb1.trans (hq2.mono hb1.size); have k2 := (hb2.cell (p := ⟨a, 0, none⟩) hla).trans k3; have o02 := (hb2.cell (p := ⟨g, 0, none⟩) hlg).trans z3; have o12 := (hb2.cell (p := ⟨g, 1, none⟩) hlg).trans o3; have o132 := (hb2.cell (p := ⟨g, 13, none⟩) hlg).trans t3)
      | (go_at_call 48; refine (rpAtC HS3.out.ok s.t _).mono ?_; rintro e x1 ⟨rfl, hq1⟩; have hb1 := below_drew hq1; have k1 := (hb1.cell (p := ⟨a, 0, none⟩) hla).trans k3; have o01 := (hb1.cell (p := ⟨g, 0, none⟩) hlg).trans z3; have o11 := (hb1.cell (p := ⟨g, 1, none⟩) hlg).trans o3; have o131 := (hb1.cell (p := ⟨g, 13, none⟩) hlg).trans t3))
  all_goals
    go_wp2
    go_end0
    refine RpMoved.afterT (RpMoved.after (rp_asked (s' := { s with p := Rs.wr (s.t + pad), cl := true, ph := .padd pad }) HS3.out rfl hb2 (show some (⟨2, s.spot s.t, 8, (Hd.jn pad (-1)).toNat, 0, []⟩ : Ac) = _ by rw [HVN.out]) HAS.out (BytesIn.none _ _) fun w8 hk => ?_) HBD.out) HT.out
    exact ⟨a, rfl, ⟨.inl hFa, hga, (World.cell?_of_block (w := x2) (a := ⟨a, 0, none⟩) (hk _ hga (lt_of_cell k2))).trans k2⟩⟩
end Go.Proofs.YtaomkamdfbibbaaGreat
namespace Go.Proofs.YtaomkamdfbibbaaGreat
open Go.RowKit

theorem Three.below {w w' : World} {F : Nat → Prop} {g : Nat} {s : Rs} {a b c : Nat} (h : Three w F g s a b c) (hb : Below w.heap.size w w') : Three w' F g s a b c := ⟨h.1.below hb, h.2.1.below hb, h.2.2.below hb⟩
theorem Three.keep {w w' : World} {F F' : Nat → Prop} {g : Nat} {s : Rs} {a b c : Nat} (h : Three w F g s a b c) (hb : ∀ k, F k → k ≠ g → w'.heap[k]? = w.heap[k]?) (hF : ∀ k, F k → F' k) : Three w' F' g s a b c := ⟨(h.1.keep hb).mono hF, (h.2.1.keep hb).mono hF, (h.2.2.keep hb).mono hF⟩

theorem RpMovedG.after {F : Nat → Prop} {g : Nat} {s : Rs} {w W : World} {e : Ending} {w' : World} (h : RpMovedG F g s W e w') (hb : Below w.heap.size w W) (hg : g < w.heap.size) : RpMovedG F g s w e w' := ⟨h.1.after hb, (Touch.of_below hb).trans h.2.1, h.2.2.trans (hb.cell (p := ⟨g, 3, none⟩) hg)⟩

theorem rp_enter (a b c : Nat) (w : World) : (callFunc 120 #[.pointer (some ⟨a, 0, none⟩), .pointer (some ⟨b, 0, none⟩), .pointer (some ⟨c, 0, none⟩)]).run Tryz.prog w = .ok (.enter 120 #[.pointer (some ⟨a, 0, none⟩), .pointer (some ⟨b, 0, none⟩), .pointer (some ⟨c, 0, none⟩)]) w := by
  simp [go_sem]

/-- The bytes' copy is followed: its next access is asked for, or the length's. -/
theorem rpFollow {w : World} {F : Nat → Prop} {g : Nat} {s : Rs} {dv : Value} (h : RpBare w F g s dv) (hF : ∀ k, F k → k < w.heap.size) {a b c : Nat} (ht : Three w F g s a b c) {base top gc d : Nat} {v : Value}
    (hc : Cp w base top gc (.wr (s.spot s.p + 8) s.f) d (s.L - d) v []) (hd : d ≤ s.L) (hsep : ∀ k, (base ≤ k ∧ k < top) ∨ v.ownBlock = some k → F k ∧ k ≠ g ∧ k ≠ a ∧ k ≠ b ∧ k ≠ c ∧ (0 < s.L → dv.ownBlock ≠ some k)) :
    Calls Tryz.prog 118 #[.pointer (some ⟨g, 5, none⟩), .iface 161 (.pointer (some ⟨gc, 0, none⟩)), .func (.func 120) #[] #[.pointer (some ⟨a, 0, none⟩), .pointer (some ⟨b, 0, none⟩), .pointer (some ⟨c, 0, none⟩)]] w (RpMovedG F g (if d = s.L then { s with ph := .len } else { s with ph := .byt d }) w) := by
  by_cases hl : d = s.L
  · rw [if_pos hl]
    have hz : s.L - d = 0 := by omega
    rw [hz] at hc
    refine (stFollowNo hc g 5 (Q := fun w' => RpMovedG F g { s with ph := .len } w (.returned (.tuple #[])) w') #[.pointer (some ⟨a, 0, none⟩), .pointer (some ⟨b, 0, none⟩), .pointer (some ⟨c, 0, none⟩)] (by simp) (rp_enter a b c) fun W hW => ?_).mono ?_
    · refine (rpWrite11 (h.below hW) (ht.below hW)).mono ?_
      intro e w' hm
      have hm2 := hm.after hW h.lt
      obtain ⟨⟨rfl, _⟩, _⟩ := hm
      exact ⟨rfl, hm2⟩
    · rintro e w' ⟨rfl, hm⟩
      exact hm
  · rw [if_neg hl]
    obtain ⟨a0, av, hblk⟩ := h.blk
    refine (stFollowYes hc (by omega) hblk.st 120 #[] #[.pointer (some ⟨a, 0, none⟩), .pointer (some ⟨b, 0, none⟩), .pointer (some ⟨c, 0, none⟩)]).mono ?_
    rintro e w' ⟨rfl, W, A, l, cp, hW, ho, k0, k1, k2, rfl⟩
    have hgl := hblk.lt
    have has : RpAsked g s dv ⟨6, s.spot s.p + 8 + (d : Nat), (Cy.nx (s.L - d) : Nat), 0, 0, Mb.bl s.f d (Cy.nx (s.L - d))⟩ (.slice A l cp) (.func (.func 126) #[] #[.pointer (some ⟨w.heap.size + 1, 0, none⟩), .pointer (some ⟨w.heap.size, 0, none⟩), .pointer (some ⟨w.heap.size + 2, 0, none⟩)]) W (.returned (.tuple #[])) _ :=
      ⟨rfl, rp_seven (hblk.below hW) _ _ _, seven_touch1 W g 5 _ _ _⟩
    refine ⟨rp_askedS (s' := { s with ph := .byt d }) h rfl hW rfl has ?_ fun w2 hs hk => ?_, (Touch.of_below hW).trans (seven_touch1 W g 5 _ _ _), has.2.1.c3.trans hblk.c3.symm⟩
    · have hbi := (BytesIn.of_own ho).lt
      exact hbi.mono fun k h1 _ => ⟨.inr ⟨by have := h1.1; omega, h1.2⟩, by have := h1.1; omega⟩
    · have l0 := lt_of_cell k0
      have l1 := lt_of_cell k1
      have l2 := lt_of_cell k2
      have hne0 : w.heap.size ≠ g := by omega
      have hne1 : w.heap.size + 1 ≠ g := by omega
      have hne2 : w.heap.size + 2 ≠ g := by omega
      have hFk : ∀ k, F k → k ≠ g → w2.heap[k]? = w.heap[k]? := fun k hkF hkg => (hk k hkg (Nat.lt_of_lt_of_le (hF k hkF) hW.size)).trans (hW.block k (hF k hkF))
      refine ⟨w.heap.size + 1, w.heap.size, w.heap.size + 2, a, b, c, gc, base, top, v, rfl, ⟨.inr ⟨by omega, l1⟩, hne1, (World.cell?_of_block (w := W) (a := ⟨w.heap.size + 1, 0, none⟩) (hk _ hne1 l1)).trans k1⟩, ⟨.inr ⟨by omega, l0⟩, hne0, (World.cell?_of_block (w := W) (a := ⟨w.heap.size, 0, none⟩) (hk _ hne0 l0)).trans k0⟩, ⟨.inr ⟨by omega, l2⟩, hne2, (World.cell?_of_block (w := W) (a := ⟨w.heap.size + 2, 0, none⟩) (hk _ hne2 l2)).trans k2⟩, ht.keep hFk fun k hk => .inl hk, ?_, fun k hk2 => ?_, show d < s.L by omega⟩
      · refine hc.keep (Nat.le_trans hW.size hs) (fun k h1 h2 => ?_) fun k h1 => ?_
        · have := hsep k (.inl ⟨h1, h2⟩)
          exact hFk k this.1 this.2.1
        · have := hsep k (.inr h1)
          exact hFk k this.1 this.2.1
      · have h5 := hsep k hk2
        have h6 := hF k h5.1
        exact ⟨.inl h5.1, h5.2.1, by omega, by omega, by omega, h5.2.2.1, h5.2.2.2.1, h5.2.2.2.2.1, h5.2.2.2.2.2 (by omega)⟩
end Go.Proofs.YtaomkamdfbibbaaGreat
namespace Go.Proofs.YtaomkamdfbibbaaGreat
open Go.RowKit

theorem RpMovedG.narrow {F F2 : Nat → Prop} {g : Nat} {s : Rs} {w W : World} {e : Ending} {w' : World} (h : RpMovedG F2 g s W e w') (hb : Below w.heap.size w W) (hg : g < w.heap.size) (hF : ∀ k, F2 k → F k ∨ (w.heap.size ≤ k ∧ k < W.heap.size)) : RpMovedG F g s w e w' := ⟨h.1.narrow hb hF, (Touch.of_below hb).trans h.2.1, h.2.2.trans (hb.cell (p := ⟨g, 3, none⟩) hg)⟩

theorem rp_sep {w : World} {F : Nat → Prop} {g : Nat} {s : Rs} {dv : Value} (h : RpBare w F g s dv) {n top a b c : Nat} (hnm : n ≤ w.heap.size) (ha : a < w.heap.size) (hb : b < w.heap.size) (hc : c < w.heap.size) (k : Nat) (hk : (w.heap.size ≤ k ∧ k < top) ∨ Value.ownBlock (.slice none 0 0) = some k) :
    (F k ∨ (n ≤ k ∧ k < top)) ∧ k ≠ g ∧ k ≠ a ∧ k ≠ b ∧ k ≠ c ∧ (0 < s.L → dv.ownBlock ≠ some k) := by
  have hg := h.lt
  rcases hk with hk | hk
  · refine ⟨.inr ⟨by omega, hk.2⟩, by omega, by omega, by omega, by omega, fun hp e => ?_⟩
    have hx : 0 < (Mb.bl s.f 0 s.L).length := by rw [Mb.bl_length]; exact hp
    obtain ⟨A, cp, hv, hh⟩ := h.txt
    obtain ⟨b', off, e2, h1, h2, h3⟩ := hh hx
    rw [hv, e2] at e
    injection e with e
    simp only at e
    omega
  · cases hk

set_option maxRecDepth 100000 in
set_option maxHeartbeats 1600000 in
/-- The header was stored: the bytes' copy is made and followed. -/
theorem rpWrite1 {w : World} {F : Nat → Prop} {g : Nat} {s : Rs} {dv : Value} (h : RpBare w F g s dv) (hF : ∀ k, F k → k < w.heap.size) {a b c : Nat} (ht : Three w F g s a b c) (V : Nat) (D : Bool) (A : Option Addr) (L cp : Nat) :
    Calls Tryz.prog 117 #[.agg #[.int .u64 V, .bool D, .slice A L cp], .pointer (some ⟨a, 0, none⟩), .pointer (some ⟨b, 0, none⟩), .pointer (some ⟨c, 0, none⟩)] w (RpMovedG F g (if 0 = s.L then { s with ph := .len } else { s with ph := .byt 0 }) w) := by
  have hb0 := (Below.refl w.heap.size w).alloc (Nat.le_refl _) (.cells #[.int .u64 V, .bool D, .slice A L cp] 37)
  have hsp := h.ok.place_in s.p
  have hb1 := h.ok.b1
  have hfew := h.ok.few
  have hz1 := h.ok.z1
  have hsv : s.spot s.p = (s.B : Int) + s.place s.p := rfl
  have hnear : -4611686018427387904 ≤ s.spot s.p + 8 ∧ s.spot s.p + 8 ≤ 4611686018427387904 := by omega
  have hadd : IntKind.i64.wrap (s.spot s.p + 8) = s.spot s.p + 8 := IntWalk.i64_in _ (by omega)
  have HNE := Lib.hid hnear
  have HLL := Lib.hid (show s.L ≤ 131072 by omega)
  have hgl := h.lt
  have HH := Lib.hid (h.below hb0)
  have HT := Lib.hid (ht.below hb0)
  have HW := Lib.hid hb0
  have HFL := Lib.hid hF
  have hag := ht.1.2.1
  have hbg := ht.2.1.2.1
  have hcg := ht.2.2.2.1
  obtain ⟨s', hs'⟩ : ∃ s' : Rs, s' = (if 0 = s.L then { s with ph := .len } else { s with ph := .byt 0 }) := ⟨_, rfl⟩
  rw [← hs']
  have HS' := Lib.hid hs'
  obtain ⟨Ad, cd, hdv, _, _⟩ := h.dat
  subst hdv
  clear hs' h hb0 hsp hb1 hfew hz1 hsv hnear ht hF
  go_enter Tryz.func117, Tryz.ntmps117
  go_upto_region 1 with (fail)
  generalize w.alloc (.cells #[.int .u64 V, .bool D, .slice A L cp] 37) = W at HH HT HW ⊢
  have hca := HT.out.1.2.2
  have hcb := HT.out.2.1.2.2
  have hcc := HT.out.2.2.2.2
  have hla := lt_of_cell hca
  have hlb := lt_of_cell hcb
  have hlc := lt_of_cell hcc
  obtain ⟨a0, av, hblk⟩ := HH.out.blk
  have c3 := hblk.c3
  have hgW := hblk.lt
  clear hblk
  have hga : ¬ a = g := hag
  have hgb : ¬ b = g := hbg
  have hgc : ¬ c = g := hcg
  clear hag hbg hcg
  go_region_held3 (fun w' => w'.cell? ⟨a, 0, none⟩ = some (.pointer (some ⟨g, 0, none⟩)) ∧ w'.cell? ⟨b, 0, none⟩ = some (.int .i64 (s.spot s.p)) ∧ w'.cell? ⟨g, 3, none⟩ = some (.slice Ad s.L cd)) (go_keep)
    (first
      | (go_at_call 118; refine (rpFollow (HB1.out.wide (F' := fun k => F k ∨ (w.heap.size ≤ k ∧ k < w1.heap.size)) fun k hk => .inl hk) (fun k hk => hk.elim (fun hk => Nat.lt_of_lt_of_le (HFL.out k hk) hbW.size) fun hk => hk.2) (HT1.out.keep (fun _ _ _ => rfl) fun k hk => .inl hk) hc1 (Nat.zero_le _) (rp_sep HH.out HW.out.size hla hlb hlc)).mono ?_; intro e w4 hm; have HM := Lib.hid hm; obtain ⟨⟨rfl, _⟩, ht4, h34⟩ := hm; have o4 := h34.trans o1; have k4 := (ht4.cell (p := ⟨a, 0, none⟩) (lt_of_cell k1) hga).trans k1; have m4 := (ht4.cell (p := ⟨b, 0, none⟩) (lt_of_cell m1) hgb).trans m1)
      | (go_at_call 119; refine (in_any (s.spot s.p + 8) Ad s.L cd s.f W.drew HNE.out ((HH.out.below (Below.refl W.heap.size W).drew).txt.bytes) HLL.out).mono ?_; rintro e w1 ⟨gc, rfl, hc1, hq1⟩; have hb2 := below_drew hq1; have k1 := (hb2.cell (p := ⟨a, 0, none⟩) hla).trans hca; have m1 := (hb2.cell (p := ⟨b, 0, none⟩) hlb).trans hcb; have o1 := (hb2.cell (p := ⟨g, 3, none⟩) hgW).trans c3; have HB1 := Lib.hid (HH.out.below hb2); have HT1 := Lib.hid (HT.out.below hb2); have hbW := HW.out.trans (hb2.mono HW.out.size)))
  all_goals
    go_wp2
    go_end0
    rw [HS'.out]
    exact HM.out.narrow hbW hgl fun k hk => hk

/-- What a call leaves that turned blocks of the put alone: in the sense of what went on before. -/
theorem RpMoved.around {F F2 : Nat → Prop} {g : Nat} {s : Rs} {w W : World} {e : Ending} {w' : World} (h : RpMoved F2 g s W e w') (ht : Touch F w W) (hF : ∀ k, F2 k → F k ∨ (w.heap.size ≤ k ∧ k < W.heap.size)) : RpMoved F g s w e w' := by
  obtain ⟨he, F', hp, ht2, hF'⟩ := h
  refine ⟨he, F', hp, ⟨ht2.os.trans ht.os, ht2.tape.trans ht.tape, ht2.output.trans ht.output, Nat.le_trans ht.size ht2.size, fun k hk hn => (ht2.block k (Nat.lt_of_lt_of_le hk ht.size) fun e => ?_).trans (ht.block k hk hn)⟩, fun k hk => ?_⟩
  · rcases hF k e with e | e
    · exact hn e
    · omega
  · rcases hF' k hk with e | e
    · exact (hF k e).imp id fun e => ⟨e.1, Nat.lt_of_lt_of_le e.2 ht2.size⟩
    · exact .inr ⟨Nat.le_trans ht.size e.1, e.2⟩

set_option maxHeartbeats 800000 in
/-- A part of the bytes was stored: the next one, or the length. -/
theorem rpFollow1 {w : World} {F : Nat → Prop} {g : Nat} {s : Rs} {dv : Value} (h : RpBare w F g s dv) (hF : ∀ k, F k → k < w.heap.size) {em es eo a b c gc base top d : Nat} {v : Value}
    (hm : Capt w F g em (.iface 161 (.pointer (some ⟨gc, 0, none⟩)))) (hs : Capt w F g es (.pointer (some ⟨g, 5, none⟩))) (ho : Capt w F g eo (.func (.func 120) #[] #[.pointer (some ⟨a, 0, none⟩), .pointer (some ⟨b, 0, none⟩), .pointer (some ⟨c, 0, none⟩)])) (ht : Three w F g s a b c)
    (hc : Cp w base top gc (.wr (s.spot s.p + 8) s.f) d (s.L - d) v []) (hsep : ∀ k, (base ≤ k ∧ k < top) ∨ v.ownBlock = some k → F k ∧ k ≠ g ∧ k ≠ em ∧ k ≠ es ∧ k ≠ eo ∧ k ≠ a ∧ k ≠ b ∧ k ≠ c ∧ dv.ownBlock ≠ some k) (hd : d < s.L)
    (V : Nat) (D : Bool) (A : Option Addr) (L cp : Nat) {zs : List Int} (hz : BytesAt w (.slice A L cp) zs) :
    Calls Tryz.prog 126 #[.agg #[.int .u64 V, .bool D, .slice A L cp], .pointer (some ⟨em, 0, none⟩), .pointer (some ⟨es, 0, none⟩), .pointer (some ⟨eo, 0, none⟩)] w (RpMoved F g (if d + Cy.nx (s.L - d) = s.L then { s with ph := .len } else { s with ph := .byt (d + Cy.nx (s.L - d)) }) w) := by
  have hmine : ∀ k, Mine gc v k → F k ∧ k ≠ g ∧ k ≠ em ∧ k ≠ es ∧ k ≠ eo ∧ k ≠ a ∧ k ≠ b ∧ k ≠ c ∧ dv.ownBlock ≠ some k := fun k hk => by
    rcases hk with hk | hk
    · exact hsep k (.inl ⟨hk ▸ hc.above, hk ▸ hc.under⟩)
    · exact hsep k (.inr hk)
  have hnl := Cy.nx_le (s.L - d)
  obtain ⟨s', hs'⟩ : ∃ s' : Rs, s' = (if d + Cy.nx (s.L - d) = s.L then { s with ph := .len } else { s with ph := .byt (d + Cy.nx (s.L - d)) }) := ⟨_, rfl⟩
  rw [← hs']
  refine (stFollow1 hc (by omega) hm.2.2 hs.2.2 ho.2.2 (fun e => (hmine _ e).2.2.1 rfl) (fun e => (hmine _ e).2.2.2.1 rfl) (fun e => (hmine _ e).2.2.2.2.1 rfl) V D A L cp hz (fun e => by cases e) (Q := fun w' => RpMoved F g s' w (.returned (.tuple #[])) w') fun W v' hc' ht' hl' => ?_).mono ?_
  · have hTF : Touch F w W := ht'.mono fun k hk => (hmine k hk).1
    obtain ⟨a0, av, hblk⟩ := h.blk
    have hgM : ¬ Mine gc v g := fun e => (hmine g e).2.1 rfl
    have hk3 : ∀ q, q ≠ g → F q → (q = a ∨ q = b ∨ q = c) → W.heap[q]? = w.heap[q]? := fun q _ hq hq2 => ht'.block q (hF q hq) fun e => by
      have := hmine q e
      omega
    have hb : RpBare W (fun k => F k ∨ (w.heap.size ≤ k ∧ k < W.heap.size)) g s dv :=
      ⟨⟨a0, av, hblk.of_block (ht'.block g hblk.lt hgM)⟩, .inl h.own, h.ok, h.dat, (h.txt.ownK.keep ht'.size fun k hk hlt => ht'.block k hlt fun e => (hmine k e).2.2.2.2.2.2.2.2 hk.2.2).mono fun k hk _ => ⟨.inl hk.1.1, hk.1.2⟩⟩
    have ht3 : Three W (fun k => F k ∨ (w.heap.size ≤ k ∧ k < W.heap.size)) g s a b c := by
      have cap : ∀ {q : Nat} {u : Value}, Capt w F g q u → (q = a ∨ q = b ∨ q = c) → Capt W (fun k => F k ∨ (w.heap.size ≤ k ∧ k < W.heap.size)) g q u := fun hq h2 => ⟨.inl hq.1, hq.2.1, (World.cell?_of_block (w := w) (a := ⟨_, 0, none⟩) (hk3 _ hq.2.1 hq.1 h2)).trans hq.2.2⟩
      exact ⟨cap ht.1 (.inl rfl), cap ht.2.1 (.inr (.inl rfl)), cap ht.2.2 (.inr (.inr rfl))⟩
    have hsub : s.L - d - Cy.nx (s.L - d) = s.L - (d + Cy.nx (s.L - d)) := by omega
    rw [hsub] at hc'
    have hlt3 : ∀ {q : Nat} {u : Value}, Capt w F g q u → q < w.heap.size := fun hq => hF _ hq.1
    have la := hlt3 ht.1
    have lb := hlt3 ht.2.1
    have lc := hlt3 ht.2.2
    have hgl := hblk.lt
    have hdl : ∀ k, dv.ownBlock = some k → k < w.heap.size := fun k hk => by
      have hx : 0 < (Mb.bl s.f 0 s.L).length := by rw [Mb.bl_length]; omega
      obtain ⟨A', cp', hv, hh⟩ := h.txt
      obtain ⟨b', off, e2, h1, h2, h3⟩ := hh hx
      rw [hv, e2] at hk
      injection hk with hk
      simp only at hk
      omega
    refine (rpFollow hb (fun k hk => hk.elim (fun hk => Nat.lt_of_lt_of_le (hF k hk) ht'.size) fun hk => hk.2) ht3 hc' (by omega) fun k hk => ?_).mono fun e w' hm => ?_
    · have key : (F k ∧ k ≠ g ∧ k ≠ em ∧ k ≠ es ∧ k ≠ eo ∧ k ≠ a ∧ k ≠ b ∧ k ≠ c ∧ dv.ownBlock ≠ some k) ∨ (w.heap.size ≤ k ∧ k < W.heap.size) := by
        rcases hk with hk | hk
        · exact .inl (hsep k (.inl hk))
        · rcases hl' k hk with e | e
          · exact .inl (hsep k (.inr e))
          · exact .inr ⟨e, (hc'.own.ge hk).2⟩
      rcases key with h5 | h5
      · exact ⟨.inl h5.1, h5.2.1, h5.2.2.2.2.2.1, h5.2.2.2.2.2.2.1, h5.2.2.2.2.2.2.2.1, fun _ => h5.2.2.2.2.2.2.2.2⟩
      · exact ⟨.inr h5, by omega, by omega, by omega, by omega, fun _ e => by have := hdl k e; omega⟩
    · have h6 := hm.1.around hTF fun k hk => hk
      rw [← hs'] at h6
      obtain ⟨rfl, _⟩ := hm.1
      exact ⟨rfl, h6⟩
  · rintro e w' ⟨rfl, hm⟩
    exact hm
end Go.Proofs.YtaomkamdfbibbaaGreat
namespace Go.Proofs.YtaomkamdfbibbaaGreat
open Go.RowKit

theorem seven_size (W : World) (g o : Nat) (b : Ac) (bv th : Value) : (seven W g o b bv th).heap.size = W.heap.size := by simp [seven, World.setCell]

theorem PutAt.bare {w : World} {F : Nat → Prop} {g : Nat} {s : Rs} {A : Option Addr} {L c : Nat} {a : Ac} {av th : Value} (hk : RpBlk w g s (.slice A L c) a av th) (hg : F g) (hok : s.Ok) (ht : BytesIn (fun k => F k ∧ k ≠ g) w (.slice A L c) (Mb.bl s.f 0 s.L)) (hl : L ≤ c) (hc : c ≤ 9223372036854775807) {W : World} (hW : Below w.heap.size w W) :
    RpBare (seven W g 5 Ac.zero (.slice none 0 0) .nilFunc) F g s (.slice A L c) := by
  have hL : L = s.L := by
    obtain ⟨A', c', e, _⟩ := ht
    injection e with _ e _
    rw [e, Mb.bl_length]
  subst hL
  have hT := seven_touch1 W g 5 Ac.zero (.slice none 0 0) .nilFunc
  exact ⟨⟨_, _, rp_seven (hk.below hW) _ _ _⟩, hg, hok, ⟨A, c, rfl, hl, hc⟩, (ht.below hW).keep hT.size fun k hk hlt => hT.block k hlt hk.2⟩

/-- A byte is none of a put's cells. -/
theorem rp_noByte {w : World} {g : Nat} {s : Rs} {a : Ac} {A A2 : Option Addr} {l l2 c c2 : Nat} {k : FuncId} {rc caps : Array Value} (h : RpBlk w g s (.slice A l c) a (.slice A2 l2 c2) (.func (.func k) rc caps)) (i : Nat) (v : Int) : w.cell? ⟨g, i, none⟩ ≠ some (.int .u8 v) := by
  intro e
  have h' : w.heap[g]? = some (.cells (RpCells s (.slice A l c) a (.slice A2 l2 c2) (.func (.func k) rc caps)) 80 (0, 0)) := h
  simp only [World.cell?, h'] at e
  rcases Nat.lt_or_ge i 17 with hi | hi
  · rcases (by omega : i = 0 ∨ i = 1 ∨ i = 2 ∨ i = 3 ∨ i = 4 ∨ i = 5 ∨ i = 6 ∨ i = 7 ∨ i = 8 ∨ i = 9 ∨ i = 10 ∨ i = 11 ∨ i = 12 ∨ i = 13 ∨ i = 14 ∨ i = 15 ∨ i = 16) with h | h | h | h | h | h | h | h | h | h | h | h | h | h | h | h | h <;> (subst h; simp [RpCells] at e)
  · have : (RpCells s (.slice A l c) a (.slice A2 l2 c2) (.func (.func k) rc caps))[i]? = none := by
      rw [Array.getElem?_eq_none]
      simp [RpCells]
      exact hi
    simp [this] at e

theorem rp_bytes {w w' : World} {g : Nat} {s : Rs} {a : Ac} {A A2 : Option Addr} {l l2 c c2 : Nat} {k : FuncId} {rc caps : Array Value} (h : RpBlk w g s (.slice A l c) a (.slice A2 l2 c2) (.func (.func k) rc caps)) {v : Value} {xs : List Int} (hv : BytesAt w v xs) (ht : Touch (fun k => k = g) w w') : BytesAt w' v xs := by
  obtain ⟨A', c', e, hh⟩ := hv
  refine ⟨A', c', e, fun hp => ?_⟩
  obtain ⟨b, off, e1, hb, hcs⟩ := hh hp
  have hbg : b ≠ g := fun e => by
    subst e
    exact rp_noByte h _ _ (hcs 0 hp)
  exact ⟨b, off, e1, Nat.lt_of_lt_of_le hb ht.size, fun i hi => (World.cell?_of_block (w := w) (a := ⟨b, off + i, none⟩) (ht.block b hb hbg)).trans (hcs i hi)⟩

set_option maxHeartbeats 1000000 in
theorem rpStepsTake {w : World} {F : Nat → Prop} {g : Nat} {s : Rs} (h : PutAt w F g s) (hF : ∀ k, F k → k < w.heap.size) (x : An) (hx : x.V < 18446744073709551616) (A : Option Addr) (l c : Nat) (hB : BytesAt w (.slice A l c) x.bs) :
    Calls Tryz.prog 20 #[.pointer (some ⟨g, 5, none⟩), .agg #[.int .u64 x.V, .bool x.D, .slice A l c]] w (RpMoved F g (s.take x) w) := by
  obtain ⟨Ad, Ld, cd, a, av, th, hblk, hFg, hok, htxt, hl, hc, hth, hnx⟩ := h
  have hgl := hblk.lt
  have hbare : ∀ W, Below w.heap.size w W → RpBare (seven W g 5 Ac.zero (.slice none 0 0) .nilFunc) F g s (.slice Ad Ld cd) := fun W hW => PutAt.bare hblk hFg hok htxt hl hc hW
  have hkeep : ∀ W, Below w.heap.size w W → ∀ k, F k → k ≠ g → (seven W g 5 Ac.zero (.slice none 0 0) .nilFunc).heap[k]? = w.heap[k]? := fun W hW k hk hkg =>
    ((seven_touch1 W g 5 Ac.zero (.slice none 0 0) .nilFunc).block k (Nat.lt_of_lt_of_le (hF k hk) hW.size) hkg).trans (hW.block k (hF k hk))
  have hFW : ∀ W, Below w.heap.size w W → ∀ k, F k → k < (seven W g 5 Ac.zero (.slice none 0 0) .nilFunc).heap.size := fun W hW k hk => by rw [seven_size]; exact Nat.lt_of_lt_of_le (hF k hk) hW.size
  have hTF : ∀ W, Below w.heap.size w W → Touch F w (seven W g 5 Ac.zero (.slice none 0 0) .nilFunc) := fun W hW => (Touch.of_below hW).trans ((seven_touch1 W g 5 _ _ _).mono fun k hk => by have e : k = g := hk; rw [e]; exact hFg)
  have fin : ∀ {k : FuncId} {caps : Array Value} (s' : Rs) (hthv : th = .func (.func k) #[] caps) (args : Array Value) (ha : (#[] : Array Value).push (.agg #[.int .u64 x.V, .bool x.D, .slice A l c]) ++ caps = args) (he : ∀ w, (callFunc k args).run Tryz.prog w = .ok (.enter k args) w)
      (H : ∀ W, Below w.heap.size w W → Calls Tryz.prog k args (seven W g 5 Ac.zero (.slice none 0 0) .nilFunc) (RpMoved F g s' (seven W g 5 Ac.zero (.slice none 0 0) .nilFunc))),
      Calls Tryz.prog 20 #[.pointer (some ⟨g, 5, none⟩), .agg #[.int .u64 x.V, .bool x.D, .slice A l c]] w (RpMoved F g s' w) := by
    intro k caps s' hthv args ha he H
    subst hthv
    refine (stTakeYes hblk.st x.V x.D A l c (Q := fun w' => RpMoved F g s' w (.returned (.tuple #[])) w') args ha he fun W hW => (H W hW).mono fun e w' hm => ?_).mono ?_
    · have h2 := hm.afterT (hTF W hW)
      obtain ⟨rfl, _⟩ := hm
      exact ⟨rfl, h2⟩
    · rintro e w' ⟨rfl, hm⟩
      exact hm
  unfold ThenIs at hth
  unfold Rs.take
  cases hph : s.ph with
  | ask =>
    rw [hph] at hth
    obtain ⟨b, e, hb⟩ := hth
    exact fin _ e _ (by simp) (fun w => by simp [go_sem]) fun W hW => rpBegin1 (hbare W hW) (hb.keep (hkeep W hW)).2.2 hb.2.1 x.V x.D A l c
  | tail =>
    rw [hph] at hth
    obtain ⟨b, e, hb⟩ := hth
    exact fin _ e _ (by simp) (fun w => by simp [go_sem]) fun W hW => rpTry1 (hbare W hW) (hFW W hW) (hb.keep (hkeep W hW)).2.2 hb.2.1 x.V x.D A l c
  | head1 =>
    rw [hph] at hth
    obtain ⟨b1, b2, b3, on, e, h1, h2, h3, h4⟩ := hth
    exact fin _ e _ (by simp) (fun w => by simp [go_sem]) fun W hW => rpAwait1Tail (hbare W hW) (hFW W hW) (h1.keep (hkeep W hW)) (h2.keep (hkeep W hW)) (h3.keep (hkeep W hW)) (OnIs.keep h4 (hkeep W hW) fun _ hk => hk) x.V hx x.D A l c
  | head2 gap =>
    rw [hph] at hth
    obtain ⟨b1, b2, b3, on, e, h1, h2, h3, h4⟩ := hth
    exact fin _ e _ (by simp) (fun w => by simp [go_sem]) fun W hW => rpAwait1Gap (hbare W hW) (hFW W hW) gap (h1.keep (hkeep W hW)) (h2.keep (hkeep W hW)) (h3.keep (hkeep W hW)) (OnIs.keep h4 (hkeep W hW) fun _ hk => hk) x.V hx x.D A l c
  | copy1 =>
    rw [hph] at hth
    obtain ⟨b3, on, e, h3, h4⟩ := hth
    exact fin _ e _ (by simp) (fun w => by simp [go_sem]) fun W hW => rpAwait11Tail (hbare W hW) (hFW W hW) (h3.keep (hkeep W hW)) (OnIs.keep h4 (hkeep W hW) fun _ hk => hk) x.V x.D A l c
  | copy2 gap =>
    rw [hph] at hth
    obtain ⟨b3, on, e, h3, h4⟩ := hth
    exact fin _ e _ (by simp) (fun w => by simp [go_sem]) fun W hW => rpAwait11Gap (hbare W hW) gap (h3.keep (hkeep W hW)) (OnIs.keep h4 (hkeep W hW) fun _ hk => hk) x.V x.D A l c
  | cas pad =>
    rw [hph] at hth
    obtain ⟨b1, b2, e, h1, h2⟩ := hth
    refine fin _ e _ (by simp; rfl) (fun w => by simp [go_sem]) fun W hW => ?_
    cases hD : x.D with
    | false =>
      simp only [if_true]
      exact rpClaim1No (hbare W hW) (h1.keep (hkeep W hW)) x.V A l c
    | true =>
      by_cases hp : pad = 0
      · subst hp
        simp only [if_true]
        exact rpClaim1Yes (hbare W hW) (h1.keep (hkeep W hW)) (h2.keep (hkeep W hW)) x.V A l c
      · simp only [if_neg hp]
        exact rpClaim1Pad (hbare W hW) (h1.keep (hkeep W hW)) pad hp (h2.keep (hkeep W hW)) x.V A l c
  | padd pad =>
    rw [hph] at hth
    obtain ⟨b1, e, h1⟩ := hth
    exact fin _ e _ (by simp) (fun w => by simp [go_sem]) fun W hW => rpClaim11 (hbare W hW) (h1.keep (hkeep W hW)) x.V x.D A l c
  | hdr =>
    rw [hph] at hth
    obtain ⟨b1, b2, b3, e, h1⟩ := hth
    refine fin _ e _ (by simp) (fun w => by simp [go_sem]) fun W hW => (rpWrite1 (hbare W hW) (hFW W hW) (h1.keep (hkeep W hW) fun _ hk => hk) x.V x.D A l c).mono fun e w' hm => ?_
    by_cases hz : s.L = 0
    · have := hm.1
      rw [if_pos hz.symm] at this
      simp only [if_pos hz]
      exact this
    · have := hm.1
      rw [if_neg (fun e => hz e.symm)] at this
      simp only [if_neg hz]
      exact this
  | byt d =>
    rw [hph] at hth
    obtain ⟨em, es, eo, b1, b2, b3, gc, base, top, v, e, h1, h2, h3, h4, h5, h6, h7⟩ := hth
    refine fin _ e _ (by simp; rfl) (fun w => by simp [go_sem]) fun W hW => ?_
    have hT := hTF W hW
    obtain ⟨rfl, hav⟩ := hnx ⟨6, s.spot s.p + 8 + (d : Nat), (Cy.nx (s.L - d) : Nat), 0, 0, Mb.bl s.f d (Cy.nx (s.L - d))⟩ (by unfold Rs.next; rw [hph])
    obtain ⟨Av, cv, hav, _⟩ := hav
    subst hav
    have hblkW := hblk.below hW
    rw [e] at hblkW
    exact rpFollow1 (hbare W hW) (hFW W hW) (h1.keep (hkeep W hW)) (h2.keep (hkeep W hW)) (h3.keep (hkeep W hW)) (h4.keep (hkeep W hW) fun _ hk => hk) (h5.keep hT.size (fun k k1 k2 => hkeep W hW k (h6 k (.inl ⟨k1, k2⟩)).1 (h6 k (.inl ⟨k1, k2⟩)).2.1) fun k k1 => hkeep W hW k (h6 k (.inr k1)).1 (h6 k (.inr k1)).2.1) h6 h7 x.V x.D A l c
      (rp_bytes (k := 126) (rc := #[]) (caps := _) hblkW (hB.below hW) (seven_touch1 W g 5 _ _ _))
  | len =>
    rw [hph] at hth
    exact fin _ hth _ (by simp) (fun w => by simp [go_sem]) fun W hW => rpWrite111 (hbare W hW) x.V x.D A l c
  | fin =>
    rw [hph] at hth
    have e : th = .nilFunc := hth
    subst e
    refine (stTakeNo hblk.c11 x.V x.D A l c).mono ?_
    rintro e w' ⟨rfl, hb⟩
    refine ⟨rfl, F, ⟨Ad, Ld, cd, a, av, _, hblk.below hb, hFg, hok, htxt.below hb, hl, hc, ?_, fun b hb' => ?_⟩, Touch.of_below hb, fun k hk => .inl hk⟩
    · unfold ThenIs
      rw [hph]
    · unfold Rs.next at hb'
      rw [hph] at hb'
      cases hb'
end Go.Proofs.YtaomkamdfbibbaaGreat
namespace Go.Proofs.YtaomkamdfbibbaaGreat
open Go.RowKit

/-- A put: one that goes on, or one that never began (its ring's size, its fault). -/
inductive Pm where
  | live (s : Rs) | dead (Z er : Int)
namespace Pm
def next : Pm → Option Ac
  | .live s => s.next
  | .dead _ _ => none
def take : Pm → An → Pm
  | .live s, x => .live (s.take x)
  | .dead Z er, _ => .dead Z er
def busy : Pm → Bool
  | .live s => s.next.isSome
  | .dead _ _ => false
def size : Pm → Int
  | .live s => s.Z
  | .dead Z _ => Z
def fault : Pm → Int
  | .live s => s.er
  | .dead _ er => er
def pos : Pm → Int
  | .live s => s.p
  | .dead _ _ => 0
def has : Pm → Bool
  | .live s => s.cl
  | .dead _ _ => false
/-- How it ended: a position, an error. -/
def result (m : Pm) : Int × Int := if m.size = 0 then (0, 1) else if m.busy = true then (0, 10) else if m.fault = 0 then (m.pos, 0) else (0, m.fault)
end Pm

/-- The cells of a put that never began. -/
def PxCells (B Z er : Int) : Array Value :=
  #[.int .i64 B, .int .i64 Z, .int .i32 0, .slice none 0 0, .int .i64 0, .int .i64 0, .int .i64 0, .int .i64 0, .int .u64 0, .int .u64 0, .slice none 0 0, .nilFunc, .int .i64 0, .int .i64 0, .int .i64 0, .bool false, .int .i64 er]
/-- A put stands in the blocks F, its own block is g. -/
def PmAt (w : World) (F : Nat → Prop) (g : Nat) : Pm → Prop
  | .live s => PutAt w F g s
  | .dead Z er => F g ∧ ∃ B, w.heap[g]? = some (.cells (PxCells B Z er) 80 (0, 0))

/-- What a call on a put leaves. -/
def PmMoved (F : Nat → Prop) (g : Nat) (m : Pm) (w : World) (e : Ending) (w' : World) : Prop :=
  e = .returned (.tuple #[]) ∧ ∃ F', PmAt w' F' g m ∧ Touch F w w' ∧ ∀ k, F' k → F k ∨ (w.heap.size ≤ k ∧ k < w'.heap.size)

theorem PutAt.below {w w' : World} {F : Nat → Prop} {g : Nat} {s : Rs} (h : PutAt w F g s) (hs : w.heap.size ≤ w'.heap.size) (hb : ∀ k, F k → w'.heap[k]? = w.heap[k]?) : PutAt w' F g s := by
  obtain ⟨A, L, c, a, av, th, h1, h2, h3, h4, h5, h6, h7, h8⟩ := h
  have hg := hb g h2
  have hc : ∀ {a : Nat} {v : Value}, Capt w F g a v → Capt w' F g a v := fun h => h.keep fun k hk _ => hb k hk
  have ho : ∀ {o : Option Int} {v : Value}, OnIs w F g o v → OnIs w' F g o v := fun h => OnIs.keep h (fun k hk _ => hb k hk) fun _ hk => hk
  refine ⟨A, L, c, a, av, th, h1.of_block hg, h2, h3, h4.keep hs fun k hk _ => hb k hk.1, h5, h6, ?_, fun b hb' => ⟨(h8 b hb').1, (h8 b hb').2.keep hs fun k hk _ => hb k hk.1⟩⟩
  unfold ThenIs at h7 ⊢
  cases hph : s.ph with
  | ask => rw [hph] at h7; obtain ⟨a, e, h⟩ := h7; exact ⟨a, e, hc h⟩
  | tail => rw [hph] at h7; obtain ⟨a, e, h⟩ := h7; exact ⟨a, e, hc h⟩
  | head1 => rw [hph] at h7; obtain ⟨a, b, c, on, e, k1, k2, k3, k4⟩ := h7; exact ⟨a, b, c, on, e, hc k1, hc k2, hc k3, ho k4⟩
  | head2 gap => rw [hph] at h7; obtain ⟨a, b, c, on, e, k1, k2, k3, k4⟩ := h7; exact ⟨a, b, c, on, e, hc k1, hc k2, hc k3, ho k4⟩
  | copy1 => rw [hph] at h7; obtain ⟨c, on, e, k3, k4⟩ := h7; exact ⟨c, on, e, hc k3, ho k4⟩
  | copy2 gap => rw [hph] at h7; obtain ⟨c, on, e, k3, k4⟩ := h7; exact ⟨c, on, e, hc k3, ho k4⟩
  | cas pad => rw [hph] at h7; obtain ⟨a, b, e, k1, k2⟩ := h7; exact ⟨a, b, e, hc k1, hc k2⟩
  | padd pad => rw [hph] at h7; obtain ⟨a, e, k1⟩ := h7; exact ⟨a, e, hc k1⟩
  | hdr => rw [hph] at h7; obtain ⟨a, b, c, e, k1, k2, k3⟩ := h7; exact ⟨a, b, c, e, hc k1, hc k2, hc k3⟩
  | byt d =>
    rw [hph] at h7
    obtain ⟨em, es, eo, b1, b2, b3, gc, base, top, v, e, k1, k2, k3, ⟨k4, k5, k6⟩, k7, k8, k9⟩ := h7
    exact ⟨em, es, eo, b1, b2, b3, gc, base, top, v, e, hc k1, hc k2, hc k3, ⟨hc k4, hc k5, hc k6⟩, k7.keep hs (fun k x y => hb k (k8 k (.inl ⟨x, y⟩)).1) fun k x => hb k (k8 k (.inr x)).1, k8, k9⟩
  | len => rw [hph] at h7; exact h7
  | fin => rw [hph] at h7; exact h7

theorem PutAt.wide {w : World} {F F' : Nat → Prop} {g : Nat} {s : Rs} (h : PutAt w F g s) (hF : ∀ k, F k → F' k) : PutAt w F' g s := by
  obtain ⟨A, L, c, a, av, th, h1, h2, h3, h4, h5, h6, h7, h8⟩ := h
  have hc : ∀ {a : Nat} {v : Value}, Capt w F g a v → Capt w F' g a v := fun h => h.mono hF
  have ho : ∀ {o : Option Int} {v : Value}, OnIs w F g o v → OnIs w F' g o v := fun h => OnIs.keep h (fun k hk _ => rfl) hF
  refine ⟨A, L, c, a, av, th, h1, hF g h2, h3, h4.mono fun k hk _ => ⟨hF k hk.1, hk.2⟩, h5, h6, ?_, fun b hb' => ⟨(h8 b hb').1, (h8 b hb').2.mono fun k hk _ => ⟨hF k hk.1, hk.2⟩⟩⟩
  unfold ThenIs at h7 ⊢
  cases hph : s.ph with
  | ask => rw [hph] at h7; obtain ⟨a, e, h⟩ := h7; exact ⟨a, e, hc h⟩
  | tail => rw [hph] at h7; obtain ⟨a, e, h⟩ := h7; exact ⟨a, e, hc h⟩
  | head1 => rw [hph] at h7; obtain ⟨a, b, c, on, e, k1, k2, k3, k4⟩ := h7; exact ⟨a, b, c, on, e, hc k1, hc k2, hc k3, ho k4⟩
  | head2 gap => rw [hph] at h7; obtain ⟨a, b, c, on, e, k1, k2, k3, k4⟩ := h7; exact ⟨a, b, c, on, e, hc k1, hc k2, hc k3, ho k4⟩
  | copy1 => rw [hph] at h7; obtain ⟨c, on, e, k3, k4⟩ := h7; exact ⟨c, on, e, hc k3, ho k4⟩
  | copy2 gap => rw [hph] at h7; obtain ⟨c, on, e, k3, k4⟩ := h7; exact ⟨c, on, e, hc k3, ho k4⟩
  | cas pad => rw [hph] at h7; obtain ⟨a, b, e, k1, k2⟩ := h7; exact ⟨a, b, e, hc k1, hc k2⟩
  | padd pad => rw [hph] at h7; obtain ⟨a, e, k1⟩ := h7; exact ⟨a, e, hc k1⟩
  | hdr => rw [hph] at h7; obtain ⟨a, b, c, e, k1, k2, k3⟩ := h7; exact ⟨a, b, c, e, hc k1, hc k2, hc k3⟩
  | byt d =>
    rw [hph] at h7
    obtain ⟨em, es, eo, b1, b2, b3, gc, base, top, v, e, k1, k2, k3, ⟨k4, k5, k6⟩, k7, k8, k9⟩ := h7
    exact ⟨em, es, eo, b1, b2, b3, gc, base, top, v, e, hc k1, hc k2, hc k3, ⟨hc k4, hc k5, hc k6⟩, k7, fun k hk => ⟨hF k (k8 k hk).1, (k8 k hk).2⟩, k9⟩
  | len => rw [hph] at h7; exact h7
  | fin => rw [hph] at h7; exact h7

theorem PmAt.keep {w w' : World} {F : Nat → Prop} {g : Nat} {m : Pm} (h : PmAt w F g m) (hs : w.heap.size ≤ w'.heap.size) (hb : ∀ k, F k → w'.heap[k]? = w.heap[k]?) : PmAt w' F g m := by
  cases m with
  | live s => exact PutAt.below h hs hb
  | dead Z er =>
    obtain ⟨h1, B, h2⟩ := h
    exact ⟨h1, B, (hb g h1).trans h2⟩
theorem PmAt.wide {w : World} {F F' : Nat → Prop} {g : Nat} {m : Pm} (h : PmAt w F g m) (hF : ∀ k, F k → F' k) : PmAt w F' g m := by
  cases m with
  | live s => exact PutAt.wide h hF
  | dead Z er =>
    obtain ⟨h1, B, h2⟩ := h
    exact ⟨hF g h1, B, h2⟩

/-- Something goes on where, and only where, there is a next access. -/
theorem PutAt.thenIs {w : World} {F : Nat → Prop} {g : Nat} {s : Rs} {dv th : Value} (h : ThenIs w F g s dv th) : (s.next = none ∧ th = .nilFunc) ∨ (s.next ≠ none ∧ ∃ k rc caps, th = .func (.func k) rc caps) := by
  unfold ThenIs at h
  unfold Rs.next
  cases hph : s.ph with
  | fin => rw [hph] at h; exact .inl ⟨rfl, h⟩
  | len => rw [hph] at h; exact .inr ⟨by simp, _, _, _, h⟩
  | ask => rw [hph] at h; obtain ⟨_, e, _⟩ := h; exact .inr ⟨by simp, _, _, _, e⟩
  | tail => rw [hph] at h; obtain ⟨_, e, _⟩ := h; exact .inr ⟨by simp, _, _, _, e⟩
  | head1 => rw [hph] at h; obtain ⟨_, _, _, _, e, _⟩ := h; exact .inr ⟨by simp, _, _, _, e⟩
  | head2 gap => rw [hph] at h; obtain ⟨_, _, _, _, e, _⟩ := h; exact .inr ⟨by simp, _, _, _, e⟩
  | copy1 => rw [hph] at h; obtain ⟨_, _, e, _⟩ := h; exact .inr ⟨by simp, _, _, _, e⟩
  | copy2 gap => rw [hph] at h; obtain ⟨_, _, e, _⟩ := h; exact .inr ⟨by simp, _, _, _, e⟩
  | cas pad => rw [hph] at h; obtain ⟨_, _, e, _⟩ := h; exact .inr ⟨by simp, _, _, _, e⟩
  | padd pad => rw [hph] at h; obtain ⟨_, e, _⟩ := h; exact .inr ⟨by simp, _, _, _, e⟩
  | hdr => rw [hph] at h; obtain ⟨_, _, _, e, _⟩ := h; exact .inr ⟨by simp, _, _, _, e⟩
  | byt d => rw [hph] at h; obtain ⟨_, _, _, _, _, _, _, _, _, _, e, _⟩ := h; exact .inr ⟨by simp, _, _, _, e⟩
end Go.Proofs.YtaomkamdfbibbaaGreat
namespace Go.Proofs.YtaomkamdfbibbaaGreat
open Go.RowKit

namespace PxCells
variable {w : World} {g : Nat} {B Z er : Int}
theorem st (h : w.heap[g]? = some (.cells (PxCells B Z er) 80 (0, 0))) : w.cell? ⟨g, 11, none⟩ = some .nilFunc := by simp [World.cell?, h, PxCells]
end PxCells

theorem rp_ans_box (w : World) (V : Nat) (D : Bool) (A : Option Addr) (l c : Nat) :
    (w.alloc (.cells #[.int .u64 V, .bool D, .slice A l c] 37)).cell? ⟨w.heap.size, 0, none⟩ = some (.int .u64 V) ∧
    (w.alloc (.cells #[.int .u64 V, .bool D, .slice A l c] 37)).cell? ⟨w.heap.size, 1, none⟩ = some (.bool D) ∧
    (w.alloc (.cells #[.int .u64 V, .bool D, .slice A l c] 37)).cell? ⟨w.heap.size, 2, none⟩ = some (.slice A l c) := by
  have h := Go.Deep.blk_alloc_new w (.cells #[.int .u64 V, .bool D, .slice A l c] 37)
  refine ⟨?_, ?_, ?_⟩ <;> (unfold World.cell?; simp only [h]; rfl)

set_option maxRecDepth 100000 in
set_option maxHeartbeats 800000 in
theorem putTakeNil (V : Nat) (D : Bool) (A : Option Addr) (l c : Nat) (w : World) :
    Calls Tryz.prog 150 #[.pointer none, .agg #[.int .u64 V, .bool D, .slice A l c]] w (Made (.tuple #[]) w) := by
  have HW := Lib.hid ((Below.refl w.heap.size w).alloc (Nat.le_refl _) (.cells #[.int .u64 V, .bool D, .slice A l c] 37))
  go_enter Tryz.func150, Tryz.ntmps150
  go_upto_region 1 with (fail)
  generalize w.alloc (.cells #[.int .u64 V, .bool D, .slice A l c] 37) = W at HW ⊢
  go_wp2
  go_end0
  exact ⟨rfl, HW.out⟩

set_option maxRecDepth 100000 in
set_option maxHeartbeats 800000 in
theorem putTake {w : World} {F : Nat → Prop} {g : Nat} {m : Pm} (h : PmAt w F g m) (hF : ∀ k, F k → k < w.heap.size) (x : An) (hx : x.V < 18446744073709551616) (A : Option Addr) (l c : Nat) (hB : BytesAt w (.slice A l c) x.bs) :
    Calls Tryz.prog 150 #[.pointer (some ⟨g, 0, none⟩), .agg #[.int .u64 x.V, .bool x.D, .slice A l c]] w (PmMoved F g (m.take x) w) := by
  have hb0 := (Below.refl w.heap.size w).alloc (Nat.le_refl _) (.cells #[.int .u64 x.V, .bool x.D, .slice A l c] 37)
  obtain ⟨x0, x1, x2⟩ := rp_ans_box w x.V x.D A l c
  have HW := Lib.hid hb0
  have HC : Hid (∀ W, Below w.heap.size w W → Calls Tryz.prog 20 #[.pointer (some ⟨g, 5, none⟩), .agg #[.int .u64 x.V, .bool x.D, .slice A l c]] W (PmMoved F g (m.take x) W)) := Lib.hid fun W hW => by
    have hk := h.keep hW.size fun k hk => hW.block k (hF k hk)
    cases m with
    | live s => exact (rpStepsTake hk (fun k hk => Nat.lt_of_lt_of_le (hF k hk) hW.size) x hx A l c (hB.below hW)).mono fun e w' hm => hm
    | dead Z er =>
      obtain ⟨h1, B, h2⟩ := hk
      refine (stTakeNo (PxCells.st h2) x.V x.D A l c).mono ?_
      rintro e w' ⟨rfl, hb⟩
      exact ⟨rfl, F, ⟨h1, B, (hb.block g (Nat.lt_of_lt_of_le (hF g h1) hW.size)).trans h2⟩, Touch.of_below hb, fun k hk => .inl hk⟩
  have hnF : ¬ F w.heap.size := fun e => Nat.lt_irrefl _ (hF _ e)
  clear h hF hB hb0
  go_enter Tryz.func150, Tryz.ntmps150
  go_upto_region 1 with (fail)
  generalize w.alloc (.cells #[.int .u64 x.V, .bool x.D, .slice A l c] 37) = W at HW x0 x1 x2 ⊢
  go_upto_region 2 with (fail)
  go_region_held3 (fun w' => w'.cell? ⟨w.heap.size, 0, none⟩ = some (.int .u64 x.V) ∧ w'.cell? ⟨w.heap.size, 1, none⟩ = some (.bool x.D) ∧ w'.cell? ⟨w.heap.size, 2, none⟩ = some (.slice A l c)) (go_keep)
    (first | (go_at_call 20; refine (HC.out W.drew HW.out.drew).mono ?_; intro e w3 hm; have HM := Lib.hid hm; obtain ⟨rfl, F', hp, ht, hF'⟩ := hm; have y0 := (ht.cell (p := ⟨w.heap.size, 0, none⟩) (lt_of_cell x0) hnF).trans x0; have y1 := (ht.cell (p := ⟨w.heap.size, 1, none⟩) (lt_of_cell x0) hnF).trans x1; have y2 := (ht.cell (p := ⟨w.heap.size, 2, none⟩) (lt_of_cell x0) hnF).trans x2))
  all_goals
    go_wp2
    go_end0
    exact ⟨rfl, F', hp, (Touch.of_below HW.out.drew).trans ht, fun k hk => (hF' k hk).imp id fun h => ⟨Nat.le_trans HW.out.size h.1, h.2⟩⟩

set_option maxRecDepth 100000 in
set_option maxHeartbeats 800000 in
theorem putNextNil (w : World) : Calls Tryz.prog 149 #[.pointer none] w (NextTold none w) := by
  have HA := AccNew.made w
  have HW := Lib.hid ((Below.refl w.heap.size w).alloc (Nat.le_refl _) (.cells #[.int .i64 0, .int .i64 0, .int .i64 0, .int .u64 0, .int .u64 0, .slice none 0 0] 32))
  go_enter Tryz.func149, Tryz.ntmps149
  go_upto_region 1 with (fail)
  generalize w.alloc (.cells #[.int .i64 0, .int .i64 0, .int .i64 0, .int .u64 0, .int .u64 0, .slice none 0 0] 32) = W at HA HW ⊢
  obtain ⟨a0, a1, a2, a3, a4, a5, f0, f1, f2, f3, f4, f5, hbk⟩ := HA
  go_wp2
  refine bodyPost_ret (v := .tuple #[.agg #[.int .i64 0, .int .i64 0, .int .i64 0, .int .u64 0, .int .u64 0, .slice none 0 0], .bool false]) (by simp [results, Tryz.results149, go_sem, a0, a1, a2, a3, a4, a5]) rfl ?_
  exact ⟨six_below HW.out (Nat.le_refl _) _ _ _ _ _ _, rfl⟩

theorem Pm.fine {w : World} {F : Nat → Prop} {g : Nat} {m : Pm} (h : PmAt w F g m) {a : Ac} (ha : m.next = some a) : a.Fine := by
  cases m with
  | dead Z er => cases ha
  | live s =>
    obtain ⟨A, L, c, a0, av, th, h1, h2, ok, h4, h5, h6, h7, h8⟩ := h
    obtain ⟨hp0, hz0, hz1, hb0, hb1, ht0, ht1, hfew, hB, hh, htl, hps⟩ := ok
    have okr : Rg.Ok s.B s.Z := ⟨hp0, hz0, hz1, hb0, hb1⟩
    have un_lt : ∀ y : Int, Rs.un y < 18446744073709551616 := fun y => by unfold Rs.un; omega
    have jn_lt : ∀ x y : Int, (Hd.jn x y).toNat < 18446744073709551616 := fun x y => by have := Hd.jn_bounds x y; omega
    have num : ∀ k : Int, 0 ≤ k → k ≤ 16 → -9223372036854775808 ≤ s.num k ∧ s.num k ≤ 9223372036854775807 := fun k _ _ => by unfold Rs.num Rg.num; omega
    have spot : ∀ v : Int, 0 ≤ s.spot v ∧ s.spot v ≤ 140000 := fun v => by have := okr.place_in v; unfold Rs.spot Rg.spot; omega
    have mk : ∀ (K P N : Int) (V U : Nat), (0 ≤ K ∧ K ≤ 8) → (-9223372036854775808 ≤ P ∧ P ≤ 9223372036854775807) → (0 ≤ N ∧ N ≤ 8) → V < 18446744073709551616 → U < 18446744073709551616 → Ac.Fine ⟨K, P, N, V, U, []⟩ := fun K P N V U h1 h2 h3 h4 h5 => ⟨h4, h5, ⟨by show _ ≤ K; omega, by show K ≤ _; omega⟩, h2, ⟨by show _ ≤ N; omega, by show N ≤ _; omega⟩, Bys.nil, by show (0 : Nat) ≤ _; omega⟩
    have ha' : s.next = some a := ha
    unfold Rs.next at ha'
    unfold ThenIs at h7
    cases hph : s.ph with
    | fin => rw [hph] at ha'; cases ha'
    | ask => rw [hph] at ha'; injection ha' with e; subst e; exact mk _ _ _ _ _ (by omega) (num _ (by omega) (by omega)) (by omega) (by omega) (by omega)
    | tail => rw [hph] at ha'; injection ha' with e; subst e; exact mk _ _ _ _ _ (by omega) (num _ (by omega) (by omega)) (by omega) (by omega) (by omega)
    | head1 => rw [hph] at ha'; injection ha' with e; subst e; exact mk _ _ _ _ _ (by omega) (num _ (by omega) (by omega)) (by omega) (by omega) (by omega)
    | head2 gap => rw [hph] at ha'; injection ha' with e; subst e; exact mk _ _ _ _ _ (by omega) (num _ (by omega) (by omega)) (by omega) (by omega) (by omega)
    | copy1 => rw [hph] at ha'; injection ha' with e; subst e; exact mk _ _ _ _ _ (by omega) (num _ (by omega) (by omega)) (by omega) (un_lt _) (by omega)
    | copy2 gap => rw [hph] at ha'; injection ha' with e; subst e; exact mk _ _ _ _ _ (by omega) (num _ (by omega) (by omega)) (by omega) (un_lt _) (by omega)
    | cas pad => rw [hph] at ha'; injection ha' with e; subst e; exact mk _ _ _ _ _ (by omega) (num _ (by omega) (by omega)) (by omega) (un_lt _) (un_lt _)
    | padd pad => rw [hph] at ha'; injection ha' with e; subst e; have := spot s.t; exact mk _ _ _ _ _ (by omega) (by omega) (by omega) (jn_lt _ _) (by omega)
    | hdr => rw [hph] at ha'; injection ha' with e; subst e; have := spot s.p; exact mk _ _ _ _ _ (by omega) (by omega) (by omega) (jn_lt _ _) (by omega)
    | len => rw [hph] at ha'; injection ha' with e; subst e; have := spot s.p; exact mk _ _ _ _ _ (by omega) (by omega) (by omega) (by omega) (by omega)
    | byt d =>
      rw [hph] at ha' h7
      obtain ⟨_, _, _, _, _, _, _, _, _, _, _, _, _, _, _, _, _, hdl⟩ := h7
      injection ha' with e
      subst e
      have := spot s.p
      have hn := Cy.nx_le (s.L - d)
      refine ⟨by show (0 : Nat) < _; omega, by show (0 : Nat) < _; omega, ⟨by show _ ≤ (6 : Int); omega, by show (6 : Int) ≤ _; omega⟩, ?_, ?_, Bys.bl hB _ _, ?_⟩
      · show _ ≤ s.spot s.p + 8 + (d : Int) ∧ s.spot s.p + 8 + (d : Int) ≤ _
        omega
      · show _ ≤ ((Cy.nx (s.L - d) : Nat) : Int) ∧ ((Cy.nx (s.L - d) : Nat) : Int) ≤ _
        omega
      · show (Mb.bl s.f d (Cy.nx (s.L - d))).length ≤ _
        rw [Mb.bl_length]
        omega

set_option maxRecDepth 100000 in
set_option maxHeartbeats 800000 in
theorem putNext {w : World} {F : Nat → Prop} {g : Nat} {m : Pm} (h : PmAt w F g m) (hF : ∀ k, F k → k < w.heap.size) :
    Calls Tryz.prog 149 #[.pointer (some ⟨g, 0, none⟩)] w (NextTold m.next w) := by
  have HA := Lib.hid (AccNew.made w)
  have HW := Lib.hid ((Below.refl w.heap.size w).alloc (Nat.le_refl _) (.cells #[.int .i64 0, .int .i64 0, .int .i64 0, .int .u64 0, .int .u64 0, .slice none 0 0] 32))
  have HC : Hid (∀ W, Below w.heap.size w W → Calls Tryz.prog 19 #[.pointer (some ⟨g, 5, none⟩)] W (NextTold m.next W)) := Lib.hid fun W hW => by
    have hk := h.keep hW.size fun k hk => hW.block k (hF k hk)
    have hfine := fun a (ha : m.next = some a) => Pm.fine hk ha
    cases m with
    | live s =>
      obtain ⟨A, L, c, a, av, th, h1, h2, h3, h4, h5, h6, h7, h8⟩ := hk
      show Calls _ _ _ _ (NextTold s.next W)
      rcases PutAt.thenIs h7 with ⟨e1, e2⟩ | ⟨e1, k, rc, caps, e2⟩
      · rw [e1]
        have := h1.c11
        rw [e2] at this
        exact stNextNo this
      · cases hn : s.next with
        | none => exact absurd hn e1
        | some b =>
          obtain ⟨rfl, hb⟩ := h8 b hn
          have hby := hb.bytes
          obtain ⟨A2, c2, hav, _⟩ := hb
          subst hav e2
          exact stNextYes h1.st hby (hfine a hn).few
    | dead Z er =>
      obtain ⟨_, B, h2⟩ := hk
      exact stNextNo (PxCells.st h2)
  generalize m.next = o at HC ⊢
  clear h hF
  go_enter Tryz.func149, Tryz.ntmps149
  go_upto_region 1 with (fail)
  generalize w.alloc (.cells #[.int .i64 0, .int .i64 0, .int .i64 0, .int .u64 0, .int .u64 0, .slice none 0 0] 32) = W at HA HW ⊢
  cases o with
  | none =>
    go_wp2_with (go_at_call 19; refine (HC.out W HW.out).mono ?_; rintro e w2 ⟨hb, rfl⟩; obtain ⟨a0, a1, a2, a3, a4, a5, f0, f1, f2, f3, f4, f5, hbk⟩ := HA.out.later hb)
    refine bodyPost_ret (v := .tuple #[.agg #[.int .i64 0, .int .i64 0, .int .i64 0, .int .u64 0, .int .u64 0, .slice none 0 0], .bool false]) (by simp [results, Tryz.results149, go_sem, a0, a1, a2, a3, a4, a5]) rfl ?_
    exact ⟨six_below (HW.out.trans (hb.mono HW.out.size)) (Nat.le_refl _) _ _ _ _ _ _, rfl⟩
  | some a =>
    go_wp2_with (go_at_call 19; refine (HC.out W HW.out).mono ?_; rintro e w2 ⟨hb, A, l, c, rfl, ho⟩; obtain ⟨a0, a1, a2, a3, a4, a5, f0, f1, f2, f3, f4, f5, hbk⟩ := HA.out.later hb; have HO := Lib.hid ho)
    refine bodyPost_ret (v := .tuple #[.agg #[.int .i64 a.K, .int .i64 a.P, .int .i64 a.N, .int .u64 a.V, .int .u64 a.U, .slice A l c], .bool true]) (by simp [results, Tryz.results149, go_sem, a0, a1, a2, a3, a4, a5]) rfl ?_
    exact ⟨six_below (HW.out.trans (hb.mono HW.out.size)) (Nat.le_refl _) _ _ _ _ _ _, A, l, c, rfl, (six_own HO.out (Array.getElem?_eq_some_iff.1 HA.out.blk).1 _ _ _ _ _ _).down HW.out.size⟩

end Go.Proofs.YtaomkamdfbibbaaGreat
namespace Go.Proofs.YtaomkamdfbibbaaGreat
open Go.RowKit

set_option maxRecDepth 100000 in
theorem stLoadHalf (P : Int) (w : World) : Calls Tryz.prog 104 #[.int .i64 P] w (Made (.agg #[.int .i64 1, .int .i64 P, .int .i64 4, .int .u64 0, .int .u64 0, .slice none 0 0]) w) := by
  have HA := AccNew.made w
  have HW := (Below.refl w.heap.size w).alloc (Nat.le_refl _) (.cells #[.int .i64 0, .int .i64 0, .int .i64 0, .int .u64 0, .int .u64 0, .slice none 0 0] 32)
  go_enter Tryz.func104, Tryz.ntmps104
  go_upto_region 1 with (fail)
  generalize w.alloc (.cells #[.int .i64 0, .int .i64 0, .int .i64 0, .int .u64 0, .int .u64 0, .slice none 0 0] 32) = W at HA HW ⊢
  obtain ⟨a0, a1, a2, a3, a4, a5, f0, f1, f2, f3, f4, f5, hbk⟩ := HA
  go_wp2
  refine bodyPost_ret (v := .agg #[.int .i64 1, .int .i64 P, .int .i64 4, .int .u64 0, .int .u64 0, .slice none 0 0]) (by simp [results, Tryz.results104, go_sem, a0, a1, a2, a3, a4, a5]) rfl ?_
  exact ⟨rfl, six_below HW (Nat.le_refl _) _ _ _ _ _ _⟩
end Go.Proofs.YtaomkamdfbibbaaGreat
namespace Go.Proofs.YtaomkamdfbibbaaGreat
open Go.RowKit

/-- Where a fix is. -/
inductive Fh where
  | head | tail (d : Nat) | hdr | up (q : Int) | down (q : Int) | padd (n : Int) | fin

/-- A fix: its ring, where it stands still, up to where others may have begun, where they have; what was made padding; where it is. -/
structure Fs where
  B : Nat
  Z : Nat
  a : Int
  b : Int
  m : Int
  n : Int
  ph : Fh

namespace Fs
/-- The access that a fix is at. -/
def next (s : Fs) : Option Ac :=
  match s.ph with
  | .head => some ⟨1, Rg.num s.B s.Z 16, 8, 0, 0, []⟩
  | .tail _ => some ⟨1, Rg.num s.B s.Z 0, 8, 0, 0, []⟩
  | .hdr => some ⟨1, Rg.spot s.B s.Z s.a, 8, 0, 0, []⟩
  | .up q | .down q => some ⟨1, Rg.spot s.B s.Z q, 4, 0, 0, []⟩
  | .padd n => some ⟨2, Rg.spot s.B s.Z s.a, 8, (Hd.jn n (-1)).toNat, 0, []⟩
  | .fin => none
def ahead (s : Fs) (q : Int) : Fs := if s.b ≤ q then { s with ph := .fin } else { s with ph := .up q }
def back (s : Fs) (q : Int) : Fs := if q - 8 < s.a then { s with ph := .padd (s.m - s.a) } else { s with ph := .down (q - 8) }
def judge (s : Fs) (l : Int) : Fs := if l = 0 then s.ahead (s.a + 8) else if l < 0 ∧ s.a - l ≤ s.Z then { s with ph := .padd (-l) } else { s with ph := .fin }
def span (s : Fs) (d t : Int) : Fs := { s with a := Rg.place s.Z d, b := if Rg.place s.Z t ≤ Rg.place s.Z d then (s.Z : Int) else Rg.place s.Z t, ph := .hdr }
/-- An answer is taken. -/
def take (s : Fs) (x : An) : Fs :=
  match s.ph with
  | .head => { s with ph := .tail x.V }
  | .tail d => if x.V = d then { s with ph := .fin } else s.span (Rs.wr d) (Rs.wr x.V)
  | .hdr => s.judge (Hd.s32 x.V)
  | .up q => if x.V % 4294967296 = 0 then s.ahead (q + 8) else ({ s with m := q } : Fs).back q
  | .down q => if x.V % 4294967296 = 0 then s.back q else { s with ph := .fin }
  | .padd n => { s with n := n, ph := .fin }
  | .fin => s

/-- What holds of a fix at any time. -/
structure Ok (s : Fs) : Prop where
  rg : Rg.Ok s.B s.Z
  a0 : 0 ≤ s.a ∧ s.a ≤ s.Z
  b0 : 0 ≤ s.b ∧ s.b ≤ s.Z
  m0 : 0 ≤ s.m ∧ s.m ≤ s.Z
  n0 : -8192 ≤ s.n ∧ s.n ≤ 8192
/-- What holds of where it is. -/
def PhOk (s : Fs) : Prop :=
  match s.ph with
  | .up q | .down q => 0 ≤ q ∧ q ≤ s.Z
  | .padd n => -8192 ≤ n ∧ n ≤ 8192
  | .tail d => d < 18446744073709551616
  | _ => True
theorem Ok.withPh {s : Fs} (ok : s.Ok) (ph : Fh) : ({ s with ph := ph } : Fs).Ok := ⟨ok.rg, ok.a0, ok.b0, ok.m0, ok.n0⟩
end Fs

/-- A fix's block. -/
def FxCells (s : Fs) (a : Ac) (av th : Value) : Array Value :=
  #[.int .i64 s.B, .int .i64 s.Z, .int .i64 a.K, .int .i64 a.P, .int .i64 a.N, .int .u64 a.V, .int .u64 a.U, av, th, .int .i64 s.a, .int .i64 s.b, .int .i64 s.m, .int .i32 s.n]
/-- A fix stands in block g. -/
def FxBlk (w : World) (g : Nat) (s : Fs) (a : Ac) (av th : Value) : Prop := w.heap[g]? = some (.cells (FxCells s a av th) 57 (0, 0))

namespace FxBlk
variable {w w' : World} {g : Nat} {s : Fs} {av th : Value} {a : Ac}
theorem lt (h : FxBlk w g s a av th) : g < w.heap.size := (Array.getElem?_eq_some_iff.1 h).1
theorem below (h : FxBlk w g s a av th) (hb : Below w.heap.size w w') : FxBlk w' g s a av th := (hb.block g h.lt).trans h
theorem of_block (h : FxBlk w g s a av th) (hb : w'.heap[g]? = w.heap[g]?) : FxBlk w' g s a av th := hb.trans h
theorem c0 (h : FxBlk w g s a av th) : w.cell? ⟨g, 0, none⟩ = some (.int .i64 s.B) := by simp [World.cell?, show w.heap[g]? = _ from h, FxCells]
theorem c1 (h : FxBlk w g s a av th) : w.cell? ⟨g, 1, none⟩ = some (.int .i64 s.Z) := by simp [World.cell?, show w.heap[g]? = _ from h, FxCells]
theorem c2 (h : FxBlk w g s a av th) : w.cell? ⟨g, 2, none⟩ = some (.int .i64 a.K) := by simp [World.cell?, show w.heap[g]? = _ from h, FxCells]
theorem c3 (h : FxBlk w g s a av th) : w.cell? ⟨g, 3, none⟩ = some (.int .i64 a.P) := by simp [World.cell?, show w.heap[g]? = _ from h, FxCells]
theorem c4 (h : FxBlk w g s a av th) : w.cell? ⟨g, 4, none⟩ = some (.int .i64 a.N) := by simp [World.cell?, show w.heap[g]? = _ from h, FxCells]
theorem c5 (h : FxBlk w g s a av th) : w.cell? ⟨g, 5, none⟩ = some (.int .u64 a.V) := by simp [World.cell?, show w.heap[g]? = _ from h, FxCells]
theorem c6 (h : FxBlk w g s a av th) : w.cell? ⟨g, 6, none⟩ = some (.int .u64 a.U) := by simp [World.cell?, show w.heap[g]? = _ from h, FxCells]
theorem c7 (h : FxBlk w g s a av th) : w.cell? ⟨g, 7, none⟩ = some (av) := by simp [World.cell?, show w.heap[g]? = _ from h, FxCells]
theorem c8 (h : FxBlk w g s a av th) : w.cell? ⟨g, 8, none⟩ = some (th) := by simp [World.cell?, show w.heap[g]? = _ from h, FxCells]
theorem c9 (h : FxBlk w g s a av th) : w.cell? ⟨g, 9, none⟩ = some (.int .i64 s.a) := by simp [World.cell?, show w.heap[g]? = _ from h, FxCells]
theorem c10 (h : FxBlk w g s a av th) : w.cell? ⟨g, 10, none⟩ = some (.int .i64 s.b) := by simp [World.cell?, show w.heap[g]? = _ from h, FxCells]
theorem c11 (h : FxBlk w g s a av th) : w.cell? ⟨g, 11, none⟩ = some (.int .i64 s.m) := by simp [World.cell?, show w.heap[g]? = _ from h, FxCells]
theorem c12 (h : FxBlk w g s a av th) : w.cell? ⟨g, 12, none⟩ = some (.int .i32 s.n) := by simp [World.cell?, show w.heap[g]? = _ from h, FxCells]
theorem free (h : FxBlk w g s a av th) (i : Nat) : w.frozen? ⟨g, i, none⟩ = false := by simp [World.frozen?, show w.heap[g]? = _ from h]
theorem st (h : FxBlk w g s a av th) : StAt w g 2 a av th := ⟨h.c2, h.c3, h.c4, h.c5, h.c6, h.c7, h.c8, h.free⟩
end FxBlk

/-- What 'Do' leaves. -/
def FxAsked (g : Nat) (s : Fs) (a : Ac) (av th : Value) (w : World) (e : Ending) (w' : World) : Prop :=
  e = .returned (.tuple #[]) ∧ FxBlk w' g s a av th ∧ Touch (fun k => k = g) w w'

theorem fx_seven {w : World} {g : Nat} {s : Fs} {av th : Value} {a : Ac} (h : FxBlk w g s a av th) (b : Ac) (bv th' : Value) :
    FxBlk (seven w g 2 b bv th') g s b bv th' := by
  have h' : w.heap[g]? = some (.cells (FxCells s a av th) 57 (0, 0)) := h
  unfold FxBlk seven
  simp [World.setCell, Array.getElem?_modify, h', FxCells]

theorem fx_st {w w' : World} {g : Nat} {s : Fs} {av th : Value} {a b : Ac} {bv th' : Value} {e : Ending} (h : FxBlk w g s a av th) (hs : StAsked g 2 b bv th' w e w') : FxAsked g s b bv th' w e w' := by
  obtain ⟨rfl, W, hb, rfl⟩ := hs
  exact ⟨rfl, fx_seven (h.below hb) b bv th', (Touch.of_below hb).trans (seven_touch1 W g 2 b bv th')⟩

theorem fxDo {w : World} {g : Nat} {s : Fs} {av th : Value} {a : Ac} (h : FxBlk w g s a av th) (b : Ac) (A : Option Addr) (l c : Nat) (k : FuncId) (rc caps : Array Value) :
    Calls Tryz.prog 27 #[.pointer (some ⟨g, 2, none⟩), .agg #[.int .i64 b.K, .int .i64 b.P, .int .i64 b.N, .int .u64 b.V, .int .u64 b.U, .slice A l c], .func (.func k) rc caps] w (FxAsked g s b (.slice A l c) (.func (.func k) rc caps) w) :=
  (stDo h.st b A l c k rc caps).mono fun _ _ hs => fx_st h hs

/-- What goes on from whether a place is empty: further on, or further back. -/
def FUp (w : World) (F : Nat → Prop) (g : Nat) (q : Int) (on : Value) : Prop :=
  ∃ a b d, on = .func (.func 86) #[] #[.pointer (some ⟨a, 0, none⟩), .pointer (some ⟨b, 0, none⟩), .pointer (some ⟨d, 0, none⟩)] ∧ Capt w F g a (.pointer (some ⟨g, 0, none⟩)) ∧ Capt w F g b (.int .i64 q) ∧ Capt w F g d (.func (.func 71) #[.pointer (some ⟨g, 0, none⟩)] #[])
def FDown (w : World) (F : Nat → Prop) (g : Nat) (q : Int) (on : Value) : Prop :=
  ∃ a b, on = .func (.func 87) #[] #[.pointer (some ⟨a, 0, none⟩), .pointer (some ⟨b, 0, none⟩)] ∧ Capt w F g a (.pointer (some ⟨g, 0, none⟩)) ∧ Capt w F g b (.int .i64 q)

/-- What goes on from the next answer. -/
def FThen (w : World) (F : Nat → Prop) (g : Nat) (s : Fs) (th : Value) : Prop :=
  match s.ph with
  | .head => ∃ a, th = .func (.func 30) #[] #[.pointer (some ⟨a, 0, none⟩)] ∧ Capt w F g a (.pointer (some ⟨g, 0, none⟩))
  | .tail d => ∃ b a, th = .func (.func 32) #[] #[.pointer (some ⟨b, 0, none⟩), .pointer (some ⟨a, 0, none⟩)] ∧ Capt w F g b (.int .u64 d) ∧ Capt w F g a (.pointer (some ⟨g, 0, none⟩))
  | .hdr => ∃ a, th = .func (.func 49) #[] #[.pointer (some ⟨a, 0, none⟩)] ∧ Capt w F g a (.pointer (some ⟨g, 0, none⟩))
  | .up q => ∃ c on, th = .func (.func 105) #[] #[.pointer (some ⟨c, 0, none⟩)] ∧ Capt w F g c on ∧ FUp w F g q on
  | .down q => ∃ c on, th = .func (.func 105) #[] #[.pointer (some ⟨c, 0, none⟩)] ∧ Capt w F g c on ∧ FDown w F g q on
  | .padd n => ∃ b a, th = .func (.func 89) #[] #[.pointer (some ⟨b, 0, none⟩), .pointer (some ⟨a, 0, none⟩)] ∧ Capt w F g b (.int .i32 n) ∧ Capt w F g a (.pointer (some ⟨g, 0, none⟩))
  | .fin => th = .nilFunc

theorem FUp.keep {w w' : World} {F F' : Nat → Prop} {g : Nat} {q : Int} {on : Value} (h : FUp w F g q on) (hb : ∀ k, F k → k ≠ g → w'.heap[k]? = w.heap[k]?) (hF : ∀ k, F k → F' k) : FUp w' F' g q on := by
  obtain ⟨a, b, d, e, h1, h2, h3⟩ := h
  exact ⟨a, b, d, e, (h1.keep hb).mono hF, (h2.keep hb).mono hF, (h3.keep hb).mono hF⟩
theorem FDown.keep {w w' : World} {F F' : Nat → Prop} {g : Nat} {q : Int} {on : Value} (h : FDown w F g q on) (hb : ∀ k, F k → k ≠ g → w'.heap[k]? = w.heap[k]?) (hF : ∀ k, F k → F' k) : FDown w' F' g q on := by
  obtain ⟨a, b, e, h1, h2⟩ := h
  exact ⟨a, b, e, (h1.keep hb).mono hF, (h2.keep hb).mono hF⟩
theorem FThen.keep {w w' : World} {F F' : Nat → Prop} {g : Nat} {s : Fs} {th : Value} (h : FThen w F g s th) (hb : ∀ k, F k → k ≠ g → w'.heap[k]? = w.heap[k]?) (hF : ∀ k, F k → F' k) : FThen w' F' g s th := by
  unfold FThen at h ⊢
  cases hph : s.ph with
  | head => rw [hph] at h; obtain ⟨a, e, h1⟩ := h; exact ⟨a, e, (h1.keep hb).mono hF⟩
  | tail d => rw [hph] at h; obtain ⟨b, a, e, h1, h2⟩ := h; exact ⟨b, a, e, (h1.keep hb).mono hF, (h2.keep hb).mono hF⟩
  | hdr => rw [hph] at h; obtain ⟨a, e, h1⟩ := h; exact ⟨a, e, (h1.keep hb).mono hF⟩
  | up q => rw [hph] at h; obtain ⟨c, on, e, h1, h2⟩ := h; exact ⟨c, on, e, (h1.keep hb).mono hF, h2.keep hb hF⟩
  | down q => rw [hph] at h; obtain ⟨c, on, e, h1, h2⟩ := h; exact ⟨c, on, e, (h1.keep hb).mono hF, h2.keep hb hF⟩
  | padd n => rw [hph] at h; obtain ⟨b, a, e, h1, h2⟩ := h; exact ⟨b, a, e, (h1.keep hb).mono hF, (h2.keep hb).mono hF⟩
  | fin => rw [hph] at h; exact h

/-- A fix stands in the blocks F, its own block is g. -/
def FixAt (w : World) (F : Nat → Prop) (g : Nat) (s : Fs) : Prop :=
  ∃ a th, FxBlk w g s a (.slice none 0 0) th ∧ F g ∧ s.Ok ∧ s.PhOk ∧ FThen w F g s th ∧ (∀ b, s.next = some b → a = b)

/-- What a call on a fix leaves. -/
def FxMoved (F : Nat → Prop) (g : Nat) (s : Fs) (w : World) (e : Ending) (w' : World) : Prop :=
  e = .returned (.tuple #[]) ∧ ∃ F', FixAt w' F' g s ∧ Touch (fun k => k = g) w w' ∧ ∀ k, F' k → F k ∨ (w.heap.size ≤ k ∧ k < w'.heap.size)

theorem FxMoved.afterT {F : Nat → Prop} {g : Nat} {s : Fs} {w W : World} {e : Ending} {w' : World} (h : FxMoved F g s W e w') (ht : Touch (fun k => k = g) w W) : FxMoved F g s w e w' := by
  obtain ⟨he, F', hp, ht2, hF⟩ := h
  exact ⟨he, F', hp, ht.trans ht2, fun k hk => (hF k hk).imp id fun h => ⟨Nat.le_trans ht.size h.1, h.2⟩⟩

theorem fx_c9 {w : World} {F : Nat → Prop} {g : Nat} {s : Fs} (h : FixAt w F g s) : w.cell? ⟨g, 9, none⟩ = some (.int .i64 s.a) := by
  obtain ⟨a, th, hk, _⟩ := h
  exact hk.c9
theorem fx_c11 {w : World} {F : Nat → Prop} {g : Nat} {s : Fs} (h : FixAt w F g s) : w.cell? ⟨g, 11, none⟩ = some (.int .i64 s.m) := by
  obtain ⟨a, th, hk, _⟩ := h
  exact hk.c11

/-- A fix between two accesses. -/
structure FxBare (w : World) (F : Nat → Prop) (g : Nat) (s : Fs) : Prop where
  blk : ∃ a, FxBlk w g s a (.slice none 0 0) .nilFunc
  own : F g
  ok : s.Ok

theorem FxBare.below {w w' : World} {F : Nat → Prop} {g : Nat} {s : Fs} (h : FxBare w F g s) (hb : Below w.heap.size w w') : FxBare w' F g s := by
  obtain ⟨a, hk⟩ := h.blk
  exact ⟨⟨a, hk.below hb⟩, h.own, h.ok⟩
theorem FxBare.lt {w : World} {F : Nat → Prop} {g : Nat} {s : Fs} (h : FxBare w F g s) : g < w.heap.size := by
  obtain ⟨a, hk⟩ := h.blk
  exact hk.lt
theorem FxBare.withPh {w : World} {F : Nat → Prop} {g : Nat} {s : Fs} (h : FxBare w F g s) (ph : Fh) : FxBare w F g { s with ph := ph } := by
  obtain ⟨a, hk⟩ := h.blk
  exact ⟨⟨a, hk⟩, h.own, h.ok.withPh ph⟩

/-- An access was asked for. -/
theorem fx_put0 {w w' : World} {F : Nat → Prop} {g : Nat} {s : Fs} (own : F g) (ok : s.Ok) (ph : Fh) {b : Ac} {th : Value} (hT : Touch (fun k => k = g) w w') (hb : FxBlk w' g s b (.slice none 0 0) th) (hnext : ({ s with ph := ph } : Fs).next = some b) (hph : ({ s with ph := ph } : Fs).PhOk)
    (hth : FThen w' (fun k => F k ∨ (w.heap.size ≤ k ∧ k < w'.heap.size)) g { s with ph := ph } th) : FxMoved F g { s with ph := ph } w (.returned (.tuple #[])) w' := by
  refine ⟨rfl, _, ⟨b, th, hb, .inl own, ok.withPh ph, hph, hth, fun b' hb' => ?_⟩, hT, fun k hk => hk⟩
  rw [hnext] at hb'
  injection hb'
theorem fx_put {w w' : World} {F : Nat → Prop} {g : Nat} {s : Fs} (h : FxBare w F g s) (ph : Fh) {b : Ac} {th : Value} (hT : Touch (fun k => k = g) w w') (hb : FxBlk w' g s b (.slice none 0 0) th) (hnext : ({ s with ph := ph } : Fs).next = some b) (hph : ({ s with ph := ph } : Fs).PhOk)
    (hth : FThen w' (fun k => F k ∨ (w.heap.size ≤ k ∧ k < w'.heap.size)) g { s with ph := ph } th) : FxMoved F g { s with ph := ph } w (.returned (.tuple #[])) w' := fx_put0 h.own h.ok ph hT hb hnext hph hth

/-- Nothing goes on. -/
theorem fx_done {w w' : World} {F : Nat → Prop} {g : Nat} {s : Fs} (h : FxBare w' F g s) (hT : Touch (fun k => k = g) w w') (e : s.ph = .fin) : FxMoved F g s w (.returned (.tuple #[])) w' := by
  obtain ⟨a, hk⟩ := h.blk
  refine ⟨rfl, F, ⟨a, .nilFunc, hk, h.own, h.ok, ?_, ?_, fun b hb => ?_⟩, hT, fun k hk => .inl hk⟩
  · unfold Fs.PhOk; rw [e]; trivial
  · unfold FThen; rw [e]
  · unfold Fs.next at hb; rw [e] at hb; cases hb

/-- A field of the fix's own is stored. -/
theorem FxBare.store {w : World} {F : Nat → Prop} {g : Nat} {s s' : Fs} (h : FxBare w F g s) (i : Nat) (v : Value) (hc : ∀ a, (FxCells s a (.slice none 0 0) .nilFunc).setIfInBounds i v = FxCells s' a (.slice none 0 0) .nilFunc) (hok : s'.Ok) : FxBare (w.setCell ⟨g, i, none⟩ v) F g s' := by
  obtain ⟨a, hk⟩ := h.blk
  have hk' : w.heap[g]? = some (.cells (FxCells s a (.slice none 0 0) .nilFunc) 57 (0, 0)) := hk
  refine ⟨⟨a, ?_⟩, h.own, hok⟩
  have := blkS (i := i) hk' v
  rw [hc] at this
  exact this
end Go.Proofs.YtaomkamdfbibbaaGreat
namespace Go.Proofs.YtaomkamdfbibbaaGreat
open Go.RowKit

theorem fx_box2 (w : World) (v0 v1 : Value) (T0 T1 : TypeId) (WW : World) (hWW : WW = (w.alloc (.cells #[v0] T0)).alloc (.cells #[v1] T1)) :
    Below w.heap.size w WW ∧ WW.cell? ⟨w.heap.size, 0, none⟩ = some v0 ∧ WW.cell? ⟨w.heap.size + 1, 0, none⟩ = some v1 ∧ WW.heap.size = w.heap.size + 2 := by
  have b1 := (Below.refl w.heap.size w).alloc (Nat.le_refl _) (.cells #[v0] T0)
  have x1 := rp_box w v0 T0
  have s1 : (w.alloc (.cells #[v0] T0)).heap.size = w.heap.size + 1 := by simp
  generalize w.alloc (.cells #[v0] T0) = W1 at *
  have b2 := (Below.refl W1.heap.size W1).alloc (Nat.le_refl _) (.cells #[v1] T1)
  have x2 := rp_box W1 v1 T1
  have s2 : (W1.alloc (.cells #[v1] T1)).heap.size = W1.heap.size + 1 := by simp
  have y1 := (b2.cell (p := ⟨w.heap.size, 0, none⟩) (by show w.heap.size < _; omega)).trans x1
  rw [s1] at x2
  subst hWW
  exact ⟨b1.trans (b2.mono (by omega)), y1, x2, by omega⟩

set_option maxRecDepth 100000 in
set_option maxHeartbeats 800000 in
theorem fxBegin {w : World} {F : Nat → Prop} {g : Nat} {s : Fs} (h : FxBare w F g s) :
    Calls Tryz.prog 16 #[.pointer (some ⟨g, 0, none⟩)] w (FxMoved F g { s with ph := .head } w) := by
  obtain ⟨a, hblk⟩ := h.blk
  have hgl := hblk.lt
  have HH := Lib.hid h
  have HB := Lib.hid hblk
  have hb0 := (Below.refl w.heap.size w).alloc (Nat.le_refl _) (.cells #[.pointer (some ⟨g, 0, none⟩)] 26)
  have hbox := rp_box w (.pointer (some ⟨g, 0, none⟩)) 26
  have hsz : (w.alloc (.cells #[.pointer (some ⟨g, 0, none⟩)] 26)).heap.size = w.heap.size + 1 := by simp
  have c0 := (hb0.cell (p := ⟨g, 0, none⟩) hgl).trans hblk.c0
  have c1 := (hb0.cell (p := ⟨g, 1, none⟩) hgl).trans hblk.c1
  have HW := Lib.hid hb0
  clear h hblk hb0
  go_enter Tryz.func16, Tryz.ntmps16
  go_upto_region 1 with (fail)
  generalize w.alloc (.cells #[.pointer (some ⟨g, 0, none⟩)] 26) = W at hbox HW hsz c0 c1 ⊢
  have hga : ¬ w.heap.size = g := by omega
  have hla : w.heap.size < W.heap.size := by omega
  have hgW : g < W.heap.size := by omega
  clear hsz
  go_region_held3 (fun w' => w'.cell? ⟨w.heap.size, 0, none⟩ = some (.pointer (some ⟨g, 0, none⟩)) ∧ w'.cell? ⟨g, 0, none⟩ = some (.int .i64 s.B) ∧ w'.cell? ⟨g, 1, none⟩ = some (.int .i64 s.Z)) (go_keep)
    (first
      | (go_at_call 27; refine (fxDo (HB.out.below hbl) ⟨1, Rg.num s.B s.Z 16, 8, 0, 0, []⟩ none 0 0 30 #[] #[.pointer (some ⟨w.heap.size, 0, none⟩)]).mono ?_; intro e wd has; have HAS := Lib.hid has; obtain ⟨rfl, hblkd, htd⟩ := has; have kd := (htd.cell (p := ⟨w.heap.size, 0, none⟩) (lt_of_cell k2) hga).trans k2; have o0d := hblkd.c0; have o1d := hblkd.c1; clear hblkd)
      | (go_at_call 28; refine (stLoad (Rg.num s.B s.Z 16) _).mono ?_; rintro e x2 ⟨rfl, hq2⟩; have hb2 := hb1.trans (hq2.mono hb1.size); have k2 := (hb2.cell (p := ⟨w.heap.size, 0, none⟩) hla).trans hbox; have o02 := (hb2.cell (p := ⟨g, 0, none⟩) hgW).trans c0; have o12 := (hb2.cell (p := ⟨g, 1, none⟩) hgW).trans c1; have hbl := HW.out.trans (hb2.mono HW.out.size))
      | (go_at_call 29; refine (rgHead HH.out.ok.rg _).mono ?_; rintro e x1 ⟨rfl, hq1⟩; have hb1 := below_drew hq1; have k1 := (hb1.cell (p := ⟨w.heap.size, 0, none⟩) hla).trans hbox; have o01 := (hb1.cell (p := ⟨g, 0, none⟩) hgW).trans c0; have o11 := (hb1.cell (p := ⟨g, 1, none⟩) hgW).trans c1))
  all_goals
    go_wp2
    go_end0
    obtain ⟨_, hbk, hT⟩ := HAS.out
    exact fx_put HH.out .head ((Touch.of_below hbl).trans hT) hbk rfl trivial ⟨w.heap.size, rfl, .inr ⟨Nat.le_refl _, lt_of_cell kd⟩, hga, kd⟩

/-- What looking at a place leaves. -/
def FxLook (g : Nat) (s : Fs) (q : Int) (on : Value) (w : World) (e : Ending) (w' : World) : Prop :=
  e = .returned (.tuple #[]) ∧ ∃ c, FxBlk w' g s ⟨1, Rg.spot s.B s.Z q, 4, 0, 0, []⟩ (.slice none 0 0) (.func (.func 105) #[] #[.pointer (some ⟨c, 0, none⟩)]) ∧ w.heap.size ≤ c ∧ c < w'.heap.size ∧ w'.cell? ⟨c, 0, none⟩ = some on ∧ Touch (fun k => k = g) w w'

set_option maxRecDepth 100000 in
set_option maxHeartbeats 800000 in
theorem fxLook {w : World} {g : Nat} {s : Fs} {a : Ac} {av th : Value} (hblk : FxBlk w g s a av th) (ok : Rg.Ok s.B s.Z) (q : Int) (k : FuncId) (rc caps : Array Value) :
    Calls Tryz.prog 85 #[.pointer (some ⟨g, 0, none⟩), .int .i64 q, .func (.func k) rc caps] w (FxLook g s q (.func (.func k) rc caps) w) := by
  have hgl := hblk.lt
  have HO := Lib.hid ok
  have HB := Lib.hid hblk
  have hb0 := (Below.refl w.heap.size w).alloc (Nat.le_refl _) (.cells #[.func (.func k) rc caps] 135)
  have hbox := rp_box w (.func (.func k) rc caps) 135
  have hsz : (w.alloc (.cells #[.func (.func k) rc caps] 135)).heap.size = w.heap.size + 1 := by simp
  have c0 := (hb0.cell (p := ⟨g, 0, none⟩) hgl).trans hblk.c0
  have c1 := (hb0.cell (p := ⟨g, 1, none⟩) hgl).trans hblk.c1
  have HW := Lib.hid hb0
  clear hblk hb0 ok
  go_enter Tryz.func85, Tryz.ntmps85
  go_upto_region 1 with (fail)
  generalize w.alloc (.cells #[.func (.func k) rc caps] 135) = W at hbox HW hsz c0 c1 ⊢
  have hga : ¬ w.heap.size = g := by omega
  have hla : w.heap.size < W.heap.size := by omega
  have hgW : g < W.heap.size := by omega
  clear hsz
  go_region_held3 (fun w' => w'.cell? ⟨w.heap.size, 0, none⟩ = some (.func (.func k) rc caps) ∧ w'.cell? ⟨g, 0, none⟩ = some (.int .i64 s.B) ∧ w'.cell? ⟨g, 1, none⟩ = some (.int .i64 s.Z)) (go_keep)
    (first
      | (go_at_call 27; refine (fxDo (HB.out.below hbl) ⟨1, Rg.spot s.B s.Z q, 4, 0, 0, []⟩ none 0 0 105 #[] #[.pointer (some ⟨w.heap.size, 0, none⟩)]).mono ?_; intro e wd has; have HAS := Lib.hid has; obtain ⟨rfl, hblkd, htd⟩ := has; have kd := (htd.cell (p := ⟨w.heap.size, 0, none⟩) (lt_of_cell k2) hga).trans k2; have o0d := hblkd.c0; have o1d := hblkd.c1; clear hblkd)
      | (go_at_call 104; refine (stLoadHalf (Rg.spot s.B s.Z q) _).mono ?_; rintro e x2 ⟨rfl, hq2⟩; have hb2 := hb1.trans (hq2.mono hb1.size); have k2 := (hb2.cell (p := ⟨w.heap.size, 0, none⟩) hla).trans hbox; have o02 := (hb2.cell (p := ⟨g, 0, none⟩) hgW).trans c0; have o12 := (hb2.cell (p := ⟨g, 1, none⟩) hgW).trans c1; have hbl := HW.out.trans (hb2.mono HW.out.size))
      | (go_at_call 48; refine (rgAt HO.out q _).mono ?_; rintro e x1 ⟨rfl, hq1⟩; have hb1 := below_drew hq1; have k1 := (hb1.cell (p := ⟨w.heap.size, 0, none⟩) hla).trans hbox; have o01 := (hb1.cell (p := ⟨g, 0, none⟩) hgW).trans c0; have o11 := (hb1.cell (p := ⟨g, 1, none⟩) hgW).trans c1))
  all_goals
    go_wp2
    go_end0
    obtain ⟨_, hbk, hT⟩ := HAS.out
    exact ⟨rfl, w.heap.size, hbk, Nat.le_refl _, lt_of_cell kd, kd, (Touch.of_below hbl).trans hT⟩

set_option maxRecDepth 100000 in
set_option maxHeartbeats 800000 in
theorem fxPad {w : World} {F : Nat → Prop} {g : Nat} {s : Fs} (h : FxBare w F g s) (n : Int) (hn : -8192 ≤ n ∧ n ≤ 8192) :
    Calls Tryz.prog 72 #[.pointer (some ⟨g, 0, none⟩), .int .i32 n] w (FxMoved F g { s with ph := .padd n } w) := by
  obtain ⟨a, hblk⟩ := h.blk
  have hgl := hblk.lt
  have HH := Lib.hid h
  have HB := Lib.hid hblk
  obtain ⟨WW, hWW⟩ : ∃ WW, WW = (w.alloc (.cells #[.pointer (some ⟨g, 0, none⟩)] 26)).alloc (.cells #[.int .i32 n] 21) := ⟨_, rfl⟩
  obtain ⟨hb0, hbox, hbox1, hsz⟩ := fx_box2 w (.pointer (some ⟨g, 0, none⟩)) (.int .i32 n) _ _ WW hWW
  have c0 := (hb0.cell (p := ⟨g, 0, none⟩) hgl).trans hblk.c0
  have c1 := (hb0.cell (p := ⟨g, 1, none⟩) hgl).trans hblk.c1
  have c9 := (hb0.cell (p := ⟨g, 9, none⟩) hgl).trans hblk.c9
  have HW := Lib.hid hb0
  have HN := Lib.hid hn
  clear h hblk hb0 hn
  go_enter Tryz.func72, Tryz.ntmps72
  go_upto_region 1 with (fail)
  rw [← hWW]
  clear hWW
  have hga : ¬ w.heap.size = g := by omega
  have hgb : ¬ w.heap.size + 1 = g := by omega
  have hla : w.heap.size < WW.heap.size := by omega
  have hlb : w.heap.size + 1 < WW.heap.size := by omega
  have hgW : g < WW.heap.size := by omega
  clear hsz
  obtain ⟨Vp, hV, hVn⟩ : ∃ V : Nat, Hd.jn n (-1) = (V : Int) ∧ (Hd.jn n (-1)).toNat = V := rp_cast _ (Hd.jn_bounds _ _).1
  have HVN := Lib.hid hVn
  clear hVn
  go_region_held3 (fun w' => w'.cell? ⟨w.heap.size, 0, none⟩ = some (.pointer (some ⟨g, 0, none⟩)) ∧ w'.cell? ⟨w.heap.size + 1, 0, none⟩ = some (.int .i32 n) ∧ w'.cell? ⟨g, 0, none⟩ = some (.int .i64 s.B) ∧ w'.cell? ⟨g, 1, none⟩ = some (.int .i64 s.Z) ∧ w'.cell? ⟨g, 9, none⟩ = some (.int .i64 s.a)) (go_keep)
    (first
      | (go_at_call 27; refine (fxDo (HB.out.below hbl) ⟨2, Rg.spot s.B s.Z s.a, 8, Vp, 0, []⟩ none 0 0 89 #[] #[.pointer (some ⟨w.heap.size + 1, 0, none⟩), .pointer (some ⟨w.heap.size, 0, none⟩)]).mono ?_; intro e wd has; have HAS := Lib.hid has; obtain ⟨rfl, hblkd, htd⟩ := has; have kd := (htd.cell (p := ⟨w.heap.size, 0, none⟩) (lt_of_cell k3) hga).trans k3; have md := (htd.cell (p := ⟨w.heap.size + 1, 0, none⟩) (lt_of_cell m3) hgb).trans m3; have o0d := hblkd.c0; have o1d := hblkd.c1; have o9d := hblkd.c9; clear hblkd)
      | (go_at_call 80; refine (stSet (Rg.spot s.B s.Z s.a) Vp _).mono ?_; rintro e x3 ⟨rfl, hq3⟩; have hb3 := hb1.trans (hq3.mono hb1.size); have k3 := (hb3.cell (p := ⟨w.heap.size, 0, none⟩) hla).trans hbox; have m3 := (hb3.cell (p := ⟨w.heap.size + 1, 0, none⟩) hlb).trans hbox1; have o03 := (hb3.cell (p := ⟨g, 0, none⟩) hgW).trans c0; have o13 := (hb3.cell (p := ⟨g, 1, none⟩) hgW).trans c1; have o93 := (hb3.cell (p := ⟨g, 9, none⟩) hgW).trans c9; have hbl := HW.out.trans (hb3.mono HW.out.size))
      | (go_at_call 88; refine (record_any n (-1) _).mono ?_; rintro e x2 ⟨rfl, rfl⟩; rw [hV])
      | (go_at_call 48; refine (rgAt HH.out.ok.rg s.a _).mono ?_; rintro e x1 ⟨rfl, hq1⟩; have hb1 := below_drew hq1; have k1 := (hb1.cell (p := ⟨w.heap.size, 0, none⟩) hla).trans hbox; have m1 := (hb1.cell (p := ⟨w.heap.size + 1, 0, none⟩) hlb).trans hbox1; have o01 := (hb1.cell (p := ⟨g, 0, none⟩) hgW).trans c0; have o11 := (hb1.cell (p := ⟨g, 1, none⟩) hgW).trans c1; have o91 := (hb1.cell (p := ⟨g, 9, none⟩) hgW).trans c9))
  all_goals
    go_wp2
    go_end0
    obtain ⟨_, hbk, hT⟩ := HAS.out
    refine fx_put HH.out (.padd n) ((Touch.of_below hbl).trans hT) hbk (by show some (⟨2, Rg.spot s.B s.Z s.a, 8, (Hd.jn n (-1)).toNat, 0, []⟩ : Ac) = _; rw [HVN.out]) HN.out ⟨w.heap.size + 1, w.heap.size, rfl, ⟨.inr ⟨Nat.le_succ _, lt_of_cell md⟩, hgb, md⟩, .inr ⟨Nat.le_refl _, lt_of_cell kd⟩, hga, kd⟩

end Go.Proofs.YtaomkamdfbibbaaGreat
namespace Go.Proofs.YtaomkamdfbibbaaGreat
open Go.RowKit

/-- What looking at a place leaves, of a fix that is at one. -/
theorem fx_looked {w w1 w3 : World} {F : Nat → Prop} {g : Nat} {s : Fs} {q : Int} {on : Value} {e : Ending} (h : FxBare w F g s) (hw : Below w.heap.size w w1) (hl : FxLook g s q on w1 e w3) (ph : Fh) (hph : ph = .up q ∨ ph = .down q) (hq : 0 ≤ q ∧ q ≤ s.Z)
    (hon : (ph = .up q → FUp w3 (fun k => F k ∨ (w.heap.size ≤ k ∧ k < w3.heap.size)) g q on) ∧ (ph = .down q → FDown w3 (fun k => F k ∨ (w.heap.size ≤ k ∧ k < w3.heap.size)) g q on)) : FxMoved F g { s with ph := ph } w e w3 := by
  obtain ⟨rfl, c, hk, h1, h2, h3, ht⟩ := hl
  have hgl := h.lt
  have hc : Capt w3 (fun k => F k ∨ (w.heap.size ≤ k ∧ k < w3.heap.size)) g c on := ⟨.inr ⟨Nat.le_trans hw.size h1, h2⟩, by have := hw.size; omega, h3⟩
  have hT := (Touch.of_below (S := fun k => k = g) hw).trans ht
  rcases hph with e | e
  · subst e
    exact fx_put h (.up q) hT hk rfl hq ⟨c, on, rfl, hc, hon.1 rfl⟩
  · subst e
    exact fx_put h (.down q) hT hk rfl hq ⟨c, on, rfl, hc, hon.2 rfl⟩

set_option maxRecDepth 100000 in
set_option maxHeartbeats 800000 in
theorem fxAhead {w : World} {F : Nat → Prop} {g : Nat} {s : Fs} (h : FxBare w F g s) (q : Int) (hq : 0 ≤ q ∧ q ≤ 20000) :
    Calls Tryz.prog 70 #[.pointer (some ⟨g, 0, none⟩), .int .i64 q, .func (.func 71) #[.pointer (some ⟨g, 0, none⟩)] #[]] w (FxMoved F g (s.ahead q) w) := by
  obtain ⟨a, hblk⟩ := h.blk
  have hgl := hblk.lt
  have HH := Lib.hid h
  have HB := Lib.hid hblk
  obtain ⟨WW, hWW⟩ : ∃ WW, WW = ((w.alloc (.cells #[.pointer (some ⟨g, 0, none⟩)] 26)).alloc (.cells #[.int .i64 q] 2)).alloc (.cells #[.func (.func 71) #[.pointer (some ⟨g, 0, none⟩)] #[]] 125) := ⟨_, rfl⟩
  obtain ⟨hb0, x0, x1, x2, hsz⟩ := rp_boxes w (.pointer (some ⟨g, 0, none⟩)) (.int .i64 q) (.func (.func 71) #[.pointer (some ⟨g, 0, none⟩)] #[]) _ _ _ WW hWW
  have c10 := (hb0.cell (p := ⟨g, 10, none⟩) hgl).trans hblk.c10
  have hbl : ∀ n, Below w.heap.size w (WW.drewN n) := fun n => hb0.trans ((drewN_below WW n).mono hb0.size)
  have HBL := Lib.hid hbl
  have HQ := Lib.hid hq
  clear h hblk hb0 hbl hq
  by_cases hle : s.b ≤ q
  · have hd : decide (s.b ≤ q) = true := decide_eq_true hle
    have HS := Lib.hid (show s.ahead q = { s with ph := .fin } by unfold Fs.ahead; rw [if_pos hle])
    clear hle
    go_enter Tryz.func70, Tryz.ntmps70
    go_upto_region 1 with (fail)
    rw [← hWW]
    clear hWW
    go_quiet (fail)
    go_wp2
    go_end0
    rw [HS.out]
    exact fx_done ((HH.out.below (HBL.out _)).withPh .fin) (Touch.of_below (HBL.out _)) rfl
  · have hd : decide (s.b ≤ q) = false := decide_eq_false hle
    have HS := Lib.hid (show s.ahead q = { s with ph := .up q } by unfold Fs.ahead; rw [if_neg hle])
    have HLE := Lib.hid hle
    clear hle
    go_enter Tryz.func70, Tryz.ntmps70
    go_upto_region 1 with (fail)
    rw [← hWW]
    clear hWW
    go_quiet (fail)
    go_wp2_with (go_at_call 85; refine (fxLook (HB.out.below (HBL.out _)) HH.out.ok.rg q 86 #[] #[.pointer (some ⟨w.heap.size, 0, none⟩), .pointer (some ⟨w.heap.size + 1, 0, none⟩), .pointer (some ⟨w.heap.size + 2, 0, none⟩)]).mono ?_; intro e w3 hl; have HL := Lib.hid hl; obtain ⟨rfl, _⟩ := hl)
    go_end0
    rw [HS.out]
    obtain ⟨_, c, hk, h1, h2, h3, ht⟩ := HL.out
    have hs3 : w.heap.size + 3 ≤ w3.heap.size := by have := ht.size; have e : (WW.drewN nq).heap.size = WW.heap.size := rfl; omega
    refine fx_looked HH.out (HBL.out _) HL.out (.up q) (.inl rfl) ⟨HQ.out.1, by have := HLE.out; have := HH.out.ok.b0; omega⟩ ⟨fun _ => ⟨w.heap.size, w.heap.size + 1, w.heap.size + 2, rfl, ⟨.inr ⟨by omega, by omega⟩, by omega, ?_⟩, ⟨.inr ⟨by omega, by omega⟩, by omega, ?_⟩, ⟨.inr ⟨by omega, by omega⟩, by omega, ?_⟩⟩, fun e => (by cases e)⟩
    · exact (ht.cell (p := ⟨w.heap.size, 0, none⟩) (show w.heap.size < WW.heap.size by omega) (show ¬ w.heap.size = g by omega)).trans x0
    · exact (ht.cell (p := ⟨w.heap.size + 1, 0, none⟩) (show w.heap.size + 1 < WW.heap.size by omega) (show ¬ w.heap.size + 1 = g by omega)).trans x1
    · exact (ht.cell (p := ⟨w.heap.size + 2, 0, none⟩) (show w.heap.size + 2 < WW.heap.size by omega) (show ¬ w.heap.size + 2 = g by omega)).trans x2

set_option maxRecDepth 100000 in
set_option maxHeartbeats 800000 in
theorem fxBack {w : World} {F : Nat → Prop} {g : Nat} {s : Fs} (h : FxBare w F g s) (q : Int) (hq : 0 ≤ q ∧ q ≤ s.Z) :
    Calls Tryz.prog 71 #[.pointer (some ⟨g, 0, none⟩), .int .i64 q] w (FxMoved F g (s.back q) w) := by
  obtain ⟨a, hblk⟩ := h.blk
  have hgl := hblk.lt
  have HH := Lib.hid h
  have HB := Lib.hid hblk
  have hz1 := h.ok.rg.z1
  have ha0 := h.ok.a0
  have hm0 := h.ok.m0
  have e1 : IntKind.i64.wrap (q - 8) = q - 8 := IntWalk.i64_in _ (by omega)
  have e2 : IntKind.i64.wrap (s.m - s.a) = s.m - s.a := IntWalk.i64_in _ (by omega)
  have e3 : wrap32 (s.m - s.a) = s.m - s.a := by unfold wrap32; omega
  have e4 : IntKind.i32.wrap (s.m - s.a) = s.m - s.a := (Hd.s32_wrap _).trans (Hd.s32_in _ (by omega) (by omega))
  obtain ⟨WW, hWW⟩ : ∃ WW, WW = (w.alloc (.cells #[.pointer (some ⟨g, 0, none⟩)] 26)).alloc (.cells #[.int .i64 (q - 8)] 2) := ⟨_, rfl⟩
  obtain ⟨hb0, x0, x1, hsz⟩ := fx_box2 w (.pointer (some ⟨g, 0, none⟩)) (.int .i64 (q - 8)) _ _ WW hWW
  have c9 := (hb0.cell (p := ⟨g, 9, none⟩) hgl).trans hblk.c9
  have c11 := (hb0.cell (p := ⟨g, 11, none⟩) hgl).trans hblk.c11
  have hbl : ∀ n, Below w.heap.size w (WW.drewN n) := fun n => hb0.trans ((drewN_below WW n).mono hb0.size)
  have HBL := Lib.hid hbl
  have HQ := Lib.hid hq
  have HA := Lib.hid (And.intro hz1 (And.intro ha0 hm0))
  clear h hblk hb0 hbl hq hz1 ha0 hm0
  by_cases hle : q - 8 < s.a
  · have hd : decide (q - 8 < s.a) = true := decide_eq_true hle
    have HS := Lib.hid (show s.back q = { s with ph := .padd (s.m - s.a) } by unfold Fs.back; rw [if_pos hle])
    clear hle
    go_enter Tryz.func71, Tryz.ntmps71
    go_upto_region 2 with (fail)
    rw [← hWW]
    clear hWW
    go_quiet (fail)
    go_upto_region 3 with (fail)
    obtain ⟨n1, hn1⟩ : ∃ n, n = nq := ⟨_, rfl⟩
    rw [← hn1]
    clear hn1
    have HBN := Lib.hid (HBL.out n1)
    have HWN : Hid ((WW.drewN n1).heap.size = WW.heap.size) := Lib.hid rfl
    have y0 : (WW.drewN n1).cell? ⟨w.heap.size, 0, none⟩ = some (.pointer (some ⟨g, 0, none⟩)) := x0
    have y9 : (WW.drewN n1).cell? ⟨g, 9, none⟩ = some (.int .i64 s.a) := c9
    have y11 : (WW.drewN n1).cell? ⟨g, 11, none⟩ = some (.int .i64 s.m) := c11
    generalize WW.drewN n1 = W at HBN HWN y0 y9 y11 ⊢
    clear x0 x1 c9 c11 HBL
    have hga : ¬ w.heap.size = g := by omega
    go_region_held3 (fun w' => w'.cell? ⟨w.heap.size, 0, none⟩ = some (.pointer (some ⟨g, 0, none⟩)) ∧ w'.cell? ⟨g, 9, none⟩ = some (.int .i64 s.a) ∧ w'.cell? ⟨g, 11, none⟩ = some (.int .i64 s.m)) (go_keep)
      (first | (go_at_call 72; refine (fxPad (HH.out.below HBN.out.drew) (s.m - s.a) (by have := HA.out; omega)).mono ?_; intro e w3 hm; have HM := Lib.hid hm; obtain ⟨rfl, F3, hf, ht, _⟩ := hm; have z0 := (ht.cell (p := ⟨w.heap.size, 0, none⟩) (lt_of_cell y0) hga).trans y0; have z9 := fx_c9 hf; have z11 := fx_c11 hf))
    all_goals
      go_wp2
      go_end0
      rw [HS.out]
      exact HM.out.afterT (Touch.of_below HBN.out.drew)
  · have hd : decide (q - 8 < s.a) = false := decide_eq_false hle
    have HS := Lib.hid (show s.back q = { s with ph := .down (q - 8) } by unfold Fs.back; rw [if_neg hle])
    have HLE := Lib.hid hle
    clear hle
    go_enter Tryz.func71, Tryz.ntmps71
    go_upto_region 2 with (fail)
    rw [← hWW]
    clear hWW
    go_quiet (fail)
    go_wp2_with (go_at_call 85; refine (fxLook (HB.out.below (HBL.out _)) HH.out.ok.rg (q - 8) 87 #[] #[.pointer (some ⟨w.heap.size, 0, none⟩), .pointer (some ⟨w.heap.size + 1, 0, none⟩)]).mono ?_; intro e w3 hl; have HL := Lib.hid hl; obtain ⟨rfl, _⟩ := hl)
    go_end0
    rw [HS.out]
    obtain ⟨_, c, hk, h1, h2, h3, ht⟩ := HL.out
    have hs3 : w.heap.size + 2 ≤ w3.heap.size := by have := ht.size; have e : (WW.drewN nq).heap.size = WW.heap.size := rfl; omega
    refine fx_looked HH.out (HBL.out _) HL.out (.down (q - 8)) (.inr rfl) ⟨by have := HLE.out; have := HA.out; omega, by have := HQ.out; omega⟩ ⟨fun e => (by cases e), fun _ => ⟨w.heap.size, w.heap.size + 1, rfl, ⟨.inr ⟨by omega, by omega⟩, by omega, ?_⟩, ⟨.inr ⟨by omega, by omega⟩, by omega, ?_⟩⟩⟩
    · exact (ht.cell (p := ⟨w.heap.size, 0, none⟩) (show w.heap.size < WW.heap.size by omega) (show ¬ w.heap.size = g by omega)).trans x0
    · exact (ht.cell (p := ⟨w.heap.size + 1, 0, none⟩) (show w.heap.size + 1 < WW.heap.size by omega) (show ¬ w.heap.size + 1 = g by omega)).trans x1

end Go.Proofs.YtaomkamdfbibbaaGreat
