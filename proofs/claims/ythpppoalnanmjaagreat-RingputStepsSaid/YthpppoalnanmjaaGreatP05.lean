/-
  Layer 7's put, walked: the bytes are stored: the length.
  Layer 7's put, walked: what the claim was told.
  Layer 7's put, walked: the claim moved the tail over padding.
  Layer 7's put, walked: its bytes are followed, part by part; then comes the length.
  Layer 7's put, walked: the header was stored, or a part of the bytes: the bytes are followed.
  Layer 7's put takes an answer, whatever phase it is in.
  Layer 7's put from outside: what it does next, what it takes, how it ended, where its record stands; one that never began; none at all.
  Layer 7's put from outside, walked: Take, Next, Result, At.
  Layer 7's put is made.
  Arguments opened: an answer by value, a slice of answers.
  The tape of the plain answers (layer 5): an access told, or wanted; walked.
-/
import Derived.Test.YthpppoalnanmjaaGreatP04
import Derived.Test.YthpppoalnanmjaaGreatP03
import Derived.Deep.Slices
import Derived.Test.YthpppoalnanmjaaGreatP02
import Derived.Test.YthpppoalnanmjaaGreatP01
import Derived.Deep.QuietTactic
import Derived.BigQuiet
import Derived.BigRegion
namespace Go.Proofs.YthpppoalnanmjaaGreat
open Go.RowKit

set_option maxRecDepth 100000 in
set_option maxHeartbeats 1000000 in
theorem rpWrite11 {w : World} {F : Nat → Prop} {g : Nat} {s : Rs} {dv : Value} (h : RpBare w F g s dv) {a b c : Nat} (ht : Three w F g s a b c) :
    Calls Tryz.prog 109 #[.pointer (some ⟨a, 0, none⟩), .pointer (some ⟨b, 0, none⟩), .pointer (some ⟨c, 0, none⟩)] w (RpMovedG F g { s with ph := .len } w) := by
  obtain ⟨a0, av, hblk⟩ := h.blk
  have HH := Lib.hid h
  have HB := Lib.hid hblk
  have hfew := h.ok.few
  have hz1 := h.ok.z1
  have he : IntKind.u64.wrap (8 + (s.L : Int)) = ((8 + s.L : Nat) : Int) := by
    rw [show (8 + (s.L : Int)) = ((8 + s.L : Nat) : Int) by omega]
    exact IntWalk.u64_in _ (by omega)
  obtain ⟨⟨_, hag, hca⟩, ⟨_, hbg, hcb⟩, ⟨_, hcg, hcc⟩⟩ := ht
  have hga : ¬ a = g := hag
  have hgb : ¬ b = g := hbg
  have hgc : ¬ c = g := hcg
  have hla := lt_of_cell hca
  have hlb := lt_of_cell hcb
  have hlc := lt_of_cell hcc
  clear h hblk hfew hz1 hag hbg hcg
  go_enter Tryz.func109, Tryz.ntmps109
  go_upto_region 1 with (fail)
  go_region_held3 (fun w' => w'.cell? ⟨a, 0, none⟩ = some (.pointer (some ⟨g, 0, none⟩)) ∧ w'.cell? ⟨b, 0, none⟩ = some (.int .i64 (s.spot s.p)) ∧ w'.cell? ⟨c, 0, none⟩ = some (.int .i32 (8 + (s.L : Int)))) (go_keep)
    (first
      | (go_at_call 32; refine (rpDo (HB.out.below hb1) ⟨2, s.spot s.p, 4, 8 + s.L, 0, []⟩ none 0 0 110 #[] #[]).mono ?_; intro e wd has; have HAS := Lib.hid has; obtain ⟨rfl, hblkd, htd⟩ := has; have kd := (htd.cell (p := ⟨a, 0, none⟩) (lt_of_cell k1) hga).trans k1; have ad := (htd.cell (p := ⟨b, 0, none⟩) (lt_of_cell a1) hgb).trans a1; have ld := (htd.cell (p := ⟨c, 0, none⟩) (lt_of_cell l1) hgc).trans l1; clear hblkd)
      | (go_at_call 98; refine (stStore (s.spot s.p) 4 (8 + s.L) _).mono ?_; rintro e x1 ⟨rfl, hq1⟩; have hb1 := below_drew hq1; have k1 := (hb1.cell (p := ⟨a, 0, none⟩) hla).trans hca; have a1 := (hb1.cell (p := ⟨b, 0, none⟩) hlb).trans hcb; have l1 := (hb1.cell (p := ⟨c, 0, none⟩) hlc).trans hcc))
  all_goals
    go_wp2
    go_end0
    exact ⟨rp_asked (s' := { s with ph := .len }) HH.out rfl hb1 rfl HAS.out (BytesIn.none _ _) (fun w2 hk => rfl), (Touch.of_below hb1).trans HAS.out.2.2, HAS.out.2.1.c3.trans HB.out.c3.symm⟩
end Go.Proofs.YthpppoalnanmjaaGreat
namespace Go.Proofs.YthpppoalnanmjaaGreat
open Go.RowKit

set_option maxRecDepth 100000 in
set_option maxHeartbeats 1000000 in
/-- Another one was faster: it is tried again. -/
theorem rpClaim1No {w : World} {F : Nat → Prop} {g : Nat} {s : Rs} {dv : Value} (h : RpBare w F g s dv) {a b : Nat} (ha : Capt w F g a (.pointer (some ⟨g, 0, none⟩))) (V : Nat) (A : Option Addr) (L cp : Nat) :
    Calls Tryz.prog 101 #[.agg #[.int .u64 V, .bool false, .slice A L cp], .pointer (some ⟨a, 0, none⟩), .pointer (some ⟨b, 0, none⟩)] w (RpMoved F g { s with ph := .tail } w) := by
  have hb0 := (Below.refl w.heap.size w).alloc (Nat.le_refl _) (.cells #[.int .u64 V, .bool false, .slice A L cp] 33)
  have hx := Go.Deep.blk_alloc_new w (.cells #[.int .u64 V, .bool false, .slice A L cp] 33)
  have hc1 := (hb0.cell (p := ⟨a, 0, none⟩) (lt_of_cell ha.2.2)).trans ha.2.2
  have HH := Lib.hid (h.below hb0)
  have HW := Lib.hid hb0
  clear h hb0 ha
  go_enter Tryz.func101, Tryz.ntmps101
  go_upto_region 1 with (fail)
  generalize w.alloc (.cells #[.int .u64 V, .bool false, .slice A L cp] 33) = W at hx HH HW hc1 ⊢
  have x1 : W.cell? ⟨w.heap.size, 1, none⟩ = some (.bool false) := by simp [World.cell?, hx]
  clear hx
  go_wp2_with (go_at_call 36; refine (rpTry HH.out).mono ?_; intro e w3 hm; have HM := Lib.hid hm; obtain ⟨rfl, _⟩ := hm)
  go_end0
  exact HM.out.after HW.out

theorem rp_setP (s : Rs) (v : Int) (dv : Value) (a : Ac) (av th : Value) : (RpCells s dv a av th).setIfInBounds 14 (.int .i64 v) = RpCells { s with p := v } dv a av th := by simp [RpCells, Rs.need]
theorem Rs.Ok.withP {s : Rs} (ok : s.Ok) (v : Int) : ({ s with p := Rs.wr v } : Rs).Ok := ⟨ok.pow, ok.z0, ok.z1, ok.b0, ok.b1, ok.t0, ok.t1, ok.few, ok.isB, ok.h0, ok.tl, Rs.wr_in v⟩
theorem Rs.Ok.withC {s : Rs} {v : Bool} (ok : s.Ok) : ({ s with cl := v } : Rs).Ok := ⟨ok.pow, ok.z0, ok.z1, ok.b0, ok.b1, ok.t0, ok.t1, ok.few, ok.isB, ok.h0, ok.tl, ok.ps⟩
theorem rp_setC (s : Rs) (v : Bool) (dv : Value) (a : Ac) (av th : Value) : (RpCells s dv a av th).setIfInBounds 15 (.bool v) = RpCells { s with cl := v } dv a av th := by simp [RpCells, Rs.need]

set_option maxRecDepth 100000 in
set_option maxHeartbeats 1000000 in
/-- The tail is moved, no padding: the message's writing begins. -/
theorem rpClaim1Yes {w : World} {F : Nat → Prop} {g : Nat} {s : Rs} {dv : Value} (h : RpBare w F g s dv) {a b : Nat} (ha : Capt w F g a (.pointer (some ⟨g, 0, none⟩))) (hb : Capt w F g b (.int .i64 0)) (V : Nat) (A : Option Addr) (L cp : Nat) :
    Calls Tryz.prog 101 #[.agg #[.int .u64 V, .bool true, .slice A L cp], .pointer (some ⟨a, 0, none⟩), .pointer (some ⟨b, 0, none⟩)] w (RpMoved F g { s with p := Rs.wr (s.t + 0), cl := true, ph := .hdr } w) := by
  have hb0 := (Below.refl w.heap.size w).alloc (Nat.le_refl _) (.cells #[.int .u64 V, .bool true, .slice A L cp] 33)
  have hx := Go.Deep.blk_alloc_new w (.cells #[.int .u64 V, .bool true, .slice A L cp] 33)
  have hc1 := (hb0.cell (p := ⟨a, 0, none⟩) (lt_of_cell ha.2.2)).trans ha.2.2
  have hp1 := (hb0.cell (p := ⟨b, 0, none⟩) (lt_of_cell hb.2.2)).trans hb.2.2
  have hag : ¬ g = a := fun e => ha.2.1 e.symm
  have hbg : ¬ g = b := fun e => hb.2.1 e.symm
  have HH := Lib.hid (h.below hb0)
  have HW := Lib.hid hb0
  clear h hb0 ha hb
  go_enter Tryz.func101, Tryz.ntmps101
  go_upto_region 1 with (fail)
  generalize w.alloc (.cells #[.int .u64 V, .bool true, .slice A L cp] 33) = W at hx HH HW hc1 hp1 ⊢
  have x1 : W.cell? ⟨w.heap.size, 1, none⟩ = some (.bool true) := by simp [World.cell?, hx]
  clear hx
  obtain ⟨b0, bv, hblk⟩ := HH.out.blk
  have c13 := hblk.c13
  have c14 := hblk.c14
  have c15 := hblk.c15
  have f14 := hblk.free 14
  have f15 := hblk.free 15
  clear hblk
  go_upto_region 2 with (fail)
  go_upto_region 3 with (fail)
  go_region_held3 (fun w' => w'.cell? ⟨a, 0, none⟩ = some (.pointer (some ⟨g, 0, none⟩)) ∧ w'.cell? ⟨b, 0, none⟩ = some (.int .i64 0) ∧ w'.cell? ⟨g, 13, none⟩ = some (.int .i64 s.t)) (simp [*, World.cell?_setCell_far, World.cell?_setCell_other]) (fail)
  have hwr : IntKind.i64.wrap s.t = Rs.wr (s.t + 0) := by rw [Int.add_zero, IntKind.wrap_i64, Rs.wr, wrap64]
  rw [hwr]
  have HS := Lib.hid ((HH.out.store (s' := { s with p := Rs.wr (s.t + 0) }) 14 (.int .i64 (Rs.wr (s.t + 0))) (fun _ _ => rp_setP _ _ _ _ _ _) (HH.out.ok.withP _) rfl rfl).store (s' := { s with p := Rs.wr (s.t + 0), cl := true }) 15 (.bool true) (fun _ _ => rp_setC _ _ _ _ _ _) (HH.out.ok.withP _).withC rfl rfl)
  have HT : Hid (Touch F w ((W.setCell ⟨g, 14, none⟩ (.int .i64 (Rs.wr (s.t + 0)))).setCell ⟨g, 15, none⟩ (.bool true))) := Lib.hid (((Touch.of_below HW.out).setCell (p := ⟨g, 14, none⟩) HH.out.own _).setCell (p := ⟨g, 15, none⟩) HH.out.own _)
  have ha2 : ((W.setCell ⟨g, 14, none⟩ (.int .i64 (Rs.wr (s.t + 0)))).setCell ⟨g, 15, none⟩ (.bool true)).cell? ⟨a, 0, none⟩ = some (.pointer (some ⟨g, 0, none⟩)) := (World.cell?_setCell_far _ _ _ _ hag).trans ((World.cell?_setCell_far _ _ _ _ hag).trans hc1)
  have hp2 : ((W.setCell ⟨g, 14, none⟩ (.int .i64 (Rs.wr (s.t + 0)))).setCell ⟨g, 15, none⟩ (.bool true)).cell? ⟨b, 0, none⟩ = some (.int .i64 0) := (World.cell?_setCell_far _ _ _ _ hbg).trans ((World.cell?_setCell_far _ _ _ _ hbg).trans hp1)
  clear c13 c14 c15 f14 f15 x1 hc1 hp1 hwr
  generalize (W.setCell ⟨g, 14, none⟩ (.int .i64 (Rs.wr (s.t + 0)))).setCell ⟨g, 15, none⟩ (.bool true) = W2 at HS HT ha2 hp2 ⊢
  go_upto_region 4 with (fail)
  go_upto_region 5 with (fail)
  have HBD := Lib.hid ((Below.refl W2.heap.size W2).drew)
  have HC := Lib.hid (rpWrite (HS.out.below HBD.out))
  go_wp2_with (go_at_call 102; refine HC.out.mono ?_; intro e w3 hm; have HM := Lib.hid hm; obtain ⟨rfl, _⟩ := hm)
  go_end0
  exact (HM.out.after HBD.out).afterT HT.out
end Go.Proofs.YthpppoalnanmjaaGreat
namespace Go.Proofs.YthpppoalnanmjaaGreat
open Go.RowKit

theorem rp_jn (pad : Int) : Hd.jn (wrap32 pad) (-1) = Hd.jn pad (-1) := by
  have h : wrap32 pad = Hd.s32 pad := by unfold wrap32 Hd.s32; omega
  rw [h]
  unfold Hd.jn Hd.s32
  split <;> omega

set_option maxRecDepth 100000 in
set_option maxHeartbeats 1600000 in
/-- The tail is moved over padding: its header is written. -/
theorem rpClaim1Pad {w : World} {F : Nat → Prop} {g : Nat} {s : Rs} {dv : Value} (h : RpBare w F g s dv) {a b : Nat} (ha : Capt w F g a (.pointer (some ⟨g, 0, none⟩))) (pad : Int) (hnz : pad ≠ 0) (hb : Capt w F g b (.int .i64 pad)) (V : Nat) (A : Option Addr) (L cp : Nat) :
    Calls Tryz.prog 101 #[.agg #[.int .u64 V, .bool true, .slice A L cp], .pointer (some ⟨a, 0, none⟩), .pointer (some ⟨b, 0, none⟩)] w (RpMoved F g { s with p := Rs.wr (s.t + pad), cl := true, ph := .padd pad } w) := by
  have hb0 := (Below.refl w.heap.size w).alloc (Nat.le_refl _) (.cells #[.int .u64 V, .bool true, .slice A L cp] 33)
  have hx := Go.Deep.blk_alloc_new w (.cells #[.int .u64 V, .bool true, .slice A L cp] 33)
  have hc1 := (hb0.cell (p := ⟨a, 0, none⟩) (lt_of_cell ha.2.2)).trans ha.2.2
  have hp1 := (hb0.cell (p := ⟨b, 0, none⟩) (lt_of_cell hb.2.2)).trans hb.2.2
  have hFa := ha.1
  have hag : ¬ g = a := fun e => ha.2.1 e.symm
  have hbg : ¬ g = b := fun e => hb.2.1 e.symm
  have HH := Lib.hid (h.below hb0)
  have HW := Lib.hid hb0
  clear h hb0 ha hb
  go_enter Tryz.func101, Tryz.ntmps101
  go_upto_region 1 with (fail)
  generalize w.alloc (.cells #[.int .u64 V, .bool true, .slice A L cp] 33) = W at hx HH HW hc1 hp1 ⊢
  have x1 : W.cell? ⟨w.heap.size, 1, none⟩ = some (.bool true) := by simp [World.cell?, hx]
  clear hx
  obtain ⟨b0, bv, hblk⟩ := HH.out.blk
  have c13 := hblk.c13
  have c14 := hblk.c14
  have c15 := hblk.c15
  have f14 := hblk.free 14
  have f15 := hblk.free 15
  clear hblk
  go_upto_region 2 with (fail)
  go_upto_region 3 with (fail)
  go_region_held3 (fun w' => w'.cell? ⟨a, 0, none⟩ = some (.pointer (some ⟨g, 0, none⟩)) ∧ w'.cell? ⟨b, 0, none⟩ = some (.int .i64 pad) ∧ w'.cell? ⟨g, 13, none⟩ = some (.int .i64 s.t)) (simp [*, World.cell?_setCell_far, World.cell?_setCell_other]) (fail)
  have hwr : IntKind.i64.wrap (s.t + pad) = Rs.wr (s.t + pad) := by rw [IntKind.wrap_i64, Rs.wr, wrap64]
  rw [hwr]
  have HS := Lib.hid ((HH.out.store (s' := { s with p := Rs.wr (s.t + pad) }) 14 (.int .i64 (Rs.wr (s.t + pad))) (fun _ _ => rp_setP _ _ _ _ _ _) (HH.out.ok.withP _) rfl rfl).store (s' := { s with p := Rs.wr (s.t + pad), cl := true }) 15 (.bool true) (fun _ _ => rp_setC _ _ _ _ _ _) (HH.out.ok.withP _).withC rfl rfl)
  have HT : Hid (Touch F w ((W.setCell ⟨g, 14, none⟩ (.int .i64 (Rs.wr (s.t + pad)))).setCell ⟨g, 15, none⟩ (.bool true))) := Lib.hid (((Touch.of_below HW.out).setCell (p := ⟨g, 14, none⟩) HH.out.own _).setCell (p := ⟨g, 15, none⟩) HH.out.own _)
  have ha2 : ((W.setCell ⟨g, 14, none⟩ (.int .i64 (Rs.wr (s.t + pad)))).setCell ⟨g, 15, none⟩ (.bool true)).cell? ⟨a, 0, none⟩ = some (.pointer (some ⟨g, 0, none⟩)) := (World.cell?_setCell_far _ _ _ _ hag).trans ((World.cell?_setCell_far _ _ _ _ hag).trans hc1)
  have hp2 : ((W.setCell ⟨g, 14, none⟩ (.int .i64 (Rs.wr (s.t + pad)))).setCell ⟨g, 15, none⟩ (.bool true)).cell? ⟨b, 0, none⟩ = some (.int .i64 pad) := (World.cell?_setCell_far _ _ _ _ hbg).trans ((World.cell?_setCell_far _ _ _ _ hbg).trans hp1)
  clear c13 c14 c15 f14 f15 x1 hc1 hp1 hwr
  generalize (W.setCell ⟨g, 14, none⟩ (.int .i64 (Rs.wr (s.t + pad)))).setCell ⟨g, 15, none⟩ (.bool true) = W2 at HS HT ha2 hp2 ⊢
  go_upto_region 4 with (fail)
  have hdec : decide (pad = 0) = false := by simpa using hnz
  have hjn := rp_jn pad
  obtain ⟨Vp, hV, hVn⟩ : ∃ V : Nat, Hd.jn pad (-1) = (V : Int) ∧ (Hd.jn pad (-1)).toNat = V := rp_cast _ (Hd.jn_bounds _ _).1
  have HVN := Lib.hid hVn
  clear hVn
  go_upto_region 7 with (go_at_call 103; refine (record_any (wrap32 pad) (-1) _).mono ?_; rintro e w' ⟨rfl, rfl⟩; rw [hjn, hV])
  have HBD := Lib.hid ((Below.refl W2.heap.size W2).drew)
  have HS3 := Lib.hid (HS.out.below HBD.out)
  have k3 : W2.drew.cell? ⟨a, 0, none⟩ = some (.pointer (some ⟨g, 0, none⟩)) := ha2
  obtain ⟨b3, v3, hblk3⟩ := HS3.out.blk
  have HB3 := Lib.hid hblk3
  have t3 := hblk3.c13
  have z3 := hblk3.c0
  have o3 := hblk3.c1
  clear hblk3 ha2 hp2
  generalize W2.drew = W3 at HBD HS3 HB3 k3 t3 z3 o3 ⊢
  have hla := lt_of_cell k3
  have hlg := lt_of_cell t3
  have hga : ¬ a = g := fun e => hag e.symm
  go_region_held3 (fun w' => w'.cell? ⟨a, 0, none⟩ = some (.pointer (some ⟨g, 0, none⟩)) ∧ w'.cell? ⟨g, 0, none⟩ = some (.int .i64 s.B) ∧ w'.cell? ⟨g, 1, none⟩ = some (.int .i64 s.Z) ∧ w'.cell? ⟨g, 13, none⟩ = some (.int .i64 s.t)) (go_keep)
    (first
      | (go_at_call 32; refine (rpDo (HB3.out.below hb2) ⟨2, s.spot s.t, 8, Vp, 0, []⟩ none 0 0 105 #[] #[.pointer (some ⟨a, 0, none⟩)]).mono ?_; intro e wd has; have HAS := Lib.hid has; obtain ⟨rfl, hblkd, htd⟩ := has; have kd := (htd.cell (p := ⟨a, 0, none⟩) (lt_of_cell k2) hga).trans k2; have o0d := hblkd.c0; have o1d := hblkd.c1; have o13d := hblkd.c13; clear hblkd)
      | (go_at_call 85; refine (stSet (s.spot s.t) Vp _).mono ?_; rintro e x2 ⟨rfl, hq2⟩; have hb2 := hb1.trans (hq2.mono hb1.size); have k2 := (hb2.cell (p := ⟨a, 0, none⟩) hla).trans k3; have o02 := (hb2.cell (p := ⟨g, 0, none⟩) hlg).trans z3; have o12 := (hb2.cell (p := ⟨g, 1, none⟩) hlg).trans o3; have o132 := (hb2.cell (p := ⟨g, 13, none⟩) hlg).trans t3)
      | (go_at_call 104; refine (rpAtC HS3.out.ok s.t _).mono ?_; rintro e x1 ⟨rfl, hq1⟩; have hb1 := below_drew hq1; have k1 := (hb1.cell (p := ⟨a, 0, none⟩) hla).trans k3; have o01 := (hb1.cell (p := ⟨g, 0, none⟩) hlg).trans z3; have o11 := (hb1.cell (p := ⟨g, 1, none⟩) hlg).trans o3; have o131 := (hb1.cell (p := ⟨g, 13, none⟩) hlg).trans t3))
  all_goals
    go_wp2
    go_end0
    refine RpMoved.afterT (RpMoved.after (rp_asked (s' := { s with p := Rs.wr (s.t + pad), cl := true, ph := .padd pad }) HS3.out rfl hb2 (show some (⟨2, s.spot s.t, 8, (Hd.jn pad (-1)).toNat, 0, []⟩ : Ac) = _ by rw [HVN.out]) HAS.out (BytesIn.none _ _) fun w8 hk => ?_) HBD.out) HT.out
    exact ⟨a, rfl, ⟨.inl hFa, hga, (World.cell?_of_block (w := x2) (a := ⟨a, 0, none⟩) (hk _ hga (lt_of_cell k2))).trans k2⟩⟩
end Go.Proofs.YthpppoalnanmjaaGreat
namespace Go.Proofs.YthpppoalnanmjaaGreat
open Go.RowKit

theorem Three.below {w w' : World} {F : Nat → Prop} {g : Nat} {s : Rs} {a b c : Nat} (h : Three w F g s a b c) (hb : Below w.heap.size w w') : Three w' F g s a b c := ⟨h.1.below hb, h.2.1.below hb, h.2.2.below hb⟩
theorem Three.keep {w w' : World} {F F' : Nat → Prop} {g : Nat} {s : Rs} {a b c : Nat} (h : Three w F g s a b c) (hb : ∀ k, F k → k ≠ g → w'.heap[k]? = w.heap[k]?) (hF : ∀ k, F k → F' k) : Three w' F' g s a b c := ⟨(h.1.keep hb).mono hF, (h.2.1.keep hb).mono hF, (h.2.2.keep hb).mono hF⟩

theorem RpMovedG.after {F : Nat → Prop} {g : Nat} {s : Rs} {w W : World} {e : Ending} {w' : World} (h : RpMovedG F g s W e w') (hb : Below w.heap.size w W) (hg : g < w.heap.size) : RpMovedG F g s w e w' := ⟨h.1.after hb, (Touch.of_below hb).trans h.2.1, h.2.2.trans (hb.cell (p := ⟨g, 3, none⟩) hg)⟩

theorem rp_enter (a b c : Nat) (w : World) : (callFunc 109 #[.pointer (some ⟨a, 0, none⟩), .pointer (some ⟨b, 0, none⟩), .pointer (some ⟨c, 0, none⟩)]).run Tryz.prog w = .ok (.enter 109 #[.pointer (some ⟨a, 0, none⟩), .pointer (some ⟨b, 0, none⟩), .pointer (some ⟨c, 0, none⟩)]) w := by
  simp [go_sem]

/-- The bytes' copy is followed: its next access is asked for, or the length's. -/
theorem rpFollow {w : World} {F : Nat → Prop} {g : Nat} {s : Rs} {dv : Value} (h : RpBare w F g s dv) (hF : ∀ k, F k → k < w.heap.size) {a b c : Nat} (ht : Three w F g s a b c) {base top gc d : Nat} {v : Value}
    (hc : Cp w base top gc (.wr (s.spot s.p + 8) s.f) d (s.L - d) v []) (hd : d ≤ s.L) (hsep : ∀ k, (base ≤ k ∧ k < top) ∨ v.ownBlock = some k → F k ∧ k ≠ g ∧ k ≠ a ∧ k ≠ b ∧ k ≠ c ∧ (0 < s.L → dv.ownBlock ≠ some k)) :
    Calls Tryz.prog 107 #[.pointer (some ⟨g, 5, none⟩), .iface 156 (.pointer (some ⟨gc, 0, none⟩)), .func (.func 109) #[] #[.pointer (some ⟨a, 0, none⟩), .pointer (some ⟨b, 0, none⟩), .pointer (some ⟨c, 0, none⟩)]] w (RpMovedG F g (if d = s.L then { s with ph := .len } else { s with ph := .byt d }) w) := by
  by_cases hl : d = s.L
  · rw [if_pos hl]
    have hz : s.L - d = 0 := by omega
    rw [hz] at hc
    refine (stFollowNo hc g 5 (Q := fun w' => RpMovedG F g { s with ph := .len } w (.returned (.tuple #[])) w') #[.pointer (some ⟨a, 0, none⟩), .pointer (some ⟨b, 0, none⟩), .pointer (some ⟨c, 0, none⟩)] (by simp) (rp_enter a b c) fun W hW => ?_).mono ?_
    · refine (rpWrite11 (h.below hW) (ht.below hW)).mono ?_
      intro e w' hm
      have hm2 := hm.after hW h.lt
      obtain ⟨⟨rfl, _⟩, _⟩ := hm
      exact ⟨rfl, hm2⟩
    · rintro e w' ⟨rfl, hm⟩
      exact hm
  · rw [if_neg hl]
    obtain ⟨a0, av, hblk⟩ := h.blk
    refine (stFollowYes hc (by omega) hblk.st 109 #[] #[.pointer (some ⟨a, 0, none⟩), .pointer (some ⟨b, 0, none⟩), .pointer (some ⟨c, 0, none⟩)]).mono ?_
    rintro e w' ⟨rfl, W, A, l, cp, hW, ho, k0, k1, k2, rfl⟩
    have hgl := hblk.lt
    have has : RpAsked g s dv ⟨6, s.spot s.p + 8 + (d : Nat), (Cy.nx (s.L - d) : Nat), 0, 0, Mb.bl s.f d (Cy.nx (s.L - d))⟩ (.slice A l cp) (.func (.func 112) #[] #[.pointer (some ⟨w.heap.size + 1, 0, none⟩), .pointer (some ⟨w.heap.size, 0, none⟩), .pointer (some ⟨w.heap.size + 2, 0, none⟩)]) W (.returned (.tuple #[])) _ :=
      ⟨rfl, rp_seven (hblk.below hW) _ _ _, seven_touch1 W g 5 _ _ _⟩
    refine ⟨rp_askedS (s' := { s with ph := .byt d }) h rfl hW rfl has ?_ fun w2 hs hk => ?_, (Touch.of_below hW).trans (seven_touch1 W g 5 _ _ _), has.2.1.c3.trans hblk.c3.symm⟩
    · have hbi := (BytesIn.of_own ho).lt
      exact hbi.mono fun k h1 _ => ⟨.inr ⟨by have := h1.1; omega, h1.2⟩, by have := h1.1; omega⟩
    · have l0 := lt_of_cell k0
      have l1 := lt_of_cell k1
      have l2 := lt_of_cell k2
      have hne0 : w.heap.size ≠ g := by omega
      have hne1 : w.heap.size + 1 ≠ g := by omega
      have hne2 : w.heap.size + 2 ≠ g := by omega
      have hFk : ∀ k, F k → k ≠ g → w2.heap[k]? = w.heap[k]? := fun k hkF hkg => (hk k hkg (Nat.lt_of_lt_of_le (hF k hkF) hW.size)).trans (hW.block k (hF k hkF))
      refine ⟨w.heap.size + 1, w.heap.size, w.heap.size + 2, a, b, c, gc, base, top, v, rfl, ⟨.inr ⟨by omega, l1⟩, hne1, (World.cell?_of_block (w := W) (a := ⟨w.heap.size + 1, 0, none⟩) (hk _ hne1 l1)).trans k1⟩, ⟨.inr ⟨by omega, l0⟩, hne0, (World.cell?_of_block (w := W) (a := ⟨w.heap.size, 0, none⟩) (hk _ hne0 l0)).trans k0⟩, ⟨.inr ⟨by omega, l2⟩, hne2, (World.cell?_of_block (w := W) (a := ⟨w.heap.size + 2, 0, none⟩) (hk _ hne2 l2)).trans k2⟩, ht.keep hFk fun k hk => .inl hk, ?_, fun k hk2 => ?_, show d < s.L by omega⟩
      · refine hc.keep (Nat.le_trans hW.size hs) (fun k h1 h2 => ?_) fun k h1 => ?_
        · have := hsep k (.inl ⟨h1, h2⟩)
          exact hFk k this.1 this.2.1
        · have := hsep k (.inr h1)
          exact hFk k this.1 this.2.1
      · have h5 := hsep k hk2
        have h6 := hF k h5.1
        exact ⟨.inl h5.1, h5.2.1, by omega, by omega, by omega, h5.2.2.1, h5.2.2.2.1, h5.2.2.2.2.1, h5.2.2.2.2.2 (by omega)⟩
end Go.Proofs.YthpppoalnanmjaaGreat
namespace Go.Proofs.YthpppoalnanmjaaGreat
open Go.RowKit

theorem RpMovedG.narrow {F F2 : Nat → Prop} {g : Nat} {s : Rs} {w W : World} {e : Ending} {w' : World} (h : RpMovedG F2 g s W e w') (hb : Below w.heap.size w W) (hg : g < w.heap.size) (hF : ∀ k, F2 k → F k ∨ (w.heap.size ≤ k ∧ k < W.heap.size)) : RpMovedG F g s w e w' := ⟨h.1.narrow hb hF, (Touch.of_below hb).trans h.2.1, h.2.2.trans (hb.cell (p := ⟨g, 3, none⟩) hg)⟩

theorem rp_sep {w : World} {F : Nat → Prop} {g : Nat} {s : Rs} {dv : Value} (h : RpBare w F g s dv) {n top a b c : Nat} (hnm : n ≤ w.heap.size) (ha : a < w.heap.size) (hb : b < w.heap.size) (hc : c < w.heap.size) (k : Nat) (hk : (w.heap.size ≤ k ∧ k < top) ∨ Value.ownBlock (.slice none 0 0) = some k) :
    (F k ∨ (n ≤ k ∧ k < top)) ∧ k ≠ g ∧ k ≠ a ∧ k ≠ b ∧ k ≠ c ∧ (0 < s.L → dv.ownBlock ≠ some k) := by
  have hg := h.lt
  rcases hk with hk | hk
  · refine ⟨.inr ⟨by omega, hk.2⟩, by omega, by omega, by omega, by omega, fun hp e => ?_⟩
    have hx : 0 < (Mb.bl s.f 0 s.L).length := by rw [Mb.bl_length]; exact hp
    obtain ⟨A, cp, hv, hh⟩ := h.txt
    obtain ⟨b', off, e2, h1, h2, h3⟩ := hh hx
    rw [hv, e2] at e
    injection e with e
    simp only at e
    omega
  · cases hk

set_option maxRecDepth 100000 in
set_option maxHeartbeats 1600000 in
/-- The header was stored: the bytes' copy is made and followed. -/
theorem rpWrite1 {w : World} {F : Nat → Prop} {g : Nat} {s : Rs} {dv : Value} (h : RpBare w F g s dv) (hF : ∀ k, F k → k < w.heap.size) {a b c : Nat} (ht : Three w F g s a b c) (V : Nat) (D : Bool) (A : Option Addr) (L cp : Nat) :
    Calls Tryz.prog 106 #[.agg #[.int .u64 V, .bool D, .slice A L cp], .pointer (some ⟨a, 0, none⟩), .pointer (some ⟨b, 0, none⟩), .pointer (some ⟨c, 0, none⟩)] w (RpMovedG F g (if 0 = s.L then { s with ph := .len } else { s with ph := .byt 0 }) w) := by
  have hb0 := (Below.refl w.heap.size w).alloc (Nat.le_refl _) (.cells #[.int .u64 V, .bool D, .slice A L cp] 33)
  have hsp := h.ok.place_in s.p
  have hb1 := h.ok.b1
  have hfew := h.ok.few
  have hz1 := h.ok.z1
  have hsv : s.spot s.p = (s.B : Int) + s.place s.p := rfl
  have hnear : -4611686018427387904 ≤ s.spot s.p + 8 ∧ s.spot s.p + 8 ≤ 4611686018427387904 := by omega
  have hadd : IntKind.i64.wrap (s.spot s.p + 8) = s.spot s.p + 8 := IntWalk.i64_in _ (by omega)
  have HNE := Lib.hid hnear
  have HLL := Lib.hid (show s.L ≤ 131072 by omega)
  have hgl := h.lt
  have HH := Lib.hid (h.below hb0)
  have HT := Lib.hid (ht.below hb0)
  have HW := Lib.hid hb0
  have HFL := Lib.hid hF
  have hag := ht.1.2.1
  have hbg := ht.2.1.2.1
  have hcg := ht.2.2.2.1
  obtain ⟨s', hs'⟩ : ∃ s' : Rs, s' = (if 0 = s.L then { s with ph := .len } else { s with ph := .byt 0 }) := ⟨_, rfl⟩
  rw [← hs']
  have HS' := Lib.hid hs'
  obtain ⟨Ad, cd, hdv, _, _⟩ := h.dat
  subst hdv
  clear hs' h hb0 hsp hb1 hfew hz1 hsv hnear ht hF
  go_enter Tryz.func106, Tryz.ntmps106
  go_upto_region 1 with (fail)
  generalize w.alloc (.cells #[.int .u64 V, .bool D, .slice A L cp] 33) = W at HH HT HW ⊢
  have hca := HT.out.1.2.2
  have hcb := HT.out.2.1.2.2
  have hcc := HT.out.2.2.2.2
  have hla := lt_of_cell hca
  have hlb := lt_of_cell hcb
  have hlc := lt_of_cell hcc
  obtain ⟨a0, av, hblk⟩ := HH.out.blk
  have c3 := hblk.c3
  have hgW := hblk.lt
  clear hblk
  have hga : ¬ a = g := hag
  have hgb : ¬ b = g := hbg
  have hgc : ¬ c = g := hcg
  clear hag hbg hcg
  go_region_held3 (fun w' => w'.cell? ⟨a, 0, none⟩ = some (.pointer (some ⟨g, 0, none⟩)) ∧ w'.cell? ⟨b, 0, none⟩ = some (.int .i64 (s.spot s.p)) ∧ w'.cell? ⟨g, 3, none⟩ = some (.slice Ad s.L cd)) (go_keep)
    (first
      | (go_at_call 107; refine (rpFollow (HB1.out.wide (F' := fun k => F k ∨ (w.heap.size ≤ k ∧ k < w1.heap.size)) fun k hk => .inl hk) (fun k hk => hk.elim (fun hk => Nat.lt_of_lt_of_le (HFL.out k hk) hbW.size) fun hk => hk.2) (HT1.out.keep (fun _ _ _ => rfl) fun k hk => .inl hk) hc1 (Nat.zero_le _) (rp_sep HH.out HW.out.size hla hlb hlc)).mono ?_; intro e w4 hm; have HM := Lib.hid hm; obtain ⟨⟨rfl, _⟩, ht4, h34⟩ := hm; have o4 := h34.trans o1; have k4 := (ht4.cell (p := ⟨a, 0, none⟩) (lt_of_cell k1) hga).trans k1; have m4 := (ht4.cell (p := ⟨b, 0, none⟩) (lt_of_cell m1) hgb).trans m1)
      | (go_at_call 108; refine (in_any (s.spot s.p + 8) Ad s.L cd s.f W.drew HNE.out ((HH.out.below (Below.refl W.heap.size W).drew).txt.bytes) HLL.out).mono ?_; rintro e w1 ⟨gc, rfl, hc1, hq1⟩; have hb2 := below_drew hq1; have k1 := (hb2.cell (p := ⟨a, 0, none⟩) hla).trans hca; have m1 := (hb2.cell (p := ⟨b, 0, none⟩) hlb).trans hcb; have o1 := (hb2.cell (p := ⟨g, 3, none⟩) hgW).trans c3; have HB1 := Lib.hid (HH.out.below hb2); have HT1 := Lib.hid (HT.out.below hb2); have hbW := HW.out.trans (hb2.mono HW.out.size)))
  all_goals
    go_wp2
    go_end0
    rw [HS'.out]
    exact HM.out.narrow hbW hgl fun k hk => hk

/-- What a call leaves that turned blocks of the put alone: in the sense of what went on before. -/
theorem RpMoved.around {F F2 : Nat → Prop} {g : Nat} {s : Rs} {w W : World} {e : Ending} {w' : World} (h : RpMoved F2 g s W e w') (ht : Touch F w W) (hF : ∀ k, F2 k → F k ∨ (w.heap.size ≤ k ∧ k < W.heap.size)) : RpMoved F g s w e w' := by
  obtain ⟨he, F', hp, ht2, hF'⟩ := h
  refine ⟨he, F', hp, ⟨ht2.os.trans ht.os, ht2.tape.trans ht.tape, ht2.output.trans ht.output, Nat.le_trans ht.size ht2.size, fun k hk hn => (ht2.block k (Nat.lt_of_lt_of_le hk ht.size) fun e => ?_).trans (ht.block k hk hn)⟩, fun k hk => ?_⟩
  · rcases hF k e with e | e
    · exact hn e
    · omega
  · rcases hF' k hk with e | e
    · exact (hF k e).imp id fun e => ⟨e.1, Nat.lt_of_lt_of_le e.2 ht2.size⟩
    · exact .inr ⟨Nat.le_trans ht.size e.1, e.2⟩

set_option maxHeartbeats 800000 in
/-- A part of the bytes was stored: the next one, or the length. -/
theorem rpFollow1 {w : World} {F : Nat → Prop} {g : Nat} {s : Rs} {dv : Value} (h : RpBare w F g s dv) (hF : ∀ k, F k → k < w.heap.size) {em es eo a b c gc base top d : Nat} {v : Value}
    (hm : Capt w F g em (.iface 156 (.pointer (some ⟨gc, 0, none⟩)))) (hs : Capt w F g es (.pointer (some ⟨g, 5, none⟩))) (ho : Capt w F g eo (.func (.func 109) #[] #[.pointer (some ⟨a, 0, none⟩), .pointer (some ⟨b, 0, none⟩), .pointer (some ⟨c, 0, none⟩)])) (ht : Three w F g s a b c)
    (hc : Cp w base top gc (.wr (s.spot s.p + 8) s.f) d (s.L - d) v []) (hsep : ∀ k, (base ≤ k ∧ k < top) ∨ v.ownBlock = some k → F k ∧ k ≠ g ∧ k ≠ em ∧ k ≠ es ∧ k ≠ eo ∧ k ≠ a ∧ k ≠ b ∧ k ≠ c ∧ dv.ownBlock ≠ some k) (hd : d < s.L)
    (V : Nat) (D : Bool) (A : Option Addr) (L cp : Nat) {zs : List Int} (hz : BytesAt w (.slice A L cp) zs) :
    Calls Tryz.prog 112 #[.agg #[.int .u64 V, .bool D, .slice A L cp], .pointer (some ⟨em, 0, none⟩), .pointer (some ⟨es, 0, none⟩), .pointer (some ⟨eo, 0, none⟩)] w (RpMoved F g (if d + Cy.nx (s.L - d) = s.L then { s with ph := .len } else { s with ph := .byt (d + Cy.nx (s.L - d)) }) w) := by
  have hmine : ∀ k, Mine gc v k → F k ∧ k ≠ g ∧ k ≠ em ∧ k ≠ es ∧ k ≠ eo ∧ k ≠ a ∧ k ≠ b ∧ k ≠ c ∧ dv.ownBlock ≠ some k := fun k hk => by
    rcases hk with hk | hk
    · exact hsep k (.inl ⟨hk ▸ hc.above, hk ▸ hc.under⟩)
    · exact hsep k (.inr hk)
  have hnl := Cy.nx_le (s.L - d)
  obtain ⟨s', hs'⟩ : ∃ s' : Rs, s' = (if d + Cy.nx (s.L - d) = s.L then { s with ph := .len } else { s with ph := .byt (d + Cy.nx (s.L - d)) }) := ⟨_, rfl⟩
  rw [← hs']
  refine (stFollow1 hc (by omega) hm.2.2 hs.2.2 ho.2.2 (fun e => (hmine _ e).2.2.1 rfl) (fun e => (hmine _ e).2.2.2.1 rfl) (fun e => (hmine _ e).2.2.2.2.1 rfl) V D A L cp hz (fun e => by cases e) (Q := fun w' => RpMoved F g s' w (.returned (.tuple #[])) w') fun W v' hc' ht' hl' => ?_).mono ?_
  · have hTF : Touch F w W := ht'.mono fun k hk => (hmine k hk).1
    obtain ⟨a0, av, hblk⟩ := h.blk
    have hgM : ¬ Mine gc v g := fun e => (hmine g e).2.1 rfl
    have hk3 : ∀ q, q ≠ g → F q → (q = a ∨ q = b ∨ q = c) → W.heap[q]? = w.heap[q]? := fun q _ hq hq2 => ht'.block q (hF q hq) fun e => by
      have := hmine q e
      omega
    have hb : RpBare W (fun k => F k ∨ (w.heap.size ≤ k ∧ k < W.heap.size)) g s dv :=
      ⟨⟨a0, av, hblk.of_block (ht'.block g hblk.lt hgM)⟩, .inl h.own, h.ok, h.dat, (h.txt.ownK.keep ht'.size fun k hk hlt => ht'.block k hlt fun e => (hmine k e).2.2.2.2.2.2.2.2 hk.2.2).mono fun k hk _ => ⟨.inl hk.1.1, hk.1.2⟩⟩
    have ht3 : Three W (fun k => F k ∨ (w.heap.size ≤ k ∧ k < W.heap.size)) g s a b c := by
      have cap : ∀ {q : Nat} {u : Value}, Capt w F g q u → (q = a ∨ q = b ∨ q = c) → Capt W (fun k => F k ∨ (w.heap.size ≤ k ∧ k < W.heap.size)) g q u := fun hq h2 => ⟨.inl hq.1, hq.2.1, (World.cell?_of_block (w := w) (a := ⟨_, 0, none⟩) (hk3 _ hq.2.1 hq.1 h2)).trans hq.2.2⟩
      exact ⟨cap ht.1 (.inl rfl), cap ht.2.1 (.inr (.inl rfl)), cap ht.2.2 (.inr (.inr rfl))⟩
    have hsub : s.L - d - Cy.nx (s.L - d) = s.L - (d + Cy.nx (s.L - d)) := by omega
    rw [hsub] at hc'
    have hlt3 : ∀ {q : Nat} {u : Value}, Capt w F g q u → q < w.heap.size := fun hq => hF _ hq.1
    have la := hlt3 ht.1
    have lb := hlt3 ht.2.1
    have lc := hlt3 ht.2.2
    have hgl := hblk.lt
    have hdl : ∀ k, dv.ownBlock = some k → k < w.heap.size := fun k hk => by
      have hx : 0 < (Mb.bl s.f 0 s.L).length := by rw [Mb.bl_length]; omega
      obtain ⟨A', cp', hv, hh⟩ := h.txt
      obtain ⟨b', off, e2, h1, h2, h3⟩ := hh hx
      rw [hv, e2] at hk
      injection hk with hk
      simp only at hk
      omega
    refine (rpFollow hb (fun k hk => hk.elim (fun hk => Nat.lt_of_lt_of_le (hF k hk) ht'.size) fun hk => hk.2) ht3 hc' (by omega) fun k hk => ?_).mono fun e w' hm => ?_
    · have key : (F k ∧ k ≠ g ∧ k ≠ em ∧ k ≠ es ∧ k ≠ eo ∧ k ≠ a ∧ k ≠ b ∧ k ≠ c ∧ dv.ownBlock ≠ some k) ∨ (w.heap.size ≤ k ∧ k < W.heap.size) := by
        rcases hk with hk | hk
        · exact .inl (hsep k (.inl hk))
        · rcases hl' k hk with e | e
          · exact .inl (hsep k (.inr e))
          · exact .inr ⟨e, (hc'.own.ge hk).2⟩
      rcases key with h5 | h5
      · exact ⟨.inl h5.1, h5.2.1, h5.2.2.2.2.2.1, h5.2.2.2.2.2.2.1, h5.2.2.2.2.2.2.2.1, fun _ => h5.2.2.2.2.2.2.2.2⟩
      · exact ⟨.inr h5, by omega, by omega, by omega, by omega, fun _ e => by have := hdl k e; omega⟩
    · have h6 := hm.1.around hTF fun k hk => hk
      rw [← hs'] at h6
      obtain ⟨rfl, _⟩ := hm.1
      exact ⟨rfl, h6⟩
  · rintro e w' ⟨rfl, hm⟩
    exact hm
end Go.Proofs.YthpppoalnanmjaaGreat
namespace Go.Proofs.YthpppoalnanmjaaGreat
open Go.RowKit

theorem seven_size (W : World) (g o : Nat) (b : Ac) (bv th : Value) : (seven W g o b bv th).heap.size = W.heap.size := by simp [seven, World.setCell]

theorem PutAt.bare {w : World} {F : Nat → Prop} {g : Nat} {s : Rs} {A : Option Addr} {L c : Nat} {a : Ac} {av th : Value} (hk : RpBlk w g s (.slice A L c) a av th) (hg : F g) (hok : s.Ok) (ht : BytesIn (fun k => F k ∧ k ≠ g) w (.slice A L c) (Mb.bl s.f 0 s.L)) (hl : L ≤ c) (hc : c ≤ 9223372036854775807) {W : World} (hW : Below w.heap.size w W) :
    RpBare (seven W g 5 Ac.zero (.slice none 0 0) .nilFunc) F g s (.slice A L c) := by
  have hL : L = s.L := by
    obtain ⟨A', c', e, _⟩ := ht
    injection e with _ e _
    rw [e, Mb.bl_length]
  subst hL
  have hT := seven_touch1 W g 5 Ac.zero (.slice none 0 0) .nilFunc
  exact ⟨⟨_, _, rp_seven (hk.below hW) _ _ _⟩, hg, hok, ⟨A, c, rfl, hl, hc⟩, (ht.below hW).keep hT.size fun k hk hlt => hT.block k hlt hk.2⟩

/-- A byte is none of a put's cells. -/
theorem rp_noByte {w : World} {g : Nat} {s : Rs} {a : Ac} {A A2 : Option Addr} {l l2 c c2 : Nat} {k : FuncId} {rc caps : Array Value} (h : RpBlk w g s (.slice A l c) a (.slice A2 l2 c2) (.func (.func k) rc caps)) (i : Nat) (v : Int) : w.cell? ⟨g, i, none⟩ ≠ some (.int .u8 v) := by
  intro e
  have h' : w.heap[g]? = some (.cells (RpCells s (.slice A l c) a (.slice A2 l2 c2) (.func (.func k) rc caps)) 54 (0, 0)) := h
  simp only [World.cell?, h'] at e
  rcases Nat.lt_or_ge i 17 with hi | hi
  · rcases (by omega : i = 0 ∨ i = 1 ∨ i = 2 ∨ i = 3 ∨ i = 4 ∨ i = 5 ∨ i = 6 ∨ i = 7 ∨ i = 8 ∨ i = 9 ∨ i = 10 ∨ i = 11 ∨ i = 12 ∨ i = 13 ∨ i = 14 ∨ i = 15 ∨ i = 16) with h | h | h | h | h | h | h | h | h | h | h | h | h | h | h | h | h <;> (subst h; simp [RpCells] at e)
  · have : (RpCells s (.slice A l c) a (.slice A2 l2 c2) (.func (.func k) rc caps))[i]? = none := by
      rw [Array.getElem?_eq_none]
      simp [RpCells]
      exact hi
    simp [this] at e

theorem rp_bytes {w w' : World} {g : Nat} {s : Rs} {a : Ac} {A A2 : Option Addr} {l l2 c c2 : Nat} {k : FuncId} {rc caps : Array Value} (h : RpBlk w g s (.slice A l c) a (.slice A2 l2 c2) (.func (.func k) rc caps)) {v : Value} {xs : List Int} (hv : BytesAt w v xs) (ht : Touch (fun k => k = g) w w') : BytesAt w' v xs := by
  obtain ⟨A', c', e, hh⟩ := hv
  refine ⟨A', c', e, fun hp => ?_⟩
  obtain ⟨b, off, e1, hb, hcs⟩ := hh hp
  have hbg : b ≠ g := fun e => by
    subst e
    exact rp_noByte h _ _ (hcs 0 hp)
  exact ⟨b, off, e1, Nat.lt_of_lt_of_le hb ht.size, fun i hi => (World.cell?_of_block (w := w) (a := ⟨b, off + i, none⟩) (ht.block b hb hbg)).trans (hcs i hi)⟩

set_option maxHeartbeats 1000000 in
theorem rpStepsTake {w : World} {F : Nat → Prop} {g : Nat} {s : Rs} (h : PutAt w F g s) (hF : ∀ k, F k → k < w.heap.size) (x : An) (hx : x.V < 18446744073709551616) (A : Option Addr) (l c : Nat) (hB : BytesAt w (.slice A l c) x.bs) :
    Calls Tryz.prog 22 #[.pointer (some ⟨g, 5, none⟩), .agg #[.int .u64 x.V, .bool x.D, .slice A l c]] w (RpMoved F g (s.take x) w) := by
  obtain ⟨Ad, Ld, cd, a, av, th, hblk, hFg, hok, htxt, hl, hc, hth, hnx⟩ := h
  have hgl := hblk.lt
  have hbare : ∀ W, Below w.heap.size w W → RpBare (seven W g 5 Ac.zero (.slice none 0 0) .nilFunc) F g s (.slice Ad Ld cd) := fun W hW => PutAt.bare hblk hFg hok htxt hl hc hW
  have hkeep : ∀ W, Below w.heap.size w W → ∀ k, F k → k ≠ g → (seven W g 5 Ac.zero (.slice none 0 0) .nilFunc).heap[k]? = w.heap[k]? := fun W hW k hk hkg =>
    ((seven_touch1 W g 5 Ac.zero (.slice none 0 0) .nilFunc).block k (Nat.lt_of_lt_of_le (hF k hk) hW.size) hkg).trans (hW.block k (hF k hk))
  have hFW : ∀ W, Below w.heap.size w W → ∀ k, F k → k < (seven W g 5 Ac.zero (.slice none 0 0) .nilFunc).heap.size := fun W hW k hk => by rw [seven_size]; exact Nat.lt_of_lt_of_le (hF k hk) hW.size
  have hTF : ∀ W, Below w.heap.size w W → Touch F w (seven W g 5 Ac.zero (.slice none 0 0) .nilFunc) := fun W hW => (Touch.of_below hW).trans ((seven_touch1 W g 5 _ _ _).mono fun k hk => by have e : k = g := hk; rw [e]; exact hFg)
  have fin : ∀ {k : FuncId} {caps : Array Value} (s' : Rs) (hthv : th = .func (.func k) #[] caps) (args : Array Value) (ha : (#[] : Array Value).push (.agg #[.int .u64 x.V, .bool x.D, .slice A l c]) ++ caps = args) (he : ∀ w, (callFunc k args).run Tryz.prog w = .ok (.enter k args) w)
      (H : ∀ W, Below w.heap.size w W → Calls Tryz.prog k args (seven W g 5 Ac.zero (.slice none 0 0) .nilFunc) (RpMoved F g s' (seven W g 5 Ac.zero (.slice none 0 0) .nilFunc))),
      Calls Tryz.prog 22 #[.pointer (some ⟨g, 5, none⟩), .agg #[.int .u64 x.V, .bool x.D, .slice A l c]] w (RpMoved F g s' w) := by
    intro k caps s' hthv args ha he H
    subst hthv
    refine (stTakeYes hblk.st x.V x.D A l c (Q := fun w' => RpMoved F g s' w (.returned (.tuple #[])) w') args ha he fun W hW => (H W hW).mono fun e w' hm => ?_).mono ?_
    · have h2 := hm.afterT (hTF W hW)
      obtain ⟨rfl, _⟩ := hm
      exact ⟨rfl, h2⟩
    · rintro e w' ⟨rfl, hm⟩
      exact hm
  unfold ThenIs at hth
  unfold Rs.take
  cases hph : s.ph with
  | ask =>
    rw [hph] at hth
    obtain ⟨b, e, hb⟩ := hth
    exact fin _ e _ (by simp) (fun w => by simp [go_sem]) fun W hW => rpBegin1 (hbare W hW) (hb.keep (hkeep W hW)).2.2 hb.2.1 x.V x.D A l c
  | tail =>
    rw [hph] at hth
    obtain ⟨b, e, hb⟩ := hth
    exact fin _ e _ (by simp) (fun w => by simp [go_sem]) fun W hW => rpTry1 (hbare W hW) (hFW W hW) (hb.keep (hkeep W hW)).2.2 hb.2.1 x.V x.D A l c
  | head1 =>
    rw [hph] at hth
    obtain ⟨b1, b2, b3, on, e, h1, h2, h3, h4⟩ := hth
    exact fin _ e _ (by simp) (fun w => by simp [go_sem]) fun W hW => rpAwait1Tail (hbare W hW) (hFW W hW) (h1.keep (hkeep W hW)) (h2.keep (hkeep W hW)) (h3.keep (hkeep W hW)) (OnIs.keep h4 (hkeep W hW) fun _ hk => hk) x.V hx x.D A l c
  | head2 gap =>
    rw [hph] at hth
    obtain ⟨b1, b2, b3, on, e, h1, h2, h3, h4⟩ := hth
    exact fin _ e _ (by simp) (fun w => by simp [go_sem]) fun W hW => rpAwait1Gap (hbare W hW) (hFW W hW) gap (h1.keep (hkeep W hW)) (h2.keep (hkeep W hW)) (h3.keep (hkeep W hW)) (OnIs.keep h4 (hkeep W hW) fun _ hk => hk) x.V hx x.D A l c
  | copy1 =>
    rw [hph] at hth
    obtain ⟨b3, on, e, h3, h4⟩ := hth
    exact fin _ e _ (by simp) (fun w => by simp [go_sem]) fun W hW => rpAwait11Tail (hbare W hW) (hFW W hW) (h3.keep (hkeep W hW)) (OnIs.keep h4 (hkeep W hW) fun _ hk => hk) x.V x.D A l c
  | copy2 gap =>
    rw [hph] at hth
    obtain ⟨b3, on, e, h3, h4⟩ := hth
    exact fin _ e _ (by simp) (fun w => by simp [go_sem]) fun W hW => rpAwait11Gap (hbare W hW) gap (h3.keep (hkeep W hW)) (OnIs.keep h4 (hkeep W hW) fun _ hk => hk) x.V x.D A l c
  | cas pad =>
    rw [hph] at hth
    obtain ⟨b1, b2, e, h1, h2⟩ := hth
    refine fin _ e _ (by simp; rfl) (fun w => by simp [go_sem]) fun W hW => ?_
    cases hD : x.D with
    | false =>
      simp only [if_true]
      exact rpClaim1No (hbare W hW) (h1.keep (hkeep W hW)) x.V A l c
    | true =>
      by_cases hp : pad = 0
      · subst hp
        simp only [if_true]
        exact rpClaim1Yes (hbare W hW) (h1.keep (hkeep W hW)) (h2.keep (hkeep W hW)) x.V A l c
      · simp only [if_neg hp]
        exact rpClaim1Pad (hbare W hW) (h1.keep (hkeep W hW)) pad hp (h2.keep (hkeep W hW)) x.V A l c
  | padd pad =>
    rw [hph] at hth
    obtain ⟨b1, e, h1⟩ := hth
    exact fin _ e _ (by simp) (fun w => by simp [go_sem]) fun W hW => rpClaim11 (hbare W hW) (h1.keep (hkeep W hW)) x.V x.D A l c
  | hdr =>
    rw [hph] at hth
    obtain ⟨b1, b2, b3, e, h1⟩ := hth
    refine fin _ e _ (by simp) (fun w => by simp [go_sem]) fun W hW => (rpWrite1 (hbare W hW) (hFW W hW) (h1.keep (hkeep W hW) fun _ hk => hk) x.V x.D A l c).mono fun e w' hm => ?_
    by_cases hz : s.L = 0
    · have := hm.1
      rw [if_pos hz.symm] at this
      simp only [if_pos hz]
      exact this
    · have := hm.1
      rw [if_neg (fun e => hz e.symm)] at this
      simp only [if_neg hz]
      exact this
  | byt d =>
    rw [hph] at hth
    obtain ⟨em, es, eo, b1, b2, b3, gc, base, top, v, e, h1, h2, h3, h4, h5, h6, h7⟩ := hth
    refine fin _ e _ (by simp; rfl) (fun w => by simp [go_sem]) fun W hW => ?_
    have hT := hTF W hW
    obtain ⟨rfl, hav⟩ := hnx ⟨6, s.spot s.p + 8 + (d : Nat), (Cy.nx (s.L - d) : Nat), 0, 0, Mb.bl s.f d (Cy.nx (s.L - d))⟩ (by unfold Rs.next; rw [hph])
    obtain ⟨Av, cv, hav, _⟩ := hav
    subst hav
    have hblkW := hblk.below hW
    rw [e] at hblkW
    exact rpFollow1 (hbare W hW) (hFW W hW) (h1.keep (hkeep W hW)) (h2.keep (hkeep W hW)) (h3.keep (hkeep W hW)) (h4.keep (hkeep W hW) fun _ hk => hk) (h5.keep hT.size (fun k k1 k2 => hkeep W hW k (h6 k (.inl ⟨k1, k2⟩)).1 (h6 k (.inl ⟨k1, k2⟩)).2.1) fun k k1 => hkeep W hW k (h6 k (.inr k1)).1 (h6 k (.inr k1)).2.1) h6 h7 x.V x.D A l c
      (rp_bytes (k := 112) (rc := #[]) (caps := _) hblkW (hB.below hW) (seven_touch1 W g 5 _ _ _))
  | len =>
    rw [hph] at hth
    exact fin _ hth _ (by simp) (fun w => by simp [go_sem]) fun W hW => rpWrite111 (hbare W hW) x.V x.D A l c
  | fin =>
    rw [hph] at hth
    have e : th = .nilFunc := hth
    subst e
    refine (stTakeNo hblk.c11 x.V x.D A l c).mono ?_
    rintro e w' ⟨rfl, hb⟩
    refine ⟨rfl, F, ⟨Ad, Ld, cd, a, av, _, hblk.below hb, hFg, hok, htxt.below hb, hl, hc, ?_, fun b hb' => ?_⟩, Touch.of_below hb, fun k hk => .inl hk⟩
    · unfold ThenIs
      rw [hph]
    · unfold Rs.next at hb'
      rw [hph] at hb'
      cases hb'
end Go.Proofs.YthpppoalnanmjaaGreat
namespace Go.Proofs.YthpppoalnanmjaaGreat
open Go.RowKit

/-- A put: one that goes on, or one that never began (its ring's size, its fault). -/
inductive Pm where
  | live (s : Rs) | dead (Z er : Int)
namespace Pm
def next : Pm → Option Ac
  | .live s => s.next
  | .dead _ _ => none
def take : Pm → An → Pm
  | .live s, x => .live (s.take x)
  | .dead Z er, _ => .dead Z er
def busy : Pm → Bool
  | .live s => s.next.isSome
  | .dead _ _ => false
def size : Pm → Int
  | .live s => s.Z
  | .dead Z _ => Z
def fault : Pm → Int
  | .live s => s.er
  | .dead _ er => er
def pos : Pm → Int
  | .live s => s.p
  | .dead _ _ => 0
def has : Pm → Bool
  | .live s => s.cl
  | .dead _ _ => false
/-- How it ended: a position, an error. -/
def result (m : Pm) : Int × Int := if m.size = 0 then (0, 1) else if m.busy = true then (0, 10) else if m.fault = 0 then (m.pos, 0) else (0, m.fault)
end Pm

/-- The cells of a put that never began. -/
def PxCells (B Z er : Int) : Array Value :=
  #[.int .i64 B, .int .i64 Z, .int .i32 0, .slice none 0 0, .int .i64 0, .int .i64 0, .int .i64 0, .int .i64 0, .int .u64 0, .int .u64 0, .slice none 0 0, .nilFunc, .int .i64 0, .int .i64 0, .int .i64 0, .bool false, .int .i64 er]
/-- A put stands in the blocks F, its own block is g. -/
def PmAt (w : World) (F : Nat → Prop) (g : Nat) : Pm → Prop
  | .live s => PutAt w F g s
  | .dead Z er => F g ∧ ∃ B, w.heap[g]? = some (.cells (PxCells B Z er) 54 (0, 0))

/-- What a call on a put leaves. -/
def PmMoved (F : Nat → Prop) (g : Nat) (m : Pm) (w : World) (e : Ending) (w' : World) : Prop :=
  e = .returned (.tuple #[]) ∧ ∃ F', PmAt w' F' g m ∧ Touch F w w' ∧ ∀ k, F' k → F k ∨ (w.heap.size ≤ k ∧ k < w'.heap.size)

theorem PutAt.below {w w' : World} {F : Nat → Prop} {g : Nat} {s : Rs} (h : PutAt w F g s) (hs : w.heap.size ≤ w'.heap.size) (hb : ∀ k, F k → w'.heap[k]? = w.heap[k]?) : PutAt w' F g s := by
  obtain ⟨A, L, c, a, av, th, h1, h2, h3, h4, h5, h6, h7, h8⟩ := h
  have hg := hb g h2
  have hc : ∀ {a : Nat} {v : Value}, Capt w F g a v → Capt w' F g a v := fun h => h.keep fun k hk _ => hb k hk
  have ho : ∀ {o : Option Int} {v : Value}, OnIs w F g o v → OnIs w' F g o v := fun h => OnIs.keep h (fun k hk _ => hb k hk) fun _ hk => hk
  refine ⟨A, L, c, a, av, th, h1.of_block hg, h2, h3, h4.keep hs fun k hk _ => hb k hk.1, h5, h6, ?_, fun b hb' => ⟨(h8 b hb').1, (h8 b hb').2.keep hs fun k hk _ => hb k hk.1⟩⟩
  unfold ThenIs at h7 ⊢
  cases hph : s.ph with
  | ask => rw [hph] at h7; obtain ⟨a, e, h⟩ := h7; exact ⟨a, e, hc h⟩
  | tail => rw [hph] at h7; obtain ⟨a, e, h⟩ := h7; exact ⟨a, e, hc h⟩
  | head1 => rw [hph] at h7; obtain ⟨a, b, c, on, e, k1, k2, k3, k4⟩ := h7; exact ⟨a, b, c, on, e, hc k1, hc k2, hc k3, ho k4⟩
  | head2 gap => rw [hph] at h7; obtain ⟨a, b, c, on, e, k1, k2, k3, k4⟩ := h7; exact ⟨a, b, c, on, e, hc k1, hc k2, hc k3, ho k4⟩
  | copy1 => rw [hph] at h7; obtain ⟨c, on, e, k3, k4⟩ := h7; exact ⟨c, on, e, hc k3, ho k4⟩
  | copy2 gap => rw [hph] at h7; obtain ⟨c, on, e, k3, k4⟩ := h7; exact ⟨c, on, e, hc k3, ho k4⟩
  | cas pad => rw [hph] at h7; obtain ⟨a, b, e, k1, k2⟩ := h7; exact ⟨a, b, e, hc k1, hc k2⟩
  | padd pad => rw [hph] at h7; obtain ⟨a, e, k1⟩ := h7; exact ⟨a, e, hc k1⟩
  | hdr => rw [hph] at h7; obtain ⟨a, b, c, e, k1, k2, k3⟩ := h7; exact ⟨a, b, c, e, hc k1, hc k2, hc k3⟩
  | byt d =>
    rw [hph] at h7
    obtain ⟨em, es, eo, b1, b2, b3, gc, base, top, v, e, k1, k2, k3, ⟨k4, k5, k6⟩, k7, k8, k9⟩ := h7
    exact ⟨em, es, eo, b1, b2, b3, gc, base, top, v, e, hc k1, hc k2, hc k3, ⟨hc k4, hc k5, hc k6⟩, k7.keep hs (fun k x y => hb k (k8 k (.inl ⟨x, y⟩)).1) fun k x => hb k (k8 k (.inr x)).1, k8, k9⟩
  | len => rw [hph] at h7; exact h7
  | fin => rw [hph] at h7; exact h7

theorem PutAt.wide {w : World} {F F' : Nat → Prop} {g : Nat} {s : Rs} (h : PutAt w F g s) (hF : ∀ k, F k → F' k) : PutAt w F' g s := by
  obtain ⟨A, L, c, a, av, th, h1, h2, h3, h4, h5, h6, h7, h8⟩ := h
  have hc : ∀ {a : Nat} {v : Value}, Capt w F g a v → Capt w F' g a v := fun h => h.mono hF
  have ho : ∀ {o : Option Int} {v : Value}, OnIs w F g o v → OnIs w F' g o v := fun h => OnIs.keep h (fun k hk _ => rfl) hF
  refine ⟨A, L, c, a, av, th, h1, hF g h2, h3, h4.mono fun k hk _ => ⟨hF k hk.1, hk.2⟩, h5, h6, ?_, fun b hb' => ⟨(h8 b hb').1, (h8 b hb').2.mono fun k hk _ => ⟨hF k hk.1, hk.2⟩⟩⟩
  unfold ThenIs at h7 ⊢
  cases hph : s.ph with
  | ask => rw [hph] at h7; obtain ⟨a, e, h⟩ := h7; exact ⟨a, e, hc h⟩
  | tail => rw [hph] at h7; obtain ⟨a, e, h⟩ := h7; exact ⟨a, e, hc h⟩
  | head1 => rw [hph] at h7; obtain ⟨a, b, c, on, e, k1, k2, k3, k4⟩ := h7; exact ⟨a, b, c, on, e, hc k1, hc k2, hc k3, ho k4⟩
  | head2 gap => rw [hph] at h7; obtain ⟨a, b, c, on, e, k1, k2, k3, k4⟩ := h7; exact ⟨a, b, c, on, e, hc k1, hc k2, hc k3, ho k4⟩
  | copy1 => rw [hph] at h7; obtain ⟨c, on, e, k3, k4⟩ := h7; exact ⟨c, on, e, hc k3, ho k4⟩
  | copy2 gap => rw [hph] at h7; obtain ⟨c, on, e, k3, k4⟩ := h7; exact ⟨c, on, e, hc k3, ho k4⟩
  | cas pad => rw [hph] at h7; obtain ⟨a, b, e, k1, k2⟩ := h7; exact ⟨a, b, e, hc k1, hc k2⟩
  | padd pad => rw [hph] at h7; obtain ⟨a, e, k1⟩ := h7; exact ⟨a, e, hc k1⟩
  | hdr => rw [hph] at h7; obtain ⟨a, b, c, e, k1, k2, k3⟩ := h7; exact ⟨a, b, c, e, hc k1, hc k2, hc k3⟩
  | byt d =>
    rw [hph] at h7
    obtain ⟨em, es, eo, b1, b2, b3, gc, base, top, v, e, k1, k2, k3, ⟨k4, k5, k6⟩, k7, k8, k9⟩ := h7
    exact ⟨em, es, eo, b1, b2, b3, gc, base, top, v, e, hc k1, hc k2, hc k3, ⟨hc k4, hc k5, hc k6⟩, k7, fun k hk => ⟨hF k (k8 k hk).1, (k8 k hk).2⟩, k9⟩
  | len => rw [hph] at h7; exact h7
  | fin => rw [hph] at h7; exact h7

theorem PmAt.keep {w w' : World} {F : Nat → Prop} {g : Nat} {m : Pm} (h : PmAt w F g m) (hs : w.heap.size ≤ w'.heap.size) (hb : ∀ k, F k → w'.heap[k]? = w.heap[k]?) : PmAt w' F g m := by
  cases m with
  | live s => exact PutAt.below h hs hb
  | dead Z er =>
    obtain ⟨h1, B, h2⟩ := h
    exact ⟨h1, B, (hb g h1).trans h2⟩
theorem PmAt.wide {w : World} {F F' : Nat → Prop} {g : Nat} {m : Pm} (h : PmAt w F g m) (hF : ∀ k, F k → F' k) : PmAt w F' g m := by
  cases m with
  | live s => exact PutAt.wide h hF
  | dead Z er =>
    obtain ⟨h1, B, h2⟩ := h
    exact ⟨hF g h1, B, h2⟩

/-- Something goes on where, and only where, there is a next access. -/
theorem PutAt.thenIs {w : World} {F : Nat → Prop} {g : Nat} {s : Rs} {dv th : Value} (h : ThenIs w F g s dv th) : (s.next = none ∧ th = .nilFunc) ∨ (s.next ≠ none ∧ ∃ k rc caps, th = .func (.func k) rc caps) := by
  unfold ThenIs at h
  unfold Rs.next
  cases hph : s.ph with
  | fin => rw [hph] at h; exact .inl ⟨rfl, h⟩
  | len => rw [hph] at h; exact .inr ⟨by simp, _, _, _, h⟩
  | ask => rw [hph] at h; obtain ⟨_, e, _⟩ := h; exact .inr ⟨by simp, _, _, _, e⟩
  | tail => rw [hph] at h; obtain ⟨_, e, _⟩ := h; exact .inr ⟨by simp, _, _, _, e⟩
  | head1 => rw [hph] at h; obtain ⟨_, _, _, _, e, _⟩ := h; exact .inr ⟨by simp, _, _, _, e⟩
  | head2 gap => rw [hph] at h; obtain ⟨_, _, _, _, e, _⟩ := h; exact .inr ⟨by simp, _, _, _, e⟩
  | copy1 => rw [hph] at h; obtain ⟨_, _, e, _⟩ := h; exact .inr ⟨by simp, _, _, _, e⟩
  | copy2 gap => rw [hph] at h; obtain ⟨_, _, e, _⟩ := h; exact .inr ⟨by simp, _, _, _, e⟩
  | cas pad => rw [hph] at h; obtain ⟨_, _, e, _⟩ := h; exact .inr ⟨by simp, _, _, _, e⟩
  | padd pad => rw [hph] at h; obtain ⟨_, e, _⟩ := h; exact .inr ⟨by simp, _, _, _, e⟩
  | hdr => rw [hph] at h; obtain ⟨_, _, _, e, _⟩ := h; exact .inr ⟨by simp, _, _, _, e⟩
  | byt d => rw [hph] at h; obtain ⟨_, _, _, _, _, _, _, _, _, _, e, _⟩ := h; exact .inr ⟨by simp, _, _, _, e⟩
end Go.Proofs.YthpppoalnanmjaaGreat
namespace Go.Proofs.YthpppoalnanmjaaGreat
open Go.RowKit

namespace PxCells
variable {w : World} {g : Nat} {B Z er : Int}
theorem st (h : w.heap[g]? = some (.cells (PxCells B Z er) 54 (0, 0))) : w.cell? ⟨g, 11, none⟩ = some .nilFunc := by simp [World.cell?, h, PxCells]
end PxCells

theorem rp_ans_box (w : World) (V : Nat) (D : Bool) (A : Option Addr) (l c : Nat) :
    (w.alloc (.cells #[.int .u64 V, .bool D, .slice A l c] 33)).cell? ⟨w.heap.size, 0, none⟩ = some (.int .u64 V) ∧
    (w.alloc (.cells #[.int .u64 V, .bool D, .slice A l c] 33)).cell? ⟨w.heap.size, 1, none⟩ = some (.bool D) ∧
    (w.alloc (.cells #[.int .u64 V, .bool D, .slice A l c] 33)).cell? ⟨w.heap.size, 2, none⟩ = some (.slice A l c) := by
  have h := Go.Deep.blk_alloc_new w (.cells #[.int .u64 V, .bool D, .slice A l c] 33)
  refine ⟨?_, ?_, ?_⟩ <;> (unfold World.cell?; simp only [h]; rfl)

set_option maxRecDepth 100000 in
set_option maxHeartbeats 800000 in
theorem putTakeNil (V : Nat) (D : Bool) (A : Option Addr) (l c : Nat) (w : World) :
    Calls Tryz.prog 7 #[.pointer none, .agg #[.int .u64 V, .bool D, .slice A l c]] w (Made (.tuple #[]) w) := by
  have HW := Lib.hid ((Below.refl w.heap.size w).alloc (Nat.le_refl _) (.cells #[.int .u64 V, .bool D, .slice A l c] 33))
  go_enter Tryz.func7, Tryz.ntmps7
  go_upto_region 1 with (fail)
  generalize w.alloc (.cells #[.int .u64 V, .bool D, .slice A l c] 33) = W at HW ⊢
  go_wp2
  go_end0
  exact ⟨rfl, HW.out⟩

set_option maxRecDepth 100000 in
set_option maxHeartbeats 800000 in
theorem putTake {w : World} {F : Nat → Prop} {g : Nat} {m : Pm} (h : PmAt w F g m) (hF : ∀ k, F k → k < w.heap.size) (x : An) (hx : x.V < 18446744073709551616) (A : Option Addr) (l c : Nat) (hB : BytesAt w (.slice A l c) x.bs) :
    Calls Tryz.prog 7 #[.pointer (some ⟨g, 0, none⟩), .agg #[.int .u64 x.V, .bool x.D, .slice A l c]] w (PmMoved F g (m.take x) w) := by
  have hb0 := (Below.refl w.heap.size w).alloc (Nat.le_refl _) (.cells #[.int .u64 x.V, .bool x.D, .slice A l c] 33)
  obtain ⟨x0, x1, x2⟩ := rp_ans_box w x.V x.D A l c
  have HW := Lib.hid hb0
  have HC : Hid (∀ W, Below w.heap.size w W → Calls Tryz.prog 22 #[.pointer (some ⟨g, 5, none⟩), .agg #[.int .u64 x.V, .bool x.D, .slice A l c]] W (PmMoved F g (m.take x) W)) := Lib.hid fun W hW => by
    have hk := h.keep hW.size fun k hk => hW.block k (hF k hk)
    cases m with
    | live s => exact (rpStepsTake hk (fun k hk => Nat.lt_of_lt_of_le (hF k hk) hW.size) x hx A l c (hB.below hW)).mono fun e w' hm => hm
    | dead Z er =>
      obtain ⟨h1, B, h2⟩ := hk
      refine (stTakeNo (PxCells.st h2) x.V x.D A l c).mono ?_
      rintro e w' ⟨rfl, hb⟩
      exact ⟨rfl, F, ⟨h1, B, (hb.block g (Nat.lt_of_lt_of_le (hF g h1) hW.size)).trans h2⟩, Touch.of_below hb, fun k hk => .inl hk⟩
  have hnF : ¬ F w.heap.size := fun e => Nat.lt_irrefl _ (hF _ e)
  clear h hF hB hb0
  go_enter Tryz.func7, Tryz.ntmps7
  go_upto_region 1 with (fail)
  generalize w.alloc (.cells #[.int .u64 x.V, .bool x.D, .slice A l c] 33) = W at HW x0 x1 x2 ⊢
  go_upto_region 2 with (fail)
  go_region_held3 (fun w' => w'.cell? ⟨w.heap.size, 0, none⟩ = some (.int .u64 x.V) ∧ w'.cell? ⟨w.heap.size, 1, none⟩ = some (.bool x.D) ∧ w'.cell? ⟨w.heap.size, 2, none⟩ = some (.slice A l c)) (go_keep)
    (first | (go_at_call 22; refine (HC.out W.drew HW.out.drew).mono ?_; intro e w3 hm; have HM := Lib.hid hm; obtain ⟨rfl, F', hp, ht, hF'⟩ := hm; have y0 := (ht.cell (p := ⟨w.heap.size, 0, none⟩) (lt_of_cell x0) hnF).trans x0; have y1 := (ht.cell (p := ⟨w.heap.size, 1, none⟩) (lt_of_cell x0) hnF).trans x1; have y2 := (ht.cell (p := ⟨w.heap.size, 2, none⟩) (lt_of_cell x0) hnF).trans x2))
  all_goals
    go_wp2
    go_end0
    exact ⟨rfl, F', hp, (Touch.of_below HW.out.drew).trans ht, fun k hk => (hF' k hk).imp id fun h => ⟨Nat.le_trans HW.out.size h.1, h.2⟩⟩

set_option maxRecDepth 100000 in
set_option maxHeartbeats 800000 in
theorem putNextNil (w : World) : Calls Tryz.prog 19 #[.pointer none] w (NextTold none w) := by
  have HA := AccNew.made w
  have HW := Lib.hid ((Below.refl w.heap.size w).alloc (Nat.le_refl _) (.cells #[.int .i64 0, .int .i64 0, .int .i64 0, .int .u64 0, .int .u64 0, .slice none 0 0] 50))
  go_enter Tryz.func19, Tryz.ntmps19
  go_upto_region 1 with (fail)
  generalize w.alloc (.cells #[.int .i64 0, .int .i64 0, .int .i64 0, .int .u64 0, .int .u64 0, .slice none 0 0] 50) = W at HA HW ⊢
  obtain ⟨a0, a1, a2, a3, a4, a5, f0, f1, f2, f3, f4, f5, hbk⟩ := HA
  go_wp2
  refine bodyPost_ret (v := .tuple #[.agg #[.int .i64 0, .int .i64 0, .int .i64 0, .int .u64 0, .int .u64 0, .slice none 0 0], .bool false]) (by simp [results, Tryz.results19, go_sem, a0, a1, a2, a3, a4, a5]) rfl ?_
  exact ⟨six_below HW.out (Nat.le_refl _) _ _ _ _ _ _, rfl⟩

theorem Pm.fine {w : World} {F : Nat → Prop} {g : Nat} {m : Pm} (h : PmAt w F g m) {a : Ac} (ha : m.next = some a) : a.Fine := by
  cases m with
  | dead Z er => cases ha
  | live s =>
    obtain ⟨A, L, c, a0, av, th, h1, h2, ok, h4, h5, h6, h7, h8⟩ := h
    obtain ⟨hp0, hz0, hz1, hb0, hb1, ht0, ht1, hfew, hB, hh, htl, hps⟩ := ok
    have okr : Rg.Ok s.B s.Z := ⟨hp0, hz0, hz1, hb0, hb1⟩
    have un_lt : ∀ y : Int, Rs.un y < 18446744073709551616 := fun y => by unfold Rs.un; omega
    have jn_lt : ∀ x y : Int, (Hd.jn x y).toNat < 18446744073709551616 := fun x y => by have := Hd.jn_bounds x y; omega
    have num : ∀ k : Int, 0 ≤ k → k ≤ 16 → -9223372036854775808 ≤ s.num k ∧ s.num k ≤ 9223372036854775807 := fun k _ _ => by unfold Rs.num Rg.num; omega
    have spot : ∀ v : Int, 0 ≤ s.spot v ∧ s.spot v ≤ 140000 := fun v => by have := okr.place_in v; unfold Rs.spot Rg.spot; omega
    have mk : ∀ (K P N : Int) (V U : Nat), (0 ≤ K ∧ K ≤ 8) → (-9223372036854775808 ≤ P ∧ P ≤ 9223372036854775807) → (0 ≤ N ∧ N ≤ 8) → V < 18446744073709551616 → U < 18446744073709551616 → Ac.Fine ⟨K, P, N, V, U, []⟩ := fun K P N V U h1 h2 h3 h4 h5 => ⟨h4, h5, ⟨by show _ ≤ K; omega, by show K ≤ _; omega⟩, h2, ⟨by show _ ≤ N; omega, by show N ≤ _; omega⟩, Bys.nil, by show (0 : Nat) ≤ _; omega⟩
    have ha' : s.next = some a := ha
    unfold Rs.next at ha'
    unfold ThenIs at h7
    cases hph : s.ph with
    | fin => rw [hph] at ha'; cases ha'
    | ask => rw [hph] at ha'; injection ha' with e; subst e; exact mk _ _ _ _ _ (by omega) (num _ (by omega) (by omega)) (by omega) (by omega) (by omega)
    | tail => rw [hph] at ha'; injection ha' with e; subst e; exact mk _ _ _ _ _ (by omega) (num _ (by omega) (by omega)) (by omega) (by omega) (by omega)
    | head1 => rw [hph] at ha'; injection ha' with e; subst e; exact mk _ _ _ _ _ (by omega) (num _ (by omega) (by omega)) (by omega) (by omega) (by omega)
    | head2 gap => rw [hph] at ha'; injection ha' with e; subst e; exact mk _ _ _ _ _ (by omega) (num _ (by omega) (by omega)) (by omega) (by omega) (by omega)
    | copy1 => rw [hph] at ha'; injection ha' with e; subst e; exact mk _ _ _ _ _ (by omega) (num _ (by omega) (by omega)) (by omega) (un_lt _) (by omega)
    | copy2 gap => rw [hph] at ha'; injection ha' with e; subst e; exact mk _ _ _ _ _ (by omega) (num _ (by omega) (by omega)) (by omega) (un_lt _) (by omega)
    | cas pad => rw [hph] at ha'; injection ha' with e; subst e; exact mk _ _ _ _ _ (by omega) (num _ (by omega) (by omega)) (by omega) (un_lt _) (un_lt _)
    | padd pad => rw [hph] at ha'; injection ha' with e; subst e; have := spot s.t; exact mk _ _ _ _ _ (by omega) (by omega) (by omega) (jn_lt _ _) (by omega)
    | hdr => rw [hph] at ha'; injection ha' with e; subst e; have := spot s.p; exact mk _ _ _ _ _ (by omega) (by omega) (by omega) (jn_lt _ _) (by omega)
    | len => rw [hph] at ha'; injection ha' with e; subst e; have := spot s.p; exact mk _ _ _ _ _ (by omega) (by omega) (by omega) (by omega) (by omega)
    | byt d =>
      rw [hph] at ha' h7
      obtain ⟨_, _, _, _, _, _, _, _, _, _, _, _, _, _, _, _, _, hdl⟩ := h7
      injection ha' with e
      subst e
      have := spot s.p
      have hn := Cy.nx_le (s.L - d)
      refine ⟨by show (0 : Nat) < _; omega, by show (0 : Nat) < _; omega, ⟨by show _ ≤ (6 : Int); omega, by show (6 : Int) ≤ _; omega⟩, ?_, ?_, Bys.bl hB _ _, ?_⟩
      · show _ ≤ s.spot s.p + 8 + (d : Int) ∧ s.spot s.p + 8 + (d : Int) ≤ _
        omega
      · show _ ≤ ((Cy.nx (s.L - d) : Nat) : Int) ∧ ((Cy.nx (s.L - d) : Nat) : Int) ≤ _
        omega
      · show (Mb.bl s.f d (Cy.nx (s.L - d))).length ≤ _
        rw [Mb.bl_length]
        omega

set_option maxRecDepth 100000 in
set_option maxHeartbeats 800000 in
theorem putNext {w : World} {F : Nat → Prop} {g : Nat} {m : Pm} (h : PmAt w F g m) (hF : ∀ k, F k → k < w.heap.size) :
    Calls Tryz.prog 19 #[.pointer (some ⟨g, 0, none⟩)] w (NextTold m.next w) := by
  have HA := Lib.hid (AccNew.made w)
  have HW := Lib.hid ((Below.refl w.heap.size w).alloc (Nat.le_refl _) (.cells #[.int .i64 0, .int .i64 0, .int .i64 0, .int .u64 0, .int .u64 0, .slice none 0 0] 50))
  have HC : Hid (∀ W, Below w.heap.size w W → Calls Tryz.prog 45 #[.pointer (some ⟨g, 5, none⟩)] W (NextTold m.next W)) := Lib.hid fun W hW => by
    have hk := h.keep hW.size fun k hk => hW.block k (hF k hk)
    have hfine := fun a (ha : m.next = some a) => Pm.fine hk ha
    cases m with
    | live s =>
      obtain ⟨A, L, c, a, av, th, h1, h2, h3, h4, h5, h6, h7, h8⟩ := hk
      show Calls _ _ _ _ (NextTold s.next W)
      rcases PutAt.thenIs h7 with ⟨e1, e2⟩ | ⟨e1, k, rc, caps, e2⟩
      · rw [e1]
        have := h1.c11
        rw [e2] at this
        exact stNextNo this
      · cases hn : s.next with
        | none => exact absurd hn e1
        | some b =>
          obtain ⟨rfl, hb⟩ := h8 b hn
          have hby := hb.bytes
          obtain ⟨A2, c2, hav, _⟩ := hb
          subst hav e2
          exact stNextYes h1.st hby (hfine a hn).few
    | dead Z er =>
      obtain ⟨_, B, h2⟩ := hk
      exact stNextNo (PxCells.st h2)
  generalize m.next = o at HC ⊢
  clear h hF
  go_enter Tryz.func19, Tryz.ntmps19
  go_upto_region 1 with (fail)
  generalize w.alloc (.cells #[.int .i64 0, .int .i64 0, .int .i64 0, .int .u64 0, .int .u64 0, .slice none 0 0] 50) = W at HA HW ⊢
  cases o with
  | none =>
    go_wp2_with (go_at_call 45; refine (HC.out W HW.out).mono ?_; rintro e w2 ⟨hb, rfl⟩; obtain ⟨a0, a1, a2, a3, a4, a5, f0, f1, f2, f3, f4, f5, hbk⟩ := HA.out.later hb)
    refine bodyPost_ret (v := .tuple #[.agg #[.int .i64 0, .int .i64 0, .int .i64 0, .int .u64 0, .int .u64 0, .slice none 0 0], .bool false]) (by simp [results, Tryz.results19, go_sem, a0, a1, a2, a3, a4, a5]) rfl ?_
    exact ⟨six_below (HW.out.trans (hb.mono HW.out.size)) (Nat.le_refl _) _ _ _ _ _ _, rfl⟩
  | some a =>
    go_wp2_with (go_at_call 45; refine (HC.out W HW.out).mono ?_; rintro e w2 ⟨hb, A, l, c, rfl, ho⟩; obtain ⟨a0, a1, a2, a3, a4, a5, f0, f1, f2, f3, f4, f5, hbk⟩ := HA.out.later hb; have HO := Lib.hid ho)
    refine bodyPost_ret (v := .tuple #[.agg #[.int .i64 a.K, .int .i64 a.P, .int .i64 a.N, .int .u64 a.V, .int .u64 a.U, .slice A l c], .bool true]) (by simp [results, Tryz.results19, go_sem, a0, a1, a2, a3, a4, a5]) rfl ?_
    exact ⟨six_below (HW.out.trans (hb.mono HW.out.size)) (Nat.le_refl _) _ _ _ _ _ _, A, l, c, rfl, (six_own HO.out (Array.getElem?_eq_some_iff.1 HA.out.blk).1 _ _ _ _ _ _).down HW.out.size⟩

set_option maxRecDepth 100000 in
theorem putAtNil (w : World) : Calls Tryz.prog 20 #[.pointer none] w (fun e w' => e = .returned (.tuple #[.int .i64 0, .bool false]) ∧ w = w') := by
  go_enter Tryz.func20, Tryz.ntmps20
  go_wp2
  refine bodyPost_ret (v := .tuple #[.int .i64 0, .bool false]) (by simp [results, Tryz.results20, go_sem]) rfl ?_
  exact ⟨rfl, rfl⟩

set_option maxRecDepth 100000 in
theorem putAt {w : World} {F : Nat → Prop} {g : Nat} {m : Pm} (h : PmAt w F g m) : Calls Tryz.prog 20 #[.pointer (some ⟨g, 0, none⟩)] w (fun e w' => e = .returned (.tuple #[.int .i64 m.pos, .bool m.has]) ∧ ∃ j, w' = w.drewN j) := by
  have hc : w.cell? ⟨g, 14, none⟩ = some (.int .i64 m.pos) ∧ w.cell? ⟨g, 15, none⟩ = some (.bool m.has) := by
    cases m with
    | live s =>
      obtain ⟨A, L, c, a, av, th, h1, _⟩ := h
      exact ⟨h1.c14, h1.c15⟩
    | dead Z er =>
      obtain ⟨_, B, h2⟩ := h
      exact ⟨by simp [World.cell?, h2, PxCells, Pm.pos], by simp [World.cell?, h2, PxCells, Pm.has]⟩
  obtain ⟨c14, c15⟩ := hc
  generalize m.pos = p at c14 ⊢
  generalize m.has = b at c15 ⊢
  clear h
  go_enter Tryz.func20, Tryz.ntmps20
  go_upto_region 3 with (fail)
  go_quiet (fail)
  go_wp2
  refine bodyPost_ret (v := .tuple #[.int .i64 p, .bool b]) (by simp [results, Tryz.results20, go_sem]) rfl ?_
  exact ⟨rfl, _, rfl⟩

set_option maxRecDepth 100000 in
theorem putResultNil (w : World) : Calls Tryz.prog 11 #[.pointer none] w (fun e w' => e = .returned (.tuple #[.int .i64 0, .int .i64 1]) ∧ w = w') := by
  go_enter Tryz.func11, Tryz.ntmps11
  go_wp2
  refine bodyPost_ret (v := .tuple #[.int .i64 0, .int .i64 1]) (by simp [results, Tryz.results11, go_sem]) rfl ?_
  exact ⟨rfl, rfl⟩

set_option maxRecDepth 100000 in
set_option maxHeartbeats 800000 in
theorem putResult {w : World} {F : Nat → Prop} {g : Nat} {m : Pm} (h : PmAt w F g m) : Calls Tryz.prog 11 #[.pointer (some ⟨g, 0, none⟩)] w (fun e w' => e = .returned (.tuple #[.int .i64 m.result.1, .int .i64 m.result.2]) ∧ ∃ j, w' = w.drewN j) := by
  have hc : w.cell? ⟨g, 1, none⟩ = some (.int .i64 m.size) ∧ w.cell? ⟨g, 14, none⟩ = some (.int .i64 m.pos) ∧ w.cell? ⟨g, 16, none⟩ = some (.int .i64 m.fault) ∧
      Calls Tryz.prog 25 #[.pointer (some ⟨g, 5, none⟩)] w (fun e w' => e = .returned (.bool m.busy) ∧ w = w') := by
    cases m with
    | live s =>
      obtain ⟨A, L, c, a, av, th, h1, _, _, _, _, _, h7, _⟩ := h
      refine ⟨h1.c1, h1.c14, h1.c16, ?_⟩
      rcases PutAt.thenIs h7 with ⟨e1, e2⟩ | ⟨e1, k, rc, caps, e2⟩
      · have h11 := h1.c11
        rw [e2] at h11
        have hb : (Pm.live s).busy = false := by show s.next.isSome = false; rw [e1]; rfl
        rw [hb]
        exact stBusyNo h11
      · have h11 := h1.c11
        rw [e2] at h11
        have hb : (Pm.live s).busy = true := by
          show s.next.isSome = true
          cases hn : s.next with
          | none => exact absurd hn e1
          | some b => rfl
        rw [hb]
        exact stBusyYes k rc caps h11
    | dead Z er =>
      obtain ⟨_, B, h2⟩ := h
      exact ⟨by simp [World.cell?, h2, PxCells, Pm.size], by simp [World.cell?, h2, PxCells, Pm.pos], by simp [World.cell?, h2, PxCells, Pm.fault], stBusyNo (PxCells.st h2)⟩
  obtain ⟨c1, c14, c16, hB⟩ := hc
  unfold Pm.result
  generalize m.size = Z at c1 ⊢
  generalize m.pos = p at c14 ⊢
  generalize m.fault = er at c16 ⊢
  generalize m.busy = bs at hB ⊢
  have HB := Lib.hid hB
  clear h hB
  by_cases hz : Z = 0
  · subst hz
    rw [if_pos rfl]
    go_enter Tryz.func11, Tryz.ntmps11
    go_wp2
    refine bodyPost_ret (v := .tuple #[.int .i64 0, .int .i64 1]) (by simp [results, Tryz.results11, go_sem]) rfl ?_
    exact ⟨rfl, 0, rfl⟩
  · rw [if_neg hz]
    have hd : decide (Z = 0) = false := by simpa using hz
    cases bs with
    | true =>
      rw [if_pos rfl]
      go_enter Tryz.func11, Tryz.ntmps11
      go_wp2_with (go_at_call 25; refine HB.out.mono ?_; rintro e w2 ⟨rfl, rfl⟩)
      refine bodyPost_ret (v := .tuple #[.int .i64 0, .int .i64 10]) (by simp [results, Tryz.results11, go_sem]) rfl ?_
      exact ⟨rfl, 0, rfl⟩
    | false =>
      rw [if_neg (by decide)]
      by_cases he : er = 0
      · subst he
        rw [if_pos rfl]
        go_enter Tryz.func11, Tryz.ntmps11
        go_wp2_with (go_at_call 25; refine HB.out.mono ?_; rintro e w2 ⟨rfl, rfl⟩)
        refine bodyPost_ret (v := .tuple #[.int .i64 p, .int .i64 0]) (by simp [results, Tryz.results11, go_sem]) rfl ?_
        exact ⟨rfl, 0, rfl⟩
      · rw [if_neg he]
        have hd2 : decide (er = 0) = false := by simpa using he
        go_enter Tryz.func11, Tryz.ntmps11
        go_upto_region 6 with (go_at_call 25; refine HB.out.mono ?_; rintro e w2 ⟨rfl, rfl⟩)
        go_quiet (fail)
        go_wp2
        refine bodyPost_ret (v := .tuple #[.int .i64 0, .int .i64 er]) (by simp [results, Tryz.results11, go_sem]) rfl ?_
        exact ⟨rfl, _, rfl⟩
end Go.Proofs.YthpppoalnanmjaaGreat
namespace Go.Proofs.YthpppoalnanmjaaGreat
open Go.RowKit

/-- May a ring be? -/
def Rg.right (B Z : Int) : Prop := Wd.isP Z = true ∧ 64 ≤ Z ∧ Z ≤ 8192 ∧ 0 ≤ B ∧ B ≤ 131072 - Z - 32 ∧ B % 8 = 0
instance (B Z : Int) : Decidable (Rg.right B Z) := by unfold Rg.right; infer_instance

set_option maxRecDepth 100000 in
set_option maxHeartbeats 800000 in
theorem rpCheck (B Z : Int) (hB : -9223372036854775808 ≤ B ∧ B ≤ 9223372036854775807) (hZ : -9223372036854775808 ≤ Z ∧ Z ≤ 9223372036854775807) (w : World) :
    Calls Tryz.prog 8 #[.agg #[.int .i64 B, .int .i64 Z]] w (Made (.int .i64 (if Rg.right B Z then 0 else 1)) w) := by
  have hb0 := un_below w (.int .i64 B) (.int .i64 Z) 23
  have hx := Go.Deep.blk_alloc_new w (.cells #[.int .i64 B, .int .i64 Z] 23)
  obtain ⟨q, hq⟩ : ∃ q : Int, q = (if Rg.right B Z then 0 else 1) := ⟨_, rfl⟩
  rw [← hq]
  have HQ := Lib.hid hq
  clear hq
  go_enter Tryz.func8, Tryz.ntmps8
  go_upto_region 1 with (fail)
  generalize w.alloc (.cells #[.int .i64 B, .int .i64 Z] 23) = W at hb0 hx ⊢
  have x0 : W.cell? ⟨w.heap.size, 0, none⟩ = some (.int .i64 B) := by simp [World.cell?, hx]
  have x1 : W.cell? ⟨w.heap.size, 1, none⟩ = some (.int .i64 Z) := by simp [World.cell?, hx]
  clear hx
  cases hp : Wd.isP Z with
  | false =>
    have HP := Lib.hid hp
    clear hp
    go_wp2_with (go_at_call 23; refine (isPower_any Z _ (by omega) (by omega)).mono ?_; rintro e w2 ⟨rfl, rfl⟩; rw [HP.out])
    all_goals
      go_ret
      refine ⟨?_, hb0⟩
      rw [HQ.out, if_neg (fun h => by have := h.1; rw [HP.out] at this; cases this)]
      rfl
  | true =>
    have HP := Lib.hid hp
    clear hp
    go_wp2_with (go_at_call 23; refine (isPower_any Z _ (by omega) (by omega)).mono ?_; rintro e w2 ⟨rfl, rfl⟩; rw [HP.out])
    all_goals
      go_ret
      refine ⟨?_, hb0⟩
      rw [HQ.out]
      simp only [bne_eq_false_iff_eq, bne_iff_ne, ne_eq] at *
      first
        | (rw [if_pos ⟨HP.out, by omega, by omega, by omega, by omega, by omega⟩]; rfl)
        | (rw [if_neg (fun ⟨_, _, _, _, _, _⟩ => by omega)]; rfl)

theorem rp_need_aux (n : Nat) (h : n ≤ 131072) : sz (n : Int) 8 8 = 8 * (((n + 15) / 8 : Nat) : Int) := by
  unfold sz szOk Wd.al Wd.alOk
  have h1 : decide (0 ≤ (n : Int)) = true := by simp
  have h2 : decide ((n : Int) ≤ 131072) = true := by simp; omega
  have h3 : Wd.isP 8 = true := by decide
  have h4 : decide (0 ≤ (8 : Int) + n) = true := by simp; omega
  have h5 : decide ((8 : Int) + n ≤ 4611686018427387904) = true := by simp; omega
  rw [h1, h2, h3, h4, h5]
  simp only [Bool.and_self, if_true]
  omega

/-- A put was made: it stands in new memory. -/
def NewIs (m : Pm) (w : World) (e : Ending) (w' : World) : Prop :=
  ∃ g, e = .returned (.pointer (some ⟨g, 0, none⟩)) ∧ PmAt w' (fun k => w.heap.size ≤ k ∧ k < w'.heap.size) g m ∧ Below w.heap.size w w'

/-- The put that is made. -/
def Pm.new (B Z typ : Int) (f : Nat → Nat) (L : Nat) : Pm :=
  if ¬ Rg.right B Z ∨ typ < 1 then .dead 0 0 else if Z < 8 * (L : Int) then .dead Z 4 else .live ⟨B.toNat, Z.toNat, typ, f, L, 0, 0, 0, false, .ask, 0⟩

theorem new_dead (w W : World) (hb : Below w.heap.size w W) (B Z er : Int) : NewIs (.dead Z er) w (.returned (.pointer (some ⟨W.heap.size, 0, none⟩))) (W.alloc (.cells (PxCells B Z er) 54)) :=
  ⟨W.heap.size, rfl, ⟨⟨hb.size, by simp⟩, B, Go.Deep.blk_alloc_new _ _⟩, hb.alloc hb.size _⟩

set_option maxRecDepth 100000 in
set_option maxHeartbeats 800000 in
theorem rpNewBad (B Z typ : Int) (hB : -9223372036854775808 ≤ B ∧ B ≤ 9223372036854775807) (hZ : -9223372036854775808 ≤ Z ∧ Z ≤ 9223372036854775807) (hbad : ¬ Rg.right B Z) (A : Option Addr) (L c : Nat) (w : World) :
    Calls Tryz.prog 5 #[.agg #[.int .i64 B, .int .i64 Z], .int .i32 typ, .slice A L c] w (NewIs (.dead 0 0) w) := by
  have hb0 := un_below w (.int .i64 B) (.int .i64 Z) 23
  have hx := Go.Deep.blk_alloc_new w (.cells #[.int .i64 B, .int .i64 Z] 23)
  have HBZ := Lib.hid (And.intro hB hZ)
  have HN := Lib.hid hbad
  clear hB hZ hbad
  go_enter Tryz.func5, Tryz.ntmps5
  go_upto_region 1 with (fail)
  generalize w.alloc (.cells #[.int .i64 B, .int .i64 Z] 23) = W at hb0 hx ⊢
  have x0 : W.cell? ⟨w.heap.size, 0, none⟩ = some (.int .i64 B) := by simp [World.cell?, hx]
  have x1 : W.cell? ⟨w.heap.size, 1, none⟩ = some (.int .i64 Z) := by simp [World.cell?, hx]
  clear hx
  go_wp2_with (go_at_call 8; refine (rpCheck B Z HBZ.out.1 HBZ.out.2 W).mono ?_; rintro e w2 ⟨rfl, hb⟩; rw [if_neg HN.out])
  go_ret
  exact new_dead w w2 (hb0.trans (hb.mono hb0.size)) 0 0 0

set_option maxRecDepth 100000 in
set_option maxHeartbeats 800000 in
theorem rpNewTyp (B Z typ : Int) (hB : -9223372036854775808 ≤ B ∧ B ≤ 9223372036854775807) (hZ : -9223372036854775808 ≤ Z ∧ Z ≤ 9223372036854775807) (hok : Rg.right B Z) (htyp : typ < 1) (A : Option Addr) (L c : Nat) (w : World) :
    Calls Tryz.prog 5 #[.agg #[.int .i64 B, .int .i64 Z], .int .i32 typ, .slice A L c] w (NewIs (.dead 0 0) w) := by
  have hb0 := un_below w (.int .i64 B) (.int .i64 Z) 23
  have hx := Go.Deep.blk_alloc_new w (.cells #[.int .i64 B, .int .i64 Z] 23)
  have HBZ := Lib.hid (And.intro hB hZ)
  have HN := Lib.hid hok
  have hd : decide (typ < 1) = true := by simpa using htyp
  clear hB hZ hok
  go_enter Tryz.func5, Tryz.ntmps5
  go_upto_region 1 with (fail)
  generalize w.alloc (.cells #[.int .i64 B, .int .i64 Z] 23) = W at hb0 hx ⊢
  have x0 : W.cell? ⟨w.heap.size, 0, none⟩ = some (.int .i64 B) := by simp [World.cell?, hx]
  have x1 : W.cell? ⟨w.heap.size, 1, none⟩ = some (.int .i64 Z) := by simp [World.cell?, hx]
  clear hx
  go_wp2_with (go_at_call 8; refine (rpCheck B Z HBZ.out.1 HBZ.out.2 W).mono ?_; rintro e w2 ⟨rfl, hb⟩; rw [if_pos HN.out])
  go_ret
  exact new_dead w w2 (hb0.trans (hb.mono hb0.size)) 0 0 0

set_option maxRecDepth 100000 in
set_option maxHeartbeats 800000 in
theorem rpNewLong (B Z typ : Int) (hB : -9223372036854775808 ≤ B ∧ B ≤ 9223372036854775807) (hZ : -9223372036854775808 ≤ Z ∧ Z ≤ 9223372036854775807) (hok : Rg.right B Z) (htyp : ¬ typ < 1) (A : Option Addr) (L c : Nat) (hlong : Z < 8 * (L : Int)) (w : World) :
    Calls Tryz.prog 5 #[.agg #[.int .i64 B, .int .i64 Z], .int .i32 typ, .slice A L c] w (NewIs (.dead Z 4) w) := by
  have hb0 := un_below w (.int .i64 B) (.int .i64 Z) 23
  have hx := Go.Deep.blk_alloc_new w (.cells #[.int .i64 B, .int .i64 Z] 23)
  have HBZ := Lib.hid (And.intro hB hZ)
  have HN := Lib.hid hok
  have hd : decide (typ < 1) = false := by simpa using htyp
  have hz0 : 64 ≤ Z := hok.2.1
  have hz1 : Z ≤ 8192 := hok.2.2.1
  have hdl : Z / 8 < (L : Int) := by omega
  have hdd : decide (Z / 8 < (L : Int)) = true := by simpa using hdl
  clear hB hZ hok htyp hlong
  go_enter Tryz.func5, Tryz.ntmps5
  go_upto_region 1 with (fail)
  generalize w.alloc (.cells #[.int .i64 B, .int .i64 Z] 23) = W at hb0 hx ⊢
  have x0 : W.cell? ⟨w.heap.size, 0, none⟩ = some (.int .i64 B) := by simp [World.cell?, hx]
  have x1 : W.cell? ⟨w.heap.size, 1, none⟩ = some (.int .i64 Z) := by simp [World.cell?, hx]
  have hlx := (Array.getElem?_eq_some_iff.1 hx).1
  clear hx
  go_wp2_with (go_at_call 8; refine (rpCheck B Z HBZ.out.1 HBZ.out.2 W).mono ?_; rintro e w2 ⟨rfl, hb⟩; rw [if_pos HN.out]; have y0 := (hb.cell (p := ⟨w.heap.size, 0, none⟩) hlx).trans x0; have y1 := (hb.cell (p := ⟨w.heap.size, 1, none⟩) hlx).trans x1)
  go_ret
  exact new_dead w w2 (hb0.trans (hb.mono hb0.size)) B Z 4

/-- The block of a put that is made. -/
theorem rp_made {w w4 W5 : World} {B Z typ : Int} {A4 : Option Addr} {L c4 base : Nat} {f : Nat → Nat}
    (hW5 : W5 = w4.alloc (.cells #[.int .i64 B, .int .i64 Z, .int .i32 typ, .slice A4 L c4, .int .i64 (8 * (((L : Int) + 15) / 8)), .int .i64 0, .int .i64 0, .int .i64 0, .int .u64 0, .int .u64 0, .slice none 0 0, .nilFunc, .int .i64 0, .int .i64 0, .int .i64 0, .bool false, .int .i64 0] 54))
    (hb : Below w.heap.size w w4) (hbase : w.heap.size ≤ base) (hr : Rg.right B Z) (ht : 1 ≤ typ) (ht2 : typ ≤ 2147483647) (hfew : 8 * (L : Int) ≤ Z) (hf : Mb.IsB f) (ho : Owns base w4 (.slice A4 L c4) (Mb.bl f 0 L)) :
    RpBare W5 (fun k => w.heap.size ≤ k ∧ k < W5.heap.size) w4.heap.size ⟨B.toNat, Z.toNat, typ, f, L, 0, 0, 0, false, .ask, 0⟩ (.slice A4 L c4) := by
  obtain ⟨h1, h2, h3, h4, h5, h6⟩ := hr
  have hB : ((B.toNat : Nat) : Int) = B := Int.toNat_of_nonneg h4
  have hZ : ((Z.toNat : Nat) : Int) = Z := Int.toNat_of_nonneg (by omega)
  have hsz : W5.heap.size = w4.heap.size + 1 := by rw [hW5]; simp
  have hbl : Below w4.heap.size w4 W5 := by rw [hW5]; exact (Below.refl _ _).alloc (Nat.le_refl _) _
  have ho5 := (BytesIn.of_own ho).lt.below hbl
  have hc : L ≤ c4 ∧ c4 ≤ 9223372036854775807 := by
    obtain ⟨_, e | ⟨g, cap, cur, e, _, _, e2, e3, _⟩⟩ := ho
    · obtain ⟨e1, e2⟩ := e
      injection e1 with _ e3 e4
      omega
    · injection e with _ e4 e5
      unfold maxLen at e3
      omega
  refine ⟨⟨Ac.zero, .slice none 0 0, ?_⟩, ⟨hb.size, by omega⟩, ⟨by rw [← h1, hZ], by simp only; omega, by simp only; omega, by simp only; omega, by simp only; omega, ht, ht2, by simp only; omega, hf, by simp only; omega, by simp only; omega, by simp only; omega⟩, ⟨A4, c4, rfl, hc.1, hc.2⟩, ho5.mono fun k hk _ => ⟨⟨by omega, by omega⟩, by omega⟩⟩
  unfold RpBlk
  rw [hW5, Go.Deep.blk_alloc_new]
  have hn : (8 * (((L + 15) / 8 : Nat) : Int)) = 8 * (((L : Int) + 15) / 8) := by omega
  simp only [RpCells, Rs.need, hB, hZ, hn, Ac.zero]
  rfl

set_option maxRecDepth 100000 in
set_option maxHeartbeats 800000 in
theorem rpNewOk (B Z typ : Int) (hB : -9223372036854775808 ≤ B ∧ B ≤ 9223372036854775807) (hZ : -9223372036854775808 ≤ Z ∧ Z ≤ 9223372036854775807) (hok : Rg.right B Z) (htyp : ¬ typ < 1) (htyp2 : typ ≤ 2147483647) (A : Option Addr) (L c : Nat) (hfew : ¬ Z < 8 * (L : Int)) (f : Nat → Nat) (hf : Mb.IsB f) (w : World) (hby : BytesAt w (.slice A L c) (Mb.bl f 0 L)) :
    Calls Tryz.prog 5 #[.agg #[.int .i64 B, .int .i64 Z], .int .i32 typ, .slice A L c] w (NewIs (.live ⟨B.toNat, Z.toNat, typ, f, L, 0, 0, 0, false, .ask, 0⟩) w) := by
  have hb0 := un_below w (.int .i64 B) (.int .i64 Z) 23
  have hx := Go.Deep.blk_alloc_new w (.cells #[.int .i64 B, .int .i64 Z] 23)
  have HBZ := Lib.hid (And.intro hB hZ)
  have HN := Lib.hid hok
  have HY := Lib.hid hby
  have hd : decide (typ < 1) = false := by simpa using htyp
  have hz0 : 64 ≤ Z := hok.2.1
  have hz1 : Z ≤ 8192 := hok.2.2.1
  have hdl : ¬ Z / 8 < (L : Int) := by omega
  have hdd : decide (Z / 8 < (L : Int)) = false := by simpa using hdl
  have HT := Lib.hid (And.intro htyp htyp2)
  have HFE := Lib.hid hfew
  clear hB hZ hok htyp hfew hby htyp2
  go_enter Tryz.func5, Tryz.ntmps5
  go_upto_region 1 with (fail)
  generalize w.alloc (.cells #[.int .i64 B, .int .i64 Z] 23) = W at hb0 hx ⊢
  have x0 : W.cell? ⟨w.heap.size, 0, none⟩ = some (.int .i64 B) := by simp [World.cell?, hx]
  have x1 : W.cell? ⟨w.heap.size, 1, none⟩ = some (.int .i64 Z) := by simp [World.cell?, hx]
  have hlx := (Array.getElem?_eq_some_iff.1 hx).1
  clear hx
  go_upto_region 5 with (go_at_call 8; refine (rpCheck B Z HBZ.out.1 HBZ.out.2 W).mono ?_; rintro e w2 ⟨rfl, hb⟩; rw [if_pos HN.out]; have y0 := (hb.cell (p := ⟨w.heap.size, 0, none⟩) hlx).trans x0; have y1 := (hb.cell (p := ⟨w.heap.size, 1, none⟩) hlx).trans x1)
  have hneed := rp_need_aux L (by omega)
  have HNE := Lib.hid hneed
  have HB2 := Lib.hid (hb0.trans (hb.mono hb0.size))
  have hl2 : w.heap.size < w2.heap.size := lt_of_cell y0
  clear hneed hb hdl hd hdd hz0 hz1 x0 x1 hlx hb0
  go_upto_region 6 with (go_at_call 15; refine (recordSize_any (L : Int) w2).mono ?_; rintro e w3 ⟨rfl, rfl⟩; rw [HNE.out])
  obtain ⟨wq, hwq⟩ : ∃ W, W = w2 := ⟨_, rfl⟩
  go_region_held3 (fun w' => w'.cell? ⟨w.heap.size, 0, none⟩ = some (.int .i64 B) ∧ w'.cell? ⟨w.heap.size, 1, none⟩ = some (.int .i64 Z)) (go_keep)
    (first | (go_at_call 16; refine (clone_sl A L c (Mb.bl f 0 L) w2.drew (HY.out.below HB2.out.drew) (by have := HFE.out; have := HN.out.2.2.1; omega)).mono ?_; rintro e w4 ⟨A4, c4, rfl, ho4, hb4⟩; have z0 := (hb4.cell (p := ⟨w.heap.size, 0, none⟩) (lt_of_cell y0)).trans y0; have z1 := (hb4.cell (p := ⟨w.heap.size, 1, none⟩) (lt_of_cell y0)).trans y1))
  all_goals
    have hq := HN.out
    obtain ⟨W5, hW5⟩ : ∃ W5, W5 = w4.alloc (.cells #[.int .i64 B, .int .i64 Z, .int .i32 typ, .slice A4 L c4, .int .i64 (8 * (((L : Int) + 15) / 8)), .int .i64 0, .int .i64 0, .int .i64 0, .int .u64 0, .int .u64 0, .slice none 0 0, .nilFunc, .int .i64 0, .int .i64 0, .int .i64 0, .bool false, .int .i64 0] 54) := ⟨_, rfl⟩
    have hmade := rp_made (w := w) hW5 (HB2.out.drew.trans (hb4.mono HB2.out.size)) HB2.out.size hq HT.out.1 HT.out.2 HFE.out hf ho4
    rw [← hW5]
    have HM := Lib.hid hmade
    have hbk : Below w.heap.size w W5 := by rw [hW5]; exact (HB2.out.drew.trans (hb4.mono HB2.out.size)).alloc (Nat.le_trans HB2.out.size hb4.size) _
    have HBK := Lib.hid hbk
    clear hW5 hmade hbk
    go_wp2_with (go_at_call 17; refine (rpBegin HM.out).mono ?_; intro e w6 hm; have HMM := Lib.hid hm; obtain ⟨rfl, _⟩ := hm)
    go_ret
    obtain ⟨_, F', hp, ht, hF'⟩ := HMM.out
    refine ⟨_, rfl, ?_, ht.below HBK.out HBK.out.size fun k hk => hk.1⟩
    refine PutAt.wide (F' := fun k => w.heap.size ≤ k ∧ k < w6.heap.size) hp fun k hk => ?_
    · show w.heap.size ≤ k ∧ k < w6.heap.size
      rcases hF' k hk with e | e
      · exact ⟨e.1, Nat.lt_of_lt_of_le e.2 ht.size⟩
      · exact ⟨Nat.le_trans HBK.out.size e.1, e.2⟩

/-- A put is made, of whatever ring, type and bytes. -/
theorem rpNew (B Z typ : Int) (hB : -9223372036854775808 ≤ B ∧ B ≤ 9223372036854775807) (hZ : -9223372036854775808 ≤ Z ∧ Z ≤ 9223372036854775807) (htyp : typ ≤ 2147483647) (A : Option Addr) (L c : Nat) (f : Nat → Nat) (hf : Mb.IsB f) (w : World) (hby : BytesAt w (.slice A L c) (Mb.bl f 0 L)) :
    Calls Tryz.prog 5 #[.agg #[.int .i64 B, .int .i64 Z], .int .i32 typ, .slice A L c] w (NewIs (Pm.new B Z typ f L) w) := by
  unfold Pm.new
  by_cases h1 : Rg.right B Z
  · by_cases h2 : typ < 1
    · rw [if_pos (.inr h2)]
      exact rpNewTyp B Z typ hB hZ h1 h2 A L c w
    · rw [if_neg (fun h => h.elim (fun h => h h1) h2)]
      by_cases h3 : Z < 8 * (L : Int)
      · rw [if_pos h3]
        exact rpNewLong B Z typ hB hZ h1 h2 A L c h3 w
      · rw [if_neg h3]
        exact rpNewOk B Z typ hB hZ h1 h2 htyp A L c h3 f hf w hby
  · rw [if_pos (.inl h1)]
    exact rpNewBad B Z typ hB hZ h1 A L c w
end Go.Proofs.YthpppoalnanmjaaGreat
namespace Go.Proofs.YthpppoalnanmjaaGreat
open Go.ChangeShapes Go.WideShapes Go.ChangeAt Go.RowKit Go.Deep

/-- An answer: its number, whether it stored, where its bytes stand, and which they are. -/
structure Ans where
  V : Nat
  D : Bool
  A : Option Addr
  L : Nat
  cap : Nat
  f : Nat → Nat

namespace Ans
/-- Its slice. -/
def sl (x : Ans) : Value := .slice x.A x.L x.cap
/-- Its bytes. -/
def bs (x : Ans) : List Int := Mb.bl x.f 0 x.L
/-- It reads so in w. -/
structure Is (x : Ans) (w : World) : Prop where
  num : x.V < 18446744073709551616
  isB : Mb.IsB x.f
  bytes : BytesAt w (.slice x.A x.L x.cap) (Mb.bl x.f 0 x.L)
  room : x.L ≤ x.cap
  few : x.cap ≤ 9223372036854775807
end Ans

theorem answerOne : Tryz.prog.cellsOf 33 = 3 := by kernel_rfl

set_option maxRecDepth 100000 in
theorem answer_cells {H : Type} {enc : TypeId × Value → H} {W : World} {fuel : Nat} {cs : List Value} {x : DataW H × List MemPlace} (hsz : cs.length = 3)
    (h : DataW.trod enc Tryz.prog W 0 (fun _ => true) true fuel 33 cs = some x) :
    ∃ y : Ans, cs = [.int .u64 y.V, .bool y.D, y.sl] ∧ y.Is W := by
  match cs, hsz with
  | [v0, v1, v2], _ =>
    obtain ⟨xs, n, _, _, _, hlen, hg⟩ := DataW.trod_struct Tryz.underlying33 h
    have g0 := hg 0 _ rfl
    have g1 := hg 1 _ rfl
    have g2 := hg 2 _ rfl
    have cU : Tryz.prog.cellsOf 31 = 1 := by kernel_rfl
    have cD : Tryz.prog.cellsOf 4 = 1 := by kernel_rfl
    have cB : Tryz.prog.cellsOf 24 = 1 := by kernel_rfl
    match xs, hlen with
    | [y0, y1, y2], _ =>
      simp [cU, cD, cB] at g0 g1 g2
      obtain ⟨V, e0, _, w0⟩ := DataW.trod_int Tryz.underlying31 g0
      obtain ⟨D, e1, _⟩ := DataW.trod_bool Tryz.underlying4 g1
      obtain ⟨A, L, cap, f, e2, h1, h2, h3, h4⟩ := bytes_cell g2
      simp only [List.cons.injEq, and_true] at e0 e1 e2
      subst e0 e1 e2
      have b0 := u64_wide w0
      obtain ⟨V, rfl⟩ := Int.eq_ofNat_of_zero_le b0.1
      exact ⟨⟨V, D, A, L, cap, f⟩, rfl, by show V < 18446744073709551616; omega, h1, h2, h3, h4⟩

set_option maxRecDepth 100000 in
theorem open_answer {H : Type} {enc : TypeId × Value → H} {W : World} {base : Nat} {v : Value} {d : DataW H} {ps : List MemPlace}
    (hv : Value.okWide Tryz.prog W .any base 33 v) (h : DataW.Trod enc Tryz.prog W 0 (fun _ => true) true 33 v d ps) :
    ∃ y : Ans, v = .agg #[.int .u64 y.V, .bool y.D, .slice y.A y.L y.cap] ∧ y.Is W := by
  obtain ⟨cs, rfl, hsz⟩ := okWide_struct Tryz.underlying33 hv
  obtain ⟨l⟩ := cs
  rw [answerOne] at hsz
  obtain ⟨fuel, hf⟩ := h
  obtain ⟨y, hy, hi⟩ := answer_cells (by simpa [Value.cells] using hsz) hf
  refine ⟨y, ?_, hi⟩
  simp [Value.cells] at hy
  rw [hy]
  rfl

/-- A slice of n answers that reads as T. -/
def ToldAt (W : World) (A : Option Addr) (n : Nat) (T : Nat → Ans) : Prop :=
  0 < n → ∃ b off, A = some ⟨b, off, none⟩ ∧ b < W.heap.size ∧ ∀ i, i < n → W.cell? ⟨b, off + i * 3, none⟩ = some (.int .u64 (T i).V) ∧ W.cell? ⟨b, off + i * 3 + 1, none⟩ = some (.bool (T i).D) ∧ W.cell? ⟨b, off + i * 3 + 2, none⟩ = some (.slice (T i).A (T i).L (T i).cap) ∧ (T i).Is W

set_option maxRecDepth 100000 in
theorem open_answers {H : Type} {enc : TypeId × Value → H} {W : World} {base : Nat} {v : Value} {d : DataW H} {ps : List MemPlace}
    (hv : Value.okWide Tryz.prog W .any base 25 v) (h : DataW.Trod enc Tryz.prog W 0 (fun _ => true) true 25 v d ps) :
    ∃ (A : Option Addr) (L cap : Nat) (T : Nat → Ans), v = .slice A L cap ∧ ToldAt W A L T ∧ L ≤ cap ∧ cap ≤ 9223372036854775807 := by
  obtain ⟨a0, len0, cap0, rfl⟩ := okWide_slice Tryz.underlying25 hv
  obtain ⟨fuel, hf⟩ := h
  rcases open_slice Tryz.underlying25 hf with ⟨hcs, _⟩ | ⟨a, len, cap, m, n, D, Pl, hcs, hb, hl, hm, hmm, _, hi⟩
  · simp [Value.cells] at hcs
    obtain ⟨rfl, rfl, rfl⟩ := hcs
    exact ⟨none, 0, 0, fun _ => ⟨0, false, none, 0, 0, fun _ => 0⟩, rfl, fun h => absurd h (Nat.lt_irrefl 0), Nat.le_refl _, by decide⟩
  · simp [Value.cells] at hcs
    obtain ⟨rfl, rfl, rfl⟩ := hcs
    simp only [if_true] at hmm
    rw [answerOne] at hi
    have hx : ∀ i, i < m → ∃ y : Ans, (∀ j : Nat, j < 3 → W.cell? ((a.add (i * 3)).add j) = ([.int .u64 y.V, .bool y.D, y.sl] : List Value)[j]?) ∧ y.Is W := by
      intro i him
      obtain ⟨cs', hc, ht'⟩ := hi i him
      obtain ⟨_, hcl, hat⟩ := World.cells?_some hc
      obtain ⟨y, hy, his⟩ := answer_cells hcl ht'
      subst hy
      exact ⟨y, hat, his⟩
    have hT : ∃ T : Nat → Ans, ∀ i, i < m → (∀ j : Nat, j < 3 → W.cell? ((a.add (i * 3)).add j) = ([.int .u64 (T i).V, .bool (T i).D, (T i).sl] : List Value)[j]?) ∧ (T i).Is W := by
      refine ⟨fun i => if h : i < m then Classical.choose (hx i h) else ⟨0, false, none, 0, 0, fun _ => 0⟩, fun i him => ?_⟩
      simp only [dif_pos him]
      exact Classical.choose_spec (hx i him)
    obtain ⟨T, hT⟩ := hT
    refine ⟨some a, _, _, T, rfl, fun hp => ?_, hl, by unfold maxLen at hm; omega⟩
    obtain ⟨b, off, spot⟩ := a
    have h00 := (hT 0 (by omega)).1 0 (by decide)
    have hspot : spot = none := by simpa [Addr.add] using World.cell?_spot h00
    subst hspot
    refine ⟨b, off, rfl, ?_, fun i him => ?_⟩
    · rcases Nat.lt_or_ge b W.heap.size with hlt | hge
      · exact hlt
      · simp [World.cell?, Addr.add, Array.getElem?_eq_none hge] at h00
    · obtain ⟨hc, his⟩ := hT i (by omega)
      have e : ∀ j, ((⟨b, off, none⟩ : Addr).add (i * 3)).add j = ⟨b, off + i * 3 + j, none⟩ := fun j => by
        unfold Addr.add
        split <;> split <;> simp_all
      have c0 := hc 0 (by decide)
      have c1 := hc 1 (by decide)
      have c2 := hc 2 (by decide)
      rw [e] at c0 c1 c2
      exact ⟨c0, c1, c2, his⟩

theorem Ans.Is.below {x : Ans} {w w' : World} (h : x.Is w) (hb : Below w.heap.size w w') : x.Is w' := ⟨h.num, h.isB, h.bytes.below hb, h.room, h.few⟩

theorem ToldAt.below {W W' : World} {A : Option Addr} {n : Nat} {T : Nat → Ans} (h : ToldAt W A n T) (hb : Below W.heap.size W W') : ToldAt W' A n T := by
  intro hp
  obtain ⟨b, off, e, hlt, hc⟩ := h hp
  refine ⟨b, off, e, Nat.lt_of_lt_of_le hlt hb.size, fun i hi => ?_⟩
  obtain ⟨c0, c1, c2, his⟩ := hc i hi
  have k := fun j => hb.cell (p := ⟨b, j, none⟩) hlt
  exact ⟨(k _).trans c0, (k _).trans c1, (k _).trans c2, his.below hb⟩
end Go.Proofs.YthpppoalnanmjaaGreat
namespace Go.Proofs.YthpppoalnanmjaaGreat
open Go.RowKit

/-- A tape stands at block p: n answers, j of them taken; what it wants. -/
structure Tp (w : World) (p : Nat) (A : Option Addr) (cap n j : Nat) (K P N V U : Int) (s : Value) (e : Bool) : Prop where
  blk : w.heap[p]? = some (.cells #[.slice A n cap, .int .i64 j, .int .i64 K, .int .i64 P, .int .i64 N, .int .u64 V, .int .u64 U, s, .bool e] 60 (0, 0))

namespace Tp
variable {w w' : World} {p cap n j : Nat} {A : Option Addr} {K P N V U : Int} {s : Value} {e : Bool}
theorem lt (h : Tp w p A cap n j K P N V U s e) : p < w.heap.size := (Array.getElem?_eq_some_iff.1 h.blk).1
theorem of_block (h : Tp w p A cap n j K P N V U s e) (hb : w'.heap[p]? = w.heap[p]?) : Tp w' p A cap n j K P N V U s e := ⟨hb.trans h.blk⟩
theorem below (h : Tp w p A cap n j K P N V U s e) (hb : Below w.heap.size w w') : Tp w' p A cap n j K P N V U s e := h.of_block (hb.block p h.lt)
theorem c0 (h : Tp w p A cap n j K P N V U s e) : w.cell? ⟨p, 0, none⟩ = some (.slice A n cap) := by simp [World.cell?, h.blk]
theorem c1 (h : Tp w p A cap n j K P N V U s e) : w.cell? ⟨p, 1, none⟩ = some (.int .i64 j) := by simp [World.cell?, h.blk]
theorem c2 (h : Tp w p A cap n j K P N V U s e) : w.cell? ⟨p, 2, none⟩ = some (.int .i64 K) := by simp [World.cell?, h.blk]
theorem c3 (h : Tp w p A cap n j K P N V U s e) : w.cell? ⟨p, 3, none⟩ = some (.int .i64 P) := by simp [World.cell?, h.blk]
theorem c4 (h : Tp w p A cap n j K P N V U s e) : w.cell? ⟨p, 4, none⟩ = some (.int .i64 N) := by simp [World.cell?, h.blk]
theorem c5 (h : Tp w p A cap n j K P N V U s e) : w.cell? ⟨p, 5, none⟩ = some (.int .u64 V) := by simp [World.cell?, h.blk]
theorem c6 (h : Tp w p A cap n j K P N V U s e) : w.cell? ⟨p, 6, none⟩ = some (.int .u64 U) := by simp [World.cell?, h.blk]
theorem c7 (h : Tp w p A cap n j K P N V U s e) : w.cell? ⟨p, 7, none⟩ = some s := by simp [World.cell?, h.blk]
theorem c8 (h : Tp w p A cap n j K P N V U s e) : w.cell? ⟨p, 8, none⟩ = some (.bool e) := by simp [World.cell?, h.blk]
theorem free (h : Tp w p A cap n j K P N V U s e) (i : Nat) : w.frozen? ⟨p, i, none⟩ = false := by simp [World.frozen?, h.blk]
end Tp

/-- The one block p. -/
def One (p k : Nat) : Prop := k = p

/-- A tape that knows no more: it wants the access. -/
def Wants (p : Nat) (A : Option Addr) (cap n j : Nat) (K P N V U : Int) (s : Value) (w : World) (e : Ending) (w' : World) : Prop :=
  e = .returned (.tuple #[.agg #[.int .u64 0, .bool false, .slice none 0 0], .bool false]) ∧ Tp w' p A cap n j K P N V U s true ∧ Touch (One p) w w'

/-- A tape that tells the next answer. -/
def Tells (x : Ans) (p : Nat) (A : Option Addr) (cap n j : Nat) (K P N V U : Int) (s : Value) (w : World) (e : Ending) (w' : World) : Prop :=
  e = .returned (.tuple #[.agg #[.int .u64 x.V, .bool x.D, .slice x.A x.L x.cap], .bool true]) ∧ Tp w' p A cap n (j + 1) K P N V U s false ∧ Touch (One p) w w'

theorem blk_set {w : World} {g i : Nat} {cs : Array Value} {t : TypeId} (h : w.heap[g]? = some (.cells cs t (0, 0))) (u : Value) : (w.setCell ⟨g, i, none⟩ u).heap[g]? = some (.cells (cs.setIfInBounds i u) t (0, 0)) := by
  simp [World.setCell, Array.getElem?_modify, h]

theorem blk_far {w : World} {g g' i : Nat} {o : Obj} (h : w.heap[g]? = some o) (hn : g ≠ g') (u : Value) : (w.setCell ⟨g', i, none⟩ u).heap[g]? = some o := (Below.heap_setCell w ⟨g', i, none⟩ u g hn).trans h

set_option maxRecDepth 100000 in
set_option maxHeartbeats 1000000 in
theorem tapeDo_wants {w : World} {p cap n : Nat} {A B : Option Addr} {K0 P0 N0 V0 U0 : Int} {A0 : Option Addr} {L0 c0 : Nat} (h : Tp w p A cap n n K0 P0 N0 V0 U0 (.slice A0 L0 c0) false) (K P N V U : Int) (L c : Nat) :
    Calls Tryz.prog 65 #[.pointer (some ⟨p, 0, none⟩), .agg #[.int .i64 K, .int .i64 P, .int .i64 N, .int .u64 V, .int .u64 U, .slice B L c]] w (Wants p A cap n n K P N V U (.slice B L c) w) := by
  have hlt := h.lt
  have HW := ((Below.refl w.heap.size w).alloc (Nat.le_refl _) (.cells #[.int .i64 K, .int .i64 P, .int .i64 N, .int .u64 V, .int .u64 U, .slice B L c] 50)).alloc (by simp) (.cells #[.int .u64 0, .bool false, .slice none 0 0] 33)
  have hX := (Below.heap_alloc _ (.cells #[.int .u64 0, .bool false, .slice none 0 0] 33) w.heap.size (by simp)).trans (Go.Deep.blk_alloc_new w (.cells #[.int .i64 K, .int .i64 P, .int .i64 N, .int .u64 V, .int .u64 U, .slice B L c] 50))
  have hR := Go.Deep.blk_alloc_new (w.alloc (.cells #[.int .i64 K, .int .i64 P, .int .i64 N, .int .u64 V, .int .u64 U, .slice B L c] 50)) (.cells #[.int .u64 0, .bool false, .slice none 0 0] 33)
  have e1 : (w.alloc (.cells #[.int .i64 K, .int .i64 P, .int .i64 N, .int .u64 V, .int .u64 U, .slice B L c] 50)).heap.size = w.heap.size + 1 := by simp
  rw [e1] at hR
  have HT := h.below HW
  have hc8 := h.c8
  clear h e1
  go_enter Tryz.func65, Tryz.ntmps65
  go_wp2_with fail
  clear hc8
  generalize (w.alloc (.cells #[.int .i64 K, .int .i64 P, .int .i64 N, .int .u64 V, .int .u64 U, .slice B L c] 50)).alloc (.cells #[.int .u64 0, .bool false, .slice none 0 0] 33) = W at HW hX hR HT ⊢
  have t0 := HT.c0
  have t1 := HT.c1
  have t2 := HT.c2
  have t3 := HT.c3
  have t4 := HT.c4
  have t5 := HT.c5
  have t6 := HT.c6
  have t7 := HT.c7
  have t8 := HT.c8
  have z2 := HT.free 2
  have z3 := HT.free 3
  have z4 := HT.free 4
  have z5 := HT.free 5
  have z6 := HT.free 6
  have z7 := HT.free 7
  have z8 := HT.free 8
  have x0 : W.cell? ⟨w.heap.size, 0, none⟩ = some (.int .i64 K) := by simp [World.cell?, hX]
  have x1 : W.cell? ⟨w.heap.size, 1, none⟩ = some (.int .i64 P) := by simp [World.cell?, hX]
  have x2 : W.cell? ⟨w.heap.size, 2, none⟩ = some (.int .i64 N) := by simp [World.cell?, hX]
  have x3 : W.cell? ⟨w.heap.size, 3, none⟩ = some (.int .u64 V) := by simp [World.cell?, hX]
  have x4 : W.cell? ⟨w.heap.size, 4, none⟩ = some (.int .u64 U) := by simp [World.cell?, hX]
  have x5 : W.cell? ⟨w.heap.size, 5, none⟩ = some (.slice B L c) := by simp [World.cell?, hX]
  obtain ⟨a0, a1, a2, f0, f1, f2, _⟩ := AnsAt.of_blk hR
  have hne : p ≠ w.heap.size := by omega
  have hne1 : p ≠ w.heap.size + 1 := by omega
  have HH := Lib.hid (And.intro HT hR)
  clear HT hX hR
  go_quiet (fail)
  go_wp2
  refine bodyPost_ret (v := .tuple #[.agg #[.int .u64 0, .bool false, .slice none 0 0], .bool false]) (by simp [results, Tryz.results65, go_sem, a0, a1, a2]) rfl ?_
  refine ⟨rfl, ⟨?_⟩, ?_⟩
  · have h0 : (W.drewN nq).heap[p]? = some (.cells #[.slice A n cap, .int .i64 n, .int .i64 K0, .int .i64 P0, .int .i64 N0, .int .u64 V0, .int .u64 U0, .slice A0 L0 c0, .bool false] 60 (0, 0)) := HH.out.1.blk
    exact blk_far (blk_far (blk_far (blk_set (blk_set (blk_set (blk_set (blk_set (blk_set (blk_set h0 _) _) _) _) _) _) _) hne1 _) hne1 _) hne1 _
  · have h0 : Touch (One p) w (W.drewN nq) := (Touch.of_below HW).drewN nq
    have h1 := ((((((h0.setCell (p := ⟨p, 2, none⟩) rfl (.int .i64 K)).setCell (p := ⟨p, 3, none⟩) rfl (.int .i64 P)).setCell (p := ⟨p, 4, none⟩) rfl (.int .i64 N)).setCell (p := ⟨p, 5, none⟩) rfl (.int .u64 V)).setCell (p := ⟨p, 6, none⟩) rfl (.int .u64 U)).setCell (p := ⟨p, 7, none⟩) rfl (.slice B L c)).setCell (p := ⟨p, 8, none⟩) rfl (.bool true)
    exact ((h1.setNew (p := ⟨w.heap.size + 1, 0, none⟩) (Nat.le_succ _) _).setNew (p := ⟨w.heap.size + 1, 1, none⟩) (Nat.le_succ _) _).setNew (p := ⟨w.heap.size + 1, 2, none⟩) (Nat.le_succ _) _

set_option maxRecDepth 100000 in
set_option maxHeartbeats 1000000 in
theorem tapeDo_tells {w : World} {p cap n j : Nat} {A B : Option Addr} {K0 P0 N0 V0 U0 : Int} {A0 : Option Addr} {L0 c0 : Nat} (h : Tp w p A cap n j K0 P0 N0 V0 U0 (.slice A0 L0 c0) false) (hj : j < n) (hn : n ≤ cap) (hcap : cap ≤ 9223372036854775807)
    {T : Nat → Ans} (hT : ToldAt w A n T) (hA : 0 < n → ∀ a, A = some a → a.block ≠ p) (K P N V U : Int) (L c : Nat) :
    Calls Tryz.prog 65 #[.pointer (some ⟨p, 0, none⟩), .agg #[.int .i64 K, .int .i64 P, .int .i64 N, .int .u64 V, .int .u64 U, .slice B L c]] w (Tells (T j) p A cap n j K0 P0 N0 V0 U0 (.slice A0 L0 c0) w) := by
  have hlt := h.lt
  have HW := ((Below.refl w.heap.size w).alloc (Nat.le_refl _) (.cells #[.int .i64 K, .int .i64 P, .int .i64 N, .int .u64 V, .int .u64 U, .slice B L c] 50)).alloc (by simp) (.cells #[.int .u64 0, .bool false, .slice none 0 0] 33)
  have hR := Go.Deep.blk_alloc_new (w.alloc (.cells #[.int .i64 K, .int .i64 P, .int .i64 N, .int .u64 V, .int .u64 U, .slice B L c] 50)) (.cells #[.int .u64 0, .bool false, .slice none 0 0] 33)
  have e1 : (w.alloc (.cells #[.int .i64 K, .int .i64 P, .int .i64 N, .int .u64 V, .int .u64 U, .slice B L c] 50)).heap.size = w.heap.size + 1 := by simp
  rw [e1] at hR
  obtain ⟨tb, tz, rfl, htl, htc⟩ := hT (by omega)
  have htp : tb ≠ p := hA (by omega) _ rfl
  obtain ⟨y0, y1, y2, _⟩ := htc j hj
  have v0 := (HW.cell (p := ⟨tb, tz + j * 3, none⟩) htl).trans y0
  have v1 := (HW.cell (p := ⟨tb, tz + j * 3 + 1, none⟩) htl).trans y1
  have v2 := (HW.cell (p := ⟨tb, tz + j * 3 + 2, none⟩) htl).trans y2
  have htn : tb ≠ w.heap.size := by omega
  have htn1 : tb ≠ w.heap.size + 1 := by omega
  have HT := h.below HW
  have hc8 := h.c8
  generalize T j = x at v0 v1 v2 ⊢
  clear h e1 hT hA htc y0 y1 y2
  go_enter Tryz.func65, Tryz.ntmps65
  go_wp2_with fail
  clear hc8
  generalize (w.alloc (.cells #[.int .i64 K, .int .i64 P, .int .i64 N, .int .u64 V, .int .u64 U, .slice B L c] 50)).alloc (.cells #[.int .u64 0, .bool false, .slice none 0 0] 33) = W at HW hR HT v0 v1 v2 ⊢
  have t0 := HT.c0
  have t1 := HT.c1
  have z1 := HT.free 1
  obtain ⟨a0, a1, a2, f0, f1, f2, _⟩ := AnsAt.of_blk hR
  have hne : p ≠ w.heap.size := by omega
  have hne1 : p ≠ w.heap.size + 1 := by omega
  have HH := Lib.hid (And.intro HT hR)
  have hj1 : ¬ ((n : Int) ≤ (j : Int)) := by omega
  have hj2 : decide ((n : Int) ≤ (j : Int)) = false := by simpa using hj1
  have hj3 : decide (n ≤ j) = false := by simpa using hj
  clear HT hR
  go_quiet (fail)
  go_wp2_with fail
  have HT2 : Tp ((W.drewN nq).setCell ⟨p, 1, none⟩ (.int .i64 ((j : Int) + 1))) p (some ⟨tb, tz, none⟩) cap n (j + 1) K0 P0 N0 V0 U0 (.slice A0 L0 c0) false := by
    have h0 : (W.drewN nq).heap[p]? = _ := HH.out.1.blk
    exact ⟨blk_set h0 _⟩
  have HR2 : AnsAt (w.heap.size + 1) ((W.drewN nq).setCell ⟨p, 1, none⟩ (.int .i64 ((j : Int) + 1))) := by
    have h0 : (W.drewN nq).heap[w.heap.size + 1]? = _ := HH.out.2
    exact .of_blk (blk_far h0 (Ne.symm hne1) _)
  have HX2 : Touch (One p) w ((W.drewN nq).setCell ⟨p, 1, none⟩ (.int .i64 ((j : Int) + 1))) := ((Touch.of_below HW).drewN nq).setCell (p := ⟨p, 1, none⟩) (show One p p from rfl) _
  have hcf : ∀ i, ((W.drewN nq).setCell ⟨p, 1, none⟩ (.int .i64 ((j : Int) + 1))).cell? ⟨tb, i, none⟩ = W.cell? ⟨tb, i, none⟩ := fun i => World.cell?_setCell_other (W.drewN nq) ⟨p, 1, none⟩ ⟨tb, i, none⟩ _ (fun e => htp (by injection e with e1; exact e1.symm))
  have u0 := (hcf _).trans v0
  have u1 := (hcf _).trans v1
  have u2 := (hcf _).trans v2
  clear v0 v1 v2 t0 t1 z1 a0 a1 a2 f0 f1 f2 hcf hj1 hj2 hj3
  generalize (W.drewN nq).setCell ⟨p, 1, none⟩ (.int .i64 ((j : Int) + 1)) = W2 at u0 u1 u2 HT2 HR2 HX2 ⊢
  have t0 := HT2.c0
  have t1 := HT2.c1
  have t1' : W2.cell? ⟨p, 1, none⟩ = some (.int .i64 ((j : Int) + 1)) := t1
  clear t1
  obtain ⟨a0, a1, a2, f0, f1, f2, _⟩ := HR2
  have HT3 := Lib.hid HT2
  clear HT2
  have hj1 : (j : Int) < n := by omega
  go_region
  all_goals go_wp2
  all_goals
    refine bodyPost_ret (v := .tuple #[.agg #[.int .u64 x.V, .bool x.D, .slice x.A x.L x.cap], .bool true]) (by simp [results, Tryz.results65, go_sem, a0, a1, a2]) rfl ?_
    refine ⟨rfl, ⟨blk_far (blk_far (blk_far HT3.out.blk hne1 _) hne1 _) hne1 _⟩, ?_⟩
    exact (((HX2.setNew (p := ⟨w.heap.size + 1, 0, none⟩) (Nat.le_succ _) _).setNew (p := ⟨w.heap.size + 1, 1, none⟩) (Nat.le_succ _) _).setNew (p := ⟨w.heap.size + 1, 2, none⟩) (Nat.le_succ _) _).drew
end Go.Proofs.YthpppoalnanmjaaGreat
