/-
  Layer 7's put, walked: the bytes are stored: the length.
  Layer 7's put, walked: what the claim was told.
  Layer 7's put, walked: the claim moved the tail over padding.
  Layer 7's put, walked: its bytes are followed, part by part; then comes the length.
  Layer 7's put, walked: the header was stored, or a part of the bytes: the bytes are followed.
  Layer 7's put takes an answer, whatever phase it is in.
  Layer 7's put from outside: what it does next, what it takes, how it ended, where its record stands; one that never began; none at all.
  Layer 7's put from outside, walked: Take, Next, Result, At.
  Layer 6's machines, as far as this seat reaches them: what each does next, what it does with an answer, where it stands in memory.
  Layer 6's next: a machine's next access, asked through the interface, its bytes in new memory.
  Layer 2's Do once more: what was read lies in new memory.
-/
import Derived.Test.YtbfgbnalnjdheaaGreatP04
import Derived.Test.YtbfgbnalnjdheaaGreatP03
import Derived.Test.YtbfgbnalnjdheaaGreatP02
namespace Go.Proofs.YtbfgbnalnjdheaaGreat
open Go.RowKit

set_option maxRecDepth 100000 in
set_option maxHeartbeats 1000000 in
theorem rpWrite11 {w : World} {F : Nat → Prop} {g : Nat} {s : Rs} {dv : Value} (h : RpBare w F g s dv) {a b c : Nat} (ht : Three w F g s a b c) :
    Calls Tryz.prog 116 #[.pointer (some ⟨a, 0, none⟩), .pointer (some ⟨b, 0, none⟩), .pointer (some ⟨c, 0, none⟩)] w (RpMovedG F g { s with ph := .len } w) := by
  obtain ⟨a0, av, hblk⟩ := h.blk
  have HH := Lib.hid h
  have HB := Lib.hid hblk
  have hfew := h.ok.few
  have hz1 := h.ok.z1
  have he : IntKind.u64.wrap (8 + (s.L : Int)) = ((8 + s.L : Nat) : Int) := by
    rw [show (8 + (s.L : Int)) = ((8 + s.L : Nat) : Int) by omega]
    exact IntWalk.u64_in _ (by omega)
  obtain ⟨⟨_, hag, hca⟩, ⟨_, hbg, hcb⟩, ⟨_, hcg, hcc⟩⟩ := ht
  have hga : ¬ a = g := hag
  have hgb : ¬ b = g := hbg
  have hgc : ¬ c = g := hcg
  have hla := lt_of_cell hca
  have hlb := lt_of_cell hcb
  have hlc := lt_of_cell hcc
  clear h hblk hfew hz1 hag hbg hcg
  go_enter Tryz.func116, Tryz.ntmps116
  go_upto_region 1 with (fail)
  go_region_held3 (fun w' => w'.cell? ⟨a, 0, none⟩ = some (.pointer (some ⟨g, 0, none⟩)) ∧ w'.cell? ⟨b, 0, none⟩ = some (.int .i64 (s.spot s.p)) ∧ w'.cell? ⟨c, 0, none⟩ = some (.int .i32 (8 + (s.L : Int)))) (go_keep)
    (first
      | (go_at_call 47; refine (rpDo (HB.out.below hb1) ⟨2, s.spot s.p, 4, 8 + s.L, 0, []⟩ none 0 0 117 #[] #[]).mono ?_; intro e wd has; have HAS := Lib.hid has; obtain ⟨rfl, hblkd, htd⟩ := has; have kd := (htd.cell (p := ⟨a, 0, none⟩) (lt_of_cell k1) hga).trans k1; have ad := (htd.cell (p := ⟨b, 0, none⟩) (lt_of_cell a1) hgb).trans a1; have ld := (htd.cell (p := ⟨c, 0, none⟩) (lt_of_cell l1) hgc).trans l1; clear hblkd)
      | (go_at_call 105; refine (stStore (s.spot s.p) 4 (8 + s.L) _).mono ?_; rintro e x1 ⟨rfl, hq1⟩; have hb1 := below_drew hq1; have k1 := (hb1.cell (p := ⟨a, 0, none⟩) hla).trans hca; have a1 := (hb1.cell (p := ⟨b, 0, none⟩) hlb).trans hcb; have l1 := (hb1.cell (p := ⟨c, 0, none⟩) hlc).trans hcc))
  all_goals
    go_wp2
    go_end0
    exact ⟨rp_asked (s' := { s with ph := .len }) HH.out rfl hb1 rfl HAS.out (BytesIn.none _ _) (fun w2 hk => rfl), (Touch.of_below hb1).trans HAS.out.2.2, HAS.out.2.1.c3.trans HB.out.c3.symm⟩
end Go.Proofs.YtbfgbnalnjdheaaGreat
namespace Go.Proofs.YtbfgbnalnjdheaaGreat
open Go.RowKit

set_option maxRecDepth 100000 in
set_option maxHeartbeats 1000000 in
/-- Another one was faster: it is tried again. -/
theorem rpClaim1No {w : World} {F : Nat → Prop} {g : Nat} {s : Rs} {dv : Value} (h : RpBare w F g s dv) {a b : Nat} (ha : Capt w F g a (.pointer (some ⟨g, 0, none⟩))) (V : Nat) (A : Option Addr) (L cp : Nat) :
    Calls Tryz.prog 108 #[.agg #[.int .u64 V, .bool false, .slice A L cp], .pointer (some ⟨a, 0, none⟩), .pointer (some ⟨b, 0, none⟩)] w (RpMoved F g { s with ph := .tail } w) := by
  have hb0 := (Below.refl w.heap.size w).alloc (Nat.le_refl _) (.cells #[.int .u64 V, .bool false, .slice A L cp] 50)
  have hx := Go.Deep.blk_alloc_new w (.cells #[.int .u64 V, .bool false, .slice A L cp] 50)
  have hc1 := (hb0.cell (p := ⟨a, 0, none⟩) (lt_of_cell ha.2.2)).trans ha.2.2
  have HH := Lib.hid (h.below hb0)
  have HW := Lib.hid hb0
  clear h hb0 ha
  go_enter Tryz.func108, Tryz.ntmps108
  go_upto_region 1 with (fail)
  generalize w.alloc (.cells #[.int .u64 V, .bool false, .slice A L cp] 50) = W at hx HH HW hc1 ⊢
  have x1 : W.cell? ⟨w.heap.size, 1, none⟩ = some (.bool false) := by simp [World.cell?, hx]
  clear hx
  go_wp2_with (go_at_call 51; refine (rpTry HH.out).mono ?_; intro e w3 hm; have HM := Lib.hid hm; obtain ⟨rfl, _⟩ := hm)
  go_end0
  exact HM.out.after HW.out

theorem rp_setP (s : Rs) (v : Int) (dv : Value) (a : Ac) (av th : Value) : (RpCells s dv a av th).setIfInBounds 14 (.int .i64 v) = RpCells { s with p := v } dv a av th := by simp [RpCells, Rs.need]
theorem Rs.Ok.withP {s : Rs} (ok : s.Ok) (v : Int) : ({ s with p := Rs.wr v } : Rs).Ok := ⟨ok.pow, ok.z0, ok.z1, ok.b0, ok.b1, ok.t0, ok.t1, ok.few, ok.isB, ok.h0, ok.tl, Rs.wr_in v⟩
theorem Rs.Ok.withC {s : Rs} {v : Bool} (ok : s.Ok) : ({ s with cl := v } : Rs).Ok := ⟨ok.pow, ok.z0, ok.z1, ok.b0, ok.b1, ok.t0, ok.t1, ok.few, ok.isB, ok.h0, ok.tl, ok.ps⟩
theorem rp_setC (s : Rs) (v : Bool) (dv : Value) (a : Ac) (av th : Value) : (RpCells s dv a av th).setIfInBounds 15 (.bool v) = RpCells { s with cl := v } dv a av th := by simp [RpCells, Rs.need]

set_option maxRecDepth 100000 in
set_option maxHeartbeats 1000000 in
/-- The tail is moved, no padding: the message's writing begins. -/
theorem rpClaim1Yes {w : World} {F : Nat → Prop} {g : Nat} {s : Rs} {dv : Value} (h : RpBare w F g s dv) {a b : Nat} (ha : Capt w F g a (.pointer (some ⟨g, 0, none⟩))) (hb : Capt w F g b (.int .i64 0)) (V : Nat) (A : Option Addr) (L cp : Nat) :
    Calls Tryz.prog 108 #[.agg #[.int .u64 V, .bool true, .slice A L cp], .pointer (some ⟨a, 0, none⟩), .pointer (some ⟨b, 0, none⟩)] w (RpMoved F g { s with p := Rs.wr (s.t + 0), cl := true, ph := .hdr } w) := by
  have hb0 := (Below.refl w.heap.size w).alloc (Nat.le_refl _) (.cells #[.int .u64 V, .bool true, .slice A L cp] 50)
  have hx := Go.Deep.blk_alloc_new w (.cells #[.int .u64 V, .bool true, .slice A L cp] 50)
  have hc1 := (hb0.cell (p := ⟨a, 0, none⟩) (lt_of_cell ha.2.2)).trans ha.2.2
  have hp1 := (hb0.cell (p := ⟨b, 0, none⟩) (lt_of_cell hb.2.2)).trans hb.2.2
  have hag : ¬ g = a := fun e => ha.2.1 e.symm
  have hbg : ¬ g = b := fun e => hb.2.1 e.symm
  have HH := Lib.hid (h.below hb0)
  have HW := Lib.hid hb0
  clear h hb0 ha hb
  go_enter Tryz.func108, Tryz.ntmps108
  go_upto_region 1 with (fail)
  generalize w.alloc (.cells #[.int .u64 V, .bool true, .slice A L cp] 50) = W at hx HH HW hc1 hp1 ⊢
  have x1 : W.cell? ⟨w.heap.size, 1, none⟩ = some (.bool true) := by simp [World.cell?, hx]
  clear hx
  obtain ⟨b0, bv, hblk⟩ := HH.out.blk
  have c13 := hblk.c13
  have c14 := hblk.c14
  have c15 := hblk.c15
  have f14 := hblk.free 14
  have f15 := hblk.free 15
  clear hblk
  go_upto_region 2 with (fail)
  go_upto_region 3 with (fail)
  go_region_held3 (fun w' => w'.cell? ⟨a, 0, none⟩ = some (.pointer (some ⟨g, 0, none⟩)) ∧ w'.cell? ⟨b, 0, none⟩ = some (.int .i64 0) ∧ w'.cell? ⟨g, 13, none⟩ = some (.int .i64 s.t)) (simp [*, World.cell?_setCell_far, World.cell?_setCell_other]) (fail)
  have hwr : IntKind.i64.wrap s.t = Rs.wr (s.t + 0) := by rw [Int.add_zero, IntKind.wrap_i64, Rs.wr, wrap64]
  rw [hwr]
  have HS := Lib.hid ((HH.out.store (s' := { s with p := Rs.wr (s.t + 0) }) 14 (.int .i64 (Rs.wr (s.t + 0))) (fun _ _ => rp_setP _ _ _ _ _ _) (HH.out.ok.withP _) rfl rfl).store (s' := { s with p := Rs.wr (s.t + 0), cl := true }) 15 (.bool true) (fun _ _ => rp_setC _ _ _ _ _ _) (HH.out.ok.withP _).withC rfl rfl)
  have HT : Hid (Touch F w ((W.setCell ⟨g, 14, none⟩ (.int .i64 (Rs.wr (s.t + 0)))).setCell ⟨g, 15, none⟩ (.bool true))) := Lib.hid (((Touch.of_below HW.out).setCell (p := ⟨g, 14, none⟩) HH.out.own _).setCell (p := ⟨g, 15, none⟩) HH.out.own _)
  have ha2 : ((W.setCell ⟨g, 14, none⟩ (.int .i64 (Rs.wr (s.t + 0)))).setCell ⟨g, 15, none⟩ (.bool true)).cell? ⟨a, 0, none⟩ = some (.pointer (some ⟨g, 0, none⟩)) := (World.cell?_setCell_far _ _ _ _ hag).trans ((World.cell?_setCell_far _ _ _ _ hag).trans hc1)
  have hp2 : ((W.setCell ⟨g, 14, none⟩ (.int .i64 (Rs.wr (s.t + 0)))).setCell ⟨g, 15, none⟩ (.bool true)).cell? ⟨b, 0, none⟩ = some (.int .i64 0) := (World.cell?_setCell_far _ _ _ _ hbg).trans ((World.cell?_setCell_far _ _ _ _ hbg).trans hp1)
  clear c13 c14 c15 f14 f15 x1 hc1 hp1 hwr
  generalize (W.setCell ⟨g, 14, none⟩ (.int .i64 (Rs.wr (s.t + 0)))).setCell ⟨g, 15, none⟩ (.bool true) = W2 at HS HT ha2 hp2 ⊢
  go_upto_region 4 with (fail)
  go_upto_region 5 with (fail)
  have HBD := Lib.hid ((Below.refl W2.heap.size W2).drew)
  have HC := Lib.hid (rpWrite (HS.out.below HBD.out))
  go_wp2_with (go_at_call 109; refine HC.out.mono ?_; intro e w3 hm; have HM := Lib.hid hm; obtain ⟨rfl, _⟩ := hm)
  go_end0
  exact (HM.out.after HBD.out).afterT HT.out
end Go.Proofs.YtbfgbnalnjdheaaGreat
namespace Go.Proofs.YtbfgbnalnjdheaaGreat
open Go.RowKit

theorem rp_jn (pad : Int) : Hd.jn (wrap32 pad) (-1) = Hd.jn pad (-1) := by
  have h : wrap32 pad = Hd.s32 pad := by unfold wrap32 Hd.s32; omega
  rw [h]
  unfold Hd.jn Hd.s32
  split <;> omega

set_option maxRecDepth 100000 in
set_option maxHeartbeats 1600000 in
/-- The tail is moved over padding: its header is written. -/
theorem rpClaim1Pad {w : World} {F : Nat → Prop} {g : Nat} {s : Rs} {dv : Value} (h : RpBare w F g s dv) {a b : Nat} (ha : Capt w F g a (.pointer (some ⟨g, 0, none⟩))) (pad : Int) (hnz : pad ≠ 0) (hb : Capt w F g b (.int .i64 pad)) (V : Nat) (A : Option Addr) (L cp : Nat) :
    Calls Tryz.prog 108 #[.agg #[.int .u64 V, .bool true, .slice A L cp], .pointer (some ⟨a, 0, none⟩), .pointer (some ⟨b, 0, none⟩)] w (RpMoved F g { s with p := Rs.wr (s.t + pad), cl := true, ph := .padd pad } w) := by
  have hb0 := (Below.refl w.heap.size w).alloc (Nat.le_refl _) (.cells #[.int .u64 V, .bool true, .slice A L cp] 50)
  have hx := Go.Deep.blk_alloc_new w (.cells #[.int .u64 V, .bool true, .slice A L cp] 50)
  have hc1 := (hb0.cell (p := ⟨a, 0, none⟩) (lt_of_cell ha.2.2)).trans ha.2.2
  have hp1 := (hb0.cell (p := ⟨b, 0, none⟩) (lt_of_cell hb.2.2)).trans hb.2.2
  have hFa := ha.1
  have hag : ¬ g = a := fun e => ha.2.1 e.symm
  have hbg : ¬ g = b := fun e => hb.2.1 e.symm
  have HH := Lib.hid (h.below hb0)
  have HW := Lib.hid hb0
  clear h hb0 ha hb
  go_enter Tryz.func108, Tryz.ntmps108
  go_upto_region 1 with (fail)
  generalize w.alloc (.cells #[.int .u64 V, .bool true, .slice A L cp] 50) = W at hx HH HW hc1 hp1 ⊢
  have x1 : W.cell? ⟨w.heap.size, 1, none⟩ = some (.bool true) := by simp [World.cell?, hx]
  clear hx
  obtain ⟨b0, bv, hblk⟩ := HH.out.blk
  have c13 := hblk.c13
  have c14 := hblk.c14
  have c15 := hblk.c15
  have f14 := hblk.free 14
  have f15 := hblk.free 15
  clear hblk
  go_upto_region 2 with (fail)
  go_upto_region 3 with (fail)
  go_region_held3 (fun w' => w'.cell? ⟨a, 0, none⟩ = some (.pointer (some ⟨g, 0, none⟩)) ∧ w'.cell? ⟨b, 0, none⟩ = some (.int .i64 pad) ∧ w'.cell? ⟨g, 13, none⟩ = some (.int .i64 s.t)) (simp [*, World.cell?_setCell_far, World.cell?_setCell_other]) (fail)
  have hwr : IntKind.i64.wrap (s.t + pad) = Rs.wr (s.t + pad) := by rw [IntKind.wrap_i64, Rs.wr, wrap64]
  rw [hwr]
  have HS := Lib.hid ((HH.out.store (s' := { s with p := Rs.wr (s.t + pad) }) 14 (.int .i64 (Rs.wr (s.t + pad))) (fun _ _ => rp_setP _ _ _ _ _ _) (HH.out.ok.withP _) rfl rfl).store (s' := { s with p := Rs.wr (s.t + pad), cl := true }) 15 (.bool true) (fun _ _ => rp_setC _ _ _ _ _ _) (HH.out.ok.withP _).withC rfl rfl)
  have HT : Hid (Touch F w ((W.setCell ⟨g, 14, none⟩ (.int .i64 (Rs.wr (s.t + pad)))).setCell ⟨g, 15, none⟩ (.bool true))) := Lib.hid (((Touch.of_below HW.out).setCell (p := ⟨g, 14, none⟩) HH.out.own _).setCell (p := ⟨g, 15, none⟩) HH.out.own _)
  have ha2 : ((W.setCell ⟨g, 14, none⟩ (.int .i64 (Rs.wr (s.t + pad)))).setCell ⟨g, 15, none⟩ (.bool true)).cell? ⟨a, 0, none⟩ = some (.pointer (some ⟨g, 0, none⟩)) := (World.cell?_setCell_far _ _ _ _ hag).trans ((World.cell?_setCell_far _ _ _ _ hag).trans hc1)
  have hp2 : ((W.setCell ⟨g, 14, none⟩ (.int .i64 (Rs.wr (s.t + pad)))).setCell ⟨g, 15, none⟩ (.bool true)).cell? ⟨b, 0, none⟩ = some (.int .i64 pad) := (World.cell?_setCell_far _ _ _ _ hbg).trans ((World.cell?_setCell_far _ _ _ _ hbg).trans hp1)
  clear c13 c14 c15 f14 f15 x1 hc1 hp1 hwr
  generalize (W.setCell ⟨g, 14, none⟩ (.int .i64 (Rs.wr (s.t + pad)))).setCell ⟨g, 15, none⟩ (.bool true) = W2 at HS HT ha2 hp2 ⊢
  go_upto_region 4 with (fail)
  have hdec : decide (pad = 0) = false := by simpa using hnz
  have hjn := rp_jn pad
  obtain ⟨Vp, hV, hVn⟩ : ∃ V : Nat, Hd.jn pad (-1) = (V : Int) ∧ (Hd.jn pad (-1)).toNat = V := rp_cast _ (Hd.jn_bounds _ _).1
  have HVN := Lib.hid hVn
  clear hVn
  go_upto_region 7 with (go_at_call 110; refine (record_any (wrap32 pad) (-1) _).mono ?_; rintro e w' ⟨rfl, rfl⟩; rw [hjn, hV])
  have HBD := Lib.hid ((Below.refl W2.heap.size W2).drew)
  have HS3 := Lib.hid (HS.out.below HBD.out)
  have k3 : W2.drew.cell? ⟨a, 0, none⟩ = some (.pointer (some ⟨g, 0, none⟩)) := ha2
  obtain ⟨b3, v3, hblk3⟩ := HS3.out.blk
  have HB3 := Lib.hid hblk3
  have t3 := hblk3.c13
  have z3 := hblk3.c0
  have o3 := hblk3.c1
  clear hblk3 ha2 hp2
  generalize W2.drew = W3 at HBD HS3 HB3 k3 t3 z3 o3 ⊢
  have hla := lt_of_cell k3
  have hlg := lt_of_cell t3
  have hga : ¬ a = g := fun e => hag e.symm
  go_region_held3 (fun w' => w'.cell? ⟨a, 0, none⟩ = some (.pointer (some ⟨g, 0, none⟩)) ∧ w'.cell? ⟨g, 0, none⟩ = some (.int .i64 s.B) ∧ w'.cell? ⟨g, 1, none⟩ = some (.int .i64 s.Z) ∧ w'.cell? ⟨g, 13, none⟩ = some (.int .i64 s.t)) (go_keep)
    (first
      | (go_at_call 47; refine (rpDo (HB3.out.below hb2) ⟨2, s.spot s.t, 8, Vp, 0, []⟩ none 0 0 112 #[] #[.pointer (some ⟨a, 0, none⟩)]).mono ?_; intro e wd has; have HAS := Lib.hid has; obtain ⟨rfl, hblkd, htd⟩ := has; have kd := (htd.cell (p := ⟨a, 0, none⟩) (lt_of_cell k2) hga).trans k2; have o0d := hblkd.c0; have o1d := hblkd.c1; have o13d := hblkd.c13; clear hblkd)
      | (go_at_call 94; refine (stSet (s.spot s.t) Vp _).mono ?_; rintro e x2 ⟨rfl, hq2⟩; have hb2 := hb1.trans (hq2.mono hb1.size); have k2 := (hb2.cell (p := ⟨a, 0, none⟩) hla).trans k3; have o02 := (hb2.cell (p := ⟨g, 0, none⟩) hlg).trans z3; have o12 := (hb2.cell (p := ⟨g, 1, none⟩) hlg).trans o3; have o132 := (hb2.cell (p := ⟨g, 13, none⟩) hlg).trans t3)
      | (go_at_call 111; refine (rpAtC HS3.out.ok s.t _).mono ?_; rintro e x1 ⟨rfl, hq1⟩; have hb1 := below_drew hq1; have k1 := (hb1.cell (p := ⟨a, 0, none⟩) hla).trans k3; have o01 := (hb1.cell (p := ⟨g, 0, none⟩) hlg).trans z3; have o11 := (hb1.cell (p := ⟨g, 1, none⟩) hlg).trans o3; have o131 := (hb1.cell (p := ⟨g, 13, none⟩) hlg).trans t3))
  all_goals
    go_wp2
    go_end0
    refine RpMoved.afterT (RpMoved.after (rp_asked (s' := { s with p := Rs.wr (s.t + pad), cl := true, ph := .padd pad }) HS3.out rfl hb2 (show some (⟨2, s.spot s.t, 8, (Hd.jn pad (-1)).toNat, 0, []⟩ : Ac) = _ by rw [HVN.out]) HAS.out (BytesIn.none _ _) fun w8 hk => ?_) HBD.out) HT.out
    exact ⟨a, rfl, ⟨.inl hFa, hga, (World.cell?_of_block (w := x2) (a := ⟨a, 0, none⟩) (hk _ hga (lt_of_cell k2))).trans k2⟩⟩
end Go.Proofs.YtbfgbnalnjdheaaGreat
namespace Go.Proofs.YtbfgbnalnjdheaaGreat
open Go.RowKit

theorem Three.below {w w' : World} {F : Nat → Prop} {g : Nat} {s : Rs} {a b c : Nat} (h : Three w F g s a b c) (hb : Below w.heap.size w w') : Three w' F g s a b c := ⟨h.1.below hb, h.2.1.below hb, h.2.2.below hb⟩
theorem Three.keep {w w' : World} {F F' : Nat → Prop} {g : Nat} {s : Rs} {a b c : Nat} (h : Three w F g s a b c) (hb : ∀ k, F k → k ≠ g → w'.heap[k]? = w.heap[k]?) (hF : ∀ k, F k → F' k) : Three w' F' g s a b c := ⟨(h.1.keep hb).mono hF, (h.2.1.keep hb).mono hF, (h.2.2.keep hb).mono hF⟩

theorem RpMovedG.after {F : Nat → Prop} {g : Nat} {s : Rs} {w W : World} {e : Ending} {w' : World} (h : RpMovedG F g s W e w') (hb : Below w.heap.size w W) (hg : g < w.heap.size) : RpMovedG F g s w e w' := ⟨h.1.after hb, (Touch.of_below hb).trans h.2.1, h.2.2.trans (hb.cell (p := ⟨g, 3, none⟩) hg)⟩

theorem rp_enter (a b c : Nat) (w : World) : (callFunc 116 #[.pointer (some ⟨a, 0, none⟩), .pointer (some ⟨b, 0, none⟩), .pointer (some ⟨c, 0, none⟩)]).run Tryz.prog w = .ok (.enter 116 #[.pointer (some ⟨a, 0, none⟩), .pointer (some ⟨b, 0, none⟩), .pointer (some ⟨c, 0, none⟩)]) w := by
  simp [go_sem]

/-- The bytes' copy is followed: its next access is asked for, or the length's. -/
theorem rpFollow {w : World} {F : Nat → Prop} {g : Nat} {s : Rs} {dv : Value} (h : RpBare w F g s dv) (hF : ∀ k, F k → k < w.heap.size) {a b c : Nat} (ht : Three w F g s a b c) {base top gc d : Nat} {v : Value}
    (hc : Cp w base top gc (.wr (s.spot s.p + 8) s.f) d (s.L - d) v []) (hd : d ≤ s.L) (hsep : ∀ k, (base ≤ k ∧ k < top) ∨ v.ownBlock = some k → F k ∧ k ≠ g ∧ k ≠ a ∧ k ≠ b ∧ k ≠ c ∧ (0 < s.L → dv.ownBlock ≠ some k)) :
    Calls Tryz.prog 114 #[.pointer (some ⟨g, 5, none⟩), .iface 168 (.pointer (some ⟨gc, 0, none⟩)), .func (.func 116) #[] #[.pointer (some ⟨a, 0, none⟩), .pointer (some ⟨b, 0, none⟩), .pointer (some ⟨c, 0, none⟩)]] w (RpMovedG F g (if d = s.L then { s with ph := .len } else { s with ph := .byt d }) w) := by
  by_cases hl : d = s.L
  · rw [if_pos hl]
    have hz : s.L - d = 0 := by omega
    rw [hz] at hc
    refine (stFollowNo hc g 5 (Q := fun w' => RpMovedG F g { s with ph := .len } w (.returned (.tuple #[])) w') #[.pointer (some ⟨a, 0, none⟩), .pointer (some ⟨b, 0, none⟩), .pointer (some ⟨c, 0, none⟩)] (by simp) (rp_enter a b c) fun W hW => ?_).mono ?_
    · refine (rpWrite11 (h.below hW) (ht.below hW)).mono ?_
      intro e w' hm
      have hm2 := hm.after hW h.lt
      obtain ⟨⟨rfl, _⟩, _⟩ := hm
      exact ⟨rfl, hm2⟩
    · rintro e w' ⟨rfl, hm⟩
      exact hm
  · rw [if_neg hl]
    obtain ⟨a0, av, hblk⟩ := h.blk
    refine (stFollowYes hc (by omega) hblk.st 116 #[] #[.pointer (some ⟨a, 0, none⟩), .pointer (some ⟨b, 0, none⟩), .pointer (some ⟨c, 0, none⟩)]).mono ?_
    rintro e w' ⟨rfl, W, A, l, cp, hW, ho, k0, k1, k2, rfl⟩
    have hgl := hblk.lt
    have has : RpAsked g s dv ⟨6, s.spot s.p + 8 + (d : Nat), (Cy.nx (s.L - d) : Nat), 0, 0, Mb.bl s.f d (Cy.nx (s.L - d))⟩ (.slice A l cp) (.func (.func 119) #[] #[.pointer (some ⟨w.heap.size + 1, 0, none⟩), .pointer (some ⟨w.heap.size, 0, none⟩), .pointer (some ⟨w.heap.size + 2, 0, none⟩)]) W (.returned (.tuple #[])) _ :=
      ⟨rfl, rp_seven (hblk.below hW) _ _ _, seven_touch1 W g 5 _ _ _⟩
    refine ⟨rp_askedS (s' := { s with ph := .byt d }) h rfl hW rfl has ?_ fun w2 hs hk => ?_, (Touch.of_below hW).trans (seven_touch1 W g 5 _ _ _), has.2.1.c3.trans hblk.c3.symm⟩
    · have hbi := (BytesIn.of_own ho).lt
      exact hbi.mono fun k h1 _ => ⟨.inr ⟨by have := h1.1; omega, h1.2⟩, by have := h1.1; omega⟩
    · have l0 := lt_of_cell k0
      have l1 := lt_of_cell k1
      have l2 := lt_of_cell k2
      have hne0 : w.heap.size ≠ g := by omega
      have hne1 : w.heap.size + 1 ≠ g := by omega
      have hne2 : w.heap.size + 2 ≠ g := by omega
      have hFk : ∀ k, F k → k ≠ g → w2.heap[k]? = w.heap[k]? := fun k hkF hkg => (hk k hkg (Nat.lt_of_lt_of_le (hF k hkF) hW.size)).trans (hW.block k (hF k hkF))
      refine ⟨w.heap.size + 1, w.heap.size, w.heap.size + 2, a, b, c, gc, base, top, v, rfl, ⟨.inr ⟨by omega, l1⟩, hne1, (World.cell?_of_block (w := W) (a := ⟨w.heap.size + 1, 0, none⟩) (hk _ hne1 l1)).trans k1⟩, ⟨.inr ⟨by omega, l0⟩, hne0, (World.cell?_of_block (w := W) (a := ⟨w.heap.size, 0, none⟩) (hk _ hne0 l0)).trans k0⟩, ⟨.inr ⟨by omega, l2⟩, hne2, (World.cell?_of_block (w := W) (a := ⟨w.heap.size + 2, 0, none⟩) (hk _ hne2 l2)).trans k2⟩, ht.keep hFk fun k hk => .inl hk, ?_, fun k hk2 => ?_, show d < s.L by omega⟩
      · refine hc.keep (Nat.le_trans hW.size hs) (fun k h1 h2 => ?_) fun k h1 => ?_
        · have := hsep k (.inl ⟨h1, h2⟩)
          exact hFk k this.1 this.2.1
        · have := hsep k (.inr h1)
          exact hFk k this.1 this.2.1
      · have h5 := hsep k hk2
        have h6 := hF k h5.1
        exact ⟨.inl h5.1, h5.2.1, by omega, by omega, by omega, h5.2.2.1, h5.2.2.2.1, h5.2.2.2.2.1, h5.2.2.2.2.2 (by omega)⟩
end Go.Proofs.YtbfgbnalnjdheaaGreat
namespace Go.Proofs.YtbfgbnalnjdheaaGreat
open Go.RowKit

theorem RpMovedG.narrow {F F2 : Nat → Prop} {g : Nat} {s : Rs} {w W : World} {e : Ending} {w' : World} (h : RpMovedG F2 g s W e w') (hb : Below w.heap.size w W) (hg : g < w.heap.size) (hF : ∀ k, F2 k → F k ∨ (w.heap.size ≤ k ∧ k < W.heap.size)) : RpMovedG F g s w e w' := ⟨h.1.narrow hb hF, (Touch.of_below hb).trans h.2.1, h.2.2.trans (hb.cell (p := ⟨g, 3, none⟩) hg)⟩

theorem rp_sep {w : World} {F : Nat → Prop} {g : Nat} {s : Rs} {dv : Value} (h : RpBare w F g s dv) {n top a b c : Nat} (hnm : n ≤ w.heap.size) (ha : a < w.heap.size) (hb : b < w.heap.size) (hc : c < w.heap.size) (k : Nat) (hk : (w.heap.size ≤ k ∧ k < top) ∨ Value.ownBlock (.slice none 0 0) = some k) :
    (F k ∨ (n ≤ k ∧ k < top)) ∧ k ≠ g ∧ k ≠ a ∧ k ≠ b ∧ k ≠ c ∧ (0 < s.L → dv.ownBlock ≠ some k) := by
  have hg := h.lt
  rcases hk with hk | hk
  · refine ⟨.inr ⟨by omega, hk.2⟩, by omega, by omega, by omega, by omega, fun hp e => ?_⟩
    have hx : 0 < (Mb.bl s.f 0 s.L).length := by rw [Mb.bl_length]; exact hp
    obtain ⟨A, cp, hv, hh⟩ := h.txt
    obtain ⟨b', off, e2, h1, h2, h3⟩ := hh hx
    rw [hv, e2] at e
    injection e with e
    simp only at e
    omega
  · cases hk

set_option maxRecDepth 100000 in
set_option maxHeartbeats 1600000 in
/-- The header was stored: the bytes' copy is made and followed. -/
theorem rpWrite1 {w : World} {F : Nat → Prop} {g : Nat} {s : Rs} {dv : Value} (h : RpBare w F g s dv) (hF : ∀ k, F k → k < w.heap.size) {a b c : Nat} (ht : Three w F g s a b c) (V : Nat) (D : Bool) (A : Option Addr) (L cp : Nat) :
    Calls Tryz.prog 113 #[.agg #[.int .u64 V, .bool D, .slice A L cp], .pointer (some ⟨a, 0, none⟩), .pointer (some ⟨b, 0, none⟩), .pointer (some ⟨c, 0, none⟩)] w (RpMovedG F g (if 0 = s.L then { s with ph := .len } else { s with ph := .byt 0 }) w) := by
  have hb0 := (Below.refl w.heap.size w).alloc (Nat.le_refl _) (.cells #[.int .u64 V, .bool D, .slice A L cp] 50)
  have hsp := h.ok.place_in s.p
  have hb1 := h.ok.b1
  have hfew := h.ok.few
  have hz1 := h.ok.z1
  have hsv : s.spot s.p = (s.B : Int) + s.place s.p := rfl
  have hnear : -4611686018427387904 ≤ s.spot s.p + 8 ∧ s.spot s.p + 8 ≤ 4611686018427387904 := by omega
  have hadd : IntKind.i64.wrap (s.spot s.p + 8) = s.spot s.p + 8 := IntWalk.i64_in _ (by omega)
  have HNE := Lib.hid hnear
  have HLL := Lib.hid (show s.L ≤ 131072 by omega)
  have hgl := h.lt
  have HH := Lib.hid (h.below hb0)
  have HT := Lib.hid (ht.below hb0)
  have HW := Lib.hid hb0
  have HFL := Lib.hid hF
  have hag := ht.1.2.1
  have hbg := ht.2.1.2.1
  have hcg := ht.2.2.2.1
  obtain ⟨s', hs'⟩ : ∃ s' : Rs, s' = (if 0 = s.L then { s with ph := .len } else { s with ph := .byt 0 }) := ⟨_, rfl⟩
  rw [← hs']
  have HS' := Lib.hid hs'
  obtain ⟨Ad, cd, hdv, _, _⟩ := h.dat
  subst hdv
  clear hs' h hb0 hsp hb1 hfew hz1 hsv hnear ht hF
  go_enter Tryz.func113, Tryz.ntmps113
  go_upto_region 1 with (fail)
  generalize w.alloc (.cells #[.int .u64 V, .bool D, .slice A L cp] 50) = W at HH HT HW ⊢
  have hca := HT.out.1.2.2
  have hcb := HT.out.2.1.2.2
  have hcc := HT.out.2.2.2.2
  have hla := lt_of_cell hca
  have hlb := lt_of_cell hcb
  have hlc := lt_of_cell hcc
  obtain ⟨a0, av, hblk⟩ := HH.out.blk
  have c3 := hblk.c3
  have hgW := hblk.lt
  clear hblk
  have hga : ¬ a = g := hag
  have hgb : ¬ b = g := hbg
  have hgc : ¬ c = g := hcg
  clear hag hbg hcg
  go_region_held3 (fun w' => w'.cell? ⟨a, 0, none⟩ = some (.pointer (some ⟨g, 0, none⟩)) ∧ w'.cell? ⟨b, 0, none⟩ = some (.int .i64 (s.spot s.p)) ∧ w'.cell? ⟨g, 3, none⟩ = some (.slice Ad s.L cd)) (go_keep)
    (first
      | (go_at_call 114; refine (rpFollow (HB1.out.wide (F' := fun k => F k ∨ (w.heap.size ≤ k ∧ k < w1.heap.size)) fun k hk => .inl hk) (fun k hk => hk.elim (fun hk => Nat.lt_of_lt_of_le (HFL.out k hk) hbW.size) fun hk => hk.2) (HT1.out.keep (fun _ _ _ => rfl) fun k hk => .inl hk) hc1 (Nat.zero_le _) (rp_sep HH.out HW.out.size hla hlb hlc)).mono ?_; intro e w4 hm; have HM := Lib.hid hm; obtain ⟨⟨rfl, _⟩, ht4, h34⟩ := hm; have o4 := h34.trans o1; have k4 := (ht4.cell (p := ⟨a, 0, none⟩) (lt_of_cell k1) hga).trans k1; have m4 := (ht4.cell (p := ⟨b, 0, none⟩) (lt_of_cell m1) hgb).trans m1)
      | (go_at_call 115; refine (in_any (s.spot s.p + 8) Ad s.L cd s.f W.drew HNE.out ((HH.out.below (Below.refl W.heap.size W).drew).txt.bytes) HLL.out).mono ?_; rintro e w1 ⟨gc, rfl, hc1, hq1⟩; have hb2 := below_drew hq1; have k1 := (hb2.cell (p := ⟨a, 0, none⟩) hla).trans hca; have m1 := (hb2.cell (p := ⟨b, 0, none⟩) hlb).trans hcb; have o1 := (hb2.cell (p := ⟨g, 3, none⟩) hgW).trans c3; have HB1 := Lib.hid (HH.out.below hb2); have HT1 := Lib.hid (HT.out.below hb2); have hbW := HW.out.trans (hb2.mono HW.out.size)))
  all_goals
    go_wp2
    go_end0
    rw [HS'.out]
    exact HM.out.narrow hbW hgl fun k hk => hk

/-- What a call leaves that turned blocks of the put alone: in the sense of what went on before. -/
theorem RpMoved.around {F F2 : Nat → Prop} {g : Nat} {s : Rs} {w W : World} {e : Ending} {w' : World} (h : RpMoved F2 g s W e w') (ht : Touch F w W) (hF : ∀ k, F2 k → F k ∨ (w.heap.size ≤ k ∧ k < W.heap.size)) : RpMoved F g s w e w' := by
  obtain ⟨he, F', hp, ht2, hF'⟩ := h
  refine ⟨he, F', hp, ⟨ht2.os.trans ht.os, ht2.tape.trans ht.tape, ht2.output.trans ht.output, Nat.le_trans ht.size ht2.size, fun k hk hn => (ht2.block k (Nat.lt_of_lt_of_le hk ht.size) fun e => ?_).trans (ht.block k hk hn)⟩, fun k hk => ?_⟩
  · rcases hF k e with e | e
    · exact hn e
    · omega
  · rcases hF' k hk with e | e
    · exact (hF k e).imp id fun e => ⟨e.1, Nat.lt_of_lt_of_le e.2 ht2.size⟩
    · exact .inr ⟨Nat.le_trans ht.size e.1, e.2⟩

set_option maxHeartbeats 800000 in
/-- A part of the bytes was stored: the next one, or the length. -/
theorem rpFollow1 {w : World} {F : Nat → Prop} {g : Nat} {s : Rs} {dv : Value} (h : RpBare w F g s dv) (hF : ∀ k, F k → k < w.heap.size) {em es eo a b c gc base top d : Nat} {v : Value}
    (hm : Capt w F g em (.iface 168 (.pointer (some ⟨gc, 0, none⟩)))) (hs : Capt w F g es (.pointer (some ⟨g, 5, none⟩))) (ho : Capt w F g eo (.func (.func 116) #[] #[.pointer (some ⟨a, 0, none⟩), .pointer (some ⟨b, 0, none⟩), .pointer (some ⟨c, 0, none⟩)])) (ht : Three w F g s a b c)
    (hc : Cp w base top gc (.wr (s.spot s.p + 8) s.f) d (s.L - d) v []) (hsep : ∀ k, (base ≤ k ∧ k < top) ∨ v.ownBlock = some k → F k ∧ k ≠ g ∧ k ≠ em ∧ k ≠ es ∧ k ≠ eo ∧ k ≠ a ∧ k ≠ b ∧ k ≠ c ∧ dv.ownBlock ≠ some k) (hd : d < s.L)
    (V : Nat) (D : Bool) (A : Option Addr) (L cp : Nat) {zs : List Int} (hz : BytesAt w (.slice A L cp) zs) :
    Calls Tryz.prog 119 #[.agg #[.int .u64 V, .bool D, .slice A L cp], .pointer (some ⟨em, 0, none⟩), .pointer (some ⟨es, 0, none⟩), .pointer (some ⟨eo, 0, none⟩)] w (RpMoved F g (if d + Cy.nx (s.L - d) = s.L then { s with ph := .len } else { s with ph := .byt (d + Cy.nx (s.L - d)) }) w) := by
  have hmine : ∀ k, Mine gc v k → F k ∧ k ≠ g ∧ k ≠ em ∧ k ≠ es ∧ k ≠ eo ∧ k ≠ a ∧ k ≠ b ∧ k ≠ c ∧ dv.ownBlock ≠ some k := fun k hk => by
    rcases hk with hk | hk
    · exact hsep k (.inl ⟨hk ▸ hc.above, hk ▸ hc.under⟩)
    · exact hsep k (.inr hk)
  have hnl := Cy.nx_le (s.L - d)
  obtain ⟨s', hs'⟩ : ∃ s' : Rs, s' = (if d + Cy.nx (s.L - d) = s.L then { s with ph := .len } else { s with ph := .byt (d + Cy.nx (s.L - d)) }) := ⟨_, rfl⟩
  rw [← hs']
  refine (stFollow1 hc (by omega) hm.2.2 hs.2.2 ho.2.2 (fun e => (hmine _ e).2.2.1 rfl) (fun e => (hmine _ e).2.2.2.1 rfl) (fun e => (hmine _ e).2.2.2.2.1 rfl) V D A L cp hz (fun e => by cases e) (Q := fun w' => RpMoved F g s' w (.returned (.tuple #[])) w') fun W v' hc' ht' hl' => ?_).mono ?_
  · have hTF : Touch F w W := ht'.mono fun k hk => (hmine k hk).1
    obtain ⟨a0, av, hblk⟩ := h.blk
    have hgM : ¬ Mine gc v g := fun e => (hmine g e).2.1 rfl
    have hk3 : ∀ q, q ≠ g → F q → (q = a ∨ q = b ∨ q = c) → W.heap[q]? = w.heap[q]? := fun q _ hq hq2 => ht'.block q (hF q hq) fun e => by
      have := hmine q e
      omega
    have hb : RpBare W (fun k => F k ∨ (w.heap.size ≤ k ∧ k < W.heap.size)) g s dv :=
      ⟨⟨a0, av, hblk.of_block (ht'.block g hblk.lt hgM)⟩, .inl h.own, h.ok, h.dat, (h.txt.ownK.keep ht'.size fun k hk hlt => ht'.block k hlt fun e => (hmine k e).2.2.2.2.2.2.2.2 hk.2.2).mono fun k hk _ => ⟨.inl hk.1.1, hk.1.2⟩⟩
    have ht3 : Three W (fun k => F k ∨ (w.heap.size ≤ k ∧ k < W.heap.size)) g s a b c := by
      have cap : ∀ {q : Nat} {u : Value}, Capt w F g q u → (q = a ∨ q = b ∨ q = c) → Capt W (fun k => F k ∨ (w.heap.size ≤ k ∧ k < W.heap.size)) g q u := fun hq h2 => ⟨.inl hq.1, hq.2.1, (World.cell?_of_block (w := w) (a := ⟨_, 0, none⟩) (hk3 _ hq.2.1 hq.1 h2)).trans hq.2.2⟩
      exact ⟨cap ht.1 (.inl rfl), cap ht.2.1 (.inr (.inl rfl)), cap ht.2.2 (.inr (.inr rfl))⟩
    have hsub : s.L - d - Cy.nx (s.L - d) = s.L - (d + Cy.nx (s.L - d)) := by omega
    rw [hsub] at hc'
    have hlt3 : ∀ {q : Nat} {u : Value}, Capt w F g q u → q < w.heap.size := fun hq => hF _ hq.1
    have la := hlt3 ht.1
    have lb := hlt3 ht.2.1
    have lc := hlt3 ht.2.2
    have hgl := hblk.lt
    have hdl : ∀ k, dv.ownBlock = some k → k < w.heap.size := fun k hk => by
      have hx : 0 < (Mb.bl s.f 0 s.L).length := by rw [Mb.bl_length]; omega
      obtain ⟨A', cp', hv, hh⟩ := h.txt
      obtain ⟨b', off, e2, h1, h2, h3⟩ := hh hx
      rw [hv, e2] at hk
      injection hk with hk
      simp only at hk
      omega
    refine (rpFollow hb (fun k hk => hk.elim (fun hk => Nat.lt_of_lt_of_le (hF k hk) ht'.size) fun hk => hk.2) ht3 hc' (by omega) fun k hk => ?_).mono fun e w' hm => ?_
    · have key : (F k ∧ k ≠ g ∧ k ≠ em ∧ k ≠ es ∧ k ≠ eo ∧ k ≠ a ∧ k ≠ b ∧ k ≠ c ∧ dv.ownBlock ≠ some k) ∨ (w.heap.size ≤ k ∧ k < W.heap.size) := by
        rcases hk with hk | hk
        · exact .inl (hsep k (.inl hk))
        · rcases hl' k hk with e | e
          · exact .inl (hsep k (.inr e))
          · exact .inr ⟨e, (hc'.own.ge hk).2⟩
      rcases key with h5 | h5
      · exact ⟨.inl h5.1, h5.2.1, h5.2.2.2.2.2.1, h5.2.2.2.2.2.2.1, h5.2.2.2.2.2.2.2.1, fun _ => h5.2.2.2.2.2.2.2.2⟩
      · exact ⟨.inr h5, by omega, by omega, by omega, by omega, fun _ e => by have := hdl k e; omega⟩
    · have h6 := hm.1.around hTF fun k hk => hk
      rw [← hs'] at h6
      obtain ⟨rfl, _⟩ := hm.1
      exact ⟨rfl, h6⟩
  · rintro e w' ⟨rfl, hm⟩
    exact hm
end Go.Proofs.YtbfgbnalnjdheaaGreat
namespace Go.Proofs.YtbfgbnalnjdheaaGreat
open Go.RowKit

theorem seven_size (W : World) (g o : Nat) (b : Ac) (bv th : Value) : (seven W g o b bv th).heap.size = W.heap.size := by simp [seven, World.setCell]

theorem PutAt.bare {w : World} {F : Nat → Prop} {g : Nat} {s : Rs} {A : Option Addr} {L c : Nat} {a : Ac} {av th : Value} (hk : RpBlk w g s (.slice A L c) a av th) (hg : F g) (hok : s.Ok) (ht : BytesIn (fun k => F k ∧ k ≠ g) w (.slice A L c) (Mb.bl s.f 0 s.L)) (hl : L ≤ c) (hc : c ≤ 9223372036854775807) {W : World} (hW : Below w.heap.size w W) :
    RpBare (seven W g 5 Ac.zero (.slice none 0 0) .nilFunc) F g s (.slice A L c) := by
  have hL : L = s.L := by
    obtain ⟨A', c', e, _⟩ := ht
    injection e with _ e _
    rw [e, Mb.bl_length]
  subst hL
  have hT := seven_touch1 W g 5 Ac.zero (.slice none 0 0) .nilFunc
  exact ⟨⟨_, _, rp_seven (hk.below hW) _ _ _⟩, hg, hok, ⟨A, c, rfl, hl, hc⟩, (ht.below hW).keep hT.size fun k hk hlt => hT.block k hlt hk.2⟩

/-- A byte is none of a put's cells. -/
theorem rp_noByte {w : World} {g : Nat} {s : Rs} {a : Ac} {A A2 : Option Addr} {l l2 c c2 : Nat} {k : FuncId} {rc caps : Array Value} (h : RpBlk w g s (.slice A l c) a (.slice A2 l2 c2) (.func (.func k) rc caps)) (i : Nat) (v : Int) : w.cell? ⟨g, i, none⟩ ≠ some (.int .u8 v) := by
  intro e
  have h' : w.heap[g]? = some (.cells (RpCells s (.slice A l c) a (.slice A2 l2 c2) (.func (.func k) rc caps)) 78 (0, 0)) := h
  simp only [World.cell?, h'] at e
  rcases Nat.lt_or_ge i 17 with hi | hi
  · rcases (by omega : i = 0 ∨ i = 1 ∨ i = 2 ∨ i = 3 ∨ i = 4 ∨ i = 5 ∨ i = 6 ∨ i = 7 ∨ i = 8 ∨ i = 9 ∨ i = 10 ∨ i = 11 ∨ i = 12 ∨ i = 13 ∨ i = 14 ∨ i = 15 ∨ i = 16) with h | h | h | h | h | h | h | h | h | h | h | h | h | h | h | h | h <;> (subst h; simp [RpCells] at e)
  · have : (RpCells s (.slice A l c) a (.slice A2 l2 c2) (.func (.func k) rc caps))[i]? = none := by
      rw [Array.getElem?_eq_none]
      simp [RpCells]
      exact hi
    simp [this] at e

theorem rp_bytes {w w' : World} {g : Nat} {s : Rs} {a : Ac} {A A2 : Option Addr} {l l2 c c2 : Nat} {k : FuncId} {rc caps : Array Value} (h : RpBlk w g s (.slice A l c) a (.slice A2 l2 c2) (.func (.func k) rc caps)) {v : Value} {xs : List Int} (hv : BytesAt w v xs) (ht : Touch (fun k => k = g) w w') : BytesAt w' v xs := by
  obtain ⟨A', c', e, hh⟩ := hv
  refine ⟨A', c', e, fun hp => ?_⟩
  obtain ⟨b, off, e1, hb, hcs⟩ := hh hp
  have hbg : b ≠ g := fun e => by
    subst e
    exact rp_noByte h _ _ (hcs 0 hp)
  exact ⟨b, off, e1, Nat.lt_of_lt_of_le hb ht.size, fun i hi => (World.cell?_of_block (w := w) (a := ⟨b, off + i, none⟩) (ht.block b hb hbg)).trans (hcs i hi)⟩

set_option maxHeartbeats 1000000 in
theorem rpStepsTake {w : World} {F : Nat → Prop} {g : Nat} {s : Rs} (h : PutAt w F g s) (hF : ∀ k, F k → k < w.heap.size) (x : An) (hx : x.V < 18446744073709551616) (A : Option Addr) (l c : Nat) (hB : BytesAt w (.slice A l c) x.bs) :
    Calls Tryz.prog 36 #[.pointer (some ⟨g, 5, none⟩), .agg #[.int .u64 x.V, .bool x.D, .slice A l c]] w (RpMoved F g (s.take x) w) := by
  obtain ⟨Ad, Ld, cd, a, av, th, hblk, hFg, hok, htxt, hl, hc, hth, hnx⟩ := h
  have hgl := hblk.lt
  have hbare : ∀ W, Below w.heap.size w W → RpBare (seven W g 5 Ac.zero (.slice none 0 0) .nilFunc) F g s (.slice Ad Ld cd) := fun W hW => PutAt.bare hblk hFg hok htxt hl hc hW
  have hkeep : ∀ W, Below w.heap.size w W → ∀ k, F k → k ≠ g → (seven W g 5 Ac.zero (.slice none 0 0) .nilFunc).heap[k]? = w.heap[k]? := fun W hW k hk hkg =>
    ((seven_touch1 W g 5 Ac.zero (.slice none 0 0) .nilFunc).block k (Nat.lt_of_lt_of_le (hF k hk) hW.size) hkg).trans (hW.block k (hF k hk))
  have hFW : ∀ W, Below w.heap.size w W → ∀ k, F k → k < (seven W g 5 Ac.zero (.slice none 0 0) .nilFunc).heap.size := fun W hW k hk => by rw [seven_size]; exact Nat.lt_of_lt_of_le (hF k hk) hW.size
  have hTF : ∀ W, Below w.heap.size w W → Touch F w (seven W g 5 Ac.zero (.slice none 0 0) .nilFunc) := fun W hW => (Touch.of_below hW).trans ((seven_touch1 W g 5 _ _ _).mono fun k hk => by have e : k = g := hk; rw [e]; exact hFg)
  have fin : ∀ {k : FuncId} {caps : Array Value} (s' : Rs) (hthv : th = .func (.func k) #[] caps) (args : Array Value) (ha : (#[] : Array Value).push (.agg #[.int .u64 x.V, .bool x.D, .slice A l c]) ++ caps = args) (he : ∀ w, (callFunc k args).run Tryz.prog w = .ok (.enter k args) w)
      (H : ∀ W, Below w.heap.size w W → Calls Tryz.prog k args (seven W g 5 Ac.zero (.slice none 0 0) .nilFunc) (RpMoved F g s' (seven W g 5 Ac.zero (.slice none 0 0) .nilFunc))),
      Calls Tryz.prog 36 #[.pointer (some ⟨g, 5, none⟩), .agg #[.int .u64 x.V, .bool x.D, .slice A l c]] w (RpMoved F g s' w) := by
    intro k caps s' hthv args ha he H
    subst hthv
    refine (stTakeYes hblk.st x.V x.D A l c (Q := fun w' => RpMoved F g s' w (.returned (.tuple #[])) w') args ha he fun W hW => (H W hW).mono fun e w' hm => ?_).mono ?_
    · have h2 := hm.afterT (hTF W hW)
      obtain ⟨rfl, _⟩ := hm
      exact ⟨rfl, h2⟩
    · rintro e w' ⟨rfl, hm⟩
      exact hm
  unfold ThenIs at hth
  unfold Rs.take
  cases hph : s.ph with
  | ask =>
    rw [hph] at hth
    obtain ⟨b, e, hb⟩ := hth
    exact fin _ e _ (by simp) (fun w => by simp [go_sem]) fun W hW => rpBegin1 (hbare W hW) (hb.keep (hkeep W hW)).2.2 hb.2.1 x.V x.D A l c
  | tail =>
    rw [hph] at hth
    obtain ⟨b, e, hb⟩ := hth
    exact fin _ e _ (by simp) (fun w => by simp [go_sem]) fun W hW => rpTry1 (hbare W hW) (hFW W hW) (hb.keep (hkeep W hW)).2.2 hb.2.1 x.V x.D A l c
  | head1 =>
    rw [hph] at hth
    obtain ⟨b1, b2, b3, on, e, h1, h2, h3, h4⟩ := hth
    exact fin _ e _ (by simp) (fun w => by simp [go_sem]) fun W hW => rpAwait1Tail (hbare W hW) (hFW W hW) (h1.keep (hkeep W hW)) (h2.keep (hkeep W hW)) (h3.keep (hkeep W hW)) (OnIs.keep h4 (hkeep W hW) fun _ hk => hk) x.V hx x.D A l c
  | head2 gap =>
    rw [hph] at hth
    obtain ⟨b1, b2, b3, on, e, h1, h2, h3, h4⟩ := hth
    exact fin _ e _ (by simp) (fun w => by simp [go_sem]) fun W hW => rpAwait1Gap (hbare W hW) (hFW W hW) gap (h1.keep (hkeep W hW)) (h2.keep (hkeep W hW)) (h3.keep (hkeep W hW)) (OnIs.keep h4 (hkeep W hW) fun _ hk => hk) x.V hx x.D A l c
  | copy1 =>
    rw [hph] at hth
    obtain ⟨b3, on, e, h3, h4⟩ := hth
    exact fin _ e _ (by simp) (fun w => by simp [go_sem]) fun W hW => rpAwait11Tail (hbare W hW) (hFW W hW) (h3.keep (hkeep W hW)) (OnIs.keep h4 (hkeep W hW) fun _ hk => hk) x.V x.D A l c
  | copy2 gap =>
    rw [hph] at hth
    obtain ⟨b3, on, e, h3, h4⟩ := hth
    exact fin _ e _ (by simp) (fun w => by simp [go_sem]) fun W hW => rpAwait11Gap (hbare W hW) gap (h3.keep (hkeep W hW)) (OnIs.keep h4 (hkeep W hW) fun _ hk => hk) x.V x.D A l c
  | cas pad =>
    rw [hph] at hth
    obtain ⟨b1, b2, e, h1, h2⟩ := hth
    refine fin _ e _ (by simp; rfl) (fun w => by simp [go_sem]) fun W hW => ?_
    cases hD : x.D with
    | false =>
      simp only [if_true]
      exact rpClaim1No (hbare W hW) (h1.keep (hkeep W hW)) x.V A l c
    | true =>
      by_cases hp : pad = 0
      · subst hp
        simp only [if_true]
        exact rpClaim1Yes (hbare W hW) (h1.keep (hkeep W hW)) (h2.keep (hkeep W hW)) x.V A l c
      · simp only [if_neg hp]
        exact rpClaim1Pad (hbare W hW) (h1.keep (hkeep W hW)) pad hp (h2.keep (hkeep W hW)) x.V A l c
  | padd pad =>
    rw [hph] at hth
    obtain ⟨b1, e, h1⟩ := hth
    exact fin _ e _ (by simp) (fun w => by simp [go_sem]) fun W hW => rpClaim11 (hbare W hW) (h1.keep (hkeep W hW)) x.V x.D A l c
  | hdr =>
    rw [hph] at hth
    obtain ⟨b1, b2, b3, e, h1⟩ := hth
    refine fin _ e _ (by simp) (fun w => by simp [go_sem]) fun W hW => (rpWrite1 (hbare W hW) (hFW W hW) (h1.keep (hkeep W hW) fun _ hk => hk) x.V x.D A l c).mono fun e w' hm => ?_
    by_cases hz : s.L = 0
    · have := hm.1
      rw [if_pos hz.symm] at this
      simp only [if_pos hz]
      exact this
    · have := hm.1
      rw [if_neg (fun e => hz e.symm)] at this
      simp only [if_neg hz]
      exact this
  | byt d =>
    rw [hph] at hth
    obtain ⟨em, es, eo, b1, b2, b3, gc, base, top, v, e, h1, h2, h3, h4, h5, h6, h7⟩ := hth
    refine fin _ e _ (by simp; rfl) (fun w => by simp [go_sem]) fun W hW => ?_
    have hT := hTF W hW
    obtain ⟨rfl, hav⟩ := hnx ⟨6, s.spot s.p + 8 + (d : Nat), (Cy.nx (s.L - d) : Nat), 0, 0, Mb.bl s.f d (Cy.nx (s.L - d))⟩ (by unfold Rs.next; rw [hph])
    obtain ⟨Av, cv, hav, _⟩ := hav
    subst hav
    have hblkW := hblk.below hW
    rw [e] at hblkW
    exact rpFollow1 (hbare W hW) (hFW W hW) (h1.keep (hkeep W hW)) (h2.keep (hkeep W hW)) (h3.keep (hkeep W hW)) (h4.keep (hkeep W hW) fun _ hk => hk) (h5.keep hT.size (fun k k1 k2 => hkeep W hW k (h6 k (.inl ⟨k1, k2⟩)).1 (h6 k (.inl ⟨k1, k2⟩)).2.1) fun k k1 => hkeep W hW k (h6 k (.inr k1)).1 (h6 k (.inr k1)).2.1) h6 h7 x.V x.D A l c
      (rp_bytes (k := 119) (rc := #[]) (caps := _) hblkW (hB.below hW) (seven_touch1 W g 5 _ _ _))
  | len =>
    rw [hph] at hth
    exact fin _ hth _ (by simp) (fun w => by simp [go_sem]) fun W hW => rpWrite111 (hbare W hW) x.V x.D A l c
  | fin =>
    rw [hph] at hth
    have e : th = .nilFunc := hth
    subst e
    refine (stTakeNo hblk.c11 x.V x.D A l c).mono ?_
    rintro e w' ⟨rfl, hb⟩
    refine ⟨rfl, F, ⟨Ad, Ld, cd, a, av, _, hblk.below hb, hFg, hok, htxt.below hb, hl, hc, ?_, fun b hb' => ?_⟩, Touch.of_below hb, fun k hk => .inl hk⟩
    · unfold ThenIs
      rw [hph]
    · unfold Rs.next at hb'
      rw [hph] at hb'
      cases hb'
end Go.Proofs.YtbfgbnalnjdheaaGreat
namespace Go.Proofs.YtbfgbnalnjdheaaGreat
open Go.RowKit

/-- A put: one that goes on, or one that never began (its ring's size, its fault). -/
inductive Pm where
  | live (s : Rs) | dead (Z er : Int)
namespace Pm
def next : Pm → Option Ac
  | .live s => s.next
  | .dead _ _ => none
def take : Pm → An → Pm
  | .live s, x => .live (s.take x)
  | .dead Z er, _ => .dead Z er
def busy : Pm → Bool
  | .live s => s.next.isSome
  | .dead _ _ => false
def size : Pm → Int
  | .live s => s.Z
  | .dead Z _ => Z
def fault : Pm → Int
  | .live s => s.er
  | .dead _ er => er
def pos : Pm → Int
  | .live s => s.p
  | .dead _ _ => 0
def has : Pm → Bool
  | .live s => s.cl
  | .dead _ _ => false
/-- How it ended: a position, an error. -/
def result (m : Pm) : Int × Int := if m.size = 0 then (0, 1) else if m.busy = true then (0, 10) else if m.fault = 0 then (m.pos, 0) else (0, m.fault)
end Pm

/-- The cells of a put that never began. -/
def PxCells (B Z er : Int) : Array Value :=
  #[.int .i64 B, .int .i64 Z, .int .i32 0, .slice none 0 0, .int .i64 0, .int .i64 0, .int .i64 0, .int .i64 0, .int .u64 0, .int .u64 0, .slice none 0 0, .nilFunc, .int .i64 0, .int .i64 0, .int .i64 0, .bool false, .int .i64 er]
/-- A put stands in the blocks F, its own block is g. -/
def PmAt (w : World) (F : Nat → Prop) (g : Nat) : Pm → Prop
  | .live s => PutAt w F g s
  | .dead Z er => F g ∧ ∃ B, w.heap[g]? = some (.cells (PxCells B Z er) 78 (0, 0))

/-- What a call on a put leaves. -/
def PmMoved (F : Nat → Prop) (g : Nat) (m : Pm) (w : World) (e : Ending) (w' : World) : Prop :=
  e = .returned (.tuple #[]) ∧ ∃ F', PmAt w' F' g m ∧ Touch F w w' ∧ ∀ k, F' k → F k ∨ (w.heap.size ≤ k ∧ k < w'.heap.size)

theorem PutAt.below {w w' : World} {F : Nat → Prop} {g : Nat} {s : Rs} (h : PutAt w F g s) (hs : w.heap.size ≤ w'.heap.size) (hb : ∀ k, F k → w'.heap[k]? = w.heap[k]?) : PutAt w' F g s := by
  obtain ⟨A, L, c, a, av, th, h1, h2, h3, h4, h5, h6, h7, h8⟩ := h
  have hg := hb g h2
  have hc : ∀ {a : Nat} {v : Value}, Capt w F g a v → Capt w' F g a v := fun h => h.keep fun k hk _ => hb k hk
  have ho : ∀ {o : Option Int} {v : Value}, OnIs w F g o v → OnIs w' F g o v := fun h => OnIs.keep h (fun k hk _ => hb k hk) fun _ hk => hk
  refine ⟨A, L, c, a, av, th, h1.of_block hg, h2, h3, h4.keep hs fun k hk _ => hb k hk.1, h5, h6, ?_, fun b hb' => ⟨(h8 b hb').1, (h8 b hb').2.keep hs fun k hk _ => hb k hk.1⟩⟩
  unfold ThenIs at h7 ⊢
  cases hph : s.ph with
  | ask => rw [hph] at h7; obtain ⟨a, e, h⟩ := h7; exact ⟨a, e, hc h⟩
  | tail => rw [hph] at h7; obtain ⟨a, e, h⟩ := h7; exact ⟨a, e, hc h⟩
  | head1 => rw [hph] at h7; obtain ⟨a, b, c, on, e, k1, k2, k3, k4⟩ := h7; exact ⟨a, b, c, on, e, hc k1, hc k2, hc k3, ho k4⟩
  | head2 gap => rw [hph] at h7; obtain ⟨a, b, c, on, e, k1, k2, k3, k4⟩ := h7; exact ⟨a, b, c, on, e, hc k1, hc k2, hc k3, ho k4⟩
  | copy1 => rw [hph] at h7; obtain ⟨c, on, e, k3, k4⟩ := h7; exact ⟨c, on, e, hc k3, ho k4⟩
  | copy2 gap => rw [hph] at h7; obtain ⟨c, on, e, k3, k4⟩ := h7; exact ⟨c, on, e, hc k3, ho k4⟩
  | cas pad => rw [hph] at h7; obtain ⟨a, b, e, k1, k2⟩ := h7; exact ⟨a, b, e, hc k1, hc k2⟩
  | padd pad => rw [hph] at h7; obtain ⟨a, e, k1⟩ := h7; exact ⟨a, e, hc k1⟩
  | hdr => rw [hph] at h7; obtain ⟨a, b, c, e, k1, k2, k3⟩ := h7; exact ⟨a, b, c, e, hc k1, hc k2, hc k3⟩
  | byt d =>
    rw [hph] at h7
    obtain ⟨em, es, eo, b1, b2, b3, gc, base, top, v, e, k1, k2, k3, ⟨k4, k5, k6⟩, k7, k8, k9⟩ := h7
    exact ⟨em, es, eo, b1, b2, b3, gc, base, top, v, e, hc k1, hc k2, hc k3, ⟨hc k4, hc k5, hc k6⟩, k7.keep hs (fun k x y => hb k (k8 k (.inl ⟨x, y⟩)).1) fun k x => hb k (k8 k (.inr x)).1, k8, k9⟩
  | len => rw [hph] at h7; exact h7
  | fin => rw [hph] at h7; exact h7

theorem PutAt.wide {w : World} {F F' : Nat → Prop} {g : Nat} {s : Rs} (h : PutAt w F g s) (hF : ∀ k, F k → F' k) : PutAt w F' g s := by
  obtain ⟨A, L, c, a, av, th, h1, h2, h3, h4, h5, h6, h7, h8⟩ := h
  have hc : ∀ {a : Nat} {v : Value}, Capt w F g a v → Capt w F' g a v := fun h => h.mono hF
  have ho : ∀ {o : Option Int} {v : Value}, OnIs w F g o v → OnIs w F' g o v := fun h => OnIs.keep h (fun k hk _ => rfl) hF
  refine ⟨A, L, c, a, av, th, h1, hF g h2, h3, h4.mono fun k hk _ => ⟨hF k hk.1, hk.2⟩, h5, h6, ?_, fun b hb' => ⟨(h8 b hb').1, (h8 b hb').2.mono fun k hk _ => ⟨hF k hk.1, hk.2⟩⟩⟩
  unfold ThenIs at h7 ⊢
  cases hph : s.ph with
  | ask => rw [hph] at h7; obtain ⟨a, e, h⟩ := h7; exact ⟨a, e, hc h⟩
  | tail => rw [hph] at h7; obtain ⟨a, e, h⟩ := h7; exact ⟨a, e, hc h⟩
  | head1 => rw [hph] at h7; obtain ⟨a, b, c, on, e, k1, k2, k3, k4⟩ := h7; exact ⟨a, b, c, on, e, hc k1, hc k2, hc k3, ho k4⟩
  | head2 gap => rw [hph] at h7; obtain ⟨a, b, c, on, e, k1, k2, k3, k4⟩ := h7; exact ⟨a, b, c, on, e, hc k1, hc k2, hc k3, ho k4⟩
  | copy1 => rw [hph] at h7; obtain ⟨c, on, e, k3, k4⟩ := h7; exact ⟨c, on, e, hc k3, ho k4⟩
  | copy2 gap => rw [hph] at h7; obtain ⟨c, on, e, k3, k4⟩ := h7; exact ⟨c, on, e, hc k3, ho k4⟩
  | cas pad => rw [hph] at h7; obtain ⟨a, b, e, k1, k2⟩ := h7; exact ⟨a, b, e, hc k1, hc k2⟩
  | padd pad => rw [hph] at h7; obtain ⟨a, e, k1⟩ := h7; exact ⟨a, e, hc k1⟩
  | hdr => rw [hph] at h7; obtain ⟨a, b, c, e, k1, k2, k3⟩ := h7; exact ⟨a, b, c, e, hc k1, hc k2, hc k3⟩
  | byt d =>
    rw [hph] at h7
    obtain ⟨em, es, eo, b1, b2, b3, gc, base, top, v, e, k1, k2, k3, ⟨k4, k5, k6⟩, k7, k8, k9⟩ := h7
    exact ⟨em, es, eo, b1, b2, b3, gc, base, top, v, e, hc k1, hc k2, hc k3, ⟨hc k4, hc k5, hc k6⟩, k7, fun k hk => ⟨hF k (k8 k hk).1, (k8 k hk).2⟩, k9⟩
  | len => rw [hph] at h7; exact h7
  | fin => rw [hph] at h7; exact h7

theorem PmAt.keep {w w' : World} {F : Nat → Prop} {g : Nat} {m : Pm} (h : PmAt w F g m) (hs : w.heap.size ≤ w'.heap.size) (hb : ∀ k, F k → w'.heap[k]? = w.heap[k]?) : PmAt w' F g m := by
  cases m with
  | live s => exact PutAt.below h hs hb
  | dead Z er =>
    obtain ⟨h1, B, h2⟩ := h
    exact ⟨h1, B, (hb g h1).trans h2⟩
theorem PmAt.wide {w : World} {F F' : Nat → Prop} {g : Nat} {m : Pm} (h : PmAt w F g m) (hF : ∀ k, F k → F' k) : PmAt w F' g m := by
  cases m with
  | live s => exact PutAt.wide h hF
  | dead Z er =>
    obtain ⟨h1, B, h2⟩ := h
    exact ⟨hF g h1, B, h2⟩

/-- Something goes on where, and only where, there is a next access. -/
theorem PutAt.thenIs {w : World} {F : Nat → Prop} {g : Nat} {s : Rs} {dv th : Value} (h : ThenIs w F g s dv th) : (s.next = none ∧ th = .nilFunc) ∨ (s.next ≠ none ∧ ∃ k rc caps, th = .func (.func k) rc caps) := by
  unfold ThenIs at h
  unfold Rs.next
  cases hph : s.ph with
  | fin => rw [hph] at h; exact .inl ⟨rfl, h⟩
  | len => rw [hph] at h; exact .inr ⟨by simp, _, _, _, h⟩
  | ask => rw [hph] at h; obtain ⟨_, e, _⟩ := h; exact .inr ⟨by simp, _, _, _, e⟩
  | tail => rw [hph] at h; obtain ⟨_, e, _⟩ := h; exact .inr ⟨by simp, _, _, _, e⟩
  | head1 => rw [hph] at h; obtain ⟨_, _, _, _, e, _⟩ := h; exact .inr ⟨by simp, _, _, _, e⟩
  | head2 gap => rw [hph] at h; obtain ⟨_, _, _, _, e, _⟩ := h; exact .inr ⟨by simp, _, _, _, e⟩
  | copy1 => rw [hph] at h; obtain ⟨_, _, e, _⟩ := h; exact .inr ⟨by simp, _, _, _, e⟩
  | copy2 gap => rw [hph] at h; obtain ⟨_, _, e, _⟩ := h; exact .inr ⟨by simp, _, _, _, e⟩
  | cas pad => rw [hph] at h; obtain ⟨_, _, e, _⟩ := h; exact .inr ⟨by simp, _, _, _, e⟩
  | padd pad => rw [hph] at h; obtain ⟨_, e, _⟩ := h; exact .inr ⟨by simp, _, _, _, e⟩
  | hdr => rw [hph] at h; obtain ⟨_, _, _, e, _⟩ := h; exact .inr ⟨by simp, _, _, _, e⟩
  | byt d => rw [hph] at h; obtain ⟨_, _, _, _, _, _, _, _, _, _, e, _⟩ := h; exact .inr ⟨by simp, _, _, _, e⟩
end Go.Proofs.YtbfgbnalnjdheaaGreat
namespace Go.Proofs.YtbfgbnalnjdheaaGreat
open Go.RowKit

namespace PxCells
variable {w : World} {g : Nat} {B Z er : Int}
theorem st (h : w.heap[g]? = some (.cells (PxCells B Z er) 78 (0, 0))) : w.cell? ⟨g, 11, none⟩ = some .nilFunc := by simp [World.cell?, h, PxCells]
end PxCells

theorem rp_ans_box (w : World) (V : Nat) (D : Bool) (A : Option Addr) (l c : Nat) :
    (w.alloc (.cells #[.int .u64 V, .bool D, .slice A l c] 50)).cell? ⟨w.heap.size, 0, none⟩ = some (.int .u64 V) ∧
    (w.alloc (.cells #[.int .u64 V, .bool D, .slice A l c] 50)).cell? ⟨w.heap.size, 1, none⟩ = some (.bool D) ∧
    (w.alloc (.cells #[.int .u64 V, .bool D, .slice A l c] 50)).cell? ⟨w.heap.size, 2, none⟩ = some (.slice A l c) := by
  have h := Go.Deep.blk_alloc_new w (.cells #[.int .u64 V, .bool D, .slice A l c] 50)
  refine ⟨?_, ?_, ?_⟩ <;> (unfold World.cell?; simp only [h]; rfl)

set_option maxRecDepth 100000 in
set_option maxHeartbeats 800000 in
theorem putTakeNil (V : Nat) (D : Bool) (A : Option Addr) (l c : Nat) (w : World) :
    Calls Tryz.prog 16 #[.pointer none, .agg #[.int .u64 V, .bool D, .slice A l c]] w (Made (.tuple #[]) w) := by
  have HW := Lib.hid ((Below.refl w.heap.size w).alloc (Nat.le_refl _) (.cells #[.int .u64 V, .bool D, .slice A l c] 50))
  go_enter Tryz.func16, Tryz.ntmps16
  go_upto_region 1 with (fail)
  generalize w.alloc (.cells #[.int .u64 V, .bool D, .slice A l c] 50) = W at HW ⊢
  go_wp2
  go_end0
  exact ⟨rfl, HW.out⟩

set_option maxRecDepth 100000 in
set_option maxHeartbeats 800000 in
theorem putTake {w : World} {F : Nat → Prop} {g : Nat} {m : Pm} (h : PmAt w F g m) (hF : ∀ k, F k → k < w.heap.size) (x : An) (hx : x.V < 18446744073709551616) (A : Option Addr) (l c : Nat) (hB : BytesAt w (.slice A l c) x.bs) :
    Calls Tryz.prog 16 #[.pointer (some ⟨g, 0, none⟩), .agg #[.int .u64 x.V, .bool x.D, .slice A l c]] w (PmMoved F g (m.take x) w) := by
  have hb0 := (Below.refl w.heap.size w).alloc (Nat.le_refl _) (.cells #[.int .u64 x.V, .bool x.D, .slice A l c] 50)
  obtain ⟨x0, x1, x2⟩ := rp_ans_box w x.V x.D A l c
  have HW := Lib.hid hb0
  have HC : Hid (∀ W, Below w.heap.size w W → Calls Tryz.prog 36 #[.pointer (some ⟨g, 5, none⟩), .agg #[.int .u64 x.V, .bool x.D, .slice A l c]] W (PmMoved F g (m.take x) W)) := Lib.hid fun W hW => by
    have hk := h.keep hW.size fun k hk => hW.block k (hF k hk)
    cases m with
    | live s => exact (rpStepsTake hk (fun k hk => Nat.lt_of_lt_of_le (hF k hk) hW.size) x hx A l c (hB.below hW)).mono fun e w' hm => hm
    | dead Z er =>
      obtain ⟨h1, B, h2⟩ := hk
      refine (stTakeNo (PxCells.st h2) x.V x.D A l c).mono ?_
      rintro e w' ⟨rfl, hb⟩
      exact ⟨rfl, F, ⟨h1, B, (hb.block g (Nat.lt_of_lt_of_le (hF g h1) hW.size)).trans h2⟩, Touch.of_below hb, fun k hk => .inl hk⟩
  have hnF : ¬ F w.heap.size := fun e => Nat.lt_irrefl _ (hF _ e)
  clear h hF hB hb0
  go_enter Tryz.func16, Tryz.ntmps16
  go_upto_region 1 with (fail)
  generalize w.alloc (.cells #[.int .u64 x.V, .bool x.D, .slice A l c] 50) = W at HW x0 x1 x2 ⊢
  go_upto_region 2 with (fail)
  go_region_held3 (fun w' => w'.cell? ⟨w.heap.size, 0, none⟩ = some (.int .u64 x.V) ∧ w'.cell? ⟨w.heap.size, 1, none⟩ = some (.bool x.D) ∧ w'.cell? ⟨w.heap.size, 2, none⟩ = some (.slice A l c)) (go_keep)
    (first | (go_at_call 36; refine (HC.out W.drew HW.out.drew).mono ?_; intro e w3 hm; have HM := Lib.hid hm; obtain ⟨rfl, F', hp, ht, hF'⟩ := hm; have y0 := (ht.cell (p := ⟨w.heap.size, 0, none⟩) (lt_of_cell x0) hnF).trans x0; have y1 := (ht.cell (p := ⟨w.heap.size, 1, none⟩) (lt_of_cell x0) hnF).trans x1; have y2 := (ht.cell (p := ⟨w.heap.size, 2, none⟩) (lt_of_cell x0) hnF).trans x2))
  all_goals
    go_wp2
    go_end0
    exact ⟨rfl, F', hp, (Touch.of_below HW.out.drew).trans ht, fun k hk => (hF' k hk).imp id fun h => ⟨Nat.le_trans HW.out.size h.1, h.2⟩⟩

set_option maxRecDepth 100000 in
set_option maxHeartbeats 800000 in
theorem putNextNil (w : World) : Calls Tryz.prog 20 #[.pointer none] w (NextTold none w) := by
  have HA := AccNew.made w
  have HW := Lib.hid ((Below.refl w.heap.size w).alloc (Nat.le_refl _) (.cells #[.int .i64 0, .int .i64 0, .int .i64 0, .int .u64 0, .int .u64 0, .slice none 0 0] 58))
  go_enter Tryz.func20, Tryz.ntmps20
  go_upto_region 1 with (fail)
  generalize w.alloc (.cells #[.int .i64 0, .int .i64 0, .int .i64 0, .int .u64 0, .int .u64 0, .slice none 0 0] 58) = W at HA HW ⊢
  obtain ⟨a0, a1, a2, a3, a4, a5, f0, f1, f2, f3, f4, f5, hbk⟩ := HA
  go_wp2
  refine bodyPost_ret (v := .tuple #[.agg #[.int .i64 0, .int .i64 0, .int .i64 0, .int .u64 0, .int .u64 0, .slice none 0 0], .bool false]) (by simp [results, Tryz.results20, go_sem, a0, a1, a2, a3, a4, a5]) rfl ?_
  exact ⟨six_below HW.out (Nat.le_refl _) _ _ _ _ _ _, rfl⟩

theorem Pm.fine {w : World} {F : Nat → Prop} {g : Nat} {m : Pm} (h : PmAt w F g m) {a : Ac} (ha : m.next = some a) : a.Fine := by
  cases m with
  | dead Z er => cases ha
  | live s =>
    obtain ⟨A, L, c, a0, av, th, h1, h2, ok, h4, h5, h6, h7, h8⟩ := h
    obtain ⟨hp0, hz0, hz1, hb0, hb1, ht0, ht1, hfew, hB, hh, htl, hps⟩ := ok
    have okr : Rg.Ok s.B s.Z := ⟨hp0, hz0, hz1, hb0, hb1⟩
    have un_lt : ∀ y : Int, Rs.un y < 18446744073709551616 := fun y => by unfold Rs.un; omega
    have jn_lt : ∀ x y : Int, (Hd.jn x y).toNat < 18446744073709551616 := fun x y => by have := Hd.jn_bounds x y; omega
    have num : ∀ k : Int, 0 ≤ k → k ≤ 16 → -9223372036854775808 ≤ s.num k ∧ s.num k ≤ 9223372036854775807 := fun k _ _ => by unfold Rs.num Rg.num; omega
    have spot : ∀ v : Int, 0 ≤ s.spot v ∧ s.spot v ≤ 140000 := fun v => by have := okr.place_in v; unfold Rs.spot Rg.spot; omega
    have mk : ∀ (K P N : Int) (V U : Nat), (0 ≤ K ∧ K ≤ 8) → (-9223372036854775808 ≤ P ∧ P ≤ 9223372036854775807) → (0 ≤ N ∧ N ≤ 8) → V < 18446744073709551616 → U < 18446744073709551616 → Ac.Fine ⟨K, P, N, V, U, []⟩ := fun K P N V U h1 h2 h3 h4 h5 => ⟨h4, h5, ⟨by show _ ≤ K; omega, by show K ≤ _; omega⟩, h2, ⟨by show _ ≤ N; omega, by show N ≤ _; omega⟩, Bys.nil, by show (0 : Nat) ≤ _; omega⟩
    have ha' : s.next = some a := ha
    unfold Rs.next at ha'
    unfold ThenIs at h7
    cases hph : s.ph with
    | fin => rw [hph] at ha'; cases ha'
    | ask => rw [hph] at ha'; injection ha' with e; subst e; exact mk _ _ _ _ _ (by omega) (num _ (by omega) (by omega)) (by omega) (by omega) (by omega)
    | tail => rw [hph] at ha'; injection ha' with e; subst e; exact mk _ _ _ _ _ (by omega) (num _ (by omega) (by omega)) (by omega) (by omega) (by omega)
    | head1 => rw [hph] at ha'; injection ha' with e; subst e; exact mk _ _ _ _ _ (by omega) (num _ (by omega) (by omega)) (by omega) (by omega) (by omega)
    | head2 gap => rw [hph] at ha'; injection ha' with e; subst e; exact mk _ _ _ _ _ (by omega) (num _ (by omega) (by omega)) (by omega) (by omega) (by omega)
    | copy1 => rw [hph] at ha'; injection ha' with e; subst e; exact mk _ _ _ _ _ (by omega) (num _ (by omega) (by omega)) (by omega) (un_lt _) (by omega)
    | copy2 gap => rw [hph] at ha'; injection ha' with e; subst e; exact mk _ _ _ _ _ (by omega) (num _ (by omega) (by omega)) (by omega) (un_lt _) (by omega)
    | cas pad => rw [hph] at ha'; injection ha' with e; subst e; exact mk _ _ _ _ _ (by omega) (num _ (by omega) (by omega)) (by omega) (un_lt _) (un_lt _)
    | padd pad => rw [hph] at ha'; injection ha' with e; subst e; have := spot s.t; exact mk _ _ _ _ _ (by omega) (by omega) (by omega) (jn_lt _ _) (by omega)
    | hdr => rw [hph] at ha'; injection ha' with e; subst e; have := spot s.p; exact mk _ _ _ _ _ (by omega) (by omega) (by omega) (jn_lt _ _) (by omega)
    | len => rw [hph] at ha'; injection ha' with e; subst e; have := spot s.p; exact mk _ _ _ _ _ (by omega) (by omega) (by omega) (by omega) (by omega)
    | byt d =>
      rw [hph] at ha' h7
      obtain ⟨_, _, _, _, _, _, _, _, _, _, _, _, _, _, _, _, _, hdl⟩ := h7
      injection ha' with e
      subst e
      have := spot s.p
      have hn := Cy.nx_le (s.L - d)
      refine ⟨by show (0 : Nat) < _; omega, by show (0 : Nat) < _; omega, ⟨by show _ ≤ (6 : Int); omega, by show (6 : Int) ≤ _; omega⟩, ?_, ?_, Bys.bl hB _ _, ?_⟩
      · show _ ≤ s.spot s.p + 8 + (d : Int) ∧ s.spot s.p + 8 + (d : Int) ≤ _
        omega
      · show _ ≤ ((Cy.nx (s.L - d) : Nat) : Int) ∧ ((Cy.nx (s.L - d) : Nat) : Int) ≤ _
        omega
      · show (Mb.bl s.f d (Cy.nx (s.L - d))).length ≤ _
        rw [Mb.bl_length]
        omega

set_option maxRecDepth 100000 in
set_option maxHeartbeats 800000 in
theorem putNext {w : World} {F : Nat → Prop} {g : Nat} {m : Pm} (h : PmAt w F g m) (hF : ∀ k, F k → k < w.heap.size) :
    Calls Tryz.prog 20 #[.pointer (some ⟨g, 0, none⟩)] w (NextTold m.next w) := by
  have HA := Lib.hid (AccNew.made w)
  have HW := Lib.hid ((Below.refl w.heap.size w).alloc (Nat.le_refl _) (.cells #[.int .i64 0, .int .i64 0, .int .i64 0, .int .u64 0, .int .u64 0, .slice none 0 0] 58))
  have HC : Hid (∀ W, Below w.heap.size w W → Calls Tryz.prog 42 #[.pointer (some ⟨g, 5, none⟩)] W (NextTold m.next W)) := Lib.hid fun W hW => by
    have hk := h.keep hW.size fun k hk => hW.block k (hF k hk)
    have hfine := fun a (ha : m.next = some a) => Pm.fine hk ha
    cases m with
    | live s =>
      obtain ⟨A, L, c, a, av, th, h1, h2, h3, h4, h5, h6, h7, h8⟩ := hk
      show Calls _ _ _ _ (NextTold s.next W)
      rcases PutAt.thenIs h7 with ⟨e1, e2⟩ | ⟨e1, k, rc, caps, e2⟩
      · rw [e1]
        have := h1.c11
        rw [e2] at this
        exact stNextNo this
      · cases hn : s.next with
        | none => exact absurd hn e1
        | some b =>
          obtain ⟨rfl, hb⟩ := h8 b hn
          have hby := hb.bytes
          obtain ⟨A2, c2, hav, _⟩ := hb
          subst hav e2
          exact stNextYes h1.st hby (hfine a hn).few
    | dead Z er =>
      obtain ⟨_, B, h2⟩ := hk
      exact stNextNo (PxCells.st h2)
  generalize m.next = o at HC ⊢
  clear h hF
  go_enter Tryz.func20, Tryz.ntmps20
  go_upto_region 1 with (fail)
  generalize w.alloc (.cells #[.int .i64 0, .int .i64 0, .int .i64 0, .int .u64 0, .int .u64 0, .slice none 0 0] 58) = W at HA HW ⊢
  cases o with
  | none =>
    go_wp2_with (go_at_call 42; refine (HC.out W HW.out).mono ?_; rintro e w2 ⟨hb, rfl⟩; obtain ⟨a0, a1, a2, a3, a4, a5, f0, f1, f2, f3, f4, f5, hbk⟩ := HA.out.later hb)
    refine bodyPost_ret (v := .tuple #[.agg #[.int .i64 0, .int .i64 0, .int .i64 0, .int .u64 0, .int .u64 0, .slice none 0 0], .bool false]) (by simp [results, Tryz.results20, go_sem, a0, a1, a2, a3, a4, a5]) rfl ?_
    exact ⟨six_below (HW.out.trans (hb.mono HW.out.size)) (Nat.le_refl _) _ _ _ _ _ _, rfl⟩
  | some a =>
    go_wp2_with (go_at_call 42; refine (HC.out W HW.out).mono ?_; rintro e w2 ⟨hb, A, l, c, rfl, ho⟩; obtain ⟨a0, a1, a2, a3, a4, a5, f0, f1, f2, f3, f4, f5, hbk⟩ := HA.out.later hb; have HO := Lib.hid ho)
    refine bodyPost_ret (v := .tuple #[.agg #[.int .i64 a.K, .int .i64 a.P, .int .i64 a.N, .int .u64 a.V, .int .u64 a.U, .slice A l c], .bool true]) (by simp [results, Tryz.results20, go_sem, a0, a1, a2, a3, a4, a5]) rfl ?_
    exact ⟨six_below (HW.out.trans (hb.mono HW.out.size)) (Nat.le_refl _) _ _ _ _ _ _, A, l, c, rfl, (six_own HO.out (Array.getElem?_eq_some_iff.1 HA.out.blk).1 _ _ _ _ _ _).down HW.out.size⟩

set_option maxRecDepth 100000 in
theorem putAtNil (w : World) : Calls Tryz.prog 34 #[.pointer none] w (fun e w' => e = .returned (.tuple #[.int .i64 0, .bool false]) ∧ w = w') := by
  go_enter Tryz.func34, Tryz.ntmps34
  go_wp2
  refine bodyPost_ret (v := .tuple #[.int .i64 0, .bool false]) (by simp [results, Tryz.results34, go_sem]) rfl ?_
  exact ⟨rfl, rfl⟩

set_option maxRecDepth 100000 in
theorem putAt {w : World} {F : Nat → Prop} {g : Nat} {m : Pm} (h : PmAt w F g m) : Calls Tryz.prog 34 #[.pointer (some ⟨g, 0, none⟩)] w (fun e w' => e = .returned (.tuple #[.int .i64 m.pos, .bool m.has]) ∧ ∃ j, w' = w.drewN j) := by
  have hc : w.cell? ⟨g, 14, none⟩ = some (.int .i64 m.pos) ∧ w.cell? ⟨g, 15, none⟩ = some (.bool m.has) := by
    cases m with
    | live s =>
      obtain ⟨A, L, c, a, av, th, h1, _⟩ := h
      exact ⟨h1.c14, h1.c15⟩
    | dead Z er =>
      obtain ⟨_, B, h2⟩ := h
      exact ⟨by simp [World.cell?, h2, PxCells, Pm.pos], by simp [World.cell?, h2, PxCells, Pm.has]⟩
  obtain ⟨c14, c15⟩ := hc
  generalize m.pos = p at c14 ⊢
  generalize m.has = b at c15 ⊢
  clear h
  go_enter Tryz.func34, Tryz.ntmps34
  go_upto_region 3 with (fail)
  go_quiet (fail)
  go_wp2
  refine bodyPost_ret (v := .tuple #[.int .i64 p, .bool b]) (by simp [results, Tryz.results34, go_sem]) rfl ?_
  exact ⟨rfl, _, rfl⟩

set_option maxRecDepth 100000 in
theorem putResultNil (w : World) : Calls Tryz.prog 11 #[.pointer none] w (fun e w' => e = .returned (.tuple #[.int .i64 0, .int .i64 1]) ∧ w = w') := by
  go_enter Tryz.func11, Tryz.ntmps11
  go_wp2
  refine bodyPost_ret (v := .tuple #[.int .i64 0, .int .i64 1]) (by simp [results, Tryz.results11, go_sem]) rfl ?_
  exact ⟨rfl, rfl⟩

set_option maxRecDepth 100000 in
set_option maxHeartbeats 800000 in
theorem putResult {w : World} {F : Nat → Prop} {g : Nat} {m : Pm} (h : PmAt w F g m) : Calls Tryz.prog 11 #[.pointer (some ⟨g, 0, none⟩)] w (fun e w' => e = .returned (.tuple #[.int .i64 m.result.1, .int .i64 m.result.2]) ∧ ∃ j, w' = w.drewN j) := by
  have hc : w.cell? ⟨g, 1, none⟩ = some (.int .i64 m.size) ∧ w.cell? ⟨g, 14, none⟩ = some (.int .i64 m.pos) ∧ w.cell? ⟨g, 16, none⟩ = some (.int .i64 m.fault) ∧
      Calls Tryz.prog 27 #[.pointer (some ⟨g, 5, none⟩)] w (fun e w' => e = .returned (.bool m.busy) ∧ w = w') := by
    cases m with
    | live s =>
      obtain ⟨A, L, c, a, av, th, h1, _, _, _, _, _, h7, _⟩ := h
      refine ⟨h1.c1, h1.c14, h1.c16, ?_⟩
      rcases PutAt.thenIs h7 with ⟨e1, e2⟩ | ⟨e1, k, rc, caps, e2⟩
      · have h11 := h1.c11
        rw [e2] at h11
        have hb : (Pm.live s).busy = false := by show s.next.isSome = false; rw [e1]; rfl
        rw [hb]
        exact stBusyNo h11
      · have h11 := h1.c11
        rw [e2] at h11
        have hb : (Pm.live s).busy = true := by
          show s.next.isSome = true
          cases hn : s.next with
          | none => exact absurd hn e1
          | some b => rfl
        rw [hb]
        exact stBusyYes k rc caps h11
    | dead Z er =>
      obtain ⟨_, B, h2⟩ := h
      exact ⟨by simp [World.cell?, h2, PxCells, Pm.size], by simp [World.cell?, h2, PxCells, Pm.pos], by simp [World.cell?, h2, PxCells, Pm.fault], stBusyNo (PxCells.st h2)⟩
  obtain ⟨c1, c14, c16, hB⟩ := hc
  unfold Pm.result
  generalize m.size = Z at c1 ⊢
  generalize m.pos = p at c14 ⊢
  generalize m.fault = er at c16 ⊢
  generalize m.busy = bs at hB ⊢
  have HB := Lib.hid hB
  clear h hB
  by_cases hz : Z = 0
  · subst hz
    rw [if_pos rfl]
    go_enter Tryz.func11, Tryz.ntmps11
    go_wp2
    refine bodyPost_ret (v := .tuple #[.int .i64 0, .int .i64 1]) (by simp [results, Tryz.results11, go_sem]) rfl ?_
    exact ⟨rfl, 0, rfl⟩
  · rw [if_neg hz]
    have hd : decide (Z = 0) = false := by simpa using hz
    cases bs with
    | true =>
      rw [if_pos rfl]
      go_enter Tryz.func11, Tryz.ntmps11
      go_wp2_with (go_at_call 27; refine HB.out.mono ?_; rintro e w2 ⟨rfl, rfl⟩)
      refine bodyPost_ret (v := .tuple #[.int .i64 0, .int .i64 10]) (by simp [results, Tryz.results11, go_sem]) rfl ?_
      exact ⟨rfl, 0, rfl⟩
    | false =>
      rw [if_neg (by decide)]
      by_cases he : er = 0
      · subst he
        rw [if_pos rfl]
        go_enter Tryz.func11, Tryz.ntmps11
        go_wp2_with (go_at_call 27; refine HB.out.mono ?_; rintro e w2 ⟨rfl, rfl⟩)
        refine bodyPost_ret (v := .tuple #[.int .i64 p, .int .i64 0]) (by simp [results, Tryz.results11, go_sem]) rfl ?_
        exact ⟨rfl, 0, rfl⟩
      · rw [if_neg he]
        have hd2 : decide (er = 0) = false := by simpa using he
        go_enter Tryz.func11, Tryz.ntmps11
        go_upto_region 6 with (go_at_call 27; refine HB.out.mono ?_; rintro e w2 ⟨rfl, rfl⟩)
        go_quiet (fail)
        go_wp2
        refine bodyPost_ret (v := .tuple #[.int .i64 0, .int .i64 er]) (by simp [results, Tryz.results11, go_sem]) rfl ?_
        exact ⟨rfl, _, rfl⟩
end Go.Proofs.YtbfgbnalnjdheaaGreat
namespace Go.Proofs.YtbfgbnalnjdheaaGreat
open Go.RowKit

/-- A machine: none, a copy, or what else this seat reaches. -/
inductive Mc where
  | none
  | copy (kd : Kd) (d r : Nat) (ys : List Int)
  | put (m : Pm)

/-- What a copy writes are bytes. -/
def Kd.Okay : Kd → Prop
  | .wr _ f => Mb.IsB f
  | _ => True

theorem Kd.bytes_bys {kd : Kd} (h : kd.Okay) (d c : Nat) : Bys (kd.bytes d c) := by
  cases kd with
  | wr a f => exact Bys.bl h d c
  | ze a => exact Bys.bl (m := fun _ => 0) Mb.zero_isB d c
  | rd a => exact Bys.nil

theorem Kd.bytes_few (kd : Kd) (d c : Nat) : (kd.bytes d c).length ≤ c := by
  cases kd with
  | wr a f => exact Nat.le_of_eq (Mb.bl_length _ _ _)
  | ze a => simp [Kd.bytes, Mb.bl]
  | rd a => exact Nat.zero_le _

namespace Mc
/-- The next access. -/
def next : Mc → Option Ac
  | .none => .none
  | .copy kd d r _ => if r = 0 then .none else some ⟨kd.kind, kd.place + d, Cy.nx r, 0, 0, kd.bytes d (Cy.nx r)⟩
  | .put m => m.next
/-- An answer is taken. -/
def take : Mc → An → Mc
  | .none, _ => .none
  | .copy kd d r ys, x => if r = 0 then .copy kd d r ys else .copy kd (d + Cy.nx r) (r - Cy.nx r) (ys ++ if kd.reads then x.bs else [])
  | .put m, x => .put (m.take x)
/-- The clock is told. -/
def tick (s : Mc) (_ : Int) : Mc := s
theorem next_copy (kd : Kd) (d r : Nat) (ys : List Int) : (Mc.copy kd d r ys).next = if r = 0 then .none else some ⟨kd.kind, kd.place + d, Cy.nx r, 0, 0, kd.bytes d (Cy.nx r)⟩ := rfl
theorem take_copy (kd : Kd) (d r : Nat) (ys : List Int) (x : An) : (Mc.copy kd d r ys).take x = if r = 0 then .copy kd d r ys else .copy kd (d + Cy.nx r) (r - Cy.nx r) (ys ++ if kd.reads then x.bs else []) := rfl
end Mc

/-- A machine stands in the blocks F; x is the interface's value. -/
def MRep (w : World) (F : Nat → Prop) (x : Value) : Mc → Prop
  | .none => x = .nilIface
  | .copy kd d r ys => ∃ base top g v, x = .iface 168 (.pointer (some ⟨g, 0, none⟩)) ∧ Cp w base top g kd d r v ys ∧ (∀ k, base ≤ k → k < top → F k) ∧ (∀ k, v.ownBlock = some k → F k) ∧ kd.Okay ∧ ys.length ≤ 8 * d
  | .put m => ∃ g, x = .iface 31 (.pointer (some ⟨g, 0, none⟩)) ∧ PmAt w F g m

namespace MRep
variable {w w' : World} {F F' : Nat → Prop} {x : Value} {s : Mc}
theorem keep (h : MRep w F x s) (hs : w.heap.size ≤ w'.heap.size) (hb : ∀ k, F k → w'.heap[k]? = w.heap[k]?) : MRep w' F x s := by
  cases s with
  | none => exact h
  | copy kd d r ys =>
    obtain ⟨base, top, g, v, e, hc, h1, h2, h3, h4⟩ := h
    exact ⟨base, top, g, v, e, hc.keep hs (fun k a b => hb k (h1 k a b)) (fun k hk => hb k (h2 k hk)), h1, h2, h3, h4⟩
  | put m =>
    obtain ⟨g, e, h1⟩ := h
    exact ⟨g, e, h1.keep hs hb⟩
theorem mono (h : MRep w F x s) (hF : ∀ k, F k → F' k) : MRep w F' x s := by
  cases s with
  | none => exact h
  | copy kd d r ys =>
    obtain ⟨base, top, g, v, e, hc, h1, h2, h3, h4⟩ := h
    exact ⟨base, top, g, v, e, hc, fun k a b => hF k (h1 k a b), fun k hk => hF k (h2 k hk), h3, h4⟩
  | put m =>
    obtain ⟨g, e, h1⟩ := h
    exact ⟨g, e, h1.wide hF⟩
/-- No machine, or an interface's value. -/
theorem shape (h : MRep w F x s) : (x = .nilIface ∧ s = .none) ∨ ∃ T y, x = .iface T y := by
  cases s with
  | none => exact .inl ⟨h, rfl⟩
  | copy kd d r ys =>
    obtain ⟨_, _, _, _, e, _⟩ := h
    exact .inr ⟨_, _, e⟩
  | put m =>
    obtain ⟨_, e, _⟩ := h
    exact .inr ⟨_, _, e⟩
/-- What a machine asks for is an access. -/
theorem fine (h : MRep w F x s) {a : Ac} (ha : s.next = some a) : a.Fine := by
  cases s with
  | none => cases ha
  | copy kd d r ys =>
    obtain ⟨base, top, g, v, e, hc, h1, h2, h3, h4⟩ := h
    rw [Mc.next_copy] at ha
    by_cases hr : r = 0
    · rw [if_pos hr] at ha; cases ha
    · rw [if_neg hr] at ha
      injection ha with ha
      subst ha
      have hn := Cy.nx_le r
      have hf := hc.few
      have hp := hc.near
      have hb := kd.bytes_few d (Cy.nx r)
      refine ⟨by show (0:Nat) < _; decide, by show (0:Nat) < _; decide, ?_, ?_, ?_, Kd.bytes_bys h3 _ _, ?_⟩
      · show _ ≤ kd.kind ∧ kd.kind ≤ _
        cases kd <;> (simp [Kd.kind])
      · show _ ≤ kd.place + (d : Int) ∧ kd.place + (d : Int) ≤ _
        omega
      · show _ ≤ ((Cy.nx r : Nat) : Int) ∧ ((Cy.nx r : Nat) : Int) ≤ _
        omega
      · show (kd.bytes d (Cy.nx r)).length ≤ _
        omega
  | put m =>
    obtain ⟨g, _, h1⟩ := h
    exact Pm.fine h1 ha
end MRep

theorem method_next_put0 (n : Nat) (g : Nat) (w : World) : (method (n + 100) 31 (.pointer (some ⟨g, 0, none⟩)) "Next").run Tryz.prog w = .ok (20, .pointer (some ⟨g, 0, none⟩)) w := by kernel_rfl

theorem method_next_put (g F : Nat) (w : World) (h : 100 ≤ F) : (method F 31 (.pointer (some ⟨g, 0, none⟩)) "Next").run Tryz.prog w = .ok (20, .pointer (some ⟨g, 0, none⟩)) w := by
  obtain ⟨n, rfl⟩ : ∃ n, F = n + 100 := ⟨F - 100, by omega⟩
  exact method_next_put0 n g w

theorem method_take_put0 (n : Nat) (g : Nat) (w : World) : (method (n + 100) 31 (.pointer (some ⟨g, 0, none⟩)) "Take").run Tryz.prog w = .ok (16, .pointer (some ⟨g, 0, none⟩)) w := by kernel_rfl

theorem method_take_put (g F : Nat) (w : World) (h : 100 ≤ F) : (method F 31 (.pointer (some ⟨g, 0, none⟩)) "Take").run Tryz.prog w = .ok (16, .pointer (some ⟨g, 0, none⟩)) w := by
  obtain ⟨n, rfl⟩ : ∃ n, F = n + 100 := ⟨F - 100, by omega⟩
  exact method_take_put0 n g w

/-- The two blocks that a closure hands its results in. -/
def Pair (a b k : Nat) : Prop := k = a ∨ k = b

/-- What a machine wants stands in block pa; whether it wants anything in block po. -/
def Asked (o : Option Ac) (pa po : Nat) (w w' : World) : Prop :=
  Touch (Pair pa po) w w' ∧ match o with
  | none => w'.heap[pa]? = some (.cells #[.int .i64 0, .int .i64 0, .int .i64 0, .int .u64 0, .int .u64 0, .slice none 0 0] 58 (0, 0)) ∧ w'.heap[po]? = some (.cells #[.bool false] 4 (0, 0))
  | some a => ∃ A l c, w'.heap[pa]? = some (.cells #[.int .i64 a.K, .int .i64 a.P, .int .i64 a.N, .int .u64 a.V, .int .u64 a.U, .slice A l c] 58 (0, 0)) ∧ w'.heap[po]? = some (.cells #[.bool true] 4 (0, 0)) ∧
      BytesAt w' (.slice A l c) a.bs

/-- A new place for whether. -/
structure BoolNew (b : Nat) (W : World) : Prop where
  c0 : W.cell? ⟨b, 0, none⟩ = some (.bool false)
  f0 : W.frozen? ⟨b, 0, none⟩ = false
  blk : W.heap[b]? = some (.cells #[.bool false] 4 (0, 0))
theorem BoolNew.of_blk {b : Nat} {W : World} (h : W.heap[b]? = some (.cells #[.bool false] 4 (0, 0))) : BoolNew b W := by
  refine ⟨?_, ?_, h⟩
  · simp [World.cell?, h]
  · simp [World.frozen?, h]

/-- An access and a truth, stored in two places. -/
theorem seven_blocks {W : World} {pa po : Nat} (hne : pa ≠ po) (ha : W.heap[pa]? = some (.cells #[.int .i64 0, .int .i64 0, .int .i64 0, .int .u64 0, .int .u64 0, .slice none 0 0] 58 (0, 0))) (ho : W.heap[po]? = some (.cells #[.bool false] 4 (0, 0))) (u0 u1 u2 u3 u4 u5 u6 : Value) :
    ((six W pa u0 u1 u2 u3 u4 u5).setCell ⟨po, 0, none⟩ u6).heap[pa]? = some (.cells #[u0, u1, u2, u3, u4, u5] 58 (0, 0)) ∧ ((six W pa u0 u1 u2 u3 u4 u5).setCell ⟨po, 0, none⟩ u6).heap[po]? = some (.cells #[u6] 4 (0, 0)) := by
  refine ⟨?_, ?_⟩
  · rw [Below.heap_setCell _ _ _ _ hne]
    simp [six, World.setCell, Array.getElem?_modify, ha]
  · have h6 : (six W pa u0 u1 u2 u3 u4 u5).heap[po]? = W.heap[po]? := by
      unfold six
      rw [Below.heap_setCell _ _ _ _ hne.symm, Below.heap_setCell _ _ _ _ hne.symm, Below.heap_setCell _ _ _ _ hne.symm, Below.heap_setCell _ _ _ _ hne.symm, Below.heap_setCell _ _ _ _ hne.symm, Below.heap_setCell _ _ _ _ hne.symm]
    have h7 := h6.trans ho
    simp [World.setCell, Array.getElem?_modify, h7]

theorem seven_touch {w W : World} {pa po : Nat} (h : Touch (Pair pa po) w W) (u0 u1 u2 u3 u4 u5 u6 : Value) : Touch (Pair pa po) w ((six W pa u0 u1 u2 u3 u4 u5).setCell ⟨po, 0, none⟩ u6) :=
  ((((((h.setCell (p := ⟨pa, 0, none⟩) (.inl rfl) u0).setCell (p := ⟨pa, 1, none⟩) (.inl rfl) u1).setCell (p := ⟨pa, 2, none⟩) (.inl rfl) u2).setCell (p := ⟨pa, 3, none⟩) (.inl rfl) u3).setCell (p := ⟨pa, 4, none⟩) (.inl rfl) u4).setCell (p := ⟨pa, 5, none⟩) (.inl rfl) u5).setCell (p := ⟨po, 0, none⟩) (.inr rfl) u6

set_option maxRecDepth 100000 in
set_option maxHeartbeats 400000 in
theorem nextIn_told {w : World} {T : TypeId} {y : Value} {fid : FuncId} {q : Option Ac} (hme : ∀ n w, 100 ≤ n → (method n T y "Next").run Tryz.prog w = .ok (fid, y) w) (hent : ∀ w, (callFunc fid #[y]).run Tryz.prog w = .ok (.enter fid #[y]) w) (hc : Calls Tryz.prog fid #[y] w (NextTold q w)) (pm pa po : Nat)
    (hm : w.cell? ⟨pm, 0, none⟩ = some (.iface T y)) (ha : AccNew pa w) (ho : BoolNew po w) (hne : pa ≠ po) :
    Calls Tryz.prog 79 #[.pointer (some ⟨pm, 0, none⟩), .pointer (some ⟨pa, 0, none⟩), .pointer (some ⟨po, 0, none⟩)] w fun e w' => e = .returned (.tuple #[]) ∧ Asked q pa po w w' := by
  have HC := Lib.hid hc
  have HA := Lib.hid ha
  have HO := Lib.hid ho
  clear hc ha ho
  have hpa := (Array.getElem?_eq_some_iff.1 HA.out.blk).1
  have hpo := (Array.getElem?_eq_some_iff.1 HO.out.blk).1
  go_enter Tryz.func79, Tryz.ntmps79
  go_wp2_with fail
  refine HC.out.mono ?_
  cases q with
  | none =>
    rintro e w1 ⟨hb, rfl⟩
    have hoN := BoolNew.of_blk ((hb.block po hpo).trans HO.out.blk)
    obtain ⟨a0, a1, a2, a3, a4, a5, f0, f1, f2, f3, f4, f5, ab⟩ := HA.out.later hb
    obtain ⟨o0, z0, ob⟩ := hoN
    have HH := Lib.hid (And.intro ab ob)
    clear ab ob
    go_wp2_with fail
    go_end0
    have h7 := seven_blocks hne HH.out.1 HH.out.2
    exact ⟨rfl, seven_touch (Touch.of_below hb) _ _ _ _ _ _ _, (h7 _ _ _ _ _ _ _).1, (h7 _ _ _ _ _ _ _).2⟩
  | some a =>
    rintro e w1 ⟨hb, A, l, cp, rfl, how⟩
    have hoN := BoolNew.of_blk ((hb.block po hpo).trans HO.out.blk)
    obtain ⟨a0, a1, a2, a3, a4, a5, f0, f1, f2, f3, f4, f5, ab⟩ := HA.out.later hb
    obtain ⟨o0, z0, ob⟩ := hoN
    have HH := Lib.hid (And.intro ab ob)
    have HOW := Lib.hid how
    clear how ab ob
    go_wp2_with fail
    go_end0
    have h7 := seven_blocks hne HH.out.1 HH.out.2
    refine ⟨rfl, seven_touch (Touch.of_below hb) _ _ _ _ _ _ _, A, l, cp, (h7 _ _ _ _ _ _ _).1, (h7 _ _ _ _ _ _ _).2, ?_⟩
    exact ((six_own HOW.out hpa _ _ _ _ _ _).setCell (p := ⟨po, 0, none⟩) hpo _).bytes

theorem cp_nextTold {kd : Kd} {w : World} {base top g d r : Nat} {v : Value} {ys : List Int} (h : Cp w base top g kd d r v ys) : Calls Tryz.prog 145 #[.pointer (some ⟨g, 0, none⟩)] w (NextTold (Mc.copy kd d r ys).next w) := by
  rw [Mc.next_copy]
  by_cases hr : r = 0
  · subst hr
    rw [if_pos rfl]
    refine (next_no h).mono ?_
    rintro e w' ⟨rfl, hb⟩
    exact ⟨hb, rfl⟩
  · rw [if_neg hr]
    refine (next_any h (by omega)).mono ?_
    rintro e w' ⟨A, l, c, rfl, ho, hb⟩
    exact ⟨hb, A, l, c, rfl, ho⟩

/-- A machine's own Next: which function, and what it tells. -/
theorem mrep_next {w : World} {F : Nat → Prop} {T : TypeId} {y : Value} {s : Mc} (h : MRep w F (.iface T y) s) (hlt : ∀ k, F k → k < w.heap.size) :
    ∃ fid, (∀ n w, 100 ≤ n → (method n T y "Next").run Tryz.prog w = .ok (fid, y) w) ∧ (∀ w, (callFunc fid #[y]).run Tryz.prog w = .ok (.enter fid #[y]) w) ∧ Calls Tryz.prog fid #[y] w (NextTold s.next w) := by
  cases s with
  | none => cases h
  | copy kd d r ys =>
    obtain ⟨base, top, g, v, e, hc, h1, h2, h3, h4⟩ := h
    injection e with e1 e2
    subst e1 e2
    exact ⟨_, method_next_at g, fun w => by simp [go_sem], cp_nextTold hc⟩
  | put m =>
    obtain ⟨g, e, hp⟩ := h
    injection e with e1 e2
    subst e1 e2
    exact ⟨_, method_next_put g, fun w => by simp [go_sem], putNext hp hlt⟩

/-- What a machine wants, asked through the interface. -/
theorem nextIn_any {w : World} {F : Nat → Prop} {T : TypeId} {y : Value} {s : Mc} (h : MRep w F (.iface T y) s) (hlt : ∀ k, F k → k < w.heap.size) (pm pa po : Nat) (hm : w.cell? ⟨pm, 0, none⟩ = some (.iface T y)) (ha : AccNew pa w) (ho : BoolNew po w) (hne : pa ≠ po) :
    Calls Tryz.prog 79 #[.pointer (some ⟨pm, 0, none⟩), .pointer (some ⟨pa, 0, none⟩), .pointer (some ⟨po, 0, none⟩)] w fun e w' => e = .returned (.tuple #[]) ∧ Asked s.next pa po w w' := by
  obtain ⟨fid, hme, hent, hc⟩ := mrep_next h hlt
  exact nextIn_told hme hent hc pm pa po hm ha ho hne

/-- A machine took something: it stands in its blocks, and in new ones. -/
def Moved (F : Nat → Prop) (x : Value) (s : Mc) (w : World) (w' : World) : Prop :=
  ∃ F', MRep w' F' x s ∧ Touch F w w' ∧ (∀ k, F' k → F k ∨ (w.heap.size ≤ k ∧ k < w'.heap.size))

theorem Moved.of_below {F : Nat → Prop} {x : Value} {s : Mc} {w w' : World} (h : MRep w F x s) (hlt : ∀ k, F k → k < w.heap.size) (hb : Below w.heap.size w w') : Moved F x s w w' :=
  ⟨F, h.keep hb.size fun k hk => hb.block k (hlt k hk), Touch.of_below hb, fun _ hk => .inl hk⟩

/-- A copy takes an answer. -/
theorem takeIn_copy {kd : Kd} {d r : Nat} {ys : List Int} {w : World} {F : Nat → Prop} {g : Nat} (h : MRep w F (.iface 168 (.pointer (some ⟨g, 0, none⟩))) (.copy kd d r ys)) (hlt : ∀ k, F k → k < w.heap.size) (x : An) (hx : x.Fine) (A : Option Addr) (l c : Nat) (hB : BytesAt w (.slice A l c) x.bs) :
    Calls Tryz.prog 146 #[.pointer (some ⟨g, 0, none⟩), .agg #[.int .u64 x.V, .bool x.D, .slice A l c]] w fun e w' => e = .returned (.tuple #[]) ∧ Moved F (.iface 168 (.pointer (some ⟨g, 0, none⟩))) ((Mc.copy kd d r ys).take x) w w' := by
  obtain ⟨base, top, g', v, e, hc, h1, h2, h3, h4⟩ := h
  injection e with e1 e2
  injection e2 with e3
  injection e3 with e4
  injection e4 with e5
  subst e5
  rw [Mc.take_copy]
  by_cases hr : r = 0
  · subst hr
    refine (take_no hc x.V x.D A l c).mono ?_
    rintro e w' ⟨rfl, hb⟩
    exact ⟨rfl, Moved.of_below (s := .copy kd d 0 ys) ⟨base, top, g, v, rfl, hc, h1, h2, h3, h4⟩ hlt hb⟩
  · rw [if_neg hr]
    have hd := hc.few
    have hxl := hx.few
    refine (take_any hc (by omega) x.V x.D A l c hB (by omega)).mono ?_
    rintro e w' ⟨v', rfl, hc', ht, hl⟩
    have hnp := Cy.nx_pos (r := r) (by omega)
    have hT : Touch F w w' := ht.mono fun k hk => by
      rcases hk with hk | hk
      · subst hk; exact h1 _ hc.above hc.under
      · exact h2 k hk
    refine ⟨rfl, fun k => F k ∨ (w.heap.size ≤ k ∧ k < w'.heap.size), ⟨base, top, g, v', rfl, hc', fun k a b => .inl (h1 k a b), fun k hk => ?_, h3, ?_⟩, hT, fun k hk => hk⟩
    · rcases hl k hk with e | e
      · exact .inl (h2 k e)
      · exact .inr ⟨e, (hc'.own.ge hk).2⟩
    · rw [List.length_append]
      split
      · omega
      · simp; omega

/-- A machine's own Take: which function, and what it leaves. -/
theorem mrep_take {w : World} {F : Nat → Prop} {T : TypeId} {y : Value} {s : Mc} (h : MRep w F (.iface T y) s) (hlt : ∀ k, F k → k < w.heap.size) (x : An) (hx : x.Fine) (A : Option Addr) (l c : Nat) (hB : BytesAt w (.slice A l c) x.bs) :
    ∃ fid, (∀ n w, 100 ≤ n → (method n T y "Take").run Tryz.prog w = .ok (fid, y) w) ∧ (∀ w, (callFunc fid #[y, .agg #[.int .u64 x.V, .bool x.D, .slice A l c]]).run Tryz.prog w = .ok (.enter fid #[y, .agg #[.int .u64 x.V, .bool x.D, .slice A l c]]) w) ∧
      Calls Tryz.prog fid #[y, .agg #[.int .u64 x.V, .bool x.D, .slice A l c]] w fun e w' => e = .returned (.tuple #[]) ∧ Moved F (.iface T y) (s.take x) w w' := by
  cases s with
  | none => cases h
  | copy kd d r ys =>
    have h0 := h
    obtain ⟨base, top, g, v, e, hc, h1, h2, h3, h4⟩ := h
    injection e with e1 e2
    subst e1 e2
    exact ⟨_, method_take_at g, fun w => by simp [go_sem], takeIn_copy h0 hlt x hx A l c hB⟩
  | put m =>
    obtain ⟨g, e, hp⟩ := h
    injection e with e1 e2
    subst e1 e2
    refine ⟨_, method_take_put g, fun w => by simp [go_sem], (putTake hp hlt x hx.v A l c hB).mono ?_⟩
    rintro e w' ⟨rfl, F', h1, h2, h3⟩
    exact ⟨rfl, F', ⟨g, rfl, h1⟩, h2, h3⟩
end Go.Proofs.YtbfgbnalnjdheaaGreat
namespace Go.Proofs.YtbfgbnalnjdheaaGreat
open Go.RowKit

theorem pair_below {w W W' : World} {B a b : Nat} (h : Below B w W) (ht : Touch (Pair a b) W W') (hB : B ≤ W.heap.size) (ha : B ≤ a) (hb : B ≤ b) : Below B w W' := ht.below h hB fun k hk => by rcases hk with rfl | rfl <;> assumption

theorem clone_none (w : World) : Calls Tryz.prog 24 #[.slice none 0 0] w fun e w' => e = .returned (.slice none 0 0) ∧ w = w' := by
  have heq := fun (w : World) (a : Option Addr) => Lib.run_eql_slice_nil (P := Tryz.prog) w 30 5 a 0 0 0 0 Tryz.underlying30
  go_enter Tryz.func24, Tryz.ntmps24
  go_wp2
  go_ret
  exact ⟨rfl, rfl⟩

set_option maxRecDepth 100000 in
set_option maxHeartbeats 400000 in
theorem next_nilIface (w : World) : Calls Tryz.prog 52 #[.nilIface] w (NextTold none w) := by
  have HW := (((Below.refl w.heap.size w).alloc (Nat.le_refl _) (.cells #[.nilIface] 85)).alloc (by simp) (.cells #[.int .i64 0, .int .i64 0, .int .i64 0, .int .u64 0, .int .u64 0, .slice none 0 0] 58)).alloc (by simp; omega) (.cells #[.bool false] 4)
  have hA := Go.Deep.blk_alloc_new (w.alloc (.cells #[.nilIface] 85)) (.cells #[.int .i64 0, .int .i64 0, .int .i64 0, .int .u64 0, .int .u64 0, .slice none 0 0] 58)
  have hA2 := (Below.heap_alloc _ (.cells #[.bool false] 4) _ (by simp)).trans hA
  have e1 : (w.alloc (.cells #[.nilIface] 85)).heap.size = w.heap.size + 1 := by simp
  rw [e1] at hA2
  have HA := AccNew.of_blk hA2
  have hO := Go.Deep.blk_alloc_new ((w.alloc (.cells #[.nilIface] 85)).alloc (.cells #[.int .i64 0, .int .i64 0, .int .i64 0, .int .u64 0, .int .u64 0, .slice none 0 0] 58)) (.cells #[.bool false] 4)
  have e2 : ((w.alloc (.cells #[.nilIface] 85)).alloc (.cells #[.int .i64 0, .int .i64 0, .int .i64 0, .int .u64 0, .int .u64 0, .slice none 0 0] 58)).heap.size = w.heap.size + 1 + 1 := by simp
  rw [e2] at hO
  have HO := BoolNew.of_blk hO
  clear hA hA2 e1 hO e2
  go_enter Tryz.func52, Tryz.ntmps52
  go_wp2_with fail
  generalize ((w.alloc (.cells #[.nilIface] 85)).alloc (.cells #[.int .i64 0, .int .i64 0, .int .i64 0, .int .u64 0, .int .u64 0, .slice none 0 0] 58)).alloc (.cells #[.bool false] 4) = W at HW HA HO ⊢
  obtain ⟨a0, a1, a2, a3, a4, a5, f0, f1, f2, f3, f4, f5, ab⟩ := HA
  obtain ⟨o0, z0, ob⟩ := HO
  refine bodyPost_ret (v := .tuple #[.agg #[.int .i64 0, .int .i64 0, .int .i64 0, .int .u64 0, .int .u64 0, .slice none 0 0], .bool false]) (by simp [results, Tryz.results52, go_sem, a0, a1, a2, a3, a4, a5, o0]) rfl ?_
  exact ⟨HW, rfl⟩

/-- The machine's box, the place for an access, the place for whether. -/
theorem next_boxes (w : World) (x : Value) (W : World) (hW : W = ((w.alloc (.cells #[x] 85)).alloc (.cells #[.int .i64 0, .int .i64 0, .int .i64 0, .int .u64 0, .int .u64 0, .slice none 0 0] 58)).alloc (.cells #[.bool false] 4)) :
    Below w.heap.size w W ∧ W.cell? ⟨w.heap.size, 0, none⟩ = some x ∧ AccNew (w.heap.size + 1) W ∧ BoolNew (w.heap.size + 1 + 1) W := by
  subst hW
  have HW := (((Below.refl w.heap.size w).alloc (Nat.le_refl _) (.cells #[x] 85)).alloc (by simp) (.cells #[.int .i64 0, .int .i64 0, .int .i64 0, .int .u64 0, .int .u64 0, .slice none 0 0] 58)).alloc (by simp; omega) (.cells #[.bool false] 4)
  have hX := Go.Deep.blk_alloc_new w (.cells #[x] 85)
  have hX2 := (Below.heap_alloc _ (.cells #[.bool false] 4) _ (by simp; omega)).trans ((Below.heap_alloc _ (.cells #[.int .i64 0, .int .i64 0, .int .i64 0, .int .u64 0, .int .u64 0, .slice none 0 0] 58) _ (by simp)).trans hX)
  have hA := Go.Deep.blk_alloc_new (w.alloc (.cells #[x] 85)) (.cells #[.int .i64 0, .int .i64 0, .int .i64 0, .int .u64 0, .int .u64 0, .slice none 0 0] 58)
  have hA2 := (Below.heap_alloc _ (.cells #[.bool false] 4) _ (by simp)).trans hA
  have e1 : (w.alloc (.cells #[x] 85)).heap.size = w.heap.size + 1 := by simp
  rw [e1] at hA2
  have hO := Go.Deep.blk_alloc_new ((w.alloc (.cells #[x] 85)).alloc (.cells #[.int .i64 0, .int .i64 0, .int .i64 0, .int .u64 0, .int .u64 0, .slice none 0 0] 58)) (.cells #[.bool false] 4)
  have e2 : ((w.alloc (.cells #[x] 85)).alloc (.cells #[.int .i64 0, .int .i64 0, .int .i64 0, .int .u64 0, .int .u64 0, .slice none 0 0] 58)).heap.size = w.heap.size + 1 + 1 := by simp
  rw [e2] at hO
  exact ⟨HW, by simp [World.cell?, hX2], AccNew.of_blk hA2, BoolNew.of_blk hO⟩

theorem enter_next (caps : Array Value) (w : World) : (callFunc 79 caps).run Tryz.prog w = .ok (.enter 79 caps) w := by
  simp [go_sem]

set_option maxRecDepth 100000 in
set_option maxHeartbeats 400000 in
theorem next_some {w : World} {F : Nat → Prop} {T : TypeId} {y : Value} {s : Mc} {a : Ac} (h : MRep w F (.iface T y) s) (hlt : ∀ k, F k → k < w.heap.size) (ha : s.next = some a) :
    Calls Tryz.prog 52 #[.iface T y] w (NextTold (some a) w) := by
  have hmf : ∀ (fn : Fn) (first cap : Array Value) (w : World), (Instr.makeFunc fn first cap).run Tryz.prog w = .ok (.func fn first cap) w := fun _ _ _ _ => rfl
  have HH := Lib.hid h
  have HL := Lib.hid hlt
  have HFI := Lib.hid (h.fine ha)
  have HN := Lib.hid ha
  clear h hlt ha
  obtain ⟨WW, hWW⟩ : ∃ WW, WW = ((w.alloc (.cells #[.iface T y] 85)).alloc (.cells #[.int .i64 0, .int .i64 0, .int .i64 0, .int .u64 0, .int .u64 0, .slice none 0 0] 58)).alloc (.cells #[.bool false] 4) := ⟨_, rfl⟩
  have HB := Lib.hid (next_boxes w (.iface T y) WW hWW)
  go_enter Tryz.func52, Tryz.ntmps52
  go_wp2_with fail
  rw [← hWW]
  clear hWW
  obtain ⟨hb0, hx0, hA0, hO0⟩ := HB.out
  refine (caught_any _ _ WW (enter_next _) (nextIn_any (HH.out.keep hb0.size fun k hk => hb0.block k (HL.out k hk)) (fun k hk => Nat.lt_of_lt_of_le (HL.out k hk) hb0.size) w.heap.size (w.heap.size + 1) (w.heap.size + 1 + 1) hx0 hA0 hO0 (by omega))).mono ?_
  rintro e w1 ⟨rfl, ht, hm⟩
  rw [HN.out] at hm
  obtain ⟨A, l, c, hp, ho, hby⟩ := hm
  have hB1 := pair_below hb0 ht hb0.size (by omega) (by omega)
  have hl : a.bs.length = l := by obtain ⟨_, _, e, _⟩ := hby; injection e with _ e _; exact e.symm
  have hlf := HFI.out.few
  have hc5 : w1.cell? ⟨w.heap.size + 1, 5, none⟩ = some (.slice A l c) := by simp [World.cell?, hp]
  have HP := Lib.hid (And.intro hp (And.intro ho hby))
  have hs1 := (Array.getElem?_eq_some_iff.1 hp).1
  have hs2 := (Array.getElem?_eq_some_iff.1 ho).1
  clear hp ho hby hb0 hx0 hA0 hO0 ht
  go_wp2_with fail
  refine (clone_sl A l c a.bs w1 HP.out.2.2 (by omega)).mono ?_
  rintro e w2 ⟨A2, c2, rfl, ho2, hb2⟩
  have hq1 := (hb2.block _ hs1).trans HP.out.1
  have hq2 := (hb2.block _ hs2).trans HP.out.2.1
  have hz5 : w2.frozen? ⟨w.heap.size + 1, 5, none⟩ = false := by simp [World.frozen?, hq1]
  have hc52 : w2.cell? ⟨w.heap.size + 1, 5, none⟩ = some (.slice A l c) := by simp [World.cell?, hq1]
  have HO2 := Lib.hid ho2
  have hq3 := blkS (i := 5) hq1 (.slice A2 l c2)
  have hq4 := blkF (i := 5) (g' := w.heap.size + 1) hq2 (by omega) (.slice A2 l c2)
  go_wp2_with fail
  have hB3 : Below w.heap.size w (w2.setCell ⟨w.heap.size + 1, 5, none⟩ (.slice A2 l c2)) := (hB1.trans (hb2.mono hB1.size)).setCell (Nat.le_succ _) _
  have HO3 := Lib.hid (HO2.out.setCell (p := ⟨w.heap.size + 1, 5, none⟩) (by show w.heap.size + 1 < w1.heap.size; omega) (.slice A2 l c2))
  generalize w2.setCell ⟨w.heap.size + 1, 5, none⟩ (.slice A2 l c2) = W3 at hq3 hq4 hB3 HO3 ⊢
  have hq5 : W3.heap[w.heap.size + 1]? = some (.cells #[.int .i64 a.K, .int .i64 a.P, .int .i64 a.N, .int .u64 a.V, .int .u64 a.U, .slice A2 l c2] 58 (0, 0)) := hq3
  have HACC := Lib.hid hq5
  have a0 : W3.cell? ⟨w.heap.size + 1, 0, none⟩ = some (.int .i64 a.K) := by simp [World.cell?, hq5]
  have a1 : W3.cell? ⟨w.heap.size + 1, 1, none⟩ = some (.int .i64 a.P) := by simp [World.cell?, hq5]
  have a2 : W3.cell? ⟨w.heap.size + 1, 2, none⟩ = some (.int .i64 a.N) := by simp [World.cell?, hq5]
  have a3 : W3.cell? ⟨w.heap.size + 1, 3, none⟩ = some (.int .u64 a.V) := by simp [World.cell?, hq5]
  have a4 : W3.cell? ⟨w.heap.size + 1, 4, none⟩ = some (.int .u64 a.U) := by simp [World.cell?, hq5]
  have a5 : W3.cell? ⟨w.heap.size + 1, 5, none⟩ = some (.slice A2 l c2) := by simp [World.cell?, hq5]
  have f0 : W3.frozen? ⟨w.heap.size + 1, 0, none⟩ = false := by simp [World.frozen?, hq5]
  have f1 : W3.frozen? ⟨w.heap.size + 1, 1, none⟩ = false := by simp [World.frozen?, hq5]
  have f2 : W3.frozen? ⟨w.heap.size + 1, 2, none⟩ = false := by simp [World.frozen?, hq5]
  have f3 : W3.frozen? ⟨w.heap.size + 1, 3, none⟩ = false := by simp [World.frozen?, hq5]
  have f4 : W3.frozen? ⟨w.heap.size + 1, 4, none⟩ = false := by simp [World.frozen?, hq5]
  have f5 : W3.frozen? ⟨w.heap.size + 1, 5, none⟩ = false := by simp [World.frozen?, hq5]
  have o0 : W3.cell? ⟨w.heap.size + 1 + 1, 0, none⟩ = some (.bool true) := by simp [World.cell?, hq4]
  have z0 : W3.frozen? ⟨w.heap.size + 1 + 1, 0, none⟩ = false := by simp [World.frozen?, hq4]
  clear hq1 hq2 hq3 hq4 hq5 hz5 hb2 HO2 ho2 hc5 hB1 hc52
  go_region
  all_goals go_wp2
  refine bodyPost_ret (v := .tuple #[.agg #[.int .i64 a.K, .int .i64 a.P, .int .i64 a.N, .int .u64 a.V, .int .u64 a.U, .slice A2 l c2], .bool true]) (by simp [results, Tryz.results52, go_sem, a0, a1, a2, a3, a4, a5, o0]) rfl ?_
  refine ⟨?_, A2, l, c2, rfl, ?_⟩
  · exact (seven_touch (pa := w.heap.size + 1) (po := w.heap.size + 1 + 1) (w := W3) (Touch.refl _ _) (.int .i64 a.K) (.int .i64 a.P) (.int .i64 a.N) (.int .u64 a.V) (.int .u64 a.U) (.slice A2 l c2) (.bool true)).drew.below hB3 hB3.size (fun k hk => by rcases hk with rfl | rfl <;> omega)
  · exact (((six_own HO3.out (b := w.heap.size + 1) hs1 _ _ _ _ _ _).setCell (p := ⟨w.heap.size + 1 + 1, 0, none⟩) hs2 _).drew).down (by omega)


set_option maxRecDepth 100000 in
set_option maxHeartbeats 400000 in
theorem next_end {w : World} {F : Nat → Prop} {T : TypeId} {y : Value} {s : Mc} (h : MRep w F (.iface T y) s) (hlt : ∀ k, F k → k < w.heap.size) (ha : s.next = none) :
    Calls Tryz.prog 52 #[.iface T y] w (NextTold none w) := by
  have hmf : ∀ (fn : Fn) (first cap : Array Value) (w : World), (Instr.makeFunc fn first cap).run Tryz.prog w = .ok (.func fn first cap) w := fun _ _ _ _ => rfl
  have HH := Lib.hid h
  have HL := Lib.hid hlt
  have HN := Lib.hid ha
  clear h hlt ha
  obtain ⟨WW, hWW⟩ : ∃ WW, WW = ((w.alloc (.cells #[.iface T y] 85)).alloc (.cells #[.int .i64 0, .int .i64 0, .int .i64 0, .int .u64 0, .int .u64 0, .slice none 0 0] 58)).alloc (.cells #[.bool false] 4) := ⟨_, rfl⟩
  have HB := Lib.hid (next_boxes w (.iface T y) WW hWW)
  go_enter Tryz.func52, Tryz.ntmps52
  go_wp2_with fail
  rw [← hWW]
  clear hWW
  obtain ⟨hb0, hx0, hA0, hO0⟩ := HB.out
  refine (caught_any _ _ WW (enter_next _) (nextIn_any (HH.out.keep hb0.size fun k hk => hb0.block k (HL.out k hk)) (fun k hk => Nat.lt_of_lt_of_le (HL.out k hk) hb0.size) w.heap.size (w.heap.size + 1) (w.heap.size + 1 + 1) hx0 hA0 hO0 (by omega))).mono ?_
  rintro e w1 ⟨rfl, ht, hm⟩
  rw [HN.out] at hm
  obtain ⟨hp, ho⟩ := hm
  have hB1 := pair_below hb0 ht hb0.size (by omega) (by omega)
  have hc5 : w1.cell? ⟨w.heap.size + 1, 5, none⟩ = some (.slice none 0 0) := by simp [World.cell?, hp]
  have HP := Lib.hid (And.intro hp ho)
  have hs1 := (Array.getElem?_eq_some_iff.1 hp).1
  have hs2 := (Array.getElem?_eq_some_iff.1 ho).1
  clear hp ho hb0 hx0 hA0 hO0 ht
  go_wp2_with fail
  refine (clone_none w1).mono ?_
  rintro e w1 ⟨rfl, rfl⟩
  have hq1 := HP.out.1
  have hq2 := HP.out.2
  have hz5 : w1.frozen? ⟨w.heap.size + 1, 5, none⟩ = false := by simp [World.frozen?, hq1]
  have hq3 := blkS (i := 5) hq1 (.slice none 0 0)
  have hq4 := blkF (i := 5) (g' := w.heap.size + 1) hq2 (by omega) (.slice none 0 0)
  go_wp2_with fail
  have hB3 : Below w.heap.size w (w1.setCell ⟨w.heap.size + 1, 5, none⟩ (.slice none 0 0)) := hB1.setCell (Nat.le_succ _) _
  generalize w1.setCell ⟨w.heap.size + 1, 5, none⟩ (.slice none 0 0) = W3 at hq3 hq4 hB3 ⊢
  have hq5 : W3.heap[w.heap.size + 1]? = some (.cells #[.int .i64 0, .int .i64 0, .int .i64 0, .int .u64 0, .int .u64 0, .slice none 0 0] 58 (0, 0)) := hq3
  have HACC := Lib.hid hq5
  have a0 : W3.cell? ⟨w.heap.size + 1, 0, none⟩ = some (.int .i64 0) := by simp [World.cell?, hq5]
  have a1 : W3.cell? ⟨w.heap.size + 1, 1, none⟩ = some (.int .i64 0) := by simp [World.cell?, hq5]
  have a2 : W3.cell? ⟨w.heap.size + 1, 2, none⟩ = some (.int .i64 0) := by simp [World.cell?, hq5]
  have a3 : W3.cell? ⟨w.heap.size + 1, 3, none⟩ = some (.int .u64 0) := by simp [World.cell?, hq5]
  have a4 : W3.cell? ⟨w.heap.size + 1, 4, none⟩ = some (.int .u64 0) := by simp [World.cell?, hq5]
  have a5 : W3.cell? ⟨w.heap.size + 1, 5, none⟩ = some (.slice none 0 0) := by simp [World.cell?, hq5]
  have f0 : W3.frozen? ⟨w.heap.size + 1, 0, none⟩ = false := by simp [World.frozen?, hq5]
  have f1 : W3.frozen? ⟨w.heap.size + 1, 1, none⟩ = false := by simp [World.frozen?, hq5]
  have f2 : W3.frozen? ⟨w.heap.size + 1, 2, none⟩ = false := by simp [World.frozen?, hq5]
  have f3 : W3.frozen? ⟨w.heap.size + 1, 3, none⟩ = false := by simp [World.frozen?, hq5]
  have f4 : W3.frozen? ⟨w.heap.size + 1, 4, none⟩ = false := by simp [World.frozen?, hq5]
  have f5 : W3.frozen? ⟨w.heap.size + 1, 5, none⟩ = false := by simp [World.frozen?, hq5]
  have o0 : W3.cell? ⟨w.heap.size + 1 + 1, 0, none⟩ = some (.bool false) := by simp [World.cell?, hq4]
  have z0 : W3.frozen? ⟨w.heap.size + 1 + 1, 0, none⟩ = false := by simp [World.frozen?, hq4]
  clear hq1 hq2 hq3 hq4 hq5 hz5 hc5 hB1
  go_region
  all_goals go_wp2
  refine bodyPost_ret (v := .tuple #[.agg #[.int .i64 0, .int .i64 0, .int .i64 0, .int .u64 0, .int .u64 0, .slice none 0 0], .bool false]) (by simp [results, Tryz.results52, go_sem, a0, a1, a2, a3, a4, a5, o0]) rfl ?_
  refine ⟨?_, rfl⟩
  · exact (seven_touch (pa := w.heap.size + 1) (po := w.heap.size + 1 + 1) (w := W3) (Touch.refl _ _) (.int .i64 0) (.int .i64 0) (.int .i64 0) (.int .u64 0) (.int .u64 0) (.slice none 0 0) (.bool false)).drew.below hB3 hB3.size (fun k hk => by rcases hk with rfl | rfl <;> omega)

/-- What a machine wants next. -/
theorem next_told {w : World} {F : Nat → Prop} {x : Value} {s : Mc} (h : MRep w F x s) (hlt : ∀ k, F k → k < w.heap.size) : Calls Tryz.prog 52 #[x] w (NextTold s.next w) := by
  rcases h.shape with ⟨rfl, rfl⟩ | ⟨T, y, rfl⟩
  · exact next_nilIface w
  · cases ha : s.next with
    | none => exact next_end h hlt ha
    | some a => exact next_some h hlt ha
end Go.Proofs.YtbfgbnalnjdheaaGreat
namespace Go.Proofs.YtbfgbnalnjdheaaGreat
open Go.RowKit

/-- A call that read bytes into new memory. -/
def MadeRead (xs : List Int) (w : World) (e : Ending) (w' : World) : Prop :=
  ∃ v, e = .returned v ∧ Owns w.heap.size w' v xs ∧ Below w.heap.size w w'

/-- An access answered; the bytes of the answer lie in new memory, if there are any. -/
def AnsweredIn (V : Nat) (D : Bool) (xs : List Int) (g h : Nat) (m : Nat → Nat) (n : Nat) (c : Int) (w : World) (e : Ending) (w' : World) : Prop :=
  ∃ s, e = .returned (.agg #[.int .u64 V, .bool D, s]) ∧ BytesIn (fun k => w.heap.size ≤ k) w' s xs ∧ Stored g h m n c w w'

/-- An access was done; the bytes of the answer lie in new memory. -/
def DidIn (V : Nat) (D : Bool) (xs : List Int) (g h : Nat) (m : Nat → Nat) (n : Nat) (c : Int) (w : World) (e : Ending) (w' : World) : Prop :=
  ∃ s, e = .returned (.tuple #[.agg #[.int .u64 V, .bool D, s], .int .i64 0]) ∧ BytesIn (fun k => w.heap.size ≤ k) w' s xs ∧ Stored g h m n c w w'

theorem BytesIn.answer' {K : Nat → Prop} {W : World} {v : Value} {xs : List Int} {b : Nat} (hv : BytesIn K W v xs) (ha : AnsAt b W) (x y z : Value) : BytesIn K (((W.setCell ⟨b, 0, Option.none⟩ x).setCell ⟨b, 1, Option.none⟩ y).setCell ⟨b, 2, Option.none⟩ z) v xs := by
  obtain ⟨A, cap, hv, h⟩ := hv
  refine ⟨A, cap, hv, fun hp => ?_⟩
  obtain ⟨d, off, h1, hK, h3, h4⟩ := h hp
  have hne : d ≠ b := by
    intro e
    subst e
    have h5 := h4 0 hp
    simp only [World.cell?, ha.blk] at h5
    match off, h5 with
    | 0, h5 => simp at h5
    | 1, h5 => simp at h5
    | 2, h5 => simp at h5
    | k + 3, h5 => simp at h5
  refine ⟨d, off, h1, hK, by simpa [World.setCell] using h3, fun i hi => ?_⟩
  rw [← h4 i hi]
  refine World.cell?_of_block ?_
  rw [Below.heap_setCell _ _ _ _ hne, Below.heap_setCell _ _ _ _ hne, Below.heap_setCell _ _ _ _ hne]

set_option maxHeartbeats 1000000 in
theorem read_own {w : World} {g h n : Nat} {m : Nat → Nat} {c : Int} (B : Buf w g h m n c) (a k : Nat) (hin : a + k ≤ 8 * n) :
    Calls Tryz.prog 31 #[.pointer (some ⟨g, 0, none⟩), .int .i64 a, .int .i64 k] w (MadeRead (Mb.bl m a k) w) := by
  obtain ⟨i0, hi, hz0, hz1, hz2⟩ := info_parts infoU8
  have hf := B.few
  have HB := Lib.hid B
  clear B
  go_enter Tryz.func31, Tryz.ntmps31
  go_wp2_with (refine wpList_make_own _ rfl _ _ 30 rfl w.heap.size 5 i0 (.int .u8 0) 1 Tryz.underlying30 hi hz0 hz1 .i64 .i64 _ k rfl rfl rfl (by rw [hz2]; omega) (by unfold maxLen; omega) (Nat.le_refl _) ?_; intro w0 hown0 hg0)
  have hbel0 : Below w.heap.size w w0 := (Below.refl _ w).grown hg0 (Nat.le_refl _) (fun g hg => by cases hg)
  clear hg0
  go_loopw [1, 2, 7] (fun t1 t2 r wr => ∃ p q : Nat, a ≤ p ∧ p + q = a + k ∧ t1 = .int .i64 p ∧ t2 = .int .i64 q ∧ Below w.heap.size w wr ∧ wr.ownsRow w.heap.size 5 1 r (p - a) ((Mb.bl m a (p - a)).map (Value.int .u8))) (fun _ t2 _ _ => (intOf t2).toNat)
  case atStart => exact ⟨a, k, by omega, rfl, rfl, rfl, hbel0, by rw [Nat.sub_self]; exact hown0⟩
  case round =>
    obtain ⟨p, q, hp, hpq, rfl, rfl, hbel, hown⟩ := hrel
    clear hown0 hbel0
    by_cases hlt : 0 < q
    · obtain ⟨j, hj⟩ : ∃ j, j = min q (8 - p % 8) := ⟨_, rfl⟩
      have hj1 : 1 ≤ j := by omega
      have hj2 : j ≤ q := by omega
      have hj3 : p % 8 + j ≤ 8 := by omega
      have hpb : p ≤ 131072 := by omega
      have hqb : q ≤ 131072 := by omega
      have hj4 : p / 8 < n := by omega
      have HJ := Lib.hid hj
      have HQ := Lib.hid hpq
      have hBr := HB.out.below hbel
      have HBr := Lib.hid hBr
      have HBel := Lib.hid hbel
      have HO := Lib.hid hown
      clear hj hpq hBr hbel hown
      go_wp2_with (first
        | (go_at_call 55; refine (inWord_at p q j _ (by omega) HJ.out).mono ?_; rintro e w' ⟨rfl, rfl⟩)
        | (go_at_call 57; refine (load_any HBr.out p j hj3 hj4).mono ?_; rintro e w1 ⟨rfl, nd, rfl⟩)
        | (go_at_call 56; refine (bytes_at HBr.out.bytes p j _ hj1 (by omega)).mono ?_; rintro e w2 ⟨sb, so, cp, rfl, hcs, hb2⟩; have hb3 : Below wr.heap.size wr w2 := (drewN_below wr nd).after hb2; clear hb2)
        | (at_builtin; refine wpList_append_own _ rfl (.tmp 16) (.tmp 22) 30 rfl w.heap.size 5 i0 (.int .u8 0) 1 1 Tryz.underlying30 hi hz0 hz1 hz2 rfl (by decide) _ _ _ rfl (ownsRow_below HO.out hb3) ⟨sb, so, none⟩ j cp ((Mb.bl m p j).map (Value.int .u8)) rfl (by simp [Mb.bl_length]) hcs (u8_one _) (by unfold maxLen; omega) (by omega) (Nat.le_trans HBel.out.size hb3.size) ?_; intro v' w3 hown' hgrow _; have hbel3 : Below w.heap.size w w3 := (HBel.out.trans (hb3.mono HBel.out.size)).grown hgrow (Nat.le_trans HBel.out.size hb3.size) (fun g hg => (HO.out.lt g hg).1); rw [Mb.bl_next m a p j hp, show p - a + j = p + j - a by omega] at hown'; have HO3 := Lib.hid hown'; have HB3 := Lib.hid hbel3; clear hown' hgrow hbel3))
      go_roundw
      case rel =>
        have hpq := HQ.out
        exact ⟨p + j, q - j, by omega, by omega, by go_num, by go_num, HB3.out, HO3.out⟩
      case measure => simp [intOf]; omega
    · have hq0 : q = 0 := by omega
      have HQ := Lib.hid (show p - a = k by omega)
      subst hq0
      have HBel := Lib.hid hbel
      have HO := Lib.hid hown
      clear hpq hbel hown
      go_wp2
      go_ret
      have hO := HO.out
      rw [HQ.out] at hO
      exact ⟨_, rfl, by unfold Owns; rw [Mb.bl_length]; exact hO, HBel.out⟩

set_option maxHeartbeats 1000000 in
theorem access_read_own {w : World} {g h n : Nat} {m : Nat → Nat} {c : Int} (B : Buf w g h m n c) (a k : Nat) (hin : a + k ≤ 8 * n) (v u : Int) (s : Value) :
    Calls Tryz.prog 41 #[.pointer (some ⟨g, 0, none⟩), .agg #[.int .i64 5, .int .i64 a, .int .i64 k, .int .u64 v, .int .u64 u, s]] w
      (AnsweredIn 0 false (Mb.bl m a k) g h m n c w) := by
  have hg := B.g_lt
  have hh := B.h_lt
  have HB := Lib.hid B
  clear B
  go_enter Tryz.func41, Tryz.ntmps41
  go_wp2_with (go_at_call 31; refine (read_own ((HB.out.alloc _).alloc _) a k hin).mono ?_; rintro e w1 ⟨x, rfl, hx0, hb⟩; obtain ⟨A, cp, rfl, hx⟩ := hx0.bytes; have HA := Lib.hid (ans_touch (Touch.of_below (S := Two g h) hb) hg hh); obtain ⟨a0, a1, a2, f0, f1, f2, fb⟩ := HA.out; have HBe := Lib.hid hb; have HX := Lib.hid hx0; clear hb hx hx0 fb)
  refine bodyPost_ret (v := .agg #[.int .u64 0, .bool false, .slice A (Mb.bl m a k).length cp]) ?_ rfl ?_
  · simp [results, Tryz.results41, go_sem, a0, a1, a2]
  · refine ⟨_, rfl, ((BytesIn.of_own HX.out).mono fun k hk _ => by simp at hk; omega).answer' HA.out _ _ _, ?_⟩
    have HST := Stored.mk_ (((HB.out.alloc _).alloc _).below HBe.out) ((boxes_touch (Two g h) w _ _).trans (Touch.of_below HBe.out))
    exact ((HST.setNew hg hh (Nat.le_succ _) _).setNew hg hh (Nat.le_succ _) _).setNew hg hh (Nat.le_succ _) _

theorem access_in {w : World} {g h n : Nat} {m : Nat → Nat} {c : Int} (B : Buf w g h m n c) (K : Int) (a k v u : Nat) {f : Nat → Nat} (hf : Mb.IsB f) (A : Option Addr) (L cap : Nat) (hcap : L ≤ cap) (hcap2 : cap ≤ 9223372036854775807)
    (hb : BytesAt w (.slice A L cap) (Mb.bl f 0 L)) (hv : v < 18446744073709551616) (ok : chk (8 * (n : Int)) K a k L = 0) :
    Calls Tryz.prog 41 #[.pointer (some ⟨g, 0, none⟩), .agg #[.int .i64 K, .int .i64 a, .int .i64 k, .int .u64 v, .int .u64 u, .slice A L cap]] w
      (AnsweredIn (Mb.ansV m K a k) (Mb.ansD m K a k v) (Mb.ansB m K a k) g h (Mb.aft m K a k v u f) n c w) := by
  by_cases h5 : K = 5
  · subst h5
    obtain ⟨_, _, h1, h2, _⟩ := chk_ok ok
    refine (access_read_own B a k (by omega) v u _).mono ?_
    rintro e w' ⟨s, rfl, ho, hs⟩
    exact ⟨s, rfl, ho, hs⟩
  · have e : Mb.ansB m K a k = [] := by unfold Mb.ansB; rw [if_neg h5]
    refine (access_any B K a k v u hf A L cap hcap hcap2 hb hv ok).mono ?_
    rintro e' w' ⟨s, rfl, ho, hs⟩
    rw [e] at ho ⊢
    exact ⟨s, rfl, BytesIn.empty ho _, hs⟩

set_option maxHeartbeats 1000000 in
theorem do_in {w : World} {g h n : Nat} {m : Nat → Nat} {c : Int} (B : Buf w g h m n c) (K : Int) (a k v u : Nat) {f : Nat → Nat} (hf : Mb.IsB f) (A : Option Addr) (L cap : Nat) (hcap : L ≤ cap) (hcap2 : cap ≤ 9223372036854775807)
    (hb : BytesAt w (.slice A L cap) (Mb.bl f 0 L)) (hv : v < 18446744073709551616) (ok : chk (8 * (n : Int)) K a k L = 0) :
    Calls Tryz.prog 19 #[.pointer (some ⟨g, 0, none⟩), .agg #[.int .i64 K, .int .i64 a, .int .i64 k, .int .u64 v, .int .u64 u, .slice A L cap]] w
      (DidIn (Mb.ansV m K a k) (Mb.ansD m K a k v) (Mb.ansB m K a k) g h (Mb.aft m K a k v u f) n (nxt c) w) := by
  have hg := B.g_lt
  have hh := B.h_lt
  have hfw := B.few
  have HB0 := (B.alloc (.cells #[.int .i64 K, .int .i64 a, .int .i64 k, .int .u64 v, .int .u64 u, .slice A L cap] 58)).alloc (.cells #[.int .u64 0, .bool false, .slice none 0 0] 50)
  have HC := acc_made w K a k v u (.slice A L cap) (.cells #[.int .u64 0, .bool false, .slice none 0 0] 50)
  have HA := ans_made w (.cells #[.int .i64 K, .int .i64 a, .int .i64 k, .int .u64 v, .int .u64 u, .slice A L cap] 58)
  have HW := ((Below.refl w.heap.size w).alloc (Nat.le_refl _) (.cells #[.int .i64 K, .int .i64 a, .int .i64 k, .int .u64 v, .int .u64 u, .slice A L cap] 58)).alloc (by simp) (.cells #[.int .u64 0, .bool false, .slice none 0 0] 50)
  have HV := hb.below HW
  have HQ := Lib.hid ok
  have HF := Lib.hid hf
  clear B ok hb hf
  go_enter Tryz.func19, Tryz.ntmps19
  go_wp2
  generalize (w.alloc (.cells #[.int .i64 K, .int .i64 (a : Int), .int .i64 (k : Int), .int .u64 (v : Int), .int .u64 (u : Int), .slice A L cap] 58)).alloc (.cells #[.int .u64 0, .bool false, .slice none 0 0] 50) = W at HC HA HB0 HW HV ⊢
  have HC2 := HC
  obtain ⟨c0, c1, c2, c3, c4, c5⟩ := HC2
  go_region_held3 (fun w' => w'.cell? ⟨w.heap.size, 0, none⟩ = some (.int .i64 K) ∧ w'.cell? ⟨w.heap.size, 1, none⟩ = some (.int .i64 a) ∧ w'.cell? ⟨w.heap.size, 2, none⟩ = some (.int .i64 k) ∧ w'.cell? ⟨w.heap.size, 3, none⟩ = some (.int .u64 v) ∧ w'.cell? ⟨w.heap.size, 4, none⟩ = some (.int .u64 u) ∧ w'.cell? ⟨w.heap.size, 5, none⟩ = some (.slice A L cap))
    (go_keep)
    (first
      | (go_at_call 32; refine (size_any HB0.drew).mono ?_; rintro e w' ⟨rfl, rfl⟩)
      | (go_at_call 39; refine (check_any _ K a k v u A L cap _ (by omega)).mono ?_; rintro e w1 ⟨rfl, hb1⟩; rw [HQ.out]; have hb2 := below_drew hb1; clear hb1; obtain ⟨k0, k1, k2, k3, k4, k5⟩ := HC.below hb2))
  have HB1 := HB0.below hb2
  have hn0 := HB1.count
  have hn1 := HB1.count_free
  have HB2 := HB1.setCount (nxt c)
  have HT2 := (Touch.refl (Two g h) w1).setCell (p := ⟨g, 1, none⟩) (.inl rfl) (.int .i64 (nxt c))
  have HC2 := (HC.below hb2).touch HT2 (by omega) (by omega)
  have HA2 := (HA.later hb2).touch HT2 (by omega) (by omega)
  have HV2 := (HV.below hb2).touch HB1 HT2
  have hszW := HW.size
  have hszb := hb2.size
  have HT1 := (Touch.of_below (S := Two g h) HW).trans ((Touch.of_below (S := Two g h) hb2).trans HT2)
  clear c0 c1 c2 c3 c4 c5 k0 k1 k2 k3 k4 k5 HB0 HC HA HV HW hb2 HB1
  go_wp2_with (first
    | (go_at_call 40; refine (addOne g 1 c _ hn0 hn1).mono ?_; rintro e w2 ⟨rfl, hw2⟩; rw [hw2] at HB2 HT2 HC2 HA2 HV2 HT1; clear hw2 hn0 hn1; obtain ⟨c0, c1, c2, c3, c4, c5⟩ := HC2)
    | (go_at_call 41; refine (access_in HB2 K a k v u HF.out A L cap hcap hcap2 HV2 hv HQ.out).mono ?_; rintro e w3 ⟨x, rfl, hx, hst⟩; obtain ⟨A3, cp3, rfl⟩ := hx.length; have HX := Lib.hid hx; have hsz2 := hst.2.size; have HA3 := HA2.touch hst.2 (by omega) (by omega); have HA4 := HA3; obtain ⟨a0, a1, a2, f0, f1, f2, _⟩ := HA4; have HST := Lib.hid (hst.from_ HT1); clear hx hst))
  refine bodyPost_ret (v := .tuple #[.agg #[.int .u64 (Mb.ansV m K a k : Nat), .bool (Mb.ansD m K a k v), .slice A3 (Mb.ansB m K a k).length cp3], .int .i64 0]) ?_ rfl ?_
  · simp [results, Tryz.results19, go_sem, a0, a1, a2]
  · refine ⟨_, rfl, (HX.out.mono fun k hk _ => ?_).answer' HA3 _ _ _, ?_⟩
    · have := HT1.size
      exact Nat.le_trans this hk
    · exact ((HST.out.setNew hg hh (Nat.le_succ _) _).setNew hg hh (Nat.le_succ _) _).setNew hg hh (Nat.le_succ _) _
end Go.Proofs.YtbfgbnalnjdheaaGreat
