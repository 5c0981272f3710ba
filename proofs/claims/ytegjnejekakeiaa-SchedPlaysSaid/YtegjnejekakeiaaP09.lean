/-
  Layer 6's plain Pick, walked: a kill.
  Layer 6's plain Pick, walked: a step of one that is at its end.
  Layer 6's plain world: an access was done: a job is told one answer more.
  Layer 6's plain world: what a job wants is what its machine wants; the plain Do, for what copies ask for.
  Layer 6's plain Pick, walked: an access that is refused.
-/
import Derived.Test.YtegjnejekakeiaaP08
import Derived.Deep.CutRange
import Derived.Deep.CutBlock
import Derived.Deep.QuietTactic
import Derived.BigQuiet
import Derived.BigRegion
import Derived.Deep.DeepCutAuto
import Derived.Deep.AppendLies
namespace Go.Proofs.Ytegjnejekakeiaa
open Go.RowKit

set_option maxRecDepth 100000 in
set_option maxHeartbeats 2000000 in
theorem plainPick_kill {w : World} {o : Nat → Pt} {gp q jb : Nat} {JA : Option Addr} {c5 : Nat} {js : Nat → Jb} {pj : Nat → PJ} {tv : Value} {ts : List Tx} {st : St} (h : PW w o gp q jb JA c5 js pj tv ts st) (p : Pk) (hK : p.K = 1) (i : Nat) (hA : p.A = i) (hi : i < st.na) (hd : st.dead i = false) (hlong : ts.length ≤ 1000000) :
    Calls Try.prog 12 #[.pointer (some ⟨gp, 0, none⟩), .agg #[.int .i64 p.K, .int .i64 p.A, .int .i64 p.N]] w (PlainTold o gp q jb JA c5 js ((st.kill i).push (.bare p)) (.bare p) w) := by
  have HK := Lib.hid hK
  have HA := Lib.hid hA
  have HD := Lib.hid hd
  clear hK hA hd
  obtain ⟨WW, hWW⟩ : ∃ WW, WW = (w.alloc (.cells #[.int .i64 p.K, .int .i64 p.A, .int .i64 p.N] 44)).alloc (.cells #[.int .i64 0, .int .i64 0, .int .i64 0, .int .i64 0, .int .i64 0, .int .i64 0, .int .u64 0, .int .u64 0, .slice none 0 0, .int .u64 0, .bool false, .slice none 0 0] 51) := ⟨_, rfl⟩
  have HB := Lib.hid (pick_boxes w p WW hWW)
  have hlg : gp < w.heap.size := (Array.getElem?_eq_some_iff.1 h.head).1
  have HS := Lib.hid h
  have HL := Lib.hid hlong
  clear h hlong
  go_enter Try.func12, Try.ntmps12
  go_upto_region 1 with (fail)
  rw [← hWW]
  clear hWW
  obtain ⟨hb0, hx0, hsz0⟩ := HB.out
  have p0 : WW.cell? ⟨w.heap.size, 0, none⟩ = some (.int .i64 p.K) := by simp [World.cell?, hx0.pk]
  have p1 : WW.cell? ⟨w.heap.size, 1, none⟩ = some (.int .i64 p.A) := by simp [World.cell?, hx0.pk]
  have p2 : WW.cell? ⟨w.heap.size, 2, none⟩ = some (.int .i64 p.N) := by simp [World.cell?, hx0.pk]
  go_upto_region 2 with (fail)
  have hbx := (Below.refl WW.heap.size WW).alloc (Nat.le_refl _) (.cells #[.int .i64 p.K, .int .i64 p.A, .int .i64 p.N, .int .i64 0, .int .i64 0, .int .i64 0, .int .u64 0, .int .u64 0, .slice none 0 0, .int .u64 0, .bool false, .slice none 0 0] 51)
  have hb2 := hb0.alloc hb0.size (.cells #[.int .i64 p.K, .int .i64 p.A, .int .i64 p.N, .int .i64 0, .int .i64 0, .int .i64 0, .int .u64 0, .int .u64 0, .slice none 0 0, .int .u64 0, .bool false, .slice none 0 0] 51)
  have HEV := hx0.ev.below hbx
  have p0 := (hbx.cell (p := ⟨w.heap.size, 0, none⟩) (lt_of_cell p0)).trans p0
  have p1 := (hbx.cell (p := ⟨w.heap.size, 1, none⟩) (lt_of_cell p1)).trans p1
  have p2 := (hbx.cell (p := ⟨w.heap.size, 2, none⟩) (lt_of_cell p2)).trans p2
  have hnew := Go.Deep.blk_alloc_new WW (.cells #[.int .i64 p.K, .int .i64 p.A, .int .i64 p.N, .int .i64 0, .int .i64 0, .int .i64 0, .int .u64 0, .int .u64 0, .slice none 0 0, .int .u64 0, .bool false, .slice none 0 0] 51)
  rw [hsz0] at hnew
  have HEB2 : Hid (EvAt (w.heap.size + 1 + 1) (WW.alloc (.cells #[.int .i64 p.K, .int .i64 p.A, .int .i64 p.N, .int .i64 0, .int .i64 0, .int .i64 0, .int .u64 0, .int .u64 0, .slice none 0 0, .int .u64 0, .bool false, .slice none 0 0] 51)) p Ac.zero An.zero (.slice none 0 0) (.slice none 0 0)) := Lib.hid ⟨hnew⟩
  clear hnew
  generalize WW.alloc (.cells #[.int .i64 p.K, .int .i64 p.A, .int .i64 p.N, .int .i64 0, .int .i64 0, .int .i64 0, .int .u64 0, .int .u64 0, .slice none 0 0, .int .u64 0, .bool false, .slice none 0 0] 51) = W2 at hbx hb2 HEV p0 p1 p2 HEB2 ⊢
  have HB2 := Lib.hid hb2
  have HPW := Lib.hid (HS.out.below hb2)
  have r0 := HEV.e0
  have f0 := HEV.free 0
  have r1 := HEV.e1
  have f1 := HEV.free 1
  have r2 := HEV.e2
  have f2 := HEV.free 2
  have r3 := HEV.e3
  have f3 := HEV.free 3
  have r4 := HEV.e4
  have f4 := HEV.free 4
  have r5 := HEV.e5
  have f5 := HEV.free 5
  have r6 := HEV.e6
  have f6 := HEV.free 6
  have r7 := HEV.e7
  have f7 := HEV.free 7
  have r8 := HEV.e8
  have f8 := HEV.free 8
  have r9 := HEV.e9
  have f9 := HEV.free 9
  have r10 := HEV.e10
  have f10 := HEV.free 10
  have r11 := HEV.e11
  have f11 := HEV.free 11
  have HEV2 := Lib.hid HEV
  clear HEV hbx hb2 hb0 hx0 hsz0
  have hna : 0 < st.na := by omega
  have hJA := HPW.out.jrow hna
  obtain ⟨hJ1, hJ2⟩ := hJA
  subst hJ1
  have g1 : W2.cell? ⟨gp, 1, none⟩ = some (.slice (some ⟨jb, 0, none⟩) st.na c5) := by simp [World.cell?, HPW.out.head]
  have hj5 := (HPW.out.job i hi).c5
  have hz5 := (HPW.out.job i hi).f5
  have hroom := HPW.out.room
  have hjl : jb < w.heap.size := HS.out.plt jb (by rw [hJ2]; simp)
  have HJ2 := Lib.hid hJ2
  clear hJ2
  rw [HD.out] at hj5
  rw [HA.out] at p1
  rw [HK.out] at p0
  go_upto_region 10 with (fail)
  go_quiet (fail)
  obtain ⟨n1, rfl⟩ : ∃ n, n = nq := ⟨_, rfl⟩
  go_upto_region 12 with (fail)
  go_quiet (fail)
  go_upto_region 25 with (fail)
  have hdn := drewN_below W2 (n1 + nq)
  have HS5 := Lib.hid ((HPW.out.below hdn).setDead hi)
  have HT5 : Hid (Touch (Mut o) w ((W2.drewN (n1 + nq)).setCell ⟨jb, i * 6 + 5, none⟩ (.bool true))) := Lib.hid (((Touch.of_below HB2.out).trans (Touch.of_below hdn)).setCell (p := ⟨jb, i * 6 + 5, none⟩) (show Mut o jb by unfold Mut; rw [HJ2.out]; simp) _)
  have HEB5 : Hid (EvAt (w.heap.size + 1 + 1) ((W2.drewN (n1 + nq)).setCell ⟨jb, i * 6 + 5, none⟩ (.bool true)) p Ac.zero An.zero (.slice none 0 0) (.slice none 0 0)) := Lib.hid (HEB2.out.of_block (Below.heap_setCell (W2.drewN (n1 + nq)) ⟨jb, i * 6 + 5, none⟩ _ _ (by show w.heap.size + 1 + 1 ≠ jb; omega)))
  have HEV5 : Hid (EvNew (w.heap.size + 1) ((W2.drewN (n1 + nq)).setCell ⟨jb, i * 6 + 5, none⟩ (.bool true))) := Lib.hid (HEV2.out.of_block (Below.heap_setCell (W2.drewN (n1 + nq)) ⟨jb, i * 6 + 5, none⟩ _ _ (by show w.heap.size + 1 ≠ jb; omega)))
  clear g1 hj5 hz5 hdn p0 p1 p2 r0 r1 r2 r3 r4 r5 r6 r7 r8 r9 r10 r11 f0 f1 f2 f3 f4 f5 f6 f7 f8 f9 f10 f11
  generalize (W2.drewN (n1 + nq)).setCell ⟨jb, i * 6 + 5, none⟩ (.bool true) = W5 at HS5 HT5 HEB5 HEV5 ⊢
  have HE5 : Hid (EvAt (w.heap.size + 1 + 1) W5 p Ac.zero An.zero (.slice none 0 0) (.slice none 0 0)) := HEB5
  have HV5 : Hid (EvNew (w.heap.size + 1) W5) := HEV5
  have hlr := HV5.out.lt
  have hls5 := HE5.out.lt
  have hgp5 : gp < W5.heap.size := by omega
  have hneb : gp ≠ w.heap.size + 1 + 1 := by omega
  have hwz : w.heap.size + 1 + 1 = w.heap.size + 2 := rfl
  obtain ⟨eB, hEB⟩ : ∃ b, b = w.heap.size + 1 + 1 := ⟨_, rfl⟩
  rw [← hEB] at HE5 hls5 hneb ⊢
  have HEB := Lib.hid hEB
  have heb : w.heap.size < eB := by omega
  clear hEB hwz
  have w35 : W5.cell? ⟨gp, 3, none⟩ = some tv := by simp [World.cell?, HS5.out.head]
  have hz3 : W5.frozen? ⟨gp, 3, none⟩ = false := by simp [World.frozen?, HS5.out.head]
  have nng : tv.ownBlock ≠ some gp := fun e => by have := (HS5.out.town gp e).symm.trans HS5.out.pgp; cases this
  have nn5 : tv.ownBlock ≠ some eB := fun e => by have := HS.out.plt eB (by rw [HS5.out.town eB e]; simp); omega
  have hgw5 := hgp5
  have hn2 : ¬ gp = eB := hneb
  have hn3 : ¬ eB = gp := fun e => hn2 e.symm
  have v0 : W5.cell? ⟨eB, 0, none⟩ = some (.int .i64 p.K) := HE5.out.e0
  have v1 : W5.cell? ⟨eB, 1, none⟩ = some (.int .i64 p.A) := HE5.out.e1
  have v2 : W5.cell? ⟨eB, 2, none⟩ = some (.int .i64 p.N) := HE5.out.e2
  have v3 : W5.cell? ⟨eB, 3, none⟩ = some (.int .i64 0) := HE5.out.e3
  have v4 : W5.cell? ⟨eB, 4, none⟩ = some (.int .i64 0) := HE5.out.e4
  have v5 : W5.cell? ⟨eB, 5, none⟩ = some (.int .i64 0) := HE5.out.e5
  have v6 : W5.cell? ⟨eB, 6, none⟩ = some (.int .u64 0) := HE5.out.e6
  have v7 : W5.cell? ⟨eB, 7, none⟩ = some (.int .u64 0) := HE5.out.e7
  have v8 : W5.cell? ⟨eB, 8, none⟩ = some (.slice none 0 0) := HE5.out.e8
  have v9 : W5.cell? ⟨eB, 9, none⟩ = some (.int .u64 0) := HE5.out.e9
  have v10 : W5.cell? ⟨eB, 10, none⟩ = some (.bool false) := HE5.out.e10
  have v11 : W5.cell? ⟨eB, 11, none⟩ = some (.slice none 0 0) := HE5.out.e11
  go_cut [] (fun wx => ∃ (o2 : Nat → Pt) (tv2 : Value) (ts2 : List Tx), PW wx o2 gp q jb (some ⟨jb, 0, none⟩) c5 js pj tv2 ts2 ((st.kill i).push (.bare p)) ∧ Touch (Mut o) W5 wx ∧ ∀ k, k < W5.heap.size → o2 k = o k)
  case first =>
    refine wp_region_noPanic ?_
    refine wp_region_held_drew (S := fun w' => w'.cell? ⟨eB, 0, none⟩ = some (.int .i64 p.K) ∧ w'.cell? ⟨eB, 1, none⟩ = some (.int .i64 p.A) ∧ w'.cell? ⟨eB, 2, none⟩ = some (.int .i64 p.N) ∧ w'.cell? ⟨eB, 3, none⟩ = some (.int .i64 0) ∧ w'.cell? ⟨eB, 4, none⟩ = some (.int .i64 0) ∧ w'.cell? ⟨eB, 5, none⟩ = some (.int .i64 0) ∧ w'.cell? ⟨eB, 6, none⟩ = some (.int .u64 0) ∧ w'.cell? ⟨eB, 7, none⟩ = some (.int .u64 0) ∧ w'.cell? ⟨eB, 8, none⟩ = some (.slice none 0 0) ∧ w'.cell? ⟨eB, 9, none⟩ = some (.int .u64 0) ∧ w'.cell? ⟨eB, 10, none⟩ = some (.bool false) ∧ w'.cell? ⟨eB, 11, none⟩ = some (.slice none 0 0)) (by kernel_rfl) ?_ (fun hHeld => ?_)
    · (try dsimp only); go_keep
    refine wpAnyH_take (i := 0) (oi := _) (v := ?_) rfl (by kernel_rfl) (by kernel_rfl) (by kernel_rfl) (fun _ _ _ h => h) (Or.inl ⟨by rfl, ?_⟩) (by assumption) ?_
    rotate_left
    · (intro w hSw; (try dsimp only at hSw); go_simp; try (with_reducible rfl))
    try simp only [Act.put, Array.reduceGetElem, List.setIfInBounds_toArray, List.set_cons_zero, List.set_cons_succ]
    refine wpAnyH_take (i := 1) (oi := _) (v := ?_) rfl (by kernel_rfl) (by kernel_rfl) (by kernel_rfl) (fun _ _ _ h => h) (Or.inl ⟨by rfl, ?_⟩) (by assumption) ?_
    rotate_left
    · (intro w hSw; (try dsimp only at hSw); go_simp; try (with_reducible rfl))
    try simp only [Act.put, Array.reduceGetElem, List.setIfInBounds_toArray, List.set_cons_zero, List.set_cons_succ]
    refine wpAnyH_take (i := 2) (oi := _) (v := ?_) rfl (by kernel_rfl) (by kernel_rfl) (by kernel_rfl) (fun _ _ _ h => h) (Or.inl ⟨by rfl, ?_⟩) (by assumption) ?_
    rotate_left
    · (intro w hSw; (try dsimp only at hSw); go_simp; try (with_reducible rfl))
    try simp only [Act.put, Array.reduceGetElem, List.setIfInBounds_toArray, List.set_cons_zero, List.set_cons_succ]
    refine wpAnyH_take (i := 3) (oi := _) (v := ?_) rfl (by kernel_rfl) (by kernel_rfl) (by kernel_rfl) (fun _ _ _ h => h) (Or.inl ⟨by rfl, ?_⟩) (by assumption) ?_
    rotate_left
    · (intro w hSw; (try dsimp only at hSw); go_simp; try (with_reducible rfl))
    try simp only [Act.put, Array.reduceGetElem, List.setIfInBounds_toArray, List.set_cons_zero, List.set_cons_succ]
    refine wpAnyH_take (i := 5) (oi := _) (v := ?_) rfl (by kernel_rfl) (by kernel_rfl) (by kernel_rfl) (fun _ _ _ h => h) (Or.inl ⟨by rfl, ?_⟩) (by assumption) ?_
    rotate_left
    · (intro w hSw; (try dsimp only at hSw); go_simp; try (with_reducible rfl))
    try simp only [Act.put, Array.reduceGetElem, List.setIfInBounds_toArray, List.set_cons_zero, List.set_cons_succ]
    refine wpAnyH_ready (rs := [4, 6]) (by kernel_rfl) (by simp) ?_
    refine AllReadyH.cons (o := _) rfl (fun K9 hK => ?_) ?_
    rotate_left
    · refine AllReadyH.cons (o := _) rfl (fun K9 hK => ?_) ?_
      rotate_left
      · exact AllReadyH.nil
      go_simp
      refine hK.out _ _ ?_ (fun hHeld => ?_)
      · (try dsimp only); go_keep
      clear hK K9
      try simp only [Act.put, Array.reduceGetElem, List.setIfInBounds_toArray, List.set_cons_zero, List.set_cons_succ]
      refine wpAnyH_ready (rs := [4]) (by kernel_rfl) (by simp) ?_
      refine AllReadyH.cons (o := _) rfl (fun K9 hK => ?_) ?_
      rotate_left
      · exact AllReadyH.nil
      go_simp
      refine hK.out _ _ ?_ (fun hHeld => ?_)
      · (try dsimp only); go_keep
      clear hK K9
      try simp only [Act.put, Array.reduceGetElem, List.setIfInBounds_toArray, List.set_cons_zero, List.set_cons_succ]
      refine wpAnyH_ready (rs := [7]) (by kernel_rfl) (by simp) ?_
      refine AllReadyH.cons (o := _) rfl (fun K9 hK => ?_) ?_
      rotate_left
      · exact AllReadyH.nil
      refine step_app_ev rfl _ _ rfl tv ts.length _ ⟨.bare p, .slice none 0 0, .slice none 0 0⟩ _ _ rfl rfl (HS5.out.below ((Below.refl _ W5).drew.alloc (Nat.le_refl _) _)).trow (Go.Deep.blk_alloc_new _ _) rfl rfl HL.out ?_
      intro v7 w7 happ
      obtain ⟨g7, q7, rfl⟩ := happ.form
      have kf7 := fun (q : Addr) (hq : q.block < W5.heap.size) (hnq : tv.ownBlock ≠ some q.block) => app_cell ((Below.refl _ W5).drew.alloc (Nat.le_refl _) _) happ hq hnq
      have kg7 := (kf7 ⟨gp, 3, none⟩ hgw5 nng).trans w35
      have kw0 := (kf7 ⟨eB, 0, none⟩ hls5 nn5).trans v0
      have kw1 := (kf7 ⟨eB, 1, none⟩ hls5 nn5).trans v1
      have kw2 := (kf7 ⟨eB, 2, none⟩ hls5 nn5).trans v2
      have kw3 := (kf7 ⟨eB, 3, none⟩ hls5 nn5).trans v3
      have kw4 := (kf7 ⟨eB, 4, none⟩ hls5 nn5).trans v4
      have kw5 := (kf7 ⟨eB, 5, none⟩ hls5 nn5).trans v5
      have kw6 := (kf7 ⟨eB, 6, none⟩ hls5 nn5).trans v6
      have kw7 := (kf7 ⟨eB, 7, none⟩ hls5 nn5).trans v7
      have kw8 := (kf7 ⟨eB, 8, none⟩ hls5 nn5).trans v8
      have kw9 := (kf7 ⟨eB, 9, none⟩ hls5 nn5).trans v9
      have kw10 := (kf7 ⟨eB, 10, none⟩ hls5 nn5).trans v10
      have kw11 := (kf7 ⟨eB, 11, none⟩ hls5 nn5).trans v11
      have kz7 := (app_frozen ((Below.refl _ W5).drew.alloc (Nat.le_refl _) _) happ (q := ⟨gp, 3, none⟩) hgw5 nng).trans hz3
      clear kf7
      have HAP := Lib.hid happ
      clear happ
      try go_simp
      refine hK.out _ _ ?_ (fun hHeld => ?_)
      · (try dsimp only); go_keep
      clear hK K9
      try simp only [Act.put, Array.reduceGetElem, List.setIfInBounds_toArray, List.set_cons_zero, List.set_cons_succ]
      refine wpAnyH_take (i := 8) (oi := _) (v := ?_) rfl (by kernel_rfl) (by kernel_rfl) (by kernel_rfl) (fun _ _ _ h => h) (Or.inl ⟨by rfl, ?_⟩) (by assumption) ?_
      rotate_left
      · (intro w hSw; (try dsimp only at hSw); go_simp; try (with_reducible rfl))
      try simp only [Act.put, Array.reduceGetElem, List.setIfInBounds_toArray, List.set_cons_zero, List.set_cons_succ]
      refine wpAnyH_take (i := 9) (oi := _) (v := ?_) rfl (by kernel_rfl) (by kernel_rfl) (by kernel_rfl) (fun _ _ _ h => h) (Or.inl ⟨by rfl, ?_⟩) (by assumption) ?_
      rotate_left
      · (intro w hSw; (try dsimp only at hSw); go_simp; try (with_reducible rfl))
      try simp only [Act.put, Array.reduceGetElem, List.setIfInBounds_toArray, List.set_cons_zero, List.set_cons_succ]
      refine wpAnyH_ready (rs := [10]) (by kernel_rfl) (by simp) ?_
      refine AllReadyH.cons (o := _) rfl (fun K9 hK => ?_) ?_
      rotate_left
      · exact AllReadyH.nil
      go_simp
      refine hK.out _ _ ?_ (fun hHeld => ?_)
      · (try dsimp only); go_keep
      clear hK K9
      try simp only [Act.put, Array.reduceGetElem, List.setIfInBounds_toArray, List.set_cons_zero, List.set_cons_succ]
      refine wpAnyH_done (by kernel_rfl) ?_ _
      refine NoPanic.normal ?_
      go_wp2_with fail
      go_meet
      obtain ⟨o9, z1, z2, z3⟩ := HS5.out.push ((Below.refl _ W5).drew.alloc (Nat.le_refl _) _) ⟨.bare p, .slice none 0 0, .slice none 0 0⟩ (BytesIn.none _ _) (BytesIn.none _ _) HAP.out
      exact ⟨o9, _, _, z1, z2, z3⟩
    go_simp
    refine hK.out _ _ ?_ (fun hHeld => ?_)
    · (try dsimp only); go_keep
    clear hK K9
    try simp only [Act.put, Array.reduceGetElem, List.setIfInBounds_toArray, List.set_cons_zero, List.set_cons_succ]
    refine wpAnyH_ready (rs := [6]) (by kernel_rfl) (by simp) ?_
    refine AllReadyH.cons (o := _) rfl (fun K9 hK => ?_) ?_
    rotate_left
    · exact AllReadyH.nil
    go_simp
    refine hK.out _ _ ?_ (fun hHeld => ?_)
    · (try dsimp only); go_keep
    clear hK K9
    try simp only [Act.put, Array.reduceGetElem, List.setIfInBounds_toArray, List.set_cons_zero, List.set_cons_succ]
    refine wpAnyH_ready (rs := [7]) (by kernel_rfl) (by simp) ?_
    refine AllReadyH.cons (o := _) rfl (fun K9 hK => ?_) ?_
    rotate_left
    · exact AllReadyH.nil
    refine step_app_ev rfl _ _ rfl tv ts.length _ ⟨.bare p, .slice none 0 0, .slice none 0 0⟩ _ _ rfl rfl (HS5.out.below ((Below.refl _ W5).drew.alloc (Nat.le_refl _) _)).trow (Go.Deep.blk_alloc_new _ _) rfl rfl HL.out ?_
    intro v7 w7 happ
    obtain ⟨g7, q7, rfl⟩ := happ.form
    have kf7 := fun (q : Addr) (hq : q.block < W5.heap.size) (hnq : tv.ownBlock ≠ some q.block) => app_cell ((Below.refl _ W5).drew.alloc (Nat.le_refl _) _) happ hq hnq
    have kg7 := (kf7 ⟨gp, 3, none⟩ hgw5 nng).trans w35
    have kw0 := (kf7 ⟨eB, 0, none⟩ hls5 nn5).trans v0
    have kw1 := (kf7 ⟨eB, 1, none⟩ hls5 nn5).trans v1
    have kw2 := (kf7 ⟨eB, 2, none⟩ hls5 nn5).trans v2
    have kw3 := (kf7 ⟨eB, 3, none⟩ hls5 nn5).trans v3
    have kw4 := (kf7 ⟨eB, 4, none⟩ hls5 nn5).trans v4
    have kw5 := (kf7 ⟨eB, 5, none⟩ hls5 nn5).trans v5
    have kw6 := (kf7 ⟨eB, 6, none⟩ hls5 nn5).trans v6
    have kw7 := (kf7 ⟨eB, 7, none⟩ hls5 nn5).trans v7
    have kw8 := (kf7 ⟨eB, 8, none⟩ hls5 nn5).trans v8
    have kw9 := (kf7 ⟨eB, 9, none⟩ hls5 nn5).trans v9
    have kw10 := (kf7 ⟨eB, 10, none⟩ hls5 nn5).trans v10
    have kw11 := (kf7 ⟨eB, 11, none⟩ hls5 nn5).trans v11
    have kz7 := (app_frozen ((Below.refl _ W5).drew.alloc (Nat.le_refl _) _) happ (q := ⟨gp, 3, none⟩) hgw5 nng).trans hz3
    clear kf7
    have HAP := Lib.hid happ
    clear happ
    try go_simp
    refine hK.out _ _ ?_ (fun hHeld => ?_)
    · (try dsimp only); go_keep
    clear hK K9
    try simp only [Act.put, Array.reduceGetElem, List.setIfInBounds_toArray, List.set_cons_zero, List.set_cons_succ]
    refine wpAnyH_take (i := 8) (oi := _) (v := ?_) rfl (by kernel_rfl) (by kernel_rfl) (by kernel_rfl) (fun _ _ _ h => h) (Or.inl ⟨by rfl, ?_⟩) (by assumption) ?_
    rotate_left
    · (intro w hSw; (try dsimp only at hSw); go_simp; try (with_reducible rfl))
    try simp only [Act.put, Array.reduceGetElem, List.setIfInBounds_toArray, List.set_cons_zero, List.set_cons_succ]
    refine wpAnyH_take (i := 9) (oi := _) (v := ?_) rfl (by kernel_rfl) (by kernel_rfl) (by kernel_rfl) (fun _ _ _ h => h) (Or.inl ⟨by rfl, ?_⟩) (by assumption) ?_
    rotate_left
    · (intro w hSw; (try dsimp only at hSw); go_simp; try (with_reducible rfl))
    try simp only [Act.put, Array.reduceGetElem, List.setIfInBounds_toArray, List.set_cons_zero, List.set_cons_succ]
    refine wpAnyH_ready (rs := [10]) (by kernel_rfl) (by simp) ?_
    refine AllReadyH.cons (o := _) rfl (fun K9 hK => ?_) ?_
    rotate_left
    · exact AllReadyH.nil
    go_simp
    refine hK.out _ _ ?_ (fun hHeld => ?_)
    · (try dsimp only); go_keep
    clear hK K9
    try simp only [Act.put, Array.reduceGetElem, List.setIfInBounds_toArray, List.set_cons_zero, List.set_cons_succ]
    refine wpAnyH_done (by kernel_rfl) ?_ _
    refine NoPanic.normal ?_
    go_wp2_with fail
    go_meet
    obtain ⟨o9, z1, z2, z3⟩ := HS5.out.push ((Below.refl _ W5).drew.alloc (Nat.le_refl _) _) ⟨.bare p, .slice none 0 0, .slice none 0 0⟩ (BytesIn.none _ _) (BytesIn.none _ _) HAP.out
    exact ⟨o9, _, _, z1, z2, z3⟩
  case rest =>
    obtain ⟨o2, tv2, ts2, hs2, ht2, ho2⟩ := hcut
    have hnm : ∀ k, w.heap.size ≤ k → ¬ Mut o k := fun k hk e => e.1 (HS.out.new_no hk)
    have hE := HE5.out.of_block (ht2.block _ hls5 (hnm _ (by omega)))
    have hV := HV5.out.of_block (ht2.block _ hlr (hnm _ (by omega)))
    have HS7 := Lib.hid hs2
    have HT7 := Lib.hid (And.intro ht2 ho2)
    have e0 : wc.cell? ⟨eB, 0, none⟩ = some (.int .i64 p.K) := hE.e0
    have e1 : wc.cell? ⟨eB, 1, none⟩ = some (.int .i64 p.A) := hE.e1
    have e2 : wc.cell? ⟨eB, 2, none⟩ = some (.int .i64 p.N) := hE.e2
    have e3 : wc.cell? ⟨eB, 3, none⟩ = some (.int .i64 0) := hE.e3
    have e4 : wc.cell? ⟨eB, 4, none⟩ = some (.int .i64 0) := hE.e4
    have e5 : wc.cell? ⟨eB, 5, none⟩ = some (.int .i64 0) := hE.e5
    have e6 : wc.cell? ⟨eB, 6, none⟩ = some (.int .u64 0) := hE.e6
    have e7 : wc.cell? ⟨eB, 7, none⟩ = some (.int .u64 0) := hE.e7
    have e8 : wc.cell? ⟨eB, 8, none⟩ = some (.slice none 0 0) := hE.e8
    have e9 : wc.cell? ⟨eB, 9, none⟩ = some (.int .u64 0) := hE.e9
    have e10 : wc.cell? ⟨eB, 10, none⟩ = some (.bool false) := hE.e10
    have e11 : wc.cell? ⟨eB, 11, none⟩ = some (.slice none 0 0) := hE.e11
    have r0 : wc.cell? ⟨w.heap.size + 1, 0, none⟩ = some (.int .i64 0) := hV.e0
    have f0 := hV.free 0
    have r1 : wc.cell? ⟨w.heap.size + 1, 1, none⟩ = some (.int .i64 0) := hV.e1
    have f1 := hV.free 1
    have r2 : wc.cell? ⟨w.heap.size + 1, 2, none⟩ = some (.int .i64 0) := hV.e2
    have f2 := hV.free 2
    have r3 : wc.cell? ⟨w.heap.size + 1, 3, none⟩ = some (.int .i64 0) := hV.e3
    have f3 := hV.free 3
    have r4 : wc.cell? ⟨w.heap.size + 1, 4, none⟩ = some (.int .i64 0) := hV.e4
    have f4 := hV.free 4
    have r5 : wc.cell? ⟨w.heap.size + 1, 5, none⟩ = some (.int .i64 0) := hV.e5
    have f5 := hV.free 5
    have r6 : wc.cell? ⟨w.heap.size + 1, 6, none⟩ = some (.int .u64 0) := hV.e6
    have f6 := hV.free 6
    have r7 : wc.cell? ⟨w.heap.size + 1, 7, none⟩ = some (.int .u64 0) := hV.e7
    have f7 := hV.free 7
    have r8 : wc.cell? ⟨w.heap.size + 1, 8, none⟩ = some (.slice none 0 0) := hV.e8
    have f8 := hV.free 8
    have r9 : wc.cell? ⟨w.heap.size + 1, 9, none⟩ = some (.int .u64 0) := hV.e9
    have f9 := hV.free 9
    have r10 : wc.cell? ⟨w.heap.size + 1, 10, none⟩ = some (.bool false) := hV.e10
    have f10 := hV.free 10
    have r11 : wc.cell? ⟨w.heap.size + 1, 11, none⟩ = some (.slice none 0 0) := hV.e11
    have f11 := hV.free 11
    have hlc := ht2.size
    clear hE hV hs2 ht2 ho2 v0 v1 v2 v3 v4 v5 v6 v7 v8 v9 v10 v11 w35 hz3
    go_wp2
    refine bodyPost_ret (v := .tuple #[.agg #[.int .i64 p.K, .int .i64 p.A, .int .i64 p.N, .int .i64 0, .int .i64 0, .int .i64 0, .int .u64 0, .int .u64 0, .slice none 0 0, .int .u64 0, .bool false, .slice none 0 0], .int .i64 0]) (by simp [results, Try.results12, go_sem, r0, r1, r2, r3, r4, r5, r6, r7, r8, r9, r10, r11]) rfl ?_
    have ht12 := twelve_touch wc (w.heap.size + 1) (.int .i64 p.K) (.int .i64 p.A) (.int .i64 p.N) (.int .i64 0) (.int .i64 0) (.int .i64 0) (.int .u64 0) (.int .u64 0) (.slice none 0 0) (.int .u64 0) (.bool false) (.slice none 0 0)
    refine ⟨o2, none, 0, 0, none, 0, 0, pj, tv2, ts2, rfl, BytesAt.nil _, BytesAt.nil _, HS7.out.touch ht12 fun k hk e => ?_, (HT5.out.trans HT7.out.1).trans' ht12 (Nat.le_succ _), fun k hk => HT7.out.2 k (by omega)⟩
    have e' : k = w.heap.size + 1 := e
    exact hk ((HT7.out.2 k (by omega)).trans (HS.out.new_no (by omega)))
end Go.Proofs.Ytegjnejekakeiaa
namespace Go.Proofs.Ytegjnejekakeiaa
open Go.RowKit

set_option maxRecDepth 100000 in
set_option maxHeartbeats 2000000 in
theorem plainPick_end {w : World} {o : Nat → Pt} {gp q jb : Nat} {JA : Option Addr} {c5 : Nat} {js : Nat → Jb} {pj : Nat → PJ} {tv : Value} {ts : List Tx} {st : St} (h : PW w o gp q jb JA c5 js pj tv ts st) (p : Pk) (hK : p.K = 0) (i : Nat) (hA : p.A = i) (hi : i < st.na) (hd : st.dead i = false) (hn : (st.ms i).next = none) (hL : (js i).L ≤ 131072) (hlong : ts.length ≤ 1000000) :
    Calls Try.prog 12 #[.pointer (some ⟨gp, 0, none⟩), .agg #[.int .i64 p.K, .int .i64 p.A, .int .i64 p.N]] w (PlainTold o gp q jb JA c5 js (st.push (.bare p)) (.bare p) w) := by
  have hend : (js i).len ≤ 8 * (pj i).cnt := by
    obtain ⟨ys, hl⟩ := h.link i hi
    rw [hl, Mc.next_copy] at hn
    by_cases hz : (js i).len - 8 * (pj i).cnt = 0
    · omega
    · rw [if_neg hz] at hn; cases hn
  have HK := Lib.hid hK
  have HA := Lib.hid hA
  have HD := Lib.hid hd
  clear hK hA hd hn
  obtain ⟨WW, hWW⟩ : ∃ WW, WW = (w.alloc (.cells #[.int .i64 p.K, .int .i64 p.A, .int .i64 p.N] 44)).alloc (.cells #[.int .i64 0, .int .i64 0, .int .i64 0, .int .i64 0, .int .i64 0, .int .i64 0, .int .u64 0, .int .u64 0, .slice none 0 0, .int .u64 0, .bool false, .slice none 0 0] 51) := ⟨_, rfl⟩
  have HB := Lib.hid (pick_boxes w p WW hWW)
  have hlg : gp < w.heap.size := (Array.getElem?_eq_some_iff.1 h.head).1
  have HS := Lib.hid h
  have HL := Lib.hid hlong
  clear h hlong
  go_enter Try.func12, Try.ntmps12
  go_upto_region 1 with (fail)
  rw [← hWW]
  clear hWW
  obtain ⟨hb0, hx0, hsz0⟩ := HB.out
  have p0 : WW.cell? ⟨w.heap.size, 0, none⟩ = some (.int .i64 p.K) := by simp [World.cell?, hx0.pk]
  have p1 : WW.cell? ⟨w.heap.size, 1, none⟩ = some (.int .i64 p.A) := by simp [World.cell?, hx0.pk]
  have p2 : WW.cell? ⟨w.heap.size, 2, none⟩ = some (.int .i64 p.N) := by simp [World.cell?, hx0.pk]
  go_upto_region 2 with (fail)
  have hbx := (Below.refl WW.heap.size WW).alloc (Nat.le_refl _) (.cells #[.int .i64 p.K, .int .i64 p.A, .int .i64 p.N, .int .i64 0, .int .i64 0, .int .i64 0, .int .u64 0, .int .u64 0, .slice none 0 0, .int .u64 0, .bool false, .slice none 0 0] 51)
  have hb2 := hb0.alloc hb0.size (.cells #[.int .i64 p.K, .int .i64 p.A, .int .i64 p.N, .int .i64 0, .int .i64 0, .int .i64 0, .int .u64 0, .int .u64 0, .slice none 0 0, .int .u64 0, .bool false, .slice none 0 0] 51)
  have HEV := hx0.ev.below hbx
  have p0 := (hbx.cell (p := ⟨w.heap.size, 0, none⟩) (lt_of_cell p0)).trans p0
  have p1 := (hbx.cell (p := ⟨w.heap.size, 1, none⟩) (lt_of_cell p1)).trans p1
  have p2 := (hbx.cell (p := ⟨w.heap.size, 2, none⟩) (lt_of_cell p2)).trans p2
  have hnew := Go.Deep.blk_alloc_new WW (.cells #[.int .i64 p.K, .int .i64 p.A, .int .i64 p.N, .int .i64 0, .int .i64 0, .int .i64 0, .int .u64 0, .int .u64 0, .slice none 0 0, .int .u64 0, .bool false, .slice none 0 0] 51)
  rw [hsz0] at hnew
  have HEB2 : Hid (EvAt (w.heap.size + 1 + 1) (WW.alloc (.cells #[.int .i64 p.K, .int .i64 p.A, .int .i64 p.N, .int .i64 0, .int .i64 0, .int .i64 0, .int .u64 0, .int .u64 0, .slice none 0 0, .int .u64 0, .bool false, .slice none 0 0] 51)) p Ac.zero An.zero (.slice none 0 0) (.slice none 0 0)) := Lib.hid ⟨hnew⟩
  clear hnew
  generalize WW.alloc (.cells #[.int .i64 p.K, .int .i64 p.A, .int .i64 p.N, .int .i64 0, .int .i64 0, .int .i64 0, .int .u64 0, .int .u64 0, .slice none 0 0, .int .u64 0, .bool false, .slice none 0 0] 51) = W2 at hbx hb2 HEV p0 p1 p2 HEB2 ⊢
  have HB2 := Lib.hid hb2
  have HPW := Lib.hid (HS.out.below hb2)
  have r0 := HEV.e0
  have f0 := HEV.free 0
  have r1 := HEV.e1
  have f1 := HEV.free 1
  have r2 := HEV.e2
  have f2 := HEV.free 2
  have r3 := HEV.e3
  have f3 := HEV.free 3
  have r4 := HEV.e4
  have f4 := HEV.free 4
  have r5 := HEV.e5
  have f5 := HEV.free 5
  have r6 := HEV.e6
  have f6 := HEV.free 6
  have r7 := HEV.e7
  have f7 := HEV.free 7
  have r8 := HEV.e8
  have f8 := HEV.free 8
  have r9 := HEV.e9
  have f9 := HEV.free 9
  have r10 := HEV.e10
  have f10 := HEV.free 10
  have r11 := HEV.e11
  have f11 := HEV.free 11
  have HEV2 := Lib.hid HEV
  clear HEV hbx hb2 hb0 hx0 hsz0
  have hna : 0 < st.na := by omega
  have hJA := HPW.out.jrow hna
  obtain ⟨hJ1, hJ2⟩ := hJA
  subst hJ1
  have g1 : W2.cell? ⟨gp, 1, none⟩ = some (.slice (some ⟨jb, 0, none⟩) st.na c5) := by simp [World.cell?, HPW.out.head]
  obtain ⟨j0, j1, j2, j3, j4, hj5, _, _⟩ := HPW.out.job i hi
  have hroom := HPW.out.room
  have hjl : jb < w.heap.size := HS.out.plt jb (by rw [hJ2]; simp)
  have HJ2 := Lib.hid hJ2
  clear hJ2
  rw [HD.out] at hj5
  rw [HA.out] at p1
  rw [HK.out] at p0
  go_upto_region 10 with (fail)
  go_quiet (fail)
  obtain ⟨n1, rfl⟩ : ∃ n, n = nq := ⟨_, rfl⟩
  go_upto_region 12 with (fail)
  go_quiet (fail)
  have hdn := drewN_below W2 (n1 + nq)
  have HN : Hid (Calls Try.prog 19 #[.agg #[.int .i64 (((js i).K : Int) % 3), .int .i64 (js i).at_, .int .i64 (js i).num, (pj i).B, .slice (pj i).A (pj i).cnt (pj i).cap, .bool false]] (W2.drewN (n1 + nq)) fun e w' => e = .returned (.tuple #[.agg #[.int .i64 0, .int .i64 0, .int .i64 0, .int .u64 0, .int .u64 0, .slice none 0 0], .bool false]) ∧ Below (W2.drewN (n1 + nq)).heap.size (W2.drewN (n1 + nq)) w') :=
    Lib.hid (((HPW.out.below hdn).next hi hL false).mono fun e w' hs => ⟨hs.2.elim (fun h => absurd h.1 (by omega)) (fun h => h.2), hs.1⟩)
  have HDN := Lib.hid hdn
  clear hdn hend
  go_upto_region 25 with (go_at_call 19; refine HN.out.mono ?_; rintro e w5 ⟨rfl, hb5⟩)
  have hb6 : Below W2.heap.size W2 (w5.alloc (.cells #[.int .i64 0, .int .i64 0, .int .i64 0, .int .u64 0, .int .u64 0, .slice none 0 0] 47)) := (HDN.out.trans hb5).alloc (Nat.le_trans HDN.out.size hb5.size) _
  have HS5 := Lib.hid (HPW.out.below hb6)
  have HT5 : Hid (Touch (Mut o) w (w5.alloc (.cells #[.int .i64 0, .int .i64 0, .int .i64 0, .int .u64 0, .int .u64 0, .slice none 0 0] 47))) := Lib.hid ((Touch.of_below HB2.out).trans (Touch.of_below hb6))
  have HEB5 : Hid (EvAt (w.heap.size + 1 + 1) (w5.alloc (.cells #[.int .i64 0, .int .i64 0, .int .i64 0, .int .u64 0, .int .u64 0, .slice none 0 0] 47)) p Ac.zero An.zero (.slice none 0 0) (.slice none 0 0)) := Lib.hid (HEB2.out.of_block (hb6.block _ HEB2.out.lt))
  have HEV5 : Hid (EvNew (w.heap.size + 1) (w5.alloc (.cells #[.int .i64 0, .int .i64 0, .int .i64 0, .int .u64 0, .int .u64 0, .slice none 0 0] 47))) := Lib.hid (HEV2.out.of_block (hb6.block _ HEV2.out.lt))
  clear HN hb5 hb6 j0 j1 j2 j3 j4 g1 hj5 p0 p1 p2 r0 r1 r2 r3 r4 r5 r6 r7 r8 r9 r10 r11 f0 f1 f2 f3 f4 f5 f6 f7 f8 f9 f10 f11
  generalize w5.alloc (.cells #[.int .i64 0, .int .i64 0, .int .i64 0, .int .u64 0, .int .u64 0, .slice none 0 0] 47) = W5 at HS5 HT5 HEB5 HEV5 ⊢
  have HE5 : Hid (EvAt (w.heap.size + 1 + 1) W5 p Ac.zero An.zero (.slice none 0 0) (.slice none 0 0)) := HEB5
  have HV5 : Hid (EvNew (w.heap.size + 1) W5) := HEV5
  have hlr := HV5.out.lt
  have hls5 := HE5.out.lt
  have hgp5 : gp < W5.heap.size := by omega
  have hneb : gp ≠ w.heap.size + 1 + 1 := by omega
  have hwz : w.heap.size + 1 + 1 = w.heap.size + 2 := rfl
  obtain ⟨eB, hEB⟩ : ∃ b, b = w.heap.size + 1 + 1 := ⟨_, rfl⟩
  rw [← hEB] at HE5 hls5 hneb ⊢
  have HEB := Lib.hid hEB
  have heb : w.heap.size < eB := by omega
  clear hEB hwz
  have w35 : W5.cell? ⟨gp, 3, none⟩ = some tv := by simp [World.cell?, HS5.out.head]
  have hz3 : W5.frozen? ⟨gp, 3, none⟩ = false := by simp [World.frozen?, HS5.out.head]
  have nng : tv.ownBlock ≠ some gp := fun e => by have := (HS5.out.town gp e).symm.trans HS5.out.pgp; cases this
  have nn5 : tv.ownBlock ≠ some eB := fun e => by have := HS.out.plt eB (by rw [HS5.out.town eB e]; simp); omega
  have hgw5 := hgp5
  have hn2 : ¬ gp = eB := hneb
  have hn3 : ¬ eB = gp := fun e => hn2 e.symm
  have v0 : W5.cell? ⟨eB, 0, none⟩ = some (.int .i64 p.K) := HE5.out.e0
  have v1 : W5.cell? ⟨eB, 1, none⟩ = some (.int .i64 p.A) := HE5.out.e1
  have v2 : W5.cell? ⟨eB, 2, none⟩ = some (.int .i64 p.N) := HE5.out.e2
  have v3 : W5.cell? ⟨eB, 3, none⟩ = some (.int .i64 0) := HE5.out.e3
  have v4 : W5.cell? ⟨eB, 4, none⟩ = some (.int .i64 0) := HE5.out.e4
  have v5 : W5.cell? ⟨eB, 5, none⟩ = some (.int .i64 0) := HE5.out.e5
  have v6 : W5.cell? ⟨eB, 6, none⟩ = some (.int .u64 0) := HE5.out.e6
  have v7 : W5.cell? ⟨eB, 7, none⟩ = some (.int .u64 0) := HE5.out.e7
  have v8 : W5.cell? ⟨eB, 8, none⟩ = some (.slice none 0 0) := HE5.out.e8
  have v9 : W5.cell? ⟨eB, 9, none⟩ = some (.int .u64 0) := HE5.out.e9
  have v10 : W5.cell? ⟨eB, 10, none⟩ = some (.bool false) := HE5.out.e10
  have v11 : W5.cell? ⟨eB, 11, none⟩ = some (.slice none 0 0) := HE5.out.e11
  go_cut [] (fun wx => ∃ (o2 : Nat → Pt) (tv2 : Value) (ts2 : List Tx), PW wx o2 gp q jb (some ⟨jb, 0, none⟩) c5 js pj tv2 ts2 (st.push (.bare p)) ∧ Touch (Mut o) W5 wx ∧ ∀ k, k < W5.heap.size → o2 k = o k)
  case first =>
    refine wp_region_noPanic ?_
    refine wp_region_held_drew (S := fun w' => w'.cell? ⟨eB, 0, none⟩ = some (.int .i64 p.K) ∧ w'.cell? ⟨eB, 1, none⟩ = some (.int .i64 p.A) ∧ w'.cell? ⟨eB, 2, none⟩ = some (.int .i64 p.N) ∧ w'.cell? ⟨eB, 3, none⟩ = some (.int .i64 0) ∧ w'.cell? ⟨eB, 4, none⟩ = some (.int .i64 0) ∧ w'.cell? ⟨eB, 5, none⟩ = some (.int .i64 0) ∧ w'.cell? ⟨eB, 6, none⟩ = some (.int .u64 0) ∧ w'.cell? ⟨eB, 7, none⟩ = some (.int .u64 0) ∧ w'.cell? ⟨eB, 8, none⟩ = some (.slice none 0 0) ∧ w'.cell? ⟨eB, 9, none⟩ = some (.int .u64 0) ∧ w'.cell? ⟨eB, 10, none⟩ = some (.bool false) ∧ w'.cell? ⟨eB, 11, none⟩ = some (.slice none 0 0)) (by kernel_rfl) ?_ (fun hHeld => ?_)
    · (try dsimp only); go_keep
    refine wpAnyH_take (i := 0) (oi := _) (v := ?_) rfl (by kernel_rfl) (by kernel_rfl) (by kernel_rfl) (fun _ _ _ h => h) (Or.inl ⟨by rfl, ?_⟩) (by assumption) ?_
    rotate_left
    · (intro w hSw; (try dsimp only at hSw); go_simp; try (with_reducible rfl))
    try simp only [Act.put, Array.reduceGetElem, List.setIfInBounds_toArray, List.set_cons_zero, List.set_cons_succ]
    refine wpAnyH_take (i := 1) (oi := _) (v := ?_) rfl (by kernel_rfl) (by kernel_rfl) (by kernel_rfl) (fun _ _ _ h => h) (Or.inl ⟨by rfl, ?_⟩) (by assumption) ?_
    rotate_left
    · (intro w hSw; (try dsimp only at hSw); go_simp; try (with_reducible rfl))
    try simp only [Act.put, Array.reduceGetElem, List.setIfInBounds_toArray, List.set_cons_zero, List.set_cons_succ]
    refine wpAnyH_take (i := 2) (oi := _) (v := ?_) rfl (by kernel_rfl) (by kernel_rfl) (by kernel_rfl) (fun _ _ _ h => h) (Or.inl ⟨by rfl, ?_⟩) (by assumption) ?_
    rotate_left
    · (intro w hSw; (try dsimp only at hSw); go_simp; try (with_reducible rfl))
    try simp only [Act.put, Array.reduceGetElem, List.setIfInBounds_toArray, List.set_cons_zero, List.set_cons_succ]
    refine wpAnyH_take (i := 3) (oi := _) (v := ?_) rfl (by kernel_rfl) (by kernel_rfl) (by kernel_rfl) (fun _ _ _ h => h) (Or.inl ⟨by rfl, ?_⟩) (by assumption) ?_
    rotate_left
    · (intro w hSw; (try dsimp only at hSw); go_simp; try (with_reducible rfl))
    try simp only [Act.put, Array.reduceGetElem, List.setIfInBounds_toArray, List.set_cons_zero, List.set_cons_succ]
    refine wpAnyH_take (i := 5) (oi := _) (v := ?_) rfl (by kernel_rfl) (by kernel_rfl) (by kernel_rfl) (fun _ _ _ h => h) (Or.inl ⟨by rfl, ?_⟩) (by assumption) ?_
    rotate_left
    · (intro w hSw; (try dsimp only at hSw); go_simp; try (with_reducible rfl))
    try simp only [Act.put, Array.reduceGetElem, List.setIfInBounds_toArray, List.set_cons_zero, List.set_cons_succ]
    refine wpAnyH_ready (rs := [4, 6]) (by kernel_rfl) (by simp) ?_
    refine AllReadyH.cons (o := _) rfl (fun K9 hK => ?_) ?_
    rotate_left
    · refine AllReadyH.cons (o := _) rfl (fun K9 hK => ?_) ?_
      rotate_left
      · exact AllReadyH.nil
      go_simp
      refine hK.out _ _ ?_ (fun hHeld => ?_)
      · (try dsimp only); go_keep
      clear hK K9
      try simp only [Act.put, Array.reduceGetElem, List.setIfInBounds_toArray, List.set_cons_zero, List.set_cons_succ]
      refine wpAnyH_ready (rs := [4]) (by kernel_rfl) (by simp) ?_
      refine AllReadyH.cons (o := _) rfl (fun K9 hK => ?_) ?_
      rotate_left
      · exact AllReadyH.nil
      go_simp
      refine hK.out _ _ ?_ (fun hHeld => ?_)
      · (try dsimp only); go_keep
      clear hK K9
      try simp only [Act.put, Array.reduceGetElem, List.setIfInBounds_toArray, List.set_cons_zero, List.set_cons_succ]
      refine wpAnyH_ready (rs := [7]) (by kernel_rfl) (by simp) ?_
      refine AllReadyH.cons (o := _) rfl (fun K9 hK => ?_) ?_
      rotate_left
      · exact AllReadyH.nil
      refine step_app_ev rfl _ _ rfl tv ts.length _ ⟨.bare p, .slice none 0 0, .slice none 0 0⟩ _ _ rfl rfl (HS5.out.below ((Below.refl _ W5).drew.alloc (Nat.le_refl _) _)).trow (Go.Deep.blk_alloc_new _ _) rfl rfl HL.out ?_
      intro v7 w7 happ
      obtain ⟨g7, q7, rfl⟩ := happ.form
      have kf7 := fun (q : Addr) (hq : q.block < W5.heap.size) (hnq : tv.ownBlock ≠ some q.block) => app_cell ((Below.refl _ W5).drew.alloc (Nat.le_refl _) _) happ hq hnq
      have kg7 := (kf7 ⟨gp, 3, none⟩ hgw5 nng).trans w35
      have kw0 := (kf7 ⟨eB, 0, none⟩ hls5 nn5).trans v0
      have kw1 := (kf7 ⟨eB, 1, none⟩ hls5 nn5).trans v1
      have kw2 := (kf7 ⟨eB, 2, none⟩ hls5 nn5).trans v2
      have kw3 := (kf7 ⟨eB, 3, none⟩ hls5 nn5).trans v3
      have kw4 := (kf7 ⟨eB, 4, none⟩ hls5 nn5).trans v4
      have kw5 := (kf7 ⟨eB, 5, none⟩ hls5 nn5).trans v5
      have kw6 := (kf7 ⟨eB, 6, none⟩ hls5 nn5).trans v6
      have kw7 := (kf7 ⟨eB, 7, none⟩ hls5 nn5).trans v7
      have kw8 := (kf7 ⟨eB, 8, none⟩ hls5 nn5).trans v8
      have kw9 := (kf7 ⟨eB, 9, none⟩ hls5 nn5).trans v9
      have kw10 := (kf7 ⟨eB, 10, none⟩ hls5 nn5).trans v10
      have kw11 := (kf7 ⟨eB, 11, none⟩ hls5 nn5).trans v11
      have kz7 := (app_frozen ((Below.refl _ W5).drew.alloc (Nat.le_refl _) _) happ (q := ⟨gp, 3, none⟩) hgw5 nng).trans hz3
      clear kf7
      have HAP := Lib.hid happ
      clear happ
      try go_simp
      refine hK.out _ _ ?_ (fun hHeld => ?_)
      · (try dsimp only); go_keep
      clear hK K9
      try simp only [Act.put, Array.reduceGetElem, List.setIfInBounds_toArray, List.set_cons_zero, List.set_cons_succ]
      refine wpAnyH_take (i := 8) (oi := _) (v := ?_) rfl (by kernel_rfl) (by kernel_rfl) (by kernel_rfl) (fun _ _ _ h => h) (Or.inl ⟨by rfl, ?_⟩) (by assumption) ?_
      rotate_left
      · (intro w hSw; (try dsimp only at hSw); go_simp; try (with_reducible rfl))
      try simp only [Act.put, Array.reduceGetElem, List.setIfInBounds_toArray, List.set_cons_zero, List.set_cons_succ]
      refine wpAnyH_take (i := 9) (oi := _) (v := ?_) rfl (by kernel_rfl) (by kernel_rfl) (by kernel_rfl) (fun _ _ _ h => h) (Or.inl ⟨by rfl, ?_⟩) (by assumption) ?_
      rotate_left
      · (intro w hSw; (try dsimp only at hSw); go_simp; try (with_reducible rfl))
      try simp only [Act.put, Array.reduceGetElem, List.setIfInBounds_toArray, List.set_cons_zero, List.set_cons_succ]
      refine wpAnyH_ready (rs := [10]) (by kernel_rfl) (by simp) ?_
      refine AllReadyH.cons (o := _) rfl (fun K9 hK => ?_) ?_
      rotate_left
      · exact AllReadyH.nil
      go_simp
      refine hK.out _ _ ?_ (fun hHeld => ?_)
      · (try dsimp only); go_keep
      clear hK K9
      try simp only [Act.put, Array.reduceGetElem, List.setIfInBounds_toArray, List.set_cons_zero, List.set_cons_succ]
      refine wpAnyH_done (by kernel_rfl) ?_ _
      refine NoPanic.normal ?_
      go_wp2_with fail
      go_meet
      obtain ⟨o9, z1, z2, z3⟩ := HS5.out.push ((Below.refl _ W5).drew.alloc (Nat.le_refl _) _) ⟨.bare p, .slice none 0 0, .slice none 0 0⟩ (BytesIn.none _ _) (BytesIn.none _ _) HAP.out
      exact ⟨o9, _, _, z1, z2, z3⟩
    go_simp
    refine hK.out _ _ ?_ (fun hHeld => ?_)
    · (try dsimp only); go_keep
    clear hK K9
    try simp only [Act.put, Array.reduceGetElem, List.setIfInBounds_toArray, List.set_cons_zero, List.set_cons_succ]
    refine wpAnyH_ready (rs := [6]) (by kernel_rfl) (by simp) ?_
    refine AllReadyH.cons (o := _) rfl (fun K9 hK => ?_) ?_
    rotate_left
    · exact AllReadyH.nil
    go_simp
    refine hK.out _ _ ?_ (fun hHeld => ?_)
    · (try dsimp only); go_keep
    clear hK K9
    try simp only [Act.put, Array.reduceGetElem, List.setIfInBounds_toArray, List.set_cons_zero, List.set_cons_succ]
    refine wpAnyH_ready (rs := [7]) (by kernel_rfl) (by simp) ?_
    refine AllReadyH.cons (o := _) rfl (fun K9 hK => ?_) ?_
    rotate_left
    · exact AllReadyH.nil
    refine step_app_ev rfl _ _ rfl tv ts.length _ ⟨.bare p, .slice none 0 0, .slice none 0 0⟩ _ _ rfl rfl (HS5.out.below ((Below.refl _ W5).drew.alloc (Nat.le_refl _) _)).trow (Go.Deep.blk_alloc_new _ _) rfl rfl HL.out ?_
    intro v7 w7 happ
    obtain ⟨g7, q7, rfl⟩ := happ.form
    have kf7 := fun (q : Addr) (hq : q.block < W5.heap.size) (hnq : tv.ownBlock ≠ some q.block) => app_cell ((Below.refl _ W5).drew.alloc (Nat.le_refl _) _) happ hq hnq
    have kg7 := (kf7 ⟨gp, 3, none⟩ hgw5 nng).trans w35
    have kw0 := (kf7 ⟨eB, 0, none⟩ hls5 nn5).trans v0
    have kw1 := (kf7 ⟨eB, 1, none⟩ hls5 nn5).trans v1
    have kw2 := (kf7 ⟨eB, 2, none⟩ hls5 nn5).trans v2
    have kw3 := (kf7 ⟨eB, 3, none⟩ hls5 nn5).trans v3
    have kw4 := (kf7 ⟨eB, 4, none⟩ hls5 nn5).trans v4
    have kw5 := (kf7 ⟨eB, 5, none⟩ hls5 nn5).trans v5
    have kw6 := (kf7 ⟨eB, 6, none⟩ hls5 nn5).trans v6
    have kw7 := (kf7 ⟨eB, 7, none⟩ hls5 nn5).trans v7
    have kw8 := (kf7 ⟨eB, 8, none⟩ hls5 nn5).trans v8
    have kw9 := (kf7 ⟨eB, 9, none⟩ hls5 nn5).trans v9
    have kw10 := (kf7 ⟨eB, 10, none⟩ hls5 nn5).trans v10
    have kw11 := (kf7 ⟨eB, 11, none⟩ hls5 nn5).trans v11
    have kz7 := (app_frozen ((Below.refl _ W5).drew.alloc (Nat.le_refl _) _) happ (q := ⟨gp, 3, none⟩) hgw5 nng).trans hz3
    clear kf7
    have HAP := Lib.hid happ
    clear happ
    try go_simp
    refine hK.out _ _ ?_ (fun hHeld => ?_)
    · (try dsimp only); go_keep
    clear hK K9
    try simp only [Act.put, Array.reduceGetElem, List.setIfInBounds_toArray, List.set_cons_zero, List.set_cons_succ]
    refine wpAnyH_take (i := 8) (oi := _) (v := ?_) rfl (by kernel_rfl) (by kernel_rfl) (by kernel_rfl) (fun _ _ _ h => h) (Or.inl ⟨by rfl, ?_⟩) (by assumption) ?_
    rotate_left
    · (intro w hSw; (try dsimp only at hSw); go_simp; try (with_reducible rfl))
    try simp only [Act.put, Array.reduceGetElem, List.setIfInBounds_toArray, List.set_cons_zero, List.set_cons_succ]
    refine wpAnyH_take (i := 9) (oi := _) (v := ?_) rfl (by kernel_rfl) (by kernel_rfl) (by kernel_rfl) (fun _ _ _ h => h) (Or.inl ⟨by rfl, ?_⟩) (by assumption) ?_
    rotate_left
    · (intro w hSw; (try dsimp only at hSw); go_simp; try (with_reducible rfl))
    try simp only [Act.put, Array.reduceGetElem, List.setIfInBounds_toArray, List.set_cons_zero, List.set_cons_succ]
    refine wpAnyH_ready (rs := [10]) (by kernel_rfl) (by simp) ?_
    refine AllReadyH.cons (o := _) rfl (fun K9 hK => ?_) ?_
    rotate_left
    · exact AllReadyH.nil
    go_simp
    refine hK.out _ _ ?_ (fun hHeld => ?_)
    · (try dsimp only); go_keep
    clear hK K9
    try simp only [Act.put, Array.reduceGetElem, List.setIfInBounds_toArray, List.set_cons_zero, List.set_cons_succ]
    refine wpAnyH_done (by kernel_rfl) ?_ _
    refine NoPanic.normal ?_
    go_wp2_with fail
    go_meet
    obtain ⟨o9, z1, z2, z3⟩ := HS5.out.push ((Below.refl _ W5).drew.alloc (Nat.le_refl _) _) ⟨.bare p, .slice none 0 0, .slice none 0 0⟩ (BytesIn.none _ _) (BytesIn.none _ _) HAP.out
    exact ⟨o9, _, _, z1, z2, z3⟩
  case rest =>
    obtain ⟨o2, tv2, ts2, hs2, ht2, ho2⟩ := hcut
    have hnm : ∀ k, w.heap.size ≤ k → ¬ Mut o k := fun k hk e => e.1 (HS.out.new_no hk)
    have hE := HE5.out.of_block (ht2.block _ hls5 (hnm _ (by omega)))
    have hV := HV5.out.of_block (ht2.block _ hlr (hnm _ (by omega)))
    have HS7 := Lib.hid hs2
    have HT7 := Lib.hid (And.intro ht2 ho2)
    have e0 : wc.cell? ⟨eB, 0, none⟩ = some (.int .i64 p.K) := hE.e0
    have e1 : wc.cell? ⟨eB, 1, none⟩ = some (.int .i64 p.A) := hE.e1
    have e2 : wc.cell? ⟨eB, 2, none⟩ = some (.int .i64 p.N) := hE.e2
    have e3 : wc.cell? ⟨eB, 3, none⟩ = some (.int .i64 0) := hE.e3
    have e4 : wc.cell? ⟨eB, 4, none⟩ = some (.int .i64 0) := hE.e4
    have e5 : wc.cell? ⟨eB, 5, none⟩ = some (.int .i64 0) := hE.e5
    have e6 : wc.cell? ⟨eB, 6, none⟩ = some (.int .u64 0) := hE.e6
    have e7 : wc.cell? ⟨eB, 7, none⟩ = some (.int .u64 0) := hE.e7
    have e8 : wc.cell? ⟨eB, 8, none⟩ = some (.slice none 0 0) := hE.e8
    have e9 : wc.cell? ⟨eB, 9, none⟩ = some (.int .u64 0) := hE.e9
    have e10 : wc.cell? ⟨eB, 10, none⟩ = some (.bool false) := hE.e10
    have e11 : wc.cell? ⟨eB, 11, none⟩ = some (.slice none 0 0) := hE.e11
    have r0 : wc.cell? ⟨w.heap.size + 1, 0, none⟩ = some (.int .i64 0) := hV.e0
    have f0 := hV.free 0
    have r1 : wc.cell? ⟨w.heap.size + 1, 1, none⟩ = some (.int .i64 0) := hV.e1
    have f1 := hV.free 1
    have r2 : wc.cell? ⟨w.heap.size + 1, 2, none⟩ = some (.int .i64 0) := hV.e2
    have f2 := hV.free 2
    have r3 : wc.cell? ⟨w.heap.size + 1, 3, none⟩ = some (.int .i64 0) := hV.e3
    have f3 := hV.free 3
    have r4 : wc.cell? ⟨w.heap.size + 1, 4, none⟩ = some (.int .i64 0) := hV.e4
    have f4 := hV.free 4
    have r5 : wc.cell? ⟨w.heap.size + 1, 5, none⟩ = some (.int .i64 0) := hV.e5
    have f5 := hV.free 5
    have r6 : wc.cell? ⟨w.heap.size + 1, 6, none⟩ = some (.int .u64 0) := hV.e6
    have f6 := hV.free 6
    have r7 : wc.cell? ⟨w.heap.size + 1, 7, none⟩ = some (.int .u64 0) := hV.e7
    have f7 := hV.free 7
    have r8 : wc.cell? ⟨w.heap.size + 1, 8, none⟩ = some (.slice none 0 0) := hV.e8
    have f8 := hV.free 8
    have r9 : wc.cell? ⟨w.heap.size + 1, 9, none⟩ = some (.int .u64 0) := hV.e9
    have f9 := hV.free 9
    have r10 : wc.cell? ⟨w.heap.size + 1, 10, none⟩ = some (.bool false) := hV.e10
    have f10 := hV.free 10
    have r11 : wc.cell? ⟨w.heap.size + 1, 11, none⟩ = some (.slice none 0 0) := hV.e11
    have f11 := hV.free 11
    have hlc := ht2.size
    clear hE hV hs2 ht2 ho2 v0 v1 v2 v3 v4 v5 v6 v7 v8 v9 v10 v11 w35 hz3
    go_wp2
    refine bodyPost_ret (v := .tuple #[.agg #[.int .i64 p.K, .int .i64 p.A, .int .i64 p.N, .int .i64 0, .int .i64 0, .int .i64 0, .int .u64 0, .int .u64 0, .slice none 0 0, .int .u64 0, .bool false, .slice none 0 0], .int .i64 0]) (by simp [results, Try.results12, go_sem, r0, r1, r2, r3, r4, r5, r6, r7, r8, r9, r10, r11]) rfl ?_
    have ht12 := twelve_touch wc (w.heap.size + 1) (.int .i64 p.K) (.int .i64 p.A) (.int .i64 p.N) (.int .i64 0) (.int .i64 0) (.int .i64 0) (.int .u64 0) (.int .u64 0) (.slice none 0 0) (.int .u64 0) (.bool false) (.slice none 0 0)
    refine ⟨o2, none, 0, 0, none, 0, 0, pj, tv2, ts2, rfl, BytesAt.nil _, BytesAt.nil _, HS7.out.touch ht12 fun k hk e => ?_, (HT5.out.trans HT7.out.1).trans' ht12 (Nat.le_succ _), fun k hk => HT7.out.2 k (by omega)⟩
    have e' : k = w.heap.size + 1 := e
    exact hk ((HT7.out.2 k (by omega)).trans (HS.out.new_no (by omega)))
end Go.Proofs.Ytegjnejekakeiaa
namespace Go.Proofs.Ytegjnejekakeiaa
open Go.RowKit

theorem infoAns : (Try.prog.info? 49).map (fun i => (i.zero, i.size, i.bytes)) = some (some (.agg #[.int .u64 0, .bool false, .slice none 0 0]), 3, 40) := by kernel_rfl

/-- An answer's cells. -/
def Ans.cells (x : Ans) : List Value := [.int .u64 x.V, .bool x.D, .slice x.A x.L x.cap]
/-- The cells of the first n answers. -/
def tcells (T : Nat → Ans) (n : Nat) : List Value := upto (fun i => (T i).cells) n

theorem tcells_len (T : Nat → Ans) (n : Nat) : (tcells T n).length = n * 3 := by
  induction n with
  | zero => rfl
  | succ n ih =>
    unfold tcells at ih ⊢
    rw [upto_next, List.length_append, ih]
    show n * 3 + 3 = _
    omega
theorem tcells_get (T : Nat → Ans) (n i j : Nat) (hi : i < n) (hj : j < 3) : (tcells T n)[i * 3 + j]? = (T i).cells[j]? := by
  induction n with
  | zero => omega
  | succ n ih =>
    have hl := tcells_len T n
    unfold tcells at ih hl ⊢
    rw [upto_next]
    rcases Nat.lt_or_ge i n with h | h
    · rw [List.getElem?_append_left (by omega)]
      exact ih h
    · obtain rfl : i = n := by omega
      rw [List.getElem?_append_right (by omega)]
      congr 1
      omega
theorem tcells_congr {T T' : Nat → Ans} {n : Nat} (h : ∀ i, i < n → T i = T' i) : tcells T n = tcells T' n := upto_congr fun j hj => by rw [h j hj]
theorem tcells_next (T : Nat → Ans) (n : Nat) : tcells T (n + 1) = tcells T n ++ (T n).cells := upto_next _ _
theorem tcells_one (T : Nat → Ans) (n : Nat) : ∀ u ∈ tcells T n, u.oneCell' = true := by
  intro u hu
  unfold tcells upto at hu
  obtain ⟨i, _, hu⟩ := List.mem_flatMap.1 hu
  simp only [Ans.cells, List.mem_cons, List.not_mem_nil, or_false] at hu
  rcases hu with rfl | rfl | rfl <;> rfl

theorem append_none {w : World} {base : Nat} {v : Value} {n : Nat} {xs : List Value} (hv : w.ownsRow base 49 3 v n xs) (c : Nat) (ty : TypeId) :
    (Builtin.append_ #[59, 59] ty #[v, .slice none 0 c]).run Try.prog w = .ok v w := by
  obtain ⟨i0, hi, _⟩ := info_parts infoAns
  have ht := Try.underlying59
  rcases hv.2 with ⟨rfl, hx⟩ | ⟨g, cap, cur, rfl, _, _, hnc, _⟩
  · simp [Builtin.append_, run_underlying ht, sizeOf, typeInfo, hi, Builtin.lenOf, Builtin.firstCells]
  · simp [Builtin.append_, run_underlying ht, sizeOf, typeInfo, hi, Builtin.lenOf, Builtin.firstCells, hnc, storeCells]

/-- What the appending to a row of answers left. -/
structure AppAn (base n : Nat) (g : Nat) (cap : Nat) (row : Option Nat) (zs : List Value) (w w' : World) : Prop where
  own : w'.ownsRow base 49 3 (.slice (some ⟨g, 0, none⟩) n cap) n zs
  grown : w.grownBy w' row

theorem AppAn.below {base n g cap : Nat} {row : Option Nat} {zs : List Value} {w w' W : World} (h : AppAn base n g cap row zs w w') (hW : Below base W w) (hb : base ≤ w.heap.size) (hr : ∀ k, row = some k → base ≤ k) : Below base W w' := hW.grown h.grown hb hr

theorem run_app_told {w : World} {base g0 : Nat} (hv : w.ownsRow base 49 3 (.slice (some ⟨g0, 0, none⟩) 0 0) 0 []) {A : Option Addr} {n c : Nat} {T : Nat → Ans} (hT : ToldAt w A n T) (hn : n ≤ 1000000) (hb : base ≤ w.heap.size) (ty : TypeId) :
    ∃ g cap w', (Builtin.append_ #[59, 59] ty #[.slice (some ⟨g0, 0, none⟩) 0 0, .slice A n c]).run Try.prog w = .ok (.slice (some ⟨g, 0, none⟩) n cap) w' ∧ AppAn base n g cap (some g0) (tcells T n) w w' := by
  obtain ⟨i0, hi, hz0, hz1, hz2⟩ := info_parts infoAns
  have hu := Try.underlying59
  by_cases hp : 0 < n
  · obtain ⟨b, off, rfl, hl, hc⟩ := hT hp
    obtain ⟨v', w', hrun, h2, h3, _, h5⟩ := run_append_own_at (P := Try.prog) w base 59 ty 49 i0 _ 3 40 hu hi hz0 hz1 hz2 rfl (by decide) _ 0 _ hv ⟨b, off, none⟩ n c (tcells T n) (tcells_len T n) (by
      intro j u hj
      have e : (⟨b, off, none⟩ : Addr).add j = ⟨b, off + j, none⟩ := by unfold Addr.add; split <;> simp_all
      rw [e]
      have hjl : j < n * 3 := by
        rw [← tcells_len T n]
        exact (List.getElem?_eq_some_iff.1 hj).1
      obtain ⟨i, k, rfl, hk⟩ : ∃ i k, j = i * 3 + k ∧ k < 3 := ⟨j / 3, j % 3, by omega, by omega⟩
      rw [tcells_get T n i k (by omega) hk] at hj
      obtain ⟨c0, c1, c2, _⟩ := hc i (by omega)
      rw [← Nat.add_assoc]
      match k, hk, hj with
      | 0, _, hj => exact c0.trans hj
      | 1, _, hj => exact c1.trans hj
      | 2, _, hj => exact c2.trans hj) (tcells_one T n) (by unfold maxLen; omega) (by omega) hb
    rw [Nat.zero_add] at h2
    obtain ⟨g, cap, rfl, _⟩ := h2.form hp
    exact ⟨g, cap, w', hrun, ⟨by simpa using h2, h3⟩⟩
  · obtain rfl : n = 0 := by omega
    cases A with
    | none => exact ⟨g0, 0, w, append_none hv c ty, ⟨hv, World.grownBy.refl w _⟩⟩
    | some a =>
      obtain ⟨v', w', hrun, h2, h3, h4, h5⟩ := run_append_own_at (P := Try.prog) w base 59 ty 49 i0 _ 3 40 hu hi hz0 hz1 hz2 rfl (by decide) _ 0 _ hv a 0 c [] (by simp) (by simp) (by simp) (by unfold maxLen; omega) (by omega) hb
      rcases h2.2 with ⟨hv', _⟩ | ⟨g, cap, cur, rfl, _⟩
      · exact absurd (h4.1 hv').1 (by simp)
      · exact ⟨g, cap, w', hrun, ⟨h2, h3⟩⟩

theorem run_app_one {w : World} {base g0 n c0 : Nat} {xs : List Value} (hv : w.ownsRow base 49 3 (.slice (some ⟨g0, 0, none⟩) n c0) n xs) (y : Ans) {b c : Nat} (hg : w.heap[b]? = some (.cells #[.int .u64 y.V, .bool y.D, .slice y.A y.L y.cap] 49 (0, 0)))
    (hn : n ≤ 1000000) (hb : base ≤ w.heap.size) (ty : TypeId) :
    ∃ g cap w', (Builtin.append_ #[59, 59] ty #[.slice (some ⟨g0, 0, none⟩) n c0, .slice (some ⟨b, 0, none⟩) 1 c]).run Try.prog w = .ok (.slice (some ⟨g, 0, none⟩) (n + 1) cap) w' ∧ AppAn base (n + 1) g cap (some g0) (xs ++ y.cells) w w' := by
  obtain ⟨i0, hi, hz0, hz1, hz2⟩ := info_parts infoAns
  obtain ⟨v', w', hrun, h2, h3, _, h5⟩ := run_append_own_at (P := Try.prog) w base 59 ty 49 i0 _ 3 40 Try.underlying59 hi hz0 hz1 hz2 rfl (by decide) _ n _ hv ⟨b, 0, none⟩ 1 c y.cells rfl (by
    intro j u hj
    have e : (⟨b, 0, none⟩ : Addr).add j = ⟨b, 0 + j, none⟩ := by unfold Addr.add; split <;> simp_all
    rw [e, Nat.zero_add]
    simp only [World.cell?, hg]
    rw [← hj]
    simp [Ans.cells]) (by
    intro u hu
    simp only [Ans.cells, List.mem_cons, List.not_mem_nil, or_false] at hu
    rcases hu with rfl | rfl | rfl <;> rfl) (by unfold maxLen; omega) (by omega) hb
  obtain ⟨g, cap, rfl, _⟩ := h2.form (by omega)
  exact ⟨g, cap, w', hrun, ⟨h2, h3⟩⟩

set_option maxRecDepth 100000 in
theorem step_app_told {w : World} {ops : Array Oper} {o : Oper} {a : Act} {K : Act → World → Prop} {Q : Exit → Act → World → Prop} {E : Prop} (hgd : o.guard = none) (s x : Operand)
    (ho : o.op = .call { callee := .builtin .append, args := #[s, x], argTypes := #[59, 59] }) (base g0 : Nat) (A : Option Addr) (n c : Nat) (T : Nat → Ans)
    (hs : a.eval s = .slice (some ⟨g0, 0, none⟩) 0 0) (hx : a.eval x = .slice A n c) (hv : w.ownsRow base 49 3 (.slice (some ⟨g0, 0, none⟩) 0 0) 0 []) (hT : ToldAt w A n T) (hn : n ≤ 1000000) (hb : base ≤ w.heap.size)
    (h : ∀ g cap w', AppAn base n g cap (some g0) (tcells T n) w w' → K (a.put o.dst (.slice (some ⟨g, 0, none⟩) n cap)) w') : if Region.wanted o (yielded ops a.tmps) = true then Oper.wp Try.prog o a w K Q else E := by
  have hw : Region.wanted o (yielded ops a.tmps) = true := by simp [Region.wanted, hgd]
  rw [if_pos hw]
  obtain ⟨g, cap, w', hrun, h5⟩ := run_app_told hv (c := c) hT hn hb o.type
  unfold Oper.wp execOp
  simp only [ho, resolve, invoke, builtin, Sem.run_bind, Sem.run_pure, Result.andThen_ok, List.map_toArray, List.map_cons, List.map_nil, hs, hx, hrun]
  exact h g cap w' h5

set_option maxRecDepth 100000 in
theorem step_app_one {w : World} {ops : Array Oper} {o : Oper} {a : Act} {K : Act → World → Prop} {Q : Exit → Act → World → Prop} {E : Prop} (hgd : o.guard = none) (s x : Operand)
    (ho : o.op = .call { callee := .builtin .append, args := #[s, x], argTypes := #[59, 59] }) (base g0 n c0 : Nat) (xs : List Value) (y : Ans) (b c : Nat)
    (hs : a.eval s = .slice (some ⟨g0, 0, none⟩) n c0) (hx : a.eval x = .slice (some ⟨b, 0, none⟩) 1 c) (hv : w.ownsRow base 49 3 (.slice (some ⟨g0, 0, none⟩) n c0) n xs)
    (hg : w.heap[b]? = some (.cells #[.int .u64 y.V, .bool y.D, .slice y.A y.L y.cap] 49 (0, 0))) (hn : n ≤ 1000000) (hb : base ≤ w.heap.size)
    (h : ∀ g cap w', AppAn base (n + 1) g cap (some g0) (xs ++ y.cells) w w' → K (a.put o.dst (.slice (some ⟨g, 0, none⟩) (n + 1) cap)) w') : if Region.wanted o (yielded ops a.tmps) = true then Oper.wp Try.prog o a w K Q else E := by
  have hw : Region.wanted o (yielded ops a.tmps) = true := by simp [Region.wanted, hgd]
  rw [if_pos hw]
  obtain ⟨g, cap, w', hrun, h5⟩ := run_app_one hv y (c := c) hg hn hb o.type
  unfold Oper.wp execOp
  simp only [ho, resolve, invoke, builtin, Sem.run_bind, Sem.run_pure, Result.andThen_ok, List.map_toArray, List.map_cons, List.map_nil, hs, hx, hrun]
  exact h g cap w' h5

/-- An answer that may be told: its bytes lie in blocks of K. -/
structure Ans.Good (K : Nat → Prop) (w : World) (y : Ans) : Prop where
  num : y.V < 18446744073709551616
  isB : Mb.IsB y.f
  bytes : BytesIn K w (.slice y.A y.L y.cap) (Mb.bl y.f 0 y.L)
  room : y.L ≤ y.cap
  few : y.cap ≤ 9223372036854775807
  eight : y.L ≤ 8

/-- A job was told one answer more. -/
def PJ.tell (x : PJ) (g cap : Nat) (y : Ans) : PJ := ⟨x.B, some ⟨g, 0, none⟩, x.cnt + 1, cap, fun j => if j < x.cnt then x.T j else y⟩

theorem cat_congr {T T' : Nat → Ans} {n : Nat} (h : ∀ i, i < n → T i = T' i) : cat T n = cat T' n := by
  induction n with
  | zero => rfl
  | succ n ih =>
    show cat T n ++ (T n).bs = cat T' n ++ (T' n).bs
    rw [ih fun i hi => h i (by omega), h n (Nat.lt_succ_self n)]

namespace PW
variable {w : World} {p : Nat → Pt} {gp q jb : Nat} {JA : Option Addr} {c5 : Nat} {js : Nat → Jb} {pj : Nat → PJ} {tv : Value} {ts : List Tx} {st : St}

/-- An access was done: the bytes, the job's machine, what it was told. -/
theorem did (h : PW w p gp q jb JA c5 js pj tv ts st) {i : Nat} (hi : i < st.na) {n0 : Nat} (hn0 : ∀ k, n0 ≤ k → p k = .no) {W : World} (hT : Touch (Lone q) w W) {m' : Nat → Nat} (hm : PlainAt W q 256 m') (hmB : Mb.IsB m') (y : Ans) (g cap : Nat)
    (hrow : W.ownsRow n0 49 3 (.slice (some ⟨g, 0, none⟩) ((pj i).cnt + 1) cap) ((pj i).cnt + 1) (tcells (pj i).T (pj i).cnt ++ y.cells)) (hy : y.Good (fun k => n0 ≤ k) W) (hcnt : (pj i).cnt + 1 ≤ 100000) (c' : Int) (s' : Mc)
    (hlink : ∃ ys, s' = .copy (js i).kd (min (8 * ((pj i).cnt + 1)) (js i).len) ((js i).len - 8 * ((pj i).cnt + 1)) ys) :
    ∃ p', PW (W.setCell ⟨jb, i * 6 + 4, none⟩ (.slice (some ⟨g, 0, none⟩) ((pj i).cnt + 1) cap)) p' gp q jb JA c5 js (upd pj i ((pj i).tell g cap y)) tv ts { st with m := m', c := c', ms := upd st.ms i s' } ∧
      Touch (Mut p) w (W.setCell ⟨jb, i * 6 + 4, none⟩ (.slice (some ⟨g, 0, none⟩) ((pj i).cnt + 1) cap)) ∧ (∀ k, k < n0 → p' k = p k) ∧ (∀ k, n0 ≤ k → k < W.heap.size → p' k = .tx) := by
  obtain ⟨hJ1, hjb⟩ := h.jrow (Nat.lt_of_le_of_lt (Nat.zero_le i) hi)
  have hold : ∀ k, p k ≠ .no → p k ≠ .bf → W.heap[k]? = w.heap[k]? := fun k h1 h2 => hT.block k (h.plt k h1) fun e => h2 (by have e : k = q := e; rw [e]; exact h.pq)
  have hne : ∀ k, k ≠ jb → (W.setCell ⟨jb, i * 6 + 4, none⟩ (.slice (some ⟨g, 0, none⟩) ((pj i).cnt + 1) cap)).heap[k]? = W.heap[k]? := fun k hk => Below.heap_setCell _ _ _ _ hk
  have hgr := World.ownsRow.lt hrow g rfl
  have hpg : p g = .no := hn0 g hgr.1
  have hgj : g ≠ jb := fun e => by rw [e, hjb] at hpg; cases hpg
  have hs3 : (W.setCell ⟨jb, i * 6 + 4, none⟩ (.slice (some ⟨g, 0, none⟩) ((pj i).cnt + 1) cap)).heap.size = W.heap.size := by simp [World.setCell]
  have hws : w.heap.size ≤ W.heap.size := hT.size
  have hjo : ∀ j, j < st.na → JobAt W jb j (((js j).K : Int) % 3) (js j).at_ (js j).num (pj j).B (.slice (pj j).A (pj j).cnt (pj j).cap) (st.dead j) := fun j hj => (h.job j hj).of_block (hold jb (by rw [hjb]; simp) (by rw [hjb]; simp))
  have hj2 : ∀ j, j < st.na → JobAt (W.setCell ⟨jb, i * 6 + 4, none⟩ (.slice (some ⟨g, 0, none⟩) ((pj i).cnt + 1) cap)) jb j (((js j).K : Int) % 3) (js j).at_ (js j).num (upd pj i ((pj i).tell g cap y) j).B (.slice (upd pj i ((pj i).tell g cap y) j).A (upd pj i ((pj i).tell g cap y) j).cnt (upd pj i ((pj i).tell g cap y) j).cap) (st.dead j) := fun j hj => by
    by_cases hji : j = i
    · subst hji
      rw [upd_same]
      exact (hjo j hj).tell _
    · rw [upd_other _ _ _ hji]
      exact (hjo j hj).other (j := i) (m := 4) (by omega) (fun e => hji e.symm) _
  have hall : ∀ k, p k ≠ .no → p k ≠ .bf → p k ≠ .ac → (W.setCell ⟨jb, i * 6 + 4, none⟩ (.slice (some ⟨g, 0, none⟩) ((pj i).cnt + 1) cap)).heap[k]? = w.heap[k]? := fun k h1 h2 h3 => (hne k fun e => h3 (by rw [e]; exact hjb)).trans (hold k h1 h2)
  have hqj : q ≠ jb := fun e => by have := h.pq; rw [e, hjb] at this; cases this
  have hnew : ∀ k, n0 ≤ k → (W.setCell ⟨jb, i * 6 + 4, none⟩ (.slice (some ⟨g, 0, none⟩) ((pj i).cnt + 1) cap)).heap[k]? = W.heap[k]? := fun k hk => hne k fun e => by rw [← e, hn0 k hk] at hjb; cases hjb
  have hmq := hm.of_block (hne q hqj)
  have hyb : BytesIn (fun k => n0 ≤ k) (W.setCell ⟨jb, i * 6 + 4, none⟩ (.slice (some ⟨g, 0, none⟩) ((pj i).cnt + 1) cap)) (.slice y.A y.L y.cap) (Mb.bl y.f 0 y.L) := hy.bytes.keep (by omega) fun k hk _ => hnew k hk
  have hcell : ∀ k, k < ((pj i).cnt + 1) * 3 → (W.setCell ⟨jb, i * 6 + 4, none⟩ (.slice (some ⟨g, 0, none⟩) ((pj i).cnt + 1) cap)).cell? ⟨g, k, none⟩ = (tcells ((pj i).tell g cap y).T ((pj i).cnt + 1))[k]? := fun k hk => by
    rw [World.cell?_of_block (w := W) (a := ⟨g, k, none⟩) (hne g hgj), hrow.cellAt k hk, tcells_next]
    congr 1
    rw [tcells_congr (T := (pj i).T) (T' := ((pj i).tell g cap y).T) fun j hj => (if_pos hj).symm]
    congr 1
    show y.cells = (if _ then _ else y).cells
    rw [if_neg (Nat.lt_irrefl _)]
  have htouch : Touch (Mut p) w (W.setCell ⟨jb, i * 6 + 4, none⟩ (.slice (some ⟨g, 0, none⟩) ((pj i).cnt + 1) cap)) := (hT.mono fun k hk => by have e : k = q := hk; unfold Mut; rw [e, h.pq]; simp).setCell (p := ⟨jb, i * 6 + 4, none⟩) (show Mut p jb by unfold Mut; rw [hjb]; simp) _
  have hrl := hrow.1
  have hcap : (pj i).cnt + 1 ≤ cap ∧ cap ≤ 9223372036854775807 := by
    rcases hrow.2 with ⟨hv, _⟩ | ⟨g2, cap2, cur, hv, _, _, h1, h2, _⟩
    · injection hv with e; cases e
    · injection hv with _ _ e
      unfold maxLen at h2
      omega
  let p' : Nat → Pt := fun k => if k < n0 then p k else if k < W.heap.size then .tx else .no
  have q0 : ∀ k, k < n0 → p' k = p k := fun k hk => if_pos hk
  have q1 : ∀ k, n0 ≤ k → k < W.heap.size → p' k = .tx := fun k hk hl => (if_neg (by omega)).trans (if_pos hl)
  have q2 : ∀ k, p' k ≠ .no → k < W.heap.size := fun k hk => by
    by_cases h1 : k < n0
    · rw [q0 k h1] at hk
      exact Nat.lt_of_lt_of_le (h.plt k hk) hws
    · by_cases h2 : k < W.heap.size
      · exact h2
      · exact absurd (show p' k = .no from (if_neg h1).trans (if_neg h2)) hk
  have q3 : ∀ k, p k ≠ .no → p' k = p k := fun k hk => q0 k (by
    rcases Nat.lt_or_ge k n0 with e | e
    · exact e
    · exact absurd (hn0 k e) hk)
  clear_value p'
  generalize W.setCell ⟨jb, i * 6 + 4, none⟩ (.slice (some ⟨g, 0, none⟩) ((pj i).cnt + 1) cap) = w3 at *
  have hs4 : w.heap.size ≤ w3.heap.size := by omega
  have ht : ∀ k, p k = .tx → k < w.heap.size → w3.heap[k]? = w.heap[k]? := fun k hx _ => hall k (by rw [hx]; simp) (by rw [hx]; simp) (by rw [hx]; simp)
  have hmo : ∀ k, p k = .tx → k < w3.heap.size → p' k = .tx := fun k hx _ => (q3 k (by rw [hx]; simp)).trans hx
  have htold : ∀ j, j < st.na → ToldIn (fun k => p' k = .tx) w3 (pj j).A (pj j).cnt (pj j).T := fun j hj => ((h.told j hj).1.keep hs4 ht).mono hmo
  refine ⟨p', ⟨(hall gp (by rw [h.pgp]; simp) (by rw [h.pgp]; simp) (by rw [h.pgp]; simp)).trans h.head, fun hp => ⟨hJ1, (q3 jb (by rw [hjb]; simp)).trans hjb⟩, h.room, hmq, hmB, hj2, fun j hj => ?_, fun j hj => ?_, fun j hj => ?_, fun j hj => ?_,
    ownsRow_keep h.trow fun k hk => hall k (by rw [h.town k hk]; simp) (by rw [h.town k hk]; simp) (by rw [h.town k hk]; simp), (h.ttxt.keep hs4 ht).mono hmo, fun k hk => (q3 k (by rw [h.town k hk]; simp)).trans (h.town k hk), h.evs, (q3 gp (by rw [h.pgp]; simp)).trans h.pgp, (q3 q (by rw [h.pq]; simp)).trans h.pq, fun k hk => by have := q2 k hk; omega⟩, htouch, q0, q1⟩
  · have := ((h.txt j hj).keep hs4 ht).mono hmo
    by_cases hji : j = i
    · subst hji; rw [upd_same]; exact this
    · rw [upd_other _ _ _ hji]; exact this
  · by_cases hji : j = i
    · subst hji; rw [upd_same]; exact h.fits j hj
    · rw [upd_other _ _ _ hji]; exact h.fits j hj
  · by_cases hji : j = i
    · subst hji
      rw [upd_same]
      refine ⟨fun _ => ⟨g, 0, rfl, q1 g hgr.1 hgr.2, by omega, fun l hl => ?_⟩, hcap.1, hcap.2, ?_, hcnt⟩
      · have hl : l < (pj j).cnt + 1 := hl
        rw [Nat.zero_add]
        have k0 := (hcell (l * 3) (by omega)).trans (tcells_get ((pj j).tell g cap y).T ((pj j).cnt + 1) l 0 hl (by omega))
        have k1 := (hcell (l * 3 + 1) (by omega)).trans (tcells_get ((pj j).tell g cap y).T ((pj j).cnt + 1) l 1 hl (by omega))
        have k2 := (hcell (l * 3 + 2) (by omega)).trans (tcells_get ((pj j).tell g cap y).T ((pj j).cnt + 1) l 2 hl (by omega))
        refine ⟨k0, k1, k2, ?_⟩
        by_cases hlc : l < (pj j).cnt
        · rw [show ((pj j).tell g cap y).T l = (pj j).T l from if_pos hlc]
          obtain ⟨_, _, _, _, hx⟩ := htold j hj (by omega)
          exact (hx.2 l hlc).2.2.2
        · rw [show ((pj j).tell g cap y).T l = y from if_neg hlc]
          exact ⟨hyb.mono fun k hk hl => q1 k hk (by omega), hy.num, hy.isB, hy.room, hy.few⟩
      · have h4 := (h.told j hj).2.2.2.1
        show (cat ((pj j).tell g cap y).T (pj j).cnt ++ (((pj j).tell g cap y).T (pj j).cnt).bs).length ≤ 8 * ((pj j).cnt + 1)
        rw [cat_congr (T := ((pj j).tell g cap y).T) (T' := (pj j).T) fun l hl => if_pos hl, show ((pj j).tell g cap y).T (pj j).cnt = y from if_neg (Nat.lt_irrefl _), List.length_append]
        have : y.bs.length = y.L := Mb.bl_length _ _ _
        have := hy.eight
        omega
    · rw [upd_other _ _ _ hji]
      exact ⟨htold j hj, (h.told j hj).2⟩
  · show ∃ ys, upd st.ms i s' j = _
    by_cases hji : j = i
    · subst hji
      rw [upd_same, upd_same]
      exact hlink
    · rw [upd_other _ _ _ hji, upd_other _ _ _ hji]
      exact h.link j hj
end PW
end Go.Proofs.Ytegjnejekakeiaa
namespace Go.Proofs.Ytegjnejekakeiaa
open Go.RowKit

theorem Jb.kd_place (j : Jb) : j.kd.place = j.at_ := by
  unfold Jb.kd
  split
  · rfl
  · split <;> rfl
theorem Jb.at_in (j : Jb) : 0 ≤ j.at_ ∧ j.at_ ≤ 300 := by unfold Jb.at_; omega
theorem Kd.kind_of (kd : Kd) : kd.kind = 5 ∨ kd.kind = 6 := by cases kd <;> simp [Kd.kind]

/-- The access that a job wants that was told i answers. -/
def acOf (kd : Kd) (n i : Nat) : Ac := ⟨kd.kind, kd.place + (8 * i : Nat), (Cy.nx (n - 8 * i) : Nat), 0, 0, kd.bytes (8 * i) (Cy.nx (n - 8 * i))⟩

theorem Kd.bytes_len (kd : Kd) (h : kd.kind = 6) (d c : Nat) : (kd.bytes d c).length = c := by
  cases kd with
  | rd a => cases h
  | wr a f => exact Mb.bl_length _ _ _
  | ze a => exact Mb.bl_length (fun _ => 0) d c

/-- An access of a copy is refused only where it reaches beyond the bytes. -/
theorem acOf_err (kd : Kd) (n i : Nat) (hp : 0 ≤ kd.place) : (acOf kd n i).err 32 = if 256 < kd.place + (8 * i : Nat) + (Cy.nx (n - 8 * i) : Nat) then 2 else 0 := by
  have hx := Cy.nx_le (n - 8 * i)
  unfold Ac.err chk acOf
  have hf : formed kd.kind (Cy.nx (n - 8 * i) : Nat) (kd.bytes (8 * i) (Cy.nx (n - 8 * i))).length = true := by
    unfold formed
    rcases kd.kind_of with e | e
    · rw [e]; simp; omega
    · rw [kd.bytes_len e, e]; simp; omega
  have hn : numB kd.kind = false := by rcases kd.kind_of with e | e <;> rw [e] <;> rfl
  simp only [hf, hn]
  rw [if_neg (by simp)]
  by_cases hb : 256 < kd.place + (8 * i : Nat) + (Cy.nx (n - 8 * i) : Nat)
  · rw [if_pos hb, if_pos (by omega)]
  · rw [if_neg hb, if_neg (by omega), if_neg (by simp)]

namespace PW
variable {w : World} {p : Nat → Pt} {gp q jb : Nat} {JA : Option Addr} {c5 : Nat} {js : Nat → Jb} {pj : Nat → PJ} {tv : Value} {ts : List Tx} {st : St}

theorem next_some (h : PW w p gp q jb JA c5 js pj tv ts st) {i : Nat} (hi : i < st.na) {a : Ac} (hn : (st.ms i).next = some a) :
    8 * (pj i).cnt < (js i).len ∧ a = acOf (js i).kd (js i).len (pj i).cnt ∧ ∀ x, ∃ ys, (st.ms i).take x = .copy (js i).kd (min (8 * ((pj i).cnt + 1)) (js i).len) ((js i).len - 8 * ((pj i).cnt + 1)) ys := by
  obtain ⟨ys, hl⟩ := h.link i hi
  rw [hl, Mc.next_copy] at hn
  by_cases h0 : (js i).len - 8 * (pj i).cnt = 0
  · rw [if_pos h0] at hn; cases hn
  · rw [if_neg h0] at hn
    have hm : min (8 * (pj i).cnt) (js i).len = 8 * (pj i).cnt := by omega
    rw [hm] at hn
    refine ⟨by omega, (Option.some.inj hn).symm, fun x => ?_⟩
    rw [hl, Mc.take_copy, if_neg h0, hm]
    have hx : Cy.nx ((js i).len - 8 * (pj i).cnt) = min 8 ((js i).len - 8 * (pj i).cnt) := by unfold Cy.nx; split <;> omega
    rw [hx]
    exact ⟨_, by congr 1 <;> omega⟩

theorem next_none (h : PW w p gp q jb JA c5 js pj tv ts st) {i : Nat} (hi : i < st.na) (hn : (st.ms i).next = none) : (js i).len ≤ 8 * (pj i).cnt := by
  obtain ⟨ys, hl⟩ := h.link i hi
  rw [hl, Mc.next_copy] at hn
  by_cases h0 : (js i).len - 8 * (pj i).cnt = 0
  · omega
  · rw [if_neg h0] at hn; cases hn
end PW

/-- The plain Do was done. -/
def DoneTo (q : Nat) (m : Nat → Nat) (a : Ac) (w : World) (e : Ending) (w' : World) : Prop :=
  ∃ y : Ans, e = .returned (.tuple #[.agg #[.int .u64 y.V, .bool y.D, .slice y.A y.L y.cap], .int .i64 0]) ∧ y.Good (fun k => w.heap.size ≤ k) w' ∧ (⟨y.V, y.D, y.bs⟩ : An) = a.ans m ∧ PlainAt w' q 256 (a.aft m) ∧ Touch (Lone q) w w'

theorem refDo_ok {w : World} {q : Nat} {u : Nat → Nat} (hr : PlainAt w q 256 u) (hu : Mb.IsB u) (kd : Kd) (hk : kd.Okay) (n i : Nat) (hmore : 8 * i < n) (hp : 0 ≤ kd.place) (hfit : kd.place + (8 * i : Nat) + (Cy.nx (n - 8 * i) : Nat) ≤ 256) (B : Option Addr) (L c : Nat)
    (hb : BytesAt w (.slice B L c) (kd.bytes (8 * i) (Cy.nx (n - 8 * i)))) :
    Calls Try.prog 32 #[.slice (some ⟨q, 0, none⟩) 256 256, .agg #[.int .i64 kd.kind, .int .i64 (kd.place + 8 * (i : Int)), .int .i64 (Cy.nx (n - 8 * i) : Nat), .int .u64 0, .int .u64 0, .slice B L c]] w (DoneTo q u (acOf kd n i) w) := by
  have hx := Cy.nx_le (n - 8 * i)
  have hx0 := Cy.nx_pos (r := n - 8 * i) (by omega)
  obtain ⟨P, hP⟩ := Int.eq_ofNat_of_zero_le (a := kd.place + 8 * (i : Int)) (by omega)
  have hP2 : kd.place + ((8 * i : Nat) : Int) = (P : Nat) := by rw [← hP]; push_cast; rfl
  have hPn : P + Cy.nx (n - 8 * i) ≤ 256 := by omega
  have hac : acOf kd n i = ⟨kd.kind, (P : Nat), (Cy.nx (n - 8 * i) : Nat), 0, 0, kd.bytes (8 * i) (Cy.nx (n - 8 * i))⟩ := by unfold acOf; rw [hP2]
  have hbys := Kd.bytes_bys hk (8 * i) (Cy.nx (n - 8 * i))
  rw [hac, hP]
  generalize Cy.nx (n - 8 * i) = N at *
  rcases kd.kind_of with e | e
  · rw [e]
    refine (refDo_read hr hu P N 0 0 B L c hx.2 hx0 (by decide) hPn).mono ?_
    rintro en w' ⟨A', l, c', rfl, ho, hbl⟩
    obtain ⟨h1, h2, h3⟩ := own_shape ho
    rw [Mb.bl_length] at h1
    subst h1
    have hbl2 : Mb.bl (fun j => u (P + j)) 0 l = Mb.bl u P l := by simp [Mb.bl]
    refine ⟨⟨0, false, A', l, c', fun j => u (P + j)⟩, rfl, ⟨by show (0 : Nat) < _; decide, fun j => hu _, ?_, h2, h3, hx.2⟩, ?_, ?_, Touch.of_below hbl⟩
    · show BytesIn _ w' (.slice A' l c') (Mb.bl (fun j => u (P + j)) 0 l)
      rw [hbl2]
      exact BytesIn.of_own ho
    · unfold Ac.ans Ans.bs Mb.ansV Mb.ansD Mb.ansB
      simp [hbl2]
    · unfold Ac.aft Mb.aft
      simp only [Int.reduceEq, if_false]
      exact hr.of_block (hbl.block q hr.lt)
  · have hlen := kd.bytes_len e (8 * i) N
    generalize hbs : kd.bytes (8 * i) N = bs at *
    have hL : L = N := by obtain ⟨_, _, hv, _⟩ := hb; injection hv with _ e1 _; omega
    subst hL
    have hbf := bl_fnOf hbys
    rw [hlen] at hbf
    rw [e]
    refine (refDo_write hr hu P L 0 0 B c (fnOf bs) (by rw [hbf]; exact hb) hx.2 hx0 (by decide) hPn).mono ?_
    rintro en w' ⟨rfl, hw, ht⟩
    refine ⟨⟨0, false, none, 0, 0, fun _ => 0⟩, rfl, ⟨by decide, fun j => by show (0 : Nat) < 256; decide, BytesIn.none _ _, Nat.le_refl _, by decide, by decide⟩, ?_, ?_, ht⟩
    · unfold Ac.ans Ans.bs Mb.ansV Mb.ansD Mb.ansB
      simp [Mb.bl]
    · unfold Ac.aft Mb.aft
      have hls := Cy.lay_step (m := u) (fnOf_isB hbys) P 0 L
      rw [Cy.lay_zero, Nat.add_zero, Nat.zero_add] at hls
      simp only [Nat.zero_add] at hls
      simp only [Int.reduceEq, if_false, if_true, Int.toNat_natCast]
      rw [hls]
      exact hw
end Go.Proofs.Ytegjnejekakeiaa
namespace Go.Proofs.Ytegjnejekakeiaa
open Go.RowKit

theorem kind_of {w : World} {kd : Kd} {d c : Nat} {B : Option Addr} {L q : Nat} (h : BytesAt w (.slice B L q) (kd.bytes d c)) : kd.kind = 5 ∨ (kd.kind = 6 ∧ (c : Int) = (L : Int)) := by
  obtain ⟨A, q', e, _⟩ := h
  injection e with _ e _
  cases kd with
  | rd a => exact .inl rfl
  | wr a f => exact .inr ⟨rfl, by rw [e]; simp [Kd.bytes, Mb.bl_length]⟩
  | ze a => exact .inr ⟨rfl, by rw [e]; simp [Kd.bytes, Mb.bl]⟩

theorem seven_move {w w' : World} {gp gA : Nat} {u0 u1 u2 u3 u4 u5 u6 : Value} (hb : Below w.heap.size w w') (h1 : gp < w.heap.size) (h2 : gA < w.heap.size) (h : w.cell? ⟨gp, 0, none⟩ = some u0 ∧ w.cell? ⟨gA, 0, none⟩ = some u1 ∧ w.cell? ⟨gA, 1, none⟩ = some u2 ∧ w.cell? ⟨gA, 2, none⟩ = some u3 ∧ w.cell? ⟨gA, 3, none⟩ = some u4 ∧ w.cell? ⟨gA, 4, none⟩ = some u5 ∧ w.cell? ⟨gA, 5, none⟩ = some u6) : w'.cell? ⟨gp, 0, none⟩ = some u0 ∧ w'.cell? ⟨gA, 0, none⟩ = some u1 ∧ w'.cell? ⟨gA, 1, none⟩ = some u2 ∧ w'.cell? ⟨gA, 2, none⟩ = some u3 ∧ w'.cell? ⟨gA, 3, none⟩ = some u4 ∧ w'.cell? ⟨gA, 4, none⟩ = some u5 ∧ w'.cell? ⟨gA, 5, none⟩ = some u6 := by
  have k1 := fun j => hb.cell (p := ⟨gp, j, none⟩) h1
  have k2 := fun j => hb.cell (p := ⟨gA, j, none⟩) h2
  simp only [k1, k2]
  exact h

set_option maxRecDepth 100000 in
set_option maxHeartbeats 2000000 in
theorem plainPick_bad {w : World} {o : Nat → Pt} {gp q jb : Nat} {JA : Option Addr} {c5 : Nat} {js : Nat → Jb} {pj : Nat → PJ} {tv : Value} {ts : List Tx} {st : St} (h : PW w o gp q jb JA c5 js pj tv ts st) (p : Pk) (hK : p.K = 0) (i : Nat) (hA : p.A = i) (hi : i < st.na) (hd : st.dead i = false) (hmore : 8 * (pj i).cnt < (js i).len) (hbig : 256 < (js i).at_ + (8 * (pj i).cnt : Nat) + (Cy.nx ((js i).len - 8 * (pj i).cnt) : Nat)) (hL : (js i).L ≤ 131072) :
    Calls Try.prog 12 #[.pointer (some ⟨gp, 0, none⟩), .agg #[.int .i64 p.K, .int .i64 p.A, .int .i64 p.N]] w fun e w' => e = .returned (.tuple #[.agg #[.int .i64 0, .int .i64 0, .int .i64 0, .int .i64 0, .int .i64 0, .int .i64 0, .int .u64 0, .int .u64 0, .slice none 0 0, .int .u64 0, .bool false, .slice none 0 0], .int .i64 2]) ∧ PW w' o gp q jb JA c5 js pj tv ts (st.kill i) ∧ Touch (Mut o) w w' := by
  have HK := Lib.hid hK
  have HA := Lib.hid hA
  have HD := Lib.hid hd
  clear hK hA hd
  obtain ⟨WW, hWW⟩ : ∃ WW, WW = (w.alloc (.cells #[.int .i64 p.K, .int .i64 p.A, .int .i64 p.N] 44)).alloc (.cells #[.int .i64 0, .int .i64 0, .int .i64 0, .int .i64 0, .int .i64 0, .int .i64 0, .int .u64 0, .int .u64 0, .slice none 0 0, .int .u64 0, .bool false, .slice none 0 0] 51) := ⟨_, rfl⟩
  have HB := Lib.hid (pick_boxes w p WW hWW)
  have hlg : gp < w.heap.size := (Array.getElem?_eq_some_iff.1 h.head).1
  have HS := Lib.hid h
  have HMORE := Lib.hid hmore
  have HBIG := Lib.hid hbig
  clear hmore hbig
  clear h
  go_enter Try.func12, Try.ntmps12
  go_upto_region 1 with (fail)
  rw [← hWW]
  clear hWW
  obtain ⟨hb0, hx0, hsz0⟩ := HB.out
  have p0 : WW.cell? ⟨w.heap.size, 0, none⟩ = some (.int .i64 p.K) := by simp [World.cell?, hx0.pk]
  have p1 : WW.cell? ⟨w.heap.size, 1, none⟩ = some (.int .i64 p.A) := by simp [World.cell?, hx0.pk]
  have p2 : WW.cell? ⟨w.heap.size, 2, none⟩ = some (.int .i64 p.N) := by simp [World.cell?, hx0.pk]
  go_upto_region 2 with (fail)
  have hbx := (Below.refl WW.heap.size WW).alloc (Nat.le_refl _) (.cells #[.int .i64 p.K, .int .i64 p.A, .int .i64 p.N, .int .i64 0, .int .i64 0, .int .i64 0, .int .u64 0, .int .u64 0, .slice none 0 0, .int .u64 0, .bool false, .slice none 0 0] 51)
  have hb2 := hb0.alloc hb0.size (.cells #[.int .i64 p.K, .int .i64 p.A, .int .i64 p.N, .int .i64 0, .int .i64 0, .int .i64 0, .int .u64 0, .int .u64 0, .slice none 0 0, .int .u64 0, .bool false, .slice none 0 0] 51)
  have HEV := hx0.ev.below hbx
  have p0 := (hbx.cell (p := ⟨w.heap.size, 0, none⟩) (lt_of_cell p0)).trans p0
  have p1 := (hbx.cell (p := ⟨w.heap.size, 1, none⟩) (lt_of_cell p1)).trans p1
  have p2 := (hbx.cell (p := ⟨w.heap.size, 2, none⟩) (lt_of_cell p2)).trans p2
  have hnew := Go.Deep.blk_alloc_new WW (.cells #[.int .i64 p.K, .int .i64 p.A, .int .i64 p.N, .int .i64 0, .int .i64 0, .int .i64 0, .int .u64 0, .int .u64 0, .slice none 0 0, .int .u64 0, .bool false, .slice none 0 0] 51)
  rw [hsz0] at hnew
  have HEB2 : Hid (EvAt (w.heap.size + 1 + 1) (WW.alloc (.cells #[.int .i64 p.K, .int .i64 p.A, .int .i64 p.N, .int .i64 0, .int .i64 0, .int .i64 0, .int .u64 0, .int .u64 0, .slice none 0 0, .int .u64 0, .bool false, .slice none 0 0] 51)) p Ac.zero An.zero (.slice none 0 0) (.slice none 0 0)) := Lib.hid ⟨hnew⟩
  clear hnew
  generalize WW.alloc (.cells #[.int .i64 p.K, .int .i64 p.A, .int .i64 p.N, .int .i64 0, .int .i64 0, .int .i64 0, .int .u64 0, .int .u64 0, .slice none 0 0, .int .u64 0, .bool false, .slice none 0 0] 51) = W2 at hbx hb2 HEV p0 p1 p2 HEB2 ⊢
  have HB2 := Lib.hid hb2
  have HPW := Lib.hid (HS.out.below hb2)
  have r0 := HEV.e0
  have f0 := HEV.free 0
  have r1 := HEV.e1
  have f1 := HEV.free 1
  have r2 := HEV.e2
  have f2 := HEV.free 2
  have r3 := HEV.e3
  have f3 := HEV.free 3
  have r4 := HEV.e4
  have f4 := HEV.free 4
  have r5 := HEV.e5
  have f5 := HEV.free 5
  have r6 := HEV.e6
  have f6 := HEV.free 6
  have r7 := HEV.e7
  have f7 := HEV.free 7
  have r8 := HEV.e8
  have f8 := HEV.free 8
  have r9 := HEV.e9
  have f9 := HEV.free 9
  have r10 := HEV.e10
  have f10 := HEV.free 10
  have r11 := HEV.e11
  have f11 := HEV.free 11
  have HEV2 := Lib.hid HEV
  clear HEV hbx hb2 hb0 hx0 hsz0
  have hna : 0 < st.na := by omega
  have hJA := HPW.out.jrow hna
  obtain ⟨hJ1, hJ2⟩ := hJA
  subst hJ1
  have g1 : W2.cell? ⟨gp, 1, none⟩ = some (.slice (some ⟨jb, 0, none⟩) st.na c5) := by simp [World.cell?, HPW.out.head]
  obtain ⟨j0, j1, j2, j3, j4, hj5, _, _⟩ := HPW.out.job i hi
  have hroom := HPW.out.room
  have hjl : jb < w.heap.size := HS.out.plt jb (by rw [hJ2]; simp)
  have HJ2 := Lib.hid hJ2
  clear hJ2
  rw [HD.out] at hj5
  rw [HA.out] at p1
  rw [HK.out] at p0
  go_upto_region 10 with (fail)
  go_quiet (fail)
  obtain ⟨n1, rfl⟩ : ∃ n, n = nq := ⟨_, rfl⟩
  go_upto_region 12 with (fail)
  go_quiet (fail)
  have hdn := drewN_below W2 (n1 + nq)
  have HN : Hid (Calls Try.prog 19 #[.agg #[.int .i64 (((js i).K : Int) % 3), .int .i64 (js i).at_, .int .i64 (js i).num, (pj i).B, .slice (pj i).A (pj i).cnt (pj i).cap, .bool false]] (W2.drewN (n1 + nq)) fun e w' => Below (W2.drewN (n1 + nq)).heap.size (W2.drewN (n1 + nq)) w' ∧ ∃ B L c, e = .returned (.tuple #[.agg #[.int .i64 (js i).kd.kind, .int .i64 ((js i).kd.place + (8 * (pj i).cnt : Nat)), .int .i64 (Cy.nx ((js i).len - 8 * (pj i).cnt) : Nat), .int .u64 0, .int .u64 0, .slice B L c], .bool true]) ∧ BytesAt w' (.slice B L c) ((js i).kd.bytes (8 * (pj i).cnt) (Cy.nx ((js i).len - 8 * (pj i).cnt)))) :=
    Lib.hid (((HPW.out.below hdn).next hi hL false).mono fun e w' hs => ⟨hs.1, hs.2.elim (fun h => by obtain ⟨_, B, L, c, e, hb⟩ := h; exact ⟨B, L, c, e, hb.bytes⟩) (fun h => absurd h.1 (by have := HMORE.out; omega))⟩)
  have HDN := Lib.hid hdn
  clear hdn
  go_upto_region 19 with (go_at_call 19; refine HN.out.mono ?_; rintro e w5 ⟨hb5, B1, L1, q1, rfl, hby⟩)
  have hb6 : Below W2.heap.size W2 (w5.alloc (.cells #[.int .i64 (js i).kd.kind, .int .i64 ((js i).kd.place + 8 * ((pj i).cnt : Int)), .int .i64 (Cy.nx ((js i).len - 8 * (pj i).cnt) : Nat), .int .u64 0, .int .u64 0, .slice B1 L1 q1] 47)) := (HDN.out.trans hb5).alloc (Nat.le_trans HDN.out.size hb5.size) _
  have hacc := Go.Deep.blk_alloc_new w5 (.cells #[.int .i64 (js i).kd.kind, .int .i64 ((js i).kd.place + 8 * ((pj i).cnt : Int)), .int .i64 (Cy.nx ((js i).len - 8 * (pj i).cnt) : Nat), .int .u64 0, .int .u64 0, .slice B1 L1 q1] 47)
  have hkind : (js i).kd.kind = 5 ∨ ((js i).kd.kind = 6 ∧ ((Cy.nx ((js i).len - 8 * (pj i).cnt) : Nat) : Int) = (L1 : Int)) := kind_of hby
  have hpl : (js i).kd.place = (js i).at_ := (js i).kd_place
  have HKD := Lib.hid (And.intro hkind hpl)
  have HB6 := Lib.hid hb6
  have hga : W2.heap.size ≤ w5.heap.size := Nat.le_trans HDN.out.size hb5.size
  clear HN hb5 hb6 hby hkind hpl j0 j1 j2 j3 j4 g1 hj5 p0 p1 p2 r0 r1 r2 r3 r4 r5 r6 r7 r8 r9 r10 r11 f0 f1 f2 f3 f4 f5 f6 f7 f8 f9 f10 f11
  generalize w5.alloc (.cells #[.int .i64 (js i).kd.kind, .int .i64 ((js i).kd.place + 8 * ((pj i).cnt : Int)), .int .i64 (Cy.nx ((js i).len - 8 * (pj i).cnt) : Nat), .int .u64 0, .int .u64 0, .slice B1 L1 q1] 47) = W6 at HB6 hacc ⊢
  generalize w5.heap.size = gA at hacc hga ⊢
  have HPW6 := Lib.hid (HPW.out.below HB6.out)
  have g0 : W6.cell? ⟨gp, 0, none⟩ = some (.slice (some ⟨q, 0, none⟩) 256 256) := by simp [World.cell?, HPW6.out.head]
  have hlgp : gp < W6.heap.size := HPW6.out.plt gp (by rw [HPW6.out.pgp]; simp)
  have hla : gA < W6.heap.size := (Array.getElem?_eq_some_iff.1 hacc).1
  generalize hkk : (js i).kd.kind = kk at HKD hacc ⊢
  generalize hpp : (js i).kd.place = pp at HKD hacc ⊢
  generalize hnn : Cy.nx ((js i).len - 8 * (pj i).cnt) = nn at HKD hacc HBIG ⊢
  have hn8 : nn ≤ 8 := by rw [← hnn]; exact (Cy.nx_le _).2
  have HK3 := Lib.hid (And.intro hkk (And.intro hpp hnn))
  clear hkk hpp hnn
  have hat0 : 0 ≤ (js i).at_ := by unfold Jb.at_; omega
  have hat1 : (js i).at_ ≤ 300 := by unfold Jb.at_; omega
  have x0 : W6.cell? ⟨gA, 0, none⟩ = some (.int .i64 kk) := by simp [World.cell?, hacc]
  have x1 : W6.cell? ⟨gA, 1, none⟩ = some (.int .i64 (pp + 8 * ((pj i).cnt : Int))) := by simp [World.cell?, hacc]
  have x2 : W6.cell? ⟨gA, 2, none⟩ = some (.int .i64 (nn : Nat)) := by simp [World.cell?, hacc]
  have x3 : W6.cell? ⟨gA, 3, none⟩ = some (.int .u64 0) := by simp [World.cell?, hacc]
  have x4 : W6.cell? ⟨gA, 4, none⟩ = some (.int .u64 0) := by simp [World.cell?, hacc]
  have x5 : W6.cell? ⟨gA, 5, none⟩ = some (.slice B1 L1 q1) := by simp [World.cell?, hacc]
  have HDO := Lib.hid (fun W => refDo_no q 256 kk (pp + 8 * ((pj i).cnt : Int)) (nn : Nat) 0 0 B1 L1 q1 W HKD.out.1 (by omega) (by omega) (by rw [HKD.out.2]; omega) (by rw [HKD.out.2]; have := HBIG.out; omega))
  have hX : Hid (∀ W, Below W6.heap.size W6 W → W.cell? ⟨gp, 0, none⟩ = some (.slice (some ⟨q, 0, none⟩) 256 256) ∧ W.cell? ⟨gA, 0, none⟩ = some (.int .i64 kk) ∧ W.cell? ⟨gA, 1, none⟩ = some (.int .i64 (pp + 8 * ((pj i).cnt : Int))) ∧ W.cell? ⟨gA, 2, none⟩ = some (.int .i64 (nn : Nat)) ∧ W.cell? ⟨gA, 3, none⟩ = some (.int .u64 0) ∧ W.cell? ⟨gA, 4, none⟩ = some (.int .u64 0) ∧ W.cell? ⟨gA, 5, none⟩ = some (.slice B1 L1 q1)) := Lib.hid fun W hb => seven_move hb hlgp hla ⟨g0, x0, x1, x2, x3, x4, x5⟩
  clear hacc
  have y0 := World.new_ne W6 ⟨gp, 0, none⟩ g0
  have y1 := World.new_ne W6 ⟨gA, 0, none⟩ x0
  have y2 := World.new_ne W6 ⟨gA, 1, none⟩ x1
  have y3 := World.new_ne W6 ⟨gA, 2, none⟩ x2
  have y4 := World.new_ne W6 ⟨gA, 3, none⟩ x3
  have y5 := World.new_ne W6 ⟨gA, 4, none⟩ x4
  have y6 := World.new_ne W6 ⟨gA, 5, none⟩ x5
  go_cut [10, 11] (fun a b wx => b = .int .i64 2 ∧ Below W6.heap.size W6 wx)
  case first =>
    go_region_held3 (fun w' => w'.cell? ⟨gp, 0, none⟩ = some (.slice (some ⟨q, 0, none⟩) 256 256) ∧ w'.cell? ⟨gA, 0, none⟩ = some (.int .i64 kk) ∧ w'.cell? ⟨gA, 1, none⟩ = some (.int .i64 (pp + 8 * ((pj i).cnt : Int))) ∧ w'.cell? ⟨gA, 2, none⟩ = some (.int .i64 (nn : Nat)) ∧ w'.cell? ⟨gA, 3, none⟩ = some (.int .u64 0) ∧ w'.cell? ⟨gA, 4, none⟩ = some (.int .u64 0) ∧ w'.cell? ⟨gA, 5, none⟩ = some (.slice B1 L1 q1))
      (go_keep)
      (first
        | (go_at_call 32; refine (HDO.out ((W6.alloc _).drew)).mono ?_; rintro e w2 ⟨rfl, hbd⟩; have hb1 := below_alloc_drew hbd; have HAN := AnsAt.of_blk ((alloc_drew_block hbd).trans (Go.Deep.blk_alloc_new _ _)); obtain ⟨n0, n1, n2, nf0, nf1, nf2, _⟩ := HAN; clear hbd; obtain ⟨k0, k1, k2, k3, k4, k5, k6⟩ := hX.out _ hb1)
        | (go_at_call 32; refine (HDO.out (W6.drew)).mono ?_; rintro e w2 ⟨rfl, hbd⟩; have hb1 := below_drew hbd; clear hbd; obtain ⟨k0, k1, k2, k3, k4, k5, k6⟩ := hX.out _ hb1))
    all_goals (go_wp2_with fail; go_meet)
    · exact ⟨rfl, hb1.alloc hb1.size _⟩
    · exact ⟨rfl, ((hb1.setCell (Nat.le_refl _) _).setCell (Nat.le_refl _) _).setCell (Nat.le_refl _) _⟩
  case rest =>
    obtain ⟨rfl, hbc⟩ := hcut
    have hBC := Lib.hid hbc
    have hb7 : Below W2.heap.size W2 wc := HB6.out.trans (hbc.mono HB6.out.size)
    have hb8 : Below w.heap.size w wc := HB2.out.trans (hb7.mono HB2.out.size)
    have HPW7 := Lib.hid (HPW.out.below hb7)
    have HEV3 := HEV2.out.below hb7
    have HB8 := Lib.hid hb8
    have hlr : w.heap.size + 1 < W2.heap.size := lt_of_cell HEV2.out.e0
    have hls := hb7.size
    clear hbc hb7 hb8 g0 x0 x1 x2 x3 x4 x5 y0 y1 y2 y3 y4 y5 y6
    have j5 := (HPW7.out.job i hi).c5
    have jf5 := (HPW7.out.job i hi).f5
    go_upto_region 22 with (fail)
    have HPW8 := Lib.hid (HPW7.out.setDead hi)
    have HEV3 : EvNew (w.heap.size + 1) (wc.setCell ⟨jb, i * 6 + 5, none⟩ (.bool true)) := HEV3.of_block (Below.heap_setCell wc ⟨jb, i * 6 + 5, none⟩ _ _ (by show w.heap.size + 1 ≠ jb; omega))
    have HT5 : Hid (Touch (Mut o) w (wc.setCell ⟨jb, i * 6 + 5, none⟩ (.bool true))) := Lib.hid ((Touch.of_below HB8.out).setCell (p := ⟨jb, i * 6 + 5, none⟩) (show Mut o jb by unfold Mut; rw [HJ2.out]; simp) _)
    clear j5 jf5
    generalize wc.setCell ⟨jb, i * 6 + 5, none⟩ (.bool true) = W9 at HPW8 HEV3 HT5 ⊢
    have r0 := HEV3.e0
    have f0 := HEV3.free 0
    have r1 := HEV3.e1
    have f1 := HEV3.free 1
    have r2 := HEV3.e2
    have f2 := HEV3.free 2
    have r3 := HEV3.e3
    have f3 := HEV3.free 3
    have r4 := HEV3.e4
    have f4 := HEV3.free 4
    have r5 := HEV3.e5
    have f5 := HEV3.free 5
    have r6 := HEV3.e6
    have f6 := HEV3.free 6
    have r7 := HEV3.e7
    have f7 := HEV3.free 7
    have r8 := HEV3.e8
    have f8 := HEV3.free 8
    have r9 := HEV3.e9
    have f9 := HEV3.free 9
    have r10 := HEV3.e10
    have f10 := HEV3.free 10
    have r11 := HEV3.e11
    have f11 := HEV3.free 11
    clear HEV3
    go_wp2
    refine bodyPost_ret (v := .tuple #[.agg #[.int .i64 0, .int .i64 0, .int .i64 0, .int .i64 0, .int .i64 0, .int .i64 0, .int .u64 0, .int .u64 0, .slice none 0 0, .int .u64 0, .bool false, .slice none 0 0], .int .i64 2]) (by simp [results, Try.results12, go_sem, r0, r1, r2, r3, r4, r5, r6, r7, r8, r9, r10, r11]) rfl ?_
    have ht12 := twelve_touch W9 (w.heap.size + 1) (.int .i64 0) (.int .i64 0) (.int .i64 0) (.int .i64 0) (.int .i64 0) (.int .i64 0) (.int .u64 0) (.int .u64 0) (.slice none 0 0) (.int .u64 0) (.bool false) (.slice none 0 0)
    refine ⟨rfl, HPW8.out.touch ht12 fun k hk e => ?_, HT5.out.trans' ht12 (Nat.le_succ _)⟩
    have e' : k = w.heap.size + 1 := e
    exact hk (HS.out.new_no (by omega))
end Go.Proofs.Ytegjnejekakeiaa
