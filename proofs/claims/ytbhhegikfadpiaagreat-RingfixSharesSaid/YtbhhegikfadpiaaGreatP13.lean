/-
  Proved: for every list of bytes, every size of a ring and every list of writes of somebody else's the statement RingfixShares (on a buffer that somebody else writes in between each access of a fix, and all bytes, are the document's) answers true, and its arguments read as before.
  Conditions: none beyond the row's own.
-/
import Derived.Test.YtbhhegikfadpiaaGreatP12
import Derived.Deep.RegionHeld3
import Derived.Test.YtbhhegikfadpiaaGreatP03
import Derived.Test.YtbhhegikfadpiaaGreatP07
namespace Go.Proofs.YtbhhegikfadpiaaGreat
open Go.RowKit

/-- The condition of a region that draws its order may become another on the way: one that says more. -/
theorem fix_keeps {gp : Nat} {mm : Fm} : Keeps (fun W F => FmAt W F gp mm) := fun _ hb h => h.keep hb

theorem fm_new8 {Z : Nat} (hZ : Z = 64 ∨ Z = 128 ∨ Z = 256) : Fm.new 8 Z = .live ⟨8, Z, 0, 0, 0, 0, .head⟩ := by
  unfold Fm.new
  rcases hZ with rfl | rfl | rfl <;> (rw [if_pos (by decide)]; rfl)

set_option linter.unusedSimpArgs false in
set_option maxRecDepth 100000 in
set_option maxHeartbeats 8000000 in
theorem ringfixShares_main (A1 : Option Addr) (L1 cp1 : Nat) (f1 : Nat → Nat) (hf1 : Mb.IsB f1) (bq : Nat) (A3 : Option Addr) (M cp3 : Nat) (hM : M ≤ cp3) (hcp3 : cp3 ≤ 9223372036854775807) (O : Nat → Ow) (w : World)
    (hby : BytesAt w (.slice A1 L1 cp1) (Mb.bl f1 0 L1)) (hO : OwsAt w A3 M O) (hL1 : L1 ≤ 400) (hM2 : M ≤ 150) (Z : Nat) (hZ : Z = 64 ∨ Z = 128 ∨ Z = 256) (hzq : wrap64 (64 * 2 ^ (bq % 3)) = (Z : Int)) :
    Calls Tryz.prog 3 #[.slice A1 L1 cp1, .int .u8 bq, .slice A3 M cp3] w (TrueBelow w) := by
  have HBY := Lib.hid hby
  have HO := Lib.hid hO
  have HF1 := Lib.hid hf1
  have HM := Lib.hid (And.intro hM hcp3)
  have hL1' : (L1 : Int) ≤ 400 := by omega
  have hM2' : (M : Int) ≤ 150 := by omega
  have hmk : ∀ W : World, (Instr.makeSlice 22 (.int .i64 320) (.int .i64 320)).run Tryz.prog W = .ok (.slice (some ⟨W.heap.size, 0, none⟩) 320 320) (W.alloc (.cells (madeCells #[.int .u8 0] 320) 5)) := make_bytes 320 (by decide)
  have HZ0 := Lib.hid hZ
  have HZQ := Lib.hid hzq
  clear hby hO hf1 hZ hzq hM hcp3
  go_enter Tryz.func3, Tryz.ntmps3
  go_wp2_with fail
  refine (fixed9_any w).mono ?_
  rintro e w1 ⟨rfl, hq1⟩
  have HW1 := Lib.hid hq1
  have hsw1 := hq1.size
  clear hq1
  go_upto_region 6 with (fail)
  simp only [HZQ.out]
  have hrb := un_below w1 (.int .i64 8) (.int .i64 Z) 26
  obtain ⟨r0, r1⟩ := rg_cells w1 8 Z
  have hsz2 : (w1.alloc (.cells #[.int .i64 8, .int .i64 Z] 26)).heap.size = w1.heap.size + 1 := by simp
  generalize w1.alloc (.cells #[.int .i64 8, .int .i64 Z] 26) = w2 at hrb r0 r1 hsz2 ⊢
  go_upto_region 7 with (go_at_call 6; refine (new_yes 320 40 w2 (by decide) (by decide) (by decide) (by decide)).mono ?_; rintro e w3 ⟨gb, hb, rfl, hB3, hgb, hhb, hb3⟩)
  have q0 := (hb3.cell (p := ⟨w1.heap.size, 0, none⟩) (lt_of_cell r0)).trans r0
  have q1 := (hb3.cell (p := ⟨w1.heap.size, 1, none⟩) (lt_of_cell r0)).trans r1
  have HW3 := Lib.hid ((HW1.out.trans (hrb.mono hsw1)).trans (hb3.mono (by have := hrb.size; omega)))
  have hs3 := hb3.size
  have HB3 := Lib.hid hB3
  have hgl3 := hB3.g_lt
  have hhl3 := hB3.h_lt
  clear r0 r1 hrb hb3 hB3
  go_upto_region 8 with (fail)
  have hb4 := (Below.refl w3.heap.size w3).alloc (Nat.le_refl _) (.cells (madeCells #[.int .u8 0] 320) 5)
  have hrow4 := zero_row320 w3
  have hsz4 : (w3.alloc (.cells (madeCells #[.int .u8 0] 320) 5)).heap.size = w3.heap.size + 1 := by simp
  generalize w3.alloc (.cells (madeCells #[.int .u8 0] 320) 5) = w4 at hb4 hrow4 hsz4 ⊢
  obtain ⟨q, hq⟩ : ∃ q, q = w3.heap.size := ⟨_, rfl⟩
  rw [← hq] at hrow4 ⊢
  have p0 := (hb4.cell (p := ⟨w1.heap.size, 0, none⟩) (lt_of_cell q0)).trans q0
  have p1 := (hb4.cell (p := ⟨w1.heap.size, 1, none⟩) (lt_of_cell q0)).trans q1
  have HB4 := Lib.hid (HB3.out.below hb4)
  have HW4 := Lib.hid (HW3.out.trans (hb4.mono HW3.out.size))
  have HR4 := Lib.hid hrow4
  have HY4 := Lib.hid (HBY.out.below HW4.out)
  have hs4 := hb4.size
  have HQ := Lib.hid (And.intro hq (And.intro hgb (And.intro hhb (And.intro hgl3 hhl3))))
  have hqrb : ¬ Lone q w1.heap.size := fun e => by have e : w1.heap.size = q := e; omega
  have hq1 : w3.heap.size ≤ q := by omega
  have hq2 : q ≤ w3.heap.size := by omega
  clear q0 q1 hb4 hrow4 hmk HB3 hq
  obtain ⟨w5, hrun5, hr5, ht5⟩ := run_copy_cut (u := fun _ => 0) (f := f1) (dLen := 320) (dCap := 320) HR4.out A1 L1 cp1 HY4.out (Nat.le_refl _) 3
  go_upto_region 9 with (fail)
  clear hrun5
  have HU : Hid (Mb.IsB (Cy.lay (fun _ => 0) f1 0 (min L1 320))) := Lib.hid (Cy.lay_isB Mb.zero_isB HF1.out _ _)
  generalize Cy.lay (fun _ => 0) f1 0 (min L1 320) = u at hr5 HU
  have HR5 := Lib.hid hr5
  have HB5 : Hid (Buf w5 gb hb (fun _ => 0) 40 0) := Lib.hid (HB4.out.of_blocks (ht5.block gb HB4.out.g_lt fun e => by have e : gb = q := e; omega) (ht5.block hb HB4.out.h_lt fun e => by have e : hb = q := e; omega))
  have r0 := (ht5.cell (p := ⟨w1.heap.size, 0, none⟩) (lt_of_cell p0) hqrb).trans p0
  have r1 := (ht5.cell (p := ⟨w1.heap.size, 1, none⟩) (lt_of_cell p0) hqrb).trans p1
  have HW5 := Lib.hid (ht5.below HW4.out HW4.out.size fun k hk => by have e : k = q := hk; rw [e, HQ.out.1]; exact HW3.out.size)
  have hs5 := ht5.size
  clear p0 p1 hr5 ht5 HB4 HR4 HY4
  go_wp2_with fail
  go_loopw [11] (fun t wr => ∃ i : Nat, t = .int .i64 i ∧ i ≤ 320 ∧ i % 8 = 0 ∧ (∃ c, Buf wr gb hb (Cy.lay (fun _ => 0) u 0 i) 40 c) ∧ Touch (Two gb hb) w5 wr) (fun t _ => 320 - (intOf t).toNat)
  case atStart => exact ⟨0, rfl, by omega, rfl, ⟨0, by rw [Cy.lay_zero]; exact HB5.out⟩, Touch.refl _ _⟩
  case round =>
    obtain ⟨i, rfl, hi, hi8, ⟨c, hbi⟩, hti⟩ := hrel
    have HBI := Lib.hid hbi
    have HTI := Lib.hid hti
    have hqn : ¬ Two gb hb q := fun e => by rcases e with e | e <;> omega
    have HRI : Hid (PlainAt wr q 320 u) := Lib.hid (HR5.out.of_block (hti.block q HR5.out.lt hqn))
    have hsi := hti.size
    clear hbi hti
    by_cases hlt : i < 320
    · have hg1 : (i : Int) < 320 := by omega
      have hg2 : (i : Int) + 8 ≤ 320 := by omega
      have hg3 : (0 : Int) ≤ i := by omega
      have hg4 : (i : Int) ≤ i + 8 := by omega
      have hpart := HRI.out.part i 8 (320 - i) (by omega)
      rw [bl_from] at hpart
      have HPT := Lib.hid hpart
      clear hpart
      go_wp2_with fail
      refine (do_ok HBI.out 6 i 8 0 0 (f := fun j => u (i + j)) (fun j => HU.out _) (some ⟨q, i, none⟩) 8 (320 - i) (by omega) (by omega) HPT.out (by decide) (chk_write (by decide) (by omega))).mono ?_
      rintro e w6 ⟨s6, rfl, _, hst6, htt6⟩
      have HST : Hid (∃ c, Buf w6 gb hb (Cy.lay (fun _ => 0) u 0 (i + 8)) 40 c) := Lib.hid ⟨_, by
        have h := Cy.lay_step (m := fun _ => 0) HU.out 0 i 8
        rw [Nat.zero_add] at h
        rw [← h]
        exact hst6⟩
      have HT6 := Lib.hid (HTI.out.trans htt6)
      clear hst6 htt6 HPT
      go_wp2
      go_roundw
      case rel => exact ⟨i + 8, by go_num, by omega, by omega, HST.out, HT6.out⟩
      case measure => simp [intOf]; omega
    · have hge : (320 : Int) ≤ i := by omega
      obtain rfl : i = 320 := by omega
      obtain ⟨m0, hm0⟩ : ∃ m0, m0 = Cy.lay (fun _ => 0) u 0 320 := ⟨_, rfl⟩
      have hbi := HBI.out
      obtain ⟨c0, hc0⟩ : ∃ c0, c0 = c := ⟨_, rfl⟩
      have hri : PlainAt wr q (8 * 40) m0 := HRI.out.congr fun j hj => by
        rw [hm0]
        unfold Cy.lay
        rw [if_pos (by omega), Nat.sub_zero]
      rw [← hm0] at hbi
      have HMB : Hid (Mb.IsB m0) := Lib.hid (by rw [hm0]; exact Cy.lay_isB Mb.zero_isB HU.out _ _)
      have p0 := (HTI.out.cell (p := ⟨w1.heap.size, 0, none⟩) (lt_of_cell r0) (fun e => by rcases e with e | e <;> (have e2 : w1.heap.size = _ := e; omega))).trans r0
      have p1 := (HTI.out.cell (p := ⟨w1.heap.size, 1, none⟩) (lt_of_cell r0) (fun e => by rcases e with e | e <;> (have e2 : w1.heap.size = _ := e; omega))).trans r1
      have HBW := Lib.hid hbi
      have HRW := Lib.hid hri
      have HWW := Lib.hid (HTI.out.below HW5.out HW5.out.size fun k hk => by rcases hk with e | e <;> omega)
      clear hm0 hbi hri HBI HRI hc0 r0 r1 HR5 HB5
      rename World => w7
      go_upto_region 14 with (go_at_call 8; refine (fxNew 8 Z (by decide) (by have := HZ0.out; omega) w7).mono ?_; rintro e w8 ⟨gp, rfl, hp8, hb8⟩)
      have hs8 := hb8.size
      have hsw7 := HWW.out.size
      have hgl7 := HBW.out.g_lt
      have hhl7 := HBW.out.h_lt
      have hql7 := HRW.out.lt
      have hrl7 := lt_of_cell p0
      have hshw : ShW w w8 gb hb q w1.heap.size w8.heap.size 8 Z 40 m0 m0 c (fun W F => FmAt W F gp ((Fm.new 8 Z).at (fun _ => ⟨0, false, none, 0, 0, fun _ => 0⟩) 0)) (fun k => w7.heap.size ≤ k ∧ k < w8.heap.size) 0 (fun _ => ⟨0, false, none, 0, 0, fun _ => 0⟩) (.slice none 0 0) :=
        ⟨HBW.out.below hb8, HRW.out.of_block (hb8.block q HRW.out.lt), hp8, fix_keeps, ⟨rfl, .inl ⟨rfl, rfl⟩⟩, (hb8.cell (p := ⟨w1.heap.size, 0, none⟩) hrl7).trans p0, (hb8.cell (p := ⟨w1.heap.size, 1, none⟩) hrl7).trans p1, HWW.out.trans (hb8.mono hsw7), fun k hk => ⟨hk.2, by omega, by omega, by omega, by omega, by omega, fun e => by cases e⟩, by omega, by omega⟩
      have HS := Lib.hid hshw
      have HNEW := Lib.hid (fm_new8 HZ0.out)
      clear hshw p0 p1 hp8 hb8 HBW HRW HTI hgl3 hhl3 hgb hhb
      go_wp2_with fail
      go_loopw [13, 62] (fun vT t wr => ∃ (i n : Nat) (F : Nat → Prop) (T : Nat → Ans) (m : Nat → Nat) (c : Int), t = .int .i64 i ∧ i ≤ M ∧ n ≤ i ∧ ShW w wr gb hb q w1.heap.size w8.heap.size 8 Z 40 m m c (fun W F => FmAt W F gp ((Fm.new 8 Z).at T n)) F n T vT ∧ Mb.IsB m ∧ (Fm.new 8 Z).Half T n ∧ Wordy n T) (fun _ t _ => M - (intOf t).toNat)
      case atStart => exact ⟨0, 0, _, _, m0, c, rfl, Nat.zero_le _, Nat.le_refl _, HS.out, HMB.out, fun j hj => absurd hj (Nat.not_lt_zero _), fun j hj => absurd hj (Nat.not_lt_zero _)⟩
      case round =>
        obtain ⟨i, n, F, T, m, c, rfl, hi, hni, hsw, hmb, hhf, hwd⟩ := hrel
        have HSW := Lib.hid hsw
        have HM2 := Lib.hid (And.intro hmb (And.intro hhf hwd))
        clear hsw hmb hhf hwd HS HMB
        by_cases hlt : i < M
        · have hg5 : (i : Int) < M := by omega
          have hg6 : (0 : Int) ≤ i := by omega
          obtain ⟨b3, off3, hA3, hl3, hc3⟩ := (HO.out.below HSW.out.low) (by omega)
          subst hA3
          obtain ⟨o0, o1, ho2, ho3⟩ := hc3 i hlt
          clear hc3
          go_wp2_with fail
          have hwb := (Below.refl wr.heap.size wr).alloc (Nat.le_refl _) (.cells #[.int .u16 (O i).P, .int .u64 (O i).V] 43)
          have hwx := Go.Deep.blk_alloc_new wr (.cells #[.int .u16 (O i).P, .int .u64 (O i).V] 43)
          have hfr := HSW.out.fresh (Nat.le_refl _)
          obtain ⟨bx, hbx⟩ : ∃ bx, bx = wr.heap.size := ⟨_, rfl⟩
          generalize wr.alloc (.cells #[.int .u16 (O i).P, .int .u64 (O i).V] 43) = v1 at hwb hwx ⊢
          have HS1 := Lib.hid (HSW.out.below hwb)
          rw [← hbx] at hwx hfr ⊢
          have HBX := Lib.hid hfr
          have x0 : v1.cell? ⟨bx, 0, none⟩ = some (.int .u16 (O i).P) := by simp [World.cell?, hwx]
          have x1 : v1.cell? ⟨bx, 1, none⟩ = some (.int .u64 (O i).V) := by simp [World.cell?, hwx]
          clear hwb hwx hfr hbx o0 o1
          obtain ⟨s, hs, hsB, hsZ⟩ := Fm.at_BZ (T := T) HNEW.out n
          have hfm : FmAt v1 F gp ((Fm.new 8 Z).at T n) := HS1.out.mach
          have hfine := fun a (ha : ((Fm.new 8 Z).at T n).next = some a) => Fm.fine hfm ha
          have HNX := Lib.hid (fixNext hfm (fun k hk => (HS1.out.sep k hk).1))
          have HNW := fun a (ha : ((Fm.new 8 Z).at T n).next = some a) (hb : a.bs = []) => Lib.hid (fixNextW hfm (fun k hk => (HS1.out.sep k hk).1) ha hb)
          have hok : s.Ok := by
            rw [hs] at hfm
            obtain ⟨_, _, _, _, hok, _⟩ := hfm
            exact hok
          have HSE := Lib.hid (And.intro hs (And.intro hsB hsZ))
          clear hfm
          cases hnx : s.next with
          | none =>
            have hno : ((Fm.new 8 Z).at T n).next = none := by rw [hs]; exact hnx
            rw [hno] at HNX
            clear HNW hok hfine hno hnx hs hsB hsZ
            refine HNX.out.mono ?_
            rintro e v2 ⟨hb2, rfl⟩
            have HS2 := Lib.hid (HS1.out.below hb2)
            have hb3 := (Below.refl v2.heap.size v2).alloc (Nat.le_refl _) (.cells #[.int .i64 0, .int .i64 0, .int .i64 0, .int .u64 0, .int .u64 0, .slice none 0 0] 37)
            clear hb2
            go_wp2_with fail
            generalize v2.alloc (.cells #[.int .i64 0, .int .i64 0, .int .i64 0, .int .u64 0, .int .u64 0, .slice none 0 0] 37) = W at hb3 ⊢
            have HZ := Lib.hid (HS2.out.below hb3)
            clear hb3
            have hcvo : (convert 22 9 (.slice (some ⟨q, 0, none⟩) 320 320)).run Tryz.prog W.drew = .ok (.string (strOfNums (Mb.bl m 0 320))) W.drew := ((HZ.out.below (Below.refl W.heap.size W).drew).row.part 0 320 320 (by omega)).conv
            go_wp2_with fail
            refine wp_region_noPanic ?_
            refine wp_region_held_drew (S := fun w' => (convert 22 9 (.slice (some ⟨q, 0, none⟩) 320 320)).run Tryz.prog w' = .ok (.string (strOfNums (Mb.bl m 0 320))) w') (by kernel_rfl) ?_ (fun hHeld => ?_)
            · (try dsimp only); go_keep
            refine wpAnyH_take (i := 0) (oi := _) (v := ?_) rfl (by kernel_rfl) (by kernel_rfl) (by kernel_rfl) (fun _ _ _ h => h) (Or.inl ⟨by rfl, ?_⟩) (by assumption) ?_
            rotate_left
            · (intro w hSw; (try dsimp only at hSw); go_simp; try (with_reducible rfl))
            try simp only [Act.put, Array.reduceGetElem, List.setIfInBounds_toArray, List.set_cons_zero, List.set_cons_succ]
            refine wpAnyH_take (i := 1) (oi := _) (v := ?_) rfl (by kernel_rfl) (by kernel_rfl) (by kernel_rfl) (fun _ _ _ h => h) (Or.inl ⟨by rfl, ?_⟩) (by assumption) ?_
            rotate_left
            · (intro w hSw; (try dsimp only at hSw); go_simp; try (with_reducible rfl))
            try simp only [Act.put, Array.reduceGetElem, List.setIfInBounds_toArray, List.set_cons_zero, List.set_cons_succ]
            refine wpAnyH_take (i := 2) (oi := _) (v := ?_) rfl (by kernel_rfl) (by kernel_rfl) (by kernel_rfl) (fun _ _ _ h => h) (Or.inl ⟨by rfl, ?_⟩) (by assumption) ?_
            rotate_left
            · (intro w hSw; (try dsimp only at hSw); go_simp; try (with_reducible rfl))
            try simp only [Act.put, Array.reduceGetElem, List.setIfInBounds_toArray, List.set_cons_zero, List.set_cons_succ]
            refine wpAnyH_take (i := 3) (oi := _) (v := ?_) rfl (by kernel_rfl) (by kernel_rfl) (by kernel_rfl) (fun _ _ _ h => h) (Or.inl ⟨by rfl, ?_⟩) (by assumption) ?_
            rotate_left
            · (intro w hSw; (try dsimp only at hSw); go_simp; try (with_reducible rfl))
            try simp only [Act.put, Array.reduceGetElem, List.setIfInBounds_toArray, List.set_cons_zero, List.set_cons_succ]
            refine wpAnyH_take (i := 6) (oi := _) (v := ?_) rfl (by kernel_rfl) (by kernel_rfl) (by kernel_rfl) (fun _ _ _ h => h) (Or.inl ⟨by rfl, ?_⟩) (by assumption) ?_
            rotate_left
            · (intro w hSw; (try dsimp only at hSw); go_simp; try (with_reducible rfl))
            try simp only [Act.put, Array.reduceGetElem, List.setIfInBounds_toArray, List.set_cons_zero, List.set_cons_succ]
            refine wpAnyH_take (i := 7) (oi := _) (v := ?_) rfl (by kernel_rfl) (by kernel_rfl) (by kernel_rfl) (fun _ _ _ h => h) (Or.inl ⟨by rfl, ?_⟩) (by assumption) ?_
            rotate_left
            · (intro w hSw; (try dsimp only at hSw); go_simp; try (with_reducible rfl))
            try simp only [Act.put, Array.reduceGetElem, List.setIfInBounds_toArray, List.set_cons_zero, List.set_cons_succ]
            refine wpAnyH_ready (rs := [4]) (by kernel_rfl) (by simp) ?_
            refine AllReadyH.cons (o := _) rfl (fun K9 hK => ?_) ?_
            rotate_left
            · exact AllReadyH.nil
            go_simp
            go_at_call 14
            refine (allBytes_any (HZ.out.buf.below (Below.refl _ _).drew)).mono ?_
            rintro e w40 ⟨v40, rfl, hby40, hb40⟩
            have hconv40 : (convert 22 9 v40).run Tryz.prog w40 = .ok (.string (strOfNums (Mb.bl m 0 320))) w40 := hby40.conv
            have hb41 := below_drew hb40
            have kc : (convert 22 9 (.slice (some ⟨q, 0, none⟩) 320 320)).run Tryz.prog w40 = .ok (.string (strOfNums (Mb.bl m 0 320))) w40 := (((HZ.out.below hb41).row).part 0 320 320 (by omega)).conv
            have HB41 := Lib.hid hb41
            clear hb40 hb41 hby40 hcvo
            refine hK.out _ _ ?_ (fun hHeld => ?_)
            · (try dsimp only); go_keep
            clear hK K9
            try simp only [Act.put, Array.reduceGetElem, List.setIfInBounds_toArray, List.set_cons_zero, List.set_cons_succ]
            refine wpAnyH_ready (rs := [5]) (by kernel_rfl) (by simp) ?_
            refine AllReadyH.cons (o := _) rfl (fun K9 hK => ?_) ?_
            rotate_left
            · exact AllReadyH.nil
            go_simp
            refine hK.out _ _ ?_ (fun hHeld => ?_)
            · (try dsimp only); go_keep
            clear hK K9
            try simp only [Act.put, Array.reduceGetElem, List.setIfInBounds_toArray, List.set_cons_zero, List.set_cons_succ]
            refine wpAnyH_take (i := 8) (oi := _) (v := ?_) rfl (by kernel_rfl) (by kernel_rfl) (by kernel_rfl) (fun _ _ _ h => h) (Or.inl ⟨by rfl, ?_⟩) (by assumption) ?_
            rotate_left
            · (intro w hSw; (try dsimp only at hSw); go_simp; try (with_reducible rfl))
            try simp only [Act.put, Array.reduceGetElem, List.setIfInBounds_toArray, List.set_cons_zero, List.set_cons_succ]
            refine wpAnyH_take (i := 9) (oi := _) (v := ?_) rfl (by kernel_rfl) (by kernel_rfl) (by kernel_rfl) (fun _ _ _ h => h) (Or.inl ⟨by rfl, ?_⟩) (by assumption) ?_
            rotate_left
            · (intro w hSw; (try dsimp only at hSw); go_simp; try (with_reducible rfl))
            try simp only [Act.put, Array.reduceGetElem, List.setIfInBounds_toArray, List.set_cons_zero, List.set_cons_succ]
            refine wpAnyH_take (i := 10) (oi := _) (v := ?_) rfl (by kernel_rfl) (by kernel_rfl) (by kernel_rfl) (fun _ _ _ h => h) (Or.inl ⟨by rfl, ?_⟩) (by assumption) ?_
            rotate_left
            · (intro w hSw; (try dsimp only at hSw); go_simp; try (with_reducible rfl))
            try simp only [Act.put, Array.reduceGetElem, List.setIfInBounds_toArray, List.set_cons_zero, List.set_cons_succ]
            refine wpAnyH_done (by kernel_rfl) ?_ _
            refine NoPanic.normal ?_
            go_wp2
            go_ret
            exact ⟨by simp, HZ.out.low.trans (HB41.out.mono HZ.out.low.size)⟩
          | some a =>
            have hin8 : s.B + s.Z + 24 ≤ 320 := by have := HZ0.out; omega
            obtain ⟨P, N, hP, hN, hK, hN2, hin, hbs, hN4⟩ := Fs.word hok hnx hin8
            obtain ⟨K, P', N', V, U, bs⟩ := a
            simp only at hP hN hK hbs hN4
            subst hP hN hbs
            have hnxt : ((Fm.new 8 Z).at T n).next = some ⟨K, P, N, V, U, []⟩ := by rw [hs]; exact hnx
            have hV := (hfine _ hnxt).1
            have HX := Lib.hid (And.intro hnxt (And.intro hK (And.intro hN2 (And.intro hin (And.intro hN4 hV)))))
            have HNW2 := HNW _ hnxt rfl
            clear HNX HNW hfine hok hnx hs hsB hsZ hin8 hnxt hK hN2 hin hN4 hV
            refine HNW2.out.mono ?_
            rintro e v2 ⟨A2, c2, rfl, hc2, hb2⟩
            have hb3 := hb2.alloc hb2.size (.cells #[.int .i64 K, .int .i64 P, .int .i64 N, .int .u64 V, .int .u64 U, .slice A2 0 c2] 37)
            have hax := Go.Deep.blk_alloc_new v2 (.cells #[.int .i64 K, .int .i64 P, .int .i64 N, .int .u64 V, .int .u64 U, .slice A2 0 c2] 37)
            have hfr := HS1.out.fresh hb2.size
            go_upto_region 20 with (fail)
            generalize v2.alloc (.cells #[.int .i64 K, .int .i64 P, .int .i64 N, .int .u64 V, .int .u64 U, .slice A2 0 c2] 37) = v3 at hb3 hax ⊢
            obtain ⟨ab, hab⟩ : ∃ ab, ab = v2.heap.size := ⟨_, rfl⟩
            rw [← hab] at hax hfr ⊢
            have HAB := Lib.hid hfr
            have HS3 := Lib.hid (HS1.out.below hb3)
            have y0 := (hb3.cell (p := ⟨bx, 0, none⟩) (lt_of_cell x0)).trans x0
            have y1 := (hb3.cell (p := ⟨bx, 1, none⟩) (lt_of_cell x1)).trans x1
            have d0 : v3.cell? ⟨ab, 0, none⟩ = some (.int .i64 K) := by simp [World.cell?, hax]
            have d1 : v3.cell? ⟨ab, 1, none⟩ = some (.int .i64 P) := by simp [World.cell?, hax]
            have d2 : v3.cell? ⟨ab, 2, none⟩ = some (.int .i64 N) := by simp [World.cell?, hax]
            have d3 : v3.cell? ⟨ab, 3, none⟩ = some (.int .u64 V) := by simp [World.cell?, hax]
            have d4 : v3.cell? ⟨ab, 4, none⟩ = some (.int .u64 U) := by simp [World.cell?, hax]
            have d5 : v3.cell? ⟨ab, 5, none⟩ = some (.slice A2 0 c2) := by simp [World.cell?, hax]
            clear x0 x1 hb2 hb3 hax hfr hab HNW2
            go_wp2_with fail
            obtain ⟨hnxt, hK, hN2, hin, hN4, hV⟩ := HX.out
            have hmb := HM2.out.1
            by_cases hal : P % N = 0
            · obtain ⟨vv, hvv⟩ : ∃ vv, vv = shV m K P N := ⟨_, rfl⟩
              obtain ⟨m2, hm2⟩ : ∃ m2, m2 = shM m K P N V := ⟨_, rfl⟩
              have HDO := Lib.hid (bufWord HS3.out.buf K P N V U A2 c2 hc2 hK hN2 hV hal (by omega))
              have HRF := Lib.hid (fun (W : World) (hr : PlainAt W q (8 * 40) m) => refWord hr hmb K P N V U A2 0 c2 hK hN2 hV hal (by omega) (by omega))
              rw [← hvv, ← hm2] at HDO
              rw [← hvv, ← hm2] at HRF
              have hvb : vv < 18446744073709551616 ∧ (N = 4 → vv < 4294967296) := by
                rw [hvv]
                unfold shV
                rcases hK with rfl | rfl
                · rw [if_pos rfl]
                  have := Mb.nm_lt hmb P N
                  rcases hN2 with rfl | rfl
                  · have e : (2 : Nat) ^ (8 * 4) = 4294967296 := by decide
                    omega
                  · have e : (2 : Nat) ^ (8 * 8) = 18446744073709551616 := by decide
                    exact ⟨by omega, fun h => by cases h⟩
                · rw [if_neg (by decide)]
                  exact ⟨by omega, fun _ => by omega⟩
              have HM3 : Hid (Mb.IsB m2) := Lib.hid (by rw [hm2]; exact shM_isB hmb K P N V)
              have HVB := Lib.hid hvb
              have hvb1 := hvb.1
              clear hnxt hK hN2 hin hN4 hV hal hmb hvv hm2 hvb
              refine HDO.out.mono ?_
              rintro e v4 ⟨Ax, cx, rfl, hxb, hB4, ht4⟩
              have HS4 := Lib.hid (HS3.out.bufTo hB4 ht4)
              have hb5 := (Below.refl v4.heap.size v4).alloc (Nat.le_refl _) (.cells #[.int .u64 vv, .bool false, .slice Ax 0 cx] 33)
              have hx5 := Go.Deep.blk_alloc_new v4 (.cells #[.int .u64 vv, .bool false, .slice Ax 0 cx] 33)
              have hfr := HS4.out.fresh (Nat.le_refl _)
              have p0 := (ht4.cell (p := ⟨bx, 0, none⟩) (lt_of_cell y0) HBX.out.1).trans y0
              have p1 := (ht4.cell (p := ⟨bx, 1, none⟩) (lt_of_cell y1) HBX.out.1).trans y1
              have e0 := (ht4.cell (p := ⟨ab, 0, none⟩) (lt_of_cell d0) HAB.out.1).trans d0
              have e1 := (ht4.cell (p := ⟨ab, 1, none⟩) (lt_of_cell d1) HAB.out.1).trans d1
              have e2 := (ht4.cell (p := ⟨ab, 2, none⟩) (lt_of_cell d2) HAB.out.1).trans d2
              have e3 := (ht4.cell (p := ⟨ab, 3, none⟩) (lt_of_cell d3) HAB.out.1).trans d3
              have e4 := (ht4.cell (p := ⟨ab, 4, none⟩) (lt_of_cell d4) HAB.out.1).trans d4
              have e5 := (ht4.cell (p := ⟨ab, 5, none⟩) (lt_of_cell d5) HAB.out.1).trans d5
              clear y0 y1 d0 d1 d2 d3 d4 d5 hB4 ht4 HDO
              go_upto_region 21 with (fail)
              generalize v4.alloc (.cells #[.int .u64 vv, .bool false, .slice Ax 0 cx] 33) = v5 at hb5 hx5 ⊢
              obtain ⟨xb, hxbq⟩ : ∃ xb, xb = v4.heap.size := ⟨_, rfl⟩
              rw [← hxbq] at hx5 hfr ⊢
              have HXB := Lib.hid hfr
              have HS5 := Lib.hid (HS4.out.below hb5)
              have HXY := Lib.hid (hxb.below hb5)
              have y0 := (hb5.cell (p := ⟨bx, 0, none⟩) (lt_of_cell p0)).trans p0
              have y1 := (hb5.cell (p := ⟨bx, 1, none⟩) (lt_of_cell p1)).trans p1
              have d0 := (hb5.cell (p := ⟨ab, 0, none⟩) (lt_of_cell e0)).trans e0
              have d1 := (hb5.cell (p := ⟨ab, 1, none⟩) (lt_of_cell e1)).trans e1
              have d2 := (hb5.cell (p := ⟨ab, 2, none⟩) (lt_of_cell e2)).trans e2
              have d3 := (hb5.cell (p := ⟨ab, 3, none⟩) (lt_of_cell e3)).trans e3
              have d4 := (hb5.cell (p := ⟨ab, 4, none⟩) (lt_of_cell e4)).trans e4
              have d5 := (hb5.cell (p := ⟨ab, 5, none⟩) (lt_of_cell e5)).trans e5
              have z0 : v5.cell? ⟨xb, 0, none⟩ = some (.int .u64 vv) := by simp [World.cell?, hx5]
              have z1 : v5.cell? ⟨xb, 1, none⟩ = some (.bool false) := by simp [World.cell?, hx5]
              have z2 : v5.cell? ⟨xb, 2, none⟩ = some (.slice Ax 0 cx) := by simp [World.cell?, hx5]
              clear p0 p1 e0 e1 e2 e3 e4 e5 hb5 hx5 hfr hxbq hxb HS4
              go_wp2_with fail
              refine (HRF.out v5 HS5.out.row).mono ?_
              rintro e v6 ⟨rfl, hr6, ht6⟩
              have HS6 := Lib.hid (HS5.out.rowTo hr6 ht6)
              have hb7 := (Below.refl v6.heap.size v6).alloc (Nat.le_refl _) (.cells #[.int .u64 vv, .bool false, .slice none 0 0] 33)
              have hx7 := Go.Deep.blk_alloc_new v6 (.cells #[.int .u64 vv, .bool false, .slice none 0 0] 33)
              have hfr := HS6.out.fresh (Nat.le_refl _)
              have p0 := (ht6.cell (p := ⟨bx, 0, none⟩) (lt_of_cell y0) HBX.out.2.1).trans y0
              have p1 := (ht6.cell (p := ⟨bx, 1, none⟩) (lt_of_cell y1) HBX.out.2.1).trans y1
              have e0 := (ht6.cell (p := ⟨xb, 0, none⟩) (lt_of_cell z0) HXB.out.2.1).trans z0
              have e1 := (ht6.cell (p := ⟨xb, 1, none⟩) (lt_of_cell z1) HXB.out.2.1).trans z1
              have e2 := (ht6.cell (p := ⟨xb, 2, none⟩) (lt_of_cell z2) HXB.out.2.1).trans z2
              clear y0 y1 d0 d1 d2 d3 d4 d5 z0 z1 z2 hr6 ht6 HRF
              go_upto_region 22 with (fail)
              generalize v6.alloc (.cells #[.int .u64 vv, .bool false, .slice none 0 0] 33) = v7 at hb7 hx7 ⊢
              obtain ⟨yb, hyb⟩ : ∃ yb, yb = v6.heap.size := ⟨_, rfl⟩
              rw [← hyb] at hx7 hfr ⊢
              have HYB := Lib.hid hfr
              have HS7 := Lib.hid (HS6.out.below hb7)
              have HX7 : Hid (BytesAt v7 (.slice Ax 0 cx) []) := Lib.hid ⟨Ax, cx, rfl, fun h => absurd h (by simp)⟩
              have y0 := (hb7.cell (p := ⟨bx, 0, none⟩) (lt_of_cell p0)).trans p0
              have y1 := (hb7.cell (p := ⟨bx, 1, none⟩) (lt_of_cell p1)).trans p1
              have z0 := (hb7.cell (p := ⟨xb, 0, none⟩) (lt_of_cell e0)).trans e0
              have z1 := (hb7.cell (p := ⟨xb, 1, none⟩) (lt_of_cell e1)).trans e1
              have z2 := (hb7.cell (p := ⟨xb, 2, none⟩) (lt_of_cell e2)).trans e2
              have d0 : v7.cell? ⟨yb, 0, none⟩ = some (.int .u64 vv) := by simp [World.cell?, hx7]
              have d1 : v7.cell? ⟨yb, 1, none⟩ = some (.bool false) := by simp [World.cell?, hx7]
              have d2 : v7.cell? ⟨yb, 2, none⟩ = some (.slice none 0 0) := by simp [World.cell?, hx7]
              clear p0 p1 e0 e1 e2 hb7 hx7 hfr hyb HS6 HS5 HXY
              go_wp2_with fail
              refine (same_ans2 vv false Ax none 0 0 cx 0 [] v7 HX7.out (BytesAt.nil v7)).mono ?_
              rintro e v8 ⟨rfl, hb8⟩
              have HS8 := Lib.hid (HS7.out.below hb8)
              have p0 := (hb8.cell (p := ⟨bx, 0, none⟩) (lt_of_cell y0)).trans y0
              have p1 := (hb8.cell (p := ⟨bx, 1, none⟩) (lt_of_cell y1)).trans y1
              have e0 := (hb8.cell (p := ⟨xb, 0, none⟩) (lt_of_cell z0)).trans z0
              have e1 := (hb8.cell (p := ⟨xb, 1, none⟩) (lt_of_cell z1)).trans z1
              have e2 := (hb8.cell (p := ⟨xb, 2, none⟩) (lt_of_cell z2)).trans z2
              have f0 := (hb8.cell (p := ⟨yb, 0, none⟩) (lt_of_cell d0)).trans d0
              have f1 := (hb8.cell (p := ⟨yb, 1, none⟩) (lt_of_cell d1)).trans d1
              have f2 := (hb8.cell (p := ⟨yb, 2, none⟩) (lt_of_cell d2)).trans d2
              clear y0 y1 z0 z1 z2 d0 d1 d2 hb8 HS7 HX7
              have HTK := Lib.hid (fixTake HS8.out.mach (fun k hk => (HS8.out.sep k hk).1) ⟨vv, false, []⟩ hvb1 Ax 0 cx)
              go_wp2_with fail
              refine HTK.out.mono ?_
              rintro e v9 ⟨rfl, F9, hp9, ht9, hF9⟩
              have hgpF := HS8.out.mach.own
              have HS9 := Lib.hid (HS8.out.machTo (At' := fun W F => FmAt W F gp (((Fm.new 8 Z).at T n).take ⟨vv, false, []⟩)) fix_keeps hp9 (ht9.mono fun k hk => by have e : k = gp := hk; rw [e]; exact hgpF) hF9)
              have hbg : ¬ bx = gp := fun e => HBX.out.2.2.1 (e ▸ hgpF)
              have hyg : ¬ yb = gp := fun e => HYB.out.2.2.1 (e ▸ hgpF)
              have y0 := (ht9.cell (p := ⟨bx, 0, none⟩) (lt_of_cell p0) hbg).trans p0
              have y1 := (ht9.cell (p := ⟨bx, 1, none⟩) (lt_of_cell p1) hbg).trans p1
              have d0 := (ht9.cell (p := ⟨yb, 0, none⟩) (lt_of_cell f0) hyg).trans f0
              have d1 := (ht9.cell (p := ⟨yb, 1, none⟩) (lt_of_cell f1) hyg).trans f1
              have d2 := (ht9.cell (p := ⟨yb, 2, none⟩) (lt_of_cell f2) hyg).trans f2
              clear p0 p1 e0 e1 e2 f0 f1 f2 hp9 ht9 hF9 HTK hgpF hbg hyg HS8
              have hb10 := (Below.refl v9.heap.size v9).alloc (Nat.le_refl _) (.cells #[.int .u64 vv, .bool false, .slice none 0 0] 33)
              have HS10 := Lib.hid (HS9.out.below hb10)
              have hx10 := Lib.hid (Go.Deep.blk_alloc_new v9 (.cells #[.int .u64 vv, .bool false, .slice none 0 0] 33))
              have hbase : w8.heap.size ≤ (v9.alloc (.cells #[.int .u64 vv, .bool false, .slice none 0 0] 33)).heap.size := HS10.out.fix.2.2.2.2.2.2.2.2
              have hn150 : n ≤ 1000000 := by omega
              have p0 := (hb10.cell (p := ⟨bx, 0, none⟩) (lt_of_cell y0)).trans y0
              have p1 := (hb10.cell (p := ⟨bx, 1, none⟩) (lt_of_cell y1)).trans y1
              go_upto_region 27 with (at_builtin; refine wpList_app_more rfl _ _ rfl w8.heap.size n _ (Ans.row T n) ⟨vv, false, none, 0, 0, fun _ => 0⟩ v9.heap.size 1 rfl rfl HS10.out.tell hx10.out hn150 hbase ?_; intro gr cr v11 ho hgr hl hc1 hcb)
              have hrw := Ans.add_row T n ⟨vv, false, none, 0, 0, fun _ => 0⟩
              have HS11a := HS10.out.tellTo (T' := Ans.add T n ⟨vv, false, none, 0, 0, fun _ => 0⟩) (vT' := .slice (some ⟨gr, 0, none⟩) (n + 1) cr) (n' := n + 1) (by rw [hrw]; exact ho) hgr hl
              have y0 := (hgr.cell_far ⟨bx, 0, none⟩ (lt_of_cell p0) (fun e => HBX.out.2.2.2 e.symm)).trans p0
              have y1 := (hgr.cell_far ⟨bx, 1, none⟩ (lt_of_cell p1) (fun e => HBX.out.2.2.2 e.symm)).trans p1
              have hold : ∀ j, j < n → T j = Ans.add T n ⟨vv, false, none, 0, 0, fun _ => 0⟩ j := fun j hj => (Ans.add_old T n _ hj).symm
              have hnew : Ans.add T n ⟨vv, false, none, 0, 0, fun _ => 0⟩ n = ⟨vv, false, none, 0, 0, fun _ => 0⟩ := Ans.add_at T n _
              generalize Ans.add T n ⟨vv, false, none, 0, 0, fun _ => 0⟩ = T2 at HS11a hold hnew
              have hat : (Fm.new 8 Z).at T2 (n + 1) = ((Fm.new 8 Z).at T n).take ⟨vv, false, []⟩ := by
                show ((Fm.new 8 Z).at T2 n).take (T2 n).an = _
                rw [← Fm.at_congr hold, hnew]
                rfl
              rw [← hat] at HS11a
              have HS11 := Lib.hid HS11a
              have hwd2 : Wordy (n + 1) T2 := fun j hj => by
                by_cases e : j = n
                · subst e
                  rw [hnew]
                  exact ⟨HVB.out.1, rfl⟩
                · rw [← hold j (by omega)]
                  exact HM2.out.2.2 j (by omega)
              have hhf2 : (Fm.new 8 Z).Half T2 (n + 1) := fun j hj a ha hn4 => by
                by_cases e : j = n
                · subst e
                  rw [hnew]
                  rw [← Fm.at_congr hold, HX.out.1] at ha
                  injection ha with ha
                  subst ha
                  exact HVB.out.2 (by have h4 : (N : Int) = 4 := hn4; omega)
                · exact (HM2.out.2.1.congr hold) j (by omega) a ha hn4
              have HT2 := Lib.hid (And.intro hwd2 hhf2)
              have HTO := Lib.hid (HS11.out.told (hwd2.is v11) rfl)
              have HSA := Lib.hid (same9_any 8 Z (by decide) (by have := HZ0.out; omega) cr (n + 1) (some ⟨gr, 0, none⟩) hc1 hcb T2 v11 HTO.out hhf2 HS11.out.mach (fun k hk => (HS11.out.sep k hk).1))
              have r0 := HS11.out.r0
              have r1 := HS11.out.r1
              clear p0 p1 d0 d1 d2 hb10 hbase ho hgr hl HS11a hrw hold hnew hat hwd2 hhf2 HS10 HS9 HTO hx10
              go_wp2_with fail
              refine HSA.out.mono ?_
              rintro e v12 ⟨rfl, hb12⟩
              have HS12 := Lib.hid (HS11.out.below hb12)
              have p0 := (hb12.cell (p := ⟨bx, 0, none⟩) (lt_of_cell y0)).trans y0
              have p1 := (hb12.cell (p := ⟨bx, 1, none⟩) (lt_of_cell y1)).trans y1
              clear y0 y1 r0 r1 hb12 HS11 HSA
              go_upto_region 30 with (fail)
              obtain ⟨k, hk⟩ : ∃ k, k = 8 * ((O i).P % 200) := ⟨_, rfl⟩
              have hkq : (8 : Int) * (((O i).P : Int) % 200) = (k : Int) := by omega
              simp only [hkq]
              have hk8 : k % 8 = 0 := by omega
              obtain ⟨ov, hov⟩ : ∃ ov, ov = (O i).V := ⟨_, rfl⟩
              rw [← hov] at p1 ho3
              clear hk hkq hov p0
              by_cases hk3 : k < 320
              · have hg8 : (k : Int) < 320 := by omega
                have HDO := Lib.hid (bufWord HS12.out.buf 2 k 8 ov 0 none 0 (by decide) (.inr rfl) (.inr rfl) ho3 hk8 (by omega))
                have HRF := Lib.hid (fun (W : World) (hr : PlainAt W q (8 * 40) m2) => refWord hr HM3.out 2 k 8 ov 0 none 0 0 (.inr rfl) (.inr rfl) ho3 hk8 (by omega) (by omega))
                have HM4 := Lib.hid (shM_isB HM3.out 2 k 8 ov)
                clear hk8
                go_wp2_with fail
                refine HDO.out.mono ?_
                rintro e v13 ⟨Ay, cy, rfl, _, hB13, ht13⟩
                have HS13 := Lib.hid (HS12.out.bufTo hB13 ht13)
                have y1 := (ht13.cell (p := ⟨bx, 1, none⟩) (lt_of_cell p1) HBX.out.1).trans p1
                clear p1 hB13 ht13 HDO HS12
                go_wp2_with fail
                refine (HRF.out v13 HS13.out.row).mono ?_
                rintro e v14 ⟨rfl, hr14, ht14⟩
                have HS14 := Lib.hid (HS13.out.rowTo hr14 ht14)
                clear y1 hr14 ht14 HRF HS13
                go_wp2
                go_roundw
                case rel => exact ⟨i + 1, n + 1, F9, T2, _, _, by go_num, by omega, by omega, HS14.out, HM4.out, HT2.out.2, HT2.out.1⟩
                case measure => simp [intOf]; omega
              · have hg8 : ¬ (k : Int) < 320 := by omega
                clear hk8 p1
                go_wp2
                go_roundw
                case rel => exact ⟨i + 1, n + 1, F9, T2, _, _, by go_num, by omega, by omega, HS12.out, HM3.out, HT2.out.2, HT2.out.1⟩
                case measure => simp [intOf]; omega
            · have HDO := Lib.hid (bufSkew HS3.out.buf K P N V U A2 c2 hK hN2 hal (by omega))
              have HRF := Lib.hid (fun W => refDo_skew q 320 K P N V U A2 0 c2 W (by rcases hK with h | h <;> simp [h]) hN2 hal (by omega) (by omega))
              clear hnxt hK hN2 hin hN4 hV hal hmb
              refine HDO.out.mono ?_
              rintro e v4 ⟨rfl, hb4⟩
              have hb5 := hb4.alloc hb4.size (.cells #[.int .u64 0, .bool false, .slice none 0 0] 33)
              have hx5 := Go.Deep.blk_alloc_new v4 (.cells #[.int .u64 0, .bool false, .slice none 0 0] 33)
              clear hb4 HDO y0 y1
              go_upto_region 21 with (fail)
              generalize v4.alloc (.cells #[.int .u64 0, .bool false, .slice none 0 0] 33) = v5 at hb5 hx5 ⊢
              obtain ⟨xb, hxbq⟩ : ∃ xb, xb = v4.heap.size := ⟨_, rfl⟩
              rw [← hxbq] at hx5 ⊢
              have HS5 := Lib.hid (HS3.out.below hb5)
              have e0 := (hb5.cell (p := ⟨ab, 0, none⟩) (lt_of_cell d0)).trans d0
              have e1 := (hb5.cell (p := ⟨ab, 1, none⟩) (lt_of_cell d1)).trans d1
              have e2 := (hb5.cell (p := ⟨ab, 2, none⟩) (lt_of_cell d2)).trans d2
              have e3 := (hb5.cell (p := ⟨ab, 3, none⟩) (lt_of_cell d3)).trans d3
              have e4 := (hb5.cell (p := ⟨ab, 4, none⟩) (lt_of_cell d4)).trans d4
              have e5 := (hb5.cell (p := ⟨ab, 5, none⟩) (lt_of_cell d5)).trans d5
              have z0 : v5.cell? ⟨xb, 0, none⟩ = some (.int .u64 0) := by simp [World.cell?, hx5]
              have z1 : v5.cell? ⟨xb, 1, none⟩ = some (.bool false) := by simp [World.cell?, hx5]
              have z2 : v5.cell? ⟨xb, 2, none⟩ = some (.slice none 0 0) := by simp [World.cell?, hx5]
              clear d0 d1 d2 d3 d4 d5 hb5 hx5 hxbq
              go_wp2_with fail
              refine (HRF.out v5).mono ?_
              rintro e v6 ⟨rfl, hb6⟩
              have hb7 := hb6.alloc hb6.size (.cells #[.int .u64 0, .bool false, .slice none 0 0] 33)
              have hx7 := Go.Deep.blk_alloc_new v6 (.cells #[.int .u64 0, .bool false, .slice none 0 0] 33)
              clear hb6 HRF e0 e1 e2 e3 e4 e5
              go_upto_region 22 with (fail)
              generalize v6.alloc (.cells #[.int .u64 0, .bool false, .slice none 0 0] 33) = v7 at hb7 hx7 ⊢
              obtain ⟨yb, hyb⟩ : ∃ yb, yb = v6.heap.size := ⟨_, rfl⟩
              rw [← hyb] at hx7 ⊢
              have HS7 := Lib.hid (HS5.out.below hb7)
              have e0 := (hb7.cell (p := ⟨xb, 0, none⟩) (lt_of_cell z0)).trans z0
              have e1 := (hb7.cell (p := ⟨xb, 1, none⟩) (lt_of_cell z1)).trans z1
              have e2 := (hb7.cell (p := ⟨xb, 2, none⟩) (lt_of_cell z2)).trans z2
              have d0 : v7.cell? ⟨yb, 0, none⟩ = some (.int .u64 0) := by simp [World.cell?, hx7]
              have d1 : v7.cell? ⟨yb, 1, none⟩ = some (.bool false) := by simp [World.cell?, hx7]
              have d2 : v7.cell? ⟨yb, 2, none⟩ = some (.slice none 0 0) := by simp [World.cell?, hx7]
              clear z0 z1 z2 hb7 hx7 hyb HS5
              go_wp2_with fail
              refine (same_ans2 0 false none none 0 0 0 0 [] v7 (BytesAt.nil v7) (BytesAt.nil v7)).mono ?_
              rintro e v8 ⟨rfl, hb8⟩
              have HS8 := Lib.hid (HS7.out.below hb8)
              clear e0 e1 e2 d0 d1 d2 hb8 HS7
              go_wp2_with fail
              obtain ⟨W, hW⟩ : ∃ W, W = v8 := ⟨_, rfl⟩
              rw [← hW] at HS8 ⊢
              clear hW
              have HZ := HS8
              have hcvo : (convert 22 9 (.slice (some ⟨q, 0, none⟩) 320 320)).run Tryz.prog W.drew = .ok (.string (strOfNums (Mb.bl m 0 320))) W.drew := ((HZ.out.below (Below.refl W.heap.size W).drew).row.part 0 320 320 (by omega)).conv
              go_wp2_with fail
              refine wp_region_noPanic ?_
              refine wp_region_held_drew (S := fun w' => (convert 22 9 (.slice (some ⟨q, 0, none⟩) 320 320)).run Tryz.prog w' = .ok (.string (strOfNums (Mb.bl m 0 320))) w') (by kernel_rfl) ?_ (fun hHeld => ?_)
              · (try dsimp only); go_keep
              refine wpAnyH_take (i := 0) (oi := _) (v := ?_) rfl (by kernel_rfl) (by kernel_rfl) (by kernel_rfl) (fun _ _ _ h => h) (Or.inl ⟨by rfl, ?_⟩) (by assumption) ?_
              rotate_left
              · (intro w hSw; (try dsimp only at hSw); go_simp; try (with_reducible rfl))
              try simp only [Act.put, Array.reduceGetElem, List.setIfInBounds_toArray, List.set_cons_zero, List.set_cons_succ]
              refine wpAnyH_take (i := 1) (oi := _) (v := ?_) rfl (by kernel_rfl) (by kernel_rfl) (by kernel_rfl) (fun _ _ _ h => h) (Or.inl ⟨by rfl, ?_⟩) (by assumption) ?_
              rotate_left
              · (intro w hSw; (try dsimp only at hSw); go_simp; try (with_reducible rfl))
              try simp only [Act.put, Array.reduceGetElem, List.setIfInBounds_toArray, List.set_cons_zero, List.set_cons_succ]
              refine wpAnyH_take (i := 2) (oi := _) (v := ?_) rfl (by kernel_rfl) (by kernel_rfl) (by kernel_rfl) (fun _ _ _ h => h) (Or.inl ⟨by rfl, ?_⟩) (by assumption) ?_
              rotate_left
              · (intro w hSw; (try dsimp only at hSw); go_simp; try (with_reducible rfl))
              try simp only [Act.put, Array.reduceGetElem, List.setIfInBounds_toArray, List.set_cons_zero, List.set_cons_succ]
              refine wpAnyH_take (i := 3) (oi := _) (v := ?_) rfl (by kernel_rfl) (by kernel_rfl) (by kernel_rfl) (fun _ _ _ h => h) (Or.inl ⟨by rfl, ?_⟩) (by assumption) ?_
              rotate_left
              · (intro w hSw; (try dsimp only at hSw); go_simp; try (with_reducible rfl))
              try simp only [Act.put, Array.reduceGetElem, List.setIfInBounds_toArray, List.set_cons_zero, List.set_cons_succ]
              refine wpAnyH_take (i := 6) (oi := _) (v := ?_) rfl (by kernel_rfl) (by kernel_rfl) (by kernel_rfl) (fun _ _ _ h => h) (Or.inl ⟨by rfl, ?_⟩) (by assumption) ?_
              rotate_left
              · (intro w hSw; (try dsimp only at hSw); go_simp; try (with_reducible rfl))
              try simp only [Act.put, Array.reduceGetElem, List.setIfInBounds_toArray, List.set_cons_zero, List.set_cons_succ]
              refine wpAnyH_take (i := 7) (oi := _) (v := ?_) rfl (by kernel_rfl) (by kernel_rfl) (by kernel_rfl) (fun _ _ _ h => h) (Or.inl ⟨by rfl, ?_⟩) (by assumption) ?_
              rotate_left
              · (intro w hSw; (try dsimp only at hSw); go_simp; try (with_reducible rfl))
              try simp only [Act.put, Array.reduceGetElem, List.setIfInBounds_toArray, List.set_cons_zero, List.set_cons_succ]
              refine wpAnyH_ready (rs := [4]) (by kernel_rfl) (by simp) ?_
              refine AllReadyH.cons (o := _) rfl (fun K9 hK => ?_) ?_
              rotate_left
              · exact AllReadyH.nil
              go_simp
              go_at_call 14
              refine (allBytes_any (HZ.out.buf.below (Below.refl _ _).drew)).mono ?_
              rintro e w40 ⟨v40, rfl, hby40, hb40⟩
              have hconv40 : (convert 22 9 v40).run Tryz.prog w40 = .ok (.string (strOfNums (Mb.bl m 0 320))) w40 := hby40.conv
              have hb41 := below_drew hb40
              have kc : (convert 22 9 (.slice (some ⟨q, 0, none⟩) 320 320)).run Tryz.prog w40 = .ok (.string (strOfNums (Mb.bl m 0 320))) w40 := (((HZ.out.below hb41).row).part 0 320 320 (by omega)).conv
              have HB41 := Lib.hid hb41
              clear hb40 hb41 hby40 hcvo
              refine hK.out _ _ ?_ (fun hHeld => ?_)
              · (try dsimp only); go_keep
              clear hK K9
              try simp only [Act.put, Array.reduceGetElem, List.setIfInBounds_toArray, List.set_cons_zero, List.set_cons_succ]
              refine wpAnyH_ready (rs := [5]) (by kernel_rfl) (by simp) ?_
              refine AllReadyH.cons (o := _) rfl (fun K9 hK => ?_) ?_
              rotate_left
              · exact AllReadyH.nil
              go_simp
              refine hK.out _ _ ?_ (fun hHeld => ?_)
              · (try dsimp only); go_keep
              clear hK K9
              try simp only [Act.put, Array.reduceGetElem, List.setIfInBounds_toArray, List.set_cons_zero, List.set_cons_succ]
              refine wpAnyH_take (i := 8) (oi := _) (v := ?_) rfl (by kernel_rfl) (by kernel_rfl) (by kernel_rfl) (fun _ _ _ h => h) (Or.inl ⟨by rfl, ?_⟩) (by assumption) ?_
              rotate_left
              · (intro w hSw; (try dsimp only at hSw); go_simp; try (with_reducible rfl))
              try simp only [Act.put, Array.reduceGetElem, List.setIfInBounds_toArray, List.set_cons_zero, List.set_cons_succ]
              refine wpAnyH_take (i := 9) (oi := _) (v := ?_) rfl (by kernel_rfl) (by kernel_rfl) (by kernel_rfl) (fun _ _ _ h => h) (Or.inl ⟨by rfl, ?_⟩) (by assumption) ?_
              rotate_left
              · (intro w hSw; (try dsimp only at hSw); go_simp; try (with_reducible rfl))
              try simp only [Act.put, Array.reduceGetElem, List.setIfInBounds_toArray, List.set_cons_zero, List.set_cons_succ]
              refine wpAnyH_take (i := 10) (oi := _) (v := ?_) rfl (by kernel_rfl) (by kernel_rfl) (by kernel_rfl) (fun _ _ _ h => h) (Or.inl ⟨by rfl, ?_⟩) (by assumption) ?_
              rotate_left
              · (intro w hSw; (try dsimp only at hSw); go_simp; try (with_reducible rfl))
              try simp only [Act.put, Array.reduceGetElem, List.setIfInBounds_toArray, List.set_cons_zero, List.set_cons_succ]
              refine wpAnyH_done (by kernel_rfl) ?_ _
              refine NoPanic.normal ?_
              go_wp2
              go_ret
              exact ⟨by simp, HZ.out.low.trans (HB41.out.mono HZ.out.low.size)⟩
        · have hge : (M : Int) ≤ i := by omega
          go_wp2_with fail
          obtain ⟨W, hW⟩ : ∃ W, W = wr := ⟨_, rfl⟩
          rw [← hW] at HSW ⊢
          clear hW
          have HZ := HSW
          have hcvo : (convert 22 9 (.slice (some ⟨q, 0, none⟩) 320 320)).run Tryz.prog W.drew = .ok (.string (strOfNums (Mb.bl m 0 320))) W.drew := ((HZ.out.below (Below.refl W.heap.size W).drew).row.part 0 320 320 (by omega)).conv
          go_wp2_with fail
          refine wp_region_noPanic ?_
          refine wp_region_held_drew (S := fun w' => (convert 22 9 (.slice (some ⟨q, 0, none⟩) 320 320)).run Tryz.prog w' = .ok (.string (strOfNums (Mb.bl m 0 320))) w') (by kernel_rfl) ?_ (fun hHeld => ?_)
          · (try dsimp only); go_keep
          refine wpAnyH_take (i := 0) (oi := _) (v := ?_) rfl (by kernel_rfl) (by kernel_rfl) (by kernel_rfl) (fun _ _ _ h => h) (Or.inl ⟨by rfl, ?_⟩) (by assumption) ?_
          rotate_left
          · (intro w hSw; (try dsimp only at hSw); go_simp; try (with_reducible rfl))
          try simp only [Act.put, Array.reduceGetElem, List.setIfInBounds_toArray, List.set_cons_zero, List.set_cons_succ]
          refine wpAnyH_take (i := 1) (oi := _) (v := ?_) rfl (by kernel_rfl) (by kernel_rfl) (by kernel_rfl) (fun _ _ _ h => h) (Or.inl ⟨by rfl, ?_⟩) (by assumption) ?_
          rotate_left
          · (intro w hSw; (try dsimp only at hSw); go_simp; try (with_reducible rfl))
          try simp only [Act.put, Array.reduceGetElem, List.setIfInBounds_toArray, List.set_cons_zero, List.set_cons_succ]
          refine wpAnyH_take (i := 2) (oi := _) (v := ?_) rfl (by kernel_rfl) (by kernel_rfl) (by kernel_rfl) (fun _ _ _ h => h) (Or.inl ⟨by rfl, ?_⟩) (by assumption) ?_
          rotate_left
          · (intro w hSw; (try dsimp only at hSw); go_simp; try (with_reducible rfl))
          try simp only [Act.put, Array.reduceGetElem, List.setIfInBounds_toArray, List.set_cons_zero, List.set_cons_succ]
          refine wpAnyH_take (i := 3) (oi := _) (v := ?_) rfl (by kernel_rfl) (by kernel_rfl) (by kernel_rfl) (fun _ _ _ h => h) (Or.inl ⟨by rfl, ?_⟩) (by assumption) ?_
          rotate_left
          · (intro w hSw; (try dsimp only at hSw); go_simp; try (with_reducible rfl))
          try simp only [Act.put, Array.reduceGetElem, List.setIfInBounds_toArray, List.set_cons_zero, List.set_cons_succ]
          refine wpAnyH_take (i := 6) (oi := _) (v := ?_) rfl (by kernel_rfl) (by kernel_rfl) (by kernel_rfl) (fun _ _ _ h => h) (Or.inl ⟨by rfl, ?_⟩) (by assumption) ?_
          rotate_left
          · (intro w hSw; (try dsimp only at hSw); go_simp; try (with_reducible rfl))
          try simp only [Act.put, Array.reduceGetElem, List.setIfInBounds_toArray, List.set_cons_zero, List.set_cons_succ]
          refine wpAnyH_take (i := 7) (oi := _) (v := ?_) rfl (by kernel_rfl) (by kernel_rfl) (by kernel_rfl) (fun _ _ _ h => h) (Or.inl ⟨by rfl, ?_⟩) (by assumption) ?_
          rotate_left
          · (intro w hSw; (try dsimp only at hSw); go_simp; try (with_reducible rfl))
          try simp only [Act.put, Array.reduceGetElem, List.setIfInBounds_toArray, List.set_cons_zero, List.set_cons_succ]
          refine wpAnyH_ready (rs := [4]) (by kernel_rfl) (by simp) ?_
          refine AllReadyH.cons (o := _) rfl (fun K9 hK => ?_) ?_
          rotate_left
          · exact AllReadyH.nil
          go_simp
          go_at_call 14
          refine (allBytes_any (HZ.out.buf.below (Below.refl _ _).drew)).mono ?_
          rintro e w40 ⟨v40, rfl, hby40, hb40⟩
          have hconv40 : (convert 22 9 v40).run Tryz.prog w40 = .ok (.string (strOfNums (Mb.bl m 0 320))) w40 := hby40.conv
          have hb41 := below_drew hb40
          have kc : (convert 22 9 (.slice (some ⟨q, 0, none⟩) 320 320)).run Tryz.prog w40 = .ok (.string (strOfNums (Mb.bl m 0 320))) w40 := (((HZ.out.below hb41).row).part 0 320 320 (by omega)).conv
          have HB41 := Lib.hid hb41
          clear hb40 hb41 hby40 hcvo
          refine hK.out _ _ ?_ (fun hHeld => ?_)
          · (try dsimp only); go_keep
          clear hK K9
          try simp only [Act.put, Array.reduceGetElem, List.setIfInBounds_toArray, List.set_cons_zero, List.set_cons_succ]
          refine wpAnyH_ready (rs := [5]) (by kernel_rfl) (by simp) ?_
          refine AllReadyH.cons (o := _) rfl (fun K9 hK => ?_) ?_
          rotate_left
          · exact AllReadyH.nil
          go_simp
          refine hK.out _ _ ?_ (fun hHeld => ?_)
          · (try dsimp only); go_keep
          clear hK K9
          try simp only [Act.put, Array.reduceGetElem, List.setIfInBounds_toArray, List.set_cons_zero, List.set_cons_succ]
          refine wpAnyH_take (i := 8) (oi := _) (v := ?_) rfl (by kernel_rfl) (by kernel_rfl) (by kernel_rfl) (fun _ _ _ h => h) (Or.inl ⟨by rfl, ?_⟩) (by assumption) ?_
          rotate_left
          · (intro w hSw; (try dsimp only at hSw); go_simp; try (with_reducible rfl))
          try simp only [Act.put, Array.reduceGetElem, List.setIfInBounds_toArray, List.set_cons_zero, List.set_cons_succ]
          refine wpAnyH_take (i := 9) (oi := _) (v := ?_) rfl (by kernel_rfl) (by kernel_rfl) (by kernel_rfl) (fun _ _ _ h => h) (Or.inl ⟨by rfl, ?_⟩) (by assumption) ?_
          rotate_left
          · (intro w hSw; (try dsimp only at hSw); go_simp; try (with_reducible rfl))
          try simp only [Act.put, Array.reduceGetElem, List.setIfInBounds_toArray, List.set_cons_zero, List.set_cons_succ]
          refine wpAnyH_take (i := 10) (oi := _) (v := ?_) rfl (by kernel_rfl) (by kernel_rfl) (by kernel_rfl) (fun _ _ _ h => h) (Or.inl ⟨by rfl, ?_⟩) (by assumption) ?_
          rotate_left
          · (intro w hSw; (try dsimp only at hSw); go_simp; try (with_reducible rfl))
          try simp only [Act.put, Array.reduceGetElem, List.setIfInBounds_toArray, List.set_cons_zero, List.set_cons_succ]
          refine wpAnyH_done (by kernel_rfl) ?_ _
          refine NoPanic.normal ?_
          go_wp2
          go_ret
          exact ⟨by simp, HZ.out.low.trans (HB41.out.mono HZ.out.low.size)⟩

end Go.Proofs.YtbhhegikfadpiaaGreat
namespace Go.Proofs.YtbhhegikfadpiaaGreat
open Go.ChangeShapes Go.WideShapes Go.ChangeAt Go.RowKit Go.Deep

theorem ringOne : Tryz.prog.cellsOf 26 = 2 := by kernel_rfl

set_option maxRecDepth 100000 in
theorem open_ring {H : Type} {enc : TypeId × Value → H} {W : World} {base : Nat} {v : Value} {d : DataW H} {ps : List MemPlace}
    (hv : Value.okWide Tryz.prog W .any base 26 v) (h : DataW.Trod enc Tryz.prog W 0 (fun _ => true) true 26 v d ps) :
    ∃ B Z : Int, v = .agg #[.int .i64 B, .int .i64 Z] ∧ (-9223372036854775808 ≤ B ∧ B ≤ 9223372036854775807) ∧ (-9223372036854775808 ≤ Z ∧ Z ≤ 9223372036854775807) := by
  obtain ⟨cs, rfl, hsz⟩ := okWide_struct Tryz.underlying26 hv
  obtain ⟨l⟩ := cs
  rw [ringOne] at hsz
  match l, hsz with
  | [v0, v1], _ =>
    obtain ⟨fuel, hf⟩ := h
    obtain ⟨xs, n, _, _, _, hlen, hg⟩ := DataW.trod_struct Tryz.underlying26 hf
    have g0 := hg 0 _ rfl
    have g1 := hg 1 _ rfl
    have cInt : Tryz.prog.cellsOf 3 = 1 := by kernel_rfl
    match xs, hlen with
    | [y0, y1], _ =>
      simp [Value.cells, cInt] at g0 g1
      obtain ⟨B, e0, _, w0⟩ := DataW.trod_int Tryz.underlying3 g0
      obtain ⟨Z, e1, _, w1⟩ := DataW.trod_int Tryz.underlying3 g1
      simp only [List.cons.injEq, and_true] at e0 e1
      subst e0 e1
      exact ⟨B, Z, rfl, i64_wide w0, i64_wide w1⟩

end Go.Proofs.YtbhhegikfadpiaaGreat
namespace Go.Proofs.YtbhhegikfadpiaaGreat
open Go.RowKit

set_option linter.unusedSimpArgs false in
set_option maxRecDepth 100000 in
set_option maxHeartbeats 2000000 in
theorem ringfixShares_out (A1 : Option Addr) (L1 cp1 : Nat) (bq : Int) (A3 : Option Addr) (M cp3 : Nat) (w : World) (h : 400 < L1 ∨ 150 < M) :
    Calls Tryz.prog 3 #[.slice A1 L1 cp1, .int .u8 bq, .slice A3 M cp3] w (TrueBelow w) := by
  by_cases h1 : 400 < L1
  · have h1' : (400 : Int) < L1 := by omega
    clear h
    go_enter Tryz.func3, Tryz.ntmps3
    go_wp2_with fail
    refine (fixed9_any w).mono ?_
    rintro e w1 ⟨rfl, hq1⟩
    go_wp2_with fail
    go_ret
    exact ⟨rfl, hq1⟩
  · have h1' : (L1 : Int) ≤ 400 := by omega
    have h2' : (150 : Int) < M := by omega
    clear h
    go_enter Tryz.func3, Tryz.ntmps3
    go_wp2_with fail
    refine (fixed9_any w).mono ?_
    rintro e w1 ⟨rfl, hq1⟩
    go_wp2_with fail
    go_ret
    exact ⟨rfl, hq1⟩

theorem ringfixShares_any (A1 : Option Addr) (L1 cp1 : Nat) (f1 : Nat → Nat) (hf1 : Mb.IsB f1) (bq : Int) (hb0 : 0 ≤ bq) (A3 : Option Addr) (M cp3 : Nat) (hM : M ≤ cp3) (hcp3 : cp3 ≤ 9223372036854775807) (O : Nat → Ow) (w : World)
    (hby : BytesAt w (.slice A1 L1 cp1) (Mb.bl f1 0 L1)) (hO : OwsAt w A3 M O) :
    Calls Tryz.prog 3 #[.slice A1 L1 cp1, .int .u8 bq, .slice A3 M cp3] w (TrueBelow w) := by
  by_cases h : 400 < L1 ∨ 150 < M
  · exact ringfixShares_out A1 L1 cp1 bq A3 M cp3 w h
  · obtain ⟨b, rfl⟩ := Int.eq_ofNat_of_zero_le hb0
    have h3 : b % 3 = 0 ∨ b % 3 = 1 ∨ b % 3 = 2 := by omega
    rcases h3 with e | e | e
    · exact ringfixShares_main A1 L1 cp1 f1 hf1 b A3 M cp3 hM hcp3 O w hby hO (by omega) (by omega) 64 (.inl rfl) (by rw [e]; unfold wrap64; omega)
    · exact ringfixShares_main A1 L1 cp1 f1 hf1 b A3 M cp3 hM hcp3 O w hby hO (by omega) (by omega) 128 (.inr (.inl rfl)) (by rw [e]; unfold wrap64; omega)
    · exact ringfixShares_main A1 L1 cp1 f1 hf1 b A3 M cp3 hM hcp3 O w hby hO (by omega) (by omega) 256 (.inr (.inr rfl)) (by rw [e]; unfold wrap64; omega)
end Go.Proofs.YtbhhegikfadpiaaGreat
namespace Go.Proofs.YtbhhegikfadpiaaGreat
open Go.ChangeShapes Go.WideShapes Go.ChangeAt Go.RowKit

set_option maxRecDepth 100000 in
theorem ringfixShares_lifted (os : Os) (started : os.Started) (H : Type) (enc : TypeId × Value → H) :
    ReturnsInHanded {} Tryz.checked os 3 .any (Rows.ringfixSharesSpec.pre6 enc Tryz.prog Tryz.f3 Rows.ringfixSharesRow.domain false) (Rows.ringfixSharesSpec.post enc Tryz.prog Tryz.f3 false true false false) := by
  refine returnsInHanded_of_change (C := Tryz.checked) own started (by kernel_rfl) Tryz.func3
    (ChangeSpec.witness6 (enc := enc) (C := Tryz.checked) false ⟨#[], #[.slice none 0 0, .int .u8 0, .slice none 0 0], []⟩ 8 (by kernel_rfl) (by kernel_rfl) (by kernel_rfl) (by kernel_rfl)) ?_
  intro W base args ds gs before hval0 hW _ _
  have hval : ∀ (j : Nat) t v, Tryz.f3.params[j]? = some t → args[j]? = some v → Value.okWide Tryz.prog W .any base t v := hval0
  have hW' := hW
  obtain ⟨p, q, hA0, hV, rfl, hfz, hnd⟩ := hW
  have hA : DataW.TrodAll enc Tryz.prog W 0 (fun _ => true) true Tryz.f3.params.toList args.toList ds p := hA0
  rw [Tryz.params3] at hA hval
  obtain ⟨v0, v1, v2, d0, d1, d2, p0, p1, p2, rfl, rfl, rfl, h0, h1, h2⟩ := trodAll_three hA
  obtain ⟨rfl, rfl⟩ := trodVars_none hV
  obtain ⟨A0, L0, cap0, f0, rfl, hf0, hb0, hl0, hc0⟩ := open_bl (hval 0 22 v0 rfl rfl) h0
  obtain ⟨a1, rfl, rfl, rfl, wa1⟩ := open_int Tryz.underlying5 (hval 1 5 v1 rfl rfl) h1
  have k1 := bounds_u8 wa1
  obtain ⟨A2, L2, cap2, T2, rfl, hT2, hl2, hc2⟩ := open_writes (hval 2 23 v2 rfl rfl) h2
  clear hA0 hval0
  exact (ringfixShares_any A0 L0 cap0 f0 hf0 a1 k1.1 A2 L2 cap2 hl2 hc2 T2 W hb0 hT2).mono fun e W' ⟨he, hbel⟩ => ⟨_, he, law_post laidOut (by kernel_rfl) rfl Tryz.underlying4 rfl hW' rfl hbel⟩

theorem ringfixShares_row : Rows.RingfixSharesSaid :=
  OpenClaim.holds_of_wide 3 Tryz.f3 rfl rfl rfl rfl rfl rfl rfl ⟨rfl, rfl, rfl, rfl, rfl⟩ rfl rfl rfl rfl rfl (by kernel_rfl) Tryz.func3 (by kernel_rfl)
    (of_decide_eq_true (by kernel_rfl)) (by unfold Func.isWrapper; first | (rw [if_pos (by decide +kernel)]; kernel_rfl) | (rw [if_neg (by decide +kernel)]; exact ⟨rfl, rfl⟩))
    (fun os started H enc _ => ringfixShares_lifted os started H enc)

theorem ringfixShares_holds : Rows.RingfixSharesSaid := ringfixShares_row
end Go.Proofs.YtbhhegikfadpiaaGreat
