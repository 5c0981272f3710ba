/-
  The document's fix (layer 9), walked over a tape: it says what the machine says that was told the same.
  Whether two accesses are one (layer 2's plain answer), walked for two that are.
  The document's fix over a tape, and the machine that was told the same, held against each other (layer 9).
  Layer 6's small calls, walked: whether there is an actor, whether a pick may be, the clock, who is dead, who is at its end, silence.
  Layer 6's check of a pick, walked.
  Layer 6's ticks, walked: a machine is told the clock if it is one that is told; all that live are.
-/
import Derived.Test.YtbhhegikfadpiaaGreatP09
import Derived.Test.YtbhhegikfadpiaaGreatP01
import Derived.Test.YtbhhegikfadpiaaGreatP07
import Derived.Deep.QuietTactic
import Derived.BigQuiet
import Derived.Deep.RegionHeld3
import Derived.LoopTactic
import Derived.Stop.Asserts
namespace Go.Proofs.YtbhhegikfadpiaaGreat
open Go.RowKit

theorem fx_take_up {s : Fs} {q : Int} {x : An} (hp : s.ph = .up q) : s.take x = if x.V % 4294967296 = 0 then s.ahead (q + 8) else ({ s with m := q } : Fs).back q := by unfold Fs.take; rw [hp]
theorem fx_take_padd {s : Fs} {n : Int} {x : An} (hp : s.ph = .padd n) : s.take x = { s with n := n, ph := .fin } := by unfold Fs.take; rw [hp]

set_option linter.unusedSimpArgs false in
set_option maxRecDepth 100000 in
set_option maxHeartbeats 8000000 in
theorem refFix_live (B Z : Nat) (hB : -9223372036854775808 ≤ (B : Int) ∧ (B : Int) ≤ 9223372036854775807) (hZ : -9223372036854775808 ≤ (Z : Int) ∧ (Z : Int) ≤ 9223372036854775807) (hok : Rg.right B Z) (p cap i : Nat) (A : Option Addr) (hi : i ≤ cap) (hcap : cap ≤ 9223372036854775807) (T : Nat → Ans) (hA : 0 < i → ∀ a, A = some a → a.block ≠ p) (w : World)
    (hT : ToldAt w A i T) (ht : TpOpen w p A cap i 0) (m : Fm) (hm : m = .live ⟨B, Z, 0, 0, 0, 0, .head⟩) (hh : m.Half T i) :
    Calls Tryz.prog 35 #[.pointer (some ⟨p, 0, none⟩), .agg #[.int .i64 B, .int .i64 Z]] w (FixSays p A cap i (m.at T i) w) := by
  have hb0 := un_below w (.int .i64 B) (.int .i64 Z) 26
  have HB0 := Lib.hid hb0
  have HX : Hid (Tw (w.alloc (.cells #[.int .i64 B, .int .i64 Z] 26)) p A cap i 0 T w.heap.size B Z) := Lib.hid ⟨ht.below hb0, hT.below hb0, (rg_box w B Z).1, (rg_box w B Z).2, by have := ht.lt; omega, hA, hi, hcap, Nat.zero_le _⟩
  have HBZ := Lib.hid (And.intro hB hZ)
  have HOK := Lib.hid hok
  have HH := Lib.hid hh
  have HM : Hid (m.at T 0 = .live ⟨B, Z, 0, 0, 0, 0, .head⟩) := Lib.hid hm
  have hz0 : 64 ≤ (Z : Int) := hok.2.1
  have hz1 : (Z : Int) ≤ 8192 := hok.2.2.1
  have hB1 : (B : Int) ≤ 131072 - Z - 32 := hok.2.2.2.2.1
  have HZN : Hid (Z ≠ 0) := Lib.hid (by omega)
  have HRG : Hid (Rg.Ok B Z) := Lib.hid ⟨hok.1, by omega, by omega, by have := hok.2.2.2.2.2; omega, by omega⟩
  have e1 : IntKind.i64.wrap ((B : Int) + Z) = B + Z := IntWalk.i64_in _ (by omega)
  have e2 : IntKind.i64.wrap ((B : Int) + Z + 16) = B + Z + 16 := IntWalk.i64_in _ (by omega)
  obtain ⟨mi, hmi⟩ : ∃ mi, mi = m.at T i := ⟨_, rfl⟩
  rw [← hmi]
  have HMI := Lib.hid hmi
  clear hb0 ht hT hm hh hi hcap hA hB hZ hok hmi
  go_enter Tryz.func35, Tryz.ntmps35
  go_upto_region 1 with (fail)
  generalize w.alloc (.cells #[.int .i64 B, .int .i64 Z] 26) = W at HB0 HX ⊢
  have r0 := HX.out.r0
  have r1 := HX.out.r1
  go_upto_region 3 with (go_at_call 62; refine (refRight_any B Z HBZ.out.1 HBZ.out.2 W).mono ?_; rintro e w1 ⟨rfl, hb1⟩; rw [decide_eq_true HOK.out])
  have HTW1 := Lib.hid (HX.out.below hb1)
  have HTT1 : Hid (Touch (One p) w w1) := Lib.hid ((Touch.of_below HB0.out).trans (Touch.of_below hb1))
  clear r0 r1 hb1
  have r0 := HTW1.out.r0
  have r1 := HTW1.out.r1
  go_upto_region 4 with (go_at_call 63; refine (twLoad HTW1.out _ _).mono ?_; rintro e w2 ⟨v0, ok, rfl, ht2, hor⟩; have HOR := Lib.hid hor; have HT2 := Lib.hid (HTT1.out.trans ht2); clear hor ht2)
  clear r0 r1
  rcases HOR.out with ⟨rfl, hv0, hv0n, hj0, htw2⟩ | ⟨rfl, rfl, hji, hwant, k0, k1⟩
  rotate_left
  · have HJI := Lib.hid hji
    clear hji
    obtain ⟨B0, l0, c0, htp, hbt⟩ := hwant
    have HTP := Lib.hid htp
    have HBT := Lib.hid hbt
    clear htp hbt HOR
    go_wp2_with (go_at_call 63; refine (tapeLoad_ended HTP.out _ _).mono ?_; rintro e w3 ⟨rfl, hb3⟩; have HB3 := Lib.hid hb3; clear hb3)
    refine bodyPost_ret (v := .tuple #[.int .i64 0, .int .i64 10]) (by simp [results, Tryz.results35, go_sem]) rfl ?_
    exact fixSays_wants (s := ⟨B, Z, 0, 0, 0, 0, .head⟩) (by rw [HMI.out, ← HJI.out]; exact HM.out) rfl HZN.out (HT2.out.trans (Touch.of_below HB3.out)) ⟨B0, l0, c0, HTP.out.below HB3.out, HBT.out.below HB3.out⟩
  have HTW2 := Lib.hid htw2
  have HS1 : Hid (m.at T 1 = .live ⟨B, Z, 0, 0, 0, 0, .tail v0⟩) := Lib.hid (by rw [Fm.at_succ HM.out, hv0]; rfl)
  clear htw2 HOR HTW1 HTT1 hv0 hj0
  have r0 := HTW2.out.r0
  have r1 := HTW2.out.r1
  go_upto_region 5 with (go_at_call 63; refine (twLoad HTW2.out _ _).mono ?_; rintro e w3 ⟨v1, ok, rfl, ht3, hor⟩; have HOR := Lib.hid hor; have HT3 := Lib.hid (HT2.out.trans ht3); clear hor ht3)
  clear r0 r1
  rcases HOR.out with ⟨rfl, hv1, hv1n, hj1, htw3⟩ | ⟨rfl, rfl, hji, hwant, k0, k1⟩
  rotate_left
  · have HWA := Lib.hid hwant
    have HJI := Lib.hid hji
    clear hwant HOR k0 k1 hji
    go_wp2
    refine bodyPost_ret (v := .tuple #[.int .i64 0, .int .i64 10]) (by simp [results, Tryz.results35, go_sem]) rfl ?_
    exact fixSays_wants (s := ⟨B, Z, 0, 0, 0, 0, .tail v0⟩) (by rw [HMI.out, ← HJI.out]; exact HS1.out) (by show some (⟨1, (B : Int) + Z + 0, 8, 0, 0, []⟩ : Ac) = _; rw [Int.add_zero]) HZN.out HT3.out HWA.out
  have HTW3 := Lib.hid htw3
  have HS2 : Hid (m.at T 2 = .live (if v1 = v0 then ⟨B, Z, 0, 0, 0, 0, .fin⟩ else (⟨B, Z, 0, 0, 0, 0, .tail v0⟩ : Fs).span (Rs.wr v0) (Rs.wr v1))) := Lib.hid (by rw [Fm.at_succ HS1.out, hv1]; rfl)
  clear htw3 HOR HTW2 HT2 hv1 hj1
  by_cases heq : v1 = v0
  · have hd : ((v0 : Int) == (v1 : Int)) = true := by subst heq; simp
    have HS3 : Hid (m.at T 2 = .live ⟨B, Z, 0, 0, 0, 0, .fin⟩) := Lib.hid (by rw [HS2.out, if_pos heq])
    clear heq
    go_wp2
    refine bodyPost_ret (v := .tuple #[.int .i64 0, .int .i64 0]) (by simp [results, Tryz.results35, go_sem]) rfl ?_
    exact fixSays_end (s := ⟨B, Z, 0, 0, 0, 0, .fin⟩) (by rw [HMI.out]; exact Fm.at_end HS3.out rfl HTW3.out.le) rfl HZN.out HT3.out HTW3.out.tp
  have hd : ((v0 : Int) == (v1 : Int)) = false := by simp; omega
  obtain ⟨a, ha⟩ : ∃ a : Int, a = (v0 : Int) % Z := ⟨_, rfl⟩
  obtain ⟨b0, hb0⟩ : ∃ b : Int, b = (v1 : Int) % Z := ⟨_, rfl⟩
  have ha0 : 0 ≤ a := by rw [ha]; exact Int.emod_nonneg _ (by omega)
  have ha1 : a < Z := by rw [ha]; exact Int.emod_lt_of_pos _ (by omega)
  have hb00 : 0 ≤ b0 := by rw [hb0]; exact Int.emod_nonneg _ (by omega)
  have hb01 : b0 < Z := by rw [hb0]; exact Int.emod_lt_of_pos _ (by omega)
  have HS3 : Hid (m.at T 2 = .live ⟨B, Z, a, if b0 ≤ a then (Z : Int) else b0, 0, 0, .hdr⟩) := Lib.hid (by
    rw [HS2.out, if_neg heq]
    unfold Fs.span Rg.place
    simp only [wr_place HRG.out.pow]
    rw [← ha, ← hb0])
  have HAB := Lib.hid (And.intro ha hb0)
  clear ha hb0 heq HS2
  have r0 := HTW3.out.r0
  have r1 := HTW3.out.r1
  have hlr := lt_of_cell r0
  go_upto_region 9 with (fail)
  go_region_held3 (fun w' => w'.cell? ⟨w.heap.size, 0, none⟩ = some (.int .i64 B) ∧ w'.cell? ⟨w.heap.size, 1, none⟩ = some (.int .i64 Z)) (go_keep)
    (first
      | (go_at_call 64; have hbz := hb1; refine (refPlace_any B Z v1 hz0 hz1 _).mono ?_; rintro e x2 ⟨rfl, hq2⟩; rw [← HAB.out.2]; have hb2 := hb1.trans (hq2.mono hb1.size); have s0 := (hb2.cell (p := ⟨w.heap.size, 0, none⟩) hlr).trans r0; have s1 := (hb2.cell (p := ⟨w.heap.size, 1, none⟩) hlr).trans r1)
      | (go_at_call 64; refine (refPlace_any B Z v0 hz0 hz1 _).mono ?_; rintro e x1 ⟨rfl, hq1⟩; rw [← HAB.out.1]; have hb1 := below_drew hq1; have q0 := (hb1.cell (p := ⟨w.heap.size, 0, none⟩) hlr).trans r0; have q1 := (hb1.cell (p := ⟨w.heap.size, 1, none⟩) hlr).trans r1))
  have HTW4 := Lib.hid (HTW3.out.below hb2)
  have HT4 := Lib.hid (HT3.out.trans (Touch.of_below hb2))
  clear r0 r1 q0 q1 s0 s1 hb1 hb2 hq1 hq2 HTW3 HT3 hlr hd
  have r0 := HTW4.out.r0
  have r1 := HTW4.out.r1

  by_cases hle : b0 ≤ a
  · have hdl : decide (b0 ≤ a) = true := decide_eq_true hle
    have HS4 : Hid (m.at T 2 = .live ⟨B, Z, a, (Z : Int), 0, 0, .hdr⟩) := Lib.hid (by rw [HS3.out, if_pos hle])
    clear HS3 HAB
    go_upto_region 12 with (fail)
    have e3 : IntKind.i64.wrap ((B : Int) + a) = B + a := IntWalk.i64_in _ (by omega)
    go_upto_region 13 with (go_at_call 63; refine (twLoad HTW4.out _ _).mono ?_; rintro e w5 ⟨v2, ok, rfl, ht5, hor⟩; have HOR := Lib.hid hor; have HT5 := Lib.hid (HT4.out.trans ht5); clear hor ht5)
    clear r0 r1
    rcases HOR.out with ⟨rfl, hv2, hv2n, hj2, htw5⟩ | ⟨rfl, rfl, hji, hwant, k0, k1⟩
    rotate_left
    · have HWA := Lib.hid hwant
      have HJI := Lib.hid hji
      clear hwant HOR k0 k1 hji
      go_wp2
      refine bodyPost_ret (v := .tuple #[.int .i64 0, .int .i64 10]) (by simp [results, Tryz.results35, go_sem]) rfl ?_
      exact fixSays_wants (s := ⟨B, Z, a, (Z : Int), 0, 0, .hdr⟩) (by rw [HMI.out, ← HJI.out]; exact HS4.out) (by show some (⟨1, Rg.spot B Z a, 8, 0, 0, []⟩ : Ac) = _; rw [fx_spot ha0 ha1]) HZN.out HT5.out HWA.out
    have HTW5 := Lib.hid htw5
    obtain ⟨l, hl⟩ : ∃ l : Int, l = Hd.s32 v2 := ⟨_, rfl⟩
    have hlb : -2147483648 ≤ l ∧ l ≤ 2147483647 := by rw [hl]; exact Hd.s32_bounds _
    have HS5 : Hid (m.at T 3 = .live ((⟨B, Z, a, (Z : Int), 0, 0, .hdr⟩ : Fs).judge l)) := Lib.hid (by rw [Fm.at_succ HS4.out, hl, hv2]; rfl)
    have HL := Lib.hid hl
    clear htw5 HOR HTW4 HT4 hv2 hj2 hl
    go_upto_region 16 with (go_at_call 65; refine (refSplit_any v2 _ (by omega) (by omega)).mono ?_; rintro e w6 ⟨rfl, hb6⟩; rw [← HL.out])
    have HTW6 := Lib.hid (HTW5.out.below hb6)
    have HT6 := Lib.hid (HT5.out.trans (Touch.of_below hb6))
    generalize Hd.s32 ((v2 : Int) / 4294967296) = ty
    clear hb6 HTW5 HT5 HL hv2n
    have r1 := HTW6.out.r1
    have e8 : IntKind.i64.wrap l = l := IntWalk.i64_in _ (by omega)
    have e9 : IntKind.i64.wrap ((Z : Int) - a) = Z - a := IntWalk.i64_in _ (by omega)
    have e10 : IntKind.i64.wrap (-((Z : Int) - a)) = -((Z : Int) - a) := IntWalk.i64_in _ (by omega)
    by_cases hl0 : 0 < l
    · have hd0 : decide (0 < l) = true := decide_eq_true hl0
      have HS6 : Hid (m.at T 3 = .live ⟨B, Z, a, (Z : Int), 0, 0, .fin⟩) := Lib.hid (by rw [HS5.out]; unfold Fs.judge; rw [if_neg (by omega), if_neg (fun h => by omega)])
      go_wp2
      refine bodyPost_ret (v := .tuple #[.int .i64 0, .int .i64 0]) (by simp [results, Tryz.results35, go_sem]) rfl ?_
      exact fixSays_end (s := ⟨B, Z, a, (Z : Int), 0, 0, .fin⟩) (by rw [HMI.out]; exact Fm.at_end HS6.out rfl HTW6.out.le) rfl HZN.out HT6.out HTW6.out.tp
    have hd0 : decide (0 < l) = false := decide_eq_false hl0
    by_cases hl1 : l < -((Z : Int) - a)
    · have hd1 : decide (l < -((Z : Int) - a)) = true := decide_eq_true hl1
      have HS6 : Hid (m.at T 3 = .live ⟨B, Z, a, (Z : Int), 0, 0, .fin⟩) := Lib.hid (by rw [HS5.out]; unfold Fs.judge; rw [if_neg (by omega), if_neg (fun h => by have h2 : a - l ≤ (Z : Int) := h.2; omega)])
      go_wp2
      refine bodyPost_ret (v := .tuple #[.int .i64 0, .int .i64 0]) (by simp [results, Tryz.results35, go_sem]) rfl ?_
      exact fixSays_end (s := ⟨B, Z, a, (Z : Int), 0, 0, .fin⟩) (by rw [HMI.out]; exact Fm.at_end HS6.out rfl HTW6.out.le) rfl HZN.out HT6.out HTW6.out.tp
    have hd1 : decide (l < -((Z : Int) - a)) = false := decide_eq_false hl1
    have e12 : IntKind.i64.wrap (a + 8) = a + 8 := IntWalk.i64_in _ (by omega)
    by_cases hl2 : l < 0
    · have hd2 : decide (l < 0) = true := decide_eq_true hl2
      have e13 : IntKind.i32.wrap (-l) = -l := (Hd.s32_wrap _).trans (Hd.s32_in _ (by omega) (by omega))
      have e14 : IntKind.i64.wrap (-l) = -l := IntWalk.i64_in _ (by omega)
      have e15 : wrap32 (-l) = -l := by unfold wrap32; omega
      have HS6 : Hid (m.at T 3 = .live ⟨B, Z, a, (Z : Int), 0, 0, .padd (-l)⟩) := Lib.hid (by rw [HS5.out]; unfold Fs.judge; rw [if_neg (by omega), if_pos ⟨hl2, by show a - l ≤ (Z : Int); omega⟩])
      obtain ⟨n, hn⟩ : ∃ n : Int, n = -l := ⟨_, rfl⟩
      have hn0 : 1 ≤ n := by omega
      have hn1 : n ≤ 8192 := by omega
      rw [← hn] at HS6 e13 e14 e15
      have HN := Lib.hid hn
      go_wp2_with fail
      try rw [← HN.out]
      clear hd0 hd1 hd2 e8 e9 e10 hl0 hl1 hl2 hlb r1 hn HN
      go_loopw [15, 16] (fun vn vx wr => vn = .int .i64 n ∧ vx = .int .i64 (a + 8) ∧ wr = w6) (fun _ _ _ => 0)
      case atStart => exact ⟨rfl, rfl, rfl⟩
      case round =>
        obtain ⟨rfl, rfl, rfl⟩ := hrel
        have hnn : (n == 0) = false := by simp; omega
        have HST := HS6
        have HTWL := HTW6
        have HTTL := HT6
        have hnz : (n == 0) = false := by simp; omega
        have e5 : IntKind.i32.wrap n = n := (Hd.s32_wrap _).trans (Hd.s32_in _ (by omega) (by omega))
        have e6 : wrap32 n = n := by unfold wrap32; omega
        have e7 : IntKind.i64.wrap ((B : Int) + a) = B + a := IntWalk.i64_in _ (by omega)
        have r0 := HTWL.out.r0
        have r1 := HTWL.out.r1
        have hlr := lt_of_cell r0
        have hlp := HTWL.out.ne
        obtain ⟨Vp, hV, hVn⟩ : ∃ V : Nat, Hd.jn n (-1) = (V : Int) ∧ (Hd.jn n (-1)).toNat = V := rp_cast _ (Hd.jn_bounds _ _).1
        have HVN := Lib.hid hVn
        clear hVn
        go_wp2_with fail
        go_region_held3 (fun w' => w'.cell? ⟨w.heap.size, 0, none⟩ = some (.int .i64 B)) (go_keep)
          (first
            | (go_at_call 67; refine (tapeStore_any (HTWL.out.tp.below hb1) HTWL.out.le HTWL.out.cap0 HTWL.out.cap1 (HTWL.out.told.below hb1) HTWL.out.far _ 8 Vp).mono ?_; rintro e w6 ⟨ok, rfl, ht6, hor⟩; have HOR := Lib.hid hor; clear hor; have s0 := (ht6.cell (p := ⟨w.heap.size, 0, none⟩) (lt_of_cell q0) hlp).trans q0)
            | (go_at_call 68; refine (refRecord_any n (-1) _ (by omega) (by omega) (by omega) (by omega)).mono ?_; rintro e x1 ⟨rfl, hq1⟩; rw [hV]; have hb1 := below_drew hq1; have q0 := (hb1.cell (p := ⟨w.heap.size, 0, none⟩) hlr).trans r0))
        have HT6 := Lib.hid (HTTL.out.trans ((Touch.of_below (S := One p) hb1).trans ht6))
        clear r0 r1 q0 s0 hb1 hq1 ht6 hlr hnz
        rcases HOR.out with ⟨rfl, hji, _, htp⟩ | ⟨rfl, hji, _, hwant⟩
        · have HTP := Lib.hid htp
          clear htp HOR
          go_wp2
          refine bodyPost_ret (v := .tuple #[.int .i64 n, .int .i64 0]) (by simp [results, Tryz.results35, go_sem]) rfl ?_
          exact fixSays_end (s := { (⟨B, Z, a, (Z : Int), 0, 0, .hdr⟩ : Fs) with n := n, ph := .fin }) (by rw [HMI.out]; exact Fm.at_end (by rw [Fm.at_succ HST.out, fx_take_padd rfl]) rfl hji) rfl HZN.out HT6.out HTP.out
        · have HWA := Lib.hid hwant
          have HJI := Lib.hid hji
          clear hwant HOR hji
          go_wp2
          refine bodyPost_ret (v := .tuple #[.int .i64 0, .int .i64 10]) (by simp [results, Tryz.results35, go_sem]) rfl ?_
          exact fixSays_wants (s := { (⟨B, Z, a, (Z : Int), 0, 0, .hdr⟩ : Fs) with ph := .padd n }) (by rw [HMI.out, ← HJI.out]; exact HST.out) (by show some (⟨2, Rg.spot B Z a, 8, (Hd.jn n (-1)).toNat, 0, []⟩ : Ac) = _; rw [HVN.out, fx_spot ha0 ha1]) HZN.out HT6.out HWA.out
    have hl3 : l = 0 := by omega
    subst hl3
    have HS6 : Hid (m.at T 3 = .live ((⟨B, Z, a, (Z : Int), 0, 0, .hdr⟩ : Fs).ahead (a + 8))) := Lib.hid (by rw [HS5.out]; unfold Fs.judge; rw [if_pos rfl])
    go_wp2_with fail
    clear hd0 hd1 e8 e9 e10 hl0 hl1 hl2 hlb r1 HS5
    go_loopw [15, 16] (fun vn vx wr => ∃ (n x mm : Int) (j : Nat), vn = .int .i64 n ∧ vx = .int .i64 x ∧ Tw wr p A cap i j T w.heap.size B Z ∧ Touch (One p) w6 wr ∧ a + 8 ≤ x ∧ x ≤ 16384 ∧
        ((n = 0 ∧ m.at T j = .live ((⟨B, Z, a, (Z : Int), mm, 0, .hdr⟩ : Fs).ahead x)) ∨ (1 ≤ n ∧ n ≤ 8192 ∧ m.at T j = .live ⟨B, Z, a, (Z : Int), mm, 0, .padd n⟩))) (fun vn vx _ => if intOf vn = 0 then (20000 - intOf vx).toNat + 1 else 0)
    case atStart => exact ⟨0, a + 8, 0, _, rfl, rfl, HTW6.out, Touch.refl _ _, by omega, by omega, .inl ⟨rfl, HS6.out⟩⟩
    case round =>
      obtain ⟨n, x, mm, j, rfl, rfl, htw, htt, hx0, hx1, hor⟩ := hrel
      have HTWL := Lib.hid htw
      have HTTL := Lib.hid (HT6.out.trans htt)
      have HTT6 := Lib.hid htt
      clear htw htt
      rcases hor with ⟨rfl, hst⟩ | ⟨hn0, hn1, hst⟩
      · have HST0 := Lib.hid hst
        clear hst
        by_cases hxb : x < (Z : Int)
        · have hdx : decide (x < (Z : Int)) = true := decide_eq_true hxb
          have HST : Hid (m.at T j = .live ⟨B, Z, a, (Z : Int), mm, 0, .up x⟩) := Lib.hid (by rw [HST0.out]; unfold Fs.ahead; rw [if_neg (by show ¬ (Z : Int) ≤ x; omega)])
          have HNX : Hid ((⟨B, Z, a, (Z : Int), mm, 0, .up x⟩ : Fs).next = some ⟨1, (B : Int) + x, 4, 0, 0, []⟩) := Lib.hid (by
            show some (⟨1, Rg.spot B Z x, 4, 0, 0, []⟩ : Ac) = _
            rw [fx_spot (by omega) (by omega)])
          have r0 := HTWL.out.r0
          have r1 := HTWL.out.r1
          have f1 : IntKind.i64.wrap ((B : Int) + x) = B + x := IntWalk.i64_in _ (by omega)
          have f2 : IntKind.i64.wrap (x + 8) = x + 8 := IntWalk.i64_in _ (by omega)
          have f3 : IntKind.i64.wrap (x - 8) = x - 8 := IntWalk.i64_in _ (by omega)
          have f4 : IntKind.i64.wrap (x - a) = x - a := IntWalk.i64_in _ (by omega)
          go_wp2_with fail
          refine (twLoad HTWL.out _ _).mono ?_
          rintro e w7 ⟨v, ok, rfl, ht7, hor⟩
          have HT7 := Lib.hid ht7
          clear ht7 r0 r1
          rcases hor with ⟨rfl, hv, hvn, hji, htw7⟩ | ⟨rfl, rfl, hji, hwant, k0, k1⟩
          · have hlow : v < 4294967296 := by
              rw [hv]
              exact HH.out j hji _ (by rw [HST.out]; exact HNX.out) rfl
            have HTW7 := Lib.hid htw7
            have r0 := htw7.r0
            have r1 := htw7.r1
            have hne7 := htw7.ne
            clear htw7
            by_cases hv0 : v = 0
            · have HN2 : Hid (m.at T (j + 1) = .live ((⟨B, Z, a, (Z : Int), mm, 0, .hdr⟩ : Fs).ahead (x + 8))) := Lib.hid (by
                rw [Fm.at_succ HST.out, fx_take_up rfl, if_pos (by show (T j).V % 4294967296 = 0; rw [← hv, hv0])]
                rfl)
              subst hv0
              clear hv
              go_wp2
              go_roundw
              case rel => exact ⟨0, x + 8, mm, j + 1, rfl, by go_num, HTW7.out, HTT6.out.trans HT7.out, by omega, by omega, .inl ⟨rfl, HN2.out⟩⟩
              case measure => simp [intOf]; omega
            · have HN2 : Hid (m.at T (j + 1) = .live ((⟨B, Z, a, (Z : Int), x, 0, .hdr⟩ : Fs).back (x - 8 + 8))) := Lib.hid (by
                rw [Fm.at_succ HST.out, fx_take_up rfl, if_neg (by show ¬ (T j).V % 4294967296 = 0; rw [← hv]; omega), show x - 8 + 8 = x by omega]
                rfl)
              have hv1 : ((v : Int) == 0) = false := by simp; omega
              clear hv
              have HEM := Lib.hid (refEmpty_any (s := ⟨B, Z, a, (Z : Int), x, 0, .hdr⟩) HRG.out ⟨ha0, ha1⟩ (x - 8) ⟨by show a - 8 ≤ x - 8; omega, by show x - 8 < (Z : Int); omega⟩ HTW7.out.le HTW7.out.cap0 HTW7.out.cap1 HTW7.out.far HTW7.out.tp HTW7.out.told HN2.out HH.out)
              go_wp2_with fail
              refine HEM.out.mono ?_
              rintro e w8 ⟨good, told, rfl, ht8, hor8⟩
              have HT8 := Lib.hid ht8
              rcases hor8 with ⟨rfl, rfl, j8, hj8, htp8, hm8⟩ | ⟨rfl, rfl, j8, hj8, htp8, hm8⟩ | ⟨rfl, rfl, xx, aa, hm8, hn8, hw8⟩
              · have HTW8 : Hid (Tw w8 p A cap i j8 T w.heap.size B Z) := Lib.hid ⟨htp8, ToldAt.one HTW7.out.tp (by intro x e; cases e) ht8 HTW7.out.told HTW7.out.far, (ht8.cell (p := ⟨w.heap.size, 0, none⟩) (lt_of_cell r0) hne7).trans r0, (ht8.cell (p := ⟨w.heap.size, 1, none⟩) (lt_of_cell r1) hne7).trans r1, HTW7.out.ne, HTW7.out.far, HTW7.out.cap0, HTW7.out.cap1, hj8⟩
                have HM8 := Lib.hid hm8
                clear htp8 hm8 ht8 r0 r1
                go_wp2
                go_roundw
                case rel => exact ⟨x - a, x + 8, x, j8, by go_num, by go_num, HTW8.out, HTT6.out.trans (HT7.out.trans HT8.out), by omega, by omega, .inr ⟨by omega, by omega, HM8.out⟩⟩
                case measure =>
                  have q1 : ¬ x - a = 0 := by omega
                  simp [intOf, q1]
              · have HTP8 := Lib.hid htp8
                have HM8 := Lib.hid hm8
                clear htp8 hm8 ht8 r0 r1
                go_wp2
                refine bodyPost_ret (v := .tuple #[.int .i64 0, .int .i64 0]) (by simp [results, Tryz.results35, go_sem]) rfl ?_
                exact fixSays_end (s := ⟨B, Z, a, (Z : Int), x, 0, .fin⟩) (by rw [HMI.out]; exact Fm.at_end HM8.out rfl hj8) rfl HZN.out (HTTL.out.trans (HT7.out.trans HT8.out)) HTP8.out
              · have HW8 := Lib.hid hw8
                have HM8 := Lib.hid (And.intro hm8 hn8)
                clear hw8 hm8 hn8 ht8 r0 r1
                go_wp2
                refine bodyPost_ret (v := .tuple #[.int .i64 0, .int .i64 10]) (by simp [results, Tryz.results35, go_sem]) rfl ?_
                exact fixSays_wants (s := ⟨B, Z, a, (Z : Int), x, 0, .down xx⟩) (by rw [HMI.out]; exact HM8.out.1) HM8.out.2 HZN.out (HTTL.out.trans (HT7.out.trans HT8.out)) HW8.out
          · have HWA := Lib.hid hwant
            have HJI := Lib.hid hji
            clear hwant k0 k1 hji
            go_wp2
            refine bodyPost_ret (v := .tuple #[.int .i64 0, .int .i64 10]) (by simp [results, Tryz.results35, go_sem]) rfl ?_
            exact fixSays_wants (s := ⟨B, Z, a, (Z : Int), mm, 0, .up x⟩) (by rw [HMI.out, ← HJI.out]; exact HST.out) HNX.out HZN.out (HTTL.out.trans HT7.out) HWA.out
        · have hdx : decide (x < (Z : Int)) = false := decide_eq_false hxb
          have HST : Hid (m.at T j = .live ⟨B, Z, a, (Z : Int), mm, 0, .fin⟩) := Lib.hid (by rw [HST0.out]; unfold Fs.ahead; rw [if_pos (by show (Z : Int) ≤ x; omega)])
          go_wp2
          refine bodyPost_ret (v := .tuple #[.int .i64 0, .int .i64 0]) (by simp [results, Tryz.results35, go_sem]) rfl ?_
          exact fixSays_end (s := ⟨B, Z, a, (Z : Int), mm, 0, .fin⟩) (by rw [HMI.out]; exact Fm.at_end HST.out rfl HTWL.out.le) rfl HZN.out HTTL.out HTWL.out.tp
      · have HST := Lib.hid hst
        clear hst
        have hnn : (n == 0) = false := by simp; omega
        have hnz : (n == 0) = false := by simp; omega
        have e5 : IntKind.i32.wrap n = n := (Hd.s32_wrap _).trans (Hd.s32_in _ (by omega) (by omega))
        have e6 : wrap32 n = n := by unfold wrap32; omega
        have e7 : IntKind.i64.wrap ((B : Int) + a) = B + a := IntWalk.i64_in _ (by omega)
        have r0 := HTWL.out.r0
        have r1 := HTWL.out.r1
        have hlr := lt_of_cell r0
        have hlp := HTWL.out.ne
        obtain ⟨Vp, hV, hVn⟩ : ∃ V : Nat, Hd.jn n (-1) = (V : Int) ∧ (Hd.jn n (-1)).toNat = V := rp_cast _ (Hd.jn_bounds _ _).1
        have HVN := Lib.hid hVn
        clear hVn
        go_wp2_with fail
        go_region_held3 (fun w' => w'.cell? ⟨w.heap.size, 0, none⟩ = some (.int .i64 B)) (go_keep)
          (first
            | (go_at_call 67; refine (tapeStore_any (HTWL.out.tp.below hb1) HTWL.out.le HTWL.out.cap0 HTWL.out.cap1 (HTWL.out.told.below hb1) HTWL.out.far _ 8 Vp).mono ?_; rintro e w6 ⟨ok, rfl, ht6, hor⟩; have HOR := Lib.hid hor; clear hor; have s0 := (ht6.cell (p := ⟨w.heap.size, 0, none⟩) (lt_of_cell q0) hlp).trans q0)
            | (go_at_call 68; refine (refRecord_any n (-1) _ (by omega) (by omega) (by omega) (by omega)).mono ?_; rintro e x1 ⟨rfl, hq1⟩; rw [hV]; have hb1 := below_drew hq1; have q0 := (hb1.cell (p := ⟨w.heap.size, 0, none⟩) hlr).trans r0))
        have HT6 := Lib.hid (HTTL.out.trans ((Touch.of_below (S := One p) hb1).trans ht6))
        clear r0 r1 q0 s0 hb1 hq1 ht6 hlr hnz
        rcases HOR.out with ⟨rfl, hji, _, htp⟩ | ⟨rfl, hji, _, hwant⟩
        · have HTP := Lib.hid htp
          clear htp HOR
          go_wp2
          refine bodyPost_ret (v := .tuple #[.int .i64 n, .int .i64 0]) (by simp [results, Tryz.results35, go_sem]) rfl ?_
          exact fixSays_end (s := { (⟨B, Z, a, (Z : Int), mm, 0, .hdr⟩ : Fs) with n := n, ph := .fin }) (by rw [HMI.out]; exact Fm.at_end (by rw [Fm.at_succ HST.out, fx_take_padd rfl]) rfl hji) rfl HZN.out HT6.out HTP.out
        · have HWA := Lib.hid hwant
          have HJI := Lib.hid hji
          clear hwant HOR hji
          go_wp2
          refine bodyPost_ret (v := .tuple #[.int .i64 0, .int .i64 10]) (by simp [results, Tryz.results35, go_sem]) rfl ?_
          exact fixSays_wants (s := { (⟨B, Z, a, (Z : Int), mm, 0, .hdr⟩ : Fs) with ph := .padd n }) (by rw [HMI.out, ← HJI.out]; exact HST.out) (by show some (⟨2, Rg.spot B Z a, 8, (Hd.jn n (-1)).toNat, 0, []⟩ : Ac) = _; rw [HVN.out, fx_spot ha0 ha1]) HZN.out HT6.out HWA.out
  · have hdl : decide (b0 ≤ a) = false := decide_eq_false hle
    have HS4 : Hid (m.at T 2 = .live ⟨B, Z, a, b0, 0, 0, .hdr⟩) := Lib.hid (by rw [HS3.out, if_neg hle])
    clear HS3 HAB
    go_upto_region 12 with (fail)
    have e3 : IntKind.i64.wrap ((B : Int) + a) = B + a := IntWalk.i64_in _ (by omega)
    go_upto_region 13 with (go_at_call 63; refine (twLoad HTW4.out _ _).mono ?_; rintro e w5 ⟨v2, ok, rfl, ht5, hor⟩; have HOR := Lib.hid hor; have HT5 := Lib.hid (HT4.out.trans ht5); clear hor ht5)
    clear r0 r1
    rcases HOR.out with ⟨rfl, hv2, hv2n, hj2, htw5⟩ | ⟨rfl, rfl, hji, hwant, k0, k1⟩
    rotate_left
    · have HWA := Lib.hid hwant
      have HJI := Lib.hid hji
      clear hwant HOR k0 k1 hji
      go_wp2
      refine bodyPost_ret (v := .tuple #[.int .i64 0, .int .i64 10]) (by simp [results, Tryz.results35, go_sem]) rfl ?_
      exact fixSays_wants (s := ⟨B, Z, a, b0, 0, 0, .hdr⟩) (by rw [HMI.out, ← HJI.out]; exact HS4.out) (by show some (⟨1, Rg.spot B Z a, 8, 0, 0, []⟩ : Ac) = _; rw [fx_spot ha0 ha1]) HZN.out HT5.out HWA.out
    have HTW5 := Lib.hid htw5
    obtain ⟨l, hl⟩ : ∃ l : Int, l = Hd.s32 v2 := ⟨_, rfl⟩
    have hlb : -2147483648 ≤ l ∧ l ≤ 2147483647 := by rw [hl]; exact Hd.s32_bounds _
    have HS5 : Hid (m.at T 3 = .live ((⟨B, Z, a, b0, 0, 0, .hdr⟩ : Fs).judge l)) := Lib.hid (by rw [Fm.at_succ HS4.out, hl, hv2]; rfl)
    have HL := Lib.hid hl
    clear htw5 HOR HTW4 HT4 hv2 hj2 hl
    go_upto_region 16 with (go_at_call 65; refine (refSplit_any v2 _ (by omega) (by omega)).mono ?_; rintro e w6 ⟨rfl, hb6⟩; rw [← HL.out])
    have HTW6 := Lib.hid (HTW5.out.below hb6)
    have HT6 := Lib.hid (HT5.out.trans (Touch.of_below hb6))
    generalize Hd.s32 ((v2 : Int) / 4294967296) = ty
    clear hb6 HTW5 HT5 HL hv2n
    have r1 := HTW6.out.r1
    have e8 : IntKind.i64.wrap l = l := IntWalk.i64_in _ (by omega)
    have e9 : IntKind.i64.wrap ((Z : Int) - a) = Z - a := IntWalk.i64_in _ (by omega)
    have e10 : IntKind.i64.wrap (-((Z : Int) - a)) = -((Z : Int) - a) := IntWalk.i64_in _ (by omega)
    by_cases hl0 : 0 < l
    · have hd0 : decide (0 < l) = true := decide_eq_true hl0
      have HS6 : Hid (m.at T 3 = .live ⟨B, Z, a, b0, 0, 0, .fin⟩) := Lib.hid (by rw [HS5.out]; unfold Fs.judge; rw [if_neg (by omega), if_neg (fun h => by omega)])
      go_wp2
      refine bodyPost_ret (v := .tuple #[.int .i64 0, .int .i64 0]) (by simp [results, Tryz.results35, go_sem]) rfl ?_
      exact fixSays_end (s := ⟨B, Z, a, b0, 0, 0, .fin⟩) (by rw [HMI.out]; exact Fm.at_end HS6.out rfl HTW6.out.le) rfl HZN.out HT6.out HTW6.out.tp
    have hd0 : decide (0 < l) = false := decide_eq_false hl0
    by_cases hl1 : l < -((Z : Int) - a)
    · have hd1 : decide (l < -((Z : Int) - a)) = true := decide_eq_true hl1
      have HS6 : Hid (m.at T 3 = .live ⟨B, Z, a, b0, 0, 0, .fin⟩) := Lib.hid (by rw [HS5.out]; unfold Fs.judge; rw [if_neg (by omega), if_neg (fun h => by have h2 : a - l ≤ (Z : Int) := h.2; omega)])
      go_wp2
      refine bodyPost_ret (v := .tuple #[.int .i64 0, .int .i64 0]) (by simp [results, Tryz.results35, go_sem]) rfl ?_
      exact fixSays_end (s := ⟨B, Z, a, b0, 0, 0, .fin⟩) (by rw [HMI.out]; exact Fm.at_end HS6.out rfl HTW6.out.le) rfl HZN.out HT6.out HTW6.out.tp
    have hd1 : decide (l < -((Z : Int) - a)) = false := decide_eq_false hl1
    have e12 : IntKind.i64.wrap (a + 8) = a + 8 := IntWalk.i64_in _ (by omega)
    by_cases hl2 : l < 0
    · have hd2 : decide (l < 0) = true := decide_eq_true hl2
      have e13 : IntKind.i32.wrap (-l) = -l := (Hd.s32_wrap _).trans (Hd.s32_in _ (by omega) (by omega))
      have e14 : IntKind.i64.wrap (-l) = -l := IntWalk.i64_in _ (by omega)
      have e15 : wrap32 (-l) = -l := by unfold wrap32; omega
      have HS6 : Hid (m.at T 3 = .live ⟨B, Z, a, b0, 0, 0, .padd (-l)⟩) := Lib.hid (by rw [HS5.out]; unfold Fs.judge; rw [if_neg (by omega), if_pos ⟨hl2, by show a - l ≤ (Z : Int); omega⟩])
      obtain ⟨n, hn⟩ : ∃ n : Int, n = -l := ⟨_, rfl⟩
      have hn0 : 1 ≤ n := by omega
      have hn1 : n ≤ 8192 := by omega
      rw [← hn] at HS6 e13 e14 e15
      have HN := Lib.hid hn
      go_wp2_with fail
      try rw [← HN.out]
      clear hd0 hd1 hd2 e8 e9 e10 hl0 hl1 hl2 hlb r1 hn HN
      go_loopw [15, 16] (fun vn vx wr => vn = .int .i64 n ∧ vx = .int .i64 (a + 8) ∧ wr = w6) (fun _ _ _ => 0)
      case atStart => exact ⟨rfl, rfl, rfl⟩
      case round =>
        obtain ⟨rfl, rfl, rfl⟩ := hrel
        have hnn : (n == 0) = false := by simp; omega
        have HST := HS6
        have HTWL := HTW6
        have HTTL := HT6
        have hnz : (n == 0) = false := by simp; omega
        have e5 : IntKind.i32.wrap n = n := (Hd.s32_wrap _).trans (Hd.s32_in _ (by omega) (by omega))
        have e6 : wrap32 n = n := by unfold wrap32; omega
        have e7 : IntKind.i64.wrap ((B : Int) + a) = B + a := IntWalk.i64_in _ (by omega)
        have r0 := HTWL.out.r0
        have r1 := HTWL.out.r1
        have hlr := lt_of_cell r0
        have hlp := HTWL.out.ne
        obtain ⟨Vp, hV, hVn⟩ : ∃ V : Nat, Hd.jn n (-1) = (V : Int) ∧ (Hd.jn n (-1)).toNat = V := rp_cast _ (Hd.jn_bounds _ _).1
        have HVN := Lib.hid hVn
        clear hVn
        go_wp2_with fail
        go_region_held3 (fun w' => w'.cell? ⟨w.heap.size, 0, none⟩ = some (.int .i64 B)) (go_keep)
          (first
            | (go_at_call 67; refine (tapeStore_any (HTWL.out.tp.below hb1) HTWL.out.le HTWL.out.cap0 HTWL.out.cap1 (HTWL.out.told.below hb1) HTWL.out.far _ 8 Vp).mono ?_; rintro e w6 ⟨ok, rfl, ht6, hor⟩; have HOR := Lib.hid hor; clear hor; have s0 := (ht6.cell (p := ⟨w.heap.size, 0, none⟩) (lt_of_cell q0) hlp).trans q0)
            | (go_at_call 68; refine (refRecord_any n (-1) _ (by omega) (by omega) (by omega) (by omega)).mono ?_; rintro e x1 ⟨rfl, hq1⟩; rw [hV]; have hb1 := below_drew hq1; have q0 := (hb1.cell (p := ⟨w.heap.size, 0, none⟩) hlr).trans r0))
        have HT6 := Lib.hid (HTTL.out.trans ((Touch.of_below (S := One p) hb1).trans ht6))
        clear r0 r1 q0 s0 hb1 hq1 ht6 hlr hnz
        rcases HOR.out with ⟨rfl, hji, _, htp⟩ | ⟨rfl, hji, _, hwant⟩
        · have HTP := Lib.hid htp
          clear htp HOR
          go_wp2
          refine bodyPost_ret (v := .tuple #[.int .i64 n, .int .i64 0]) (by simp [results, Tryz.results35, go_sem]) rfl ?_
          exact fixSays_end (s := { (⟨B, Z, a, b0, 0, 0, .hdr⟩ : Fs) with n := n, ph := .fin }) (by rw [HMI.out]; exact Fm.at_end (by rw [Fm.at_succ HST.out, fx_take_padd rfl]) rfl hji) rfl HZN.out HT6.out HTP.out
        · have HWA := Lib.hid hwant
          have HJI := Lib.hid hji
          clear hwant HOR hji
          go_wp2
          refine bodyPost_ret (v := .tuple #[.int .i64 0, .int .i64 10]) (by simp [results, Tryz.results35, go_sem]) rfl ?_
          exact fixSays_wants (s := { (⟨B, Z, a, b0, 0, 0, .hdr⟩ : Fs) with ph := .padd n }) (by rw [HMI.out, ← HJI.out]; exact HST.out) (by show some (⟨2, Rg.spot B Z a, 8, (Hd.jn n (-1)).toNat, 0, []⟩ : Ac) = _; rw [HVN.out, fx_spot ha0 ha1]) HZN.out HT6.out HWA.out
    have hl3 : l = 0 := by omega
    subst hl3
    have HS6 : Hid (m.at T 3 = .live ((⟨B, Z, a, b0, 0, 0, .hdr⟩ : Fs).ahead (a + 8))) := Lib.hid (by rw [HS5.out]; unfold Fs.judge; rw [if_pos rfl])
    go_wp2_with fail
    clear hd0 hd1 e8 e9 e10 hl0 hl1 hl2 hlb r1 HS5
    go_loopw [15, 16] (fun vn vx wr => ∃ (n x mm : Int) (j : Nat), vn = .int .i64 n ∧ vx = .int .i64 x ∧ Tw wr p A cap i j T w.heap.size B Z ∧ Touch (One p) w6 wr ∧ a + 8 ≤ x ∧ x ≤ 16384 ∧
        ((n = 0 ∧ m.at T j = .live ((⟨B, Z, a, b0, mm, 0, .hdr⟩ : Fs).ahead x)) ∨ (1 ≤ n ∧ n ≤ 8192 ∧ m.at T j = .live ⟨B, Z, a, b0, mm, 0, .padd n⟩))) (fun vn vx _ => if intOf vn = 0 then (20000 - intOf vx).toNat + 1 else 0)
    case atStart => exact ⟨0, a + 8, 0, _, rfl, rfl, HTW6.out, Touch.refl _ _, by omega, by omega, .inl ⟨rfl, HS6.out⟩⟩
    case round =>
      obtain ⟨n, x, mm, j, rfl, rfl, htw, htt, hx0, hx1, hor⟩ := hrel
      have HTWL := Lib.hid htw
      have HTTL := Lib.hid (HT6.out.trans htt)
      have HTT6 := Lib.hid htt
      clear htw htt
      rcases hor with ⟨rfl, hst⟩ | ⟨hn0, hn1, hst⟩
      · have HST0 := Lib.hid hst
        clear hst
        by_cases hxb : x < b0
        · have hdx : decide (x < b0) = true := decide_eq_true hxb
          have HST : Hid (m.at T j = .live ⟨B, Z, a, b0, mm, 0, .up x⟩) := Lib.hid (by rw [HST0.out]; unfold Fs.ahead; rw [if_neg (by show ¬ b0 ≤ x; omega)])
          have HNX : Hid ((⟨B, Z, a, b0, mm, 0, .up x⟩ : Fs).next = some ⟨1, (B : Int) + x, 4, 0, 0, []⟩) := Lib.hid (by
            show some (⟨1, Rg.spot B Z x, 4, 0, 0, []⟩ : Ac) = _
            rw [fx_spot (by omega) (by omega)])
          have r0 := HTWL.out.r0
          have r1 := HTWL.out.r1
          have f1 : IntKind.i64.wrap ((B : Int) + x) = B + x := IntWalk.i64_in _ (by omega)
          have f2 : IntKind.i64.wrap (x + 8) = x + 8 := IntWalk.i64_in _ (by omega)
          have f3 : IntKind.i64.wrap (x - 8) = x - 8 := IntWalk.i64_in _ (by omega)
          have f4 : IntKind.i64.wrap (x - a) = x - a := IntWalk.i64_in _ (by omega)
          go_wp2_with fail
          refine (twLoad HTWL.out _ _).mono ?_
          rintro e w7 ⟨v, ok, rfl, ht7, hor⟩
          have HT7 := Lib.hid ht7
          clear ht7 r0 r1
          rcases hor with ⟨rfl, hv, hvn, hji, htw7⟩ | ⟨rfl, rfl, hji, hwant, k0, k1⟩
          · have hlow : v < 4294967296 := by
              rw [hv]
              exact HH.out j hji _ (by rw [HST.out]; exact HNX.out) rfl
            have HTW7 := Lib.hid htw7
            have r0 := htw7.r0
            have r1 := htw7.r1
            have hne7 := htw7.ne
            clear htw7
            by_cases hv0 : v = 0
            · have HN2 : Hid (m.at T (j + 1) = .live ((⟨B, Z, a, b0, mm, 0, .hdr⟩ : Fs).ahead (x + 8))) := Lib.hid (by
                rw [Fm.at_succ HST.out, fx_take_up rfl, if_pos (by show (T j).V % 4294967296 = 0; rw [← hv, hv0])]
                rfl)
              subst hv0
              clear hv
              go_wp2
              go_roundw
              case rel => exact ⟨0, x + 8, mm, j + 1, rfl, by go_num, HTW7.out, HTT6.out.trans HT7.out, by omega, by omega, .inl ⟨rfl, HN2.out⟩⟩
              case measure => simp [intOf]; omega
            · have HN2 : Hid (m.at T (j + 1) = .live ((⟨B, Z, a, b0, x, 0, .hdr⟩ : Fs).back (x - 8 + 8))) := Lib.hid (by
                rw [Fm.at_succ HST.out, fx_take_up rfl, if_neg (by show ¬ (T j).V % 4294967296 = 0; rw [← hv]; omega), show x - 8 + 8 = x by omega]
                rfl)
              have hv1 : ((v : Int) == 0) = false := by simp; omega
              clear hv
              have HEM := Lib.hid (refEmpty_any (s := ⟨B, Z, a, b0, x, 0, .hdr⟩) HRG.out ⟨ha0, ha1⟩ (x - 8) ⟨by show a - 8 ≤ x - 8; omega, by show x - 8 < (Z : Int); omega⟩ HTW7.out.le HTW7.out.cap0 HTW7.out.cap1 HTW7.out.far HTW7.out.tp HTW7.out.told HN2.out HH.out)
              go_wp2_with fail
              refine HEM.out.mono ?_
              rintro e w8 ⟨good, told, rfl, ht8, hor8⟩
              have HT8 := Lib.hid ht8
              rcases hor8 with ⟨rfl, rfl, j8, hj8, htp8, hm8⟩ | ⟨rfl, rfl, j8, hj8, htp8, hm8⟩ | ⟨rfl, rfl, xx, aa, hm8, hn8, hw8⟩
              · have HTW8 : Hid (Tw w8 p A cap i j8 T w.heap.size B Z) := Lib.hid ⟨htp8, ToldAt.one HTW7.out.tp (by intro x e; cases e) ht8 HTW7.out.told HTW7.out.far, (ht8.cell (p := ⟨w.heap.size, 0, none⟩) (lt_of_cell r0) hne7).trans r0, (ht8.cell (p := ⟨w.heap.size, 1, none⟩) (lt_of_cell r1) hne7).trans r1, HTW7.out.ne, HTW7.out.far, HTW7.out.cap0, HTW7.out.cap1, hj8⟩
                have HM8 := Lib.hid hm8
                clear htp8 hm8 ht8 r0 r1
                go_wp2
                go_roundw
                case rel => exact ⟨x - a, x + 8, x, j8, by go_num, by go_num, HTW8.out, HTT6.out.trans (HT7.out.trans HT8.out), by omega, by omega, .inr ⟨by omega, by omega, HM8.out⟩⟩
                case measure =>
                  have q1 : ¬ x - a = 0 := by omega
                  simp [intOf, q1]
              · have HTP8 := Lib.hid htp8
                have HM8 := Lib.hid hm8
                clear htp8 hm8 ht8 r0 r1
                go_wp2
                refine bodyPost_ret (v := .tuple #[.int .i64 0, .int .i64 0]) (by simp [results, Tryz.results35, go_sem]) rfl ?_
                exact fixSays_end (s := ⟨B, Z, a, b0, x, 0, .fin⟩) (by rw [HMI.out]; exact Fm.at_end HM8.out rfl hj8) rfl HZN.out (HTTL.out.trans (HT7.out.trans HT8.out)) HTP8.out
              · have HW8 := Lib.hid hw8
                have HM8 := Lib.hid (And.intro hm8 hn8)
                clear hw8 hm8 hn8 ht8 r0 r1
                go_wp2
                refine bodyPost_ret (v := .tuple #[.int .i64 0, .int .i64 10]) (by simp [results, Tryz.results35, go_sem]) rfl ?_
                exact fixSays_wants (s := ⟨B, Z, a, b0, x, 0, .down xx⟩) (by rw [HMI.out]; exact HM8.out.1) HM8.out.2 HZN.out (HTTL.out.trans (HT7.out.trans HT8.out)) HW8.out
          · have HWA := Lib.hid hwant
            have HJI := Lib.hid hji
            clear hwant k0 k1 hji
            go_wp2
            refine bodyPost_ret (v := .tuple #[.int .i64 0, .int .i64 10]) (by simp [results, Tryz.results35, go_sem]) rfl ?_
            exact fixSays_wants (s := ⟨B, Z, a, b0, mm, 0, .up x⟩) (by rw [HMI.out, ← HJI.out]; exact HST.out) HNX.out HZN.out (HTTL.out.trans HT7.out) HWA.out
        · have hdx : decide (x < b0) = false := decide_eq_false hxb
          have HST : Hid (m.at T j = .live ⟨B, Z, a, b0, mm, 0, .fin⟩) := Lib.hid (by rw [HST0.out]; unfold Fs.ahead; rw [if_pos (by show b0 ≤ x; omega)])
          go_wp2
          refine bodyPost_ret (v := .tuple #[.int .i64 0, .int .i64 0]) (by simp [results, Tryz.results35, go_sem]) rfl ?_
          exact fixSays_end (s := ⟨B, Z, a, b0, mm, 0, .fin⟩) (by rw [HMI.out]; exact Fm.at_end HST.out rfl HTWL.out.le) rfl HZN.out HTTL.out HTWL.out.tp
      · have HST := Lib.hid hst
        clear hst
        have hnn : (n == 0) = false := by simp; omega
        have hnz : (n == 0) = false := by simp; omega
        have e5 : IntKind.i32.wrap n = n := (Hd.s32_wrap _).trans (Hd.s32_in _ (by omega) (by omega))
        have e6 : wrap32 n = n := by unfold wrap32; omega
        have e7 : IntKind.i64.wrap ((B : Int) + a) = B + a := IntWalk.i64_in _ (by omega)
        have r0 := HTWL.out.r0
        have r1 := HTWL.out.r1
        have hlr := lt_of_cell r0
        have hlp := HTWL.out.ne
        obtain ⟨Vp, hV, hVn⟩ : ∃ V : Nat, Hd.jn n (-1) = (V : Int) ∧ (Hd.jn n (-1)).toNat = V := rp_cast _ (Hd.jn_bounds _ _).1
        have HVN := Lib.hid hVn
        clear hVn
        go_wp2_with fail
        go_region_held3 (fun w' => w'.cell? ⟨w.heap.size, 0, none⟩ = some (.int .i64 B)) (go_keep)
          (first
            | (go_at_call 67; refine (tapeStore_any (HTWL.out.tp.below hb1) HTWL.out.le HTWL.out.cap0 HTWL.out.cap1 (HTWL.out.told.below hb1) HTWL.out.far _ 8 Vp).mono ?_; rintro e w6 ⟨ok, rfl, ht6, hor⟩; have HOR := Lib.hid hor; clear hor; have s0 := (ht6.cell (p := ⟨w.heap.size, 0, none⟩) (lt_of_cell q0) hlp).trans q0)
            | (go_at_call 68; refine (refRecord_any n (-1) _ (by omega) (by omega) (by omega) (by omega)).mono ?_; rintro e x1 ⟨rfl, hq1⟩; rw [hV]; have hb1 := below_drew hq1; have q0 := (hb1.cell (p := ⟨w.heap.size, 0, none⟩) hlr).trans r0))
        have HT6 := Lib.hid (HTTL.out.trans ((Touch.of_below (S := One p) hb1).trans ht6))
        clear r0 r1 q0 s0 hb1 hq1 ht6 hlr hnz
        rcases HOR.out with ⟨rfl, hji, _, htp⟩ | ⟨rfl, hji, _, hwant⟩
        · have HTP := Lib.hid htp
          clear htp HOR
          go_wp2
          refine bodyPost_ret (v := .tuple #[.int .i64 n, .int .i64 0]) (by simp [results, Tryz.results35, go_sem]) rfl ?_
          exact fixSays_end (s := { (⟨B, Z, a, b0, mm, 0, .hdr⟩ : Fs) with n := n, ph := .fin }) (by rw [HMI.out]; exact Fm.at_end (by rw [Fm.at_succ HST.out, fx_take_padd rfl]) rfl hji) rfl HZN.out HT6.out HTP.out
        · have HWA := Lib.hid hwant
          have HJI := Lib.hid hji
          clear hwant HOR hji
          go_wp2
          refine bodyPost_ret (v := .tuple #[.int .i64 0, .int .i64 10]) (by simp [results, Tryz.results35, go_sem]) rfl ?_
          exact fixSays_wants (s := { (⟨B, Z, a, b0, mm, 0, .hdr⟩ : Fs) with ph := .padd n }) (by rw [HMI.out, ← HJI.out]; exact HST.out) (by show some (⟨2, Rg.spot B Z a, 8, (Hd.jn n (-1)).toNat, 0, []⟩ : Ac) = _; rw [HVN.out, fx_spot ha0 ha1]) HZN.out HT6.out HWA.out
end Go.Proofs.YtbhhegikfadpiaaGreat
namespace Go.Proofs.YtbhhegikfadpiaaGreat
open Go.RowKit

set_option maxRecDepth 100000 in
set_option maxHeartbeats 1000000 in
theorem same_any (K P N : Int) (V U : Int) (A B : Option Addr) (L M cp cq : Nat) (xs : List Int) (w : World) (ha : BytesAt w (.slice A L cp) xs) (hb : BytesAt w (.slice B M cq) xs) :
    Calls Tryz.prog 36 #[.agg #[.int .i64 K, .int .i64 P, .int .i64 N, .int .u64 V, .int .u64 U, .slice A L cp], .agg #[.int .i64 K, .int .i64 P, .int .i64 N, .int .u64 V, .int .u64 U, .slice B M cq]] w (TrueBelow w) := by
  have HW := ((Below.refl w.heap.size w).alloc (Nat.le_refl _) (.cells #[.int .i64 K, .int .i64 P, .int .i64 N, .int .u64 V, .int .u64 U, .slice A L cp] 37)).alloc (by simp) (.cells #[.int .i64 K, .int .i64 P, .int .i64 N, .int .u64 V, .int .u64 U, .slice B M cq] 37)
  have h1 := (ha.below HW).conv
  have h2 := (hb.below HW).conv
  go_enter Tryz.func36, Tryz.ntmps36
  go_wp2
  go_ret
  exact ⟨rfl, HW⟩
end Go.Proofs.YtbhhegikfadpiaaGreat
namespace Go.Proofs.YtbhhegikfadpiaaGreat
open Go.RowKit

set_option maxRecDepth 100000 in
set_option maxHeartbeats 1000000 in
theorem refFix_dead (B Z : Int) (hB : -9223372036854775808 ≤ B ∧ B ≤ 9223372036854775807) (hZ : -9223372036854775808 ≤ Z ∧ Z ≤ 9223372036854775807) (hbad : ¬ Rg.right B Z) (p cap i : Nat) (A : Option Addr) (w : World) (ht : TpOpen w p A cap i 0) (T : Nat → Ans) :
    Calls Tryz.prog 35 #[.pointer (some ⟨p, 0, none⟩), .agg #[.int .i64 B, .int .i64 Z]] w (FixSays p A cap i ((Fm.new B Z).at T i) w) := by
  have hb0 := un_below w (.int .i64 B) (.int .i64 Z) 26
  obtain ⟨r0, r1⟩ := rg_box w B Z
  have HBZ := Lib.hid (And.intro hB hZ)
  have HR := Lib.hid (decide_eq_false hbad)
  have HM : Hid ((Fm.new B Z).at T i = .dead) := Lib.hid (Fm.at_dead (by unfold Fm.new; rw [if_neg hbad]) i)
  have HTP := Lib.hid (ht.below hb0)
  obtain ⟨mi, hmi⟩ : ∃ mi, mi = (Fm.new B Z).at T i := ⟨_, rfl⟩
  rw [← hmi] at HM ⊢
  clear hB hZ hbad ht hmi
  go_enter Tryz.func35, Tryz.ntmps35
  go_upto_region 1 with (fail)
  generalize w.alloc (.cells #[.int .i64 B, .int .i64 Z] 26) = W at hb0 HTP r0 r1 ⊢
  go_wp2_with (go_at_call 62; refine (refRight_any B Z HBZ.out.1 HBZ.out.2 W).mono ?_; rintro e w1 ⟨rfl, hb1⟩; rw [HR.out])
  refine bodyPost_ret (v := .tuple #[.int .i64 0, .int .i64 1]) (by simp [results, Tryz.results35, go_sem]) rfl ?_
  rw [HM.out]
  exact ⟨rfl, (Touch.of_below hb0).trans (Touch.of_below hb1), Ac.zero, none, 0, 0, 0, HTP.out.below hb1, BytesAt.nil _, rfl⟩

/-- The document's fix, of whatever ring, on a tape that was told i answers. -/
theorem refFix_any (B Z : Int) (hB : -9223372036854775808 ≤ B ∧ B ≤ 9223372036854775807) (hZ : -9223372036854775808 ≤ Z ∧ Z ≤ 9223372036854775807) (p cap i : Nat) (A : Option Addr) (hi : i ≤ cap) (hcap : cap ≤ 9223372036854775807) (T : Nat → Ans) (hA : 0 < i → ∀ a, A = some a → a.block ≠ p) (w : World)
    (hT : ToldAt w A i T) (ht : TpOpen w p A cap i 0) (hh : (Fm.new B Z).Half T i) :
    Calls Tryz.prog 35 #[.pointer (some ⟨p, 0, none⟩), .agg #[.int .i64 B, .int .i64 Z]] w (FixSays p A cap i ((Fm.new B Z).at T i) w) := by
  by_cases h1 : Rg.right B Z
  · have hb : ((B.toNat : Nat) : Int) = B := Int.toNat_of_nonneg h1.2.2.2.1
    have hz : ((Z.toNat : Nat) : Int) = Z := Int.toNat_of_nonneg (by have := h1.2.1; omega)
    have hm : Fm.new B Z = .live ⟨B.toNat, Z.toNat, 0, 0, 0, 0, .head⟩ := by unfold Fm.new; rw [if_pos h1]
    have := refFix_live B.toNat Z.toNat (by rw [hb]; exact hB) (by rw [hz]; exact hZ) (by rw [hb, hz]; exact h1) p cap i A hi hcap T hA w hT ht _ hm hh
    rw [hb, hz] at this
    exact this
  · exact refFix_dead B Z hB hZ h1 p cap i A w ht T

theorem fixNextU {w : World} {F : Nat → Prop} {g : Nat} {m : Fm} (h : FmAt w F g m) (hF : ∀ k, F k → k < w.heap.size) {a : Ac} (ha : a = m.next.getD Ac.zero) :
    Calls Tryz.prog 9 #[.pointer (some ⟨g, 0, none⟩)] w (fun e w' => ∃ A l c, e = .returned (.tuple #[.agg #[.int .i64 a.K, .int .i64 a.P, .int .i64 a.N, .int .u64 a.V, .int .u64 a.U, .slice A l c], .bool m.busy]) ∧ BytesAt w' (.slice A l c) a.bs ∧ Below w.heap.size w w') := by
  have hb : m.busy = m.next.isSome := by cases m <;> rfl
  refine (fixNext h hF).mono ?_
  subst ha
  rw [hb]
  cases m.next with
  | none =>
    rintro e w' ⟨hb, rfl⟩
    exact ⟨none, 0, 0, rfl, BytesAt.nil _, hb⟩
  | some a =>
    rintro e w' ⟨hb, A, l, c, rfl, ho⟩
    exact ⟨A, l, c, rfl, ho.bytes, hb⟩

set_option linter.unusedSimpArgs false in
set_option maxRecDepth 100000 in
set_option maxHeartbeats 2000000 in
theorem same9_any (B Z : Int) (hB : -9223372036854775808 ≤ B ∧ B ≤ 9223372036854775807) (hZ : -9223372036854775808 ≤ Z ∧ Z ≤ 9223372036854775807)
    (cap i : Nat) (A : Option Addr) (hi : i ≤ cap) (hcap : cap ≤ 9223372036854775807) (T : Nat → Ans) (w : World) (hT : ToldAt w A i T) (hh : (Fm.new B Z).Half T i) {F : Nat → Prop} {g : Nat} (hp : FmAt w F g ((Fm.new B Z).at T i)) (hF : ∀ k, F k → k < w.heap.size) :
    Calls Tryz.prog 13 #[.pointer (some ⟨g, 0, none⟩), .slice A i cap, .agg #[.int .i64 B, .int .i64 Z]] w (TrueBelow w) := by
  obtain ⟨m, hm⟩ : ∃ m : Fm, m = (Fm.new B Z).at T i := ⟨_, rfl⟩
  rw [← hm] at hp
  obtain ⟨W, hW⟩ : ∃ W, W = (w.alloc (.cells #[.int .i64 B, .int .i64 Z] 26)).alloc (.cells #[.slice A i cap, .int .i64 0, .int .i64 0, .int .i64 0, .int .i64 0, .int .u64 0, .int .u64 0, .slice none 0 0, .bool false] 84) := ⟨_, rfl⟩
  have hbW : Below w.heap.size w W := by rw [hW]; exact (un_below w (.int .i64 B) (.int .i64 Z) 26).alloc (un_below w (.int .i64 B) (.int .i64 Z) 26).size _
  have htp : Tp W (w.heap.size + 1) A cap i 0 0 0 0 0 0 (.slice none 0 0) false := ⟨by
    rw [hW]
    have := Go.Deep.blk_alloc_new (w.alloc (.cells #[.int .i64 B, .int .i64 Z] 26)) (.cells #[.slice A i cap, .int .i64 0, .int .i64 0, .int .i64 0, .int .i64 0, .int .u64 0, .int .u64 0, .slice none 0 0, .bool false] 84)
    rw [show (w.alloc (.cells #[.int .i64 B, .int .i64 Z] 26)).heap.size = w.heap.size + 1 by simp] at this
    exact this⟩
  have hA : 0 < i → ∀ a, A = some a → a.block ≠ w.heap.size + 1 := fun h0 a ha e => by
    obtain ⟨b, off, e2, hlt, _⟩ := hT h0
    rw [ha] at e2
    injection e2 with e2
    rw [e2] at e
    simp only at e
    omega
  have HFIX := Lib.hid (refFix_any B Z hB hZ (w.heap.size + 1) cap i A hi hcap T hA W (hT.below hbW) htp hh)
  rw [← hm] at HFIX
  have HPW := Lib.hid (hp.keep fun k hk => hbW.block k (hF k hk))
  have HFW := Lib.hid hF
  have HBW := Lib.hid hbW
  clear hB hZ hi hcap hT hp hF hbW htp hA hm hh
  go_enter Tryz.func13, Tryz.ntmps13
  go_wp2_with fail
  rw [← hW]
  clear hW
  refine HFIX.out.mono ?_
  rintro e w3 ⟨rfl, hto, a, Bs, ls, cs, j, htq, hbq, ha⟩
  have hlow : Below w.heap.size w w3 := hto.below HBW.out HBW.out.size fun k hk => by have e : k = w.heap.size + 1 := hk; omega
  have HL3 := Lib.hid hlow
  have HP3 := Lib.hid (HPW.out.keep fun k hk => hto.block k (Nat.lt_of_lt_of_le (HFW.out k hk) HBW.out.size) fun e => by have := HFW.out k hk; have e : k = w.heap.size + 1 := e; omega)
  have HQ := Lib.hid (And.intro htq hbq)
  have HAA := Lib.hid ha
  clear hto hlow htq hbq ha HFIX HPW
  obtain ⟨r1, hr1⟩ : ∃ r, r = m.result.1 := ⟨_, rfl⟩
  obtain ⟨r2, hr2⟩ : ∃ r, r = m.result.2 := ⟨_, rfl⟩
  rw [← hr1, ← hr2]
  have HRR := Lib.hid (And.intro hr1 hr2)
  clear hr1 hr2
  go_wp2_with fail
  refine (fixNextU HP3.out (fun k hk => Nat.lt_of_lt_of_le (HFW.out k hk) HL3.out.size) HAA.out).mono ?_
  rintro e w4 ⟨An, ln, cn, rfl, hbn, hb4⟩
  have HN4 := Lib.hid hbn
  have HB4 := Lib.hid hb4
  clear hbn hb4
  go_wp2_with fail
  have hx5 := Go.Deep.blk_alloc_new w4 (.cells #[.int .i64 a.K, .int .i64 a.P, .int .i64 a.N, .int .u64 a.V, .int .u64 a.U, .slice An ln cn] 37)
  have hb5 := (Below.refl w4.heap.size w4).alloc (Nat.le_refl _) (.cells #[.int .i64 a.K, .int .i64 a.P, .int .i64 a.N, .int .u64 a.V, .int .u64 a.U, .slice An ln cn] 37)
  generalize w4.alloc (.cells #[.int .i64 a.K, .int .i64 a.P, .int .i64 a.N, .int .u64 a.V, .int .u64 a.U, .slice An ln cn] 37) = w8 at hx5 hb5 ⊢
  have hb35 := HB4.out.trans (hb5.mono HB4.out.size)
  have HP5 := Lib.hid (HP3.out.keep fun k hk => hb35.block k (Nat.lt_of_lt_of_le (HFW.out k hk) HL3.out.size))
  have htape := HQ.out.1.below hb35
  have HS1 := Lib.hid (HN4.out.below hb5)
  have HS2 := Lib.hid (HQ.out.2.below hb35)
  have HL7 := Lib.hid (HL3.out.trans (hb35.mono HL3.out.size))
  have hxb := hx5
  clear hx5 hb5 hb35 HP3 HQ HN4 HB4 HL3
  refine (fixResult HP5.out).mono ?_
  rintro e w9 ⟨rfl, rfl⟩
  rw [← HRR.out.1, ← HRR.out.2]
  have d0 : w8.cell? ⟨w4.heap.size, 0, none⟩ = some (.int .i64 a.K) := by simp [World.cell?, hxb]
  have d1 : w8.cell? ⟨w4.heap.size, 1, none⟩ = some (.int .i64 a.P) := by simp [World.cell?, hxb]
  have d2 : w8.cell? ⟨w4.heap.size, 2, none⟩ = some (.int .i64 a.N) := by simp [World.cell?, hxb]
  have d3 : w8.cell? ⟨w4.heap.size, 3, none⟩ = some (.int .u64 a.V) := by simp [World.cell?, hxb]
  have d4 : w8.cell? ⟨w4.heap.size, 4, none⟩ = some (.int .u64 a.U) := by simp [World.cell?, hxb]
  have d5 : w8.cell? ⟨w4.heap.size, 5, none⟩ = some (.slice An ln cn) := by simp [World.cell?, hxb]
  have t2 := htape.c2
  have t3 := htape.c3
  have t4 := htape.c4
  have t5 := htape.c5
  have t6 := htape.c6
  have t7 := htape.c7
  have t8 := htape.c8
  generalize m.busy = mb at *
  clear htape hxb HRR HP5 HAA
  go_wp2_with fail
  go_region_held3 (fun w' => w'.cell? ⟨w.heap.size + 1, 8, none⟩ = some (.bool mb) ∧ w'.cell? ⟨w.heap.size + 1, 2, none⟩ = some (.int .i64 a.K) ∧ w'.cell? ⟨w.heap.size + 1, 3, none⟩ = some (.int .i64 a.P) ∧ w'.cell? ⟨w.heap.size + 1, 4, none⟩ = some (.int .i64 a.N) ∧ w'.cell? ⟨w.heap.size + 1, 5, none⟩ = some (.int .u64 (a.V : Int)) ∧ w'.cell? ⟨w.heap.size + 1, 6, none⟩ = some (.int .u64 (a.U : Int)) ∧ w'.cell? ⟨w.heap.size + 1, 7, none⟩ = some (.slice Bs ls cs) ∧ w'.cell? ⟨w4.heap.size, 0, none⟩ = some (.int .i64 a.K) ∧ w'.cell? ⟨w4.heap.size, 1, none⟩ = some (.int .i64 a.P) ∧ w'.cell? ⟨w4.heap.size, 2, none⟩ = some (.int .i64 a.N) ∧ w'.cell? ⟨w4.heap.size, 3, none⟩ = some (.int .u64 a.V) ∧ w'.cell? ⟨w4.heap.size, 4, none⟩ = some (.int .u64 a.U) ∧ w'.cell? ⟨w4.heap.size, 5, none⟩ = some (.slice An ln cn)) (go_keep)
    (first | (go_at_call 36; refine (same_any a.K a.P a.N (a.V : Int) (a.U : Int) An Bs ln ls cn cs a.bs w8.drew (HS1.out.below (Below.refl w8.heap.size w8).drew) (HS2.out.below (Below.refl w8.heap.size w8).drew)).mono ?_; rintro e w9 ⟨rfl, hb9⟩; have hb9d := below_drew hb9; have kt8 := (hb9d.cell (p := ⟨w.heap.size + 1, 8, none⟩) (lt_of_cell t8)).trans t8; have kt2 := (hb9d.cell (p := ⟨w.heap.size + 1, 2, none⟩) (lt_of_cell t2)).trans t2; have kt3 := (hb9d.cell (p := ⟨w.heap.size + 1, 3, none⟩) (lt_of_cell t3)).trans t3; have kt4 := (hb9d.cell (p := ⟨w.heap.size + 1, 4, none⟩) (lt_of_cell t4)).trans t4; have kt5 := (hb9d.cell (p := ⟨w.heap.size + 1, 5, none⟩) (lt_of_cell t5)).trans t5; have kt6 := (hb9d.cell (p := ⟨w.heap.size + 1, 6, none⟩) (lt_of_cell t6)).trans t6; have kt7 := (hb9d.cell (p := ⟨w.heap.size + 1, 7, none⟩) (lt_of_cell t7)).trans t7; have kd0 := (hb9d.cell (p := ⟨w4.heap.size, 0, none⟩) (lt_of_cell d0)).trans d0; have kd1 := (hb9d.cell (p := ⟨w4.heap.size, 1, none⟩) (lt_of_cell d1)).trans d1; have kd2 := (hb9d.cell (p := ⟨w4.heap.size, 2, none⟩) (lt_of_cell d2)).trans d2; have kd3 := (hb9d.cell (p := ⟨w4.heap.size, 3, none⟩) (lt_of_cell d3)).trans d3; have kd4 := (hb9d.cell (p := ⟨w4.heap.size, 4, none⟩) (lt_of_cell d4)).trans d4; have kd5 := (hb9d.cell (p := ⟨w4.heap.size, 5, none⟩) (lt_of_cell d5)).trans d5))
  all_goals
    have h9 := HL7.out.trans (hb9d.mono HL7.out.size)
    go_wp2
    go_ret
    exact ⟨rfl, h9⟩
end Go.Proofs.YtbhhegikfadpiaaGreat
namespace Go.Proofs.YtbhhegikfadpiaaGreat
open Go.RowKit

/-- Is there such an actor? -/
def hasB (na : Nat) (i : Int) : Bool := decide (0 ≤ i) && decide (i < (na : Int))
theorem hasB_yes {na : Nat} {i : Int} (h : hasB na i = true) : 0 ≤ i ∧ i < (na : Int) := by simpa [hasB] using h
theorem hasB_no {na : Nat} {i : Int} (h : hasB na i = false) : i < 0 ∨ (na : Int) ≤ i := by
  simp [hasB] at h
  omega


/-- Is there such an actor, and is it dead? -/
def St.deadB (st : St) (i : Int) : Bool := hasB st.na i && st.dead i.toNat

/-- Is there such an actor, and is it at its end? -/
def St.endB (st : St) (i : Int) : Bool := hasB st.na i && (st.ms i.toNat).next.isNone

end Go.Proofs.YtbhhegikfadpiaaGreat
namespace Go.Proofs.YtbhhegikfadpiaaGreat
open Go.RowKit

/-- The error of a pick, ahead of what its access may meet. -/
def St.chk (st : St) (p : Pk) : Int :=
  if p.K = 0 ∨ p.K = 1 then (if hasB st.na p.A = true then (if st.dead p.A.toNat = true then 11 else 0) else 2)
  else if p.K = 2 ∧ 0 ≤ p.N ∧ p.N ≤ 1099511627776 then 0 else 1

theorem cell_one {W : World} {b : Nat} {T : TypeId} {u0 u1 u2 : Value} (h : W.heap[b]? = some (.cells #[u0, u1, u2] T (0, 0))) : W.cell? ⟨b, 1, none⟩ = some u1 := by simp [World.cell?, h]

/-- What a step or a kill of an actor answers: it was killed, or not. -/
def deadErr (d : Bool) : Int := bif d then 11 else 0

end Go.Proofs.YtbhhegikfadpiaaGreat
namespace Go.Proofs.YtbhhegikfadpiaaGreat
open Go.RowKit

/-- The first i actors were told the clock c. -/
def St.ticks (st : St) (c : Int) (i : Nat) : St := { st with clock := c, ms := fun j => if j < i ∧ st.dead j = false then (st.ms j).tick c else st.ms j }

theorem St.ticks_zero (st : St) (c : Int) : { st with clock := c } = st.ticks c 0 := by
  unfold St.ticks
  congr 1

theorem St.ticks_dead (st : St) (c : Int) (i : Nat) (hd : st.dead i = true) : st.ticks c i = st.ticks c (i + 1) := by
  unfold St.ticks
  congr 1
  funext j
  by_cases e : j = i
  · subst e
    rw [if_neg (fun h => by omega), if_neg (fun h => by rw [hd] at h; cases h.2)]
  · by_cases h : j < i ∧ st.dead j = false
    · rw [if_pos h, if_pos ⟨by omega, h.2⟩]
    · rw [if_neg h, if_neg (fun h2 => h ⟨by omega, h2.2⟩)]

theorem St.ticks_next (st : St) (c : Int) (i : Nat) (hd : st.dead i = false) : { st.ticks c i with ms := upd (st.ticks c i).ms i (((st.ticks c i).ms i).tick c) } = st.ticks c (i + 1) := by
  have e : upd (st.ticks c i).ms i (((st.ticks c i).ms i).tick c) = (st.ticks c (i + 1)).ms := by
    funext j
    show upd (fun j => if j < i ∧ st.dead j = false then (st.ms j).tick c else st.ms j) i ((if i < i ∧ st.dead i = false then (st.ms i).tick c else st.ms i).tick c) j = if j < i + 1 ∧ st.dead j = false then (st.ms j).tick c else st.ms j
    by_cases e : j = i
    · subst e
      rw [upd_same, if_neg (fun h => by omega), if_pos ⟨by omega, hd⟩]
    · rw [upd_other _ _ _ e]
      by_cases h : j < i ∧ st.dead j = false
      · rw [if_pos h, if_pos ⟨by omega, h.2⟩]
      · rw [if_neg h, if_neg (fun h2 => h ⟨by omega, h2.2⟩)]
  rw [e]
  rfl

/-- What a call did, and what one behind it did. -/
theorem own_trans {o o1 o2 : Nat → Pt} {w w1 w2 : World} (ht : Touch (Own o) w w1) (ho : ∀ k, k < w.heap.size → o1 k = o k) (ht2 : Touch (Own o1) w1 w2) (ho2 : ∀ k, k < w1.heap.size → o2 k = o1 k) :
    Touch (Own o) w w2 ∧ ∀ k, k < w.heap.size → o2 k = o k :=
  ⟨⟨ht2.os.trans ht.os, ht2.tape.trans ht.tape, ht2.output.trans ht.output, Nat.le_trans ht.size ht2.size, fun k hk hn => (ht2.block k (Nat.lt_of_lt_of_le hk ht.size) (fun h => hn (by unfold Own at h ⊢; rw [ho k hk] at h; exact h))).trans (ht.block k hk hn)⟩,
    fun k hk => (ho2 k (Nat.lt_of_lt_of_le hk ht.size)).trans (ho k hk)⟩

theorem moved_cell {F : Nat → Prop} {x : Value} {s : Mc} {w w' : World} (h : Moved F x s w w') {p : Addr} (hp : p.block < w.heap.size) (hn : ¬ F p.block) : w'.cell? p = w.cell? p := by
  obtain ⟨_, _, ht, _⟩ := h
  exact ht.cell hp hn

theorem cell_box {W : World} {b : Nat} {T : TypeId} {u0 u1 : Value} (h : W.heap[b]? = some (.cells #[u0, u1] T (0, 0))) : W.cell? ⟨b, 0, none⟩ = some u0 := by simp [World.cell?, h]

end Go.Proofs.YtbhhegikfadpiaaGreat
