/-
  The document's get (layer 8), walked over a tape: it says what the machine says that was told the same.
  Whether two rows of messages are one (layer 8's plain answer), walked for two that are.
  Copies of messages in new memory, walked; what a get read, told by its Messages.
  Whether two accesses are one (layer 2's plain answer), walked for two that are.
  The document's get over a tape, and the machine that was told the same, held against each other (layer 8).
  Layer 6's small calls, walked: whether there is an actor, whether a pick may be, the clock, who is dead, who is at its end, silence.
  Layer 6's check of a pick, walked.
  Layer 6's ticks, walked: a machine is told the clock if it is one that is told; all that live are.
-/
import Derived.Test.YtikcnioooihncaaGreatP10
import Derived.Test.YtikcnioooihncaaGreatP09
import Derived.Deep.RegionHeld3
import Derived.Test.YtikcnioooihncaaGreatP01
import Derived.Test.YtikcnioooihncaaGreatP08
import Derived.Deep.QuietTactic
import Derived.BigQuiet
import Derived.LoopTactic
import Derived.Stop.Asserts
namespace Go.Proofs.YtikcnioooihncaaGreat
open Go.RowKit

theorem wpList_app_msg {w : World} {ops : Array Oper} {rest : List Oper} {o : Oper} {a : Act} {Q : Exit → Act → World → Prop} (hgd : o.guard = none) (s x : Operand)
    (ho : o.op = .call { callee := .builtin .append, args := #[s, x], argTypes := #[39, 39] }) (n : Nat) (v : Value) (xs : List Value) (t : Int) (A : Option Addr) (l cp b c : Nat)
    (hs : a.eval s = v) (hx : a.eval x = .slice (some ⟨b, 0, none⟩) 1 c) (hv : w.ownsRow 0 69 2 v n xs) (hg : w.heap[b]? = some (.cells #[.int .i32 t, .slice A l cp] 69 (0, 0))) (hn : n ≤ 1000000)
    (h : ∀ g cap w', w'.ownsRow 0 69 2 (.slice (some ⟨g, 0, none⟩) (n + 1) cap) (n + 1) (xs ++ [.int .i32 t, .slice A l cp]) → w.grownBy w' v.ownBlock → (some g = v.ownBlock ∨ some g = some w.heap.size) → wpList Tryz.prog ops Q rest (a.put o.dst (.slice (some ⟨g, 0, none⟩) (n + 1) cap)) w') : wpList Tryz.prog ops Q (o :: rest) a w := by
  refine wpList_plain hgd fun K hK => ?_
  obtain ⟨g, cap, w', hrun, h1, h2, h3⟩ := run_app_msg hv t A l cp (c := c) hg hn o.type
  unfold Oper.wp execOp
  simp only [ho, resolve, invoke, builtin, Sem.run_bind, Sem.run_pure, Result.andThen_ok, List.map_toArray, List.map_cons, List.map_nil, hs, hx, hrun]
  exact hK _ _ (h g cap w' h1 h2 h3)

/-- The head moved on, as a number. -/
theorem gt_end (v0 done : Nat) : ∃ V : Nat, IntKind.u64.wrap ((v0 : Int) + (done : Int)) = (V : Int) ∧ Rs.un (Rs.wr (Rs.wr v0 + (done : Nat))) = V := by
  refine ⟨Rs.un (Rs.wr (Rs.wr v0 + (done : Nat))), ?_, rfl⟩
  have h1 : ∀ x : Int, ((Rs.un x : Nat) : Int) = x % 18446744073709551616 := fun x => by unfold Rs.un; omega
  rw [h1]
  have h2 : ∀ y, IntKind.u64.wrap y = y % 18446744073709551616 := fun y => by simp [IntKind.wrap, IntKind.signed, IntKind.bits]
  rw [h2]
  unfold Rs.wr wrap64
  omega

/-- A record's header was told: what goes on. -/
theorem Gs.tell_none {s : Gs} {l typ : Int} (h : l < 1) : s.tell l typ = s.drain := by unfold Gs.tell; rw [if_pos h]
theorem Gs.tell_odd {s : Gs} {l typ : Int} (h : 1 ≤ l) (h2 : l < 8 ∨ s.left < (Gs.size l : Int)) : s.tell l typ = ({ s with er := 13 } : Gs).drain := by unfold Gs.tell; rw [if_neg (by omega), if_pos h2]
theorem Gs.tell_pad {s : Gs} {l : Int} (h : 8 ≤ l) (h2 : (Gs.size l : Int) ≤ s.left) : s.tell l (-1) = s.pass (Gs.size l) := by unfold Gs.tell; rw [if_neg (by omega), if_neg (by omega), if_pos rfl]
theorem Gs.tell_msg {s : Gs} {l typ : Int} (h : 8 ≤ l) (h2 : (Gs.size l : Int) ≤ s.left) (h3 : typ ≠ -1) : s.tell l typ = if l = 8 then s.got typ (Gs.size l) [] else { s with ph := .read typ (Gs.size l) (l - 8).toNat 0 [] } := by unfold Gs.tell; rw [if_neg (by omega), if_neg (by omega), if_neg h3]
theorem Gm.at_msg {m : Gm} {T : Nat → Ans} {j : Nat} {s : Gs} {l typ : Int} (h : m.at T j = .live (s.tell l typ)) (h1 : 8 ≤ l) (h2 : (Gs.size l : Int) ≤ s.left) (h3 : typ ≠ -1) : m.at T (j + ((l - 8).toNat + 7) / 8) = .live (s.got typ (Gs.size l) (cat (fun q => T (j + q)) (((l - 8).toNat + 7) / 8))) := by
  rw [Gs.tell_msg h1 h2 h3] at h
  by_cases h8 : l = 8
  · subst h8
    rw [if_pos rfl] at h
    exact h
  · rw [if_neg h8] at h
    exact Gm.at_got h (by omega)
theorem Gm.at_part {m : Gm} {T : Nat → Ans} {j : Nat} {s : Gs} {l typ : Int} (h : m.at T j = .live (s.tell l typ)) (h1 : 8 ≤ l) (h2 : (Gs.size l : Int) ≤ s.left) (h3 : typ ≠ -1) {k : Nat} (hk : 8 * k < (l - 8).toNat) : m.at T (j + k) = .live { s with ph := .read typ (Gs.size l) (l - 8).toNat (8 * k) (cat (fun q => T (j + q)) k) } := by
  rw [Gs.tell_msg h1 h2 h3, if_neg (by omega)] at h
  exact Gm.at_reads h k hk

set_option linter.unusedSimpArgs false in
set_option maxRecDepth 100000 in
set_option maxHeartbeats 8000000 in
theorem refGet_live (B Z : Nat) (most : Int) (hmost : 1 ≤ most ∧ most ≤ 9223372036854775807) (hB : -9223372036854775808 ≤ (B : Int) ∧ (B : Int) ≤ 9223372036854775807) (hZ : -9223372036854775808 ≤ (Z : Int) ∧ (Z : Int) ≤ 9223372036854775807) (hok : Rg.right B Z) (p cap i : Nat) (A : Option Addr) (hi : i ≤ cap) (hcap : cap ≤ 9223372036854775807) (T : Nat → Ans) (hA : 0 < i → ∀ a, A = some a → a.block ≠ p) (w : World)
    (hT : ToldAt w A i T) (ht : TpOpen w p A cap i 0) (hcat : ∀ j, j ≤ i → (cat (fun k => T (j + k)) (i - j)).length ≤ 1073741824) (m : Gm) (hm : m = .live ⟨B, Z, most, 0, 0, [], 0, .head⟩) :
    Calls Tryz.prog 32 #[.pointer (some ⟨p, 0, none⟩), .agg #[.int .i64 B, .int .i64 Z], .int .i64 most] w (GetSays p A cap i (m.at T i) w) := by
  have hb0 := un_below w (.int .i64 B) (.int .i64 Z) 38
  have HB0 := Lib.hid hb0
  have HX : Hid (Tw (w.alloc (.cells #[.int .i64 B, .int .i64 Z] 38)) p A cap i 0 T w.heap.size B Z) := Lib.hid ⟨ht.below hb0, hT.below hb0, (rg_box w B Z).1, (rg_box w B Z).2, by have := ht.lt; omega, hA, hi, hcap, Nat.zero_le _⟩
  have hnp : Hid (∀ (n k : Nat), w.heap.size ≤ k → k < n → ¬ One p k) := Lib.hid (fun n k hk _ e => by have := ht.lt; have e : k = p := e; omega)
  have HBZ := Lib.hid (And.intro hB hZ)
  have HOK := Lib.hid hok
  have HCAT := Lib.hid hcat
  have HTA := Lib.hid (And.intro ht (And.intro hT hA))
  have HM : Hid (m.at T 0 = .live ⟨B, Z, most, 0, 0, [], 0, .head⟩) := Lib.hid hm
  have hz0 : 64 ≤ (Z : Int) := hok.2.1
  have hz1 : (Z : Int) ≤ 8192 := hok.2.2.1
  have hB1 : (B : Int) ≤ 131072 - Z - 32 := hok.2.2.2.2.1
  have HZN : Hid (Z ≠ 0) := Lib.hid (by omega)
  have HRG : Hid (Rg.Ok B Z) := Lib.hid ⟨hok.1, by omega, by omega, by have := hok.2.2.2.2.2; omega, by omega⟩
  have e1 : IntKind.i64.wrap ((B : Int) + Z) = B + Z := IntWalk.i64_in _ (by omega)
  have e2 : IntKind.i64.wrap ((B : Int) + Z + 16) = B + Z + 16 := IntWalk.i64_in _ (by omega)
  obtain ⟨mi, hmi⟩ : ∃ mi, mi = m.at T i := ⟨_, rfl⟩
  rw [← hmi]
  have HMI := Lib.hid hmi
  have hm0 : ¬ most < 1 := by omega
  have hm1 : most ≤ 9223372036854775807 := hmost.2
  clear hb0 ht hT hm hi hcap hA hB hZ hok hmi hcat hmost
  go_enter Tryz.func32, Tryz.ntmps32
  go_upto_region 1 with (fail)
  generalize w.alloc (.cells #[.int .i64 B, .int .i64 Z] 38) = W at HB0 HX ⊢
  have r0 := HX.out.r0
  have r1 := HX.out.r1
  go_upto_region 4 with (go_at_call 24; refine (refRight_any B Z HBZ.out.1 HBZ.out.2 W).mono ?_; rintro e w1 ⟨rfl, hb1⟩; rw [decide_eq_true HOK.out])
  have HTW1 := Lib.hid (HX.out.below hb1)
  have HTT1 : Hid (Touch (One p) w w1) := Lib.hid ((Touch.of_below HB0.out).trans (Touch.of_below hb1))
  clear r0 r1 hb1
  have r0 := HTW1.out.r0
  have r1 := HTW1.out.r1
  go_upto_region 5 with (go_at_call 59; refine (twLoad HTW1.out _ _).mono ?_; rintro e w2 ⟨v0, ok, rfl, ht2, hor⟩; have HOR := Lib.hid hor; have HT2 := Lib.hid (HTT1.out.trans ht2); clear hor ht2)
  clear r0 r1
  obtain ⟨a, ha⟩ : ∃ a : Int, a = (v0 : Int) % Z := ⟨_, rfl⟩
  have ha0 : 0 ≤ a := by rw [ha]; exact Int.emod_nonneg _ (by omega)
  have ha1 : a < Z := by rw [ha]; exact Int.emod_lt_of_pos _ (by omega)
  have HAV := Lib.hid ha
  clear ha
  rcases HOR.out with ⟨rfl, hv0, hv0n, hj0, htw2⟩ | ⟨rfl, hv0, hji, hwant, k0, k1⟩
  rotate_left
  · have HJI := Lib.hid hji
    have HWA := Lib.hid hwant
    clear hji hwant HOR hv0
    go_upto_region 7 with (go_at_call 60; refine (refPlace_any B Z v0 hz0 hz1 _).mono ?_; rintro e w3 ⟨rfl, hb3⟩; rw [← HAV.out]; have HB3 := Lib.hid hb3; clear hb3)
    obtain ⟨Bw, lw, cw, htpw, hbtw⟩ := HWA.out
    have HTPW := Lib.hid (htpw.below HB3.out)
    have HBTW := Lib.hid (hbtw.below HB3.out)
    clear htpw hbtw k0 k1
    refine wp_loop_rounds 1 ?_
    rw [rounds_succ]
    go_wp2
    refine bodyPost_ret (v := .tuple #[.slice none 0 0, .int .i64 0, .int .i64 10]) (by simp [results, Tryz.results32, go_sem]) rfl ?_
    exact getSays_wants (s := ⟨B, Z, most, 0, 0, [], 0, .head⟩) (by rw [HMI.out, ← HJI.out]; exact HM.out) rfl HZN.out (MgsAt.none _ _) (HT2.out.trans (Touch.of_below HB3.out)) ⟨Bw, lw, cw, HTPW.out, HBTW.out⟩
  have HTW2 := Lib.hid htw2
  have HS1 : Hid (m.at T 1 = .live (⟨B, Z, most, Rs.wr v0, 0, [], 0, .head⟩ : Gs).looks) := Lib.hid (by rw [Gm.at_succ HM.out, hv0]; rfl)
  clear htw2 HOR HTW1 HTT1 hv0 hj0
  have r0 := HTW2.out.r0
  have r1 := HTW2.out.r1
  go_upto_region 7 with (go_at_call 60; refine (refPlace_any B Z v0 hz0 hz1 _).mono ?_; rintro e w3 ⟨rfl, hb3⟩; rw [← HAV.out]; have HB3 := Lib.hid hb3; clear hb3)
  have HTW3 := Lib.hid (HTW2.out.below HB3.out)
  have HT3 := Lib.hid (HT2.out.trans (Touch.of_below HB3.out))
  have HPL : Hid (Rg.place Z (Rs.wr v0) = a) := Lib.hid (by unfold Rg.place; rw [wr_place HRG.out.pow]; exact HAV.out.symm)
  have HSP : Hid (Rg.spot B Z (Rs.wr v0) = (B : Int) + a) := Lib.hid (by unfold Rg.spot; rw [HPL.out])
  clear r0 r1 HTW2 HT2 HB3
  have g1 : IntKind.i64.wrap ((B : Int) + a) = B + a := IntWalk.i64_in _ (by omega)
  go_loopw [9, 11, 13, 14] (fun vo vk vd ve wr => ∃ (ms : List (Int × List Int)) (done j : Nat) (K : Nat → Prop), vk = .bool true ∧ vd = .int .i64 done ∧ ve = .int .i64 0 ∧ Tw wr p A cap i j T w.heap.size B Z ∧ Touch (One p) w wr ∧ MsAt K wr vo ms ∧ (∀ k, K k → w.heap.size < k ∧ k < wr.heap.size) ∧
      (ms.length : Int) ≤ most ∧ ms.length ≤ done ∧ (done : Int) ≤ Z - a ∧ m.at T j = .live (⟨B, Z, most, Rs.wr v0, done, ms, 0, .head⟩ : Gs).looks) (fun _ _ vd _ _ => Z + 1 - (intOf vd).toNat)
  case atStart => exact ⟨[], 0, 1, fun _ => False, rfl, rfl, rfl, HTW3.out, HT3.out, ⟨[], rfl, ⟨rfl, .inl ⟨rfl, rfl⟩⟩, fun k hk => (by cases hk), fun i hi => absurd hi (Nat.not_lt_zero _)⟩, fun k hk => False.elim hk, by simp; omega, Nat.zero_le _, by simp; omega, HS1.out⟩
  case round =>
    obtain ⟨ms, done, j, K, rfl, rfl, rfl, htw, htt, hms, hK, hq1, hq2, hq3, hst⟩ := hrel
    obtain ⟨Am, cm, rfl⟩ := hms.slice
    have HTWL := Lib.hid htw
    have HTTL := Lib.hid htt
    have HMS := Lib.hid hms
    have HK := Lib.hid hK
    have HST0 := Lib.hid hst
    have HV : Hid (MgsAt (fun k => w.heap.size ≤ k) wr (.slice Am ms.length cm) ms) := Lib.hid (hms.read.mono fun k hk _ => Nat.le_of_lt (hK k hk).1)
    have r0 := htw.r0
    have r1 := htw.r1
    clear htw htt hms hK hst
    have g2 : IntKind.i64.wrap (a + (done : Int)) = a + done := IntWalk.i64_in _ (by omega)
    have HLF : Hid ((⟨B, Z, most, Rs.wr v0, done, ms, 0, .head⟩ : Gs).left = (Z : Int) - a - done) := Lib.hid (by show (Z : Int) - Rg.place Z (Rs.wr v0) - (done : Nat) = _; rw [HPL.out])
    by_cases hgo : (ms.length : Int) < most ∧ a + (done : Int) < Z
    rotate_left
    · have HST : Hid (m.at T j = .live (⟨B, Z, most, Rs.wr v0, done, ms, 0, .head⟩ : Gs).drain) := Lib.hid (by rw [HST0.out]; unfold Gs.looks; rw [if_pos]; rw [HLF.out]; show (ms.length : Int) = most ∨ (Z : Int) - a - done = 0; omega)
      by_cases hlm : (ms.length : Int) < most
      · have hla : ¬ a + (done : Int) < Z := fun e => hgo ⟨hlm, e⟩
        clear hgo HMS HK
        have hd0 : ¬ done = 0 := by omega
        have hdp : (0 : Int) < done := by omega
        have HZ0 : Hid (m.at T j = .live { (⟨B, Z, most, Rs.wr v0, done, ms, 0, .head⟩ : Gs) with ph := .zero 0 }) := Lib.hid (by rw [HST.out]; unfold Gs.drain; rw [if_neg hd0])
        have HZF : Hid (Cy.few ((done : Nat) : Int) = done) := Lib.hid (Cy.few_nat (by omega))
        have t0 := HTWL.out.r0
        have t1 := HTWL.out.r1
        go_wp2_with fail
        refine (tapeZero_from HTWL.out.tp HTWL.out.le HTWL.out.cap0 HTWL.out.cap1 HTWL.out.told HTWL.out.far _ (by omega) (by omega) _).mono ?_
        rintro e wz ⟨bz, rfl, htz, horz⟩
        rw [HZF.out] at horz
        have u0 := (htz.cell (p := ⟨w.heap.size, 0, none⟩) (lt_of_cell t0) HTWL.out.ne).trans t0
        have u1 := (htz.cell (p := ⟨w.heap.size, 1, none⟩) (lt_of_cell t1) HTWL.out.ne).trans t1
        have HTZ := Lib.hid htz
        have HTO : Hid (ToldAt wz A i T) := Lib.hid (ToldAt.one HTWL.out.tp (by intro x e; cases e) htz HTWL.out.told HTWL.out.far)
        have HVZ := Lib.hid (MgsAt.touch HV.out htz (hnp.out _))
        clear htz t0 t1
        rcases horz with ⟨h8, rfl, Bz, lz, cz, htpz, hbtz⟩ | ⟨h8, rfl, htpz⟩
        · have HTP := Lib.hid htpz
          have HBT := Lib.hid hbtz
          have H8 := Lib.hid h8
          clear htpz hbtz h8
          go_wp2
          refine bodyPost_ret (v := .tuple #[.slice Am ms.length cm, .int .i64 0, .int .i64 10]) (by simp [results, Tryz.results32, go_sem]) rfl ?_
          exact getSays_wants (a := ⟨6, (B : Int) + a + (8 * (i - j) : Nat), (Cy.nx (done - 8 * (i - j)) : Nat), 0, 0, Mb.bl (fun _ => 0) (8 * (i - j)) (Cy.nx (done - 8 * (i - j)))⟩) (s := { (⟨B, Z, most, Rs.wr v0, done, ms, 0, .head⟩ : Gs) with ph := .zero (8 * (i - j)) }) (by rw [HMI.out]; have := Gm.at_zeros (s := (⟨B, Z, most, Rs.wr v0, done, ms, 0, .head⟩ : Gs)) HZ0.out (i - j) H8.out; rw [show j + (i - j) = i by have := HTWL.out.le; omega] at this; exact this) (by show some (⟨6, Rg.spot B Z (Rs.wr v0) + ((8 * (i - j) : Nat) : Int), _, 0, 0, _⟩ : Ac) = _; rw [HSP.out]) HZN.out HVZ.out (HTTL.out.trans HTZ.out) ⟨Bz, lz, cz, HTP.out, HBT.out⟩
        have HTP := Lib.hid htpz
        have HJ : Hid (j + (done + 7) / 8 ≤ i) := Lib.hid (by have := HTWL.out.le; omega)
        have HSE : Hid (m.at T (j + (done + 7) / 8) = .live { (⟨B, Z, most, Rs.wr v0, done, ms, 0, .head⟩ : Gs) with ph := .set }) := Lib.hid (Gm.at_set (s := (⟨B, Z, most, Rs.wr v0, done, ms, 0, .head⟩ : Gs)) HZ0.out (by show 0 < done; omega))
        clear htpz
        obtain ⟨Vp, hV, hVn⟩ : ∃ V : Nat, IntKind.u64.wrap ((v0 : Int) + (done : Int)) = (V : Int) ∧ Rs.un (Rs.wr (Rs.wr v0 + (done : Nat))) = V := gt_end v0 done
        have HVN := Lib.hid hVn
        have eu : IntKind.u64.wrap ((done : Nat) : Int) = (done : Int) := IntWalk.u64_in _ (by omega)
        clear hVn
        go_wp2_with fail
        refine (tapeStore_any HTP.out HJ.out HTWL.out.cap0 HTWL.out.cap1 HTO.out HTWL.out.far _ 8 Vp).mono ?_
        rintro e ws ⟨oks, rfl, hts, hors⟩
        have HTS := Lib.hid hts
        have HVS := Lib.hid (MgsAt.touch HVZ.out hts (hnp.out _))
        clear hts u0 u1
        rcases hors with ⟨rfl, hjs, _, htps⟩ | ⟨rfl, hjs, _, hwants⟩
        · have HTPS := Lib.hid htps
          have HJS := Lib.hid hjs
          clear htps hjs
          go_wp2
          refine bodyPost_ret (v := .tuple #[.slice Am ms.length cm, .int .i64 done, .int .i64 0]) (by simp [results, Tryz.results32, go_sem]) rfl ?_
          exact getSays_end (s := { (⟨B, Z, most, Rs.wr v0, done, ms, 0, .head⟩ : Gs) with ph := .fin }) (by rw [HMI.out]; exact Gm.at_end (by rw [Gm.at_succ HSE.out]; rfl) rfl HJS.out) rfl HZN.out ⟨rfl, rfl⟩ HVS.out ((HTTL.out.trans HTZ.out).trans HTS.out) HTPS.out
        · have HWS := Lib.hid hwants
          have HJS := Lib.hid hjs
          clear hwants hjs
          go_wp2
          refine bodyPost_ret (v := .tuple #[.slice Am ms.length cm, .int .i64 0, .int .i64 10]) (by simp [results, Tryz.results32, go_sem]) rfl ?_
          exact getSays_wants (s := { (⟨B, Z, most, Rs.wr v0, done, ms, 0, .head⟩ : Gs) with ph := .set }) (by rw [HMI.out, ← HJS.out]; exact HSE.out) (by show some (⟨2, Rg.num B Z 16, 8, Rs.un (Rs.wr (Rs.wr v0 + (done : Nat))), 0, []⟩ : Ac) = _; rw [HVN.out]; rfl) HZN.out HVS.out ((HTTL.out.trans HTZ.out).trans HTS.out) HWS.out
      · clear hgo HMS HK
        have hd0 : ¬ done = 0 := by omega
        have hdp : (0 : Int) < done := by omega
        have HZ0 : Hid (m.at T j = .live { (⟨B, Z, most, Rs.wr v0, done, ms, 0, .head⟩ : Gs) with ph := .zero 0 }) := Lib.hid (by rw [HST.out]; unfold Gs.drain; rw [if_neg hd0])
        have HZF : Hid (Cy.few ((done : Nat) : Int) = done) := Lib.hid (Cy.few_nat (by omega))
        have t0 := HTWL.out.r0
        have t1 := HTWL.out.r1
        go_wp2_with fail
        refine (tapeZero_from HTWL.out.tp HTWL.out.le HTWL.out.cap0 HTWL.out.cap1 HTWL.out.told HTWL.out.far _ (by omega) (by omega) _).mono ?_
        rintro e wz ⟨bz, rfl, htz, horz⟩
        rw [HZF.out] at horz
        have u0 := (htz.cell (p := ⟨w.heap.size, 0, none⟩) (lt_of_cell t0) HTWL.out.ne).trans t0
        have u1 := (htz.cell (p := ⟨w.heap.size, 1, none⟩) (lt_of_cell t1) HTWL.out.ne).trans t1
        have HTZ := Lib.hid htz
        have HTO : Hid (ToldAt wz A i T) := Lib.hid (ToldAt.one HTWL.out.tp (by intro x e; cases e) htz HTWL.out.told HTWL.out.far)
        have HVZ := Lib.hid (MgsAt.touch HV.out htz (hnp.out _))
        clear htz t0 t1
        rcases horz with ⟨h8, rfl, Bz, lz, cz, htpz, hbtz⟩ | ⟨h8, rfl, htpz⟩
        · have HTP := Lib.hid htpz
          have HBT := Lib.hid hbtz
          have H8 := Lib.hid h8
          clear htpz hbtz h8
          go_wp2
          refine bodyPost_ret (v := .tuple #[.slice Am ms.length cm, .int .i64 0, .int .i64 10]) (by simp [results, Tryz.results32, go_sem]) rfl ?_
          exact getSays_wants (a := ⟨6, (B : Int) + a + (8 * (i - j) : Nat), (Cy.nx (done - 8 * (i - j)) : Nat), 0, 0, Mb.bl (fun _ => 0) (8 * (i - j)) (Cy.nx (done - 8 * (i - j)))⟩) (s := { (⟨B, Z, most, Rs.wr v0, done, ms, 0, .head⟩ : Gs) with ph := .zero (8 * (i - j)) }) (by rw [HMI.out]; have := Gm.at_zeros (s := (⟨B, Z, most, Rs.wr v0, done, ms, 0, .head⟩ : Gs)) HZ0.out (i - j) H8.out; rw [show j + (i - j) = i by have := HTWL.out.le; omega] at this; exact this) (by show some (⟨6, Rg.spot B Z (Rs.wr v0) + ((8 * (i - j) : Nat) : Int), _, 0, 0, _⟩ : Ac) = _; rw [HSP.out]) HZN.out HVZ.out (HTTL.out.trans HTZ.out) ⟨Bz, lz, cz, HTP.out, HBT.out⟩
        have HTP := Lib.hid htpz
        have HJ : Hid (j + (done + 7) / 8 ≤ i) := Lib.hid (by have := HTWL.out.le; omega)
        have HSE : Hid (m.at T (j + (done + 7) / 8) = .live { (⟨B, Z, most, Rs.wr v0, done, ms, 0, .head⟩ : Gs) with ph := .set }) := Lib.hid (Gm.at_set (s := (⟨B, Z, most, Rs.wr v0, done, ms, 0, .head⟩ : Gs)) HZ0.out (by show 0 < done; omega))
        clear htpz
        obtain ⟨Vp, hV, hVn⟩ : ∃ V : Nat, IntKind.u64.wrap ((v0 : Int) + (done : Int)) = (V : Int) ∧ Rs.un (Rs.wr (Rs.wr v0 + (done : Nat))) = V := gt_end v0 done
        have HVN := Lib.hid hVn
        have eu : IntKind.u64.wrap ((done : Nat) : Int) = (done : Int) := IntWalk.u64_in _ (by omega)
        clear hVn
        go_wp2_with fail
        refine (tapeStore_any HTP.out HJ.out HTWL.out.cap0 HTWL.out.cap1 HTO.out HTWL.out.far _ 8 Vp).mono ?_
        rintro e ws ⟨oks, rfl, hts, hors⟩
        have HTS := Lib.hid hts
        have HVS := Lib.hid (MgsAt.touch HVZ.out hts (hnp.out _))
        clear hts u0 u1
        rcases hors with ⟨rfl, hjs, _, htps⟩ | ⟨rfl, hjs, _, hwants⟩
        · have HTPS := Lib.hid htps
          have HJS := Lib.hid hjs
          clear htps hjs
          go_wp2
          refine bodyPost_ret (v := .tuple #[.slice Am ms.length cm, .int .i64 done, .int .i64 0]) (by simp [results, Tryz.results32, go_sem]) rfl ?_
          exact getSays_end (s := { (⟨B, Z, most, Rs.wr v0, done, ms, 0, .head⟩ : Gs) with ph := .fin }) (by rw [HMI.out]; exact Gm.at_end (by rw [Gm.at_succ HSE.out]; rfl) rfl HJS.out) rfl HZN.out ⟨rfl, rfl⟩ HVS.out ((HTTL.out.trans HTZ.out).trans HTS.out) HTPS.out
        · have HWS := Lib.hid hwants
          have HJS := Lib.hid hjs
          clear hwants hjs
          go_wp2
          refine bodyPost_ret (v := .tuple #[.slice Am ms.length cm, .int .i64 0, .int .i64 10]) (by simp [results, Tryz.results32, go_sem]) rfl ?_
          exact getSays_wants (s := { (⟨B, Z, most, Rs.wr v0, done, ms, 0, .head⟩ : Gs) with ph := .set }) (by rw [HMI.out, ← HJS.out]; exact HSE.out) (by show some (⟨2, Rg.num B Z 16, 8, Rs.un (Rs.wr (Rs.wr v0 + (done : Nat))), 0, []⟩ : Ac) = _; rw [HVN.out]; rfl) HZN.out HVS.out ((HTTL.out.trans HTZ.out).trans HTS.out) HWS.out
    have hlm := hgo.1
    have hla := hgo.2
    have HST : Hid (m.at T j = .live { (⟨B, Z, most, Rs.wr v0, done, ms, 0, .head⟩ : Gs) with ph := .look }) := Lib.hid (by rw [HST0.out]; unfold Gs.looks; rw [if_neg]; rw [HLF.out]; show ¬ ((ms.length : Int) = most ∨ (Z : Int) - a - done = 0); omega)
    have g3 : IntKind.i64.wrap ((B : Int) + a + (done : Int)) = B + a + done := IntWalk.i64_in _ (by omega)
    have HAT : Hid (((⟨B, Z, most, Rs.wr v0, done, ms, 0, .head⟩ : Gs)).at_ = (B : Int) + a + done) := Lib.hid (by show Rg.spot B Z (Rs.wr v0) + (done : Nat) = _; rw [HSP.out])
    clear hgo HST0
    go_wp2_with fail
    refine (twLoad HTWL.out _ _).mono ?_
    rintro e w5 ⟨v, ok, rfl, ht5, hor⟩
    have HT5 := Lib.hid ht5
    have HV5 := Lib.hid (MgsAt.touch HV.out ht5 (hnp.out _))
    have HOR := Lib.hid hor
    clear ht5 r0 r1 hor
    go_upto_region 12 with (go_at_call 61; refine (refSplit_any v _ (by omega) (by rcases HOR.out with ⟨_, _, h, _⟩ | ⟨_, h, _⟩ <;> omega)).mono ?_; rintro e w6 ⟨rfl, hb6⟩; have HB6 := Lib.hid hb6; clear hb6)
    obtain ⟨l, hl⟩ : ∃ l : Int, l = Hd.s32 v := ⟨_, rfl⟩
    obtain ⟨ty, hty⟩ : ∃ ty : Int, ty = Hd.s32 ((v : Int) / 4294967296) := ⟨_, rfl⟩
    have hlb : -2147483648 ≤ l ∧ l ≤ 2147483647 := by rw [hl]; exact Hd.s32_bounds _
    rw [← hl, ← hty]
    have HV6 := Lib.hid (HV5.out.below HB6.out)
    have HT6 := Lib.hid (HTTL.out.trans (HT5.out.trans (Touch.of_below HB6.out)))
    rcases HOR.out with ⟨rfl, hv, hvn, hji, htw5⟩ | ⟨rfl, hv, hji, hwant, k0, k1⟩
    rotate_left
    · have HJI := Lib.hid hji
      obtain ⟨Bw, lw, cw, htpw, hbtw⟩ := hwant
      have HTPW := Lib.hid (htpw.below HB6.out)
      have HBTW := Lib.hid (hbtw.below HB6.out)
      clear hji htpw hbtw k0 k1 HOR hv hl hty
      go_wp2
      refine bodyPost_ret (v := .tuple #[.slice Am ms.length cm, .int .i64 0, .int .i64 10]) (by simp [results, Tryz.results32, go_sem]) rfl ?_
      exact getSays_wants (s := { (⟨B, Z, most, Rs.wr v0, done, ms, 0, .head⟩ : Gs) with ph := .look }) (by rw [HMI.out, ← HJI.out]; exact HST.out) (by show some (⟨1, ((⟨B, Z, most, Rs.wr v0, done, ms, 0, .head⟩ : Gs)).at_, 8, 0, 0, []⟩ : Ac) = _; rw [HAT.out]) HZN.out HV6.out HT6.out ⟨Bw, lw, cw, HTPW.out, HBTW.out⟩
    have HTW6 := Lib.hid (htw5.below HB6.out)
    have HS6 : Hid (m.at T (j + 1) = .live (((⟨B, Z, most, Rs.wr v0, done, ms, 0, .head⟩ : Gs)).tell l ty)) := Lib.hid (by rw [Gm.at_succ HST.out, hl, hty, hv]; rfl)
    have HMS6 := Lib.hid (HMS.out.keep (Nat.le_trans HT5.out.size HB6.out.size) fun k hk => (HB6.out.block k (Nat.lt_of_lt_of_le (HK.out k hk).2 HT5.out.size)).trans (HT5.out.block k (HK.out k hk).2 (hnp.out _ k (Nat.le_of_lt (HK.out k hk).1) (HK.out k hk).2)))
    have HK6 : Hid (∀ k, K k → w.heap.size < k ∧ k < w6.heap.size) := Lib.hid fun k hk => ⟨(HK.out k hk).1, by have := (HK.out k hk).2; have := HT5.out.size; have := HB6.out.size; omega⟩
    have HTY : Hid (-2147483648 ≤ ty ∧ ty ≤ 2147483647) := Lib.hid (by rw [hty]; exact Hd.s32_bounds _)
    clear htw5 HOR hv hvn hji hl hty HST HMS HK HV5 HTWL HTTL HV HT5
    have r0 := HTW6.out.r0
    have r1 := HTW6.out.r1
    by_cases hl1 : l < 1
    · have HSD : Hid (m.at T (j + 1) = .live ((⟨B, Z, most, Rs.wr v0, done, ms, 0, .head⟩ : Gs)).drain) := Lib.hid (by rw [HS6.out, Gs.tell_none hl1])
      clear HS6 HMS6 HK6
      by_cases hd0 : done = 0
      · have HF : Hid (m.at T (j + 1) = .live { (⟨B, Z, most, Rs.wr v0, done, ms, 0, .head⟩ : Gs) with ph := .fin }) := Lib.hid (by rw [HSD.out]; unfold Gs.drain; rw [if_pos hd0])
        have hdn : ¬ (0 : Int) < done := by omega
        clear hd0
        go_wp2
        refine bodyPost_ret (v := .tuple #[.slice Am ms.length cm, .int .i64 done, .int .i64 0]) (by simp [results, Tryz.results32, go_sem]) rfl ?_
        exact getSays_end (s := { (⟨B, Z, most, Rs.wr v0, done, ms, 0, .head⟩ : Gs) with ph := .fin }) (by rw [HMI.out]; exact Gm.at_end HF.out rfl HTW6.out.le) rfl HZN.out ⟨rfl, rfl⟩ HV6.out HT6.out HTW6.out.tp
      have hdp : (0 : Int) < done := by omega
      have HZ0 : Hid (m.at T (j + 1) = .live { (⟨B, Z, most, Rs.wr v0, done, ms, 0, .head⟩ : Gs) with ph := .zero 0 }) := Lib.hid (by rw [HSD.out]; unfold Gs.drain; rw [if_neg hd0])
      have HZF : Hid (Cy.few ((done : Nat) : Int) = done) := Lib.hid (Cy.few_nat (by omega))
      have t0 := HTW6.out.r0
      have t1 := HTW6.out.r1
      go_wp2_with fail
      refine (tapeZero_from HTW6.out.tp HTW6.out.le HTW6.out.cap0 HTW6.out.cap1 HTW6.out.told HTW6.out.far _ (by omega) (by omega) _).mono ?_
      rintro e wz ⟨bz, rfl, htz, horz⟩
      rw [HZF.out] at horz
      have u0 := (htz.cell (p := ⟨w.heap.size, 0, none⟩) (lt_of_cell t0) HTW6.out.ne).trans t0
      have u1 := (htz.cell (p := ⟨w.heap.size, 1, none⟩) (lt_of_cell t1) HTW6.out.ne).trans t1
      have HTZ := Lib.hid htz
      have HTO : Hid (ToldAt wz A i T) := Lib.hid (ToldAt.one HTW6.out.tp (by intro x e; cases e) htz HTW6.out.told HTW6.out.far)
      have HVZ := Lib.hid (MgsAt.touch HV6.out htz (hnp.out _))
      clear htz t0 t1
      rcases horz with ⟨h8, rfl, Bz, lz, cz, htpz, hbtz⟩ | ⟨h8, rfl, htpz⟩
      · have HTP := Lib.hid htpz
        have HBT := Lib.hid hbtz
        have H8 := Lib.hid h8
        clear htpz hbtz h8
        go_wp2
        refine bodyPost_ret (v := .tuple #[.slice Am ms.length cm, .int .i64 0, .int .i64 10]) (by simp [results, Tryz.results32, go_sem]) rfl ?_
        exact getSays_wants (a := ⟨6, (B : Int) + a + (8 * (i - (j + 1)) : Nat), (Cy.nx (done - 8 * (i - (j + 1))) : Nat), 0, 0, Mb.bl (fun _ => 0) (8 * (i - (j + 1))) (Cy.nx (done - 8 * (i - (j + 1))))⟩) (s := { (⟨B, Z, most, Rs.wr v0, done, ms, 0, .head⟩ : Gs) with ph := .zero (8 * (i - (j + 1))) }) (by rw [HMI.out]; have := Gm.at_zeros (s := (⟨B, Z, most, Rs.wr v0, done, ms, 0, .head⟩ : Gs)) HZ0.out (i - (j + 1)) H8.out; rw [show (j + 1) + (i - (j + 1)) = i by have := HTW6.out.le; omega] at this; exact this) (by show some (⟨6, Rg.spot B Z (Rs.wr v0) + ((8 * (i - (j + 1)) : Nat) : Int), _, 0, 0, _⟩ : Ac) = _; rw [HSP.out]) HZN.out HVZ.out (HT6.out.trans HTZ.out) ⟨Bz, lz, cz, HTP.out, HBT.out⟩
      have HTP := Lib.hid htpz
      have HJ : Hid ((j + 1) + (done + 7) / 8 ≤ i) := Lib.hid (by have := HTW6.out.le; omega)
      have HSE : Hid (m.at T ((j + 1) + (done + 7) / 8) = .live { (⟨B, Z, most, Rs.wr v0, done, ms, 0, .head⟩ : Gs) with ph := .set }) := Lib.hid (Gm.at_set (s := (⟨B, Z, most, Rs.wr v0, done, ms, 0, .head⟩ : Gs)) HZ0.out (by show 0 < done; omega))
      clear htpz
      obtain ⟨Vp, hV, hVn⟩ : ∃ V : Nat, IntKind.u64.wrap ((v0 : Int) + (done : Int)) = (V : Int) ∧ Rs.un (Rs.wr (Rs.wr v0 + (done : Nat))) = V := gt_end v0 done
      have HVN := Lib.hid hVn
      have eu : IntKind.u64.wrap ((done : Nat) : Int) = (done : Int) := IntWalk.u64_in _ (by omega)
      clear hVn
      go_wp2_with fail
      refine (tapeStore_any HTP.out HJ.out HTW6.out.cap0 HTW6.out.cap1 HTO.out HTW6.out.far _ 8 Vp).mono ?_
      rintro e ws ⟨oks, rfl, hts, hors⟩
      have HTS := Lib.hid hts
      have HVS := Lib.hid (MgsAt.touch HVZ.out hts (hnp.out _))
      clear hts u0 u1
      rcases hors with ⟨rfl, hjs, _, htps⟩ | ⟨rfl, hjs, _, hwants⟩
      · have HTPS := Lib.hid htps
        have HJS := Lib.hid hjs
        clear htps hjs
        go_wp2
        refine bodyPost_ret (v := .tuple #[.slice Am ms.length cm, .int .i64 done, .int .i64 0]) (by simp [results, Tryz.results32, go_sem]) rfl ?_
        exact getSays_end (s := { (⟨B, Z, most, Rs.wr v0, done, ms, 0, .head⟩ : Gs) with ph := .fin }) (by rw [HMI.out]; exact Gm.at_end (by rw [Gm.at_succ HSE.out]; rfl) rfl HJS.out) rfl HZN.out ⟨rfl, rfl⟩ HVS.out ((HT6.out.trans HTZ.out).trans HTS.out) HTPS.out
      · have HWS := Lib.hid hwants
        have HJS := Lib.hid hjs
        clear hwants hjs
        go_wp2
        refine bodyPost_ret (v := .tuple #[.slice Am ms.length cm, .int .i64 0, .int .i64 10]) (by simp [results, Tryz.results32, go_sem]) rfl ?_
        exact getSays_wants (s := { (⟨B, Z, most, Rs.wr v0, done, ms, 0, .head⟩ : Gs) with ph := .set }) (by rw [HMI.out, ← HJS.out]; exact HSE.out) (by show some (⟨2, Rg.num B Z 16, 8, Rs.un (Rs.wr (Rs.wr v0 + (done : Nat))), 0, []⟩ : Ac) = _; rw [HVN.out]; rfl) HZN.out HVS.out ((HT6.out.trans HTZ.out).trans HTS.out) HWS.out
    have HL1 : Hid (1 ≤ l) := Lib.hid (by omega)
    obtain ⟨sz, hsz⟩ : ∃ sz : Nat, sz = Gs.size l := ⟨_, rfl⟩
    have hal : Wd.al l 8 = (sz : Int) := by rw [hsz]; exact gt_al (by omega) hlb.2
    have hszl : l ≤ (sz : Int) ∧ (sz : Int) ≤ l + 7 := by rw [hsz]; unfold Gs.size; omega
    have e8 : IntKind.i64.wrap l = l := IntWalk.i64_in _ (by omega)
    have g4 : IntKind.i64.wrap ((Z : Int) - a) = Z - a := IntWalk.i64_in _ (by omega)
    have g5 : IntKind.i64.wrap ((Z : Int) - a - (done : Int)) = Z - a - done := IntWalk.i64_in _ (by omega)
    go_upto_region 14 with (go_at_call 62; refine (refAlign_any l 8 _).mono ?_; rintro e w7 ⟨rfl, rfl⟩; rw [hal])
    by_cases hodd : l < 8 ∨ (Z : Int) - a - done < (sz : Int)
    · have HSD : Hid (m.at T (j + 1) = .live ((⟨B, Z, most, Rs.wr v0, done, ms, 13, .head⟩ : Gs)).drain) := Lib.hid (by rw [HS6.out, Gs.tell_odd HL1.out (by rw [HLF.out, ← hsz]; exact hodd)])
      clear HS6 HMS6 HK6
      by_cases hl8 : l < 8
      · clear hodd
        by_cases hd0 : done = 0
        · have HF : Hid (m.at T (j + 1) = .live { (⟨B, Z, most, Rs.wr v0, done, ms, 13, .head⟩ : Gs) with ph := .fin }) := Lib.hid (by rw [HSD.out]; unfold Gs.drain; rw [if_pos hd0])
          have hdn : ¬ (0 : Int) < done := by omega
          clear hd0
          go_wp2
          refine bodyPost_ret (v := .tuple #[.slice Am ms.length cm, .int .i64 0, .int .i64 13]) (by simp [results, Tryz.results32, go_sem]) rfl ?_
          exact getSays_end (s := { (⟨B, Z, most, Rs.wr v0, done, ms, 13, .head⟩ : Gs) with ph := .fin }) (by rw [HMI.out]; exact Gm.at_end HF.out rfl HTW6.out.le) rfl HZN.out ⟨rfl, rfl⟩ HV6.out HT6.out HTW6.out.tp
        have hdp : (0 : Int) < done := by omega
        have HZ0 : Hid (m.at T (j + 1) = .live { (⟨B, Z, most, Rs.wr v0, done, ms, 13, .head⟩ : Gs) with ph := .zero 0 }) := Lib.hid (by rw [HSD.out]; unfold Gs.drain; rw [if_neg hd0])
        have HZF : Hid (Cy.few ((done : Nat) : Int) = done) := Lib.hid (Cy.few_nat (by omega))
        have t0 := HTW6.out.r0
        have t1 := HTW6.out.r1
        go_wp2_with fail
        refine (tapeZero_from HTW6.out.tp HTW6.out.le HTW6.out.cap0 HTW6.out.cap1 HTW6.out.told HTW6.out.far _ (by omega) (by omega) _).mono ?_
        rintro e wz ⟨bz, rfl, htz, horz⟩
        rw [HZF.out] at horz
        have u0 := (htz.cell (p := ⟨w.heap.size, 0, none⟩) (lt_of_cell t0) HTW6.out.ne).trans t0
        have u1 := (htz.cell (p := ⟨w.heap.size, 1, none⟩) (lt_of_cell t1) HTW6.out.ne).trans t1
        have HTZ := Lib.hid htz
        have HTO : Hid (ToldAt wz A i T) := Lib.hid (ToldAt.one HTW6.out.tp (by intro x e; cases e) htz HTW6.out.told HTW6.out.far)
        have HVZ := Lib.hid (MgsAt.touch HV6.out htz (hnp.out _))
        clear htz t0 t1
        rcases horz with ⟨h8, rfl, Bz, lz, cz, htpz, hbtz⟩ | ⟨h8, rfl, htpz⟩
        · have HTP := Lib.hid htpz
          have HBT := Lib.hid hbtz
          have H8 := Lib.hid h8
          clear htpz hbtz h8
          go_wp2
          refine bodyPost_ret (v := .tuple #[.slice Am ms.length cm, .int .i64 0, .int .i64 10]) (by simp [results, Tryz.results32, go_sem]) rfl ?_
          exact getSays_wants (a := ⟨6, (B : Int) + a + (8 * (i - (j + 1)) : Nat), (Cy.nx (done - 8 * (i - (j + 1))) : Nat), 0, 0, Mb.bl (fun _ => 0) (8 * (i - (j + 1))) (Cy.nx (done - 8 * (i - (j + 1))))⟩) (s := { (⟨B, Z, most, Rs.wr v0, done, ms, 13, .head⟩ : Gs) with ph := .zero (8 * (i - (j + 1))) }) (by rw [HMI.out]; have := Gm.at_zeros (s := (⟨B, Z, most, Rs.wr v0, done, ms, 13, .head⟩ : Gs)) HZ0.out (i - (j + 1)) H8.out; rw [show (j + 1) + (i - (j + 1)) = i by have := HTW6.out.le; omega] at this; exact this) (by show some (⟨6, Rg.spot B Z (Rs.wr v0) + ((8 * (i - (j + 1)) : Nat) : Int), _, 0, 0, _⟩ : Ac) = _; rw [HSP.out]) HZN.out HVZ.out (HT6.out.trans HTZ.out) ⟨Bz, lz, cz, HTP.out, HBT.out⟩
        have HTP := Lib.hid htpz
        have HJ : Hid ((j + 1) + (done + 7) / 8 ≤ i) := Lib.hid (by have := HTW6.out.le; omega)
        have HSE : Hid (m.at T ((j + 1) + (done + 7) / 8) = .live { (⟨B, Z, most, Rs.wr v0, done, ms, 13, .head⟩ : Gs) with ph := .set }) := Lib.hid (Gm.at_set (s := (⟨B, Z, most, Rs.wr v0, done, ms, 13, .head⟩ : Gs)) HZ0.out (by show 0 < done; omega))
        clear htpz
        obtain ⟨Vp, hV, hVn⟩ : ∃ V : Nat, IntKind.u64.wrap ((v0 : Int) + (done : Int)) = (V : Int) ∧ Rs.un (Rs.wr (Rs.wr v0 + (done : Nat))) = V := gt_end v0 done
        have HVN := Lib.hid hVn
        have eu : IntKind.u64.wrap ((done : Nat) : Int) = (done : Int) := IntWalk.u64_in _ (by omega)
        clear hVn
        go_wp2_with fail
        refine (tapeStore_any HTP.out HJ.out HTW6.out.cap0 HTW6.out.cap1 HTO.out HTW6.out.far _ 8 Vp).mono ?_
        rintro e ws ⟨oks, rfl, hts, hors⟩
        have HTS := Lib.hid hts
        have HVS := Lib.hid (MgsAt.touch HVZ.out hts (hnp.out _))
        clear hts u0 u1
        rcases hors with ⟨rfl, hjs, _, htps⟩ | ⟨rfl, hjs, _, hwants⟩
        · have HTPS := Lib.hid htps
          have HJS := Lib.hid hjs
          clear htps hjs
          go_wp2
          refine bodyPost_ret (v := .tuple #[.slice Am ms.length cm, .int .i64 0, .int .i64 13]) (by simp [results, Tryz.results32, go_sem]) rfl ?_
          exact getSays_end (s := { (⟨B, Z, most, Rs.wr v0, done, ms, 13, .head⟩ : Gs) with ph := .fin }) (by rw [HMI.out]; exact Gm.at_end (by rw [Gm.at_succ HSE.out]; rfl) rfl HJS.out) rfl HZN.out ⟨rfl, rfl⟩ HVS.out ((HT6.out.trans HTZ.out).trans HTS.out) HTPS.out
        · have HWS := Lib.hid hwants
          have HJS := Lib.hid hjs
          clear hwants hjs
          go_wp2
          refine bodyPost_ret (v := .tuple #[.slice Am ms.length cm, .int .i64 0, .int .i64 10]) (by simp [results, Tryz.results32, go_sem]) rfl ?_
          exact getSays_wants (s := { (⟨B, Z, most, Rs.wr v0, done, ms, 13, .head⟩ : Gs) with ph := .set }) (by rw [HMI.out, ← HJS.out]; exact HSE.out) (by show some (⟨2, Rg.num B Z 16, 8, Rs.un (Rs.wr (Rs.wr v0 + (done : Nat))), 0, []⟩ : Ac) = _; rw [HVN.out]; rfl) HZN.out HVS.out ((HT6.out.trans HTZ.out).trans HTS.out) HWS.out
      · have hso : (Z : Int) - a - done < (sz : Int) := hodd.resolve_left hl8
        clear hodd
        by_cases hd0 : done = 0
        · have HF : Hid (m.at T (j + 1) = .live { (⟨B, Z, most, Rs.wr v0, done, ms, 13, .head⟩ : Gs) with ph := .fin }) := Lib.hid (by rw [HSD.out]; unfold Gs.drain; rw [if_pos hd0])
          have hdn : ¬ (0 : Int) < done := by omega
          clear hd0
          go_wp2
          refine bodyPost_ret (v := .tuple #[.slice Am ms.length cm, .int .i64 0, .int .i64 13]) (by simp [results, Tryz.results32, go_sem]) rfl ?_
          exact getSays_end (s := { (⟨B, Z, most, Rs.wr v0, done, ms, 13, .head⟩ : Gs) with ph := .fin }) (by rw [HMI.out]; exact Gm.at_end HF.out rfl HTW6.out.le) rfl HZN.out ⟨rfl, rfl⟩ HV6.out HT6.out HTW6.out.tp
        have hdp : (0 : Int) < done := by omega
        have HZ0 : Hid (m.at T (j + 1) = .live { (⟨B, Z, most, Rs.wr v0, done, ms, 13, .head⟩ : Gs) with ph := .zero 0 }) := Lib.hid (by rw [HSD.out]; unfold Gs.drain; rw [if_neg hd0])
        have HZF : Hid (Cy.few ((done : Nat) : Int) = done) := Lib.hid (Cy.few_nat (by omega))
        have t0 := HTW6.out.r0
        have t1 := HTW6.out.r1
        go_wp2_with fail
        refine (tapeZero_from HTW6.out.tp HTW6.out.le HTW6.out.cap0 HTW6.out.cap1 HTW6.out.told HTW6.out.far _ (by omega) (by omega) _).mono ?_
        rintro e wz ⟨bz, rfl, htz, horz⟩
        rw [HZF.out] at horz
        have u0 := (htz.cell (p := ⟨w.heap.size, 0, none⟩) (lt_of_cell t0) HTW6.out.ne).trans t0
        have u1 := (htz.cell (p := ⟨w.heap.size, 1, none⟩) (lt_of_cell t1) HTW6.out.ne).trans t1
        have HTZ := Lib.hid htz
        have HTO : Hid (ToldAt wz A i T) := Lib.hid (ToldAt.one HTW6.out.tp (by intro x e; cases e) htz HTW6.out.told HTW6.out.far)
        have HVZ := Lib.hid (MgsAt.touch HV6.out htz (hnp.out _))
        clear htz t0 t1
        rcases horz with ⟨h8, rfl, Bz, lz, cz, htpz, hbtz⟩ | ⟨h8, rfl, htpz⟩
        · have HTP := Lib.hid htpz
          have HBT := Lib.hid hbtz
          have H8 := Lib.hid h8
          clear htpz hbtz h8
          go_wp2
          refine bodyPost_ret (v := .tuple #[.slice Am ms.length cm, .int .i64 0, .int .i64 10]) (by simp [results, Tryz.results32, go_sem]) rfl ?_
          exact getSays_wants (a := ⟨6, (B : Int) + a + (8 * (i - (j + 1)) : Nat), (Cy.nx (done - 8 * (i - (j + 1))) : Nat), 0, 0, Mb.bl (fun _ => 0) (8 * (i - (j + 1))) (Cy.nx (done - 8 * (i - (j + 1))))⟩) (s := { (⟨B, Z, most, Rs.wr v0, done, ms, 13, .head⟩ : Gs) with ph := .zero (8 * (i - (j + 1))) }) (by rw [HMI.out]; have := Gm.at_zeros (s := (⟨B, Z, most, Rs.wr v0, done, ms, 13, .head⟩ : Gs)) HZ0.out (i - (j + 1)) H8.out; rw [show (j + 1) + (i - (j + 1)) = i by have := HTW6.out.le; omega] at this; exact this) (by show some (⟨6, Rg.spot B Z (Rs.wr v0) + ((8 * (i - (j + 1)) : Nat) : Int), _, 0, 0, _⟩ : Ac) = _; rw [HSP.out]) HZN.out HVZ.out (HT6.out.trans HTZ.out) ⟨Bz, lz, cz, HTP.out, HBT.out⟩
        have HTP := Lib.hid htpz
        have HJ : Hid ((j + 1) + (done + 7) / 8 ≤ i) := Lib.hid (by have := HTW6.out.le; omega)
        have HSE : Hid (m.at T ((j + 1) + (done + 7) / 8) = .live { (⟨B, Z, most, Rs.wr v0, done, ms, 13, .head⟩ : Gs) with ph := .set }) := Lib.hid (Gm.at_set (s := (⟨B, Z, most, Rs.wr v0, done, ms, 13, .head⟩ : Gs)) HZ0.out (by show 0 < done; omega))
        clear htpz
        obtain ⟨Vp, hV, hVn⟩ : ∃ V : Nat, IntKind.u64.wrap ((v0 : Int) + (done : Int)) = (V : Int) ∧ Rs.un (Rs.wr (Rs.wr v0 + (done : Nat))) = V := gt_end v0 done
        have HVN := Lib.hid hVn
        have eu : IntKind.u64.wrap ((done : Nat) : Int) = (done : Int) := IntWalk.u64_in _ (by omega)
        clear hVn
        go_wp2_with fail
        refine (tapeStore_any HTP.out HJ.out HTW6.out.cap0 HTW6.out.cap1 HTO.out HTW6.out.far _ 8 Vp).mono ?_
        rintro e ws ⟨oks, rfl, hts, hors⟩
        have HTS := Lib.hid hts
        have HVS := Lib.hid (MgsAt.touch HVZ.out hts (hnp.out _))
        clear hts u0 u1
        rcases hors with ⟨rfl, hjs, _, htps⟩ | ⟨rfl, hjs, _, hwants⟩
        · have HTPS := Lib.hid htps
          have HJS := Lib.hid hjs
          clear htps hjs
          go_wp2
          refine bodyPost_ret (v := .tuple #[.slice Am ms.length cm, .int .i64 0, .int .i64 13]) (by simp [results, Tryz.results32, go_sem]) rfl ?_
          exact getSays_end (s := { (⟨B, Z, most, Rs.wr v0, done, ms, 13, .head⟩ : Gs) with ph := .fin }) (by rw [HMI.out]; exact Gm.at_end (by rw [Gm.at_succ HSE.out]; rfl) rfl HJS.out) rfl HZN.out ⟨rfl, rfl⟩ HVS.out ((HT6.out.trans HTZ.out).trans HTS.out) HTPS.out
        · have HWS := Lib.hid hwants
          have HJS := Lib.hid hjs
          clear hwants hjs
          go_wp2
          refine bodyPost_ret (v := .tuple #[.slice Am ms.length cm, .int .i64 0, .int .i64 10]) (by simp [results, Tryz.results32, go_sem]) rfl ?_
          exact getSays_wants (s := { (⟨B, Z, most, Rs.wr v0, done, ms, 13, .head⟩ : Gs) with ph := .set }) (by rw [HMI.out, ← HJS.out]; exact HSE.out) (by show some (⟨2, Rg.num B Z 16, 8, Rs.un (Rs.wr (Rs.wr v0 + (done : Nat))), 0, []⟩ : Ac) = _; rw [HVN.out]; rfl) HZN.out HVS.out ((HT6.out.trans HTZ.out).trans HTS.out) HWS.out
    have hl8 : ¬ l < 8 := fun e => hodd (.inl e)
    have hso : ¬ (Z : Int) - a - done < (sz : Int) := fun e => hodd (.inr e)
    have HOD : Hid ((Gs.size l : Int) ≤ ((⟨B, Z, most, Rs.wr v0, done, ms, 0, .head⟩ : Gs)).left) := Lib.hid (by rw [HLF.out, ← hsz]; omega)
    have HL8 : Hid (8 ≤ l) := Lib.hid (by omega)
    have hsz1 : (sz : Int) ≤ 8192 := by omega
    have g6 : IntKind.i64.wrap ((done : Int) + (sz : Int)) = done + sz := IntWalk.i64_in _ (by omega)
    have HSZ := Lib.hid hsz
    clear hodd
    by_cases hpad : ty = -1
    · subst hpad
      have HN : Hid (m.at T (j + 1) = .live (⟨B, Z, most, Rs.wr v0, done + sz, ms, 0, .head⟩ : Gs).looks) := Lib.hid (by rw [HS6.out, Gs.tell_pad HL8.out HOD.out, ← HSZ.out]; rfl)
      clear HS6
      go_wp2
      go_roundw
      case rel => exact ⟨ms, done + sz, j + 1, K, rfl, by go_num, rfl, HTW6.out, HT6.out, HMS6.out, HK6.out, hq1, by omega, by omega, HN.out⟩
      case measure => simp [intOf]; omega
    have hpd : (ty != -1) = true := by simpa using hpad
    have HPD : Hid (ty ≠ -1) := Lib.hid hpad
    have e9 : IntKind.i64.wrap ((B : Int) + a + (done : Int) + 8) = B + a + done + 8 := IntWalk.i64_in _ (by omega)
    have e10 : IntKind.i64.wrap (l - 8) = l - 8 := IntWalk.i64_in _ (by omega)
    obtain ⟨n, hn⟩ : ∃ n : Nat, n = (l - 8).toNat := ⟨_, rfl⟩
    have hnl : (n : Int) = l - 8 := by omega
    have HFW : Hid (Cy.few (l - 8) = n) := Lib.hid (by rw [← hnl]; exact Cy.few_nat (by omega))
    have HNL := Lib.hid hn
    clear hn
    go_wp2_with fail
    refine (tapeOut_from ((HTW6.out.tp.below ((Below.refl _ _).alloc (Nat.le_refl _) _))) HTW6.out.le HTW6.out.cap0 HTW6.out.cap1 (HTW6.out.told.below ((Below.refl _ _).alloc (Nat.le_refl _) _)) HTW6.out.far (HCAT.out (j + 1) HTW6.out.le) _ (by omega) (by omega) _).mono ?_
    rintro e w8 ⟨Bo, lo, co, bo, rfl, ht8, hor8⟩
    rw [HFW.out] at hor8
    have ht68 := (Touch.of_below (S := One p) ((Below.refl w6.heap.size w6).alloc (Nat.le_refl _) (.cells #[] 5))).trans ht8
    have HT68 := Lib.hid ht68
    have HV8 := Lib.hid (MgsAt.touch HV6.out ht68 (hnp.out _))
    have HT8 := Lib.hid (HT6.out.trans ht68)
    clear ht8
    rcases hor8 with ⟨h8, rfl, htp8⟩ | ⟨h8, rfl, htp8, hown8⟩
    · have HTP8 := Lib.hid htp8
      have H8 := Lib.hid h8
      clear htp8 h8 ht68
      go_wp2
      refine bodyPost_ret (v := .tuple #[.slice Am ms.length cm, .int .i64 0, .int .i64 10]) (by simp [results, Tryz.results32, go_sem]) rfl ?_
      exact getSays_wants (s := { (⟨B, Z, most, Rs.wr v0, done, ms, 0, .head⟩ : Gs) with ph := .read ty (Gs.size l) (l - 8).toNat (8 * (i - (j + 1))) (cat (fun q => T (j + 1 + q)) (i - (j + 1))) }) (by rw [HMI.out]; have := Gm.at_part HS6.out HL8.out HOD.out HPD.out (k := i - (j + 1)) (by rw [← HNL.out]; exact H8.out); rw [show j + 1 + (i - (j + 1)) = i by have := HTW6.out.le; omega] at this; exact this) (a := ⟨5, (B : Int) + a + done + 8 + (8 * (i - (j + 1)) : Nat), (Cy.nx (n - 8 * (i - (j + 1))) : Nat), 0, 0, []⟩) (by show some (⟨5, ((⟨B, Z, most, Rs.wr v0, done, ms, 0, .head⟩ : Gs)).at_ + 8 + ((8 * (i - (j + 1)) : Nat) : Int), ((Cy.nx ((l - 8).toNat - 8 * (i - (j + 1))) : Nat) : Int), 0, 0, []⟩ : Ac) = _; rw [HAT.out, HNL.out]) HZN.out HV8.out HT8.out ⟨none, 0, 0, HTP8.out, BytesAt.nil _⟩
    have HN : Hid (m.at T (j + 1 + (n + 7) / 8) = .live (⟨B, Z, most, Rs.wr v0, done + sz, ms ++ [(ty, cat (fun q => T (j + 1 + q)) ((n + 7) / 8))], 0, .head⟩ : Gs).looks) := Lib.hid (by have := Gm.at_msg HS6.out HL8.out HOD.out HPD.out; rw [← HNL.out, ← HSZ.out] at this; exact this)
    have HTW8 : Hid (Tw w8 p A cap i (j + 1 + (n + 7) / 8) T w.heap.size B Z) := Lib.hid ⟨htp8, ToldAt.one HTW6.out.tp (by intro x e; cases e) ht68 HTW6.out.told HTW6.out.far, (ht68.cell (p := ⟨w.heap.size, 0, none⟩) (lt_of_cell r0) HTW6.out.ne).trans r0, (ht68.cell (p := ⟨w.heap.size, 1, none⟩) (lt_of_cell r1) HTW6.out.ne).trans r1, HTW6.out.ne, HTW6.out.far, HTW6.out.cap0, HTW6.out.cap1, by have := HTW6.out.le; omega⟩
    have HMS8 := Lib.hid (HMS6.out.keep ht68.size fun k hk => ht68.block k (HK6.out k hk).2 (hnp.out _ k (Nat.le_of_lt (HK6.out k hk).1) (HK6.out k hk).2))
    have hs8 := ht68.size
    have HO8 := Lib.hid hown8
    generalize cat (fun q => T (j + 1 + q)) ((n + 7) / 8) = ys at HN HO8
    have hlo : lo = ys.length := by
      obtain ⟨_, _, hv8, _⟩ := HO8.out.bytes
      injection hv8
    subst hlo
    clear htp8 h8 ht68 hown8 r0 r1
    obtain ⟨vs, hvs, hrow, h3, h4⟩ := HMS8.out
    have HROW := Lib.hid hrow
    have HVS := Lib.hid hvs
    have H3 := Lib.hid h3
    have H4 := Lib.hid h4
    clear hrow h3 h4 hvs
    have HRB : Hid (∀ k, (Value.slice Am ms.length cm).ownBlock = some k → k < w6.heap.size) := Lib.hid fun k hk => (HK6.out k (H3.out k hk)).2
    have hbx := (Below.refl w8.heap.size w8).alloc (Nat.le_refl _) (.cells #[.int .i32 ty, .slice Bo ys.length co] 69)
    have hbk := Go.Deep.blk_alloc_new w8 (.cells #[.int .i32 ty, .slice Bo ys.length co] 69)
    have HBX := Lib.hid hbx
    have HBKX := Lib.hid hbk
    clear hbx hbk
    go_upto_region 21 with (at_builtin; refine wpList_app_msg rfl _ _ rfl ms.length (.slice Am ms.length cm) (msCells ((ms.map Prod.fst).zip vs)) ty Bo ys.length co w8.heap.size 1 rfl rfl (row_of_block HROW.out fun k hk => HBX.out.block k (row_lt HROW.out hk).2) HBKX.out (by omega) ?_; intro gr cr w9 ho hgr hlie)
    have hKd := BytesIn.of_own HO8.out
    have hms9 : MsAt (fun k => K k ∨ w6.heap.size + 1 ≤ k ∧ k < w9.heap.size ∨ k = gr) w9 (.slice (some ⟨gr, 0, none⟩) (ms.length + 1) cr) (ms ++ [(ty, ys)]) := MsAt.more HVS.out H4.out HBX.out (fun k hk => by have := (HK6.out k hk).2; omega) ((hKd.lt.below HBX.out).mono fun k hk _ => ⟨by have h := hk.1; simpa using h, Nat.lt_of_lt_of_le hk.2 (Nat.le_trans HBX.out.size hgr.size)⟩) (fun k hk e => by have := HRB.out k e; omega) ho hgr hlie
    have hg9 : ∀ k, k < w8.heap.size → (Value.slice Am ms.length cm).ownBlock ≠ some k → w9.heap[k]? = w8.heap[k]? := fun k hk hn => (hgr.block k (Nat.lt_of_lt_of_le hk HBX.out.size) fun e => hn e.symm).trans (HBX.out.block k hk)
    have HMS9 := Lib.hid hms9
    have hs9 := Nat.le_trans HBX.out.size hgr.size
    have hown : ∀ k, (Value.slice Am ms.length cm).ownBlock = some k → w.heap.size < k := fun k hk => (HK6.out k (H3.out k hk)).1
    have htw9 : Touch (One p) w w9 := ⟨hgr.os.trans (HBX.out.os.trans HT8.out.os), hgr.tape.trans (HBX.out.tape.trans HT8.out.tape), hgr.output.trans (HBX.out.output.trans HT8.out.output), by have := HT8.out.size; omega, fun k hk hn => (hg9 k (Nat.lt_of_lt_of_le hk HT8.out.size) fun e => by have := hown k e; omega).trans (HT8.out.block k hk hn)⟩
    have hpw : p < w.heap.size := HTA.out.1.lt
    have hrw := lt_of_cell HTW8.out.r0
    have HTW9 : Hid (Tw w9 p A cap i (j + 1 + (n + 7) / 8) T w.heap.size B Z) := Lib.hid ⟨HTW8.out.tp.of_block (hg9 p HTW8.out.tp.lt fun e => by have := hown p e; omega), ToldAt.one HTA.out.1 (by intro x e; cases e) htw9 HTA.out.2.1 HTA.out.2.2, (World.cell?_of_block (a := ⟨w.heap.size, 0, none⟩) (hg9 w.heap.size hrw fun e => by have := hown _ e; omega)).trans HTW8.out.r0, (World.cell?_of_block (a := ⟨w.heap.size, 1, none⟩) (hg9 w.heap.size hrw fun e => by have := hown _ e; omega)).trans HTW8.out.r1, HTW8.out.ne, HTW8.out.far, HTW8.out.cap0, HTW8.out.cap1, HTW8.out.le⟩
    have HT9 := Lib.hid htw9
    have HK9 : Hid (∀ k, (K k ∨ w6.heap.size + 1 ≤ k ∧ k < w9.heap.size ∨ k = gr) → w.heap.size < k ∧ k < w9.heap.size) := Lib.hid fun k hk => by
      have hgr9 : gr < w9.heap.size := row_lt ho (k := gr) rfl |>.2
      have := HT8.out.size
      have := HBX.out.size
      rcases hk with hk | hk | hk
      · have := HK6.out k hk; omega
      · have := HT6.out.size; omega
      · subst hk
        rcases hlie with e | e
        · exact ⟨hown _ e.symm, hgr9⟩
        · injection e with e; omega
    clear ho hgr hlie hms9 hg9 hown htw9 hKd
    go_wp2
    go_roundw
    case rel => exact ⟨ms ++ [(ty, ys)], done + sz, j + 1 + (n + 7) / 8, _, rfl, by go_num, rfl, HTW9.out, HT9.out, HMS9.out, HK9.out, by rw [List.length_append]; simp; omega, by rw [List.length_append]; simp; omega, by omega, HN.out⟩
    case measure => simp [intOf]; omega
end Go.Proofs.YtikcnioooihncaaGreat
namespace Go.Proofs.YtikcnioooihncaaGreat
open Go.RowKit

set_option linter.unusedSimpArgs false in
set_option maxRecDepth 100000 in
set_option maxHeartbeats 2000000 in
theorem mgs_same {w : World} {K1 K2 : Nat → Prop} {va vb : Value} {ms : List (Int × List Int)} (ha : MgsAt K1 w va ms) (hb : MgsAt K2 w vb ms) :
    Calls Tryz.prog 34 #[va, vb] w (TrueBelow w) := by
  obtain ⟨A1, c1, rfl, ha1, ha2, ha3⟩ := ha
  obtain ⟨A2, c2, rfl, hb1, hb2, hb3⟩ := hb
  have HA := Lib.hid ha3
  have HB := Lib.hid hb3
  clear ha3 hb3
  go_enter Tryz.func34, Tryz.ntmps34
  go_wp2_with fail
  go_loopw [13] (fun t wr => ∃ i : Nat, t = .int .i64 i ∧ i ≤ ms.length ∧ Below w.heap.size w wr) (fun t _ => ms.length - (intOf t).toNat)
  case atStart => exact ⟨0, rfl, Nat.zero_le _, Below.refl _ _⟩
  case round =>
    obtain ⟨i, rfl, hi, hbw⟩ := hrel
    have HBW := Lib.hid hbw
    have hsz := hbw.size
    by_cases hlt : i < ms.length
    · obtain ⟨b1, rfl, _, hl1, hc1⟩ := HA.out (by omega)
      obtain ⟨b2, rfl, _, hl2, hc2⟩ := HB.out (by omega)
      obtain ⟨d1, x0, x1, xd⟩ := hc1 i ms[i] (List.getElem?_eq_getElem hlt)
      obtain ⟨d2, y0, y1, yd⟩ := hc2 i ms[i] (List.getElem?_eq_getElem hlt)
      have k0 := (hbw.cell (p := ⟨b1, i * 2, none⟩) hl1).trans x0
      have k1 := (hbw.cell (p := ⟨b1, i * 2 + 1, none⟩) hl1).trans x1
      have k2 := (hbw.cell (p := ⟨b2, i * 2, none⟩) hl2).trans y0
      have k3 := (hbw.cell (p := ⟨b2, i * 2 + 1, none⟩) hl2).trans y1
      have hv1 := (((xd.bytes.below hbw).below (Below.refl wr.heap.size wr).drew)).conv
      have hv2 := (((yd.bytes.below hbw).below (Below.refl wr.heap.size wr).drew)).conv
      generalize ms[i] = t at k0 k1 k2 k3 hv1 hv2
      obtain ⟨ty, ys⟩ := t
      replace hv1 : (convert 23 9 d1).run Tryz.prog wr.drew = .ok (.string (strOfNums ys)) wr.drew := hv1
      replace hv2 : (convert 23 9 d2).run Tryz.prog wr.drew = .ok (.string (strOfNums ys)) wr.drew := hv2
      replace k0 : wr.cell? ⟨b1, i * 2, none⟩ = some (.int .i32 ty) := k0
      replace k2 : wr.cell? ⟨b2, i * 2, none⟩ = some (.int .i32 ty) := k2
      generalize strOfNums ys = str at hv1 hv2
      clear x0 x1 xd y0 y1 yd hc1 hc2 hbw
      go_upto_region 6 with (fail)
      go_region_held3 (fun w' => w'.cell? ⟨b1, i * 2, none⟩ = some (.int .i32 ty) ∧ w'.cell? ⟨b1, i * 2 + 1, none⟩ = some d1 ∧ w'.cell? ⟨b2, i * 2, none⟩ = some (.int .i32 ty) ∧ w'.cell? ⟨b2, i * 2 + 1, none⟩ = some d2 ∧ (convert 23 9 d1).run Tryz.prog w' = .ok (.string str) w' ∧ (convert 23 9 d2).run Tryz.prog w' = .ok (.string str) w') (go_keep) (fail)
      go_wp2
      exact ⟨⟨i + 1, by go_num, by omega, HBW.out.trans ((Below.refl wr.heap.size wr).drew.mono hsz)⟩, by simp only [intOf]; omega⟩
    · obtain rfl : i = ms.length := by omega
      go_wp2
      go_ret
      exact ⟨rfl, HBW.out⟩
end Go.Proofs.YtikcnioooihncaaGreat
namespace Go.Proofs.YtikcnioooihncaaGreat
open Go.RowKit

set_option linter.unusedSimpArgs false in
set_option maxRecDepth 100000 in
set_option maxHeartbeats 4000000 in
theorem msgsCopy {K : Nat → Prop} {w : World} {v : Value} {ms : List (Int × List Int)} (h : MgsAt K w v ms) (hlong : ms.length ≤ 1000000) (hbytes : ∀ t ∈ ms, t.2.length ≤ 1073741824) :
    Calls Tryz.prog 31 #[v] w (MsgsTold ms w) := by
  obtain ⟨A, c, rfl, hlc, hcm, hcells⟩ := h
  have HTB := Lib.hid hbytes
  clear hbytes
  have hHW := (Below.refl w.heap.size w).alloc (Nat.le_refl _) (.cells (madeCells #[.int .i32 0, .slice none 0 0] (ms.length * 2)) 69)
  have HM := Lib.hid (And.intro hHW (made_mgs w ms.length))
  have hmk := make_mgs ms.length (by omega)
  have HC := Lib.hid hcells
  clear hHW hcells
  go_enter Tryz.func31, Tryz.ntmps31
  go_wp2
  generalize w.alloc (.cells (madeCells #[.int .i32 0, .slice none 0 0] (ms.length * 2)) 69) = W at HM ⊢
  clear hmk
  go_loopw [11] (fun t wr => ∃ (i : Nat) (qs : List Mx), t = .int .i64 i ∧ i ≤ ms.length ∧ qs.length = i ∧ qs.map Prod.fst = ms.take i ∧ Below w.heap.size w wr ∧ wr.rowIs w.heap.size 69 (ms.length * 2) (mrowF qs) ∧ ∀ q ∈ qs, BytesIn (fun k => w.heap.size < k) wr q.2 q.1.2) (fun t _ => ms.length - (intOf t).toNat)
  case atStart => exact ⟨0, [], rfl, Nat.zero_le _, rfl, by simp, HM.out.1, HM.out.2, fun _ h => by cases h⟩
  case round =>
    obtain ⟨i, qs, rfl, hi, hq, hqe, hbw, hri, htx⟩ := hrel
    have HQ := Lib.hid (And.intro hq hqe)
    have HBW := Lib.hid hbw
    have HRI := Lib.hid (And.intro hri htx)
    have hsz := hbw.size
    have hBl := hri.lt
    clear hq hqe hri htx hbw
    by_cases hlt : i < ms.length
    · obtain ⟨b, rfl, _, hbl, hcc⟩ := HC.out (by omega)
      obtain ⟨d, x0, x1, xd⟩ := hcc i ms[i] (List.getElem?_eq_getElem hlt)
      have HT : Hid (ms[i]? = some ms[i]) := Lib.hid (List.getElem?_eq_getElem hlt)
      have hly := HTB.out ms[i] (List.getElem_mem hlt)
      generalize ms[i] = t at x0 x1 xd HT hly
      obtain ⟨ty, ys⟩ := t
      obtain ⟨Ad, cd, e1⟩ := xd.length
      have e1' : d = .slice Ad ys.length cd := e1
      subst e1'
      have c0 : wr.cell? ⟨b, i * 2, none⟩ = some (.int .i32 ty) := (HBW.out.cell (p := ⟨b, i * 2, none⟩) hbl).trans x0
      have c1 : wr.cell? ⟨b, i * 2 + 1, none⟩ = some (.slice Ad ys.length cd) := (HBW.out.cell (p := ⟨b, i * 2 + 1, none⟩) hbl).trans x1
      have HXD := Lib.hid (xd.bytes.below HBW.out)
      clear x0 x1 xd hcc e1
      have hb1 := (Below.refl wr.heap.size wr).alloc (Nat.le_refl _) (.cells #[.int .i32 ty, .slice Ad ys.length cd] 69)
      have hbx := Go.Deep.blk_alloc_new wr (.cells #[.int .i32 ty, .slice Ad ys.length cd] 69)
      have HB1 := Lib.hid hb1
      have HBX := Lib.hid hbx
      have hsz1 : wr.heap.size < (wr.alloc (.cells #[.int .i32 ty, .slice Ad ys.length cd] 69)).heap.size := by simp
      clear hb1 hbx
      go_upto_region 5 with (fail)
      generalize wr.alloc (.cells #[.int .i32 ty, .slice Ad ys.length cd] 69) = w1 at HB1 HBX hsz1 ⊢
      have s0 : w1.cell? ⟨wr.heap.size, 0, none⟩ = some (.int .i32 ty) := by simp [World.cell?, HBX.out]
      have s1 : w1.cell? ⟨wr.heap.size, 1, none⟩ = some (.slice Ad ys.length cd) := by simp [World.cell?, HBX.out]
      have HR1 := Lib.hid (HRI.out.1.of_block (HB1.out.block w.heap.size hBl))
      have r0 := HR1.out.cell (i := i * 2) (by omega)
      have f0 := HR1.out.frozen (i * 2)
      have r1 := HR1.out.cell (i := i * 2 + 1) (by omega)
      have f1 := HR1.out.frozen (i * 2 + 1)
      have hfar : w.heap.size ≠ wr.heap.size := by omega
      clear c0 c1
      go_region_held3 (fun w' => w'.cell? ⟨wr.heap.size, 0, none⟩ = some (.int .i32 ty) ∧ w'.cell? ⟨wr.heap.size, 1, none⟩ = some (.slice Ad ys.length cd)) (first | go_keep | exact ⟨(World.cell?_setCell_far _ _ _ _ hfar).trans ((World.cell?_setCell_far _ _ _ _ hfar).trans q0), (World.cell?_setCell_far _ _ _ _ hfar).trans ((World.cell?_setCell_far _ _ _ _ hfar).trans q1)⟩)
        (first | (go_at_call 46; refine (clone_sl Ad ys.length cd ys _ ((HXD.out.below HB1.out).below (Below.refl _ _).drew) hly).mono ?_; rintro e w2 ⟨B1, m1, rfl, ho1, hbl1⟩; have HR2 := Lib.hid (HR1.out.of_block ((below_drew hbl1).block w.heap.size HR1.out.lt)); have p0 := HR2.out.cell (i := i * 2) (by omega); have p1 := HR2.out.frozen (i * 2); have p2 := HR2.out.cell (i := i * 2 + 1) (by omega); have p3 := HR2.out.frozen (i * 2 + 1); have q0 := (below_drew hbl1).cell (p := ⟨wr.heap.size, 0, none⟩) hsz1 |>.trans s0; have q1 := (below_drew hbl1).cell (p := ⟨wr.heap.size, 1, none⟩) hsz1 |>.trans s1))
      have hb12 := HB1.out.trans ((below_drew hbl1).mono HB1.out.size)
      have hb2 := HBW.out.trans (hb12.mono hsz)
      have hs12 := hb12.size
      have HO := Lib.hid ho1
      have hqn := HQ.out.1
      go_wp2
      refine ⟨⟨i + 1, qs ++ [((ty, ys), .slice B1 ys.length m1)], by go_num, by omega, by rw [List.length_append, hqn]; rfl, ?_, below_setCells (Nat.le_refl _) [.int .i32 ty, .slice B1 ys.length m1] (i * 2) w2 hb2, ?_, fun q hqm => ?_⟩, by simp only [intOf]; omega⟩
      · rw [mg_take HT.out, List.map_append, HQ.out.2]; rfl
      · have hz := rowIs_setCells [.int .i32 ty, .slice B1 ys.length m1] (i * 2) w2 _ HR2.out
        rw [← hqn] at hz ⊢
        exact hz.congr fun j _ => (mrowF_next qs ty ys (.slice B1 ys.length m1) j).symm
      · have hin : BytesIn (fun k => w.heap.size < k) w2 q.2 q.1.2 := by
          rcases List.mem_append.1 hqm with hm | hm
          · exact (HRI.out.2 q hm).below hb12
          · obtain rfl : q = ((ty, ys), .slice B1 ys.length m1) := by simpa using hm
            exact (BytesIn.of_own HO.out).mono fun k hk _ => by have hk2 : w1.heap.size ≤ k := (by simpa using hk); omega
        exact hin.keep (w' := w2.setCells w.heap.size (i * 2) [.int .i32 ty, .slice B1 ys.length m1]) (Nat.le_of_eq (mgSet_size _ _ _ _).symm) fun k hk _ => mgSet_far _ _ _ _ (by omega)
    · obtain rfl : i = ms.length := by omega
      go_wp2
      go_ret
      refine ⟨_, rfl, ?_, HBW.out⟩
      refine ⟨_, _, rfl, Nat.le_refl _, by omega, fun hp => ⟨_, rfl, Nat.le_refl _, hBl, fun j t hj => ?_⟩⟩
      have hj2 : j < ms.length := (List.getElem?_eq_some_iff.1 hj).1
      have hq1 := HQ.out.1
      have hqj : qs[j]? = some qs[j] := List.getElem?_eq_getElem (by omega)
      have hft : qs[j].1 = t := by
        have h2 := congrArg (fun l => l[j]?) HQ.out.2
        simp only [List.getElem?_map, hqj, List.take_of_length_le (Nat.le_refl _), hj, Option.map_some, Option.some.injEq] at h2
        exact h2
      have hx := msCells_at (qs.map fun q => (q.1.1, q.2)) j (qs[j].1.1, qs[j].2) (by rw [List.getElem?_map, hqj]; rfl)
      refine ⟨qs[j].2, ?_, ?_, ?_⟩
      · rw [HRI.out.1.cell (i := j * 2) (by omega)]
        unfold mrowF mxCells
        rw [List.getD_eq_getElem?_getD, hx.1, ← hft]
        rfl
      · rw [HRI.out.1.cell (i := j * 2 + 1) (by omega)]
        unfold mrowF mxCells
        rw [List.getD_eq_getElem?_getD, hx.2]
        rfl
      · have := HRI.out.2 qs[j] (List.getElem_mem (by omega))
        rw [hft] at this
        exact this.mono fun k hk _ => Nat.le_of_lt hk

set_option maxRecDepth 100000 in
set_option maxHeartbeats 800000 in
theorem getMessages {w : World} {F : Nat → Prop} {g : Nat} {m : Gm} (h : GmAt w F g m) (hbytes : ∀ t ∈ m.told, t.2.length ≤ 1073741824) :
    Calls Tryz.prog 12 #[.pointer (some ⟨g, 0, none⟩)] w (MsgsTold m.told w) := by
  obtain ⟨mv, K, hc, hm, hl⟩ : ∃ (mv : Value) (K : Nat → Prop), w.cell? ⟨g, 12, none⟩ = some mv ∧ MgsAt K w mv m.told ∧ m.told.length ≤ 1000000 := by
    cases m with
    | live s =>
      obtain ⟨M, a, av, th, mv, h1, _, h3, _, _, h6, _⟩ := h
      refine ⟨mv, M, h1.c12, h6.read, ?_⟩
      have e1 := h3.few
      have e2 := h3.dn0
      have e3 := h3.rg.z1
      have e4 := h3.rg.place_in s.h
      show s.ms.length ≤ _
      omega
    | dead => exact ⟨_, fun _ => False, h.2.c12, MgsAt.none _ _, Nat.zero_le _⟩
  have HC := Lib.hid (msgsCopy hm hl hbytes)
  clear h hm hl hbytes
  go_enter Tryz.func12, Tryz.ntmps12
  go_wp2_with fail
  refine HC.out.mono ?_
  rintro e w2 ⟨v, rfl, hv⟩
  have HV := Lib.hid hv
  clear hv
  go_wp2
  go_ret
  exact ⟨v, rfl, HV.out⟩

set_option maxRecDepth 100000 in
theorem getMessagesNil (w : World) : Calls Tryz.prog 12 #[.pointer none] w (fun e w' => e = .returned (.slice none 0 0) ∧ w = w') := by
  go_enter Tryz.func12, Tryz.ntmps12
  go_wp2
  go_ret
  exact ⟨rfl, rfl⟩
end Go.Proofs.YtikcnioooihncaaGreat
namespace Go.Proofs.YtikcnioooihncaaGreat
open Go.RowKit

set_option maxRecDepth 100000 in
set_option maxHeartbeats 1000000 in
theorem same_any (K P N : Int) (V U : Int) (A B : Option Addr) (L M cp cq : Nat) (xs : List Int) (w : World) (ha : BytesAt w (.slice A L cp) xs) (hb : BytesAt w (.slice B M cq) xs) :
    Calls Tryz.prog 33 #[.agg #[.int .i64 K, .int .i64 P, .int .i64 N, .int .u64 V, .int .u64 U, .slice A L cp], .agg #[.int .i64 K, .int .i64 P, .int .i64 N, .int .u64 V, .int .u64 U, .slice B M cq]] w (TrueBelow w) := by
  have HW := ((Below.refl w.heap.size w).alloc (Nat.le_refl _) (.cells #[.int .i64 K, .int .i64 P, .int .i64 N, .int .u64 V, .int .u64 U, .slice A L cp] 30)).alloc (by simp) (.cells #[.int .i64 K, .int .i64 P, .int .i64 N, .int .u64 V, .int .u64 U, .slice B M cq] 30)
  have h1 := (ha.below HW).conv
  have h2 := (hb.below HW).conv
  go_enter Tryz.func33, Tryz.ntmps33
  go_wp2
  go_ret
  exact ⟨rfl, HW⟩
end Go.Proofs.YtikcnioooihncaaGreat
namespace Go.Proofs.YtikcnioooihncaaGreat
open Go.RowKit

theorem cat_len {T : Nat → Ans} {c : Nat} : ∀ n, (∀ k, k < n → (T k).bs.length ≤ c) → (cat T n).length ≤ n * c := by
  intro n
  induction n with
  | zero => intro _; exact Nat.zero_le _
  | succ n ih =>
    intro h
    have h1 := ih fun k hk => h k (by omega)
    have h2 := h n (by omega)
    show (cat T n ++ (T n).bs).length ≤ _
    rw [List.length_append, Nat.succ_mul]
    omega

set_option maxRecDepth 100000 in
set_option maxHeartbeats 1000000 in
theorem refGet_dead (B Z most : Int) (hB : -9223372036854775808 ≤ B ∧ B ≤ 9223372036854775807) (hZ : -9223372036854775808 ≤ Z ∧ Z ≤ 9223372036854775807) (hbad : ¬ (Rg.right B Z ∧ 1 ≤ most)) (p cap i : Nat) (A : Option Addr) (w : World) (ht : TpOpen w p A cap i 0) (T : Nat → Ans) :
    Calls Tryz.prog 32 #[.pointer (some ⟨p, 0, none⟩), .agg #[.int .i64 B, .int .i64 Z], .int .i64 most] w (GetSays p A cap i ((Gm.new B Z most).at T i) w) := by
  have hb0 := un_below w (.int .i64 B) (.int .i64 Z) 38
  obtain ⟨r0, r1⟩ := rg_box w B Z
  have HBZ := Lib.hid (And.intro hB hZ)
  have HM : Hid ((Gm.new B Z most).at T i = .dead) := Lib.hid (Gm.at_dead (by unfold Gm.new; rw [if_neg hbad]) i)
  have HTP := Lib.hid (ht.below hb0)
  obtain ⟨mi, hmi⟩ : ∃ mi, mi = (Gm.new B Z most).at T i := ⟨_, rfl⟩
  rw [← hmi] at HM ⊢
  obtain ⟨rt, hrt⟩ : ∃ rt : Bool, rt = decide (Rg.right B Z) := ⟨_, rfl⟩
  have hcase : rt = false ∨ (rt = true ∧ most < 1) := by
    by_cases h : Rg.right B Z
    · exact .inr ⟨by rw [hrt]; exact decide_eq_true h, by have : ¬ 1 ≤ most := fun e => hbad ⟨h, e⟩; omega⟩
    · exact .inl (by rw [hrt]; exact decide_eq_false h)
  have HR := Lib.hid hrt
  clear hB hZ hbad ht hmi hrt
  rcases hcase with rfl | ⟨rfl, hm1⟩
  all_goals
    go_enter Tryz.func32, Tryz.ntmps32
    go_upto_region 1 with (fail)
    generalize w.alloc (.cells #[.int .i64 B, .int .i64 Z] 38) = W at hb0 HTP r0 r1 ⊢
    go_wp2_with (go_at_call 24; refine (refRight_any B Z HBZ.out.1 HBZ.out.2 W).mono ?_; rintro e w1 ⟨rfl, hb1⟩; rw [← HR.out])
    refine bodyPost_ret (v := .tuple #[.slice none 0 0, .int .i64 0, .int .i64 1]) (by simp [results, Tryz.results32, go_sem]) rfl ?_
    rw [HM.out]
    exact ⟨.slice none 0 0, rfl, MgsAt.none _ _, (Touch.of_below hb0).trans (Touch.of_below hb1), Ac.zero, none, 0, 0, 0, HTP.out.below hb1, BytesAt.nil _, rfl⟩

/-- The document's get, of whatever ring, on a tape that was told i answers. -/
theorem refGet_any (B Z most : Int) (hB : -9223372036854775808 ≤ B ∧ B ≤ 9223372036854775807) (hZ : -9223372036854775808 ≤ Z ∧ Z ≤ 9223372036854775807) (hmost : most ≤ 9223372036854775807) (p cap i : Nat) (A : Option Addr) (hi : i ≤ cap) (hcap : cap ≤ 9223372036854775807) (T : Nat → Ans) (hA : 0 < i → ∀ a, A = some a → a.block ≠ p) (w : World)
    (hT : ToldAt w A i T) (ht : TpOpen w p A cap i 0) (hcat : ∀ j, j ≤ i → (cat (fun k => T (j + k)) (i - j)).length ≤ 1073741824) :
    Calls Tryz.prog 32 #[.pointer (some ⟨p, 0, none⟩), .agg #[.int .i64 B, .int .i64 Z], .int .i64 most] w (GetSays p A cap i ((Gm.new B Z most).at T i) w) := by
  by_cases h1 : Rg.right B Z ∧ 1 ≤ most
  · have hb : ((B.toNat : Nat) : Int) = B := Int.toNat_of_nonneg h1.1.2.2.2.1
    have hz : ((Z.toNat : Nat) : Int) = Z := Int.toNat_of_nonneg (by have := h1.1.2.1; omega)
    have hm : Gm.new B Z most = .live ⟨B.toNat, Z.toNat, most, 0, 0, [], 0, .head⟩ := by unfold Gm.new; rw [if_pos h1]
    have := refGet_live B.toNat Z.toNat most ⟨h1.2, hmost⟩ (by rw [hb]; exact hB) (by rw [hz]; exact hZ) (by rw [hb, hz]; exact h1.1) p cap i A hi hcap T hA w hT ht hcat _ hm
    rw [hb, hz] at this
    exact this
  · exact refGet_dead B Z most hB hZ h1 p cap i A w ht T

theorem getNextU {w : World} {F : Nat → Prop} {g : Nat} {m : Gm} (h : GmAt w F g m) (hF : ∀ k, F k → k < w.heap.size) {a : Ac} (ha : a = m.next.getD Ac.zero) :
    Calls Tryz.prog 9 #[.pointer (some ⟨g, 0, none⟩)] w (fun e w' => ∃ A l c, e = .returned (.tuple #[.agg #[.int .i64 a.K, .int .i64 a.P, .int .i64 a.N, .int .u64 a.V, .int .u64 a.U, .slice A l c], .bool m.busy]) ∧ BytesAt w' (.slice A l c) a.bs ∧ Below w.heap.size w w') := by
  have hb : m.busy = m.next.isSome := by cases m <;> rfl
  refine (getNext h hF).mono ?_
  subst ha
  rw [hb]
  cases m.next with
  | none =>
    rintro e w' ⟨hb, rfl⟩
    exact ⟨none, 0, 0, rfl, BytesAt.nil _, hb⟩
  | some a =>
    rintro e w' ⟨hb, A, l, c, rfl, ho⟩
    exact ⟨A, l, c, rfl, ho.bytes, hb⟩

set_option linter.unusedSimpArgs false in
set_option maxRecDepth 100000 in
set_option maxHeartbeats 4000000 in
theorem same8_any (B Z most : Int) (hB : -9223372036854775808 ≤ B ∧ B ≤ 9223372036854775807) (hZ : -9223372036854775808 ≤ Z ∧ Z ≤ 9223372036854775807) (hmost : most ≤ 9223372036854775807)
    (cap i : Nat) (A : Option Addr) (hi : i ≤ cap) (hcap : cap ≤ 9223372036854775807) (T : Nat → Ans) (w : World) (hT : ToldAt w A i T) (hfew : i * 100 ≤ 1073741824) (hlen : ∀ j, j < i → (T j).bs.length ≤ 100) {F : Nat → Prop} {g : Nat} (hp : GmAt w F g ((Gm.new B Z most).at T i)) (hF : ∀ k, F k → k < w.heap.size) :
    Calls Tryz.prog 13 #[.pointer (some ⟨g, 0, none⟩), .slice A i cap, .agg #[.int .i64 B, .int .i64 Z], .int .i64 most] w (TrueBelow w) := by
  have htold := ((Gm.at_few (Gm.new_few B Z most) i hlen).told hfew)
  obtain ⟨m, hm⟩ : ∃ m : Gm, m = (Gm.new B Z most).at T i := ⟨_, rfl⟩
  rw [← hm] at hp htold
  obtain ⟨W, hW⟩ : ∃ W, W = (w.alloc (.cells #[.int .i64 B, .int .i64 Z] 38)).alloc (.cells #[.slice A i cap, .int .i64 0, .int .i64 0, .int .i64 0, .int .i64 0, .int .u64 0, .int .u64 0, .slice none 0 0, .bool false] 77) := ⟨_, rfl⟩
  have hbW : Below w.heap.size w W := by rw [hW]; exact (un_below w (.int .i64 B) (.int .i64 Z) 38).alloc (un_below w (.int .i64 B) (.int .i64 Z) 38).size _
  have htp : Tp W (w.heap.size + 1) A cap i 0 0 0 0 0 0 (.slice none 0 0) false := ⟨by
    rw [hW]
    have := Go.Deep.blk_alloc_new (w.alloc (.cells #[.int .i64 B, .int .i64 Z] 38)) (.cells #[.slice A i cap, .int .i64 0, .int .i64 0, .int .i64 0, .int .i64 0, .int .u64 0, .int .u64 0, .slice none 0 0, .bool false] 77)
    rw [show (w.alloc (.cells #[.int .i64 B, .int .i64 Z] 38)).heap.size = w.heap.size + 1 by simp] at this
    exact this⟩
  have hA : 0 < i → ∀ a, A = some a → a.block ≠ w.heap.size + 1 := fun h0 a ha e => by
    obtain ⟨b, off, e2, hlt, _⟩ := hT h0
    rw [ha] at e2
    injection e2 with e2
    rw [e2] at e
    simp only at e
    omega
  have hcat : ∀ j, j ≤ i → (cat (fun k => T (j + k)) (i - j)).length ≤ 1073741824 := fun j hj => by
    have h1 := cat_len (T := fun k => T (j + k)) (c := 100) (i - j) fun k hk => hlen (j + k) (by omega)
    have h2 : (i - j) * 100 ≤ i * 100 := Nat.mul_le_mul_right _ (by omega)
    omega
  have HGET := Lib.hid (refGet_any B Z most hB hZ hmost (w.heap.size + 1) cap i A hi hcap T hA W (hT.below hbW) htp hcat)
  rw [← hm] at HGET
  have HPW := Lib.hid (hp.keep hbW.size fun k hk => hbW.block k (hF k hk))
  have HFW := Lib.hid hF
  have HBW := Lib.hid hbW
  have HTB := Lib.hid htold
  clear hB hZ hi hcap hT hp hF hbW htp hA hm hcat hlen hfew htold hmost
  go_enter Tryz.func13, Tryz.ntmps13
  go_wp2_with fail
  rw [← hW]
  clear hW
  refine HGET.out.mono ?_
  rintro e w3 ⟨vr, rfl, hvr, hto, a, Bs, ls, cs, j, htq, hbq, ha⟩
  have hlow : Below w.heap.size w w3 := hto.below HBW.out HBW.out.size fun k hk => by have e : k = w.heap.size + 1 := hk; omega
  have HL3 := Lib.hid hlow
  have HP3 := Lib.hid (HPW.out.keep hto.size fun k hk => hto.block k (Nat.lt_of_lt_of_le (HFW.out k hk) HBW.out.size) fun e => by have := HFW.out k hk; have e : k = w.heap.size + 1 := e; omega)
  have HQ := Lib.hid (And.intro htq hbq)
  have HAA := Lib.hid ha
  have HVR := Lib.hid hvr
  obtain ⟨Ar, cr, hvre, _⟩ := hvr
  subst hvre
  clear hto hlow htq hbq ha HGET HPW
  obtain ⟨r1, hr1⟩ : ∃ r, r = m.result.1 := ⟨_, rfl⟩
  obtain ⟨r2, hr2⟩ : ∃ r, r = m.result.2 := ⟨_, rfl⟩
  rw [← hr1, ← hr2]
  have HRR := Lib.hid (And.intro hr1 hr2)
  clear hr1 hr2
  go_wp2_with fail
  refine (getNextU HP3.out (fun k hk => Nat.lt_of_lt_of_le (HFW.out k hk) HL3.out.size) HAA.out).mono ?_
  rintro e w4 ⟨An, ln, cn, rfl, hbn, hb4⟩
  have HN4 := Lib.hid hbn
  have HB4 := Lib.hid hb4
  clear hbn hb4
  go_wp2_with fail
  have hx5 := Go.Deep.blk_alloc_new w4 (.cells #[.int .i64 a.K, .int .i64 a.P, .int .i64 a.N, .int .u64 a.V, .int .u64 a.U, .slice An ln cn] 30)
  have hb5 := (Below.refl w4.heap.size w4).alloc (Nat.le_refl _) (.cells #[.int .i64 a.K, .int .i64 a.P, .int .i64 a.N, .int .u64 a.V, .int .u64 a.U, .slice An ln cn] 30)
  have hs5 : w4.heap.size < (w4.alloc (.cells #[.int .i64 a.K, .int .i64 a.P, .int .i64 a.N, .int .u64 a.V, .int .u64 a.U, .slice An ln cn] 30)).heap.size := by simp
  generalize w4.alloc (.cells #[.int .i64 a.K, .int .i64 a.P, .int .i64 a.N, .int .u64 a.V, .int .u64 a.U, .slice An ln cn] 30) = w8 at hx5 hb5 hs5 ⊢
  have hb35 := HB4.out.trans (hb5.mono HB4.out.size)
  have HP5 := Lib.hid (HP3.out.keep hb35.size fun k hk => hb35.block k (Nat.lt_of_lt_of_le (HFW.out k hk) HL3.out.size))
  refine (getResult HP5.out).mono ?_
  rintro e w9 ⟨rfl, jr, hw9⟩
  have hb9 : Below w8.heap.size w8 w9 := by rw [hw9]; exact below_drewN (Below.refl _ _) jr
  clear hw9
  rw [← HRR.out.1, ← HRR.out.2]
  have hb59 := hb5.trans (hb9.mono hb5.size)
  have hb39 := HB4.out.trans (hb59.mono HB4.out.size)
  have hFw9 : ∀ k, F k → k < w9.heap.size := fun k hk => Nat.lt_of_lt_of_le (HFW.out k hk) (Nat.le_trans HL3.out.size hb39.size)
  have HF9 := Lib.hid hFw9
  have HP9 := Lib.hid (HP3.out.keep hb39.size fun k hk => hb39.block k (Nat.lt_of_lt_of_le (HFW.out k hk) HL3.out.size))
  have htape := HQ.out.1.below hb39
  have HS1 := Lib.hid (HN4.out.below hb59)
  have HS2 := Lib.hid (HQ.out.2.below hb39)
  have HL7 := Lib.hid (HL3.out.trans (hb39.mono HL3.out.size))
  have HV9 := Lib.hid (HVR.out.below hb39)
  have hxb := (hb9.block _ hs5).trans hx5
  clear hx5 hb5 hb35 hb39 hb59 hb9 HP3 HQ HN4 HB4 HL3 hs5 hFw9 HP5 HVR
  have d0 : w9.cell? ⟨w4.heap.size, 0, none⟩ = some (.int .i64 a.K) := by simp [World.cell?, hxb]
  have d1 : w9.cell? ⟨w4.heap.size, 1, none⟩ = some (.int .i64 a.P) := by simp [World.cell?, hxb]
  have d2 : w9.cell? ⟨w4.heap.size, 2, none⟩ = some (.int .i64 a.N) := by simp [World.cell?, hxb]
  have d3 : w9.cell? ⟨w4.heap.size, 3, none⟩ = some (.int .u64 a.V) := by simp [World.cell?, hxb]
  have d4 : w9.cell? ⟨w4.heap.size, 4, none⟩ = some (.int .u64 a.U) := by simp [World.cell?, hxb]
  have d5 : w9.cell? ⟨w4.heap.size, 5, none⟩ = some (.slice An ln cn) := by simp [World.cell?, hxb]
  have t2 := htape.c2
  have t3 := htape.c3
  have t4 := htape.c4
  have t5 := htape.c5
  have t6 := htape.c6
  have t7 := htape.c7
  have t8 := htape.c8
  generalize m.busy = mb at *
  have HST : Hid (∀ w', Below w9.heap.size w9 w' → w'.cell? ⟨w.heap.size + 1, 8, none⟩ = some (.bool mb) ∧ w'.cell? ⟨w.heap.size + 1, 2, none⟩ = some (.int .i64 a.K) ∧ w'.cell? ⟨w.heap.size + 1, 3, none⟩ = some (.int .i64 a.P) ∧ w'.cell? ⟨w.heap.size + 1, 4, none⟩ = some (.int .i64 a.N) ∧ w'.cell? ⟨w.heap.size + 1, 5, none⟩ = some (.int .u64 (a.V : Int)) ∧ w'.cell? ⟨w.heap.size + 1, 6, none⟩ = some (.int .u64 (a.U : Int)) ∧ w'.cell? ⟨w.heap.size + 1, 7, none⟩ = some (.slice Bs ls cs) ∧ w'.cell? ⟨w4.heap.size, 0, none⟩ = some (.int .i64 a.K) ∧ w'.cell? ⟨w4.heap.size, 1, none⟩ = some (.int .i64 a.P) ∧ w'.cell? ⟨w4.heap.size, 2, none⟩ = some (.int .i64 a.N) ∧ w'.cell? ⟨w4.heap.size, 3, none⟩ = some (.int .u64 a.V) ∧ w'.cell? ⟨w4.heap.size, 4, none⟩ = some (.int .u64 a.U) ∧ w'.cell? ⟨w4.heap.size, 5, none⟩ = some (.slice An ln cn)) := Lib.hid fun w' hb => ⟨(hb.cell (p := ⟨w.heap.size + 1, 8, none⟩) (lt_of_cell t8)).trans t8, (hb.cell (p := ⟨w.heap.size + 1, 2, none⟩) (lt_of_cell t2)).trans t2, (hb.cell (p := ⟨w.heap.size + 1, 3, none⟩) (lt_of_cell t3)).trans t3, (hb.cell (p := ⟨w.heap.size + 1, 4, none⟩) (lt_of_cell t4)).trans t4, (hb.cell (p := ⟨w.heap.size + 1, 5, none⟩) (lt_of_cell t5)).trans t5, (hb.cell (p := ⟨w.heap.size + 1, 6, none⟩) (lt_of_cell t6)).trans t6, (hb.cell (p := ⟨w.heap.size + 1, 7, none⟩) (lt_of_cell t7)).trans t7, (hb.cell (p := ⟨w4.heap.size, 0, none⟩) (lt_of_cell d0)).trans d0, (hb.cell (p := ⟨w4.heap.size, 1, none⟩) (lt_of_cell d1)).trans d1, (hb.cell (p := ⟨w4.heap.size, 2, none⟩) (lt_of_cell d2)).trans d2, (hb.cell (p := ⟨w4.heap.size, 3, none⟩) (lt_of_cell d3)).trans d3, (hb.cell (p := ⟨w4.heap.size, 4, none⟩) (lt_of_cell d4)).trans d4, (hb.cell (p := ⟨w4.heap.size, 5, none⟩) (lt_of_cell d5)).trans d5⟩
  clear htape hxb HRR HAA
  go_wp2_with fail
  go_region_held3 (fun w' => w'.cell? ⟨w.heap.size + 1, 8, none⟩ = some (.bool mb) ∧ w'.cell? ⟨w.heap.size + 1, 2, none⟩ = some (.int .i64 a.K) ∧ w'.cell? ⟨w.heap.size + 1, 3, none⟩ = some (.int .i64 a.P) ∧ w'.cell? ⟨w.heap.size + 1, 4, none⟩ = some (.int .i64 a.N) ∧ w'.cell? ⟨w.heap.size + 1, 5, none⟩ = some (.int .u64 (a.V : Int)) ∧ w'.cell? ⟨w.heap.size + 1, 6, none⟩ = some (.int .u64 (a.U : Int)) ∧ w'.cell? ⟨w.heap.size + 1, 7, none⟩ = some (.slice Bs ls cs) ∧ w'.cell? ⟨w4.heap.size, 0, none⟩ = some (.int .i64 a.K) ∧ w'.cell? ⟨w4.heap.size, 1, none⟩ = some (.int .i64 a.P) ∧ w'.cell? ⟨w4.heap.size, 2, none⟩ = some (.int .i64 a.N) ∧ w'.cell? ⟨w4.heap.size, 3, none⟩ = some (.int .u64 a.V) ∧ w'.cell? ⟨w4.heap.size, 4, none⟩ = some (.int .u64 a.U) ∧ w'.cell? ⟨w4.heap.size, 5, none⟩ = some (.slice An ln cn)) (go_keep)
    (first
      | (go_at_call 33; refine (same_any a.K a.P a.N (a.V : Int) (a.U : Int) An Bs ln ls cn cs a.bs w9.drew (HS1.out.below (Below.refl w9.heap.size w9).drew) (HS2.out.below (Below.refl w9.heap.size w9).drew)).mono ?_; rintro e w10 ⟨rfl, hb10⟩; have hb10d := below_drew hb10; obtain ⟨k0, k1, k2, k3, k4, k5, k6, k7, k8, k9, k10, k11, k12⟩ := HST.out w10 hb10d)
      | (go_at_call 12; refine (getMessages (HP9.out.keep hb10d.size fun k hk => hb10d.block k (HF9.out k hk)) HTB.out).mono ?_; rintro e w11 ⟨vm, rfl, hvm, hb11⟩; have hb11d := hb10d.trans (hb11.mono hb10d.size); obtain ⟨q0, q1, q2, q3, q4, q5, q6, q7, q8, q9, q10, q11, q12⟩ := HST.out w11 hb11d; have HVM := Lib.hid hvm; clear hvm)
      | (go_at_call 34; refine (mgs_same HVM.out (HV9.out.below hb11d)).mono ?_; rintro e w12 ⟨rfl, hb12⟩; have hb12d := hb11d.trans (hb12.mono hb11d.size); obtain ⟨s0, s1, s2, s3, s4, s5, s6, s7, s8, s9, s10, s11, s12⟩ := HST.out w12 hb12d))
  all_goals
    have h9 := HL7.out.trans (hb12d.mono HL7.out.size)
    go_wp2
    go_ret
    exact ⟨rfl, h9⟩
end Go.Proofs.YtikcnioooihncaaGreat
namespace Go.Proofs.YtikcnioooihncaaGreat
open Go.RowKit

/-- Is there such an actor? -/
def hasB (na : Nat) (i : Int) : Bool := decide (0 ≤ i) && decide (i < (na : Int))
theorem hasB_yes {na : Nat} {i : Int} (h : hasB na i = true) : 0 ≤ i ∧ i < (na : Int) := by simpa [hasB] using h
theorem hasB_no {na : Nat} {i : Int} (h : hasB na i = false) : i < 0 ∨ (na : Int) ≤ i := by
  simp [hasB] at h
  omega


/-- Is there such an actor, and is it dead? -/
def St.deadB (st : St) (i : Int) : Bool := hasB st.na i && st.dead i.toNat

/-- Is there such an actor, and is it at its end? -/
def St.endB (st : St) (i : Int) : Bool := hasB st.na i && (st.ms i.toNat).next.isNone

end Go.Proofs.YtikcnioooihncaaGreat
namespace Go.Proofs.YtikcnioooihncaaGreat
open Go.RowKit

/-- The error of a pick, ahead of what its access may meet. -/
def St.chk (st : St) (p : Pk) : Int :=
  if p.K = 0 ∨ p.K = 1 then (if hasB st.na p.A = true then (if st.dead p.A.toNat = true then 11 else 0) else 2)
  else if p.K = 2 ∧ 0 ≤ p.N ∧ p.N ≤ 1099511627776 then 0 else 1

theorem cell_one {W : World} {b : Nat} {T : TypeId} {u0 u1 u2 : Value} (h : W.heap[b]? = some (.cells #[u0, u1, u2] T (0, 0))) : W.cell? ⟨b, 1, none⟩ = some u1 := by simp [World.cell?, h]

/-- What a step or a kill of an actor answers: it was killed, or not. -/
def deadErr (d : Bool) : Int := bif d then 11 else 0

end Go.Proofs.YtikcnioooihncaaGreat
namespace Go.Proofs.YtikcnioooihncaaGreat
open Go.RowKit

/-- The first i actors were told the clock c. -/
def St.ticks (st : St) (c : Int) (i : Nat) : St := { st with clock := c, ms := fun j => if j < i ∧ st.dead j = false then (st.ms j).tick c else st.ms j }

theorem St.ticks_zero (st : St) (c : Int) : { st with clock := c } = st.ticks c 0 := by
  unfold St.ticks
  congr 1

theorem St.ticks_dead (st : St) (c : Int) (i : Nat) (hd : st.dead i = true) : st.ticks c i = st.ticks c (i + 1) := by
  unfold St.ticks
  congr 1
  funext j
  by_cases e : j = i
  · subst e
    rw [if_neg (fun h => by omega), if_neg (fun h => by rw [hd] at h; cases h.2)]
  · by_cases h : j < i ∧ st.dead j = false
    · rw [if_pos h, if_pos ⟨by omega, h.2⟩]
    · rw [if_neg h, if_neg (fun h2 => h ⟨by omega, h2.2⟩)]

theorem St.ticks_next (st : St) (c : Int) (i : Nat) (hd : st.dead i = false) : { st.ticks c i with ms := upd (st.ticks c i).ms i (((st.ticks c i).ms i).tick c) } = st.ticks c (i + 1) := by
  have e : upd (st.ticks c i).ms i (((st.ticks c i).ms i).tick c) = (st.ticks c (i + 1)).ms := by
    funext j
    show upd (fun j => if j < i ∧ st.dead j = false then (st.ms j).tick c else st.ms j) i ((if i < i ∧ st.dead i = false then (st.ms i).tick c else st.ms i).tick c) j = if j < i + 1 ∧ st.dead j = false then (st.ms j).tick c else st.ms j
    by_cases e : j = i
    · subst e
      rw [upd_same, if_neg (fun h => by omega), if_pos ⟨by omega, hd⟩]
    · rw [upd_other _ _ _ e]
      by_cases h : j < i ∧ st.dead j = false
      · rw [if_pos h, if_pos ⟨by omega, h.2⟩]
      · rw [if_neg h, if_neg (fun h2 => h ⟨by omega, h2.2⟩)]
  rw [e]
  rfl

/-- What a call did, and what one behind it did. -/
theorem own_trans {o o1 o2 : Nat → Pt} {w w1 w2 : World} (ht : Touch (Own o) w w1) (ho : ∀ k, k < w.heap.size → o1 k = o k) (ht2 : Touch (Own o1) w1 w2) (ho2 : ∀ k, k < w1.heap.size → o2 k = o1 k) :
    Touch (Own o) w w2 ∧ ∀ k, k < w.heap.size → o2 k = o k :=
  ⟨⟨ht2.os.trans ht.os, ht2.tape.trans ht.tape, ht2.output.trans ht.output, Nat.le_trans ht.size ht2.size, fun k hk hn => (ht2.block k (Nat.lt_of_lt_of_le hk ht.size) (fun h => hn (by unfold Own at h ⊢; rw [ho k hk] at h; exact h))).trans (ht.block k hk hn)⟩,
    fun k hk => (ho2 k (Nat.lt_of_lt_of_le hk ht.size)).trans (ho k hk)⟩

theorem moved_cell {F : Nat → Prop} {x : Value} {s : Mc} {w w' : World} (h : Moved F x s w w') {p : Addr} (hp : p.block < w.heap.size) (hn : ¬ F p.block) : w'.cell? p = w.cell? p := by
  obtain ⟨_, _, ht, _⟩ := h
  exact ht.cell hp hn

theorem cell_box {W : World} {b : Nat} {T : TypeId} {u0 u1 : Value} (h : W.heap[b]? = some (.cells #[u0, u1] T (0, 0))) : W.cell? ⟨b, 0, none⟩ = some u0 := by simp [World.cell?, h]

end Go.Proofs.YtikcnioooihncaaGreat
