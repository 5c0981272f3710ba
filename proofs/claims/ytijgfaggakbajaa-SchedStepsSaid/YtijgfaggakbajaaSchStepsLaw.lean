/-
  The statement that each step does one access at most (layer 6), walked.
-/
import Derived.Test.YtijgfaggakbajaaSchFacts
import Derived.Test.YtijgfaggakbajaaSchOpen
import Derived.Test.YtijgfaggakbajaaMembufRest
namespace Go.Proofs.Ytijgfaggakbajaa
open Go.RowKit

theorem nxt_small {c : Int} (h0 : 0 ≤ c) (h1 : c ≤ 1000000) : nxt c = c + 1 := by
  unfold nxt wrap64
  omega

set_option maxRecDepth 100000 in
set_option maxHeartbeats 1000000 in
theorem schStepsLaw_out (w : World) (A : Option Addr) (n cap : Nat) (A2 : Option Addr) (M cap2 : Nat) (hn : n ≤ 9223372036854775807) (hM : M ≤ 9223372036854775807) (h : 6 < n ∨ 120 < M) :
    Calls Try.prog 4 #[.slice A n cap, .slice A2 M cap2] w (TrueBelow w) := by
  by_cases h1 : 6 < n
  · clear h
    go_enter Try.func4, Try.ntmps4
    go_wp2_with (go_at_call 7; refine (schedFixed_any w).mono ?_; rintro e w1 ⟨rfl, hq1⟩)
    go_ret
    exact ⟨rfl, hq1⟩
  · have h1' : n ≤ 6 := by omega
    have h2 : 120 < M := by omega
    clear h h1
    go_enter Try.func4, Try.ntmps4
    go_wp2_with (go_at_call 7; refine (schedFixed_any w).mono ?_; rintro e w1 ⟨rfl, hq1⟩)
    go_ret
    exact ⟨rfl, hq1⟩

set_option maxRecDepth 100000 in
set_option maxHeartbeats 4000000 in
theorem schStepsLaw_main (w : World) (A : Option Addr) (n cap : Nat) (js : Nat → Jb) (hj : JbsAt w A n js) (hcap : n ≤ cap) (hcap2 : cap ≤ 9223372036854775807) (A2 : Option Addr) (cap2 : Nat) (ps : List Pk) (hps : PksAt w A2 ps) (hc : ps.length ≤ cap2) (hc2 : cap2 ≤ 9223372036854775807)
    (hn : n ≤ 6) (hM : ps.length ≤ 120) :
    Calls Try.prog 4 #[.slice A n cap, .slice A2 ps.length cap2] w (TrueBelow w) := by
  have HJ := Lib.hid hj
  have HP := Lib.hid hps
  clear hj hps
  go_enter Try.func4, Try.ntmps4
  go_wp2_with (go_at_call 7; refine (schedFixed_any w).mono ?_; rintro e w1 ⟨rfl, hq1⟩)
  go_loopw [31] (fun t31 wr => ∃ k : Nat, t31 = .int .i64 k ∧ k ≤ n ∧ Below w.heap.size w wr ∧ ∀ j, j < k → (js j).L ≤ 60) (fun t31 _ => n - (intOf t31).toNat)
  case atStart => exact ⟨0, rfl, Nat.zero_le _, hq1, fun j hj => absurd hj (Nat.not_lt_zero _)⟩
  case round =>
    obtain ⟨k, rfl, hk, hbw, hall⟩ := hrel
    have HB := Lib.hid hbw
    have HALL := Lib.hid hall
    clear hbw hall
    by_cases hlt : k < n
    · obtain ⟨b, off, rfl, hbl, hcl⟩ := HJ.out (by omega)
      obtain ⟨c0, c1, c2, c3, his⟩ := hcl k hlt
      have kc := fun q => HB.out.cell (p := ⟨b, q, none⟩) hbl
      have c0 := (kc _).trans c0
      have c1 := (kc _).trans c1
      have c2 := (kc _).trans c2
      have c3 := (kc _).trans c3
      have hrm := his.room
      have hfw := his.few
      clear kc hcl his
      have hsz := HB.out.size
      by_cases hL : (js k).L ≤ 60
      · have HL := Lib.hid hL
        generalize hjq : js k = j at *
        have HJQ := Lib.hid hjq
        clear hjq
        go_wp2
        refine ⟨⟨k + 1, rfl, hlt, HB.out.alloc hsz _, fun j' hj' => ?_⟩, by simp only [intOf]; omega⟩
        by_cases e : j' = k
        · rw [e, HJQ.out]; exact HL.out
        · exact HALL.out j' (by omega)
      · generalize hjq : js k = j at *
        have HJQ := Lib.hid hjq
        clear hjq
        have hL' : 60 < j.L := by omega
        go_wp2
        go_ret
        exact ⟨rfl, HB.out.alloc hsz _⟩
    · obtain rfl : n = k := by omega
      have hsz := HB.out.size
      go_upto_region 12 with (go_at_call 8; refine (new_yes 256 32 _ (by decide) (by decide) (by decide) (by decide)).mono ?_; rintro e w2 ⟨g, h, rfl, B, hg, hh, hb2⟩)
      have lw2 := HB.out.trans (hb2.mono hsz)
      go_upto_region 13 with (go_at_call 9; refine (made_walk A n cap js (HJ.out.below lw2) hn hcap hcap2 HALL.out).mono ?_; rintro e w3 ⟨o3, A4, c4, A5, c5, xs, Bs, rfl, hmt⟩)
      go_upto_region 14 with (go_at_call 10; refine (start_new B (Nat.le_trans hsz hg) (Nat.le_trans hsz hh) lw2 hmt hn).mono ?_; rintro e w4 ⟨gw, ga, ax, o4, rfl, hst, _, _⟩)
      have hps4 := HP.out.keep hst.low.size fun a _ hl => hst.low.block _ hl
      have HST := Lib.hid hst
      clear hmt B lw2 hb2 hg hh hst hps4
      go_upto_region 14 with (fail)
      go_wp2_with fail
      go_loopw [54] (fun t54 wx => ∃ (i : Nat) (o : Nat → Pt) (st : St), t54 = .int .i64 i ∧ i ≤ ps.length ∧ Stood w wx o gw ga g h ax st ∧ st.tr.length ≤ i ∧ 0 ≤ st.c ∧ st.c ≤ i) (fun t54 _ => ps.length - (intOf t54).toNat)
      case atStart => exact ⟨0, o4, _, rfl, Nat.zero_le _, HST.out, Nat.le_refl _, Int.le_refl _, Int.le_refl _⟩
      case round =>
        obtain ⟨i, o, st, rfl, hi, hs, htr, hc0, hc1⟩ := hrel
        have HTR := Lib.hid (And.intro htr (And.intro hc0 hc1))
        clear htr hc0 hc1
        by_cases hlt : i < ps.length
        · obtain ⟨p, hp⟩ : ∃ p, ps[i]? = some p := ⟨_, List.getElem?_eq_getElem hlt⟩
          have hps4 := HP.out.keep hs.low.size fun a _ hl => hs.low.block _ hl
          obtain ⟨b, off, rfl, hbl, hcl⟩ := hps4 (by omega)
          obtain ⟨c0, c1, c2⟩ := hcl i p hp
          have hcnt := St.pick_count st p
          have hlen := St.act_len st p
          obtain ⟨pr, hpr⟩ : ∃ pr, st.pick p = pr := ⟨_, rfl⟩
          have hx1 := Go.Deep.blk_alloc_new wr (.cells #[.int .i64 p.K, .int .i64 p.A, .int .i64 p.N] 44)
          have hs1 := hs.alloc (.cells #[.int .i64 p.K, .int .i64 p.A, .int .i64 p.N] 44)
          obtain ⟨⟨tv, ts, hsw⟩, hlw, hot⟩ := hs1
          have hbn := hs.new_no (k := wr.heap.size) (Nat.le_refl _)
          clear hcl hps4
          have hcall := pick_any hsw p (by have := HTR.out.1; omega)
          rw [hpr] at hcnt hlen hcall
          obtain ⟨s2, r, v⟩ := pr
          have hu : (0 : Int) ≤ st.c ∧ st.c ≤ 1000000 := by have := HTR.out; omega
          have hnx := nxt_small hu.1 hu.2
          rw [hnx] at hcnt
          have HC := Lib.hid hcall
          have HLN := Lib.hid hlen
          have HSW := Lib.hid hsw
          have HS : Hid (Stood w _ o gw ga g h ax st) := Lib.hid ⟨⟨tv, ts, hsw⟩, hlw, hot⟩
          have HH := Lib.hid (And.intro hx1 hbn)
          clear hcall hlen hsw hlw hot hx1 hbn hpr hs hnx hp
          have hs1 := HS.out.low.size
          have hl1 : wr.heap.size < (wr.alloc (.cells #[.int .i64 p.K, .int .i64 p.A, .int .i64 p.N] 44)).heap.size := by simp
          go_upto_region 17 with (fail)
          generalize hW1 : wr.alloc (.cells #[.int .i64 p.K, .int .i64 p.A, .int .i64 p.N] 44) = W1 at HC HSW HS HH hs1 hl1 ⊢
          clear hW1
          have d0 : W1.cell? ⟨wr.heap.size, 0, none⟩ = some (.int .i64 p.K) := by simp [World.cell?, HH.out.1]
          have d1 : W1.cell? ⟨wr.heap.size, 1, none⟩ = some (.int .i64 p.A) := by simp [World.cell?, HH.out.1]
          have d2 : W1.cell? ⟨wr.heap.size, 2, none⟩ = some (.int .i64 p.N) := by simp [World.cell?, HH.out.1]
          generalize wr.heap.size = gB at HH hl1 d0 d1 d2 ⊢
          clear c0 c1 c2
          go_upto_region 18 with (go_at_call 22; refine (count_any HSW.out.buf).mono ?_; rintro e w8 ⟨rfl, rfl⟩)
          go_upto_region 19 with (go_at_call 20; refine (dead_any HSW.out p.A).mono ?_; rintro e w8 ⟨rfl, rfl⟩)
          go_upto_region 20 with (go_at_call 11; refine HC.out.mono ?_; rintro e w2 ⟨o2, A8, l8, c8, A9, l9, c9, tv2, ts2, rfl, _, _, hsw2, ht2, ho2⟩)
          have HS2 := Lib.hid ((Stood.after HS.out ht2 ⟨tv2, ts2, hsw2⟩ ho2).alloc (.cells #[.int .i64 v.pk.K, .int .i64 v.pk.A, .int .i64 v.pk.N, .int .i64 v.ac.K, .int .i64 v.ac.P, .int .i64 v.ac.N, .int .u64 v.ac.V, .int .u64 v.ac.U, .slice A8 l8 c8, .int .u64 v.an.V, .bool v.an.D, .slice A9 l9 c9] 51))
          have HSW2 := Lib.hid (hsw2.alloc (.cells #[.int .i64 v.pk.K, .int .i64 v.pk.A, .int .i64 v.pk.N, .int .i64 v.ac.K, .int .i64 v.ac.P, .int .i64 v.ac.N, .int .u64 v.ac.V, .int .u64 v.ac.U, .slice A8 l8 c8, .int .u64 v.an.V, .bool v.an.D, .slice A9 l9 c9] 51))
          have e0 := ((Below.refl w2.heap.size w2).alloc (Nat.le_refl _) (.cells #[.int .i64 v.pk.K, .int .i64 v.pk.A, .int .i64 v.pk.N, .int .i64 v.ac.K, .int .i64 v.ac.P, .int .i64 v.ac.N, .int .u64 v.ac.V, .int .u64 v.ac.U, .slice A8 l8 c8, .int .u64 v.an.V, .bool v.an.D, .slice A9 l9 c9] 51)).cell (p := ⟨gB, 0, none⟩) (Nat.lt_of_lt_of_le hl1 ht2.size) |>.trans ((nobody_cell ht2 (q := ⟨gB, 0, none⟩) hl1 HH.out.2).trans d0)
          clear hsw2 ht2 ho2 d0 d1 d2 HC HSW HS
          generalize w2.alloc (.cells #[.int .i64 v.pk.K, .int .i64 v.pk.A, .int .i64 v.pk.N, .int .i64 v.ac.K, .int .i64 v.ac.P, .int .i64 v.ac.N, .int .u64 v.ac.V, .int .u64 v.ac.U, .slice A8 l8 c8, .int .u64 v.an.V, .bool v.an.D, .slice A9 l9 c9] 51) = W3 at HS2 HSW2 e0 ⊢
          have hfin : s2.tr.length ≤ i + 1 := by have := HLN.out; have := HTR.out.1; omega
          have HF := Lib.hid hfin
          have hc0 := hu.1
          have hc1 := hu.2
          clear hfin HLN
          rcases hcnt with hcnt | ⟨hcnt, hK, hD, hr⟩
          · have HCN := Lib.hid (show s2.c = st.c from hcnt)
            clear hcnt
            go_wp2_with (go_at_call 22; refine (count_any HSW2.out.buf).mono ?_; rintro e w9 ⟨rfl, rfl⟩; rw [HCN.out])
            exact ⟨⟨i + 1, o2, s2, rfl, hlt, HS2.out, HF.out, by rw [HCN.out]; exact hc0, by have := HTR.out.2.2; rw [HCN.out]; omega⟩, by simp only [intOf]; omega⟩
          · have HCN := Lib.hid (show s2.c = st.c + 1 from hcnt)
            clear hcnt
            have hr : r = 0 := hr
            subst hr
            rw [hK] at e0
            rw [hD]
            clear hK hD
            go_wp2_with (go_at_call 22; refine (count_any HSW2.out.buf).mono ?_; rintro e w9 ⟨rfl, rfl⟩; rw [HCN.out])
            exact ⟨⟨i + 1, o2, s2, rfl, hlt, HS2.out, HF.out, by rw [HCN.out]; omega, by have := HTR.out.2.2; rw [HCN.out]; omega⟩, by simp only [intOf]; omega⟩
        · obtain rfl : i = ps.length := by omega
          have HS := Lib.hid hs
          clear hs
          go_wp2
          go_ret
          exact ⟨rfl, HS.out.low⟩

theorem schStepsLaw_all (w : World) (A : Option Addr) (n cap : Nat) (js : Nat → Jb) (hj : JbsAt w A n js) (hcap : n ≤ cap) (hcap2 : cap ≤ 9223372036854775807) (A2 : Option Addr) (cap2 : Nat) (ps : List Pk) (hps : PksAt w A2 ps) (hc : ps.length ≤ cap2) (hc2 : cap2 ≤ 9223372036854775807) :
    Calls Try.prog 4 #[.slice A n cap, .slice A2 ps.length cap2] w (TrueBelow w) := by
  by_cases h : 6 < n ∨ 120 < ps.length
  · exact schStepsLaw_out w A n cap A2 ps.length cap2 (by omega) (by omega) h
  · exact schStepsLaw_main w A n cap js hj hcap hcap2 A2 cap2 ps hps hc hc2 (by omega) (by omega)
end Go.Proofs.Ytijgfaggakbajaa
