/-
  The statement that one that is silenced does nothing any more (layer 6), walked.
-/
import Derived.Test.YtijgfaggakbajaaSchFacts
import Derived.Test.YtijgfaggakbajaaSchOpen
namespace Go.Proofs.Ytijgfaggakbajaa
open Go.RowKit

set_option maxRecDepth 100000 in
set_option maxHeartbeats 1000000 in
theorem silenceLaw_out (w : World) (A : Option Addr) (n cap : Nat) (A2 : Option Addr) (M cap2 : Nat) (i : Int) (hn : n ≤ 9223372036854775807) (hM : M ≤ 9223372036854775807) (h : 6 < n ∨ 120 < M) :
    Calls Try.prog 6 #[.slice A n cap, .slice A2 M cap2, .int .i64 i] w (TrueBelow w) := by
  by_cases h1 : 6 < n
  · clear h
    go_enter Try.func6, Try.ntmps6
    go_wp2_with (go_at_call 7; refine (schedFixed_any w).mono ?_; rintro e w1 ⟨rfl, hq1⟩)
    go_ret
    exact ⟨rfl, hq1⟩
  · have h1' : n ≤ 6 := by omega
    have h2 : 120 < M := by omega
    clear h h1
    go_enter Try.func6, Try.ntmps6
    go_wp2_with (go_at_call 7; refine (schedFixed_any w).mono ?_; rintro e w1 ⟨rfl, hq1⟩)
    go_ret
    exact ⟨rfl, hq1⟩

set_option maxRecDepth 100000 in
set_option maxHeartbeats 4000000 in
theorem silenceLaw_main (w : World) (A : Option Addr) (n cap : Nat) (js : Nat → Jb) (hj : JbsAt w A n js) (hcap : n ≤ cap) (hcap2 : cap ≤ 9223372036854775807) (A2 : Option Addr) (cap2 : Nat) (ps : List Pk) (hps : PksAt w A2 ps) (hc : ps.length ≤ cap2) (hc2 : cap2 ≤ 9223372036854775807) (i : Int)
    (hn : n ≤ 6) (hM : ps.length ≤ 120) :
    Calls Try.prog 6 #[.slice A n cap, .slice A2 ps.length cap2, .int .i64 i] w (TrueBelow w) := by
  have HJ := Lib.hid hj
  have HP := Lib.hid hps
  clear hj hps
  go_enter Try.func6, Try.ntmps6
  go_wp2_with (go_at_call 7; refine (schedFixed_any w).mono ?_; rintro e w1 ⟨rfl, hq1⟩)
  go_loopw [30] (fun t30 wr => ∃ k : Nat, t30 = .int .i64 k ∧ k ≤ n ∧ Below w.heap.size w wr ∧ ∀ j, j < k → (js j).L ≤ 60) (fun t30 _ => n - (intOf t30).toNat)
  case atStart => exact ⟨0, rfl, Nat.zero_le _, hq1, fun j hj => absurd hj (Nat.not_lt_zero _)⟩
  case round =>
    obtain ⟨k, rfl, hk, hbw, hall⟩ := hrel
    have HB := Lib.hid hbw
    have HALL := Lib.hid hall
    clear hbw hall
    by_cases hlt : k < n
    · obtain ⟨b, off, rfl, hbl, hcl⟩ := HJ.out (by omega)
      obtain ⟨c0, c1, c2, c3, his⟩ := hcl k hlt
      have kc := fun q => HB.out.cell (p := ⟨b, q, none⟩) hbl
      have c0 := (kc _).trans c0
      have c1 := (kc _).trans c1
      have c2 := (kc _).trans c2
      have c3 := (kc _).trans c3
      have hrm := his.room
      have hfw := his.few
      clear kc hcl his
      have hsz := HB.out.size
      by_cases hL : (js k).L ≤ 60
      · have HL := Lib.hid hL
        generalize hjq : js k = j at *
        have HJQ := Lib.hid hjq
        clear hjq
        go_wp2
        refine ⟨⟨k + 1, rfl, hlt, HB.out.alloc hsz _, fun j' hj' => ?_⟩, by simp only [intOf]; omega⟩
        by_cases e : j' = k
        · rw [e, HJQ.out]; exact HL.out
        · exact HALL.out j' (by omega)
      · generalize hjq : js k = j at *
        have HJQ := Lib.hid hjq
        clear hjq
        have hL' : 60 < j.L := by omega
        go_wp2
        go_ret
        exact ⟨rfl, HB.out.alloc hsz _⟩
    · obtain rfl : n = k := by omega
      have hsz := HB.out.size
      go_upto_region 12 with (go_at_call 8; refine (new_yes 256 32 _ (by decide) (by decide) (by decide) (by decide)).mono ?_; rintro e w2 ⟨g, h, rfl, B, hg, hh, hb2⟩)
      have lw2 := HB.out.trans (hb2.mono hsz)
      go_upto_region 13 with (go_at_call 9; refine (made_walk A n cap js (HJ.out.below lw2) hn hcap hcap2 HALL.out).mono ?_; rintro e w3 ⟨o3, A4, c4, A5, c5, xs, Bs, rfl, hmt⟩)
      go_upto_region 14 with (go_at_call 10; refine (start_new B (Nat.le_trans hsz hg) (Nat.le_trans hsz hh) lw2 hmt hn).mono ?_; rintro e w4 ⟨gw, ga, ax, o4, rfl, hst, _, _⟩)
      have hps4 := HP.out.keep hst.low.size fun a _ hl => hst.low.block _ hl
      have hA4 : 0 < ps.length → ∀ a, A2 = some a → o4 a.block = .no := fun hp a ha => by
        obtain ⟨b, off, e, hlt, _⟩ := HP.out hp
        rw [e] at ha
        cases ha
        exact hst.out b hlt
      obtain ⟨⟨tv4, ts4, hsw4⟩, hlw4, hot4⟩ := hst
      clear hmt B lw2 hb2 hg hh
      go_upto_region 15 with (go_at_call 23; refine (run_all hsw4 A2 cap2 ps hps4 hc hc2 hA4 (by show 0 + ps.length ≤ _; omega)).mono ?_; rintro e w5 ⟨o5, tv5, ts5, A6, c6, qs6, rfl, _, _, hsw5, ht5, ho5⟩)
      have hs5 := Stood.after ⟨⟨tv4, ts4, hsw4⟩, hlw4, hot4⟩ ht5 ⟨tv5, ts5, hsw5⟩ ho5
      have hna : (St.runs ps (St.made n (fun i => (js i).mc) (fun _ => 0) 32 0) []).1.na = n := St.runs_na ps _ _
      have htr : (St.runs ps (St.made n (fun i => (js i).mc) (fun _ => 0) 32 0) []).1.tr.length ≤ 120 := Nat.le_trans (St.runs_tr ps _ _) (by show 0 + ps.length ≤ _; omega)
      generalize (St.runs ps (St.made n (fun i => (js i).mc) (fun _ => 0) 32 0) []).1 = st1 at hs5 hna htr hsw5
      have HNA := Lib.hid hna
      clear hsw4 hlw4 hot4 ht5 ho5 hps4 hA4 hna
      have hlow5 := hs5.low
      go_upto_region 16 with (go_at_call 18; refine (trace_any hsw5 (by omega)).mono ?_; rintro e w6 ⟨A7, c7, qs7, rfl, _, _, hb6⟩)
      have hs6 := hs5.below hb6
      have hsw6 := hsw5.below hb6
      clear hs5 hsw5 hb6 hlow5
      by_cases hi : hasB n i = true
      · obtain ⟨i0, i1⟩ := hasB_yes hi
        obtain ⟨k, rfl⟩ := Int.eq_ofNat_of_zero_le i0
        have hkn : k < n := by omega
        have hkst : k < st1.na := by rw [HNA.out]; exact hkn
        clear hi i0 i1
        go_upto_region 17 with (go_at_call 24; refine (silence_yes hsw6 k hkst).mono ?_; rintro e w7 ⟨rfl, hw7⟩)
        have hd7 := hsw6.setDead (i := k)
        have ht7 := (Touch.refl (Own o5) w6).setCell (p := ⟨ga, k * 2 + 1, none⟩) (by unfold Own; rw [hsw6.oga]; simp) (.bool true)
        rw [hw7] at hd7 ht7
        have hs7 := Stood.after hs6 ht7 ⟨_, _, hd7⟩ fun _ _ => rfl
        clear hs6 hsw6 ht7 hw7
        have hlen : st1.tr.length ≤ 1000000 := by omega
        obtain ⟨st2, hst2⟩ : ∃ s : St, s = { st1 with dead := upd st1.dead k true } := ⟨_, rfl⟩
        have e1 : st2.na = n := by rw [hst2]; exact HNA.out
        have e2 : st2.tr.length = st1.tr.length := by rw [hst2]
        have e3 : st2.dead k = true := by rw [hst2]; exact if_pos rfl
        have e4 : st2.deadB (k : Int) = true := by unfold St.deadB; rw [e1, Int.toNat_natCast, e3]; simp [hasB]; omega
        have e5 := St.pick_dead st2 k (by omega) e3
        rw [← hst2] at hd7 hs7
        have E := Lib.hid (And.intro e1 (And.intro e2 (And.intro e4 e5)))
        clear hst2 e1 e2 e3 e4 e5
        go_upto_region 19 with (go_at_call 11; refine (pick_is hd7 ⟨0, k, 0⟩ (by rw [E.out.2.1]; exact hlen) E.out.2.2.2).mono ?_; rintro e w8 ⟨o8, A8, l8, c8, A9, l9, c9, tv8, ts8, rfl, _, _, hsw8, ht8, ho8⟩)
        have hs8 := (Stood.after hs7 ht8 ⟨tv8, ts8, hsw8⟩ ho8).alloc (.cells #[.int .i64 Ev.zero.pk.K, .int .i64 Ev.zero.pk.A, .int .i64 Ev.zero.pk.N, .int .i64 Ev.zero.ac.K, .int .i64 Ev.zero.ac.P, .int .i64 Ev.zero.ac.N, .int .u64 Ev.zero.ac.V, .int .u64 Ev.zero.ac.U, .slice A8 l8 c8, .int .u64 Ev.zero.an.V, .bool Ev.zero.an.D, .slice A9 l9 c9] 51)
        have hsw8 := hsw8.alloc (.cells #[.int .i64 Ev.zero.pk.K, .int .i64 Ev.zero.pk.A, .int .i64 Ev.zero.pk.N, .int .i64 Ev.zero.ac.K, .int .i64 Ev.zero.ac.P, .int .i64 Ev.zero.ac.N, .int .u64 Ev.zero.ac.V, .int .u64 Ev.zero.ac.U, .slice A8 l8 c8, .int .u64 Ev.zero.an.V, .bool Ev.zero.an.D, .slice A9 l9 c9] 51)
        have HL8 := Lib.hid hs8.low
        clear hs7 hd7 ht8 ho8 hs8
        go_wp2_with (first
          | (go_at_call 20; refine (dead_any hsw8 k).mono ?_; rintro e w9 ⟨rfl, rfl⟩; rw [E.out.2.2.1])
          | (go_at_call 18; refine (trace_any hsw8 (by rw [E.out.2.1]; exact hlen)).mono ?_; rintro e w10 ⟨A10, c10, qs10, rfl, _, _, hb10⟩; rw [E.out.2.1]))
        go_ret
        exact ⟨rfl, HL8.out.trans (hb10.mono HL8.out.size)⟩
      · have hi : hasB n i = false := by simpa using hi
        have HI := Lib.hid hi
        have hib := hasB_no hi
        clear hi
        have hlen : st1.tr.length ≤ 1000000 := by omega
        go_upto_region 17 with (go_at_call 24; refine (silence_no hsw6 i (by rw [HNA.out]; exact HI.out)).mono ?_; rintro e w7 ⟨rfl, rfl⟩)
        have e4 : st1.deadB i = false := by unfold St.deadB; rw [HNA.out, HI.out]; rfl
        have e5 := St.pick_away st1 i (by rw [HNA.out]; exact HI.out)
        have E := Lib.hid (And.intro e4 e5)
        clear e4 e5
        rcases hib with hib | hib
        · go_upto_region 19 with (go_at_call 11; refine (pick_is hsw6 ⟨0, i, 0⟩ hlen E.out.2).mono ?_; rintro e w8 ⟨o8, A8, l8, c8, A9, l9, c9, tv8, ts8, rfl, _, _, hsw8, ht8, ho8⟩)
          have hs8 := (Stood.after hs6 ht8 ⟨tv8, ts8, hsw8⟩ ho8).alloc (.cells #[.int .i64 Ev.zero.pk.K, .int .i64 Ev.zero.pk.A, .int .i64 Ev.zero.pk.N, .int .i64 Ev.zero.ac.K, .int .i64 Ev.zero.ac.P, .int .i64 Ev.zero.ac.N, .int .u64 Ev.zero.ac.V, .int .u64 Ev.zero.ac.U, .slice A8 l8 c8, .int .u64 Ev.zero.an.V, .bool Ev.zero.an.D, .slice A9 l9 c9] 51)
          have hsw8 := hsw8.alloc (.cells #[.int .i64 Ev.zero.pk.K, .int .i64 Ev.zero.pk.A, .int .i64 Ev.zero.pk.N, .int .i64 Ev.zero.ac.K, .int .i64 Ev.zero.ac.P, .int .i64 Ev.zero.ac.N, .int .u64 Ev.zero.ac.V, .int .u64 Ev.zero.ac.U, .slice A8 l8 c8, .int .u64 Ev.zero.an.V, .bool Ev.zero.an.D, .slice A9 l9 c9] 51)
          have HL8 := Lib.hid hs8.low
          clear hs6 hsw6 ht8 ho8 hs8
          go_wp2_with (go_at_call 20; refine (dead_any hsw8 i).mono ?_; rintro e w9 ⟨rfl, rfl⟩; rw [E.out.1])
          go_ret
          exact ⟨rfl, HL8.out⟩
        · have hi0 : 0 ≤ i := by omega
          go_upto_region 19 with (go_at_call 11; refine (pick_is hsw6 ⟨0, i, 0⟩ hlen E.out.2).mono ?_; rintro e w8 ⟨o8, A8, l8, c8, A9, l9, c9, tv8, ts8, rfl, _, _, hsw8, ht8, ho8⟩)
          have hs8 := (Stood.after hs6 ht8 ⟨tv8, ts8, hsw8⟩ ho8).alloc (.cells #[.int .i64 Ev.zero.pk.K, .int .i64 Ev.zero.pk.A, .int .i64 Ev.zero.pk.N, .int .i64 Ev.zero.ac.K, .int .i64 Ev.zero.ac.P, .int .i64 Ev.zero.ac.N, .int .u64 Ev.zero.ac.V, .int .u64 Ev.zero.ac.U, .slice A8 l8 c8, .int .u64 Ev.zero.an.V, .bool Ev.zero.an.D, .slice A9 l9 c9] 51)
          have hsw8 := hsw8.alloc (.cells #[.int .i64 Ev.zero.pk.K, .int .i64 Ev.zero.pk.A, .int .i64 Ev.zero.pk.N, .int .i64 Ev.zero.ac.K, .int .i64 Ev.zero.ac.P, .int .i64 Ev.zero.ac.N, .int .u64 Ev.zero.ac.V, .int .u64 Ev.zero.ac.U, .slice A8 l8 c8, .int .u64 Ev.zero.an.V, .bool Ev.zero.an.D, .slice A9 l9 c9] 51)
          have HL8 := Lib.hid hs8.low
          clear hs6 hsw6 ht8 ho8 hs8
          go_wp2_with (go_at_call 20; refine (dead_any hsw8 i).mono ?_; rintro e w9 ⟨rfl, rfl⟩; rw [E.out.1])
          go_ret
          exact ⟨rfl, HL8.out⟩

theorem silenceLaw_all (w : World) (A : Option Addr) (n cap : Nat) (js : Nat → Jb) (hj : JbsAt w A n js) (hcap : n ≤ cap) (hcap2 : cap ≤ 9223372036854775807) (A2 : Option Addr) (cap2 : Nat) (ps : List Pk) (hps : PksAt w A2 ps) (hc : ps.length ≤ cap2) (hc2 : cap2 ≤ 9223372036854775807) (i : Int) :
    Calls Try.prog 6 #[.slice A n cap, .slice A2 ps.length cap2, .int .i64 i] w (TrueBelow w) := by
  by_cases h : 6 < n ∨ 120 < ps.length
  · exact silenceLaw_out w A n cap A2 ps.length cap2 i (by omega) (by omega) h
  · exact silenceLaw_main w A n cap js hj hcap hcap2 A2 cap2 ps hps hc hc2 i (by omega) (by omega)
end Go.Proofs.Ytijgfaggakbajaa
