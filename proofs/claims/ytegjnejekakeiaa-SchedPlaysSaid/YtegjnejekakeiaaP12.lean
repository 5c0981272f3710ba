/-
  Proved: for every list of jobs, every list of picks and every number of steps the statement SchedPlays (each event is the document's, and so are all bytes, the clock, and who is dead, or at the end) answers true, and its arguments read as before.
  Conditions: none beyond the row's own.
-/
import Derived.Test.YtegjnejekakeiaaP11
import Derived.Test.YtegjnejekakeiaaP06
import Derived.Deep.DeepCutAuto
import Derived.OrdersHeld
namespace Go.Proofs.Ytegjnejekakeiaa
open Go.RowKit

set_option maxRecDepth 100000 in
set_option maxHeartbeats 1000000 in
theorem schPlaysLaw_out (w : World) (A : Option Addr) (n cap : Nat) (A2 : Option Addr) (M cap2 : Nat) (hn : n ≤ 9223372036854775807) (hM : M ≤ 9223372036854775807) (q : Nat) (h : 6 < n ∨ 120 < M) :
    Calls Try.prog 3 #[.slice A n cap, .slice A2 M cap2, .int .u8 q] w (TrueBelow w) := by
  by_cases h1 : 6 < n
  · clear h
    go_enter Try.func3, Try.ntmps3
    go_wp2_with (go_at_call 7; refine (schedFixed_any w).mono ?_; rintro e w1 ⟨rfl, hq1⟩)
    go_ret
    exact ⟨rfl, hq1⟩
  · have h1' : n ≤ 6 := by omega
    have h2 : 120 < M := by omega
    clear h h1
    go_enter Try.func3, Try.ntmps3
    go_wp2_with (go_at_call 7; refine (schedFixed_any w).mono ?_; rintro e w1 ⟨rfl, hq1⟩)
    go_ret
    exact ⟨rfl, hq1⟩

theorem zero_row (w : World) : (w.alloc (.cells (madeCells #[.int .u8 0] 256) 5)).rowIs w.heap.size 5 256 (fun _ => .int .u8 0) := World.rowIs_made w (.int .u8 0) 256 5

/-- The condition of a region that draws its order may become another on the way: one that says more. -/
theorem wpAnyH_change {P : Program} {md : Region.Mode} {ops : Array Oper} {Q : Exit → Act → World → Prop} {S S' : World → Prop} (hS : ∀ w, S' w → S w) : ∀ (fuel : Nat) (listed : Array Bool) (a : Act) (w : World), wpAnyH P md ops Q S' fuel listed a w → wpAnyH P md ops Q S fuel listed a w
  | 0, _, _, _, h => h
  | fuel + 1, _, _, _, h => ⟨h.1, fun i hi => wpOp_mono (fun a' w' h' => ⟨hS w' h'.1, wpAnyH_change hS fuel _ a' w' h'.2⟩) (h.2 i hi)⟩

theorem plain_bytes {w : World} {q n : Nat} {u : Nat → Nat} (h : PlainAt w q n u) : BytesAt w (.slice (some ⟨q, 0, none⟩) n n) (Mb.bl u 0 n) := h.part 0 n n (by omega)
theorem plain_evs {w : World} {p : Nat → Pt} {gp q jb : Nat} {JA : Option Addr} {c5 : Nat} {js : Nat → Jb} {pj : Nat → PJ} {tv : Value} {ts : List Tx} {st : St} (h : PW w p gp q jb JA c5 js pj tv ts st) : EvsAt (fun _ => True) w tv ts :=
  EvsAt.of_own h.trow (h.ttxt.mono fun _ _ _ => trivial) fun _ _ => trivial

theorem St.rnd_nw (k : Nat) : ∀ (st : St) (i n most : Nat), (St.rnd k st i n most).1.nw = st.nw := by
  induction k with
  | zero => exact fun st i n most => rfl
  | succ k ih =>
    intro st i n most
    show (if n = most then (st, n) else if st.dead i = true then St.rnd k st (i + 1) n most else match (st.ms i).next with | none => St.rnd k st (i + 1) n most | some a => St.rnd k (st.act i a) (i + 1) (n + 1) most).1.nw = st.nw
    split
    · rfl
    · split
      · exact ih _ _ _ _
      · split
        · exact ih _ _ _ _
        · rw [ih]
          unfold St.act
          split <;> rfl
theorem St.rob_facts (f : Nat) : ∀ (st : St) (n most : Nat), n ≤ most → (St.rob f st n most).1.na = st.na ∧ (St.rob f st n most).1.nw = st.nw ∧ (St.rob f st n most).1.tr.length ≤ st.tr.length + (most - n) := by
  induction f with
  | zero => exact fun st n most _ => ⟨rfl, rfl, Nat.le_add_right _ _⟩
  | succ f ih =>
    intro st n most hn
    by_cases h : n < most
    · have hf := St.rnd_facts st.na st 0 0 (most - n) (Nat.zero_le _)
      have hw := St.rnd_nw st.na st 0 0 (most - n)
      by_cases h0 : (St.rnd st.na st 0 0 (most - n)).2 = 0
      · rw [St.rob_idle _ _ _ _ h h0]
        exact ⟨hf.2.2.2, hw, by have := hf.2.2.1; show (St.rnd st.na st 0 0 (most - n)).1.tr.length ≤ _; omega⟩
      · rw [St.rob_next _ _ _ _ h h0]
        obtain ⟨h1, h2, h3⟩ := ih (St.rnd st.na st 0 0 (most - n)).1 (n + (St.rnd st.na st 0 0 (most - n)).2) most (by omega)
        exact ⟨h1.trans hf.2.2.2, h2.trans hw, by have := hf.2.2.1; omega⟩
    · rw [St.rob_end _ _ _ _ h]
      exact ⟨rfl, rfl, Nat.le_add_right _ _⟩
theorem St.robin_na (st : St) (most : Nat) : (st.robin most).1.na = st.na := (St.rob_facts most st 0 most (Nat.zero_le _)).1
theorem St.robin_tr (st : St) (most : Nat) : (st.robin most).1.tr.length ≤ st.tr.length + most ∧ (st.robin most).1.nw = st.nw := ⟨(St.rob_facts most st 0 most (Nat.zero_le _)).2.2, (St.rob_facts most st 0 most (Nat.zero_le _)).2.1⟩

/-- Two copies of an event in blocks of their own are the same. -/
theorem same_two (w : World) (v : Ev) (s1 s2 s3 s4 : Value) (h1 : BytesAt w s1 v.ac.bs) (h2 : BytesAt w s2 v.an.bs) (h3 : BytesAt w s3 v.ac.bs) (h4 : BytesAt w s4 v.an.bs) :
    Calls Try.prog 13 #[.slice (some ⟨w.heap.size, 0, none⟩) 1 1, .slice (some ⟨w.heap.size + 1, 0, none⟩) 1 1] ((w.alloc (.cells #[.int .i64 v.pk.K, .int .i64 v.pk.A, .int .i64 v.pk.N, .int .i64 v.ac.K, .int .i64 v.ac.P, .int .i64 v.ac.N, .int .u64 v.ac.V, .int .u64 v.ac.U, s1, .int .u64 v.an.V, .bool v.an.D, s2] 51)).alloc (.cells #[.int .i64 v.pk.K, .int .i64 v.pk.A, .int .i64 v.pk.N, .int .i64 v.ac.K, .int .i64 v.ac.P, .int .i64 v.ac.N, .int .u64 v.ac.V, .int .u64 v.ac.U, s3, .int .u64 v.an.V, .bool v.an.D, s4] 51))
      fun e w' => e = .returned (.bool true) ∧ Below w.heap.size w w' := by
  have hs : (w.alloc (.cells #[.int .i64 v.pk.K, .int .i64 v.pk.A, .int .i64 v.pk.N, .int .i64 v.ac.K, .int .i64 v.ac.P, .int .i64 v.ac.N, .int .u64 v.ac.V, .int .u64 v.ac.U, s1, .int .u64 v.an.V, .bool v.an.D, s2] 51)).heap.size = w.heap.size + 1 := by simp
  have hb1 := (Below.refl w.heap.size w).alloc (Nat.le_refl _) (.cells #[.int .i64 v.pk.K, .int .i64 v.pk.A, .int .i64 v.pk.N, .int .i64 v.ac.K, .int .i64 v.ac.P, .int .i64 v.ac.N, .int .u64 v.ac.V, .int .u64 v.ac.U, s1, .int .u64 v.an.V, .bool v.an.D, s2] 51)
  have hb := hb1.alloc (by omega) (.cells #[.int .i64 v.pk.K, .int .i64 v.pk.A, .int .i64 v.pk.N, .int .i64 v.ac.K, .int .i64 v.ac.P, .int .i64 v.ac.N, .int .u64 v.ac.V, .int .u64 v.ac.U, s3, .int .u64 v.an.V, .bool v.an.D, s4] 51)
  have x1 := Go.Deep.blk_alloc_new w (.cells #[.int .i64 v.pk.K, .int .i64 v.pk.A, .int .i64 v.pk.N, .int .i64 v.ac.K, .int .i64 v.ac.P, .int .i64 v.ac.N, .int .u64 v.ac.V, .int .u64 v.ac.U, s1, .int .u64 v.an.V, .bool v.an.D, s2] 51)
  have x2 := Go.Deep.blk_alloc_new (w.alloc (.cells #[.int .i64 v.pk.K, .int .i64 v.pk.A, .int .i64 v.pk.N, .int .i64 v.ac.K, .int .i64 v.ac.P, .int .i64 v.ac.N, .int .u64 v.ac.V, .int .u64 v.ac.U, s1, .int .u64 v.an.V, .bool v.an.D, s2] 51)) (.cells #[.int .i64 v.pk.K, .int .i64 v.pk.A, .int .i64 v.pk.N, .int .i64 v.ac.K, .int .i64 v.ac.P, .int .i64 v.ac.N, .int .u64 v.ac.V, .int .u64 v.ac.U, s3, .int .u64 v.an.V, .bool v.an.D, s4] 51)
  have x3 := (Below.heap_alloc (w.alloc (.cells #[.int .i64 v.pk.K, .int .i64 v.pk.A, .int .i64 v.pk.N, .int .i64 v.ac.K, .int .i64 v.ac.P, .int .i64 v.ac.N, .int .u64 v.ac.V, .int .u64 v.ac.U, s1, .int .u64 v.an.V, .bool v.an.D, s2] 51)) (.cells #[.int .i64 v.pk.K, .int .i64 v.pk.A, .int .i64 v.pk.N, .int .i64 v.ac.K, .int .i64 v.ac.P, .int .i64 v.ac.N, .int .u64 v.ac.V, .int .u64 v.ac.U, s3, .int .u64 v.an.V, .bool v.an.D, s4] 51) w.heap.size (by omega)).trans x1
  rw [hs] at x2
  generalize (w.alloc (.cells #[.int .i64 v.pk.K, .int .i64 v.pk.A, .int .i64 v.pk.N, .int .i64 v.ac.K, .int .i64 v.ac.P, .int .i64 v.ac.N, .int .u64 v.ac.V, .int .u64 v.ac.U, s1, .int .u64 v.an.V, .bool v.an.D, s2] 51)).alloc (.cells #[.int .i64 v.pk.K, .int .i64 v.pk.A, .int .i64 v.pk.N, .int .i64 v.ac.K, .int .i64 v.ac.P, .int .i64 v.ac.N, .int .u64 v.ac.V, .int .u64 v.ac.U, s3, .int .u64 v.an.V, .bool v.an.D, s4] 51) = W at *
  refine (evs_same (ts1 := [⟨v, s1, s2⟩]) (ts2 := [⟨v, s3, s4⟩]) (K1 := fun _ => True) (K2 := fun _ => True) (evs_one x3 trivial (BytesIn.of_at (h1.below hb)) (BytesIn.of_at (h2.below hb))) (evs_one x2 trivial (BytesIn.of_at (h3.below hb)) (BytesIn.of_at (h4.below hb))) rfl).mono ?_
  rintro e w' ⟨rfl, hq⟩
  exact ⟨rfl, hb.trans (hq.mono hb.size)⟩

set_option linter.unusedSimpArgs false in
set_option maxRecDepth 100000 in
set_option maxHeartbeats 1500000 in
theorem schPlaysLaw_main (w : World) (A : Option Addr) (n cap : Nat) (js : Nat → Jb) (hj : JbsAt w A n js) (hcap : n ≤ cap) (hcap2 : cap ≤ 9223372036854775807) (A2 : Option Addr) (cap2 : Nat) (ps : List Pk) (hps : PksAt w A2 ps) (_hc : ps.length ≤ cap2) (_hc2 : cap2 ≤ 9223372036854775807)
    (hn : n ≤ 6) (hM : ps.length ≤ 120) (q : Nat) (hq : q < 256) :
    Calls Try.prog 3 #[.slice A n cap, .slice A2 ps.length cap2, .int .u8 q] w (TrueBelow w) := by
  have HJ := Lib.hid hj
  have HP := Lib.hid hps
  clear hj hps
  go_enter Try.func3, Try.ntmps3
  go_wp2_with (go_at_call 7; refine (schedFixed_any w).mono ?_; rintro e w1 ⟨rfl, hq1⟩)
  go_loopw [37] (fun t37 wr => ∃ k : Nat, t37 = .int .i64 k ∧ k ≤ n ∧ Below w.heap.size w wr ∧ ∀ j, j < k → (js j).L ≤ 60) (fun t37 _ => n - (intOf t37).toNat)
  case atStart => exact ⟨0, rfl, Nat.zero_le _, hq1, fun j hj => absurd hj (Nat.not_lt_zero _)⟩
  case round =>
    obtain ⟨k, rfl, hk, hbw, hall⟩ := hrel
    have HB := Lib.hid hbw
    have HALL := Lib.hid hall
    clear hbw hall
    by_cases hlt : k < n
    · obtain ⟨b, off, rfl, hbl, hcl⟩ := HJ.out (by omega)
      obtain ⟨c0, c1, c2, c3, his⟩ := hcl k hlt
      have kc := fun q => HB.out.cell (p := ⟨b, q, none⟩) hbl
      have c0 := (kc _).trans c0
      have c1 := (kc _).trans c1
      have c2 := (kc _).trans c2
      have c3 := (kc _).trans c3
      have hrm := his.room
      have hfw := his.few
      clear kc hcl his
      have hsz := HB.out.size
      by_cases hL : (js k).L ≤ 60
      · have HL := Lib.hid hL
        generalize hjq : js k = j at *
        have HJQ := Lib.hid hjq
        clear hjq
        go_wp2
        refine ⟨⟨k + 1, rfl, hlt, HB.out.alloc hsz _, fun j' hj' => ?_⟩, by simp only [intOf]; omega⟩
        by_cases e : j' = k
        · rw [e, HJQ.out]; exact HL.out
        · exact HALL.out j' (by omega)
      · generalize hjq : js k = j at *
        have HJQ := Lib.hid hjq
        clear hjq
        have hL' : 60 < j.L := by omega
        go_wp2
        go_ret
        exact ⟨rfl, HB.out.alloc hsz _⟩
    · obtain rfl : n = k := by omega
      have hsz := HB.out.size
      have hisB : Hid (JbsOk js n) := Lib.hid fun i hi => by
        obtain ⟨b, off, rfl, hbl, hcl⟩ := HJ.out (by omega)
        obtain ⟨c0, c1, c2, c3, his⟩ := hcl i hi
        refine ⟨?_, by have := HALL.out i hi; omega⟩
        unfold Jb.kd
        split
        · exact his.isB
        · split <;> exact trivial
      go_upto_region 12 with (go_at_call 8; refine (new_yes 256 32 _ (by decide) (by decide) (by decide) (by decide)).mono ?_; rintro e w2 ⟨g1, h1, rfl, B1, hg1, hh1, hb2⟩)
      have lw2 := HB.out.trans (hb2.mono hsz)
      go_upto_region 13 with (go_at_call 9; refine (made_walk A n cap js (HJ.out.below lw2) hn hcap hcap2 HALL.out).mono ?_; rintro e w3 ⟨oA, A4, c4, A5, c5, xs, Bs, rfl, hmA⟩)
      have hNEW : ∀ W, Below w3.heap.size w3 W → Calls Try.prog 10 #[.pointer (some ⟨g1, 0, none⟩), .slice A4 n c4] W fun e w' => ∃ gw ga ax o', e = .returned (.pointer (some ⟨gw, 0, none⟩)) ∧ Stood w w' o' gw ga g1 h1 ax (St.made n (fun i => (js i).mc) (fun _ => 0) 32 0) ∧
          Below W.heap.size W w' ∧ ∀ k, k < W.heap.size → k ≠ g1 → k ≠ h1 → (∀ i, oA k ≠ .ma i) → o' k = .no := fun W hW => start_new B1 (Nat.le_trans hsz hg1) (Nat.le_trans hsz hh1) lw2 (hmA.keep hW) hn
      have hfree : ∀ k, w3.heap.size ≤ k → k ≠ g1 ∧ k ≠ h1 ∧ ∀ i, oA k ≠ .ma i := fun k hk => by
        have z1 := B1.g_lt
        have z2 := B1.h_lt
        have z3 := hmA.low.size
        refine ⟨by omega, by omega, fun i e => ?_⟩
        have := (hmA.new k (by rw [e]; simp)).2
        omega
      have hfree2 : ∀ k, oA k = .tx ∨ oA k = .ro → k ≠ g1 ∧ k ≠ h1 ∧ (∀ i, oA k ≠ .ma i) ∧ k < w3.heap.size := fun k hk => by
        have z1 := B1.g_lt
        have z2 := B1.h_lt
        have z3 := hmA.new k (by rcases hk with e | e <;> (rw [e]; simp))
        refine ⟨by omega, by omega, fun i e => ?_, z3.2⟩
        rcases hk with e2 | e2 <;> (rw [e2] at e; cases e)
      have HMA := Lib.hid hmA
      have HNEW := Lib.hid hNEW
      have HFR := Lib.hid (And.intro hfree hfree2)
      have HLW := Lib.hid lw2
      have hmk : ∀ W : World, (Instr.makeSlice 26 (.int .i64 256) (.int .i64 256)).run Try.prog W = .ok (.slice (some ⟨W.heap.size, 0, none⟩) 256 256) (W.alloc (.cells (madeCells #[.int .u8 0] 256) 5)) := fun W => make_bytes 256 (by omega) W
      clear hmA hNEW hfree hfree2 lw2 B1 hb2 hg1 hh1
      go_cut [13, 14] (fun a b wx => ∃ gw ga ax gp q jb, a = .pointer (some ⟨gw, 0, none⟩) ∧ b = .pointer (some ⟨gp, 0, none⟩) ∧ Duo w wx gw ga g1 h1 ax gp q jb A5 c5 js (St.made n (fun i => (js i).mc) (fun _ => 0) 32 0))
      case first =>
        go_region_held3 (fun _ => True) (trivial) (first
          | (go_at_call 10; refine (HNEW.out _ (by first | exact (Below.refl _ _).drew | exact da_below _ _ | exact daa_below _ _ _)).mono ?_; rintro e w5 ⟨gw, ga, ax, o5, rfl, hst, hbl, hno⟩))
        all_goals (go_wp2_with fail; go_meet)
        · have hW3 : Below w3.heap.size w3 w5 := below_drew hbl
          have b1 := (Below.refl w5.heap.size w5).alloc (Nat.le_refl _) (.cells (madeCells #[.int .u8 0] 256) 5)
          have hz := zero_row w5
          have hs1 : (w5.alloc (.cells (madeCells #[.int .u8 0] 256) 5)).heap.size = w5.heap.size + 1 := by simp
          obtain ⟨jb, hduo⟩ := duo_new (W := (w5.alloc (.cells (madeCells #[.int .u8 0] 256) 5)).alloc (.cells #[.slice (some ⟨w5.heap.size, 0, none⟩) 256 256, .slice A5 n c5, .int .i64 0, .slice none 0 0] 42)) HMA.out HLW.out.size ((hW3.alloc hW3.size _).alloc (by have := hW3.size; omega) _)
            (hst.below (b1.alloc (by omega) _)) (fun k hk => by have h2 := HFR.out.2 k hk; exact hno k h2.2.2.2 h2.1 h2.2.1 h2.2.2.1) (q := w5.heap.size) (gp := w5.heap.size + 1) hW3.size (by have := hW3.size; omega) (by omega) (hst.new_no (Nat.le_refl _)) (hst.new_no (by omega))
            (hz.of_block (Below.heap_alloc _ _ _ (by omega))) (blk_new_at _ _ _ hs1)
          exact ⟨gw, ga, ax, _, _, jb, rfl, rfl, hduo⟩
        · have hW3 : Below w3.heap.size w3 w5 := below_alloc_drew hbl
          have hz : w5.rowIs w3.heap.size 5 256 (fun _ => .int .u8 0) := (zero_row w3).of_block (alloc_drew_block hbl)
          have hl := hz.lt
          obtain ⟨jb, hduo⟩ := duo_new (W := w5.alloc (.cells #[.slice (some ⟨w3.heap.size, 0, none⟩) 256 256, .slice A5 n c5, .int .i64 0, .slice none 0 0] 42)) HMA.out HLW.out.size (hW3.alloc hW3.size _)
            (hst.below ((Below.refl w5.heap.size w5).alloc (Nat.le_refl _) _)) (fun k hk => by have h2 := HFR.out.2 k hk; exact hno k (by rw [da_size]; omega) h2.1 h2.2.1 h2.2.2.1) (q := w3.heap.size) (gp := w5.heap.size) (Nat.le_refl _) hW3.size (by omega) (by have h2 := HFR.out.1 w3.heap.size (Nat.le_refl _); exact hno _ (by rw [da_size]; omega) h2.1 h2.2.1 h2.2.2) (hst.new_no (Nat.le_refl _))
            (hz.of_block (Below.heap_alloc _ _ _ hl)) (Go.Deep.blk_alloc_new _ _)
          exact ⟨gw, ga, ax, _, _, jb, rfl, rfl, hduo⟩
        · have hW3 : Below w3.heap.size w3 w5 := (daa_below w3 _ _).trans (hbl.mono (by rw [daa_size]; omega))
          have hz : w5.rowIs w3.heap.size 5 256 (fun _ => .int .u8 0) := (zero_row w3).of_block ((hbl.block w3.heap.size (by rw [daa_size]; omega)).trans (Below.heap_alloc _ _ _ (by simp)))
          have hh := (hbl.block (w3.heap.size + 1) (by rw [daa_size]; omega)).trans (daa_blk w3 _ _)
          obtain ⟨jb, hduo⟩ := duo_new (W := w5) HMA.out HLW.out.size hW3 hst (fun k hk => by have h2 := HFR.out.2 k hk; exact hno k (by rw [daa_size]; omega) h2.1 h2.2.1 h2.2.2.1) (q := w3.heap.size) (gp := w3.heap.size + 1) (Nat.le_refl _) (by omega) (by omega) (by have h2 := HFR.out.1 w3.heap.size (Nat.le_refl _); exact hno _ (by rw [daa_size]; omega) h2.1 h2.2.1 h2.2.2) (by have h2 := HFR.out.1 (w3.heap.size + 1) (by omega); exact hno _ (by rw [daa_size]; omega) h2.1 h2.2.1 h2.2.2) hz hh
          exact ⟨gw, ga, ax, _, _, jb, rfl, rfl, hduo⟩
      case rest =>
        obtain ⟨gw, ga, ax, gp, qb, jb, rfl, rfl, hduo⟩ := hcut
        obtain ⟨st0, hst0⟩ : ∃ s, s = St.made n (fun i => (js i).mc) (fun _ => 0) 32 0 := ⟨_, rfl⟩
        have h0 : st0.na = n ∧ st0.nw = 32 ∧ st0.tr = [] := by rw [hst0]; exact ⟨rfl, rfl, rfl⟩
        rw [← hst0] at hduo
        have HD0 := Lib.hid hduo
        have H0 := Lib.hid h0
        clear hst0 h0 hduo HMA HNEW HFR HLW
        go_upto_region 14 with (fail)
        go_wp2_with fail
        go_loopw [64] (fun t64 wr => ∃ (i : Nat) (st1 : St), t64 = .int .i64 i ∧ i ≤ ps.length ∧ Duo w wr gw ga g1 h1 ax gp qb jb A5 c5 js st1 ∧ st1.na = n ∧ st1.nw = 32 ∧ st1.tr.length ≤ i) (fun t64 _ => ps.length - (intOf t64).toNat)
        case atStart => exact ⟨0, st0, rfl, Nat.zero_le _, HD0.out, H0.out.1, H0.out.2.1, by rw [H0.out.2.2]; exact Nat.le_refl _⟩
        case round =>
          obtain ⟨i, st1, rfl, hi, hduo, hna, hnw, htl⟩ := hrel
          have HD := Lib.hid hduo
          have HNN := Lib.hid (And.intro hna hnw)
          have HTL := Lib.hid htl
          clear hduo hna hnw htl
          by_cases hlt : i < ps.length
          · obtain ⟨p, hp⟩ : ∃ p, ps[i]? = some p := ⟨_, List.getElem?_eq_getElem hlt⟩
            obtain ⟨b, off, rfl, hbl, hcl⟩ := HP.out (by omega)
            have kc : ∀ j, wr.cell? ⟨b, j, none⟩ = w.cell? ⟨b, j, none⟩ := fun j => HD.out.low.cell (p := ⟨b, j, none⟩) hbl
            obtain ⟨c0, c1, c2⟩ := hcl i p hp
            have c0 := (kc _).trans c0
            have c1 := (kc _).trans c1
            have c2 := (kc _).trans c2
            clear kc hcl hp
            have hpl := St.act_len st1 p
            have hok : JbsOk js st1.na := by rw [HNN.out.1]; exact hisB.out
            have htl : st1.tr.length ≤ 1000000 := by have := HTL.out; omega
            have hna2 := (St.pick_na st1 p)
            have HC1 : Hid (∀ W, Below wr.heap.size wr W → _) := Lib.hid fun W (hW : Below wr.heap.size wr W) => duo_pick1 (HD.out.both.below hW) p htl
            have HC2 : Hid (∀ W B C s, DuoA w W gw ga g1 h1 ax gp qb jb A5 c5 js st1 s B C → _) := Lib.hid fun W B C s (hW : DuoA w W gw ga g1 h1 ax gp qb jb A5 c5 js st1 s B C) => duo_pick2 hW p htl HNN.out.2 hok
            obtain ⟨pr, hpr⟩ : ∃ pr, st1.pick p = pr := ⟨_, rfl⟩
            rw [hpr] at HC1 HC2 hpl hna2
            obtain ⟨s2, r, v⟩ := pr
            have HPN := Lib.hid (And.intro hpl (And.intro hna2.1 hna2.2))
            clear hpr hpl hok htl hna2
            go_upto_region 17 with (fail)
            have hpb := Go.Deep.blk_alloc_new wr (.cells #[.int .i64 p.K, .int .i64 p.A, .int .i64 p.N] 44)
            have HAL := Lib.hid ((Below.refl wr.heap.size wr).alloc (Nat.le_refl _) (.cells #[.int .i64 p.K, .int .i64 p.A, .int .i64 p.N] 44))
            clear c0 c1 c2
            generalize wr.alloc (.cells #[.int .i64 p.K, .int .i64 p.A, .int .i64 p.N] 44) = WA at hpb HAL ⊢
            have hlA : wr.heap.size < WA.heap.size := (Array.getElem?_eq_some_iff.1 hpb).1
            have q0 : WA.cell? ⟨wr.heap.size, 0, none⟩ = some (.int .i64 p.K) := by simp [World.cell?, hpb]
            have q1 : WA.cell? ⟨wr.heap.size, 1, none⟩ = some (.int .i64 p.A) := by simp [World.cell?, hpb]
            have q2 : WA.cell? ⟨wr.heap.size, 2, none⟩ = some (.int .i64 p.N) := by simp [World.cell?, hpb]
            go_upto_region 18 with (go_at_call 11; refine (HC1.out _ HAL.out).mono ?_; rintro e w2 ⟨A1, l1, r1, A2, l2, r2, rfl, hb1, hb2, hd2, has⟩)
            have hpb2 := (has.block (Nat.le_refl _) hlA).trans hpb
            have hs2 := has.size
            have HB2 := Lib.hid (And.intro hb1 (And.intro hb2 hd2))
            clear hb1 hb2 hd2 has q0 q1 q2 hpb
            have hev := Go.Deep.blk_alloc_new w2 (.cells #[.int .i64 v.pk.K, .int .i64 v.pk.A, .int .i64 v.pk.N, .int .i64 v.ac.K, .int .i64 v.ac.P, .int .i64 v.ac.N, .int .u64 v.ac.V, .int .u64 v.ac.U, .slice A1 l1 r1, .int .u64 v.an.V, .bool v.an.D, .slice A2 l2 r2] 51)
            have HAL2 := Lib.hid ((Below.refl w2.heap.size w2).alloc (Nat.le_refl _) (.cells #[.int .i64 v.pk.K, .int .i64 v.pk.A, .int .i64 v.pk.N, .int .i64 v.ac.K, .int .i64 v.ac.P, .int .i64 v.ac.N, .int .u64 v.ac.V, .int .u64 v.ac.U, .slice A1 l1 r1, .int .u64 v.an.V, .bool v.an.D, .slice A2 l2 r2] 51))
            have hpb3 := (HAL2.out.block wr.heap.size (by omega)).trans hpb2
            clear hpb2
            generalize w2.alloc (.cells #[.int .i64 v.pk.K, .int .i64 v.pk.A, .int .i64 v.pk.N, .int .i64 v.ac.K, .int .i64 v.ac.P, .int .i64 v.ac.N, .int .u64 v.ac.V, .int .u64 v.ac.U, .slice A1 l1 r1, .int .u64 v.an.V, .bool v.an.D, .slice A2 l2 r2] 51) = WB at hev HAL2 hpb3 ⊢
            have HEV1 := Lib.hid hev
            have hlB : w2.heap.size < WB.heap.size := (Array.getElem?_eq_some_iff.1 hev).1
            have q0 : WB.cell? ⟨wr.heap.size, 0, none⟩ = some (.int .i64 p.K) := by simp [World.cell?, hpb3]
            have q1 : WB.cell? ⟨wr.heap.size, 1, none⟩ = some (.int .i64 p.A) := by simp [World.cell?, hpb3]
            have q2 : WB.cell? ⟨wr.heap.size, 2, none⟩ = some (.int .i64 p.N) := by simp [World.cell?, hpb3]
            clear hev hpb3
            go_upto_region 19 with (go_at_call 12; refine (HC2.out _ _ _ _ (HB2.out.2.2.below HAL2.out)).mono ?_; rintro e w3' ⟨A3, l3, r3, A4', l4, r4, rfl, hb3, hb4, hd3, has3⟩)
            have hs3 := has3.size
            have hev1 := (has3.block (by omega) hlB).trans HEV1.out
            have HBS := Lib.hid (And.intro (has3.bytes ((HB2.out.1.below HAL2.out).mono fun k hk _ => by omega)) (And.intro (has3.bytes ((HB2.out.2.1.below HAL2.out).mono fun k hk _ => by omega)) (And.intro hb3 (And.intro hb4 hd3))))
            clear hb3 hb4 hd3 has3 q0 q1 q2
            have hev2 := Go.Deep.blk_alloc_new w3' (.cells #[.int .i64 v.pk.K, .int .i64 v.pk.A, .int .i64 v.pk.N, .int .i64 v.ac.K, .int .i64 v.ac.P, .int .i64 v.ac.N, .int .u64 v.ac.V, .int .u64 v.ac.U, .slice A3 l3 r3, .int .u64 v.an.V, .bool v.an.D, .slice A4' l4 r4] 51)
            have HAL3 := Lib.hid ((Below.refl w3'.heap.size w3').alloc (Nat.le_refl _) (.cells #[.int .i64 v.pk.K, .int .i64 v.pk.A, .int .i64 v.pk.N, .int .i64 v.ac.K, .int .i64 v.ac.P, .int .i64 v.ac.N, .int .u64 v.ac.V, .int .u64 v.ac.U, .slice A3 l3 r3, .int .u64 v.an.V, .bool v.an.D, .slice A4' l4 r4] 51))
            have hev1 := (HAL3.out.block w2.heap.size (by omega)).trans hev1
            generalize w3'.alloc (.cells #[.int .i64 v.pk.K, .int .i64 v.pk.A, .int .i64 v.pk.N, .int .i64 v.ac.K, .int .i64 v.ac.P, .int .i64 v.ac.N, .int .u64 v.ac.V, .int .u64 v.ac.U, .slice A3 l3 r3, .int .u64 v.an.V, .bool v.an.D, .slice A4' l4 r4] 51) = WC at hev2 hev1 HAL3 ⊢
            have HE1 : EvAt w2.heap.size WC v.pk v.ac v.an (.slice A1 l1 r1) (.slice A2 l2 r2) := ⟨hev1⟩
            have HE2 : EvAt w3'.heap.size WC v.pk v.ac v.an (.slice A3 l3 r3) (.slice A4' l4 r4) := ⟨hev2⟩
            have e0 := HE1.e0
            have e1 := HE1.e1
            have e2 := HE1.e2
            have e3 := HE1.e3
            have e4 := HE1.e4
            have e5 := HE1.e5
            have e6 := HE1.e6
            have e7 := HE1.e7
            have e8 := HE1.e8
            have e9 := HE1.e9
            have e10 := HE1.e10
            have e11 := HE1.e11
            have d0 := HE2.e0
            have d1 := HE2.e1
            have d2 := HE2.e2
            have d3 := HE2.e3
            have d4 := HE2.e4
            have d5 := HE2.e5
            have d6 := HE2.e6
            have d7 := HE2.e7
            have d8 := HE2.e8
            have d9 := HE2.e9
            have d10 := HE2.e10
            have d11 := HE2.e11
            clear HE1 HE2 hev1 hev2
            have hlC : w3'.heap.size < WC.heap.size := lt_of_cell d0
            have HSM := Lib.hid (same_two WC v _ _ _ _ (HBS.out.1.bytes.below HAL3.out) (HBS.out.2.1.bytes.below HAL3.out) (HBS.out.2.2.1.below HAL3.out) (HBS.out.2.2.2.1.below HAL3.out))
            go_wp2_with (go_at_call 13; refine HSM.out.mono ?_; rintro e w8 ⟨rfl, hb8⟩)
            go_roundw
            case rel =>
              have hp := HPN.out
              have ht := HTL.out
              have hd := ((HBS.out.2.2.2.2.below HAL3.out).below hb8).duo
              exact ⟨i + 1, s2, by go_num, by omega, hd, hp.2.1.trans HNN.out.1, hp.2.2.trans HNN.out.2, by have := hp.1; omega⟩
            case measure => simp [intOf]; omega
          · obtain rfl : i = ps.length := by omega
            obtain ⟨st9, k9, hrb⟩ : ∃ a b, st1.robin q = (a, b) := ⟨_, _, rfl⟩
            have hna9 := St.robin_na st1 q
            rw [hrb] at hna9
            have hrt : st9.tr.length ≤ 1000000 ∧ st9.nw = 32 := by
              have h1 := St.robin_tr st1 q
              rw [hrb] at h1
              have h2 := HTL.out
              have h3 : st9.tr.length ≤ st1.tr.length + q := h1.1
              exact ⟨by omega, h1.2.trans HNN.out.2⟩
            have HTR9 := Lib.hid hrt.1
            have HNW9 := Lib.hid hrt.2
            have HNA9 := Lib.hid (hna9.trans HNN.out.1)
            have HRB := Lib.hid hrb
            obtain ⟨bs, hbs⟩ : ∃ bs, Mb.bl st9.m 0 256 = bs := ⟨_, rfl⟩
            have HBS9 := Lib.hid hbs
            have hq8 : (q : Int) ≤ 255 := by omega
            have hwq : IntKind.i64.wrap (q : Int) = q := IntWalk.i64_in _ (by omega)
            clear hrb hna9 hrt hbs
            obtain ⟨w9, rfl⟩ : ∃ W, W = wr := ⟨_, rfl⟩
            go_wp2_with fail
            go_upto_region 22 with (fail)
            go_cut [134] (fun c wx => c = .bool false ∧ Duo w wx gw ga g1 h1 ax gp qb jb A5 c5 js st9)
            case first =>
              refine wp_region_noPanic ?_
              refine wp_region_held_drew (S := (fun _ => True)) (by kernel_rfl) ?_ (fun hHeld => ?_)
              · first | trivial | ((try dsimp only); go_keep)
              refine wpAnyH_take (i := 0) (oi := _) (v := ?_) rfl (by kernel_rfl) (by kernel_rfl) (by kernel_rfl) (fun _ _ _ h => h) (Or.inl ⟨by rfl, ?_⟩) (by assumption) ?_
              rotate_left
              · (intro w hSw; (try dsimp only at hSw); go_simp; try (with_reducible rfl))
              try simp only [Act.put, Array.reduceGetElem, List.setIfInBounds_toArray, List.set_cons_zero, List.set_cons_succ]
              refine wpAnyH_take (i := 1) (oi := _) (v := ?_) rfl (by kernel_rfl) (by kernel_rfl) (by kernel_rfl) (fun _ _ _ h => h) (Or.inl ⟨by rfl, ?_⟩) (by assumption) ?_
              rotate_left
              · (intro w hSw; (try dsimp only at hSw); go_simp; try (with_reducible rfl))
              try simp only [Act.put, Array.reduceGetElem, List.setIfInBounds_toArray, List.set_cons_zero, List.set_cons_succ]
              refine wpAnyH_take (i := 2) (oi := _) (v := ?_) rfl (by kernel_rfl) (by kernel_rfl) (by kernel_rfl) (fun _ _ _ h => h) (Or.inl ⟨by rfl, ?_⟩) (by assumption) ?_
              rotate_left
              · (intro w hSw; (try dsimp only at hSw); go_simp; try (with_reducible rfl))
              try simp only [Act.put, Array.reduceGetElem, List.setIfInBounds_toArray, List.set_cons_zero, List.set_cons_succ]
              refine wpAnyH_take (i := 4) (oi := _) (v := ?_) rfl (by kernel_rfl) (by kernel_rfl) (by kernel_rfl) (fun _ _ _ h => h) (Or.inl ⟨by rfl, ?_⟩) (by assumption) ?_
              rotate_left
              · (intro w hSw; (try dsimp only at hSw); go_simp; try (with_reducible rfl))
              try simp only [Act.put, Array.reduceGetElem, List.setIfInBounds_toArray, List.set_cons_zero, List.set_cons_succ]
              refine wpAnyH_take (i := 5) (oi := _) (v := ?_) rfl (by kernel_rfl) (by kernel_rfl) (by kernel_rfl) (fun _ _ _ h => h) (Or.inl ⟨by rfl, ?_⟩) (by assumption) ?_
              rotate_left
              · (intro w hSw; (try dsimp only at hSw); go_simp; try (with_reducible rfl))
              try simp only [Act.put, Array.reduceGetElem, List.setIfInBounds_toArray, List.set_cons_zero, List.set_cons_succ]
              refine wpAnyH_take (i := 6) (oi := _) (v := ?_) rfl (by kernel_rfl) (by kernel_rfl) (by kernel_rfl) (fun _ _ _ h => h) (Or.inl ⟨by rfl, ?_⟩) (by assumption) ?_
              rotate_left
              · (intro w hSw; (try dsimp only at hSw); go_simp; try (with_reducible rfl))
              try simp only [Act.put, Array.reduceGetElem, List.setIfInBounds_toArray, List.set_cons_zero, List.set_cons_succ]
              refine wpAnyH_ready (rs := [3]) (by kernel_rfl) (by simp) ?_
              refine AllReadyH.cons (o := _) rfl (fun K9 hK => ?_) ?_
              rotate_left
              · exact AllReadyH.nil
              go_simp
              go_at_call 14
              refine (duo_robin1 (HD.out.both.below (Below.refl _ _).drew) q (by have := HTL.out; omega)).mono ?_
              rintro e w2 ⟨rfl, hd⟩
              rw [HRB.out] at hd ⊢
              have HD2 := Lib.hid hd
              clear hd
              refine hK.out _ _ ?_ (fun hHeld => ?_)
              · first | trivial | ((try dsimp only); go_keep)
              clear hK K9
              try simp only [Act.put, Array.reduceGetElem, List.setIfInBounds_toArray, List.set_cons_zero, List.set_cons_succ]
              refine wpAnyH_ready (rs := [7]) (by kernel_rfl) (by simp) ?_
              refine AllReadyH.cons (o := _) rfl (fun K9 hK => ?_) ?_
              rotate_left
              · exact AllReadyH.nil
              go_simp
              go_at_call 15
              refine (duo_robin2 HD2.out q (by have := HTL.out; omega) HNN.out.2 (by rw [HNN.out.1]; exact hisB.out)).mono ?_
              rintro e w3 ⟨rfl, hd⟩
              rw [HRB.out] at hd ⊢
              obtain ⟨o9, tv8, ts8, p9, pj9, tv9, ts9, hsw9, hpw9, hdis9, hlow9, hout9⟩ := hd.duo
              have HF9 := Lib.hid (And.intro hsw9 (And.intro hpw9 hlow9))
              have HD9 := Lib.hid hd.duo
              have s2 : w3.cell? ⟨gp, 2, none⟩ = some (.int .i64 st9.clock) := by simp [World.cell?, hpw9.head]
              have s0 : w3.cell? ⟨gp, 0, none⟩ = some (.slice (some ⟨qb, 0, none⟩) 256 256) := by simp [World.cell?, hpw9.head]
              have s3 : w3.cell? ⟨gp, 3, none⟩ = some tv9 := by simp [World.cell?, hpw9.head]
              have hlg9 : gp < w3.heap.size := lt_of_cell s2
              have HBP : Hid (∀ W, Below w3.heap.size w3 W → (convert 26 9 (.slice (some ⟨qb, 0, none⟩) 256 256)).run Try.prog W = .ok (.string (strOfNums bs)) W) := Lib.hid fun W hW => by rw [← HBS9.out]; exact (plain_bytes (hpw9.below hW).bytes).conv
              have sc := HBP.out w3 (Below.refl _ _)
              clear hsw9 hpw9 hdis9 hlow9 hout9 hd
              refine hK.out _ _ ?_ (fun hHeld => ?_)
              · first | trivial | ((try dsimp only); go_keep)
              clear hK K9
              try simp only [Act.put, Array.reduceGetElem, List.setIfInBounds_toArray, List.set_cons_zero, List.set_cons_succ]
              refine wpAnyH_change (S' := fun w' => w'.cell? ⟨gp, 2, none⟩ = some (.int .i64 st9.clock) ∧ w'.cell? ⟨gp, 0, none⟩ = some (.slice (some ⟨qb, 0, none⟩) 256 256) ∧ (convert 26 9 (.slice (some ⟨qb, 0, none⟩) 256 256)).run Try.prog w' = .ok (.string (strOfNums bs)) w' ∧ w'.cell? ⟨gp, 3, none⟩ = some tv9) (fun _ _ => trivial) _ _ _ _ ?_
              have hS1 : (fun w' => w'.cell? ⟨gp, 2, none⟩ = some (.int .i64 st9.clock) ∧ w'.cell? ⟨gp, 0, none⟩ = some (.slice (some ⟨qb, 0, none⟩) 256 256) ∧ (convert 26 9 (.slice (some ⟨qb, 0, none⟩) 256 256)).run Try.prog w' = .ok (.string (strOfNums bs)) w' ∧ w'.cell? ⟨gp, 3, none⟩ = some tv9) w3 := ⟨s2, s0, sc, s3⟩
              try dsimp only at hS1
              refine wpAnyH_take (i := 8) (oi := _) (v := ?_) rfl (by kernel_rfl) (by kernel_rfl) (by kernel_rfl) (fun _ _ _ h => h) (Or.inl ⟨by rfl, ?_⟩) (by assumption) ?_
              rotate_left
              · (intro w hSw; (try dsimp only at hSw); go_simp; try (with_reducible rfl))
              try simp only [Act.put, Array.reduceGetElem, List.setIfInBounds_toArray, List.set_cons_zero, List.set_cons_succ]
              refine wpAnyH_take (i := 9) (oi := _) (v := ?_) rfl (by kernel_rfl) (by kernel_rfl) (by kernel_rfl) (fun _ _ _ h => h) (Or.inl ⟨by rfl, ?_⟩) (by assumption) ?_
              rotate_left
              · (intro w hSw; (try dsimp only at hSw); go_simp; try (with_reducible rfl))
              try simp only [Act.put, Array.reduceGetElem, List.setIfInBounds_toArray, List.set_cons_zero, List.set_cons_succ]
              refine wpAnyH_take (i := 10) (oi := _) (v := ?_) rfl (by kernel_rfl) (by kernel_rfl) (by kernel_rfl) (fun _ _ _ h => h) (Or.inl ⟨by rfl, ?_⟩) (by assumption) ?_
              rotate_left
              · (intro w hSw; (try dsimp only at hSw); go_simp; try (with_reducible rfl))
              try simp only [Act.put, Array.reduceGetElem, List.setIfInBounds_toArray, List.set_cons_zero, List.set_cons_succ]
              refine wpAnyH_take (i := 11) (oi := _) (v := ?_) rfl (by kernel_rfl) (by kernel_rfl) (by kernel_rfl) (fun _ _ _ h => h) (Or.inl ⟨by rfl, ?_⟩) (by assumption) ?_
              rotate_left
              · (intro w hSw; (try dsimp only at hSw); go_simp; try (with_reducible rfl))
              try simp only [Act.put, Array.reduceGetElem, List.setIfInBounds_toArray, List.set_cons_zero, List.set_cons_succ]
              refine wpAnyH_take (i := 12) (oi := _) (v := ?_) rfl (by kernel_rfl) (by kernel_rfl) (by kernel_rfl) (fun _ _ _ h => h) (Or.inl ⟨by rfl, ?_⟩) (by assumption) ?_
              rotate_left
              · (intro w hSw; (try dsimp only at hSw); go_simp; try (with_reducible rfl))
              try simp only [Act.put, Array.reduceGetElem, List.setIfInBounds_toArray, List.set_cons_zero, List.set_cons_succ]
              refine wpAnyH_take (i := 13) (oi := _) (v := ?_) rfl (by kernel_rfl) (by kernel_rfl) (by kernel_rfl) (fun _ _ _ h => h) (Or.inl ⟨by rfl, ?_⟩) (by assumption) ?_
              rotate_left
              · (intro w hSw; (try dsimp only at hSw); go_simp; try (with_reducible rfl))
              try simp only [Act.put, Array.reduceGetElem, List.setIfInBounds_toArray, List.set_cons_zero, List.set_cons_succ]
              refine wpAnyH_take (i := 14) (oi := _) (v := ?_) rfl (by kernel_rfl) (by kernel_rfl) (by kernel_rfl) (fun _ _ _ h => h) (Or.inl ⟨by rfl, ?_⟩) (by assumption) ?_
              rotate_left
              · (intro w hSw; (try dsimp only at hSw); go_simp; try (with_reducible rfl))
              try simp only [Act.put, Array.reduceGetElem, List.setIfInBounds_toArray, List.set_cons_zero, List.set_cons_succ]
              refine wpAnyH_take (i := 16) (oi := _) (v := ?_) rfl (by kernel_rfl) (by kernel_rfl) (by kernel_rfl) (fun _ _ _ h => h) (Or.inl ⟨by rfl, ?_⟩) (by assumption) ?_
              rotate_left
              · (intro w hSw; (try dsimp only at hSw); go_simp; try (with_reducible rfl))
              try simp only [Act.put, Array.reduceGetElem, List.setIfInBounds_toArray, List.set_cons_zero, List.set_cons_succ]
              refine wpAnyH_take (i := 17) (oi := _) (v := ?_) rfl (by kernel_rfl) (by kernel_rfl) (by kernel_rfl) (fun _ _ _ h => h) (Or.inl ⟨by rfl, ?_⟩) (by assumption) ?_
              rotate_left
              · (intro w hSw; (try dsimp only at hSw); go_simp; try (with_reducible rfl))
              try simp only [Act.put, Array.reduceGetElem, List.setIfInBounds_toArray, List.set_cons_zero, List.set_cons_succ]
              refine wpAnyH_take (i := 18) (oi := _) (v := ?_) rfl (by kernel_rfl) (by kernel_rfl) (by kernel_rfl) (fun _ _ _ h => h) (Or.inl ⟨by rfl, ?_⟩) (by assumption) ?_
              rotate_left
              · (intro w hSw; (try dsimp only at hSw); go_simp; try (with_reducible rfl))
              try simp only [Act.put, Array.reduceGetElem, List.setIfInBounds_toArray, List.set_cons_zero, List.set_cons_succ]
              refine wpAnyH_take (i := 19) (oi := _) (v := ?_) rfl (by kernel_rfl) (by kernel_rfl) (by kernel_rfl) (fun _ _ _ h => h) (Or.inl ⟨by rfl, ?_⟩) (by assumption) ?_
              rotate_left
              · (intro w hSw; (try dsimp only at hSw); go_simp; try (with_reducible rfl))
              try simp only [Act.put, Array.reduceGetElem, List.setIfInBounds_toArray, List.set_cons_zero, List.set_cons_succ]
              refine wpAnyH_ready (rs := [15]) (by kernel_rfl) (by simp) ?_
              refine AllReadyH.cons (o := _) rfl (fun K9 hK => ?_) ?_
              rotate_left
              · exact AllReadyH.nil
              go_simp
              go_at_call 16
              refine (clock_any HF9.out.1).mono ?_
              rintro e w4 ⟨rfl, rfl⟩
              refine hK.out _ _ ?_ (fun hHeld => ?_)
              · first | trivial | ((try dsimp only); go_keep)
              clear hK K9
              try simp only [Act.put, Array.reduceGetElem, List.setIfInBounds_toArray, List.set_cons_zero, List.set_cons_succ]
              refine wpAnyH_take (i := 20) (oi := _) (v := ?_) rfl (by kernel_rfl) (by kernel_rfl) (by kernel_rfl) (fun _ _ _ h => h) (Or.inl ⟨by rfl, ?_⟩) (by assumption) ?_
              rotate_left
              · (intro w hSw; (try dsimp only at hSw); go_simp; try (with_reducible rfl))
              try simp only [Act.put, Array.reduceGetElem, List.setIfInBounds_toArray, List.set_cons_zero, List.set_cons_succ]
              refine wpAnyH_take (i := 21) (oi := _) (v := ?_) rfl (by kernel_rfl) (by kernel_rfl) (by kernel_rfl) (fun _ _ _ h => h) (Or.inl ⟨by rfl, ?_⟩) (by assumption) ?_
              rotate_left
              · (intro w hSw; (try dsimp only at hSw); go_simp; try (with_reducible rfl))
              try simp only [Act.put, Array.reduceGetElem, List.setIfInBounds_toArray, List.set_cons_zero, List.set_cons_succ]
              refine wpAnyH_take (i := 22) (oi := _) (v := ?_) rfl (by kernel_rfl) (by kernel_rfl) (by kernel_rfl) (fun _ _ _ h => h) (Or.inl ⟨by rfl, ?_⟩) (by assumption) ?_
              rotate_left
              · (intro w hSw; (try dsimp only at hSw); go_simp; try (with_reducible rfl))
              try simp only [Act.put, Array.reduceGetElem, List.setIfInBounds_toArray, List.set_cons_zero, List.set_cons_succ]
              refine wpAnyH_take (i := 23) (oi := _) (v := ?_) rfl (by kernel_rfl) (by kernel_rfl) (by kernel_rfl) (fun _ _ _ h => h) (Or.inl ⟨by rfl, ?_⟩) (by assumption) ?_
              rotate_left
              · (intro w hSw; (try dsimp only at hSw); go_simp; try (with_reducible rfl))
              try simp only [Act.put, Array.reduceGetElem, List.setIfInBounds_toArray, List.set_cons_zero, List.set_cons_succ]
              refine wpAnyH_take (i := 26) (oi := _) (v := ?_) rfl (by kernel_rfl) (by kernel_rfl) (by kernel_rfl) (fun _ _ _ h => h) (Or.inl ⟨by rfl, ?_⟩) (by assumption) ?_
              rotate_left
              · (intro w hSw; (try dsimp only at hSw); go_simp; try (with_reducible rfl))
              try simp only [Act.put, Array.reduceGetElem, List.setIfInBounds_toArray, List.set_cons_zero, List.set_cons_succ]
              refine wpAnyH_take (i := 27) (oi := _) (v := ?_) rfl (by kernel_rfl) (by kernel_rfl) (by kernel_rfl) (fun _ _ _ h => h) (Or.inl ⟨by rfl, ?_⟩) (by assumption) ?_
              rotate_left
              · (intro w hSw; (try dsimp only at hSw); go_simp; try (with_reducible rfl))
              try simp only [Act.put, Array.reduceGetElem, List.setIfInBounds_toArray, List.set_cons_zero, List.set_cons_succ]
              refine wpAnyH_take (i := 28) (oi := _) (v := ?_) rfl (by kernel_rfl) (by kernel_rfl) (by kernel_rfl) (fun _ _ _ h => h) (Or.inl ⟨by rfl, ?_⟩) (by assumption) ?_
              rotate_left
              · (intro w hSw; (try dsimp only at hSw); go_simp; try (with_reducible rfl))
              try simp only [Act.put, Array.reduceGetElem, List.setIfInBounds_toArray, List.set_cons_zero, List.set_cons_succ]
              refine wpAnyH_take (i := 29) (oi := _) (v := ?_) rfl (by kernel_rfl) (by kernel_rfl) (by kernel_rfl) (fun _ _ _ h => h) (Or.inl ⟨by rfl, ?_⟩) (by assumption) ?_
              rotate_left
              · (intro w hSw; (try dsimp only at hSw); go_simp; try (with_reducible rfl))
              try simp only [Act.put, Array.reduceGetElem, List.setIfInBounds_toArray, List.set_cons_zero, List.set_cons_succ]
              refine wpAnyH_take (i := 30) (oi := _) (v := ?_) rfl (by kernel_rfl) (by kernel_rfl) (by kernel_rfl) (fun _ _ _ h => h) (Or.inl ⟨by rfl, ?_⟩) (by assumption) ?_
              rotate_left
              · (intro w hSw; (try dsimp only at hSw); go_simp; try (with_reducible rfl))
              try simp only [Act.put, Array.reduceGetElem, List.setIfInBounds_toArray, List.set_cons_zero, List.set_cons_succ]
              refine wpAnyH_ready (rs := [24]) (by kernel_rfl) (by simp) ?_
              refine AllReadyH.cons (o := _) rfl (fun K9 hK => ?_) ?_
              rotate_left
              · exact AllReadyH.nil
              go_simp
              go_at_call 17
              refine (allBytes_any HF9.out.1.buf).mono ?_
              rintro e w4 ⟨v4, rfl, hby4, hb4⟩
              have hconv4 : (convert 26 9 v4).run Try.prog w4 = .ok (.string (strOfNums bs)) w4 := by have h := hby4.conv; rw [HNW9.out, HBS9.out] at h; exact h
              have k2 := (hb4.cell (p := ⟨gp, 2, none⟩) hlg9).trans s2
              have k0 := (hb4.cell (p := ⟨gp, 0, none⟩) hlg9).trans s0
              have k3 := (hb4.cell (p := ⟨gp, 3, none⟩) hlg9).trans s3
              have kc := HBP.out _ hb4
              have HB4 := Lib.hid hb4
              clear hb4 hby4
              refine hK.out _ _ ?_ (fun hHeld => ?_)
              · first | trivial | ((try dsimp only); go_keep)
              clear hK K9
              try simp only [Act.put, Array.reduceGetElem, List.setIfInBounds_toArray, List.set_cons_zero, List.set_cons_succ]
              refine wpAnyH_ready (rs := [25]) (by kernel_rfl) (by simp) ?_
              refine AllReadyH.cons (o := _) rfl (fun K9 hK => ?_) ?_
              rotate_left
              · exact AllReadyH.nil
              go_simp
              refine hK.out _ _ ?_ (fun hHeld => ?_)
              · first | trivial | ((try dsimp only); go_keep)
              clear hK K9
              try simp only [Act.put, Array.reduceGetElem, List.setIfInBounds_toArray, List.set_cons_zero, List.set_cons_succ]
              refine wpAnyH_take (i := 31) (oi := _) (v := ?_) rfl (by kernel_rfl) (by kernel_rfl) (by kernel_rfl) (fun _ _ _ h => h) (Or.inl ⟨by rfl, ?_⟩) (by assumption) ?_
              rotate_left
              · (intro w hSw; (try dsimp only at hSw); go_simp; try (with_reducible rfl))
              try simp only [Act.put, Array.reduceGetElem, List.setIfInBounds_toArray, List.set_cons_zero, List.set_cons_succ]
              refine wpAnyH_take (i := 32) (oi := _) (v := ?_) rfl (by kernel_rfl) (by kernel_rfl) (by kernel_rfl) (fun _ _ _ h => h) (Or.inl ⟨by rfl, ?_⟩) (by assumption) ?_
              rotate_left
              · (intro w hSw; (try dsimp only at hSw); go_simp; try (with_reducible rfl))
              try simp only [Act.put, Array.reduceGetElem, List.setIfInBounds_toArray, List.set_cons_zero, List.set_cons_succ]
              refine wpAnyH_take (i := 33) (oi := _) (v := ?_) rfl (by kernel_rfl) (by kernel_rfl) (by kernel_rfl) (fun _ _ _ h => h) (Or.inl ⟨by rfl, ?_⟩) (by assumption) ?_
              rotate_left
              · (intro w hSw; (try dsimp only at hSw); go_simp; try (with_reducible rfl))
              try simp only [Act.put, Array.reduceGetElem, List.setIfInBounds_toArray, List.set_cons_zero, List.set_cons_succ]
              refine wpAnyH_take (i := 34) (oi := _) (v := ?_) rfl (by kernel_rfl) (by kernel_rfl) (by kernel_rfl) (fun _ _ _ h => h) (Or.inl ⟨by rfl, ?_⟩) (by assumption) ?_
              rotate_left
              · (intro w hSw; (try dsimp only at hSw); go_simp; try (with_reducible rfl))
              try simp only [Act.put, Array.reduceGetElem, List.setIfInBounds_toArray, List.set_cons_zero, List.set_cons_succ]
              refine wpAnyH_take (i := 36) (oi := _) (v := ?_) rfl (by kernel_rfl) (by kernel_rfl) (by kernel_rfl) (fun _ _ _ h => h) (Or.inl ⟨by rfl, ?_⟩) (by assumption) ?_
              rotate_left
              · (intro w hSw; (try dsimp only at hSw); go_simp; try (with_reducible rfl))
              try simp only [Act.put, Array.reduceGetElem, List.setIfInBounds_toArray, List.set_cons_zero, List.set_cons_succ]
              refine wpAnyH_take (i := 37) (oi := _) (v := ?_) rfl (by kernel_rfl) (by kernel_rfl) (by kernel_rfl) (fun _ _ _ h => h) (Or.inl ⟨by rfl, ?_⟩) (by assumption) ?_
              rotate_left
              · (intro w hSw; (try dsimp only at hSw); go_simp; try (with_reducible rfl))
              try simp only [Act.put, Array.reduceGetElem, List.setIfInBounds_toArray, List.set_cons_zero, List.set_cons_succ]
              refine wpAnyH_take (i := 38) (oi := _) (v := ?_) rfl (by kernel_rfl) (by kernel_rfl) (by kernel_rfl) (fun _ _ _ h => h) (Or.inl ⟨by rfl, ?_⟩) (by assumption) ?_
              rotate_left
              · (intro w hSw; (try dsimp only at hSw); go_simp; try (with_reducible rfl))
              try simp only [Act.put, Array.reduceGetElem, List.setIfInBounds_toArray, List.set_cons_zero, List.set_cons_succ]
              refine wpAnyH_take (i := 39) (oi := _) (v := ?_) rfl (by kernel_rfl) (by kernel_rfl) (by kernel_rfl) (fun _ _ _ h => h) (Or.inl ⟨by rfl, ?_⟩) (by assumption) ?_
              rotate_left
              · (intro w hSw; (try dsimp only at hSw); go_simp; try (with_reducible rfl))
              try simp only [Act.put, Array.reduceGetElem, List.setIfInBounds_toArray, List.set_cons_zero, List.set_cons_succ]
              refine wpAnyH_ready (rs := [35]) (by kernel_rfl) (by simp) ?_
              refine AllReadyH.cons (o := _) rfl (fun K9 hK => ?_) ?_
              rotate_left
              · exact AllReadyH.nil
              go_simp
              go_at_call 18
              refine (trace_any (HF9.out.1.below HB4.out) HTR9.out).mono ?_
              rintro e w5 ⟨A10, c10, qs10, rfl, hm10, ⟨hev10, _, _⟩, hb10⟩
              have hb5 : Below w3.heap.size w3 w5 := HB4.out.trans (hb10.mono HB4.out.size)
              have m2 := (hb5.cell (p := ⟨gp, 2, none⟩) hlg9).trans s2
              have m0 := (hb5.cell (p := ⟨gp, 0, none⟩) hlg9).trans s0
              have m3 := (hb5.cell (p := ⟨gp, 3, none⟩) hlg9).trans s3
              have mc := HBP.out _ hb5
              have HT5 := Lib.hid (And.intro hm10 (And.intro hev10 hb5))
              clear hm10 hev10 hb5 hb10
              refine hK.out _ _ ?_ (fun hHeld => ?_)
              · first | trivial | ((try dsimp only); go_keep)
              clear hK K9
              try simp only [Act.put, Array.reduceGetElem, List.setIfInBounds_toArray, List.set_cons_zero, List.set_cons_succ]
              refine wpAnyH_ready (rs := [40]) (by kernel_rfl) (by simp) ?_
              refine AllReadyH.cons (o := _) rfl (fun K9 hK => ?_) ?_
              rotate_left
              · exact AllReadyH.nil
              go_simp
              go_at_call 13
              refine (evs_same HT5.out.2.1 (plain_evs (HF9.out.2.1.below HT5.out.2.2)) (HT5.out.1.trans HF9.out.2.1.evs.symm)).mono ?_
              rintro e w6 ⟨rfl, hb11⟩
              have hb6 : Below w3.heap.size w3 w6 := HT5.out.2.2.trans (hb11.mono HT5.out.2.2.size)
              have n2 := (hb6.cell (p := ⟨gp, 2, none⟩) hlg9).trans s2
              have n0 := (hb6.cell (p := ⟨gp, 0, none⟩) hlg9).trans s0
              have n3 := (hb6.cell (p := ⟨gp, 3, none⟩) hlg9).trans s3
              have nc := HBP.out _ hb6
              have HB6 := Lib.hid hb6
              clear hb6 hb11
              refine hK.out _ _ ?_ (fun hHeld => ?_)
              · first | trivial | ((try dsimp only); go_keep)
              clear hK K9
              try simp only [Act.put, Array.reduceGetElem, List.setIfInBounds_toArray, List.set_cons_zero, List.set_cons_succ]
              refine wpAnyH_take (i := 41) (oi := _) (v := ?_) rfl (by kernel_rfl) (by kernel_rfl) (by kernel_rfl) (fun _ _ _ h => h) (Or.inl ⟨by rfl, ?_⟩) (by assumption) ?_
              rotate_left
              · (intro w hSw; (try dsimp only at hSw); go_simp; try (with_reducible rfl))
              try simp only [Act.put, Array.reduceGetElem, List.setIfInBounds_toArray, List.set_cons_zero, List.set_cons_succ]
              refine wpAnyH_take (i := 42) (oi := _) (v := ?_) rfl (by kernel_rfl) (by kernel_rfl) (by kernel_rfl) (fun _ _ _ h => h) (Or.inl ⟨by rfl, ?_⟩) (by assumption) ?_
              rotate_left
              · (intro w hSw; (try dsimp only at hSw); go_simp; try (with_reducible rfl))
              try simp only [Act.put, Array.reduceGetElem, List.setIfInBounds_toArray, List.set_cons_zero, List.set_cons_succ]
              refine wpAnyH_done (by kernel_rfl) ?_ _
              refine NoPanic.normal ?_
              go_wp2_with fail
              go_meet
              exact ⟨rfl, HD9.out.below HB6.out⟩
            case rest =>
              obtain ⟨rfl, hduo⟩ := hcut
              have HD9 := Lib.hid hduo
              obtain ⟨w8, rfl⟩ : ∃ W, W = wc := ⟨_, rfl⟩
              have g1c : w8.cell? ⟨gp, 1, none⟩ = some (.slice A5 n c5) := by
                obtain ⟨o, tv, ts, p, pj, tv', ts', h1, h2, h3, h4, h5⟩ := hduo
                rw [← HNA9.out]
                simp [World.cell?, h2.head]
              clear hduo hwq
              go_wp2_with fail
              go_loopw [140] (fun t140 wr => ∃ i : Nat, t140 = .int .i64 i ∧ i ≤ n ∧ Duo w wr gw ga g1 h1 ax gp qb jb A5 c5 js st9) (fun t140 _ => n - (intOf t140).toNat)
              case atStart => exact ⟨0, rfl, Nat.zero_le _, HD9.out⟩
              case round =>
                obtain ⟨i, rfl, hi, hduo⟩ := hrel
                by_cases hlt : i < n
                · have HDU := Lib.hid hduo
                  obtain ⟨o, tv, ts, p, pj, tv', ts', hsw, hpw, hdis, hlow, hout⟩ := hduo
                  have hlt9 : i < st9.na := by rw [HNA9.out]; exact hlt
                  obtain ⟨hJ1, hJ2⟩ := hpw.jrow (by omega)
                  have HJ1 := Lib.hid hJ1
                  rw [HJ1.out]
                  obtain ⟨j0, j1, j2, j3, j4, j5, _, _⟩ := hpw.job i hlt9
                  have hroom := hpw.room
                  rw [HNA9.out] at hroom
                  have HS := Lib.hid hsw
                  have HPW := Lib.hid hpw
                  have HZ := Lib.hid (And.intro hdis (And.intro hlow hout))
                  have hL := (hisB.out i hlt).2
                  have hi9 : (i : Int) < n := by omega
                  have hn9 : (n : Int) ≤ 9223372036854775807 := by omega
                  have hdB : st9.deadB (i : Int) = st9.dead i := by
                    unfold St.deadB hasB
                    rw [Int.toNat_natCast, decide_eq_true (by omega : (0 : Int) ≤ i), decide_eq_true (by omega : (i : Int) < st9.na)]
                    rfl
                  have HDB := Lib.hid hdB
                  clear hdB
                  obtain ⟨BA, Bc, hBf, _, _⟩ := HPW.out.fits i hlt9
                  rw [hBf] at j3
                  have HBF := Lib.hid hBf
                  clear hBf
                  go_upto_region 27 with (fail)
                  have hjx := Go.Deep.blk_alloc_new wr (.cells #[.int .i64 (((js i).K : Int) % 3), .int .i64 (js i).at_, .int .i64 (js i).num, (.slice BA (js i).L Bc), .slice (pj i).A (pj i).cnt (pj i).cap, .bool (st9.dead i)] 61)
                  have HAL := Lib.hid ((Below.refl wr.heap.size wr).alloc (Nat.le_refl _) (.cells #[.int .i64 (((js i).K : Int) % 3), .int .i64 (js i).at_, .int .i64 (js i).num, (.slice BA (js i).L Bc), .slice (pj i).A (pj i).cnt (pj i).cap, .bool (st9.dead i)] 61))
                  clear j0 j1 j2 j3 j4 j5
                  generalize wr.alloc (.cells #[.int .i64 (((js i).K : Int) % 3), .int .i64 (js i).at_, .int .i64 (js i).num, (.slice BA (js i).L Bc), .slice (pj i).A (pj i).cnt (pj i).cap, .bool (st9.dead i)] 61) = WA at hjx HAL ⊢
                  have hlb : wr.heap.size < WA.heap.size := (Array.getElem?_eq_some_iff.1 hjx).1
                  have d0 : WA.cell? ⟨wr.heap.size, 0, none⟩ = some (.int .i64 (((js i).K : Int) % 3)) := by simp [World.cell?, hjx]
                  have d1 : WA.cell? ⟨wr.heap.size, 1, none⟩ = some (.int .i64 (js i).at_) := by simp [World.cell?, hjx]
                  have d2 : WA.cell? ⟨wr.heap.size, 2, none⟩ = some (.int .i64 (js i).num) := by simp [World.cell?, hjx]
                  have d3 : WA.cell? ⟨wr.heap.size, 3, none⟩ = some (.slice BA (js i).L Bc) := by simp [World.cell?, hjx]
                  have d4 : WA.cell? ⟨wr.heap.size, 4, none⟩ = some (.slice (pj i).A (pj i).cnt (pj i).cap) := by simp [World.cell?, hjx]
                  have d5 : WA.cell? ⟨wr.heap.size, 5, none⟩ = some (.bool (st9.dead i)) := by simp [World.cell?, hjx]
                  clear hjx
                  have HNX := (HPW.out.below HAL.out).next hlt9 hL (st9.dead i)
                  rw [HBF.out] at HNX
                  have HNX := Lib.hid HNX
                  by_cases hmore : 8 * (pj i).cnt < (js i).len
                  · have hen : st9.endB (i : Int) = false := by
                      unfold St.endB
                      obtain ⟨ys, hl⟩ := HPW.out.link i hlt9
                      rw [Int.toNat_natCast, hl, Mc.next_copy, if_neg (by omega)]
                      simp
                    have HEB := Lib.hid hen
                    have HNX2 : Hid (Calls Try.prog 19 #[.agg #[.int .i64 (((js i).K : Int) % 3), .int .i64 (js i).at_, .int .i64 (js i).num, (.slice BA (js i).L Bc), .slice (pj i).A (pj i).cnt (pj i).cap, .bool (st9.dead i)]] WA fun e w' => Below WA.heap.size WA w' ∧ ∃ B L c, e = .returned (.tuple #[.agg #[.int .i64 (js i).kd.kind, .int .i64 ((js i).kd.place + (8 * (pj i).cnt : Nat)), .int .i64 (Cy.nx ((js i).len - 8 * (pj i).cnt) : Nat), .int .u64 0, .int .u64 0, .slice B L c], .bool true])) :=
                      Lib.hid (HNX.out.mono fun e w' hs => ⟨hs.1, hs.2.elim (fun h => by obtain ⟨_, B, L, c, e, _⟩ := h; exact ⟨B, L, c, e⟩) (fun h => absurd h.1 (by omega))⟩)
                    clear hmore hen HNX
                    go_upto_region 28 with (go_at_call 19; refine HNX2.out.mono ?_; rintro e w5 ⟨hb5, B, L, c, rfl⟩)
                    have HB6 := Lib.hid ((HAL.out.trans (hb5.mono HAL.out.size)).alloc (Nat.le_trans HAL.out.size hb5.size) (.cells #[.int .i64 (js i).kd.kind, .int .i64 ((js i).kd.place + 8 * ((pj i).cnt : Int)), .int .i64 (Cy.nx ((js i).len - 8 * (pj i).cnt) : Nat), .int .u64 0, .int .u64 0, .slice B L c] 47))
                    have hd6 := (((hb5.alloc hb5.size (.cells #[.int .i64 (js i).kd.kind, .int .i64 ((js i).kd.place + 8 * ((pj i).cnt : Int)), .int .i64 (Cy.nx ((js i).len - 8 * (pj i).cnt) : Nat), .int .u64 0, .int .u64 0, .slice B L c] 47)).cell (p := ⟨wr.heap.size, 5, none⟩) hlb).trans d5)
                    clear hb5 d0 d1 d2 d3 d4 d5
                    generalize w5.alloc (.cells #[.int .i64 (js i).kd.kind, .int .i64 ((js i).kd.place + 8 * ((pj i).cnt : Int)), .int .i64 (Cy.nx ((js i).len - 8 * (pj i).cnt) : Nat), .int .u64 0, .int .u64 0, .slice B L c] 47) = W6 at HB6 hd6 ⊢
                    have HSW6 := Lib.hid (HS.out.below HB6.out)
                    go_region_held3 (fun w' => w'.cell? ⟨wr.heap.size, 5, none⟩ = some (.bool (st9.dead i))) (go_keep)
                      (first
                        | (go_at_call 20; refine (dead_any (HSW6.out.drew) (i : Int)).mono ?_; rintro e w7 ⟨rfl, rfl⟩; rw [HDB.out])
                        | (go_at_call 21; refine (ended_any (HSW6.out.drew) (i : Int)).mono ?_; rintro e w8' ⟨rfl, hb8⟩; rw [HEB.out]; have hb7 := below_drew hb8; have hd7 := (hb7.cell (p := ⟨wr.heap.size, 5, none⟩) (lt_of_cell hd6)).trans hd6))
                    go_wp2
                    exact ⟨⟨i + 1, rfl, hlt, by rw [← HJ1.out]; exact HDU.out.below (HB6.out.trans (hb7.mono HB6.out.size))⟩, by simp only [intOf]; omega⟩
                  · have hen : st9.endB (i : Int) = true := by
                      unfold St.endB hasB
                      obtain ⟨ys, hl⟩ := HPW.out.link i hlt9
                      rw [Int.toNat_natCast, hl, Mc.next_copy, if_pos (by omega), decide_eq_true (by omega : (0 : Int) ≤ i), decide_eq_true (by omega : (i : Int) < st9.na)]
                      rfl
                    have HEB := Lib.hid hen
                    have HNX2 : Hid (Calls Try.prog 19 #[.agg #[.int .i64 (((js i).K : Int) % 3), .int .i64 (js i).at_, .int .i64 (js i).num, (.slice BA (js i).L Bc), .slice (pj i).A (pj i).cnt (pj i).cap, .bool (st9.dead i)]] WA fun e w' => Below WA.heap.size WA w' ∧ e = .returned (.tuple #[.agg #[.int .i64 0, .int .i64 0, .int .i64 0, .int .u64 0, .int .u64 0, .slice none 0 0], .bool false])) :=
                      Lib.hid (HNX.out.mono fun e w' hs => ⟨hs.1, hs.2.elim (fun h => absurd h.1 (by omega)) (fun h => h.2)⟩)
                    clear hmore hen HNX
                    go_upto_region 28 with (go_at_call 19; refine HNX2.out.mono ?_; rintro e w5 ⟨hb5, rfl⟩)
                    have HB6 := Lib.hid ((HAL.out.trans (hb5.mono HAL.out.size)).alloc (Nat.le_trans HAL.out.size hb5.size) (.cells #[.int .i64 0, .int .i64 0, .int .i64 0, .int .u64 0, .int .u64 0, .slice none 0 0] 47))
                    have hd6 := (((hb5.alloc hb5.size (.cells #[.int .i64 0, .int .i64 0, .int .i64 0, .int .u64 0, .int .u64 0, .slice none 0 0] 47)).cell (p := ⟨wr.heap.size, 5, none⟩) hlb).trans d5)
                    clear hb5 d0 d1 d2 d3 d4 d5
                    generalize w5.alloc (.cells #[.int .i64 0, .int .i64 0, .int .i64 0, .int .u64 0, .int .u64 0, .slice none 0 0] 47) = W6 at HB6 hd6 ⊢
                    have HSW6 := Lib.hid (HS.out.below HB6.out)
                    go_region_held3 (fun w' => w'.cell? ⟨wr.heap.size, 5, none⟩ = some (.bool (st9.dead i))) (go_keep)
                      (first
                        | (go_at_call 20; refine (dead_any (HSW6.out.drew) (i : Int)).mono ?_; rintro e w7 ⟨rfl, rfl⟩; rw [HDB.out])
                        | (go_at_call 21; refine (ended_any (HSW6.out.drew) (i : Int)).mono ?_; rintro e w8' ⟨rfl, hb8⟩; rw [HEB.out]; have hb7 := below_drew hb8; have hd7 := (hb7.cell (p := ⟨wr.heap.size, 5, none⟩) (lt_of_cell hd6)).trans hd6))
                    go_wp2
                    exact ⟨⟨i + 1, rfl, hlt, by rw [← HJ1.out]; exact HDU.out.below (HB6.out.trans (hb7.mono HB6.out.size))⟩, by simp only [intOf]; omega⟩
                · obtain rfl : i = n := by omega
                  have HD := Lib.hid hduo.low
                  clear hduo
                  go_wp2
                  go_ret
                  exact ⟨rfl, HD.out⟩

theorem schPlaysLaw_all (w : World) (A : Option Addr) (n cap : Nat) (js : Nat → Jb) (hj : JbsAt w A n js) (hcap : n ≤ cap) (hcap2 : cap ≤ 9223372036854775807) (A2 : Option Addr) (cap2 : Nat) (ps : List Pk) (hps : PksAt w A2 ps) (hc : ps.length ≤ cap2) (hc2 : cap2 ≤ 9223372036854775807) (q : Nat) (hq : q < 256) :
    Calls Try.prog 3 #[.slice A n cap, .slice A2 ps.length cap2, .int .u8 q] w (TrueBelow w) := by
  by_cases h : 6 < n ∨ 120 < ps.length
  · exact schPlaysLaw_out w A n cap A2 ps.length cap2 (by omega) (by omega) q h
  · exact schPlaysLaw_main w A n cap js hj hcap hcap2 A2 cap2 ps hps hc hc2 (by omega) (by omega) q hq

theorem schPlaysLaw_int (w : World) (A : Option Addr) (n cap : Nat) (js : Nat → Jb) (hj : JbsAt w A n js) (hcap : n ≤ cap) (hcap2 : cap ≤ 9223372036854775807) (A2 : Option Addr) (cap2 : Nat) (ps : List Pk) (hps : PksAt w A2 ps) (hc : ps.length ≤ cap2) (hc2 : cap2 ≤ 9223372036854775807) (a : Int) (ha : 0 ≤ a ∧ a ≤ 255) :
    Calls Try.prog 3 #[.slice A n cap, .slice A2 ps.length cap2, .int .u8 a] w (TrueBelow w) := by
  obtain ⟨q, rfl⟩ := Int.eq_ofNat_of_zero_le ha.1
  exact schPlaysLaw_all w A n cap js hj hcap hcap2 A2 cap2 ps hps hc hc2 q (by omega)
end Go.Proofs.Ytegjnejekakeiaa
namespace Go.Proofs.Ytegjnejekakeiaa
open Go.ChangeShapes Go.WideShapes Go.ChangeAt Go.RowKit

set_option maxRecDepth 100000 in
theorem schedPlays_lifted (os : Os) (started : os.Started) (H : Type) (enc : TypeId × Value → H) :
    ReturnsInHanded {} Try.checked os 3 .any (Rows.schedPlaysSpec.pre6 enc Try.prog Try.f3 Rows.schedPlaysRow.domain false) (Rows.schedPlaysSpec.post enc Try.prog Try.f3 false true false false) := by
  refine returnsInHanded_of_change (C := Try.checked) own started (by kernel_rfl) Try.func3
    (ChangeSpec.witness6 (enc := enc) (C := Try.checked) false ⟨#[], #[.slice none 0 0, .slice none 0 0, .int .u8 0], []⟩ 8 (by kernel_rfl) (by kernel_rfl) (by kernel_rfl) (by kernel_rfl)) ?_
  intro W base args ds gs before hval0 hW _ _
  have hval : ∀ (j : Nat) t v, Try.f3.params[j]? = some t → args[j]? = some v → Value.okWide Try.prog W .any base t v := hval0
  have hW' := hW
  obtain ⟨p, q, hA0, hV, rfl, hfz, hnd⟩ := hW
  have hA : DataW.TrodAll enc Try.prog W 0 (fun _ => true) true Try.f3.params.toList args.toList ds p := hA0
  rw [Try.params3] at hA hval
  obtain ⟨v0, v1, v2, d0, d1, d2, p0, p1, p2, rfl, rfl, rfl, h0, h1, h2⟩ := trodAll_three hA
  obtain ⟨rfl, rfl⟩ := trodVars_none hV
  obtain ⟨A0, L0, cap0, T0, rfl, hT0, hl0, hc0⟩ := open_jobs (hval 0 22 v0 rfl rfl) h0
  obtain ⟨A1, cap1, ps1, rfl, hT1, hl1, hc1⟩ := open_picks (hval 1 23 v1 rfl rfl) h1
  obtain ⟨a2, rfl, rfl, rfl, wa2⟩ := open_int Try.underlying5 (hval 2 5 v2 rfl rfl) h2
  have k2 := bounds_u8 wa2
  clear hA0 hval0
  exact (schPlaysLaw_int W A0 L0 cap0 T0 hT0 hl0 hc0 A1 cap1 ps1 hT1 hl1 hc1 a2 k2).mono fun e W' ⟨he, hbel⟩ => ⟨_, he, law_post laidOut (by kernel_rfl) rfl Try.underlying4 rfl hW' rfl hbel⟩

theorem schedPlays_row : Rows.SchedPlaysSaid :=
  OpenClaim.holds_of_wide 3 Try.f3 rfl rfl rfl rfl rfl rfl rfl ⟨rfl, rfl, rfl, rfl, rfl⟩ rfl rfl rfl rfl rfl (by kernel_rfl) Try.func3 (by kernel_rfl)
    (of_decide_eq_true (by kernel_rfl)) (by unfold Func.isWrapper; first | (rw [if_pos (by decide +kernel)]; kernel_rfl) | (rw [if_neg (by decide +kernel)]; exact ⟨rfl, rfl⟩))
    (fun os started H enc _ => schedPlays_lifted os started H enc)

theorem schedPlays_holds : Rows.SchedPlaysSaid := schedPlays_row
end Go.Proofs.Ytegjnejekakeiaa
