/-
  Layer 6's plain Robin, walked.
  Layer 6's statements: two schedulers side by side; bytes that are written over.
  Arguments of layer 6's statements opened: a slice of jobs, a slice of picks.
  Whether two accesses are one (layer 2's plain answer), walked for two that are.
  Whether two lists of events are one (layer 6's plain answer), walked for two that are.
  Layer 2's Count and Bytes; parted, since not every seat reaches them.
  Layer 6: the scheduler and the plain world side by side.
-/
import Derived.Test.YtegjnejekakeiaaP10
import Derived.Test.YtegjnejekakeiaaP06
import Derived.Test.YtegjnejekakeiaaP07
import Derived.Deep.Slices
import Derived.Test.YtegjnejekakeiaaP01
import Derived.Deep.RegionHeld3
import Derived.Test.YtegjnejekakeiaaP02
namespace Go.Proofs.Ytegjnejekakeiaa
open Go.RowKit

def flag : Value → Nat
  | .bool true => 1
  | _ => 0

theorem St.pick_act {st : St} {i : Nat} {a : Ac} (hi : i < st.na) (hd : st.dead i = false) (hn : (st.ms i).next = some a) : (st.pick ⟨0, i, 0⟩).1 = st.act i a := by
  have h0 : st.chk ⟨0, i, 0⟩ = 0 := by
    unfold St.chk hasB
    rw [if_pos (.inl rfl)]
    simp only [Int.toNat_natCast]
    rw [if_pos (by simp; omega), if_neg (by rw [hd]; simp)]
  have hn2 : (st.ms ((⟨0, i, 0⟩ : Pk).A).toNat).next = some a := hn
  unfold St.act
  by_cases he : a.err st.nw = 0
  · rw [St.pick_ok h0 rfl hn2 he, if_pos he]; rfl
  · rw [St.pick_bad h0 rfl hn2 he, if_neg he]; rfl

/-- The plain world stands in memory, reached from w without a turn of what isn't its own. -/
def PWent (w : World) (o : Nat → Pt) (gp q jb : Nat) (JA : Option Addr) (c5 : Nat) (js : Nat → Jb) (st' : St) (w' : World) : Prop :=
  ∃ o' pj' tv' ts', PW w' o' gp q jb JA c5 js pj' tv' ts' st' ∧ Touch (Mut o) w w' ∧ ∀ k, k < w.heap.size → o' k = o k

theorem PWent.below {w w1 w2 : World} {o : Nat → Pt} {gp q jb : Nat} {JA : Option Addr} {c5 : Nat} {js : Nat → Jb} {st' : St} (h : PWent w o gp q jb JA c5 js st' w1) (hb : Below w1.heap.size w1 w2) : PWent w o gp q jb JA c5 js st' w2 := by
  obtain ⟨o', pj', tv', ts', h1, h2, h3⟩ := h
  exact ⟨o', pj', tv', ts', h1.below hb, h2.trans (Touch.of_below hb), h3⟩

theorem pwent_pick {w w1 w2 : World} {o o1 : Nat → Pt} {gp q jb : Nat} {JA : Option Addr} {c5 : Nat} {js : Nat → Jb} {st' : St} {r : Int} {v : Ev} {e : Ending} (ht : Touch (Mut o) w w1) (ho : ∀ k, k < w.heap.size → o1 k = o k) (h : PlainAny o1 gp q jb JA c5 js st' r v w1 e w2) :
    PWent w o gp q jb JA c5 js st' w2 := by
  obtain ⟨o', A1, l1, q1, A2, l2, q2, pj', tv', ts', _, _, _, h1, h2, h3⟩ := h
  exact ⟨o', pj', tv', ts', h1, touch_chain ht h2 ho, fun k hk => (h3 k (Nat.lt_of_lt_of_le hk ht.size)).trans (ho k hk)⟩

set_option maxRecDepth 100000 in
set_option maxHeartbeats 4000000 in
theorem plainRobin_any {w : World} {o : Nat → Pt} {gp q jb : Nat} {JA : Option Addr} {c5 : Nat} {js : Nat → Jb} {pj : Nat → PJ} {tv : Value} {ts : List Tx} {st : St} (h : PW w o gp q jb JA c5 js pj tv ts st) (hnw : st.nw = 32) (hok : JbsOk js st.na) (most : Nat) (hlong : st.tr.length + most ≤ 1000000) :
    Calls Try.prog 15 #[.pointer (some ⟨gp, 0, none⟩), .int .i64 most] w
      fun e w' => e = .returned (.int .i64 (st.robin most).2) ∧ PWent w o gp q jb JA c5 js (st.robin most).1 w' := by
  have HS := Lib.hid h
  obtain ⟨res, hres⟩ : ∃ res, St.rob most st 0 most = res := ⟨_, rfl⟩
  unfold St.robin
  rw [hres]
  have HRES := Lib.hid hres
  have hmost : most ≤ 1000000 := by omega
  have HL := Lib.hid hlong
  have HNW := Lib.hid hnw
  have HOK := Lib.hid hok
  clear h hres hlong hnw hok
  go_enter Try.func15, Try.ntmps15
  go_wp2
  go_loopw [5, 6] (fun t5 t6 wr => ∃ (f n : Nat) (gg : Bool) (st1 : St), t5 = .int .i64 n ∧ t6 = .bool gg ∧ n ≤ most ∧ (gg = true → most - n ≤ f ∧ St.rob f st1 n most = res) ∧ (gg = false → (st1, n) = res) ∧ st1.na = st.na ∧ st1.nw = 32 ∧ st1.tr.length + (most - n) ≤ 1000000 ∧ PWent w o gp q jb JA c5 js st1 wr) (fun t5 t6 _ => 2 * (most - (intOf t5).toNat) + flag t6)
  case atStart => exact ⟨most, 0, true, st, rfl, rfl, Nat.zero_le _, fun _ => ⟨Nat.le_refl _, HRES.out⟩, (fun e => by cases e), rfl, HNW.out, HL.out, ⟨o, pj, tv, ts, HS.out, Touch.refl _ _, fun _ _ => rfl⟩⟩
  case round =>
    obtain ⟨f, n, gg, st1, rfl, rfl, hn, hgt, hgf, hna1, hnw1, hlen, hpw⟩ := hrel
    have HPW := Lib.hid hpw
    have HNA := Lib.hid (And.intro hna1 hnw1)
    have HLEN := Lib.hid hlen
    cases gg with
    | false =>
      have HR := Lib.hid (hgf rfl)
      clear hgt hgf hpw hna1 hnw1 hlen
      go_wp2
      go_ret
      exact ⟨by rw [← HR.out]; rfl, by rw [← HR.out]; exact HPW.out⟩
    | true =>
      have HF := Lib.hid (hgt rfl)
      clear hgt hgf hpw hna1 hnw1 hlen
      obtain ⟨rr, hrr⟩ : ∃ rr, St.rnd st1.na st1 0 0 (most - n) = rr := ⟨_, rfl⟩
      have HRR := Lib.hid hrr
      clear hrr
      obtain ⟨JA9, JAn, g1⟩ : ∃ JA9 N9, wr.cell? ⟨gp, 1, none⟩ = some (.slice JA9 N9 c5) ∧ JA9 = JA ∧ N9 = st.na := by
        obtain ⟨o', pj', tv', ts', h1, _⟩ := HPW.out
        exact ⟨JA, st1.na, by simp [World.cell?, h1.head], rfl, HNA.out.1⟩
      obtain ⟨g1, rfl, rfl⟩ := g1
      go_upto_region 5 with (fail)
      go_wp2
      go_loopw [5, 6, 16] (fun t5 t6 t16 wx => ∃ (i n2 : Nat) (st2 : St), t5 = .int .i64 n2 ∧ t6 = .bool (decide (n < n2)) ∧ t16 = .int .i64 i ∧ i ≤ st.na ∧ n ≤ n2 ∧ n2 ≤ most ∧ St.rnd (st.na - i) st2 i (n2 - n) (most - n) = rr ∧ st2.na = st.na ∧ st2.nw = 32 ∧ st2.tr.length + (most - n2) ≤ 1000000 ∧ PWent w o gp q jb JA9 c5 js st2 wx) (fun _ _ t16 _ => st.na - (intOf t16).toNat)
      case atStart =>
        refine ⟨0, n, st1, rfl, by simp, rfl, Nat.zero_le _, Nat.le_refl _, hn, ?_, HNA.out.1, HNA.out.2, HLEN.out, HPW.out⟩
        rw [Nat.sub_zero, Nat.sub_self, ← HNA.out.1]
        exact HRR.out
      case round =>
        obtain ⟨i, n2, st2, rfl, rfl, rfl, hile, hn2, hn2m, hrd, hna2, hnw2, hlen2, hpw2⟩ := hrel
        have HRD := Lib.hid hrd
        have HN2 := Lib.hid (And.intro hna2 hnw2)
        have HLEN2 := Lib.hid hlen2
        clear hrd hna2 hnw2 hlen2
        by_cases hi : i < st.na
        · have hi2 : i < st2.na := by rw [HN2.out.1]; exact hi
          obtain ⟨o2, pj2, tv2, ts2, hw2, ht2, ho2⟩ := hpw2
          have HW2 := Lib.hid hw2
          have HTT := Lib.hid (And.intro ht2 ho2)
          clear hw2 ht2 ho2
          have g2 : wr.cell? ⟨gp, 1, none⟩ = some (.slice JA9 st.na c5) := by rw [← HN2.out.1]; simp [World.cell?, HW2.out.head]
          obtain ⟨hJ1, hJ2⟩ := HW2.out.jrow (by omega)
          have HJ1 := Lib.hid hJ1
          have HJ2 := Lib.hid hJ2
          clear hJ1 hJ2
          rw [HJ1.out] at g2 ⊢
          have hroom := HW2.out.room
          rw [HN2.out.1] at hroom
          obtain ⟨j0, j1, j2, j3, j4, j5, _, _⟩ := HW2.out.job i hi2
          have hstep : ∀ m : Nat, St.rnd (st.na - i) st2 i (n2 - n) (most - n) = rr → st.na - i = m + 1 → st.na - (i + 1) = m := fun m _ h => by omega
          have hsub : st.na - i = (st.na - (i + 1)) + 1 := by omega
          have HSUB := Lib.hid hsub
          clear hsub hstep
          have hi9 : (i : Int) < st.na := by omega
          have hna9 : (st.na : Int) ≤ 9223372036854775807 := by omega
          have hL := (HOK.out i hi).2
          by_cases hmore : 8 * (pj2 i).cnt < (js i).len
          · have HNX : Hid (∀ D, Calls Try.prog 19 #[.agg #[.int .i64 (((js i).K : Int) % 3), .int .i64 (js i).at_, .int .i64 (js i).num, (pj2 i).B, .slice (pj2 i).A (pj2 i).cnt (pj2 i).cap, .bool D]] wr fun e w' => Below wr.heap.size wr w' ∧ ∃ B L c, e = .returned (.tuple #[.agg #[.int .i64 (js i).kd.kind, .int .i64 ((js i).kd.place + (8 * (pj2 i).cnt : Nat)), .int .i64 (Cy.nx ((js i).len - 8 * (pj2 i).cnt) : Nat), .int .u64 0, .int .u64 0, .slice B L c], .bool true])) :=
              Lib.hid fun D => (HW2.out.next hi2 hL D).mono fun e w' hs => ⟨hs.1, hs.2.elim (fun h => by obtain ⟨_, B, L, c, e, _⟩ := h; exact ⟨B, L, c, e⟩) (fun h => absurd h.1 (by omega))⟩
            obtain ⟨ac, hac⟩ : ∃ ac, (st2.ms i).next = some ac := by
              obtain ⟨ys, hl⟩ := HW2.out.link i hi2
              rw [hl, Mc.next_copy, if_neg (by omega)]
              exact ⟨_, rfl⟩
            have HAC := Lib.hid hac
            clear hac hmore
            cases hd : st2.dead i with
            | true =>
              have HD := Lib.hid hd
              rw [hd] at j5
              clear hd
              go_upto_region 9 with (go_at_call 19; refine (HNX.out _).mono ?_; rintro e w5 ⟨hb5, B, L, c, rfl⟩)
              have hb6 := hb5.alloc hb5.size (.cells #[.int .i64 (js i).kd.kind, .int .i64 ((js i).kd.place + 8 * ((pj2 i).cnt : Int)), .int .i64 (Cy.nx ((js i).len - 8 * (pj2 i).cnt) : Nat), .int .u64 0, .int .u64 0, .slice B L c] 47)
              have hjl : jb < wr.heap.size := lt_of_cell j5
              have hgl : gp < wr.heap.size := lt_of_cell g2
              have j5 := (hb6.cell (p := ⟨jb, i * 6 + 5, none⟩) hjl).trans j5
              have g2 := (hb6.cell (p := ⟨gp, 1, none⟩) hgl).trans g2
              have HB6 := Lib.hid hb6
              clear hb5 hb6 hjl hgl j0 j1 j2 j3 j4
              generalize w5.alloc (.cells #[.int .i64 (js i).kd.kind, .int .i64 ((js i).kd.place + 8 * ((pj2 i).cnt : Int)), .int .i64 (Cy.nx ((js i).len - 8 * (pj2 i).cnt) : Nat), .int .u64 0, .int .u64 0, .slice B L c] 47) = W6 at HB6 j5 g2 ⊢
              go_wp2
              go_roundw
              case rel =>
                have hr := HRD.out
                have hnm : n2 - n ≠ most - n ∨ n2 - n = most - n := by omega
                refine ⟨i + 1, n2, st2, rfl, rfl, by go_num, by omega, hn2, hn2m, ?_, HN2.out.1, HN2.out.2, HLEN2.out, (by rw [← HJ1.out]; exact ⟨o2, pj2, tv2, ts2, HW2.out.below HB6.out, HTT.out.1.trans (Touch.of_below HB6.out), HTT.out.2⟩)⟩
                rcases hnm with hnm | hnm
                · rw [HSUB.out, St.rnd_dead hnm HD.out] at hr
                  exact hr
                · rw [hnm, St.rnd_most] at hr ⊢
                  exact hr
              case measure => simp [intOf]; omega
            | false =>
              have HD := Lib.hid hd
              rw [hd] at j5
              clear hd
              go_upto_region 9 with (go_at_call 19; refine (HNX.out _).mono ?_; rintro e w5 ⟨hb5, B, L, c, rfl⟩)
              have hb6 := hb5.alloc hb5.size (.cells #[.int .i64 (js i).kd.kind, .int .i64 ((js i).kd.place + 8 * ((pj2 i).cnt : Int)), .int .i64 (Cy.nx ((js i).len - 8 * (pj2 i).cnt) : Nat), .int .u64 0, .int .u64 0, .slice B L c] 47)
              have hjl : jb < wr.heap.size := lt_of_cell j5
              have hgl : gp < wr.heap.size := lt_of_cell g2
              have j5 := (hb6.cell (p := ⟨jb, i * 6 + 5, none⟩) hjl).trans j5
              have g2 := (hb6.cell (p := ⟨gp, 1, none⟩) hgl).trans g2
              have HB6 := Lib.hid hb6
              clear hb5 hb6 hjl hgl j0 j1 j2 j3 j4
              generalize w5.alloc (.cells #[.int .i64 (js i).kd.kind, .int .i64 ((js i).kd.place + 8 * ((pj2 i).cnt : Int)), .int .i64 (Cy.nx ((js i).len - 8 * (pj2 i).cnt) : Nat), .int .u64 0, .int .u64 0, .slice B L c] 47) = W6 at HB6 j5 g2 ⊢
              by_cases hge : most ≤ n2
              · have hge9 : (most : Int) ≤ n2 := by omega
                go_wp2
                go_ret
                obtain rfl : n2 = most := by omega
                have hr := HRD.out
                rw [St.rnd_most] at hr
                obtain ⟨hf1, hf2⟩ := HF.out
                have hfin : res = (st2, n2) := by
                  by_cases hnm : n < n2
                  · obtain ⟨f, rfl⟩ : ∃ f', f = f' + 1 := ⟨f - 1, by omega⟩
                    rw [St.rob_next _ _ _ _ hnm (by rw [HRR.out, ← hr]; show ¬ (n2 - n = 0); omega), HRR.out, ← hr, show n + (st2, n2 - n).2 = n2 by show n + (n2 - n) = n2; omega, St.rob_end _ _ _ _ (Nat.lt_irrefl _)] at hf2
                    exact hf2.symm
                  · obtain rfl : n = n2 := by omega
                    rw [St.rob_end _ _ _ _ hnm] at hf2
                    have hq := HRR.out
                    rw [Nat.sub_self, St.rnd_most, ← hr] at hq
                    injection hq with hq _
                    rw [← hf2, hq]
                rw [hfin]
                exact ⟨rfl, ⟨o2, pj2, tv2, ts2, HW2.out.below HB6.out, HTT.out.1.trans (Touch.of_below HB6.out), HTT.out.2⟩⟩
              · have hlt9 : ¬ (most : Int) ≤ n2 := by omega
                have HP6 := Lib.hid (plainPick_any (HW2.out.below HB6.out) HN2.out.2 (by rw [HN2.out.1]; exact HOK.out) ⟨0, i, 0⟩ (by have := HLEN2.out; omega))
                go_wp2_with (go_at_call 12; refine HP6.out.mono ?_; intro e w7 hpa; have HPA := Lib.hid (pwent_pick (HTT.out.1.trans (Touch.of_below HB6.out)) HTT.out.2 hpa); obtain ⟨o7, A1, l1, q1, A2, l2, q2, pj7, tv7, ts7, rfl, hpx⟩ := hpa; clear hpx)
                go_roundw
                case rel =>
                  have hr := HRD.out
                  have hpw7 := HPA.out
                  rw [St.pick_act hi2 HD.out HAC.out] at hpw7
                  have htr := St.act_tr st2 i ac
                  have hl2 := HLEN2.out
                  refine ⟨i + 1, n2 + 1, st2.act i ac, by go_num, ?_, by go_num, by omega, by omega, by omega, ?_, (St.act_na st2 i ac).trans HN2.out.1, ?_, by omega, (by rw [← HJ1.out]; exact hpw7)⟩
                  · rw [decide_eq_true (by omega : n < n2 + 1)]
                  · rw [HSUB.out, St.rnd_act (by omega) HD.out HAC.out] at hr
                    rw [show n2 + 1 - n = n2 - n + 1 by omega]
                    exact hr
                  · unfold St.act
                    split
                    · exact HN2.out.2
                    · exact HN2.out.2
                case measure => simp [intOf]; omega
          · have HNX : Hid (∀ D, Calls Try.prog 19 #[.agg #[.int .i64 (((js i).K : Int) % 3), .int .i64 (js i).at_, .int .i64 (js i).num, (pj2 i).B, .slice (pj2 i).A (pj2 i).cnt (pj2 i).cap, .bool D]] wr fun e w' => Below wr.heap.size wr w' ∧ e = .returned (.tuple #[.agg #[.int .i64 0, .int .i64 0, .int .i64 0, .int .u64 0, .int .u64 0, .slice none 0 0], .bool false])) :=
              Lib.hid fun D => (HW2.out.next hi2 hL D).mono fun e w' hs => ⟨hs.1, hs.2.elim (fun h => absurd h.1 (by omega)) (fun h => h.2)⟩
            have hno : (st2.ms i).next = none := by
              obtain ⟨ys, hl⟩ := HW2.out.link i hi2
              rw [hl, Mc.next_copy, if_pos (by omega)]
            have HNO := Lib.hid hno
            clear hno hmore
            go_upto_region 9 with (go_at_call 19; refine (HNX.out _).mono ?_; rintro e w5 ⟨hb5, rfl⟩)
            have HB6 := Lib.hid (hb5.alloc hb5.size (.cells #[.int .i64 0, .int .i64 0, .int .i64 0, .int .u64 0, .int .u64 0, .slice none 0 0] 47))
            clear hb5 j0 j1 j2 j3 j4 j5 g2
            generalize w5.alloc (.cells #[.int .i64 0, .int .i64 0, .int .i64 0, .int .u64 0, .int .u64 0, .slice none 0 0] 47) = W6 at HB6 ⊢
            go_wp2
            go_roundw
            case rel =>
              have hr := HRD.out
              have hnm : n2 - n ≠ most - n ∨ n2 - n = most - n := by omega
              refine ⟨i + 1, n2, st2, rfl, rfl, by go_num, by omega, hn2, hn2m, ?_, HN2.out.1, HN2.out.2, HLEN2.out, (by rw [← HJ1.out]; exact ⟨o2, pj2, tv2, ts2, HW2.out.below HB6.out, HTT.out.1.trans (Touch.of_below HB6.out), HTT.out.2⟩)⟩
              rcases hnm with hnm | hnm
              · cases hd : st2.dead i with
                | true => rw [HSUB.out, St.rnd_dead hnm hd] at hr; exact hr
                | false => rw [HSUB.out, St.rnd_end hnm hd HNO.out] at hr; exact hr
              · rw [hnm, St.rnd_most] at hr ⊢
                exact hr
            case measure => simp [intOf]; omega
        · obtain rfl : i = st.na := by omega
          go_wp2
          go_roundw
          case rel =>
            have hr := HRD.out
            rw [Nat.sub_self] at hr
            have hr2 : rr = (st2, n2 - n) := hr.symm
            refine ⟨f - 1, n2, decide (n < n2), st2, rfl, rfl, hn2m, ?_, ?_, HN2.out.1, HN2.out.2, HLEN2.out, hpw2⟩
            · intro hlt
              have hlt : n < n2 := of_decide_eq_true hlt
              obtain ⟨hf1, hf2⟩ := HF.out
              obtain ⟨f, rfl⟩ : ∃ f', f = f' + 1 := ⟨f - 1, by omega⟩
              rw [St.rob_next _ _ _ _ (by omega) (by rw [HRR.out, hr2]; show ¬ (n2 - n = 0); omega), HRR.out, hr2] at hf2
              refine ⟨by omega, ?_⟩
              rw [show n + (st2, n2 - n).2 = n2 by show n + (n2 - n) = n2; omega] at hf2
              exact hf2
            · intro hlt
              have hlt : ¬ n < n2 := of_decide_eq_false hlt
              obtain rfl : n2 = n := by omega
              obtain ⟨hf1, hf2⟩ := HF.out
              by_cases hnm : n2 < most
              · obtain ⟨f, rfl⟩ : ∃ f', f = f' + 1 := ⟨f - 1, by omega⟩
                rw [St.rob_idle _ _ _ _ hnm (by rw [HRR.out, hr2]; show n2 - n2 = 0; omega), HRR.out, hr2] at hf2
                exact hf2
              · rw [St.rob_end _ _ _ _ hnm] at hf2
                obtain rfl : n2 = most := by omega
                have hq := HRR.out
                rw [Nat.sub_self, St.rnd_most, hr2] at hq
                injection hq with hq _
                rw [← hq]
                exact hf2
          case measure =>
            by_cases hlt : n < n2
            · simp [intOf, flag, hlt]; omega
            · simp [intOf, flag, hlt]; omega
end Go.Proofs.Ytegjnejekakeiaa
namespace Go.Proofs.Ytegjnejekakeiaa
open Go.RowKit

theorem start_two {w0 w2 w3 w4 w5 : World} {g1 h1 g2 h2 n c4 c6 : Nat} {oA oB : Nat → Pt} {js : Nat → Jb} {A4 A6 : Option Addr} {V5 V7 : Value} {xs Bs ys Cs : Nat → Value} (B1 : Buf w2 g1 h1 (fun _ => 0) 32 0) (e1 : w0.heap.size ≤ g1) (e2 : w0.heap.size ≤ h1) (hb2 : Below w0.heap.size w0 w2)
    (B2 : Buf w3 g2 h2 (fun _ => 0) 32 0) (e3 : w2.heap.size ≤ g2) (e4 : w2.heap.size ≤ h2) (hb3 : Below w2.heap.size w2 w3) (hA : MadeTo w3 w4 oA js n (.slice A4 n c4) V5 xs Bs) (hB : MadeTo w4 w5 oB js n (.slice A6 n c6) V7 ys Cs) (hn : n ≤ 6) :
    Calls Try.prog 10 #[.pointer (some ⟨g1, 0, none⟩), .slice A4 n c4] w5 fun e w6 => ∃ gw ga ax, e = .returned (.pointer (some ⟨gw, 0, none⟩)) ∧
      Calls Try.prog 10 #[.pointer (some ⟨g2, 0, none⟩), .slice A6 n c6] w6 fun e w7 => ∃ oV gw2 ga2 ax2 oW, e = .returned (.pointer (some ⟨gw2, 0, none⟩)) ∧ Stood w0 w7 oV gw ga g1 h1 ax (St.made n (fun i => (js i).mc) (fun _ => 0) 32 0) ∧
        Stood w0 w7 oW gw2 ga2 g2 h2 ax2 (St.made n (fun i => (js i).mc) (fun _ => 0) 32 0) ∧ ∀ k, oW k ≠ .no → oV k = .no := by
  have s2 := hb2.size
  have s3 := hb3.size
  have s4 := hA.low.size
  have s5 := hB.low.size
  have l1 := B1.g_lt
  have l2 := B1.h_lt
  have l3 := B2.g_lt
  have l4 := B2.h_lt
  have hb03 := hb2.trans (hb3.mono s2)
  have hb04 := hb03.trans (hA.low.mono (by omega))
  refine (start_new (B1.below hb3) e1 e2 hb03 (hA.keep hB.low) hn).mono ?_
  rintro e w6 ⟨gw, ga, ax, oV, rfl, hV, hb6, hnV⟩
  refine ⟨gw, ga, ax, rfl, (start_new (B2.below hA.low) (by omega) (by omega) hb04 (hB.keep hb6) hn).mono ?_⟩
  rintro e w7 ⟨gw2, ga2, ax2, oW, rfl, hW, hb7, hnW⟩
  refine ⟨oV, gw2, ga2, ax2, oW, rfl, hV.below hb7, hW, fun k hk => ?_⟩
  have s6 := hb6.size
  obtain ⟨⟨tv, ts, hsV⟩, _, _⟩ := hV
  rcases Nat.lt_or_ge k w6.heap.size with hk6 | hk6
  · have hwhy : k = g2 ∨ k = h2 ∨ ∃ i, oB k = .ma i := by
      refine Classical.byContradiction fun e => hk (hnW k hk6 (fun h => e (.inl h)) (fun h => e (.inr (.inl h))) fun i hi => e (.inr (.inr ⟨i, hi⟩)))
    have hkb : k = g2 ∨ k = h2 ∨ (w4.heap.size ≤ k ∧ k < w5.heap.size) := by
      rcases hwhy with h | h | ⟨i, hi⟩
      · exact .inl h
      · exact .inr (.inl h)
      · exact .inr (.inr (hB.new k (by rw [hi]; simp)))
    refine hnV k (by omega) (by omega) (by omega) fun i hi => ?_
    have := hA.new k (by rw [hi]; simp)
    omega
  · exact hsV.new_no hk6

/-- One scheduler works; the other stands as it stood. -/
theorem Stood.aside {w0 w w' : World} {o1 o2 : Nat → Pt} {gw ga gb hb : Nat} {ax : Nat → Value} {st : St} (h : Stood w0 w o2 gw ga gb hb ax st) (ht : Touch (Own o1) w w') (hd : ∀ k, o2 k ≠ .no → o1 k = .no) (hl : Below w0.heap.size w0 w') : Stood w0 w' o2 gw ga gb hb ax st := by
  obtain ⟨⟨tv, ts, hs⟩, _, h2⟩ := h
  exact ⟨⟨tv, ts, hs.touch ht fun k hk e => e (hd k hk)⟩, hl, h2⟩

/-- An event's bytes stand in a block from B up to T, whatever they are. -/
def Soft (B T : Nat) (w : World) (t : Tx) : Prop :=
  ∃ A c, t.s1 = .slice A t.e.ac.bs.length c ∧ t.e.ac.bs.length ≤ c ∧ c ≤ 9223372036854775807 ∧ (0 < t.e.ac.bs.length → ∃ b, A = some ⟨b, 0, none⟩ ∧ B ≤ b ∧ b < T ∧ ∀ i, i < t.e.ac.bs.length → (∃ v : Int, w.cell? ⟨b, i, none⟩ = some (.int .u8 v)) ∧ w.frozen? ⟨b, i, none⟩ = false)

theorem Soft.of_own {B : Nat} {w : World} {t : Tx} (h : Owns B w t.s1 t.e.ac.bs) : Soft B w.heap.size w t := by
  have h0 := h
  rcases h.2 with ⟨hv, hn⟩ | ⟨g, cap, cur, hv, hB, hg, h1, h2, _⟩
  · exact ⟨none, 0, by rw [hv, hn], by omega, by decide, fun hp => by omega⟩
  · refine ⟨some ⟨g, 0, none⟩, cap, hv, h1, by unfold maxLen at h2; omega, fun _ => ⟨g, rfl, hB, (Array.getElem?_eq_some_iff.1 hg).1, fun i hi => ?_⟩⟩
    rw [hv] at h0
    refine ⟨⟨t.e.ac.bs[i], ?_⟩, World.ownsRow.frozenAt h0 i⟩
    rw [World.ownsRow.cellAt h0 i (by omega)]
    simp [hi]

theorem Soft.keep {B T : Nat} {w w' : World} {t : Tx} (h : Soft B T w t) (hb : ∀ k, B ≤ k → k < T → w'.heap[k]? = w.heap[k]?) : Soft B T w' t := by
  obtain ⟨A, c, e, e1, e2, h⟩ := h
  refine ⟨A, c, e, e1, e2, fun hp => ?_⟩
  obtain ⟨b, ea, h1, h2, h3⟩ := h hp
  refine ⟨b, ea, h1, h2, fun i hi => ?_⟩
  obtain ⟨⟨v, h4⟩, h5⟩ := h3 i hi
  exact ⟨⟨v, (World.cell?_of_block (w := w) (a := ⟨b, i, none⟩) (hb b h1 h2)).trans h4⟩, (World.frozen?_of_block (w := w) (a := ⟨b, i, none⟩) (hb b h1 h2)).trans h5⟩

/-- A byte is written over. -/
theorem Soft.set {B T : Nat} {w : World} {t : Tx} (h : Soft B T w t) (p : Addr) (u : Int) : Soft B T (w.setCell p (.int .u8 u)) t := by
  obtain ⟨A, c, e, e1, e2, h⟩ := h
  refine ⟨A, c, e, e1, e2, fun hp => ?_⟩
  obtain ⟨b, ea, h1, h2, h3⟩ := h hp
  refine ⟨b, ea, h1, h2, fun i hi => ?_⟩
  obtain ⟨⟨v, h4⟩, h5⟩ := h3 i hi
  refine ⟨?_, by rw [World.frozen?_setCell]; exact h5⟩
  by_cases hq : p = ⟨b, i, none⟩
  · subst hq
    exact ⟨u, World.cell?_setCell_same _ _ _ h4⟩
  · exact ⟨v, (World.cell?_setCell_other _ _ _ _ hq).trans h4⟩

/-- The trace tells the events of the picks that answered OK. -/
theorem St.pick_tr (st : St) (p : Pk) : (st.pick p).1.tr = if (st.pick p).2.1 = 0 then st.tr ++ [(st.pick p).2.2] else st.tr := by
  by_cases h0 : st.chk p = 0
  · by_cases h1 : p.K = 1
    · rw [St.pick_kill h0 h1]; exact (if_pos rfl).symm
    · by_cases h2 : p.K = 2
      · rw [St.pick_tick h0 h2]; exact (if_pos rfl).symm
      · have hk : p.K = 0 := by have := St.chk_kind h0; omega
        cases hn : (st.ms p.A.toNat).next with
        | none => rw [St.pick_end h0 hk hn]; exact (if_pos rfl).symm
        | some a =>
          by_cases he : a.err st.nw = 0
          · rw [St.pick_ok h0 hk hn he]; exact (if_pos rfl).symm
          · rw [St.pick_bad h0 hk hn he]; exact (if_neg he).symm
  · rw [St.pick_no h0]; exact (if_neg h0).symm

theorem St.runs_told (ps : List Pk) : ∀ (st : St) (es : List Ev), st.tr = es → (St.runs ps st es).1.tr = (St.runs ps st es).2 := by
  induction ps with
  | nil => exact fun _ _ h => h
  | cons p ps ih =>
    intro st es h
    refine ih _ _ ?_
    rw [St.pick_tr, h]
end Go.Proofs.Ytegjnejekakeiaa
namespace Go.Proofs.Ytegjnejekakeiaa
open Go.ChangeShapes Go.WideShapes Go.ChangeAt Go.RowKit Go.Deep

theorem u8_wide {n : Int} (h : (Lit.int .u8 n).wf = true) : 0 ≤ n ∧ n ≤ 255 := by
  simp only [Lit.wf, Bool.and_eq_true, decide_eq_true_eq] at h
  have e1 : IntKind.u8.min = 0 := by decide
  have e2 : IntKind.u8.max = 255 := by decide
  rw [e1, e2] at h
  exact h
theorem u16_wide {n : Int} (h : (Lit.int .u16 n).wf = true) : 0 ≤ n ∧ n ≤ 65535 := by
  simp only [Lit.wf, Bool.and_eq_true, decide_eq_true_eq] at h
  have e1 : IntKind.u16.min = 0 := by decide
  have e2 : IntKind.u16.max = 65535 := by decide
  rw [e1, e2] at h
  exact h

theorem jobOne : Try.prog.cellsOf 28 = 4 := by kernel_rfl
theorem pickOne : Try.prog.cellsOf 44 = 3 := by kernel_rfl

/-- A job's slice. -/
def Jb.sl (j : Jb) : Value := .slice j.A j.L j.cap

set_option maxRecDepth 100000 in
theorem job_cells {H : Type} {enc : TypeId × Value → H} {W : World} {fuel : Nat} {cs : List Value} {x : DataW H × List MemPlace} (hsz : cs.length = 4)
    (h : DataW.trod enc Try.prog W 0 (fun _ => true) true fuel 28 cs = some x) :
    ∃ y : Jb, cs = [.int .u8 y.K, .int .u16 y.P, .int .u16 y.N, y.sl] ∧ y.Is W := by
  match cs, hsz with
  | [v0, v1, v2, v3], _ =>
    obtain ⟨xs, n, _, _, _, hlen, hg⟩ := DataW.trod_struct Try.underlying28 h
    have g0 := hg 0 _ rfl
    have g1 := hg 1 _ rfl
    have g2 := hg 2 _ rfl
    have g3 := hg 3 _ rfl
    have cU : Try.prog.cellsOf 25 = 1 := by kernel_rfl
    have cB : Try.prog.cellsOf 26 = 1 := by kernel_rfl
    match xs, hlen with
    | [y0, y1, y2, y3], _ =>
      simp [cellsU8, cU, cB] at g0 g1 g2 g3
      obtain ⟨K, e0, _, w0⟩ := DataW.trod_int Try.underlying5 g0
      obtain ⟨P, e1, _, w1⟩ := DataW.trod_int Try.underlying25 g1
      obtain ⟨N, e2, _, w2⟩ := DataW.trod_int Try.underlying25 g2
      obtain ⟨A, L, cap, f, e3, h1, h2, h3, h4⟩ := bytes_cell g3
      simp only [List.cons.injEq, and_true] at e0 e1 e2 e3
      subst e0 e1 e2 e3
      have b0 := u8_wide w0
      have b1 := u16_wide w1
      have b2 := u16_wide w2
      obtain ⟨K, rfl⟩ := Int.eq_ofNat_of_zero_le b0.1
      obtain ⟨P, rfl⟩ := Int.eq_ofNat_of_zero_le b1.1
      obtain ⟨N, rfl⟩ := Int.eq_ofNat_of_zero_le b2.1
      exact ⟨⟨K, P, N, A, L, cap, f⟩, rfl, by show K < 256; omega, by show P < 65536; omega, by show N < 65536; omega, h1, h2, h3, h4⟩

set_option maxRecDepth 100000 in
theorem pick_cells {H : Type} {enc : TypeId × Value → H} {W : World} {fuel : Nat} {cs : List Value} {x : DataW H × List MemPlace} (hsz : cs.length = 3)
    (h : DataW.trod enc Try.prog W 0 (fun _ => true) true fuel 44 cs = some x) :
    ∃ y : Pk, cs = [.int .i64 y.K, .int .i64 y.A, .int .i64 y.N] := by
  match cs, hsz with
  | [v0, v1, v2], _ =>
    obtain ⟨xs, n, _, _, _, hlen, hg⟩ := DataW.trod_struct Try.underlying44 h
    have g0 := hg 0 _ rfl
    have g1 := hg 1 _ rfl
    have g2 := hg 2 _ rfl
    have cI : Try.prog.cellsOf 3 = 1 := by kernel_rfl
    have cJ : Try.prog.cellsOf 2 = 1 := by kernel_rfl
    match xs, hlen with
    | [y0, y1, y2], _ =>
      simp [cI, cJ] at g0 g1 g2
      obtain ⟨K, e0, _, _⟩ := DataW.trod_int Try.underlying3 g0
      obtain ⟨P, e1, _, _⟩ := DataW.trod_int Try.underlying3 g1
      obtain ⟨N, e2, _, _⟩ := DataW.trod_int Try.underlying2 g2
      simp only [List.cons.injEq, and_true] at e0 e1 e2
      subst e0 e1 e2
      exact ⟨⟨K, P, N⟩, rfl⟩

set_option maxRecDepth 100000 in
theorem open_jobs {H : Type} {enc : TypeId × Value → H} {W : World} {base : Nat} {v : Value} {d : DataW H} {ps : List MemPlace}
    (hv : Value.okWide Try.prog W .any base 22 v) (h : DataW.Trod enc Try.prog W 0 (fun _ => true) true 22 v d ps) :
    ∃ (A : Option Addr) (L cap : Nat) (T : Nat → Jb), v = .slice A L cap ∧ JbsAt W A L T ∧ L ≤ cap ∧ cap ≤ 9223372036854775807 := by
  obtain ⟨a0, len0, cap0, rfl⟩ := okWide_slice Try.underlying22 hv
  obtain ⟨fuel, hf⟩ := h
  rcases open_slice Try.underlying22 hf with ⟨hcs, _⟩ | ⟨a, len, cap, m, n, D, Pl, hcs, hb, hl, hm, hmm, _, hi⟩
  · simp [Value.cells] at hcs
    obtain ⟨rfl, rfl, rfl⟩ := hcs
    exact ⟨none, 0, 0, fun _ => ⟨0, 0, 0, none, 0, 0, fun _ => 0⟩, rfl, fun h => absurd h (Nat.lt_irrefl 0), Nat.le_refl _, by decide⟩
  · simp [Value.cells] at hcs
    obtain ⟨rfl, rfl, rfl⟩ := hcs
    simp only [if_true] at hmm
    rw [jobOne] at hi
    have hx : ∀ i, i < m → ∃ y : Jb, (∀ j : Nat, j < 4 → W.cell? ((a.add (i * 4)).add j) = ([.int .u8 y.K, .int .u16 y.P, .int .u16 y.N, y.sl] : List Value)[j]?) ∧ y.Is W := by
      intro i him
      obtain ⟨cs', hc, ht'⟩ := hi i him
      obtain ⟨_, hcl, hat⟩ := World.cells?_some hc
      obtain ⟨y, hy, his⟩ := job_cells hcl ht'
      subst hy
      exact ⟨y, hat, his⟩
    have hT : ∃ T : Nat → Jb, ∀ i, i < m → (∀ j : Nat, j < 4 → W.cell? ((a.add (i * 4)).add j) = ([.int .u8 (T i).K, .int .u16 (T i).P, .int .u16 (T i).N, (T i).sl] : List Value)[j]?) ∧ (T i).Is W := by
      refine ⟨fun i => if h : i < m then Classical.choose (hx i h) else ⟨0, 0, 0, none, 0, 0, fun _ => 0⟩, fun i him => ?_⟩
      simp only [dif_pos him]
      exact Classical.choose_spec (hx i him)
    obtain ⟨T, hT⟩ := hT
    refine ⟨some a, _, _, T, rfl, fun hp => ?_, hl, by unfold maxLen at hm; omega⟩
    obtain ⟨b, off, spot⟩ := a
    have h00 := (hT 0 (by omega)).1 0 (by decide)
    have hspot : spot = none := by simpa [Addr.add] using World.cell?_spot h00
    subst hspot
    refine ⟨b, off, rfl, ?_, fun i him => ?_⟩
    · rcases Nat.lt_or_ge b W.heap.size with hlt | hge
      · exact hlt
      · simp [World.cell?, Addr.add, Array.getElem?_eq_none hge] at h00
    · obtain ⟨hc, his⟩ := hT i (by omega)
      have e : ∀ j, ((⟨b, off, none⟩ : Addr).add (i * 4)).add j = ⟨b, off + i * 4 + j, none⟩ := fun j => by
        unfold Addr.add
        split <;> split <;> simp_all
      have c0 := hc 0 (by decide)
      have c1 := hc 1 (by decide)
      have c2 := hc 2 (by decide)
      have c3 := hc 3 (by decide)
      rw [e] at c0 c1 c2 c3
      exact ⟨c0, c1, c2, c3, his⟩

set_option maxRecDepth 100000 in
theorem open_picks {H : Type} {enc : TypeId × Value → H} {W : World} {base : Nat} {v : Value} {d : DataW H} {ps : List MemPlace}
    (hv : Value.okWide Try.prog W .any base 23 v) (h : DataW.Trod enc Try.prog W 0 (fun _ => true) true 23 v d ps) :
    ∃ (A : Option Addr) (cap : Nat) (pks : List Pk), v = .slice A pks.length cap ∧ PksAt W A pks ∧ pks.length ≤ cap ∧ cap ≤ 9223372036854775807 := by
  obtain ⟨a0, len0, cap0, rfl⟩ := okWide_slice Try.underlying23 hv
  obtain ⟨fuel, hf⟩ := h
  rcases open_slice Try.underlying23 hf with ⟨hcs, _⟩ | ⟨a, len, cap, m, n, D, Pl, hcs, hb, hl, hm, hmm, _, hi⟩
  · simp [Value.cells] at hcs
    obtain ⟨rfl, rfl, rfl⟩ := hcs
    exact ⟨none, 0, [], rfl, fun h => absurd h (Nat.lt_irrefl 0), Nat.le_refl _, by decide⟩
  · simp [Value.cells] at hcs
    obtain ⟨rfl, rfl, rfl⟩ := hcs
    simp only [if_true] at hmm
    rw [pickOne] at hi
    have hx : ∀ i, i < m → ∃ y : Pk, ∀ j : Nat, j < 3 → W.cell? ((a.add (i * 3)).add j) = ([.int .i64 y.K, .int .i64 y.A, .int .i64 y.N] : List Value)[j]? := by
      intro i him
      obtain ⟨cs', hc, ht'⟩ := hi i him
      obtain ⟨_, hcl, hat⟩ := World.cells?_some hc
      obtain ⟨y, hy⟩ := pick_cells hcl ht'
      subst hy
      exact ⟨y, hat⟩
    have hT : ∃ T : Nat → Pk, ∀ i, i < m → ∀ j : Nat, j < 3 → W.cell? ((a.add (i * 3)).add j) = ([.int .i64 (T i).K, .int .i64 (T i).A, .int .i64 (T i).N] : List Value)[j]? := by
      refine ⟨fun i => if h : i < m then Classical.choose (hx i h) else ⟨0, 0, 0⟩, fun i him => ?_⟩
      simp only [dif_pos him]
      exact Classical.choose_spec (hx i him)
    obtain ⟨T, hT⟩ := hT
    have elen : ((List.range len0).map T).length = len0 := by simp
    refine ⟨some a, _, (List.range len0).map T, by rw [elen], fun hp => ?_, by rw [elen]; exact hl, by unfold maxLen at hm; omega⟩
    rw [elen] at hp
    obtain ⟨b, off, spot⟩ := a
    have h00 := hT 0 (by omega) 0 (by decide)
    have hspot : spot = none := by simpa [Addr.add] using World.cell?_spot h00
    subst hspot
    refine ⟨b, off, rfl, ?_, fun i p hip => ?_⟩
    · rcases Nat.lt_or_ge b W.heap.size with hlt | hge
      · exact hlt
      · simp [World.cell?, Addr.add, Array.getElem?_eq_none hge] at h00
    · have him : i < len0 := by have := (List.getElem?_eq_some_iff.1 hip).1; rwa [elen] at this
      have hpi : p = T i := by simp [him] at hip; exact hip.symm
      subst hpi
      have hc := hT i (by omega)
      have e : ∀ j, ((⟨b, off, none⟩ : Addr).add (i * 3)).add j = ⟨b, off + i * 3 + j, none⟩ := fun j => by
        unfold Addr.add
        split <;> split <;> simp_all
      have c0 := hc 0 (by decide)
      have c1 := hc 1 (by decide)
      have c2 := hc 2 (by decide)
      rw [e] at c0 c1 c2
      exact ⟨c0, c1, c2⟩
end Go.Proofs.Ytegjnejekakeiaa
namespace Go.Proofs.Ytegjnejekakeiaa
open Go.RowKit

set_option maxRecDepth 100000 in
set_option maxHeartbeats 1000000 in
theorem same_any (K P N : Int) (V U : Int) (A B : Option Addr) (L M cp cq : Nat) (xs : List Int) (w : World) (ha : BytesAt w (.slice A L cp) xs) (hb : BytesAt w (.slice B M cq) xs) :
    Calls Try.prog 33 #[.agg #[.int .i64 K, .int .i64 P, .int .i64 N, .int .u64 V, .int .u64 U, .slice A L cp], .agg #[.int .i64 K, .int .i64 P, .int .i64 N, .int .u64 V, .int .u64 U, .slice B M cq]] w (TrueBelow w) := by
  have HW := ((Below.refl w.heap.size w).alloc (Nat.le_refl _) (.cells #[.int .i64 K, .int .i64 P, .int .i64 N, .int .u64 V, .int .u64 U, .slice A L cp] 47)).alloc (by simp) (.cells #[.int .i64 K, .int .i64 P, .int .i64 N, .int .u64 V, .int .u64 U, .slice B M cq] 47)
  have h1 := (ha.below HW).conv
  have h2 := (hb.below HW).conv
  go_enter Try.func33, Try.ntmps33
  go_wp2
  go_ret
  exact ⟨rfl, HW⟩
end Go.Proofs.Ytegjnejekakeiaa
namespace Go.Proofs.Ytegjnejekakeiaa
open Go.RowKit

set_option maxRecDepth 100000 in
set_option maxHeartbeats 1000000 in
theorem same_ans (V : Int) (D : Bool) (A B : Option Addr) (L M cp cq : Nat) (xs : List Int) (w : World) (ha : BytesAt w (.slice A L cp) xs) (hb : BytesAt w (.slice B M cq) xs) :
    Calls Try.prog 34 #[.agg #[.int .u64 V, .bool D, .slice A L cp], .agg #[.int .u64 V, .bool D, .slice B M cq]] w (TrueBelow w) := by
  have HW := ((Below.refl w.heap.size w).alloc (Nat.le_refl _) (.cells #[.int .u64 V, .bool D, .slice A L cp] 49)).alloc (by simp) (.cells #[.int .u64 V, .bool D, .slice B M cq] 49)
  have h1 := (ha.below HW).conv
  have h2 := (hb.below HW).conv
  go_enter Try.func34, Try.ntmps34
  go_wp2
  go_ret
  exact ⟨rfl, HW⟩

/-- The cells of two equal events. -/
theorem two_cells {w : World} {b1 b2 i : Nat} {x : Ev} {A1 A2 A3 A4 : Option Addr} {l1 l2 l3 l4 q1 q2 q3 q4 : Nat} {ts1 ts2 : List Tx} (h1 : EvRow w b1 ts1) (h2 : EvRow w b2 ts2) (e1 : ts1[i]? = some ⟨x, .slice A1 l1 q1, .slice A2 l2 q2⟩) (e2 : ts2[i]? = some ⟨x, .slice A3 l3 q3, .slice A4 l4 q4⟩) :
    w.cell? ⟨b1, i * 12, none⟩ = some (.int .i64 x.pk.K) ∧ w.cell? ⟨b1, i * 12 + 1, none⟩ = some (.int .i64 x.pk.A) ∧ w.cell? ⟨b1, i * 12 + 2, none⟩ = some (.int .i64 x.pk.N) ∧ w.cell? ⟨b1, i * 12 + 3, none⟩ = some (.int .i64 x.ac.K) ∧ w.cell? ⟨b1, i * 12 + 4, none⟩ = some (.int .i64 x.ac.P) ∧ w.cell? ⟨b1, i * 12 + 5, none⟩ = some (.int .i64 x.ac.N) ∧ w.cell? ⟨b1, i * 12 + 6, none⟩ = some (.int .u64 x.ac.V) ∧ w.cell? ⟨b1, i * 12 + 7, none⟩ = some (.int .u64 x.ac.U) ∧ w.cell? ⟨b1, i * 12 + 8, none⟩ = some (.slice A1 l1 q1) ∧ w.cell? ⟨b1, i * 12 + 9, none⟩ = some (.int .u64 x.an.V) ∧ w.cell? ⟨b1, i * 12 + 10, none⟩ = some (.bool x.an.D) ∧ w.cell? ⟨b1, i * 12 + 11, none⟩ = some (.slice A2 l2 q2) ∧ w.cell? ⟨b2, i * 12, none⟩ = some (.int .i64 x.pk.K) ∧ w.cell? ⟨b2, i * 12 + 1, none⟩ = some (.int .i64 x.pk.A) ∧ w.cell? ⟨b2, i * 12 + 2, none⟩ = some (.int .i64 x.pk.N) ∧ w.cell? ⟨b2, i * 12 + 3, none⟩ = some (.int .i64 x.ac.K) ∧ w.cell? ⟨b2, i * 12 + 4, none⟩ = some (.int .i64 x.ac.P) ∧ w.cell? ⟨b2, i * 12 + 5, none⟩ = some (.int .i64 x.ac.N) ∧ w.cell? ⟨b2, i * 12 + 6, none⟩ = some (.int .u64 x.ac.V) ∧ w.cell? ⟨b2, i * 12 + 7, none⟩ = some (.int .u64 x.ac.U) ∧ w.cell? ⟨b2, i * 12 + 8, none⟩ = some (.slice A3 l3 q3) ∧ w.cell? ⟨b2, i * 12 + 9, none⟩ = some (.int .u64 x.an.V) ∧ w.cell? ⟨b2, i * 12 + 10, none⟩ = some (.bool x.an.D) ∧ w.cell? ⟨b2, i * 12 + 11, none⟩ = some (.slice A4 l4 q4) :=
  ⟨h1 i _ e1 0 _ rfl, h1 i _ e1 1 _ rfl, h1 i _ e1 2 _ rfl, h1 i _ e1 3 _ rfl, h1 i _ e1 4 _ rfl, h1 i _ e1 5 _ rfl, h1 i _ e1 6 _ rfl, h1 i _ e1 7 _ rfl, h1 i _ e1 8 _ rfl, h1 i _ e1 9 _ rfl, h1 i _ e1 10 _ rfl, h1 i _ e1 11 _ rfl, h2 i _ e2 0 _ rfl, h2 i _ e2 1 _ rfl, h2 i _ e2 2 _ rfl, h2 i _ e2 3 _ rfl, h2 i _ e2 4 _ rfl, h2 i _ e2 5 _ rfl, h2 i _ e2 6 _ rfl, h2 i _ e2 7 _ rfl, h2 i _ e2 8 _ rfl, h2 i _ e2 9 _ rfl, h2 i _ e2 10 _ rfl, h2 i _ e2 11 _ rfl⟩

/-- .. as they stand further on. -/
theorem two_move {w w' : World} {b1 b2 i : Nat} {x : Ev} {A1 A2 A3 A4 : Option Addr} {l1 l2 l3 l4 q1 q2 q3 q4 : Nat} (hb : Below w.heap.size w w') (h1 : b1 < w.heap.size) (h2 : b2 < w.heap.size) (h : w.cell? ⟨b1, i * 12, none⟩ = some (.int .i64 x.pk.K) ∧ w.cell? ⟨b1, i * 12 + 1, none⟩ = some (.int .i64 x.pk.A) ∧ w.cell? ⟨b1, i * 12 + 2, none⟩ = some (.int .i64 x.pk.N) ∧ w.cell? ⟨b1, i * 12 + 3, none⟩ = some (.int .i64 x.ac.K) ∧ w.cell? ⟨b1, i * 12 + 4, none⟩ = some (.int .i64 x.ac.P) ∧ w.cell? ⟨b1, i * 12 + 5, none⟩ = some (.int .i64 x.ac.N) ∧ w.cell? ⟨b1, i * 12 + 6, none⟩ = some (.int .u64 x.ac.V) ∧ w.cell? ⟨b1, i * 12 + 7, none⟩ = some (.int .u64 x.ac.U) ∧ w.cell? ⟨b1, i * 12 + 8, none⟩ = some (.slice A1 l1 q1) ∧ w.cell? ⟨b1, i * 12 + 9, none⟩ = some (.int .u64 x.an.V) ∧ w.cell? ⟨b1, i * 12 + 10, none⟩ = some (.bool x.an.D) ∧ w.cell? ⟨b1, i * 12 + 11, none⟩ = some (.slice A2 l2 q2) ∧ w.cell? ⟨b2, i * 12, none⟩ = some (.int .i64 x.pk.K) ∧ w.cell? ⟨b2, i * 12 + 1, none⟩ = some (.int .i64 x.pk.A) ∧ w.cell? ⟨b2, i * 12 + 2, none⟩ = some (.int .i64 x.pk.N) ∧ w.cell? ⟨b2, i * 12 + 3, none⟩ = some (.int .i64 x.ac.K) ∧ w.cell? ⟨b2, i * 12 + 4, none⟩ = some (.int .i64 x.ac.P) ∧ w.cell? ⟨b2, i * 12 + 5, none⟩ = some (.int .i64 x.ac.N) ∧ w.cell? ⟨b2, i * 12 + 6, none⟩ = some (.int .u64 x.ac.V) ∧ w.cell? ⟨b2, i * 12 + 7, none⟩ = some (.int .u64 x.ac.U) ∧ w.cell? ⟨b2, i * 12 + 8, none⟩ = some (.slice A3 l3 q3) ∧ w.cell? ⟨b2, i * 12 + 9, none⟩ = some (.int .u64 x.an.V) ∧ w.cell? ⟨b2, i * 12 + 10, none⟩ = some (.bool x.an.D) ∧ w.cell? ⟨b2, i * 12 + 11, none⟩ = some (.slice A4 l4 q4)) :
    w'.cell? ⟨b1, i * 12, none⟩ = some (.int .i64 x.pk.K) ∧ w'.cell? ⟨b1, i * 12 + 1, none⟩ = some (.int .i64 x.pk.A) ∧ w'.cell? ⟨b1, i * 12 + 2, none⟩ = some (.int .i64 x.pk.N) ∧ w'.cell? ⟨b1, i * 12 + 3, none⟩ = some (.int .i64 x.ac.K) ∧ w'.cell? ⟨b1, i * 12 + 4, none⟩ = some (.int .i64 x.ac.P) ∧ w'.cell? ⟨b1, i * 12 + 5, none⟩ = some (.int .i64 x.ac.N) ∧ w'.cell? ⟨b1, i * 12 + 6, none⟩ = some (.int .u64 x.ac.V) ∧ w'.cell? ⟨b1, i * 12 + 7, none⟩ = some (.int .u64 x.ac.U) ∧ w'.cell? ⟨b1, i * 12 + 8, none⟩ = some (.slice A1 l1 q1) ∧ w'.cell? ⟨b1, i * 12 + 9, none⟩ = some (.int .u64 x.an.V) ∧ w'.cell? ⟨b1, i * 12 + 10, none⟩ = some (.bool x.an.D) ∧ w'.cell? ⟨b1, i * 12 + 11, none⟩ = some (.slice A2 l2 q2) ∧ w'.cell? ⟨b2, i * 12, none⟩ = some (.int .i64 x.pk.K) ∧ w'.cell? ⟨b2, i * 12 + 1, none⟩ = some (.int .i64 x.pk.A) ∧ w'.cell? ⟨b2, i * 12 + 2, none⟩ = some (.int .i64 x.pk.N) ∧ w'.cell? ⟨b2, i * 12 + 3, none⟩ = some (.int .i64 x.ac.K) ∧ w'.cell? ⟨b2, i * 12 + 4, none⟩ = some (.int .i64 x.ac.P) ∧ w'.cell? ⟨b2, i * 12 + 5, none⟩ = some (.int .i64 x.ac.N) ∧ w'.cell? ⟨b2, i * 12 + 6, none⟩ = some (.int .u64 x.ac.V) ∧ w'.cell? ⟨b2, i * 12 + 7, none⟩ = some (.int .u64 x.ac.U) ∧ w'.cell? ⟨b2, i * 12 + 8, none⟩ = some (.slice A3 l3 q3) ∧ w'.cell? ⟨b2, i * 12 + 9, none⟩ = some (.int .u64 x.an.V) ∧ w'.cell? ⟨b2, i * 12 + 10, none⟩ = some (.bool x.an.D) ∧ w'.cell? ⟨b2, i * 12 + 11, none⟩ = some (.slice A4 l4 q4) := by
  have k1 := fun j => hb.cell (p := ⟨b1, j, none⟩) h1
  have k2 := fun j => hb.cell (p := ⟨b2, j, none⟩) h2
  simp only [k1, k2]
  exact h

set_option maxRecDepth 100000 in
set_option maxHeartbeats 4000000 in
theorem evs_same {w : World} {K1 K2 : Nat → Prop} {v1 v2 : Value} {ts1 ts2 : List Tx} (h1 : EvsAt K1 w v1 ts1) (h2 : EvsAt K2 w v2 ts2) (he : ts1.map Tx.e = ts2.map Tx.e) : Calls Try.prog 13 #[v1, v2] w (TrueBelow w) := by
  obtain ⟨⟨A, c, rfl, hc1, hc2, hp1⟩, tx1⟩ := h1
  obtain ⟨⟨B, d, rfl, hd1, hd2, hp2⟩, tx2⟩ := h2
  have hlen : ts2.length = ts1.length := by have := congrArg List.length he; simpa using this.symm
  rw [hlen] at hd1 hp2 ⊢
  have H := Lib.hid (And.intro hp1 (And.intro hp2 (And.intro tx1 (And.intro tx2 (And.intro he hlen)))))
  clear hp1 hp2 tx1 tx2 he hlen
  go_enter Try.func13, Try.ntmps13
  go_wp2
  go_loopw [13] (fun t13 wr => ∃ i : Nat, t13 = .int .i64 i ∧ i ≤ ts1.length ∧ Below w.heap.size w wr) (fun t13 _ => ts1.length - (intOf t13).toNat)
  case atStart => exact ⟨0, rfl, Nat.zero_le _, Below.refl _ _⟩
  case round =>
    obtain ⟨i, rfl, hi, hbw⟩ := hrel
    have HB := Lib.hid hbw
    have hsz := hbw.size
    clear hbw
    by_cases hlt : i < ts1.length
    · obtain ⟨b1, rfl, _, hl1, hr1⟩ := H.out.1 (by omega)
      obtain ⟨b2, rfl, _, hl2, hr2⟩ := H.out.2.1 (by omega)
      have e1 : ts1[i]? = some ts1[i] := List.getElem?_eq_getElem hlt
      have hlt2 : i < ts2.length := by rw [H.out.2.2.2.2.2]; exact hlt
      have e2 : ts2[i]? = some ts2[i] := List.getElem?_eq_getElem hlt2
      obtain ⟨y1, y2⟩ := H.out.2.2.1 _ (List.getElem_mem hlt)
      obtain ⟨z1, z2⟩ := H.out.2.2.2.1 _ (List.getElem_mem hlt2)
      have ex : ts2[i].e = ts1[i].e := by
        have := congrArg (fun l => l[i]?) H.out.2.2.2.2.1
        simp only [List.getElem?_map, e1, e2, Option.map_some, Option.some.injEq] at this
        exact this.symm
      generalize ts1[i] = t1 at e1 y1 y2 ex
      generalize ts2[i] = t2 at e2 z1 z2 ex
      obtain ⟨x, s1, s2⟩ := t1
      obtain ⟨x2, s3, s4⟩ := t2
      have ex : x = x2 := Eq.symm ex
      subst ex
      obtain ⟨A1, q1, f1⟩ := y1.length
      obtain ⟨A2, q2, f2⟩ := y2.length
      obtain ⟨A3, q3, f3⟩ := z1.length
      obtain ⟨A4, q4, f4⟩ := z2.length
      replace f1 : s1 = .slice A1 x.ac.bs.length q1 := f1
      replace f2 : s2 = .slice A2 x.an.bs.length q2 := f2
      replace f3 : s3 = .slice A3 x.ac.bs.length q3 := f3
      replace f4 : s4 = .slice A4 x.an.bs.length q4 := f4
      subst f1 f2 f3 f4
      have hbw := HB.out
      have k := two_cells (w := wr) (fun j t hj m u hu => (hbw.cell (p := ⟨b1, j * 12 + m, none⟩) hl1).trans (hr1 j t hj m u hu)) (fun j t hj m u hu => (hbw.cell (p := ⟨b2, j * 12 + m, none⟩) hl2).trans (hr2 j t hj m u hu)) e1 e2
      have HX := Lib.hid (And.intro (y1.bytes.below hbw) (And.intro (y2.bytes.below hbw) (And.intro (z1.bytes.below hbw) (z2.bytes.below hbw))))
      have hl1 : b1 < wr.heap.size := by omega
      have hl2 : b2 < wr.heap.size := by omega
      clear hr1 hr2 e1 e2 y1 y2 z1 z2 hbw hlt2
      obtain ⟨k0, k1, k2, k3, k4, k5, k6, k7, k8, k9, k10, k11, k12, k13, k14, k15, k16, k17, k18, k19, k20, k21, k22, k23⟩ := k
      go_upto_region 6 with (fail)
      go_region_held3 (fun w' => w'.cell? ⟨b1, i * 12, none⟩ = some (.int .i64 x.pk.K) ∧ w'.cell? ⟨b1, i * 12 + 1, none⟩ = some (.int .i64 x.pk.A) ∧ w'.cell? ⟨b1, i * 12 + 2, none⟩ = some (.int .i64 x.pk.N) ∧ w'.cell? ⟨b1, i * 12 + 3, none⟩ = some (.int .i64 x.ac.K) ∧ w'.cell? ⟨b1, i * 12 + 4, none⟩ = some (.int .i64 x.ac.P) ∧ w'.cell? ⟨b1, i * 12 + 5, none⟩ = some (.int .i64 x.ac.N) ∧ w'.cell? ⟨b1, i * 12 + 6, none⟩ = some (.int .u64 x.ac.V) ∧ w'.cell? ⟨b1, i * 12 + 7, none⟩ = some (.int .u64 x.ac.U) ∧ w'.cell? ⟨b1, i * 12 + 8, none⟩ = some (.slice A1 x.ac.bs.length q1) ∧ w'.cell? ⟨b1, i * 12 + 9, none⟩ = some (.int .u64 x.an.V) ∧ w'.cell? ⟨b1, i * 12 + 10, none⟩ = some (.bool x.an.D) ∧ w'.cell? ⟨b1, i * 12 + 11, none⟩ = some (.slice A2 x.an.bs.length q2) ∧ w'.cell? ⟨b2, i * 12, none⟩ = some (.int .i64 x.pk.K) ∧ w'.cell? ⟨b2, i * 12 + 1, none⟩ = some (.int .i64 x.pk.A) ∧ w'.cell? ⟨b2, i * 12 + 2, none⟩ = some (.int .i64 x.pk.N) ∧ w'.cell? ⟨b2, i * 12 + 3, none⟩ = some (.int .i64 x.ac.K) ∧ w'.cell? ⟨b2, i * 12 + 4, none⟩ = some (.int .i64 x.ac.P) ∧ w'.cell? ⟨b2, i * 12 + 5, none⟩ = some (.int .i64 x.ac.N) ∧ w'.cell? ⟨b2, i * 12 + 6, none⟩ = some (.int .u64 x.ac.V) ∧ w'.cell? ⟨b2, i * 12 + 7, none⟩ = some (.int .u64 x.ac.U) ∧ w'.cell? ⟨b2, i * 12 + 8, none⟩ = some (.slice A3 x.ac.bs.length q3) ∧ w'.cell? ⟨b2, i * 12 + 9, none⟩ = some (.int .u64 x.an.V) ∧ w'.cell? ⟨b2, i * 12 + 10, none⟩ = some (.bool x.an.D) ∧ w'.cell? ⟨b2, i * 12 + 11, none⟩ = some (.slice A4 x.an.bs.length q4)) (first | exact ⟨k0, k1, k2, k3, k4, k5, k6, k7, k8, k9, k10, k11, k12, k13, k14, k15, k16, k17, k18, k19, k20, k21, k22, k23⟩ | exact ⟨m0, m1, m2, m3, m4, m5, m6, m7, m8, m9, m10, m11, m12, m13, m14, m15, m16, m17, m18, m19, m20, m21, m22, m23⟩ | exact ⟨n0, n1, n2, n3, n4, n5, n6, n7, n8, n9, n10, n11, n12, n13, n14, n15, n16, n17, n18, n19, n20, n21, n22, n23⟩)
        (first
          | (go_at_call 33; go_loud (refine (same_any x.ac.K x.ac.P x.ac.N x.ac.V x.ac.U A1 A3 _ _ q1 q3 x.ac.bs _ (HX.out.1.below (Below.refl _ _).drew) (HX.out.2.2.1.below (Below.refl _ _).drew)).mono ?_); rintro e w7 ⟨rfl, hb7⟩; go_loud (obtain ⟨m0, m1, m2, m3, m4, m5, m6, m7, m8, m9, m10, m11, m12, m13, m14, m15, m16, m17, m18, m19, m20, m21, m22, m23⟩ := two_move hb7 hl1 hl2 ⟨k0, k1, k2, k3, k4, k5, k6, k7, k8, k9, k10, k11, k12, k13, k14, k15, k16, k17, k18, k19, k20, k21, k22, k23⟩); have hl3 := Nat.lt_of_lt_of_le hl1 hb7.size; have hl4 := Nat.lt_of_lt_of_le hl2 hb7.size)
          | (go_at_call 34; refine (same_ans x.an.V x.an.D A2 A4 _ _ q2 q4 x.an.bs _ ((HX.out.2.1.below (Below.refl _ _).drew).below hb7) ((HX.out.2.2.2.below (Below.refl _ _).drew).below hb7)).mono ?_; rintro e w8 ⟨rfl, hb8⟩; obtain ⟨n0, n1, n2, n3, n4, n5, n6, n7, n8, n9, n10, n11, n12, n13, n14, n15, n16, n17, n18, n19, n20, n21, n22, n23⟩ := two_move hb8 hl3 hl4 ⟨m0, m1, m2, m3, m4, m5, m6, m7, m8, m9, m10, m11, m12, m13, m14, m15, m16, m17, m18, m19, m20, m21, m22, m23⟩))
      have hb9 : Below wr.heap.size wr w8 := (((Below.refl wr.heap.size wr).drew).trans hb7).trans (hb8.mono hb7.size)
      go_wp2
      exact ⟨⟨i + 1, rfl, hlt, HB.out.trans (hb9.mono hsz)⟩, by simp only [intOf]; omega⟩
    · obtain rfl : i = ts1.length := by omega
      go_wp2
      go_ret
      exact ⟨rfl, HB.out⟩
end Go.Proofs.Ytegjnejekakeiaa
namespace Go.Proofs.Ytegjnejekakeiaa
open Go.RowKit

set_option maxHeartbeats 400000 in
theorem loadI64 (b o : Nat) (x : Int) (w : World) (hc : w.cell? ⟨b, o, none⟩ = some (.int .i64 x)) :
    Calls Try.prog 43 #[.pointer (some ⟨b, o, none⟩)] w fun e w' => e = .returned (.int .i64 x) ∧ w = w' := by
  have hl := run_call_load (P := Try.prog) Try.func66 (by kernel_rfl) (by kernel_rfl) (by kernel_rfl) .i64 (by kernel_rfl) hc
  go_enter Try.func43, Try.ntmps43
  go_wp2
  go_ret
  exact ⟨rfl, rfl⟩

set_option maxHeartbeats 400000 in
theorem count_nil (w : World) : Calls Try.prog 22 #[.pointer none] w fun e w' => e = .returned (.int .i64 0) ∧ w = w' := by
  go_enter Try.func22, Try.ntmps22
  go_wp2
  go_ret
  exact ⟨rfl, rfl⟩

set_option maxHeartbeats 400000 in
theorem count_any {w : World} {g h n : Nat} {m : Nat → Nat} {c : Int} (B : Buf w g h m n c) :
    Calls Try.prog 22 #[.pointer (some ⟨g, 0, none⟩)] w fun e w' => e = .returned (.int .i64 c) ∧ w = w' := by
  have hc := B.count
  clear B
  go_enter Try.func22, Try.ntmps22
  go_wp2_with (go_at_call 43; refine (loadI64 _ _ _ _ hc).mono ?_; rintro e w' ⟨rfl, rfl⟩)
  go_ret
  exact ⟨rfl, rfl⟩

theorem read_all {w : World} {g h n : Nat} {m : Nat → Nat} {c : Int} (B : Buf w g h m n c) :
    Calls Try.prog 36 #[.pointer (some ⟨g, 0, none⟩), .int .i64 0, .int .i64 (8 * (n : Int))] w (MadeBytes (Mb.bl m 0 (8 * n)) w) := by
  simpa using read_any B 0 (8 * n) (by omega)

theorem read_nil (w : World) : Calls Try.prog 36 #[.pointer none, .int .i64 0, .int .i64 0] w (MadeBytes [] w) := by
  obtain ⟨i0, hi, hz0, hz1, hz2⟩ := info_parts infoU8
  go_enter Try.func36, Try.ntmps36
  go_wp2_with (refine wpList_make_own _ rfl _ _ 26 rfl w.heap.size 5 i0 (.int .u8 0) 1 Try.underlying26 hi hz0 hz1 .i64 .i64 _ 0 rfl rfl rfl (by rw [hz2]; omega) (by unfold maxLen; omega) (Nat.le_refl _) ?_; intro w0 hown0 hg0)
  have hbel0 : Below w.heap.size w w0 := (Below.refl _ w).grown hg0 (Nat.le_refl _) (fun g hg => by cases hg)
  clear hg0
  refine wp_loop_rounds 1 ?_
  rw [rounds_succ]
  go_wp2
  go_ret
  exact ⟨_, rfl, BytesAt.of_own (xs := []) hown0, hbel0⟩

set_option maxHeartbeats 400000 in
theorem allBytes_any {w : World} {g h n : Nat} {m : Nat → Nat} {c : Int} (B : Buf w g h m n c) :
    Calls Try.prog 17 #[.pointer (some ⟨g, 0, none⟩)] w (MadeBytes (Mb.bl m 0 (8 * n)) w) := by
  have HB := Lib.hid B
  clear B
  go_enter Try.func17, Try.ntmps17
  go_wp2_with (first
    | (go_at_call 37; refine (size_any HB.out).mono ?_; rintro e w' ⟨rfl, rfl⟩)
    | (go_at_call 36; refine (read_all HB.out).mono ?_; rintro e w1 ⟨x, rfl, hx, hb⟩))
  go_ret
  exact ⟨_, rfl, hx, hb⟩

set_option maxHeartbeats 400000 in
theorem allBytes_nil (w : World) :
    Calls Try.prog 17 #[.pointer none] w (MadeBytes [] w) := by
  go_enter Try.func17, Try.ntmps17
  go_wp2_with (first
    | (go_at_call 37; refine (size_nil _).mono ?_; rintro e w' ⟨rfl, rfl⟩)
    | (go_at_call 36; refine (read_nil _).mono ?_; rintro e w1 ⟨x, rfl, hx, hb⟩))
  go_ret
  exact ⟨_, rfl, hx, hb⟩
end Go.Proofs.Ytegjnejekakeiaa
namespace Go.Proofs.Ytegjnejekakeiaa
open Go.RowKit

/-- Both stand in memory, at the same state; nothing is both's. -/
def Duo (w0 w : World) (gw ga g h : Nat) (ax : Nat → Value) (gp q jb : Nat) (JA : Option Addr) (c5 : Nat) (js : Nat → Jb) (st : St) : Prop :=
  ∃ o tv ts p pj tv' ts', Sw w o gw ga g h ax tv ts st ∧ PW w p gp q jb JA c5 js pj tv' ts' st ∧ (∀ k, p k ≠ .no → o k = .no) ∧ Below w0.heap.size w0 w ∧ ∀ k, k < w0.heap.size → o k = .no ∧ p k = .no

namespace Duo
variable {w0 w w' : World} {gw ga g h : Nat} {ax : Nat → Value} {gp q jb : Nat} {JA : Option Addr} {c5 : Nat} {js : Nat → Jb} {st st' : St}

theorem below (H : Duo w0 w gw ga g h ax gp q jb JA c5 js st) (hb : Below w.heap.size w w') : Duo w0 w' gw ga g h ax gp q jb JA c5 js st := by
  obtain ⟨o, tv, ts, p, pj, tv', ts', h1, h2, h3, h4, h5⟩ := H
  exact ⟨o, tv, ts, p, pj, tv', ts', h1.below hb, h2.below hb, h3, h4.trans (hb.mono h4.size), h5⟩

theorem low (H : Duo w0 w gw ga g h ax gp q jb JA c5 js st) : Below w0.heap.size w0 w := by
  obtain ⟨o, tv, ts, p, pj, tv', ts', h1, h2, h3, h4, h5⟩ := H
  exact h4

theorem below_touch {S : Nat → Prop} (h4 : Below w0.heap.size w0 w) (ht : Touch S w w') (hS : ∀ k, k < w0.heap.size → ¬ S k) : Below w0.heap.size w0 w' :=
  ⟨ht.os.trans h4.os, ht.tape.trans h4.tape, ht.output.trans h4.output, Nat.le_trans h4.size ht.size, fun k hk => (ht.block k (Nat.lt_of_lt_of_le hk h4.size) (hS k hk)).trans (h4.block k hk)⟩
end Duo

/-- The scheduler is at st', the plain world at st; its blocks lie below B. -/
def DuoA (w0 w : World) (gw ga g h : Nat) (ax : Nat → Value) (gp q jb : Nat) (JA : Option Addr) (c5 : Nat) (js : Nat → Jb) (st st' : St) (B C : Nat) : Prop :=
  ∃ o tv ts p pj tv' ts', Sw w o gw ga g h ax tv ts st' ∧ PW w p gp q jb JA c5 js pj tv' ts' st ∧ (∀ k, p k ≠ .no → o k = .no) ∧ Below w0.heap.size w0 w ∧ (∀ k, k < w0.heap.size → o k = .no ∧ p k = .no) ∧ (∀ k, p k ≠ .no → k < B) ∧ ∀ k, o k ≠ .no → k < C

theorem Duo.both {w0 w : World} {gw ga g h : Nat} {ax : Nat → Value} {gp q jb : Nat} {JA : Option Addr} {c5 : Nat} {js : Nat → Jb} {st : St} (H : Duo w0 w gw ga g h ax gp q jb JA c5 js st) : DuoA w0 w gw ga g h ax gp q jb JA c5 js st st w.heap.size w.heap.size := by
  obtain ⟨o, tv, ts, p, pj, tv', ts', h1, h2, h3, h4, h5⟩ := H
  exact ⟨o, tv, ts, p, pj, tv', ts', h1, h2, h3, h4, h5, h2.plt, h1.lt⟩

namespace DuoA
variable {w0 w w' : World} {gw ga g h : Nat} {ax : Nat → Value} {gp q jb : Nat} {JA : Option Addr} {c5 : Nat} {js : Nat → Jb} {st st' : St} {B C : Nat}
theorem duo (H : DuoA w0 w gw ga g h ax gp q jb JA c5 js st st B C) : Duo w0 w gw ga g h ax gp q jb JA c5 js st := by
  obtain ⟨o, tv, ts, p, pj, tv', ts', h1, h2, h3, h4, h5, _⟩ := H
  exact ⟨o, tv, ts, p, pj, tv', ts', h1, h2, h3, h4, h5⟩
theorem below (H : DuoA w0 w gw ga g h ax gp q jb JA c5 js st st' B C) (hb : Below w.heap.size w w') : DuoA w0 w' gw ga g h ax gp q jb JA c5 js st st' B C := by
  obtain ⟨o, tv, ts, p, pj, tv', ts', h1, h2, h3, h4, h5, h6⟩ := H
  exact ⟨o, tv, ts, p, pj, tv', ts', h1.below hb, h2.below hb, h3, h4.trans (hb.mono h4.size), h5, h6⟩
theorem low (H : DuoA w0 w gw ga g h ax gp q jb JA c5 js st st' B C) : Below w0.heap.size w0 w := by
  obtain ⟨o, tv, ts, p, pj, tv', ts', h1, h2, h3, h4, h5⟩ := H
  exact h4
end DuoA

/-- What is left of bytes that a call of the scheduler made in new memory: the plain world's call leaves them. -/
def Aside (B : Nat) (w w' : World) : Prop := ∃ S : Nat → Prop, (∀ k, S k → k < B) ∧ Touch S w w'

theorem Aside.bytes {B : Nat} {w w' : World} (h : Aside B w w') {v : Value} {xs : List Int} (hb : BytesIn (fun k => B ≤ k) w v xs) : BytesIn (fun k => B ≤ k) w' v xs := by
  obtain ⟨pp, h1, h2⟩ := h
  exact hb.touch h2 fun k hk e => by have := h1 k e; omega
theorem Aside.block {B : Nat} {w w' : World} (h : Aside B w w') {k : Nat} (hk : B ≤ k) (hl : k < w.heap.size) : w'.heap[k]? = w.heap[k]? := by
  obtain ⟨pp, h1, h2⟩ := h
  exact h2.block k hl fun e => by have := h1 k e; omega
theorem Aside.size {B : Nat} {w w' : World} (h : Aside B w w') : w.heap.size ≤ w'.heap.size := by
  obtain ⟨pp, h1, h2⟩ := h
  exact h2.size

section
variable {w0 w : World} {gw ga g h : Nat} {ax : Nat → Value} {gp q jb : Nat} {JA : Option Addr} {c5 : Nat} {js : Nat → Jb} {st st1 : St} {B C : Nat}

/-- A pick of the scheduler. -/
theorem duo_pick1 (H : DuoA w0 w gw ga g h ax gp q jb JA c5 js st st B C) (p : Pk) (hl : st.tr.length ≤ 1000000) :
    Calls Try.prog 11 #[.pointer (some ⟨gw, 0, none⟩), .agg #[.int .i64 p.K, .int .i64 p.A, .int .i64 p.N]] w fun e w' => ∃ A1 l1 q1 A2 l2 q2, e = .returned (.tuple #[.agg #[.int .i64 (st.pick p).2.2.pk.K, .int .i64 (st.pick p).2.2.pk.A, .int .i64 (st.pick p).2.2.pk.N, .int .i64 (st.pick p).2.2.ac.K, .int .i64 (st.pick p).2.2.ac.P, .int .i64 (st.pick p).2.2.ac.N, .int .u64 (st.pick p).2.2.ac.V, .int .u64 (st.pick p).2.2.ac.U, .slice A1 l1 q1, .int .u64 (st.pick p).2.2.an.V, .bool (st.pick p).2.2.an.D, .slice A2 l2 q2], .int .i64 (st.pick p).2.1]) ∧
      BytesIn (fun k => w.heap.size ≤ k) w' (.slice A1 l1 q1) (st.pick p).2.2.ac.bs ∧ BytesIn (fun k => w.heap.size ≤ k) w' (.slice A2 l2 q2) (st.pick p).2.2.an.bs ∧ DuoA w0 w' gw ga g h ax gp q jb JA c5 js st (st.pick p).1 B w'.heap.size ∧ Aside C w w' := by
  obtain ⟨o, tv, ts, pp, pj, tv', ts', h1, h2, h3, h4, h5, h6, h7⟩ := H
  refine (pick_any h1 p hl).mono ?_
  rintro e w' ⟨o', A1, l1, q1, A2, l2, q2, tv2, ts2, rfl, hb1, hb2, hs, ht, ho⟩
  exact ⟨A1, l1, q1, A2, l2, q2, rfl, hb1.mono fun k hk _ => hk.1, hb2.mono fun k hk _ => hk.1, ⟨o', tv2, ts2, pp, pj, tv', ts', hs, h2.touch ht fun k hk e => e (h3 k hk), fun k hk => (ho k (h2.plt k hk)).trans (h3 k hk), Duo.below_touch h4 ht fun k hk e => e (h5 k hk).1,
    fun k hk => ⟨(ho k (Nat.lt_of_lt_of_le hk h4.size)).trans (h5 k hk).1, (h5 k hk).2⟩, h6, hs.lt⟩, Own o, h7, ht⟩

/-- A pick of the plain world. -/
theorem duo_pick2 (H : DuoA w0 w gw ga g h ax gp q jb JA c5 js st st1 B C) (p : Pk) (hl : st.tr.length ≤ 1000000) (hnw : st.nw = 32) (hok : JbsOk js st.na) :
    Calls Try.prog 12 #[.pointer (some ⟨gp, 0, none⟩), .agg #[.int .i64 p.K, .int .i64 p.A, .int .i64 p.N]] w fun e w' => ∃ A1 l1 q1 A2 l2 q2, e = .returned (.tuple #[.agg #[.int .i64 (st.pick p).2.2.pk.K, .int .i64 (st.pick p).2.2.pk.A, .int .i64 (st.pick p).2.2.pk.N, .int .i64 (st.pick p).2.2.ac.K, .int .i64 (st.pick p).2.2.ac.P, .int .i64 (st.pick p).2.2.ac.N, .int .u64 (st.pick p).2.2.ac.V, .int .u64 (st.pick p).2.2.ac.U, .slice A1 l1 q1, .int .u64 (st.pick p).2.2.an.V, .bool (st.pick p).2.2.an.D, .slice A2 l2 q2], .int .i64 (st.pick p).2.1]) ∧
      BytesAt w' (.slice A1 l1 q1) (st.pick p).2.2.ac.bs ∧ BytesAt w' (.slice A2 l2 q2) (st.pick p).2.2.an.bs ∧ DuoA w0 w' gw ga g h ax gp q jb JA c5 js (st.pick p).1 st1 w'.heap.size C ∧ Aside B w w' := by
  obtain ⟨o, tv, ts, pp, pj, tv', ts', h1, h2, h3, h4, h5, h6, h7⟩ := H
  refine (plainPick_any h2 hnw hok p hl).mono ?_
  rintro e w' ⟨p', A1, l1, q1, A2, l2, q2, pj2, tv2, ts2, rfl, hb1, hb2, hp, ht, ho⟩
  exact ⟨A1, l1, q1, A2, l2, q2, rfl, hb1, hb2, ⟨o, tv, ts, p', pj2, tv2, ts2, h1.touch ht (fun k hk e => hk (h3 k e.1)), hp, fun k hk => by
    rcases Nat.lt_or_ge k w.heap.size with e | e
    · exact h3 k (by rw [← ho k e]; exact hk)
    · exact h1.new_no e, Duo.below_touch h4 ht fun k hk e => e.1 (h5 k hk).2, fun k hk => ⟨(h5 k hk).1, (ho k (Nat.lt_of_lt_of_le hk h4.size)).trans (h5 k hk).2⟩, hp.plt, h7⟩, Mut pp, fun k hk => h6 k hk.1, ht⟩

/-- Robin of the scheduler. -/
theorem duo_robin1 (H : DuoA w0 w gw ga g h ax gp q jb JA c5 js st st1 B C) (most : Nat) (hl : st1.tr.length + most ≤ 1000000) :
    Calls Try.prog 14 #[.pointer (some ⟨gw, 0, none⟩), .int .i64 most] w fun e w' => e = .returned (.int .i64 (st1.robin most).2) ∧ DuoA w0 w' gw ga g h ax gp q jb JA c5 js st (st1.robin most).1 B w'.heap.size := by
  obtain ⟨o, tv, ts, pp, pj, tv', ts', h1, h2, h3, h4, h5, h6, h7⟩ := H
  refine (robin_any h1 most hl).mono ?_
  rintro e w' ⟨rfl, o', tv2, ts2, hs, ht, ho⟩
  exact ⟨rfl, o', tv2, ts2, pp, pj, tv', ts', hs, h2.touch ht fun k hk e => e (h3 k hk), fun k hk => (ho k (h2.plt k hk)).trans (h3 k hk), Duo.below_touch h4 ht fun k hk e => e (h5 k hk).1,
    fun k hk => ⟨(ho k (Nat.lt_of_lt_of_le hk h4.size)).trans (h5 k hk).1, (h5 k hk).2⟩, h6, hs.lt⟩

/-- Robin of the plain world. -/
theorem duo_robin2 (H : DuoA w0 w gw ga g h ax gp q jb JA c5 js st st1 B C) (most : Nat) (hl : st.tr.length + most ≤ 1000000) (hnw : st.nw = 32) (hok : JbsOk js st.na) :
    Calls Try.prog 15 #[.pointer (some ⟨gp, 0, none⟩), .int .i64 most] w fun e w' => e = .returned (.int .i64 (st.robin most).2) ∧ DuoA w0 w' gw ga g h ax gp q jb JA c5 js (st.robin most).1 st1 w'.heap.size C := by
  obtain ⟨o, tv, ts, pp, pj, tv', ts', h1, h2, h3, h4, h5, h6, h7⟩ := H
  refine (plainRobin_any h2 hnw hok most hl).mono ?_
  rintro e w' ⟨rfl, p', pj2, tv2, ts2, hp, ht, ho⟩
  exact ⟨rfl, o, tv, ts, p', pj2, tv2, ts2, h1.touch ht (fun k hk e => hk (h3 k e.1)), hp, fun k hk => by
    rcases Nat.lt_or_ge k w.heap.size with e | e
    · exact h3 k (by rw [← ho k e]; exact hk)
    · exact h1.new_no e, Duo.below_touch h4 ht fun k hk e => e.1 (h5 k hk).2, fun k hk => ⟨(h5 k hk).1, (ho k (Nat.lt_of_lt_of_le hk h4.size)).trans (h5 k hk).2⟩, hp.plt, h7⟩
end

/-- One event in a block of its own reads as a slice of one. -/
theorem evs_one {K : Nat → Prop} {w : World} {b : Nat} {t : Tx} (hb : w.heap[b]? = some (.cells #[.int .i64 t.e.pk.K, .int .i64 t.e.pk.A, .int .i64 t.e.pk.N, .int .i64 t.e.ac.K, .int .i64 t.e.ac.P, .int .i64 t.e.ac.N, .int .u64 t.e.ac.V, .int .u64 t.e.ac.U, t.s1, .int .u64 t.e.an.V, .bool t.e.an.D, t.s2] 51 (0, 0))) (hK : K b) (h1 : BytesIn K w t.s1 t.e.ac.bs) (h2 : BytesIn K w t.s2 t.e.an.bs) :
    EvsAt K w (.slice (some ⟨b, 0, none⟩) 1 1) [t] := by
  refine ⟨⟨some ⟨b, 0, none⟩, 1, rfl, Nat.le_refl _, by decide, fun _ => ⟨b, rfl, hK, (Array.getElem?_eq_some_iff.1 hb).1, fun i t' hi j u hj => ?_⟩⟩, fun t' ht => ?_⟩
  · match i, hi with
    | 0, hi =>
      simp at hi
      subst hi
      simp only [Nat.zero_mul, Nat.zero_add, World.cell?, hb]
      rw [← hj]
      simp [Tx.cells]
  · simp at ht
    subst ht
    exact ⟨h1, h2⟩

theorem upto_len6 {f : Nat → List Value} (hf : ∀ j, (f j).length = 6) (n : Nat) : (upto f n).length = n * 6 := by
  induction n with
  | zero => rfl
  | succ n ih => rw [upto_next, List.length_append, ih, hf]; omega
theorem upto_get6 (f : Nat → List Value) (hf : ∀ j, (f j).length = 6) (n i j : Nat) (hi : i < n) (hj : j < 6) : (upto f n)[i * 6 + j]? = (f i)[j]? := by
  induction n with
  | zero => omega
  | succ n ih =>
    have hl := upto_len6 hf n
    rw [upto_next]
    rcases Nat.lt_or_ge i n with h | h
    · rw [List.getElem?_append_left (by omega)]
      exact ih h
    · obtain rfl : i = n := by omega
      rw [List.getElem?_append_right (by omega)]
      congr 1
      omega

open Classical in
/-- A fabric of jobs and the scheduler of the machines, made side by side. -/
theorem duo_new {w0 w2 w3 W : World} {oA o : Nat → Pt} {js : Nat → Jb} {n c4 c5 gw ga g h : Nat} {A4 A5 : Option Addr} {xs Bs ax : Nat → Value} (hm : MadeTo w2 w3 oA js n (.slice A4 n c4) (.slice A5 n c5) xs Bs) (hw2 : w0.heap.size ≤ w2.heap.size) (hW : Below w3.heap.size w3 W)
    (hst : Stood w0 W o gw ga g h ax (St.made n (fun i => (js i).mc) (fun _ => 0) 32 0)) (ho : ∀ k, oA k = .tx ∨ oA k = .ro → o k = .no) {q gp : Nat} (hq : w3.heap.size ≤ q) (hgp : w3.heap.size ≤ gp) (hne : q ≠ gp) (hoq : o q = .no) (hog : o gp = .no)
    (hby : W.rowIs q 5 256 (fun _ => .int .u8 0)) (hhd : W.heap[gp]? = some (.cells #[.slice (some ⟨q, 0, none⟩) 256 256, .slice A5 n c5, .int .i64 0, .slice none 0 0] 42 (0, 0))) :
    ∃ jb, Duo w0 W gw ga g h ax gp q jb A5 c5 js (St.made n (fun i => (js i).mc) (fun _ => 0) 32 0) := by
  obtain ⟨⟨tv, ts, hs⟩, hlow, hout⟩ := hst
  have hm' := hm.keep hW
  have s3 := hm.low.size
  have sW := hW.size
  obtain ⟨jb, hjb⟩ : ∃ jb, 0 < n → A5 = some ⟨jb, 0, none⟩ ∧ oA jb = .ro := by
    by_cases hp : 0 < n
    · obtain ⟨g2, cap, hv, _⟩ := hm.jobs.form hp
      injection hv with e1 _ _
      exact ⟨g2, fun _ => ⟨e1, hm.own5 g2 (by rw [e1]; rfl)⟩⟩
    · exact ⟨0, fun e => absurd e hp⟩
  have hroom : n ≤ c5 ∧ c5 ≤ 9223372036854775807 := by
    rcases hm.jobs.2 with ⟨hv, h0⟩ | ⟨g2, cap, cur, hv, _, _, h1, h2, _⟩
    · injection hv with _ _ e
      omega
    · injection hv with _ _ e
      unfold maxLen at h2
      omega
  let p : Nat → Pt := fun k => if k = gp then .wd else if k = q then .bf else if oA k = .tx then .tx else if 0 < n ∧ k = jb then .ac else .no
  have hnew : ∀ k, oA k ≠ .no → w2.heap.size ≤ k ∧ k < w3.heap.size := hm.new
  have pgp : p gp = .wd := if_pos rfl
  have pq : p q = .bf := (if_neg hne).trans (if_pos rfl)
  have ptx : ∀ k, oA k = .tx → p k = .tx := fun k hk => by
    have := hnew k (by rw [hk]; simp)
    show (if _ then _ else _) = _
    rw [if_neg (by omega), if_neg (by omega), if_pos hk]
  have pjb : 0 < n → p jb = .ac := fun hp => by
    have h2 := (hjb hp).2
    have := hnew jb (by rw [h2]; simp)
    show (if _ then _ else _) = _
    rw [if_neg (by omega), if_neg (by omega), if_neg (by rw [h2]; simp), if_pos ⟨hp, rfl⟩]
  have pno : ∀ k, p k ≠ .no → k = gp ∨ k = q ∨ oA k = .tx ∨ (0 < n ∧ k = jb) := fun k hk => by
    by_cases h1 : k = gp
    · exact .inl h1
    · by_cases h2 : k = q
      · exact .inr (.inl h2)
      · by_cases h3 : oA k = .tx
        · exact .inr (.inr (.inl h3))
        · by_cases h4 : 0 < n ∧ k = jb
          · exact .inr (.inr (.inr h4))
          · exact absurd (show p k = .no by show (if _ then _ else _) = _; rw [if_neg h1, if_neg h2, if_neg h3, if_neg h4]) hk
  clear_value p
  have hlgp : gp < W.heap.size := (Array.getElem?_eq_some_iff.1 hhd).1
  have plt : ∀ k, p k ≠ .no → k < W.heap.size := fun k hk => by
    rcases pno k hk with e | e | e | e
    · omega
    · rw [e]; exact hby.lt
    · have := hnew k (by rw [e]; simp); omega
    · have := hnew jb (by rw [(hjb e.1).2]; simp); omega
  have plo : ∀ k, p k ≠ .no → w0.heap.size ≤ k := fun k hk => by
    rcases pno k hk with e | e | e | e
    · omega
    · omega
    · have := hnew k (by rw [e]; simp); omega
    · have := hnew jb (by rw [(hjb e.1).2]; simp); omega
  refine ⟨jb, o, tv, ts, p, fun i => ⟨Bs i, none, 0, 0, fun _ => ⟨0, false, none, 0, 0, fun _ => 0⟩⟩, .slice none 0 0, [], hs, ?_, fun k hk => ?_, hlow, fun k hk => ⟨hout k hk, Classical.byContradiction fun e => by have := plo k e; omega⟩⟩
  · refine ⟨hhd, fun hp => ⟨(hjb hp).1, pjb hp⟩, hroom, hby, Mb.zero_isB, fun i hi => ?_, fun i hi => (hm'.txt i hi).mono fun k hk _ => ptx k hk, hm.fits, fun i hi => ⟨ToldIn.none_ _ _ _ _, Nat.le_refl _, by show (0 : Nat) ≤ _; omega, by show ([] : List Int).length ≤ _; simp, by show (0 : Nat) ≤ _; omega⟩, fun i hi => ⟨[], ?_⟩, World.ownsRow_nil _ _ _ _, Texts.nil _ _, fun k hk => absurd hk (by simp [Value.ownBlock]), rfl, pgp, pq, plt⟩
    · have hi : i < n := hi
      obtain ⟨e1, _⟩ := hjb (by omega)
      have hj := hm'.jobs
      rw [e1] at hj
      have hget : ∀ j, j < 6 → W.cell? ⟨jb, i * 6 + j, none⟩ = ((js i).ref (Bs i))[j]? := fun j hj6 => by
        rw [hj.cellAt (i * 6 + j) (by omega)]
        exact upto_get6 (fun j => (js j).ref (Bs j)) (fun _ => rfl) n i j hi hj6
      have k0 := hget 0 (by omega)
      rw [Nat.add_zero] at k0
      exact ⟨k0, hget 1 (by omega), hget 2 (by omega), hget 3 (by omega), hget 4 (by omega), hget 5 (by omega), hj.frozenAt _, hj.frozenAt _⟩
    · show (js i).mc = _
      rw [(js i).mc_is]
      show Mc.copy _ 0 _ [] = Mc.copy _ (min (8 * 0) _) (_ - 8 * 0) []
      rw [Nat.mul_zero, Nat.zero_min, Nat.sub_zero]
  · rcases pno k hk with e | e | e | e
    · rw [e]; exact hog
    · rw [e]; exact hoq
    · exact ho k (.inl e)
    · rw [e.2]; exact ho jb (.inr (hjb e.1).2)
end Go.Proofs.Ytegjnejekakeiaa
