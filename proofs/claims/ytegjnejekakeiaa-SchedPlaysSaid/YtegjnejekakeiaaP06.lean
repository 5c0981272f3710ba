/-
  Layer 6's round and Robin, walked: all that live do a step each, in order.
  Layer 6's Robin, walked: round by round.
  Layer 6's lists of events in memory.
  Layer 6's Trace, walked: all events, in new memory.
  Layer 6's New, walked: a scheduler is made.
  Layer 5's In, Zero, Out and Bytes, walked.
  Layer 6's statements: a job and a machine appended to their rows.
  Layer 6's statements: the machines of a list of jobs, as they stand in memory.
  The calls whose answers layer 6's document fixes, walked.
-/
import Derived.Test.YtegjnejekakeiaaP05
import Derived.Laws.IdiomCopy
import Derived.Lib.LazyBuf
import Derived.Test.YtegjnejekakeiaaP02
import Derived.Deep.RegionHeld3
import Derived.Laws.EntriesVeiled
import Derived.Test.YtegjnejekakeiaaP03
import Derived.Maps.AppendAt
import Derived.Lib.SlBytesConst
namespace Go.Proofs.Ytegjnejekakeiaa
open Go.RowKit

/-- An actor does the access that it is at. -/
def St.act (st : St) (i : Nat) (a : Ac) : St := if a.err st.nw = 0 then st.did ⟨0, i, 0⟩ i a else st.kill i

/-- So many actors from i on do a step each, as long as fewer than 'most' did: the state, how many did. -/
def St.rnd : Nat → St → Nat → Nat → Nat → St × Nat
  | 0, st, _, n, _ => (st, n)
  | k + 1, st, i, n, most =>
    if n = most then (st, n)
    else if st.dead i = true then St.rnd k st (i + 1) n most
    else match (st.ms i).next with
      | none => St.rnd k st (i + 1) n most
      | some a => St.rnd k (st.act i a) (i + 1) (n + 1) most

theorem St.act_na (st : St) (i : Nat) (a : Ac) : (st.act i a).na = st.na := by unfold St.act; split <;> rfl
theorem St.act_tr (st : St) (i : Nat) (a : Ac) : (st.act i a).tr.length ≤ st.tr.length + 1 := by
  unfold St.act
  split
  · show (st.tr ++ [_]).length ≤ _; simp
  · exact Nat.le_succ _

theorem St.rnd_most (k : Nat) (st : St) (i most : Nat) : St.rnd k st i most most = (st, most) := by
  cases k with
  | zero => rfl
  | succ k => show (if most = most then _ else _) = _; rw [if_pos rfl]
theorem St.rnd_dead {k : Nat} {st : St} {i n most : Nat} (h : n ≠ most) (hd : st.dead i = true) : St.rnd (k + 1) st i n most = St.rnd k st (i + 1) n most := by
  show (if n = most then _ else _) = _
  rw [if_neg h, if_pos hd]
theorem St.rnd_end {k : Nat} {st : St} {i n most : Nat} (h : n ≠ most) (hd : st.dead i = false) (hn : (st.ms i).next = none) : St.rnd (k + 1) st i n most = St.rnd k st (i + 1) n most := by
  show (if n = most then _ else _) = _
  rw [if_neg h, if_neg (by rw [hd]; simp), hn]
theorem St.rnd_act {k : Nat} {st : St} {i n most : Nat} {a : Ac} (h : n ≠ most) (hd : st.dead i = false) (hn : (st.ms i).next = some a) : St.rnd (k + 1) st i n most = St.rnd k (st.act i a) (i + 1) (n + 1) most := by
  show (if n = most then _ else _) = _
  rw [if_neg h, if_neg (by rw [hd]; simp), hn]

/-- A step by the state alone: the event is told. -/
theorem step_act {w : World} {o : Nat → Pt} {gw ga gb hb : Nat} {ax : Nat → Value} {tv : Value} {ts : List Tx} {st : St} (h : Sw w o gw ga gb hb ax tv ts st) (i : Nat) (hi : i < st.na) (a : Ac) (hn : (st.ms i).next = some a)
    {base : Nat} {A : Option Addr} {l cp : Nat} (ho : Owns base w (.slice A l cp) a.bs) (hbase : ∀ k, o k ≠ .no → k < base) (hlong : ts.length ≤ 1000000) :
    Calls Try.prog 31 #[.pointer (some ⟨gw, 0, none⟩), .agg #[.int .i64 0, .int .i64 (i : Nat), .int .i64 0], .agg #[.int .i64 a.K, .int .i64 a.P, .int .i64 a.N, .int .u64 a.V, .int .u64 a.U, .slice A l cp]] w
      fun e w' => (∃ v r, e = .returned (.tuple #[.agg v, .int .i64 r])) ∧ ∃ o' tv' ts', Sw w' o' gw ga gb hb ax tv' ts' (st.act i a) ∧ Touch (Own o) w w' ∧ ∀ k, k < w.heap.size → o' k = o k := by
  unfold St.act
  by_cases h0 : a.err st.nw = 0
  · rw [if_pos h0]
    refine (step_ok h ⟨0, (i : Nat), 0⟩ i rfl hi a ((h.mach i hi).fine hn) hn ho hbase h0 hlong).mono ?_
    rintro e w' ⟨o', A2, l2, c2, tv', ts', he, _, hs, ht, ho'⟩
    exact ⟨⟨_, _, he⟩, o', tv', ts', hs, ht, ho'⟩
  · rw [if_neg h0]
    refine (step_no h ⟨0, (i : Nat), 0⟩ i rfl hi a ho h0).mono ?_
    rintro e w' ⟨he, hs, ht⟩
    exact ⟨⟨_, _, he⟩, o, tv, ts, hs, ht, fun _ _ => rfl⟩

set_option maxRecDepth 100000 in
set_option maxHeartbeats 4000000 in
theorem round_any {w : World} {o : Nat → Pt} {gw ga gb hb : Nat} {ax : Nat → Value} {tv : Value} {ts : List Tx} {st : St} (h : Sw w o gw ga gb hb ax tv ts st) (most : Nat) (hlong : st.tr.length + most ≤ 1000000) :
    Calls Try.prog 35 #[.pointer (some ⟨gw, 0, none⟩), .int .i64 most] w
      fun e w' => e = .returned (.int .i64 (St.rnd st.na st 0 0 most).2) ∧ ∃ o' tv' ts', Sw w' o' gw ga gb hb ax tv' ts' (St.rnd st.na st 0 0 most).1 ∧ Touch (Own o) w w' ∧ ∀ k, k < w.heap.size → o' k = o k := by
  have hc1 := h.w1
  have hfew := h.few
  have HS := Lib.hid h
  obtain ⟨res, hres⟩ : ∃ res, St.rnd st.na st 0 0 most = res := ⟨_, rfl⟩
  rw [hres]
  have HRES := Lib.hid hres
  have hmost : most ≤ 1000000 := by omega
  have HL := Lib.hid hlong
  clear h hres hlong
  go_enter Try.func35, Try.ntmps35
  go_wp2
  go_loopw [17, 5] (fun t17 t5 wr => ∃ (i n : Nat) (o1 : Nat → Pt) (tv1 : Value) (ts1 : List Tx) (st1 : St), t17 = .int .i64 i ∧ t5 = .int .i64 n ∧ i ≤ st.na ∧ n ≤ most ∧ st1.na = st.na ∧ Sw wr o1 gw ga gb hb ax tv1 ts1 st1 ∧ St.rnd (st.na - i) st1 i n most = res ∧ st1.tr.length + (most - n) ≤ 1000000 ∧ Touch (Own o) w wr ∧ ∀ k, k < w.heap.size → o1 k = o k) (fun t17 _ _ => st.na - (intOf t17).toNat)
  case atStart => exact ⟨0, 0, o, tv, ts, st, rfl, rfl, Nat.zero_le _, Nat.zero_le _, rfl, HS.out, HRES.out, HL.out, Touch.refl _ _, fun _ _ => rfl⟩
  case round =>
    obtain ⟨i, n, o1, tv1, ts1, st1, rfl, rfl, hi, hn, hna, hsw, heq, hlen, htt, hoo⟩ := hrel
    have HSW := Lib.hid hsw
    have HEQ := Lib.hid heq
    have HLEN := Lib.hid hlen
    have HTT := Lib.hid (And.intro htt hoo)
    have HNA := Lib.hid hna
    clear htt hoo heq hlen
    by_cases hlt : i < st.na
    · have hm := hsw.amach (i := i) (by omega)
      have hd := hsw.adead (i := i) (by omega)
      have HMR := Lib.hid (hsw.mach i (by omega))
      generalize hx : ax i = x at hm HMR
      have HX := Lib.hid hx
      clear hsw hx hna
      by_cases hnm : n = most
      · subst hnm
        have he := HEQ.out
        rw [St.rnd_most] at he
        have HE2 := Lib.hid he
        clear he
        rcases HMR.out.shape with ⟨rfl, _⟩ | ⟨T, y, rfl⟩
        all_goals
          go_wp2
          go_ret
          exact ⟨by rw [← HE2.out]; rfl, o1, tv1, ts1, by rw [← HE2.out]; exact HSW.out.alloc _, HTT.out.1.alloc _, HTT.out.2⟩
      · have hnm2 : ¬ (n : Int) = most := by omega
        have HNM := Lib.hid hnm
        clear hnm
        cases hdd : st1.dead i with
        | true =>
          rw [hdd] at hd
          have HDD := Lib.hid hdd
          clear hdd
          rcases HMR.out.shape with ⟨rfl, _⟩ | ⟨T, y, rfl⟩
          all_goals
            go_wp2
            go_roundw
            case rel =>
              have he := HEQ.out
              rw [show st.na - i = (st.na - (i + 1)) + 1 by omega, St.rnd_dead HNM.out HDD.out] at he
              exact ⟨i + 1, n, o1, tv1, ts1, st1, by go_num, rfl, by omega, hn, HNA.out, HSW.out.alloc _, he, HLEN.out, HTT.out.1.alloc _, HTT.out.2⟩
            case measure => simp [intOf]; omega
        | false =>
          rw [hdd] at hd
          have HDD := Lib.hid hdd
          clear hdd
          rcases HMR.out.shape with ⟨rfl, _⟩ | ⟨T, y, rfl⟩
          · skip
            have HBX := Lib.hid ((Below.refl wr.heap.size wr).alloc (Nat.le_refl _) (.cells #[.nilIface, .bool false] 87))
            have HNXT := Lib.hid (next_told (HMR.out.keep HBX.out.size fun k hk => HBX.out.block k (HSW.out.lt k (by rw [hk]; simp))) (fun k hk => Nat.lt_of_lt_of_le (HSW.out.lt k (by rw [hk]; simp)) HBX.out.size))
            have hna1 := HNA.out
            cases hnx : (st1.ms i).next with
            | none =>
              rw [hnx] at HNXT
              have HNX := Lib.hid hnx
              clear hnx
              go_wp2_with (go_at_call 30; refine HNXT.out.mono ?_; rintro e w2 ⟨hb2, he⟩; have he2 : e = .returned (.tuple #[.agg #[.int .i64 0, .int .i64 0, .int .i64 0, .int .u64 0, .int .u64 0, .slice none 0 0], .bool false]) := he; subst he2; have HB2 := Lib.hid hb2; clear hb2 he)
              go_roundw
              case rel =>
                have he := HEQ.out
                rw [show st.na - i = (st.na - (i + 1)) + 1 by omega, St.rnd_end HNM.out HDD.out HNX.out] at he
                have hbb := HBX.out.after HB2.out
                exact ⟨i + 1, n, o1, tv1, ts1, st1, by go_num, rfl, by omega, hn, HNA.out, (HSW.out.below hbb).alloc _, he, HLEN.out, (HTT.out.1.trans (Touch.of_below hbb)).alloc _, HTT.out.2⟩
              case measure => simp [intOf]; omega
            | some a =>
              rw [hnx] at HNXT
              have HNX := Lib.hid hnx
              clear hnx
              go_wp2_with (go_at_call 30; refine HNXT.out.mono ?_; rintro e w2 ⟨hb2, he⟩; obtain ⟨A, l, c, he2, ho⟩ := he; subst he2; have HB2 := Lib.hid (And.intro hb2 ho); clear hb2 ho)
              generalize hW3 : w2.alloc (.cells #[.int .i64 a.K, .int .i64 a.P, .int .i64 a.N, .int .u64 a.V, .int .u64 a.U, .slice A l c] 47) = W3
              have hb3 : Below w2.heap.size w2 W3 := by rw [← hW3]; exact (Below.refl _ w2).alloc (Nat.le_refl _) _
              have hbk : W3.heap[w2.heap.size]? = some (.cells #[.int .i64 a.K, .int .i64 a.P, .int .i64 a.N, .int .u64 a.V, .int .u64 a.U, .slice A l c] 47 (0, 0)) := by rw [← hW3]; exact Go.Deep.blk_alloc_new _ _
              have hbb := (HBX.out.after HB2.out.1).after hb3
              have HS3 := Lib.hid (HSW.out.below hbb)
              have HO3 := Lib.hid (HB2.out.2.below hb3)
              have hsx := HBX.out.size
              have hlst : st1.tr.length = ts1.length := by rw [HSW.out.told, List.length_map]
              have hlen := HLEN.out
              have HCL := Lib.hid (step_act HS3.out i (by omega) a HNX.out HO3.out (fun k hk => Nat.lt_of_lt_of_le (HSW.out.lt k hk) hsx) (by omega))
              have b0 : W3.cell? ⟨w2.heap.size, 0, none⟩ = some (.int .i64 a.K) := by simp [World.cell?, hbk]
              have b1 : W3.cell? ⟨w2.heap.size, 1, none⟩ = some (.int .i64 a.P) := by simp [World.cell?, hbk]
              have b2 : W3.cell? ⟨w2.heap.size, 2, none⟩ = some (.int .i64 a.N) := by simp [World.cell?, hbk]
              have b3 : W3.cell? ⟨w2.heap.size, 3, none⟩ = some (.int .u64 a.V) := by simp [World.cell?, hbk]
              have b4 : W3.cell? ⟨w2.heap.size, 4, none⟩ = some (.int .u64 a.U) := by simp [World.cell?, hbk]
              have b5 : W3.cell? ⟨w2.heap.size, 5, none⟩ = some (.slice A l c) := by simp [World.cell?, hbk]
              have HBB := Lib.hid hbb
              clear hW3 hbk hbb hb3
              go_wp2_with (go_at_call 31; refine HCL.out.mono ?_; rintro e w9 ⟨⟨v9, r9, he9⟩, ho9⟩; subst he9; have HO9 := Lib.hid ho9; clear ho9)
              go_roundw
              case rel =>
                have he := HEQ.out
                rw [show st.na - i = (st.na - (i + 1)) + 1 by omega, St.rnd_act HNM.out HDD.out HNX.out] at he
                obtain ⟨o9, tv9, ts9, z1, z2, z3⟩ := HO9.out
                have hall := own_trans (HTT.out.1.trans (Touch.of_below HBB.out)) HTT.out.2 z2 z3
                exact ⟨i + 1, n + 1, o9, tv9, ts9, st1.act i a, by go_num, by go_num, by omega, by omega, by rw [St.act_na]; exact HNA.out, z1, he, by have := St.act_tr st1 i a; omega, hall.1, hall.2⟩
              case measure => simp [intOf]; omega
          · skip
            have HBX := Lib.hid ((Below.refl wr.heap.size wr).alloc (Nat.le_refl _) (.cells #[.iface T y, .bool false] 87))
            have HNXT := Lib.hid (next_told (HMR.out.keep HBX.out.size fun k hk => HBX.out.block k (HSW.out.lt k (by rw [hk]; simp))) (fun k hk => Nat.lt_of_lt_of_le (HSW.out.lt k (by rw [hk]; simp)) HBX.out.size))
            have hna1 := HNA.out
            cases hnx : (st1.ms i).next with
            | none =>
              rw [hnx] at HNXT
              have HNX := Lib.hid hnx
              clear hnx
              go_wp2_with (go_at_call 30; refine HNXT.out.mono ?_; rintro e w2 ⟨hb2, he⟩; have he2 : e = .returned (.tuple #[.agg #[.int .i64 0, .int .i64 0, .int .i64 0, .int .u64 0, .int .u64 0, .slice none 0 0], .bool false]) := he; subst he2; have HB2 := Lib.hid hb2; clear hb2 he)
              go_roundw
              case rel =>
                have he := HEQ.out
                rw [show st.na - i = (st.na - (i + 1)) + 1 by omega, St.rnd_end HNM.out HDD.out HNX.out] at he
                have hbb := HBX.out.after HB2.out
                exact ⟨i + 1, n, o1, tv1, ts1, st1, by go_num, rfl, by omega, hn, HNA.out, (HSW.out.below hbb).alloc _, he, HLEN.out, (HTT.out.1.trans (Touch.of_below hbb)).alloc _, HTT.out.2⟩
              case measure => simp [intOf]; omega
            | some a =>
              rw [hnx] at HNXT
              have HNX := Lib.hid hnx
              clear hnx
              go_wp2_with (go_at_call 30; refine HNXT.out.mono ?_; rintro e w2 ⟨hb2, he⟩; obtain ⟨A, l, c, he2, ho⟩ := he; subst he2; have HB2 := Lib.hid (And.intro hb2 ho); clear hb2 ho)
              generalize hW3 : w2.alloc (.cells #[.int .i64 a.K, .int .i64 a.P, .int .i64 a.N, .int .u64 a.V, .int .u64 a.U, .slice A l c] 47) = W3
              have hb3 : Below w2.heap.size w2 W3 := by rw [← hW3]; exact (Below.refl _ w2).alloc (Nat.le_refl _) _
              have hbk : W3.heap[w2.heap.size]? = some (.cells #[.int .i64 a.K, .int .i64 a.P, .int .i64 a.N, .int .u64 a.V, .int .u64 a.U, .slice A l c] 47 (0, 0)) := by rw [← hW3]; exact Go.Deep.blk_alloc_new _ _
              have hbb := (HBX.out.after HB2.out.1).after hb3
              have HS3 := Lib.hid (HSW.out.below hbb)
              have HO3 := Lib.hid (HB2.out.2.below hb3)
              have hsx := HBX.out.size
              have hlst : st1.tr.length = ts1.length := by rw [HSW.out.told, List.length_map]
              have hlen := HLEN.out
              have HCL := Lib.hid (step_act HS3.out i (by omega) a HNX.out HO3.out (fun k hk => Nat.lt_of_lt_of_le (HSW.out.lt k hk) hsx) (by omega))
              have b0 : W3.cell? ⟨w2.heap.size, 0, none⟩ = some (.int .i64 a.K) := by simp [World.cell?, hbk]
              have b1 : W3.cell? ⟨w2.heap.size, 1, none⟩ = some (.int .i64 a.P) := by simp [World.cell?, hbk]
              have b2 : W3.cell? ⟨w2.heap.size, 2, none⟩ = some (.int .i64 a.N) := by simp [World.cell?, hbk]
              have b3 : W3.cell? ⟨w2.heap.size, 3, none⟩ = some (.int .u64 a.V) := by simp [World.cell?, hbk]
              have b4 : W3.cell? ⟨w2.heap.size, 4, none⟩ = some (.int .u64 a.U) := by simp [World.cell?, hbk]
              have b5 : W3.cell? ⟨w2.heap.size, 5, none⟩ = some (.slice A l c) := by simp [World.cell?, hbk]
              have HBB := Lib.hid hbb
              clear hW3 hbk hbb hb3
              go_wp2_with (go_at_call 31; refine HCL.out.mono ?_; rintro e w9 ⟨⟨v9, r9, he9⟩, ho9⟩; subst he9; have HO9 := Lib.hid ho9; clear ho9)
              go_roundw
              case rel =>
                have he := HEQ.out
                rw [show st.na - i = (st.na - (i + 1)) + 1 by omega, St.rnd_act HNM.out HDD.out HNX.out] at he
                obtain ⟨o9, tv9, ts9, z1, z2, z3⟩ := HO9.out
                have hall := own_trans (HTT.out.1.trans (Touch.of_below HBB.out)) HTT.out.2 z2 z3
                exact ⟨i + 1, n + 1, o9, tv9, ts9, st1.act i a, by go_num, by go_num, by omega, by omega, by rw [St.act_na]; exact HNA.out, z1, he, by have := St.act_tr st1 i a; omega, hall.1, hall.2⟩
              case measure => simp [intOf]; omega
    · obtain rfl : i = st.na := by omega
      have he := HEQ.out
      rw [Nat.sub_self] at he
      have HE2 : Hid ((st1, n) = res) := Lib.hid he
      clear he
      go_wp2
      go_ret
      exact ⟨by rw [← HE2.out]; rfl, o1, tv1, ts1, by rw [← HE2.out]; exact HSW.out, HTT.out⟩
end Go.Proofs.Ytegjnejekakeiaa
namespace Go.Proofs.Ytegjnejekakeiaa
open Go.RowKit

/-- Rounds, as long as somebody does something and fewer than 'most' steps were done. -/
def St.rob : Nat → St → Nat → Nat → St × Nat
  | 0, st, n, _ => (st, n)
  | f + 1, st, n, most =>
    if n < most then (if (St.rnd st.na st 0 0 (most - n)).2 = 0 then ((St.rnd st.na st 0 0 (most - n)).1, n) else St.rob f (St.rnd st.na st 0 0 (most - n)).1 (n + (St.rnd st.na st 0 0 (most - n)).2) most)
    else (st, n)
/-- Robin: the state, how many steps were done. -/
def St.robin (st : St) (most : Nat) : St × Nat := St.rob most st 0 most

theorem St.rnd_facts (k : Nat) : ∀ (st : St) (i n most : Nat), n ≤ most → n ≤ (St.rnd k st i n most).2 ∧ (St.rnd k st i n most).2 ≤ most ∧ (St.rnd k st i n most).1.tr.length ≤ st.tr.length + ((St.rnd k st i n most).2 - n) ∧ (St.rnd k st i n most).1.na = st.na := by
  induction k with
  | zero => exact fun st i n most h => ⟨Nat.le_refl _, h, Nat.le_add_right _ _, rfl⟩
  | succ k ih =>
    intro st i n most h
    by_cases hnm : n = most
    · subst hnm
      rw [St.rnd_most]
      exact ⟨Nat.le_refl _, Nat.le_refl _, Nat.le_add_right _ _, rfl⟩
    · cases hd : st.dead i with
      | true => rw [St.rnd_dead hnm hd]; exact ih st (i + 1) n most h
      | false =>
        cases hn : (st.ms i).next with
        | none => rw [St.rnd_end hnm hd hn]; exact ih st (i + 1) n most h
        | some a =>
          rw [St.rnd_act hnm hd hn]
          obtain ⟨h1, h2, h3, h4⟩ := ih (st.act i a) (i + 1) (n + 1) most (by omega)
          have h5 := St.act_tr st i a
          exact ⟨by omega, h2, by omega, h4.trans (St.act_na st i a)⟩

theorem St.rob_end (f : Nat) (st : St) (n most : Nat) (h : ¬ n < most) : St.rob f st n most = (st, n) := by
  cases f with
  | zero => rfl
  | succ f => show (if n < most then _ else _) = _; rw [if_neg h]
theorem St.rob_idle (f : Nat) (st : St) (n most : Nat) (h : n < most) (h0 : (St.rnd st.na st 0 0 (most - n)).2 = 0) : St.rob (f + 1) st n most = ((St.rnd st.na st 0 0 (most - n)).1, n) := by
  show (if n < most then _ else _) = _
  rw [if_pos h, if_pos h0]
theorem St.rob_next (f : Nat) (st : St) (n most : Nat) (h : n < most) (h0 : ¬ (St.rnd st.na st 0 0 (most - n)).2 = 0) : St.rob (f + 1) st n most = St.rob f (St.rnd st.na st 0 0 (most - n)).1 (n + (St.rnd st.na st 0 0 (most - n)).2) most := by
  show (if n < most then _ else _) = _
  rw [if_pos h, if_neg h0]

set_option maxRecDepth 100000 in
set_option maxHeartbeats 2000000 in
theorem robin_any {w : World} {o : Nat → Pt} {gw ga gb hb : Nat} {ax : Nat → Value} {tv : Value} {ts : List Tx} {st : St} (h : Sw w o gw ga gb hb ax tv ts st) (most : Nat) (hlong : st.tr.length + most ≤ 1000000) :
    Calls Try.prog 14 #[.pointer (some ⟨gw, 0, none⟩), .int .i64 most] w
      fun e w' => e = .returned (.int .i64 (st.robin most).2) ∧ ∃ o' tv' ts', Sw w' o' gw ga gb hb ax tv' ts' (st.robin most).1 ∧ Touch (Own o) w w' ∧ ∀ k, k < w.heap.size → o' k = o k := by
  have HS := Lib.hid h
  obtain ⟨res, hres⟩ : ∃ res, St.rob most st 0 most = res := ⟨_, rfl⟩
  unfold St.robin
  rw [hres]
  have HRES := Lib.hid hres
  have hmost : most ≤ 1000000 := by omega
  have HL := Lib.hid hlong
  clear h hres hlong
  go_enter Try.func14, Try.ntmps14
  go_wp2
  go_loopw [5] (fun t5 wr => ∃ (f n : Nat) (o1 : Nat → Pt) (tv1 : Value) (ts1 : List Tx) (st1 : St), t5 = .int .i64 n ∧ n ≤ most ∧ most - n ≤ f ∧ Sw wr o1 gw ga gb hb ax tv1 ts1 st1 ∧ St.rob f st1 n most = res ∧ st1.tr.length + (most - n) ≤ 1000000 ∧ Touch (Own o) w wr ∧ ∀ k, k < w.heap.size → o1 k = o k) (fun t5 _ => most - (intOf t5).toNat)
  case atStart => exact ⟨most, 0, o, tv, ts, st, rfl, Nat.zero_le _, Nat.le_refl _, HS.out, HRES.out, HL.out, Touch.refl _ _, fun _ _ => rfl⟩
  case round =>
    obtain ⟨f, n, o1, tv1, ts1, st1, rfl, hn, hf, hsw, heq, hlen, htt, hoo⟩ := hrel
    have HSW := Lib.hid hsw
    have HEQ := Lib.hid heq
    have HLEN := Lib.hid hlen
    have HTT := Lib.hid (And.intro htt hoo)
    clear htt hoo heq hlen hsw
    by_cases hlt : n < most
    · have hsub : IntKind.i64.wrap ((most : Int) - n) = ((most - n : Nat) : Int) := by rw [IntWalk.i64_in _ (by omega)]; omega
      obtain ⟨rr, hrr⟩ : ∃ rr, St.rnd st1.na st1 0 0 (most - n) = rr := ⟨_, rfl⟩
      have hfa := St.rnd_facts st1.na st1 0 0 (most - n) (Nat.zero_le _)
      have hro := round_any HSW.out (most - n) HLEN.out
      rw [hrr] at hfa hro
      have HRO := Lib.hid hro
      have HRR := Lib.hid hrr
      have hd2 := hfa.2.1
      have HFA := Lib.hid hfa
      clear hro hrr hfa
      obtain ⟨d, hd⟩ : ∃ d, rr.2 = d := ⟨_, rfl⟩
      rw [hd] at HRO hd2
      have HD := Lib.hid hd
      clear hd
      obtain ⟨f, rfl⟩ : ∃ f', f = f' + 1 := ⟨f - 1, by omega⟩
      by_cases h0 : d = 0
      · subst h0
        go_wp2_with (go_at_call 35; refine HRO.out.mono ?_; rintro e w2 ⟨rfl, ho⟩; have HO := Lib.hid ho; clear ho)
        go_ret
        have he := HEQ.out
        rw [St.rob_idle _ _ _ _ hlt (by rw [HRR.out]; exact HD.out), HRR.out] at he
        obtain ⟨o9, tv9, ts9, z1, z2, z3⟩ := HO.out
        have hall := own_trans HTT.out.1 HTT.out.2 z2 z3
        exact ⟨by rw [← he]; rfl, o9, tv9, ts9, by rw [← he]; exact z1, hall.1, hall.2⟩
      · have h0i : ¬ (d : Int) = 0 := by omega
        go_wp2_with (go_at_call 35; refine HRO.out.mono ?_; rintro e w2 ⟨rfl, ho⟩; have HO := Lib.hid ho; clear ho)
        go_roundw
        case rel =>
          have he := HEQ.out
          rw [St.rob_next _ _ _ _ hlt (by rw [HRR.out, HD.out]; exact h0), HRR.out, HD.out] at he
          obtain ⟨o9, tv9, ts9, z1, z2, z3⟩ := HO.out
          have hall := own_trans HTT.out.1 HTT.out.2 z2 z3
          have hl1 := HLEN.out
          have hl2 := HFA.out.2.2.1
          rw [HD.out] at hl2
          exact ⟨f, n + d, o9, tv9, ts9, rr.1, by go_num, by omega, by omega, z1, he, by omega, hall.1, hall.2⟩
        case measure => simp [intOf]; omega
    · obtain rfl : n = most := by omega
      have he := HEQ.out
      rw [St.rob_end _ _ _ _ hlt] at he
      have HE2 := Lib.hid he
      clear he
      go_wp2
      go_ret
      exact ⟨by rw [← HE2.out]; rfl, o1, tv1, ts1, by rw [← HE2.out]; exact HSW.out, HTT.out⟩
end Go.Proofs.Ytegjnejekakeiaa
namespace Go.Proofs.Ytegjnejekakeiaa
open Go.RowKit

/-- The events stand in block b, one behind the other. -/
def EvRow (w : World) (b : Nat) (ts : List Tx) : Prop := ∀ i t, ts[i]? = some t → ∀ j u, t.cells[j]? = some u → w.cell? ⟨b, i * 12 + j, none⟩ = some u

/-- The bytes of the events lie in blocks that K names. -/
def Texts (K : Nat → Prop) (w : World) (ts : List Tx) : Prop := ∀ t ∈ ts, BytesIn K w t.s1 t.e.ac.bs ∧ BytesIn K w t.s2 t.e.an.bs

/-- A slice that reads as events, in blocks that K names. -/
def EvsAt (K : Nat → Prop) (w : World) (v : Value) (ts : List Tx) : Prop :=
  (∃ A c, v = .slice A ts.length c ∧ ts.length ≤ c ∧ c ≤ 9223372036854775807 ∧ (0 < ts.length → ∃ b, A = some ⟨b, 0, none⟩ ∧ K b ∧ b < w.heap.size ∧ EvRow w b ts)) ∧ Texts K w ts

theorem Tx.cells_length (t : Tx) : t.cells.length = 12 := rfl

theorem flat_get (ts : List Tx) : ∀ (i : Nat) (t : Tx), ts[i]? = some t → ∀ j, j < 12 → (ts.flatMap Tx.cells)[i * 12 + j]? = t.cells[j]? := by
  induction ts with
  | nil => intro i t h; simp at h
  | cons x ts ih =>
    intro i t h j hj
    rw [List.flatMap_cons]
    cases i with
    | zero =>
      rw [List.getElem?_cons_zero] at h
      injection h with h
      subst h
      rw [Nat.zero_mul, Nat.zero_add, List.getElem?_append_left (by rw [Tx.cells_length]; exact hj)]
    | succ i =>
      rw [List.getElem?_cons_succ] at h
      rw [List.getElem?_append_right (by rw [Tx.cells_length]; omega), Tx.cells_length, show (i + 1) * 12 + j - 12 = i * 12 + j by omega]
      exact ih i t h j hj

theorem flat_length (ts : List Tx) : (ts.flatMap Tx.cells).length = ts.length * 12 := by
  induction ts with
  | nil => rfl
  | cons x ts ih => rw [List.flatMap_cons, List.length_append, ih, Tx.cells_length, List.length_cons]; omega

/-- A row of the call's own reads as events. -/
theorem EvRow.of_own {w : World} {base g : Nat} {v : Value} {ts : List Tx} (h : w.ownsRow base 51 12 v ts.length (ts.flatMap Tx.cells)) (hg : v.ownBlock = some g) : EvRow w g ts := by
  intro i t hi j u hj
  have hlt : j < 12 := by
    rcases Nat.lt_or_ge j 12 with h | h
    · exact h
    · rw [List.getElem?_eq_none (by rw [Tx.cells_length]; exact h)] at hj; cases hj
  have := h.cells hg (i * 12 + j) u ((flat_get ts i t hi j hlt).trans hj)
  have e : (⟨g, 0, none⟩ : Addr).add (i * 12 + j) = ⟨g, i * 12 + j, none⟩ := by unfold Addr.add; split <;> simp_all
  rw [e] at this
  exact this

theorem EvRow.of_block {w w' : World} {b : Nat} {ts : List Tx} (h : EvRow w b ts) (hb : w'.heap[b]? = w.heap[b]?) : EvRow w' b ts :=
  fun i t hi j u hj => (World.cell?_of_block (w := w) (a := ⟨b, i * 12 + j, none⟩) hb).trans (h i t hi j u hj)

theorem Texts.keep {K : Nat → Prop} {w w' : World} {ts : List Tx} (h : Texts K w ts) (hs : w.heap.size ≤ w'.heap.size) (hb : ∀ k, K k → k < w.heap.size → w'.heap[k]? = w.heap[k]?) : Texts K w' ts :=
  fun t ht => ⟨(h t ht).1.keep hs hb, (h t ht).2.keep hs hb⟩
theorem Texts.mono {K K' : Nat → Prop} {w : World} {ts : List Tx} (h : Texts K w ts) (hK : ∀ k, K k → k < w.heap.size → K' k) : Texts K' w ts :=
  fun t ht => ⟨(h t ht).1.mono hK, (h t ht).2.mono hK⟩
theorem Texts.append {K : Nat → Prop} {w : World} {ts : List Tx} {t : Tx} (h : Texts K w ts) (h1 : BytesIn K w t.s1 t.e.ac.bs) (h2 : BytesIn K w t.s2 t.e.an.bs) : Texts K w (ts ++ [t]) := fun x hx => by
  rcases List.mem_append.1 hx with hx | hx
  · exact h x hx
  · obtain rfl : x = t := by simpa using hx
    exact ⟨h1, h2⟩
theorem Texts.nil (K : Nat → Prop) (w : World) : Texts K w [] := fun _ h => by cases h

namespace EvsAt
variable {K K' : Nat → Prop} {w w' : World} {v : Value} {ts : List Tx}
theorem keep (h : EvsAt K w v ts) (hs : w.heap.size ≤ w'.heap.size) (hb : ∀ k, K k → k < w.heap.size → w'.heap[k]? = w.heap[k]?) : EvsAt K w' v ts := by
  obtain ⟨⟨A, c, hv, h1, h2, h3⟩, ht⟩ := h
  refine ⟨⟨A, c, hv, h1, h2, fun hp => ?_⟩, ht.keep hs hb⟩
  obtain ⟨b, e, hk, hl, hr⟩ := h3 hp
  exact ⟨b, e, hk, Nat.lt_of_lt_of_le hl hs, hr.of_block (hb b hk hl)⟩
theorem below (h : EvsAt K w v ts) (hb : Below w.heap.size w w') : EvsAt K w' v ts := h.keep hb.size fun k _ hl => hb.block k hl
theorem touch {S : Nat → Prop} (h : EvsAt K w v ts) (ht : Touch S w w') (hn : ∀ k, K k → k < w.heap.size → ¬ S k) : EvsAt K w' v ts := h.keep ht.size fun k hk hl => ht.block k hl (hn k hk hl)
theorem mono (h : EvsAt K w v ts) (hK : ∀ k, K k → k < w.heap.size → K' k) : EvsAt K' w v ts := by
  obtain ⟨⟨A, c, hv, h1, h2, h3⟩, ht⟩ := h
  refine ⟨⟨A, c, hv, h1, h2, fun hp => ?_⟩, ht.mono hK⟩
  obtain ⟨b, e, hk, hl, hr⟩ := h3 hp
  exact ⟨b, e, hK b hk hl, hl, hr⟩
theorem none (K : Nat → Prop) (w : World) : EvsAt K w (.slice Option.none 0 0) [] := ⟨⟨Option.none, 0, rfl, Nat.le_refl _, by decide, fun h => absurd h (by simp)⟩, Texts.nil _ _⟩
theorem of_own {base : Nat} (h : w.ownsRow base 51 12 v ts.length (ts.flatMap Tx.cells)) (ht : Texts K w ts) (hK : ∀ k, v.ownBlock = some k → K k) : EvsAt K w v ts := by
  have h0 := h
  rcases h.2 with ⟨hv, hn⟩ | ⟨g, cap, cur, hv, h3, h4, h5, h6, _⟩
  · have hts : ts = [] := List.eq_nil_of_length_eq_zero hn
    subst hts
    rw [hv]
    exact EvsAt.none K w
  · refine ⟨⟨some ⟨g, 0, Option.none⟩, cap, hv, h5, by unfold maxLen at h6; omega, fun _ => ⟨g, rfl, hK g (by rw [hv]; rfl), (Array.getElem?_eq_some_iff.1 h4).1, EvRow.of_own h0 (by rw [hv]; rfl)⟩⟩, ht⟩
end EvsAt

/-- Twelve cells stored at a place of a row. -/
theorem setCells_far (w : World) (b : Nat) : ∀ (vs : List Value) (o : Nat) {k : Nat}, k ≠ b → (w.setCells b o vs).heap[k]? = w.heap[k]? := by
  intro vs
  induction vs generalizing w with
  | nil => intro o k _; rfl
  | cons v r ih =>
    intro o k hk
    show ((w.setCell ⟨b, o, none⟩ v).setCells b (o + 1) r).heap[k]? = _
    rw [ih _ _ hk, Below.heap_setCell _ _ _ _ hk]

theorem setCells_size (w : World) (b : Nat) : ∀ (vs : List Value) (o : Nat), (w.setCells b o vs).heap.size = w.heap.size := by
  intro vs
  induction vs generalizing w with
  | nil => intro o; rfl
  | cons v r ih =>
    intro o
    show ((w.setCell ⟨b, o, none⟩ v).setCells b (o + 1) r).heap.size = _
    rw [ih]
    simp [World.setCell]

/-- The zeros of new events. -/
def zev (j : Nat) : Value := ([.int .i64 0, .int .i64 0, .int .i64 0, .int .i64 0, .int .i64 0, .int .i64 0, .int .u64 0, .int .u64 0, .slice none 0 0, .int .u64 0, .bool false, .slice none 0 0] : List Value).getD (j % 12) undef

/-- A row of events whose first are copied. -/
def rowF (qs : List Tx) (j : Nat) : Value := (qs.flatMap Tx.cells).getD j (zev j)

theorem rowF_nil (j : Nat) : rowF [] j = zev j := by simp [rowF]

theorem rowF_next (qs : List Tx) (t : Tx) (j : Nat) : rowF (qs ++ [t]) j = if qs.length * 12 ≤ j ∧ j < qs.length * 12 + t.cells.length then t.cells[j - qs.length * 12]?.getD default else rowF qs j := by
  unfold rowF
  have hl := flat_length qs
  rw [List.flatMap_append, List.flatMap_cons, List.flatMap_nil, List.append_nil]
  by_cases h1 : j < qs.length * 12
  · rw [if_neg (by omega), List.getD_eq_getElem?_getD, List.getD_eq_getElem?_getD, List.getElem?_append_left (by omega)]
  · by_cases h2 : j < qs.length * 12 + t.cells.length
    · rw [if_pos ⟨by omega, h2⟩, List.getD_eq_getElem?_getD, List.getElem?_append_right (by omega), hl]
      have h3 : j - qs.length * 12 < t.cells.length := by omega
      rw [List.getElem?_eq_getElem h3]
      rfl
    · rw [if_neg (by omega), List.getD_eq_getElem?_getD, List.getD_eq_getElem?_getD, List.getElem?_eq_none (by rw [List.length_append]; omega), List.getElem?_eq_none (by omega)]

theorem make_evs (n : Nat) (hn : n ≤ 1000001) (W : World) :
    (Instr.makeSlice 40 (.int .i64 (n : Int)) (.int .i64 (n : Int))).run Try.prog W = .ok (.slice (some ⟨W.heap.size, 0, none⟩) n n) (W.alloc (.cells (madeCells #[.int .i64 0, .int .i64 0, .int .i64 0, .int .i64 0, .int .i64 0, .int .i64 0, .int .u64 0, .int .u64 0, .slice none 0 0, .int .u64 0, .bool false, .slice none 0 0] (n * 12)) 51)) := by
  obtain ⟨i, hi, hz, hs, hby⟩ := info_parts infoEv
  have hr := run_make (P := Try.prog) W 40 51 i (.agg #[.int .i64 0, .int .i64 0, .int .i64 0, .int .i64 0, .int .i64 0, .int .i64 0, .int .u64 0, .int .u64 0, .slice none 0 0, .int .u64 0, .bool false, .slice none 0 0]) Try.underlying40 hi hz .i64 .i64 (n : Int) (n : Int) (by omega) (Int.le_refl _) (by rw [hby]; omega) (by omega)
  rw [hs] at hr
  simpa [Value.cells] using hr

theorem made_evs (w : World) (n : Nat) : (w.alloc (.cells (madeCells #[.int .i64 0, .int .i64 0, .int .i64 0, .int .i64 0, .int .i64 0, .int .i64 0, .int .u64 0, .int .u64 0, .slice none 0 0, .int .u64 0, .bool false, .slice none 0 0] (n * 12)) 51)).rowIs w.heap.size 51 (n * 12) (rowF []) :=
  ⟨_, Go.Deep.blk_alloc_new _ _, size_madeCells _ _, fun i hi => by
    rw [rowF_nil]
    unfold zev madeCells
    have hm : i % 12 < 12 := Nat.mod_lt _ (by decide)
    simp [hi, hm, List.getD]⟩
end Go.Proofs.Ytegjnejekakeiaa
namespace Go.Proofs.Ytegjnejekakeiaa
open Go.RowKit

/-- Events were told, in new memory. -/
def TraceTold (es : List Ev) (w : World) (e : Ending) (w' : World) : Prop :=
  ∃ A c qs, e = .returned (.slice A es.length c) ∧ qs.map Tx.e = es ∧ (EvsAt (fun k => w.heap.size ≤ k) w' (.slice A es.length c) qs ∧ (∀ t ∈ qs, Owns (w.heap.size + 1) w' t.s1 t.e.ac.bs) ∧ ∀ a, A = some a → a.block = w.heap.size) ∧ Below w.heap.size w w'

theorem take_next {α : Type} {l : List α} {i : Nat} {t : α} (h : l[i]? = some t) : l.take (i + 1) = l.take i ++ [t] := by
  rw [List.take_add_one, h]; rfl

set_option maxRecDepth 100000 in
set_option maxHeartbeats 4000000 in
theorem trace_any {w : World} {o : Nat → Pt} {gw ga gb hb : Nat} {ax : Nat → Value} {tv : Value} {ts : List Tx} {st : St} (h : Sw w o gw ga gb hb ax tv ts st) (hlong : st.tr.length ≤ 1000000) :
    Calls Try.prog 18 #[.pointer (some ⟨gw, 0, none⟩)] w (TraceTold st.tr w) := by
  have HS := Lib.hid h
  have hl : st.tr.length = ts.length := by rw [h.told, List.length_map]
  have HTL := Lib.hid h.told
  have htb : ∀ t ∈ ts, t.e.ac.bs.length ≤ 1073741824 ∧ t.e.an.bs.length ≤ 1073741824 := fun t ht => h.small t.e (by rw [h.told]; exact List.mem_map_of_mem ht)
  have HTB := Lib.hid htb
  rw [hl] at hlong
  have w3 := h.w3
  rcases h.tr.row.2 with ⟨hv, hn⟩ | ⟨g, cap, cur, hv, _, hgh, hnc, hcm, _⟩
  · have hts : ts = [] := List.eq_nil_of_length_eq_zero hn
    rw [hv] at w3
    have hmk : ∀ W : World, (Instr.makeSlice 40 (.int .i64 0) (.int .i64 0)).run Try.prog W = .ok (.slice (some ⟨W.heap.size, 0, none⟩) 0 0) (W.alloc (.cells (madeCells #[.int .i64 0, .int .i64 0, .int .i64 0, .int .i64 0, .int .i64 0, .int .i64 0, .int .u64 0, .int .u64 0, .slice none 0 0, .int .u64 0, .bool false, .slice none 0 0] (0 * 12)) 51)) := fun W => make_evs 0 (by decide) W
    have w3' : ∀ q, (w.alloc q).cell? ⟨gw, 3, none⟩ = some (.slice none 0 0) := fun q => (((Below.refl w.heap.size w).alloc (Nat.le_refl _) q).cell (p := ⟨gw, 3, none⟩) h.gw_lt).trans w3
    have hst : st.tr = [] := List.eq_nil_of_length_eq_zero (by omega)
    rw [hst]
    clear h hl hlong htb hn
    go_enter Try.func18, Try.ntmps18
    go_wp2
    refine wp_loop_rounds 1 ?_
    rw [rounds_succ]
    go_wp2
    go_ret
    exact ⟨_, 0, [], rfl, rfl, ⟨⟨⟨_, 0, rfl, Nat.le_refl _, by decide, fun h => absurd h (by simp)⟩, Texts.nil _ _⟩, (fun _ h => by cases h), fun a h => by cases h; rfl⟩, (Below.refl _ w).alloc (Nat.le_refl _) _⟩
  · rw [hv] at w3
    have hcm2 : cap ≤ 9223372036854775807 := by unfold maxLen at hcm; omega
    have hmk := make_evs ts.length (by omega)
    have hrow : EvRow w g ts := EvRow.of_own h.tr.row (by rw [hv]; rfl)
    have hgl : g < w.heap.size := (Array.getElem?_eq_some_iff.1 hgh).1
    have HROW := Lib.hid (And.intro hrow h.tr.txt)
    have hHW := (Below.refl w.heap.size w).alloc (Nat.le_refl _) (.cells (madeCells #[.int .i64 0, .int .i64 0, .int .i64 0, .int .i64 0, .int .i64 0, .int .i64 0, .int .u64 0, .int .u64 0, .slice none 0 0, .int .u64 0, .bool false, .slice none 0 0] (ts.length * 12)) 51)
    have w3' : ∀ q, (w.alloc q).cell? ⟨gw, 3, none⟩ = some (.slice (some ⟨g, 0, none⟩) ts.length cap) := fun q => (((Below.refl w.heap.size w).alloc (Nat.le_refl _) q).cell (p := ⟨gw, 3, none⟩) h.gw_lt).trans w3
    have HM := Lib.hid (And.intro hHW (made_evs w ts.length))
    clear h htb hrow hHW
    go_enter Try.func18, Try.ntmps18
    go_wp2
    generalize w.alloc (.cells (madeCells #[.int .i64 0, .int .i64 0, .int .i64 0, .int .i64 0, .int .i64 0, .int .i64 0, .int .u64 0, .int .u64 0, .slice none 0 0, .int .u64 0, .bool false, .slice none 0 0] (ts.length * 12)) 51) = W at HM ⊢
    clear hmk w3'
    go_loopw [19] (fun t19 wr => ∃ (i : Nat) (qs : List Tx), t19 = .int .i64 i ∧ i ≤ ts.length ∧ qs.length = i ∧ qs.map Tx.e = (ts.take i).map Tx.e ∧ Below w.heap.size w wr ∧ wr.rowIs w.heap.size 51 (ts.length * 12) (rowF qs) ∧ Texts (fun k => w.heap.size < k) wr qs ∧ ∀ t ∈ qs, Owns (w.heap.size + 1) wr t.s1 t.e.ac.bs) (fun t19 _ => ts.length - (intOf t19).toNat)
    case atStart => exact ⟨0, [], rfl, Nat.zero_le _, rfl, by simp, HM.out.1, HM.out.2, Texts.nil _ _, fun _ h => by cases h⟩
    case round =>
      obtain ⟨i, qs, rfl, hi, hq, hqe, hbw, hri, htx, hwn⟩ := hrel
      have HWN := Lib.hid hwn
      have HQ := Lib.hid (And.intro hq hqe)
      have HBW := Lib.hid hbw
      have HRI := Lib.hid (And.intro hri htx)
      have hsz := hbw.size
      have hBl := hri.lt
      clear hq hqe hri htx hbw hwn
      by_cases hlt : i < ts.length
      · obtain ⟨t, ht⟩ : ∃ t, ts[i]? = some t := ⟨_, List.getElem?_eq_getElem hlt⟩
        have htm := List.mem_of_getElem? ht
        have htx := HROW.out.2 t htm
        have htl := HTB.out t htm
        have hcell : ∀ j u, t.cells[j]? = some u → wr.cell? ⟨g, i * 12 + j, none⟩ = some u := fun j u hj => (HBW.out.cell (p := ⟨g, i * 12 + j, none⟩) hgl).trans (HROW.out.1 i t ht j u hj)
        have HT := Lib.hid ht
        clear htm ht
        obtain ⟨⟨p, a, x⟩, s1, s2⟩ := t
        obtain ⟨A1, c1, e1⟩ := htx.1.length
        obtain ⟨A2, c2, e2⟩ := htx.2.length
        have e1' : s1 = .slice A1 a.bs.length c1 := e1
        have e2' : s2 = .slice A2 x.bs.length c2 := e2
        subst e1' e2'
        clear e1 e2
        have c0 : wr.cell? ⟨g, i * 12, none⟩ = some (.int .i64 p.K) := hcell 0 _ rfl
        have c1' : wr.cell? ⟨g, i * 12 + 1, none⟩ = some (.int .i64 p.A) := hcell 1 _ rfl
        have c2' : wr.cell? ⟨g, i * 12 + 2, none⟩ = some (.int .i64 p.N) := hcell 2 _ rfl
        have c3 : wr.cell? ⟨g, i * 12 + 3, none⟩ = some (.int .i64 a.K) := hcell 3 _ rfl
        have c4 : wr.cell? ⟨g, i * 12 + 4, none⟩ = some (.int .i64 a.P) := hcell 4 _ rfl
        have c5 : wr.cell? ⟨g, i * 12 + 5, none⟩ = some (.int .i64 a.N) := hcell 5 _ rfl
        have c6 : wr.cell? ⟨g, i * 12 + 6, none⟩ = some (.int .u64 a.V) := hcell 6 _ rfl
        have c7 : wr.cell? ⟨g, i * 12 + 7, none⟩ = some (.int .u64 a.U) := hcell 7 _ rfl
        have c8 : wr.cell? ⟨g, i * 12 + 8, none⟩ = some (.slice A1 a.bs.length c1) := hcell 8 _ rfl
        have c9 : wr.cell? ⟨g, i * 12 + 9, none⟩ = some (.int .u64 x.V) := hcell 9 _ rfl
        have c10 : wr.cell? ⟨g, i * 12 + 10, none⟩ = some (.bool x.D) := hcell 10 _ rfl
        have c11 : wr.cell? ⟨g, i * 12 + 11, none⟩ = some (.slice A2 x.bs.length c2) := hcell 11 _ rfl
        have HTX := Lib.hid (And.intro (htx.1.bytes.below HBW.out) (htx.2.bytes.below HBW.out))
        clear hcell htx
        have hb1 := (Below.refl wr.heap.size wr).alloc (Nat.le_refl _) (.cells #[.int .i64 p.K, .int .i64 p.A, .int .i64 p.N, .int .i64 a.K, .int .i64 a.P, .int .i64 a.N, .int .u64 a.V, .int .u64 a.U, .slice A1 a.bs.length c1, .int .u64 x.V, .bool x.D, .slice A2 x.bs.length c2] 51)
        go_wp2_with (go_at_call 38; refine (copied_any p a x A1 A2 a.bs.length x.bs.length c1 c2 _ (HTX.out.1.below hb1) (HTX.out.2.below hb1) htl.1 htl.2).mono ?_; rintro e w2 ⟨B1, m1, q1, B2, m2, q2, rfl, ho1, ho2, hbl⟩; have hb2 := hb1.trans (hbl.mono hb1.size); have hri2 := HRI.out.1.of_block (hb2.block w.heap.size hBl); have HO := Lib.hid (And.intro ho1 (And.intro ho2 hbl)); have HR2 := Lib.hid (And.intro hri2 hb2); have r0 := hri2.cell (i := i * 12) (by omega); have f0 := hri2.frozen (i * 12); have r1 := hri2.cell (i := i * 12 + 1) (by omega); have f1 := hri2.frozen (i * 12 + 1); have r2 := hri2.cell (i := i * 12 + 2) (by omega); have f2 := hri2.frozen (i * 12 + 2); have r3 := hri2.cell (i := i * 12 + 3) (by omega); have f3 := hri2.frozen (i * 12 + 3); have r4 := hri2.cell (i := i * 12 + 4) (by omega); have f4 := hri2.frozen (i * 12 + 4); have r5 := hri2.cell (i := i * 12 + 5) (by omega); have f5 := hri2.frozen (i * 12 + 5); have r6 := hri2.cell (i := i * 12 + 6) (by omega); have f6 := hri2.frozen (i * 12 + 6); have r7 := hri2.cell (i := i * 12 + 7) (by omega); have f7 := hri2.frozen (i * 12 + 7); have r8 := hri2.cell (i := i * 12 + 8) (by omega); have f8 := hri2.frozen (i * 12 + 8); have r9 := hri2.cell (i := i * 12 + 9) (by omega); have f9 := hri2.frozen (i * 12 + 9); have r10 := hri2.cell (i := i * 12 + 10) (by omega); have f10 := hri2.frozen (i * 12 + 10); have r11 := hri2.cell (i := i * 12 + 11) (by omega); have f11 := hri2.frozen (i * 12 + 11); clear hri2 hb2 ho1 ho2 hbl)
        go_roundw
        case rel =>
          have hq1 := HQ.out.1
          have hszb := HR2.out.2.size
          have hnew1 : BytesIn (fun k => w.heap.size < k) w2 (.slice B1 m1 q1) a.bs := (BytesIn.of_own HO.out.1).mono fun k hk _ => by have hk2 : wr.heap.size + 1 ≤ k := (by simpa using hk); omega
          have hnew2 : BytesIn (fun k => w.heap.size < k) w2 (.slice B2 m2 q2) x.bs := (BytesIn.of_own HO.out.2.1).mono fun k hk _ => by have hk2 : wr.heap.size + 1 ≤ k := (by simpa using hk); omega
          have hold := HRI.out.2.keep hszb fun k hk hl2 => HR2.out.2.block k hl2
          refine ⟨i + 1, qs ++ [⟨⟨p, a, x⟩, .slice B1 m1 q1, .slice B2 m2 q2⟩], by go_num, by omega, by rw [List.length_append, hq1]; rfl, ?_, ?_, ?_, ?_, fun t' ht' => ?_⟩
          · rw [take_next HT.out, List.map_append, List.map_append, HQ.out.2]; rfl
          · exact below_setCells (Nat.le_refl _) (Tx.cells ⟨⟨p, a, x⟩, .slice B1 m1 q1, .slice B2 m2 q2⟩) (i * 12) w2 (HBW.out.trans (HR2.out.2.mono hsz))
          · have hz := rowIs_setCells (Tx.cells ⟨⟨p, a, x⟩, .slice B1 m1 q1, .slice B2 m2 q2⟩) (i * 12) w2 _ HR2.out.1
            rw [← hq1] at hz ⊢
            exact hz.congr fun j _ => (rowF_next qs ⟨⟨p, a, x⟩, .slice B1 m1 q1, .slice B2 m2 q2⟩ j).symm
          · refine (hold.append (t := ⟨⟨p, a, x⟩, .slice B1 m1 q1, .slice B2 m2 q2⟩) hnew1 hnew2).keep (w' := w2.setCells w.heap.size (i * 12) (Tx.cells ⟨⟨p, a, x⟩, .slice B1 m1 q1, .slice B2 m2 q2⟩)) (Nat.le_of_eq (setCells_size _ _ _ _).symm) fun k hk _ => setCells_far _ _ _ _ (by omega)
          · have hown : Owns (w.heap.size + 1) w2 t'.s1 t'.e.ac.bs := by
              rcases List.mem_append.1 ht' with hm | hm
              · exact (HWN.out t' hm).below HR2.out.2
              · obtain rfl : t' = ⟨⟨p, a, x⟩, .slice B1 m1 q1, .slice B2 m2 q2⟩ := by simpa using hm
                exact HO.out.1.down (by simp; omega)
            exact hown.of_block (w' := w2.setCells w.heap.size (i * 12) (Tx.cells ⟨⟨p, a, x⟩, .slice B1 m1 q1, .slice B2 m2 q2⟩)) fun k hk => setCells_far _ _ _ _ (by have := (hown.ge hk).1; omega)
        case measure => simp [intOf]; omega
      · obtain rfl : i = ts.length := by omega
        go_wp2
        go_ret
        refine ⟨some ⟨w.heap.size, 0, none⟩, ts.length, qs, by rw [hl]; rfl, ?_, ⟨?_, HWN.out, fun a h => by cases h; rfl⟩, HBW.out⟩
        · rw [HQ.out.2, List.take_of_length_le (Nat.le_refl _), HTL.out]
        · rw [hl]
          refine ⟨⟨_, _, by rw [HQ.out.1], by rw [HQ.out.1]; exact Nat.le_refl _, by omega, fun hp => ⟨_, rfl, Nat.le_refl _, hBl, fun j t hj k u hk => ?_⟩⟩, HRI.out.2.mono fun k hk _ => Nat.le_of_lt hk⟩
          have hj2 : j < qs.length := (List.getElem?_eq_some_iff.1 hj).1
          have hk2 : k < 12 := (List.getElem?_eq_some_iff.1 hk).1
          have hq1 := HQ.out.1
          rw [HRI.out.1.cell (i := j * 12 + k) (by omega)]
          unfold rowF
          rw [List.getD_eq_getElem?_getD, flat_get qs j t hj k hk2, hk]
          rfl
end Go.Proofs.Ytegjnejekakeiaa
namespace Go.Proofs.Ytegjnejekakeiaa
open Go.RowKit

/-- A slice of n machines stands in memory: the interfaces' values. -/
def MsAt (w : World) (A : Option Addr) (n : Nat) (xs : Nat → Value) : Prop := 0 < n → ∃ b, A = some ⟨b, 0, none⟩ ∧ b < w.heap.size ∧ ∀ i, i < n → w.cell? ⟨b, i, none⟩ = some (xs i)

theorem MsAt.below {w w' : World} {A : Option Addr} {n : Nat} {xs : Nat → Value} (h : MsAt w A n xs) (hb : Below w.heap.size w w') : MsAt w' A n xs := fun hp => by
  obtain ⟨b, e, hl, hc⟩ := h hp
  exact ⟨b, e, Nat.lt_of_lt_of_le hl hb.size, fun i hi => (hb.cell (p := ⟨b, i, none⟩) hl).trans (hc i hi)⟩

/-- A new scheduler's state. -/
def St.made (n : Nat) (ms : Nat → Mc) (m : Nat → Nat) (nw : Nat) (c : Int) : St := ⟨n, ms, fun _ => false, m, nw, c, 0, []⟩

/-- A scheduler was made. -/
def MadeSw (o : Nat → Pt) (gb hb : Nat) (xs : Nat → Value) (st : St) (w : World) (e : Ending) (w' : World) : Prop :=
  ∃ gw ga o', e = .returned (.pointer (some ⟨gw, 0, none⟩)) ∧ w.heap.size ≤ gw ∧ Sw w' o' gw ga gb hb xs (.slice none 0 0) [] st ∧ Below w.heap.size w w' ∧ ∀ k, k < w.heap.size → o' k = o k

theorem infoActor : (Try.prog.info? 87).map (fun i => (i.zero, i.size, i.bytes)) = some (some (.agg #[.nilIface, .bool false]), 2, 24) := by kernel_rfl

theorem make_actors (n : Nat) (hn : n ≤ 1000) (W : World) :
    (Instr.makeSlice 81 (.int .i64 (n : Int)) (.int .i64 (n : Int))).run Try.prog W = .ok (.slice (some ⟨W.heap.size, 0, none⟩) n n) (W.alloc (.cells (madeCells #[.nilIface, .bool false] (n * 2)) 87)) := by
  obtain ⟨i, hi, hz, hs, hby⟩ := info_parts infoActor
  have hr := run_make (P := Try.prog) W 81 87 i (.agg #[.nilIface, .bool false]) Try.underlying81 hi hz .i64 .i64 (n : Int) (n : Int) (by omega) (Int.le_refl _) (by rw [hby]; omega) (by omega)
  rw [hs] at hr
  simpa [Value.cells] using hr

theorem made_actors (w : World) (n : Nat) : (w.alloc (.cells (madeCells #[.nilIface, .bool false] (n * 2)) 87)).rowIs w.heap.size 87 (2 * n) (acCell (fun _ => .nilIface) (fun _ => false)) :=
  ⟨_, Go.Deep.blk_alloc_new _ _, by rw [size_madeCells]; omega, fun i hi => by
    unfold acCell madeCells
    have hm : i % 2 < 2 := Nat.mod_lt _ (by decide)
    have hi2 : i < n * 2 := by omega
    simp [hi2]
    rcases Nat.mod_two_eq_zero_or_one i with e | e
    · simp [e]
    · simp [e]⟩

theorem acCell_set (ax : Nat → Value) (dead : Nat → Bool) (i : Nat) (x : Value) (j : Nat) : (if j = i * 2 then x else acCell ax dead j) = acCell (upd ax i x) dead j := by
  unfold acCell
  by_cases e : j = i * 2
  · subst e
    rw [if_pos rfl, if_pos (by omega), show i * 2 / 2 = i by omega, upd_same]
  · rw [if_neg e]
    by_cases e2 : j % 2 = 0
    · rw [if_pos e2, if_pos e2, upd_other _ _ _ (by omega)]
    · rw [if_neg e2, if_neg e2]

set_option maxRecDepth 100000 in
set_option maxHeartbeats 2000000 in
theorem schedNew_any {w : World} {o : Nat → Pt} {gb hb nw : Nat} {m : Nat → Nat} {c : Int} (B : Buf w gb hb m nw c) (A : Option Addr) (n cap : Nat) (xs : Nat → Value) (ms : Nat → Mc) (hn : n ≤ 1000) (hcap : n ≤ cap) (hcap2 : cap ≤ 9223372036854775807) (hl : MsAt w A n xs)
    (hm : ∀ i, i < n → MRep w (fun k => o k = .ma i) (xs i) (ms i)) (hog : o gb = .bf) (hoh : o hb = .bf) (hlt : ∀ k, o k ≠ .no → k < w.heap.size) :
    Calls Try.prog 10 #[.pointer (some ⟨gb, 0, none⟩), .slice A n cap] w (MadeSw o gb hb xs (St.made n ms m nw c) w) := by
  have hmk := make_actors n hn
  have HH := Lib.hid (And.intro B (And.intro hm (And.intro hog (And.intro hoh hlt))))
  have HL := Lib.hid hl
  have HN := Lib.hid hn
  clear B hm hog hoh hlt hl
  have ha := made_actors w n
  have e1 : (w.alloc (.cells (madeCells #[.nilIface, .bool false] (n * 2)) 87)).heap.size = w.heap.size + 1 := by simp
  have HB1 := (Below.refl w.heap.size w).alloc (Nat.le_refl _) (.cells (madeCells #[.nilIface, .bool false] (n * 2)) 87)
  go_enter Try.func10, Try.ntmps10
  go_wp2
  generalize hW1 : w.alloc (.cells (madeCells #[.nilIface, .bool false] (n * 2)) 87) = W1 at *
  have hh := Go.Deep.blk_alloc_new W1 (.cells #[.pointer (some ⟨gb, 0, none⟩), .slice (some ⟨w.heap.size, 0, none⟩) n n, .int .i64 0, .slice none 0 0] 83)
  rw [e1] at hh
  have ha2 := ha.alloc (.cells #[.pointer (some ⟨gb, 0, none⟩), .slice (some ⟨w.heap.size, 0, none⟩) n n, .int .i64 0, .slice none 0 0] 83)
  have HB2 := HB1.alloc HB1.size (.cells #[.pointer (some ⟨gb, 0, none⟩), .slice (some ⟨w.heap.size, 0, none⟩) n n, .int .i64 0, .slice none 0 0] 83)
  generalize W1.alloc (.cells #[.pointer (some ⟨gb, 0, none⟩), .slice (some ⟨w.heap.size, 0, none⟩) n n, .int .i64 0, .slice none 0 0] 83) = W2 at hh ha2 HB2 ⊢
  have HST := Lib.hid (And.intro hh (And.intro ha2 HB2))
  clear hmk hW1 ha HB1 hh ha2 HB2
  go_loopw [16] (fun t16 wr => ∃ (i : Nat) (ax : Nat → Value), t16 = .int .i64 i ∧ i ≤ n ∧ (∀ j, j < i → ax j = xs j) ∧ wr.heap[w.heap.size + 1]? = some (.cells #[.pointer (some ⟨gb, 0, none⟩), .slice (some ⟨w.heap.size, 0, none⟩) n n, .int .i64 0, .slice none 0 0] 83 (0, 0)) ∧ wr.rowIs w.heap.size 87 (2 * n) (acCell ax (fun _ => false)) ∧ Below w.heap.size w wr) (fun t16 _ => n - (intOf t16).toNat)
  case atStart => exact ⟨0, _, rfl, Nat.zero_le _, fun j hj => absurd hj (Nat.not_lt_zero _), HST.out.1, HST.out.2.1, HST.out.2.2⟩
  case round =>
    obtain ⟨i, ax, rfl, hi, hax, hhd, hrow, hbw⟩ := hrel
    have HAX := Lib.hid hax
    have HHD := Lib.hid (And.intro hhd (And.intro hrow hbw))
    by_cases hlt : i < n
    · obtain ⟨bl, rfl, hbl, hcl⟩ := HL.out (by omega)
      have hcx := (hbw.cell (p := ⟨bl, i, none⟩) hbl).trans (hcl i hlt)
      have hc1 : wr.cell? ⟨w.heap.size + 1, 1, none⟩ = some (.slice (some ⟨w.heap.size, 0, none⟩) n n) := by simp [World.cell?, hhd]
      have hr0 := hrow.cell (i := i * 2) (by omega)
      have hf0 := hrow.frozen (i * 2)
      have hsh := (HH.out.2.1 i hlt).shape
      generalize hx : xs i = x at hcx hsh
      have HX := Lib.hid hx
      clear hax hhd hrow hbw hcl hx
      rcases hsh with ⟨rfl, _⟩ | ⟨T, y, rfl⟩
      all_goals
        go_wp2
        go_roundw
        case rel =>
          refine ⟨i + 1, upd ax i (xs i), by go_num, by omega, fun j hj => ?_, blkF HHD.out.1 (by omega) _, (HHD.out.2.1.set (i * 2) _).congr fun j _ => ?_, HHD.out.2.2.setCell (p := ⟨w.heap.size, i * 2, none⟩) (Nat.le_refl _) _⟩
          · by_cases e : j = i
            · subst e; exact upd_same _ _ _
            · rw [upd_other _ _ _ e]; exact HAX.out j (by omega)
          · rw [HX.out]; exact acCell_set _ _ _ _ _
        case measure => simp [intOf]; omega
    · obtain rfl : i = n := by omega
      clear hax hhd hrow hbw
      go_wp2
      go_ret
      obtain ⟨hhd, hrow, hbw⟩ := HHD.out
      obtain ⟨B, hm, hog, hoh, hlk⟩ := HH.out
      have hsz := (Array.getElem?_eq_some_iff.1 hhd).1
      have hold : ∀ k, k < w.heap.size → claimed (claimed o w.heap.size (fun k => k = w.heap.size) .ac) w.heap.size (fun k => k = w.heap.size + 1) .wd k = o k := fun k hk => (claimed_old hk).trans (claimed_old hk)
      refine ⟨w.heap.size + 1, w.heap.size, claimed (claimed o w.heap.size (fun k => k = w.heap.size) .ac) w.heap.size (fun k => k = w.heap.size + 1) .wd, rfl, Nat.le_succ _, ⟨hhd, hrow.congr fun j hj => ?_, B.below hbw, fun j hj => ?_, ⟨World.ownsRow_nil _ _ _ _, fun t ht => absurd ht (by simp), fun k hk => absurd hk (by simp [Value.ownBlock])⟩, rfl, claimed_new (Nat.le_succ _) rfl, (claimed_not fun e => by omega).trans (claimed_new (Nat.le_refl _) rfl), (hold gb B.g_lt).trans hog, (hold hb B.h_lt).trans hoh, fun k hk => ?_, HN.out, fun e he => absurd he (by simp [St.made])⟩, hbw, hold⟩
      · unfold acCell
        by_cases e : j % 2 = 0
        · rw [if_pos e, if_pos e]; exact HAX.out _ (by omega)
        · rw [if_neg e, if_neg e]; rfl
      · exact ((hm j hj).keep hbw.size fun k hk => hbw.block k (hlk k (by rw [hk]; simp))).mono fun k hk => (hold k (hlk k (by rw [hk]; simp))).trans hk
      · by_cases e : w.heap.size ≤ k ∧ k = w.heap.size + 1
        · omega
        · rw [claimed_not e] at hk
          by_cases e2 : w.heap.size ≤ k ∧ k = w.heap.size
          · omega
          · rw [claimed_not e2] at hk
            have := hlk k hk
            omega
end Go.Proofs.Ytegjnejekakeiaa
namespace Go.Proofs.Ytegjnejekakeiaa
open Go.RowKit

theorem chunks_parts (n : Int) (w : World) : Calls Try.prog 49 #[.int .i64 n] w (MadeParts (Cy.cks (Cy.few n)) w) := by
  refine (chunks_any n w).mono ?_
  rintro e w' ⟨v, rfl, ho, hb⟩
  rw [Cy.ckOf_few] at ho
  exact ⟨v, rfl, (Parts.of_own ho), hb⟩

/-- A machine that writes was made at block g: its parts lie below it. -/
def MadeMach (fn : Value) (n : Nat) (w : World) (e : Ending) (w' : World) : Prop :=
  ∃ g cv, e = .returned (.pointer (some ⟨g, 0, none⟩)) ∧ w'.heap[g]? = some (.cells #[cv, .int .i64 0, fn, .func (.func 67) #[] #[], .slice none 0 0] 113 (0, 0)) ∧
    w.heap.size ≤ g ∧ g + 1 = w'.heap.size ∧ Parts (fun k => w.heap.size ≤ k ∧ k < g) w' cv (Cy.cks n) ∧ Below w.heap.size w w'

set_option maxRecDepth 100000 in
set_option maxHeartbeats 400000 in
theorem writing_any (n : Int) (k : FuncId) (caps : Array Value) (w : World) :
    Calls Try.prog 45 #[.int .i64 n, .func (.func k) #[] caps] w (MadeMach (.func (.func k) #[] caps) (Cy.few n) w) := by
  go_enter Try.func45, Try.ntmps45
  go_wp2_with (go_at_call 49; refine (chunks_parts n _).mono ?_; rintro e w1 ⟨v1, rfl, ⟨A1, c1, rfl, h1, h2, h3⟩, hb1⟩)
  go_ret
  refine ⟨w1.heap.size, .slice A1 (Cy.cks (Cy.few n)).length c1, rfl, Go.Deep.blk_alloc_new _ _, hb1.size, by simp, ?_, hb1.alloc hb1.size _⟩
  refine Parts.of_blocks (w := w1) ⟨A1, c1, rfl, h1, h2, fun hp => ?_⟩ (by simp) fun k hk => Below.heap_alloc _ _ _ hk.2
  obtain ⟨b, off, e, hK, h4⟩ := h3 hp
  exact ⟨b, off, e, hK, h4⟩

/-- A machine was made: it copied nothing so far, n bytes are left. -/
def MadeCp (kd : Kd) (n : Nat) (w : World) (e : Ending) (w' : World) : Prop :=
  ∃ g, e = .returned (.pointer (some ⟨g, 0, none⟩)) ∧ Cp w' w.heap.size w'.heap.size g kd 0 n (.slice none 0 0) [] ∧ Below w.heap.size w w'

theorem cp_made {kd : Kd} {w w1 w2 : World} {n g : Nat} {cv nx th : Value} (hnear : -4611686018427387904 ≤ kd.place ∧ kd.place ≤ 4611686018427387904) (hn : n ≤ 131072) (HW : Below w.heap.size w w1) (hbl : Below w1.heap.size w1 w2)
    (hg : w2.heap[g]? = some (.cells #[cv, .int .i64 0, nx, th, .slice none 0 0] 113 (0, 0))) (h1 : w1.heap.size ≤ g) (h2 : g + 1 = w2.heap.size) (hp : Parts (fun k => w1.heap.size ≤ k ∧ k < g) w2 cv (Cy.cks n))
    (hb : 0 < n → Body w2 w.heap.size w2.heap.size g n kd nx th) : MadeCp kd n w (.returned (.pointer (some ⟨g, 0, none⟩))) w2 := by
  have hs := HW.size
  refine ⟨g, rfl, ⟨by omega, by omega, Nat.le_refl _, by omega, hnear, ⟨cv, nx, th, hg, hp.mono fun k hk => ⟨by omega, by omega, by omega⟩, fun hn => ?_⟩, World.ownsRow_nil _ _ _ _⟩, HW.trans (hbl.mono hs)⟩
  rw [Nat.zero_add] at hn ⊢
  exact hb hn

set_option maxRecDepth 100000 in
set_option maxHeartbeats 400000 in
theorem zero_any (at_ n : Int) (w : World) (hnear : -4611686018427387904 ≤ at_ ∧ at_ ≤ 4611686018427387904) :
    Calls Try.prog 26 #[.int .i64 at_, .int .i64 n] w (MadeCp (.ze at_) (Cy.few n) w) := by
  have hmf : ∀ (fn : Fn) (first cap : Array Value) (w : World), (Instr.makeFunc fn first cap).run Try.prog w = .ok (.func fn first cap) w := fun _ _ _ _ => rfl
  have HW := (Below.refl w.heap.size w).alloc (Nat.le_refl _) (.cells #[.int .i64 at_] 3)
  have HX := Go.Deep.blk_alloc_new w (.cells #[.int .i64 at_] 3)
  have HN := Lib.hid hnear
  clear hnear
  go_enter Try.func26, Try.ntmps26
  go_wp2_with fail
  generalize w.alloc (.cells #[.int .i64 at_] 3) = W at HW HX ⊢
  have HXX := Lib.hid HX
  have hxl := (Array.getElem?_eq_some_iff.1 HX).1
  clear HX
  refine (writing_any n 48 #[.pointer (some ⟨w.heap.size, 0, none⟩)] W).mono ?_
  rintro e w1 ⟨g, cv, rfl, hg, h1, h2, hp, hb⟩
  have HH := Lib.hid (And.intro hg hp)
  clear hg hp
  go_wp2
  go_ret
  refine cp_made HN.out (Cy.few_le n) HW hb HH.out.1 h1 h2 HH.out.2 fun _ => ⟨w.heap.size, rfl, rfl, ⟨Nat.le_refl _, by omega, by omega⟩, ?_⟩
  have := (hb.block w.heap.size hxl).trans HXX.out
  simp [World.cell?, this]

set_option maxRecDepth 100000 in
set_option maxHeartbeats 400000 in
theorem in_any (at_ : Int) (A : Option Addr) (L cap : Nat) (f : Nat → Nat) (w : World) (hnear : -4611686018427387904 ≤ at_ ∧ at_ ≤ 4611686018427387904) (hB : BytesAt w (.slice A L cap) (Mb.bl f 0 L)) (hL : L ≤ 131072) :
    Calls Try.prog 25 #[.int .i64 at_, .slice A L cap] w (MadeCp (.wr at_ f) L w) := by
  have hmf : ∀ (fn : Fn) (first cap : Array Value) (w : World), (Instr.makeFunc fn first cap).run Try.prog w = .ok (.func fn first cap) w := fun _ _ _ _ => rfl
  have HW := (Below.refl w.heap.size w).alloc (Nat.le_refl _) (.cells #[.int .i64 at_] 3)
  have HX := Go.Deep.blk_alloc_new w (.cells #[.int .i64 at_] 3)
  have HB := Lib.hid (hB.below HW)
  have HN := Lib.hid hnear
  clear hnear hB
  go_enter Try.func25, Try.ntmps25
  go_wp2_with fail
  generalize w.alloc (.cells #[.int .i64 at_] 3) = W at HW HX HB ⊢
  have HXX := Lib.hid HX
  have hxl := (Array.getElem?_eq_some_iff.1 HX).1
  clear HX
  refine (clone_sl A L cap _ W HB.out (by omega)).mono ?_
  rintro e w1 ⟨A1, c1, rfl, ho1, hb1⟩
  have HO1 := Lib.hid ho1
  clear ho1
  have HK := Go.Deep.blk_alloc_new w1 (.cells #[.slice A1 L c1] 26)
  have HW2 := HW.trans ((hb1.alloc hb1.size (.cells #[.slice A1 L c1] 26)).mono HW.size)
  go_wp2_with fail
  refine (writing_any L 46 #[.pointer (some ⟨w.heap.size, 0, none⟩), .pointer (some ⟨w1.heap.size, 0, none⟩)] _).mono ?_
  rintro e w2 ⟨g, cv, rfl, hg, h1, h2, hp, hb⟩
  have HH := Lib.hid (And.intro hg hp)
  clear hg hp
  go_wp2
  go_ret
  have hbW1 : Below w1.heap.size w1 w2 := ((Below.refl _ w1).alloc (Nat.le_refl _) _).after hb
  have hs1 := hb1.size
  have hs2 : w1.heap.size + 1 ≤ g := by simpa using h1
  rw [Cy.few_nat hL] at HH
  refine cp_made HN.out hL HW2 hb HH.out.1 h1 h2 HH.out.2 fun hpos => ?_
  obtain ⟨gk, kc, hv, hk1, hk2, hk3, hk4, _⟩ := HO1.out.form (by rw [Mb.bl_length]; exact hpos)
  rw [Mb.bl_length] at hv hk1
  injection hv with e1 _ e3
  subst e1 e3
  have hbt := HO1.out.bytes.below hbW1
  refine ⟨w.heap.size, w1.heap.size, gk, c1, rfl, rfl, ⟨Nat.le_refl _, by omega, by omega⟩, ⟨by omega, by omega, by omega⟩, ⟨by omega, by omega, by omega⟩, ?_, ?_, hbt, hk1, hk2⟩
  · have := ((hbW1.block w.heap.size (by omega)).trans (hb1.block w.heap.size hxl)).trans HXX.out
    simp [World.cell?, this]
  · have := (hb.block w1.heap.size (by simp)).trans HK
    simp [World.cell?, this]

/-- An empty machine's cells, in block b. -/
structure CpNew (b : Nat) (W : World) : Prop where
  c0 : W.cell? ⟨b, 0, none⟩ = some (.slice none 0 0)
  c1 : W.cell? ⟨b, 1, none⟩ = some (.int .i64 0)
  c2 : W.cell? ⟨b, 2, none⟩ = some .nilFunc
  c3 : W.cell? ⟨b, 3, none⟩ = some .nilFunc
  f0 : W.frozen? ⟨b, 0, none⟩ = false
  f1 : W.frozen? ⟨b, 1, none⟩ = false
  f2 : W.frozen? ⟨b, 2, none⟩ = false
  f3 : W.frozen? ⟨b, 3, none⟩ = false
  blk : W.heap[b]? = some (.cells #[.slice none 0 0, .int .i64 0, .nilFunc, .nilFunc, .slice none 0 0] 113 (0, 0))
theorem CpNew.of_blk {b : Nat} {W : World} (h : W.heap[b]? = some (.cells #[.slice none 0 0, .int .i64 0, .nilFunc, .nilFunc, .slice none 0 0] 113 (0, 0))) : CpNew b W := by
  refine ⟨?_, ?_, ?_, ?_, ?_, ?_, ?_, ?_, h⟩
  all_goals first | simp [World.cell?, h] | simp [World.frozen?, h]

theorem out_made {at_ : Int} {w W w1 : World} {n : Nat} {cv : Value} (hnear : -4611686018427387904 ≤ at_ ∧ at_ ≤ 4611686018427387904) (hn : n ≤ 131072) (HW : Below w.heap.size w W) (hS : w.heap.size + 1 + 1 + 1 ≤ W.heap.size)
    (H0 : W.heap[w.heap.size]? = some (.cells #[.int .i64 at_] 3 (0, 0))) (H2 : W.heap[w.heap.size + 1 + 1]? = some (.cells #[.pointer (some ⟨w.heap.size + 1, 0, none⟩)] 70 (0, 0))) (hb : Below W.heap.size W w1)
    (HM : w1.heap[w.heap.size + 1]? = some (.cells #[.slice none 0 0, .int .i64 0, .nilFunc, .nilFunc, .slice none 0 0] 113 (0, 0))) (hp : Parts (fun k => W.heap.size ≤ k ∧ k < w1.heap.size) w1 cv (Cy.cks n)) :
    MadeCp (.rd at_) n w (.returned (.pointer (some ⟨w.heap.size + 1, 0, none⟩))) ((((w1.setCell ⟨w.heap.size + 1, 0, none⟩ cv).setCell ⟨w.heap.size + 1, 1, none⟩ (.int .i64 0)).setCell ⟨w.heap.size + 1, 2, none⟩ (.func (.func 50) #[] #[.pointer (some ⟨w.heap.size, 0, none⟩)])).setCell ⟨w.heap.size + 1, 3, none⟩ (.func (.func 51) #[] #[.pointer (some ⟨w.heap.size + 1 + 1, 0, none⟩)])) := by
  generalize hw2 : (((w1.setCell ⟨w.heap.size + 1, 0, none⟩ cv).setCell ⟨w.heap.size + 1, 1, none⟩ (.int .i64 0)).setCell ⟨w.heap.size + 1, 2, none⟩ (.func (.func 50) #[] #[.pointer (some ⟨w.heap.size, 0, none⟩)])).setCell ⟨w.heap.size + 1, 3, none⟩ (.func (.func 51) #[] #[.pointer (some ⟨w.heap.size + 1 + 1, 0, none⟩)]) = w2
  have hne : ∀ k, k ≠ w.heap.size + 1 → w2.heap[k]? = w1.heap[k]? := fun k hk => by
    subst hw2
    exact (Below.heap_setCell _ _ _ _ hk).trans ((Below.heap_setCell _ _ _ _ hk).trans ((Below.heap_setCell _ _ _ _ hk).trans (Below.heap_setCell _ _ _ _ hk)))
  have hsz : w2.heap.size = w1.heap.size := by subst hw2; simp [World.setCell]
  have hs1 := hb.size
  have hfr : Below w.heap.size w w2 := by
    subst hw2
    exact ((((HW.trans (hb.mono (by omega))).setCell (p := ⟨w.heap.size + 1, 0, none⟩) (Nat.le_succ _) _).setCell (p := ⟨w.heap.size + 1, 1, none⟩) (Nat.le_succ _) _).setCell (p := ⟨w.heap.size + 1, 2, none⟩) (Nat.le_succ _) _).setCell (p := ⟨w.heap.size + 1, 3, none⟩) (Nat.le_succ _) _
  have hhead : w2.heap[w.heap.size + 1]? = some (.cells #[cv, .int .i64 0, .func (.func 50) #[] #[.pointer (some ⟨w.heap.size, 0, none⟩)], .func (.func 51) #[] #[.pointer (some ⟨w.heap.size + 1 + 1, 0, none⟩)], .slice none 0 0] 113 (0, 0)) := by
    subst hw2
    simp [World.setCell, Array.getElem?_modify, HM]
  clear hw2
  refine ⟨w.heap.size + 1, rfl, ⟨by omega, by omega, Nat.le_refl _, by omega, hnear, ⟨cv, _, _, hhead, (hp.mono fun k hk => ⟨by omega, by omega, by omega⟩).of_blocks (Nat.le_of_eq hsz.symm) fun k hk => hne k hk.2.2, fun _ => ?_⟩, World.ownsRow_nil _ _ _ _⟩, hfr⟩
  refine ⟨w.heap.size, w.heap.size + 1 + 1, rfl, rfl, ⟨by omega, by omega, by omega⟩, ⟨by omega, by omega, by omega⟩, ?_, ?_⟩
  · have := ((hne w.heap.size (by omega)).trans (hb.block w.heap.size (by omega))).trans H0
    simp [World.cell?, this]
  · have := ((hne (w.heap.size + 1 + 1) (by omega)).trans (hb.block (w.heap.size + 1 + 1) (by omega))).trans H2
    simp [World.cell?, this]

set_option maxRecDepth 100000 in
set_option maxHeartbeats 400000 in
theorem out_any (at_ n : Int) (w : World) (hnear : -4611686018427387904 ≤ at_ ∧ at_ ≤ 4611686018427387904) :
    Calls Try.prog 27 #[.int .i64 at_, .int .i64 n] w (MadeCp (.rd at_) (Cy.few n) w) := by
  have hmf : ∀ (fn : Fn) (first cap : Array Value) (w : World), (Instr.makeFunc fn first cap).run Try.prog w = .ok (.func fn first cap) w := fun _ _ _ _ => rfl
  have HN := Lib.hid hnear
  clear hnear
  have HW := (((Below.refl w.heap.size w).alloc (Nat.le_refl _) (.cells #[.int .i64 at_] 3)).alloc (by simp) (.cells #[.slice none 0 0, .int .i64 0, .nilFunc, .nilFunc, .slice none 0 0] 113)).alloc (by simp; omega) (.cells #[.pointer (some ⟨w.heap.size + 1, 0, none⟩)] 70)
  have hX0 := Go.Deep.blk_alloc_new w (.cells #[.int .i64 at_] 3)
  have hX1 := Go.Deep.blk_alloc_new (w.alloc (.cells #[.int .i64 at_] 3)) (.cells #[.slice none 0 0, .int .i64 0, .nilFunc, .nilFunc, .slice none 0 0] 113)
  have hX2 := Go.Deep.blk_alloc_new ((w.alloc (.cells #[.int .i64 at_] 3)).alloc (.cells #[.slice none 0 0, .int .i64 0, .nilFunc, .nilFunc, .slice none 0 0] 113)) (.cells #[.pointer (some ⟨w.heap.size + 1, 0, none⟩)] 70)
  have hX0' := (Below.heap_alloc _ (.cells #[.pointer (some ⟨w.heap.size + 1, 0, none⟩)] 70) w.heap.size (by simp; omega)).trans ((Below.heap_alloc (w.alloc (.cells #[.int .i64 at_] 3)) (.cells #[.slice none 0 0, .int .i64 0, .nilFunc, .nilFunc, .slice none 0 0] 113) w.heap.size (by simp)).trans hX0)
  have hX1' := (Below.heap_alloc _ (.cells #[.pointer (some ⟨w.heap.size + 1, 0, none⟩)] 70) _ (by simp)).trans hX1
  have e1 : (w.alloc (.cells #[.int .i64 at_] 3)).heap.size = w.heap.size + 1 := by simp
  have e2 : ((w.alloc (.cells #[.int .i64 at_] 3)).alloc (.cells #[.slice none 0 0, .int .i64 0, .nilFunc, .nilFunc, .slice none 0 0] 113)).heap.size = w.heap.size + 1 + 1 := by simp
  have e3 : (((w.alloc (.cells #[.int .i64 at_] 3)).alloc (.cells #[.slice none 0 0, .int .i64 0, .nilFunc, .nilFunc, .slice none 0 0] 113)).alloc (.cells #[.pointer (some ⟨w.heap.size + 1, 0, none⟩)] 70)).heap.size = w.heap.size + 1 + 1 + 1 := by simp
  rw [e1] at hX1'
  rw [e2] at hX2
  have hS := Nat.le_of_eq e3.symm
  clear hX0 hX1 e1 e2 e3
  go_enter Try.func27, Try.ntmps27
  go_wp2_with fail
  generalize ((w.alloc (.cells #[.int .i64 at_] 3)).alloc (.cells #[.slice none 0 0, .int .i64 0, .nilFunc, .nilFunc, .slice none 0 0] 113)).alloc (.cells #[.pointer (some ⟨w.heap.size + 1, 0, none⟩)] 70) = W at HW hX0' hX1' hX2 hS ⊢
  have hc : W.cell? ⟨w.heap.size + 1 + 1, 0, none⟩ = some (.pointer (some ⟨w.heap.size + 1, 0, none⟩)) := by simp [World.cell?, hX2]
  have H0 := Lib.hid hX0'
  have H1 := Lib.hid hX1'
  have H2 := Lib.hid hX2
  clear hX0' hX1' hX2
  go_region_held3 (fun w' => w'.cell? ⟨w.heap.size + 1 + 1, 0, none⟩ = some (.pointer (some ⟨w.heap.size + 1, 0, none⟩))) (go_keep)
    (first | (go_at_call 49; refine (chunks_parts n _).mono ?_; rintro e w1 ⟨v1, rfl, ⟨A1, c1, rfl, p1, p2, p3⟩, hb1⟩; have hb2 := below_drew hb1; have hk := (hb2.cell (p := ⟨w.heap.size + 1 + 1, 0, none⟩) (by simp; omega)).trans hc; have HM := CpNew.of_blk ((hb2.block (w.heap.size + 1) (by omega)).trans H1.out); obtain ⟨m0, m1, m2, m3, f0, f1, f2, f3, mb⟩ := HM; have HMB := Lib.hid mb; have HP3 := Lib.hid p3; clear p3 mb))
  all_goals
    go_wp2
    go_ret
    exact out_made HN.out (Cy.few_le n) HW hS H0.out H2.out hb2 HMB.out ⟨A1, c1, rfl, p1, p2, HP3.out⟩
end Go.Proofs.Ytegjnejekakeiaa
namespace Go.Proofs.Ytegjnejekakeiaa
open Go.RowKit

theorem infoMachine : (Try.prog.info? 85).map (fun i => (i.zero, i.size, i.bytes)) = some (some .nilIface, 1, 16) := by kernel_rfl
theorem infoRefJob : (Try.prog.info? 61).map (fun i => (i.zero, i.size, i.bytes)) = some (some (.agg #[.int .i64 0, .int .i64 0, .int .i64 0, .slice none 0 0, .slice none 0 0, .bool false]), 6, 80) := by kernel_rfl

/-- What appending an element to a row left. -/
structure AppRow (e : TypeId) (sz n : Nat) (v : Value) (zs : List Value) (w : World) (v' : Value) (w' : World) : Prop where
  row : w'.ownsRow 0 e sz v' (n + 1) zs
  grown : w.grownBy w' v.ownBlock
  lies : v'.ownBlock = v.ownBlock ∨ v'.ownBlock = some w.heap.size

theorem AppRow.form {e : TypeId} {sz n : Nat} {v v' : Value} {zs : List Value} {w w' : World} (h : AppRow e sz n v zs w v' w') : ∃ g cap, v' = .slice (some ⟨g, 0, none⟩) (n + 1) cap := by
  rcases h.row.2 with ⟨_, h0⟩ | ⟨g, cap, cur, hv, _⟩
  · omega
  · exact ⟨g, cap, hv⟩

set_option maxRecDepth 100000 in
theorem wpList_app_job {w : World} {ops : Array Oper} {rest : List Oper} {o : Oper} {a : Act} {Q : Exit → Act → World → Prop} (hgd : o.guard = none) (s x : Operand)
    (ho : o.op = .call { callee := .builtin .append, args := #[s, x], argTypes := #[34, 34] }) (v : Value) (n : Nat) (xs : List Value) (a0 a1 a2 a3 a4 a5 : Value) (g c : Nat)
    (hs : a.eval s = v) (hx : a.eval x = .slice (some ⟨g, 0, none⟩) 1 c) (hv : w.ownsRow 0 61 6 v n xs) (hg : w.heap[g]? = some (.cells #[a0, a1, a2, a3, a4, a5] 61 (0, 0)))
    (h1 : a0.oneCell' = true ∧ a1.oneCell' = true ∧ a2.oneCell' = true ∧ a3.oneCell' = true ∧ a4.oneCell' = true ∧ a5.oneCell' = true) (hl : n ≤ 1000000)
    (h : ∀ v' w', AppRow 61 6 n v (xs ++ [a0, a1, a2, a3, a4, a5]) w v' w' → wpList Try.prog ops Q rest (a.put o.dst v') w') : wpList Try.prog ops Q (o :: rest) a w := by
  obtain ⟨i0, hi, hz0, hz1, hz2⟩ := info_parts infoRefJob
  refine wpList_append_own_at (P := Try.prog) w hgd s x 34 ho 0 61 i0 _ 6 80 Try.underlying34 hi hz0 hz1 hz2 rfl (by decide) v n xs hs hv ⟨g, 0, none⟩ 1 c [a0, a1, a2, a3, a4, a5] hx rfl (by
      intro j u hj
      have e : (⟨g, 0, none⟩ : Addr).add j = ⟨g, 0 + j, none⟩ := by unfold Addr.add; split <;> simp_all
      rw [e, Nat.zero_add]
      simp only [World.cell?, hg]
      rw [← hj]
      simp) (by
      obtain ⟨b0, b1, b2, b3, b4, b5⟩ := h1
      intro u hu
      simp only [List.mem_cons, List.not_mem_nil, or_false] at hu
      rcases hu with rfl | rfl | rfl | rfl | rfl | rfl <;> assumption) (by unfold maxLen; omega) (by omega) (Nat.zero_le _) fun v' w' k1 k2 _ k4 => h v' w' ⟨k1, k2, k4⟩

set_option maxRecDepth 100000 in
theorem wpList_app_mach {w : World} {ops : Array Oper} {rest : List Oper} {o : Oper} {a : Act} {Q : Exit → Act → World → Prop} (hgd : o.guard = none) (s x : Operand)
    (ho : o.op = .call { callee := .builtin .append, args := #[s, x], argTypes := #[33, 33] }) (v : Value) (n : Nat) (xs : List Value) (a0 : Value) (g c : Nat)
    (hs : a.eval s = v) (hx : a.eval x = .slice (some ⟨g, 0, none⟩) 1 c) (hv : w.ownsRow 0 85 1 v n xs) (hg : w.heap[g]? = some (.cells #[a0] 85 (0, 0)))
    (h1 : a0.oneCell' = true) (hl : n ≤ 1000000)
    (h : ∀ v' w', AppRow 85 1 n v (xs ++ [a0]) w v' w' → wpList Try.prog ops Q rest (a.put o.dst v') w') : wpList Try.prog ops Q (o :: rest) a w := by
  obtain ⟨i0, hi, hz0, hz1, hz2⟩ := info_parts infoMachine
  refine wpList_append_own_at (P := Try.prog) w hgd s x 33 ho 0 85 i0 _ 1 16 Try.underlying33 hi hz0 hz1 hz2 rfl (by decide) v n xs hs hv ⟨g, 0, none⟩ 1 c [a0] hx rfl (by
      intro j u hj
      have e : (⟨g, 0, none⟩ : Addr).add j = ⟨g, 0 + j, none⟩ := by unfold Addr.add; split <;> simp_all
      rw [e, Nat.zero_add]
      simp only [World.cell?, hg]
      rw [← hj]
      simp) (by
      intro u hu
      simp only [List.mem_cons, List.not_mem_nil, or_false] at hu
      subst hu
      exact h1) (by unfold maxLen; omega) (by omega) (Nat.zero_le _) fun v' w' k1 k2 _ k4 => h v' w' ⟨k1, k2, k4⟩
end Go.Proofs.Ytegjnejekakeiaa
namespace Go.Proofs.Ytegjnejekakeiaa
open Go.RowKit

/-- A job that came in: its kind, place, number, and where its bytes stand. -/
structure Jb where
  K : Nat
  P : Nat
  N : Nat
  A : Option Addr
  L : Nat
  cap : Nat
  f : Nat → Nat

namespace Jb
/-- It reads so in w. -/
structure Is (j : Jb) (w : World) : Prop where
  k : j.K < 256
  p : j.P < 65536
  n : j.N < 65536
  isB : Mb.IsB j.f
  bytes : BytesAt w (.slice j.A j.L j.cap) (Mb.bl j.f 0 j.L)
  room : j.L ≤ j.cap
  few : j.cap ≤ 9223372036854775807
/-- Where it copies, and how much. -/
def at_ (j : Jb) : Int := (j.P : Int) % 300
def num (j : Jb) : Int := (j.N : Int) % 60
/-- Its machine. -/
def mc (j : Jb) : Mc :=
  if j.K % 3 = 0 then .copy (.wr j.at_ j.f) 0 j.L [] else if j.K % 3 = 1 then .copy (.ze j.at_) 0 (Cy.few j.num) [] else .copy (.rd j.at_) 0 (Cy.few j.num) []
/-- The plain job's cells. -/
def ref (j : Jb) (B : Value) : List Value := [.int .i64 ((j.K : Int) % 3), .int .i64 ((j.P : Int) % 300), .int .i64 ((j.N : Int) % 60), B, .slice none 0 0, .bool false]
end Jb

theorem Jb.Is.below {j : Jb} {w w' : World} (h : j.Is w) (hb : Below w.heap.size w w') : j.Is w' := ⟨h.k, h.p, h.n, h.isB, h.bytes.below hb, h.room, h.few⟩

/-- A slice of jobs stands in memory. -/
def JbsAt (w : World) (A : Option Addr) (n : Nat) (js : Nat → Jb) : Prop := 0 < n → ∃ b off, A = some ⟨b, off, none⟩ ∧ b < w.heap.size ∧ ∀ i, i < n → w.cell? ⟨b, off + i * 4, none⟩ = some (.int .u8 (js i).K) ∧ w.cell? ⟨b, off + i * 4 + 1, none⟩ = some (.int .u16 (js i).P) ∧ w.cell? ⟨b, off + i * 4 + 2, none⟩ = some (.int .u16 (js i).N) ∧ w.cell? ⟨b, off + i * 4 + 3, none⟩ = some (.slice (js i).A (js i).L (js i).cap) ∧ (js i).Is w

theorem JbsAt.below {w w' : World} {A : Option Addr} {n : Nat} {js : Nat → Jb} (h : JbsAt w A n js) (hb : Below w.heap.size w w') : JbsAt w' A n js := fun hp => by
  obtain ⟨b, off, e, hl, hc⟩ := h hp
  refine ⟨b, off, e, Nat.lt_of_lt_of_le hl hb.size, fun i hi => ?_⟩
  obtain ⟨c0, c1, c2, c3, hi⟩ := hc i hi
  have k := fun q => hb.cell (p := ⟨b, q, none⟩) hl
  exact ⟨(k _).trans c0, (k _).trans c1, (k _).trans c2, (k _).trans c3, hi.below hb⟩

/-- The cells of the first i of a list told by a function. -/
def upto {α : Type} (f : Nat → List α) (i : Nat) : List α := (List.range i).flatMap f
theorem upto_next {α : Type} (f : Nat → List α) (i : Nat) : upto f (i + 1) = upto f i ++ f i := by simp [upto, List.range_succ]
theorem upto_congr {α : Type} {f g : Nat → List α} {i : Nat} (h : ∀ j, j < i → f j = g j) : upto f i = upto g i := by
  unfold upto
  induction i with
  | zero => rfl
  | succ i ih => rw [List.range_succ, List.flatMap_append, List.flatMap_append, ih fun j hj => h j (by omega)]; simp [h i (Nat.lt_succ_self i)]

theorem own_shape {base : Nat} {w : World} {A : Option Addr} {l c : Nat} {xs : List Int} (h : Owns base w (.slice A l c) xs) : l = xs.length ∧ l ≤ c ∧ c ≤ 9223372036854775807 := by
  rcases h.2 with ⟨hv, h0⟩ | ⟨g, cap, cur, hv, _, _, h1, h2, _⟩
  · injection hv with _ e1 e2
    omega
  · injection hv with _ e1 e2
    unfold maxLen at h2
    omega

/-- The machines and the plain jobs of the first i jobs stand in memory, in new blocks. -/
structure MadeTo (w wr : World) (o : Nat → Pt) (js : Nat → Jb) (i : Nat) (V4 V5 : Value) (xs Bs : Nat → Value) : Prop where
  row : wr.ownsRow 0 85 1 V4 i (upto (fun j => [xs j]) i)
  jobs : wr.ownsRow 0 61 6 V5 i (upto (fun j => (js j).ref (Bs j)) i)
  own4 : ∀ k, V4.ownBlock = some k → o k = .ac
  own5 : ∀ k, V5.ownBlock = some k → o k = .ro
  txt : ∀ j, j < i → BytesIn (fun k => o k = .tx) wr (Bs j) (Mb.bl (js j).f 0 (js j).L)
  mach : ∀ j, j < i → MRep wr (fun k => o k = .ma j) (xs j) (js j).mc
  new : ∀ k, o k ≠ .no → w.heap.size ≤ k ∧ k < wr.heap.size
  low : Below w.heap.size w wr
  fits : ∀ j, j < i → ∃ A c, Bs j = .slice A (js j).L c ∧ (js j).L ≤ c ∧ c ≤ 9223372036854775807

theorem MadeTo.keep {w wr w' : World} {o : Nat → Pt} {js : Nat → Jb} {i : Nat} {V4 V5 : Value} {xs Bs : Nat → Value} (h : MadeTo w wr o js i V4 V5 xs Bs) (hb : Below wr.heap.size wr w') : MadeTo w w' o js i V4 V5 xs Bs :=
  ⟨ownsRow_keep h.row fun q hq => hb.block q (World.ownsRow.lt h.row q hq).2, ownsRow_keep h.jobs fun q hq => hb.block q (World.ownsRow.lt h.jobs q hq).2, h.own4, h.own5, fun j hj => (h.txt j hj).below hb,
    fun j hj => (h.mach j hj).keep hb.size fun k hk => hb.block k (h.new k (by rw [hk]; simp)).2, fun k hk => ⟨(h.new k hk).1, Nat.lt_of_lt_of_le (h.new k hk).2 hb.size⟩, h.low.trans (hb.mono h.low.size), h.fits⟩

theorem upto_len {α : Type} (f : Nat → List α) (i : Nat) : upto f (i + 1) = upto f i ++ f i := upto_next f i

/-- One job more: its bytes, the plain job, its machine, the row of machines. -/
theorem MadeTo.more {w wr wa wb wc wd : World} {o : Nat → Pt} {js : Nat → Jb} {i : Nat} {V4 V5 V4' V5' : Value} {xs Bs : Nat → Value} (h : MadeTo w wr o js i V4 V5 xs Bs) (hab : Below wr.heap.size wr wa) {B : Value}
    (hB : BytesIn (fun k => wr.heap.size ≤ k) wa B (Mb.bl (js i).f 0 (js i).L)) (hft : ∃ A c, B = .slice A (js i).L c ∧ (js i).L ≤ c ∧ c ≤ 9223372036854775807) (hj : AppRow 61 6 i V5 (upto (fun j => (js j).ref (Bs j)) i ++ (js i).ref B) wa V5' wb) (hbc : Below wb.heap.size wb wc) {x : Value}
    (hx : MRep wc (fun k => wb.heap.size ≤ k ∧ k < wc.heap.size) x (js i).mc) {wc' : World} (hcc : Below wc.heap.size wc wc') (hm : AppRow 85 1 i V4 (upto (fun j => [xs j]) i ++ [x]) wc' V4' wd) :
    ∃ o' xs' Bs', MadeTo w wd o' js (i + 1) V4' V5' xs' Bs' := by
  have l5 : ∀ k, V5.ownBlock = some k → k < wr.heap.size ∧ w.heap.size ≤ k ∧ o k = .ro := fun k hk => ⟨(h.new k (by rw [h.own5 k hk]; simp)).2, (h.new k (by rw [h.own5 k hk]; simp)).1, h.own5 k hk⟩
  have l4 : ∀ k, V4.ownBlock = some k → k < wr.heap.size ∧ w.heap.size ≤ k ∧ o k = .ac := fun k hk => ⟨(h.new k (by rw [h.own4 k hk]; simp)).2, (h.new k (by rw [h.own4 k hk]; simp)).1, h.own4 k hk⟩
  have s1 := hab.size
  have s2 := hj.grown.size
  have s3 := hbc.size
  have s4 := hcc.size
  have s5 := hm.grown.size
  have s0 := h.low.size
  have g5 : ∀ k, k < wa.heap.size → V5.ownBlock ≠ some k → wb.heap[k]? = wa.heap[k]? := fun k hk hn => hj.grown.block k hk fun e => hn e.symm
  have g4 : ∀ k, k < wc'.heap.size → V4.ownBlock ≠ some k → wd.heap[k]? = wc'.heap[k]? := fun k hk hn => hm.grown.block k hk fun e => hn e.symm
  have gbd : ∀ k, k < wb.heap.size → V4.ownBlock ≠ some k → wd.heap[k]? = wb.heap[k]? := fun k hk hn => (g4 k (by omega) hn).trans ((hcc.block k (by omega)).trans (hbc.block k hk))
  have grd : ∀ k, k < wr.heap.size → V4.ownBlock ≠ some k → V5.ownBlock ≠ some k → wd.heap[k]? = wr.heap[k]? := fun k hk h4 h5 => (gbd k (by omega) h4).trans ((g5 k (by omega) h5).trans (hab.block k hk))
  have t4 : ∀ k, o k ≠ .ac → V4.ownBlock ≠ some k := fun k hk e => hk (h.own4 k e)
  have t5 : ∀ k, o k ≠ .ro → V5.ownBlock ≠ some k := fun k hk e => hk (h.own5 k e)
  have hz5 : ∀ k, V5'.ownBlock = some k → (k < wr.heap.size ∧ o k = .ro) ∨ k = wa.heap.size := fun k hk => by
    rcases hj.lies with e | e
    · exact .inl ⟨(l5 k (e.symm.trans hk)).1, (l5 k (e.symm.trans hk)).2.2⟩
    · rw [e] at hk; injection hk with hk; exact .inr hk.symm
  have hz4 : ∀ k, V4'.ownBlock = some k → (k < wr.heap.size ∧ o k = .ac) ∨ k = wc'.heap.size := fun k hk => by
    rcases hm.lies with e | e
    · exact .inl ⟨(l4 k (e.symm.trans hk)).1, (l4 k (e.symm.trans hk)).2.2⟩
    · rw [e] at hk; injection hk with hk; exact .inr hk.symm
  have lt5 : ∀ k, V5'.ownBlock = some k → k < wb.heap.size := fun k hk => (World.ownsRow.lt hj.row k hk).2
  have lt4 : ∀ k, V4'.ownBlock = some k → k < wd.heap.size := fun k hk => (World.ownsRow.lt hm.row k hk).2
  let o' : Nat → Pt := fun k => if k < wr.heap.size then o k else if k < wa.heap.size then .tx else if k < wb.heap.size then .ro else if k < wc.heap.size then .ma i else if k < wd.heap.size then .ac else .no
  have p0 : ∀ k, k < wr.heap.size → o' k = o k := fun k hk => if_pos hk
  have p1 : ∀ k, wr.heap.size ≤ k → k < wa.heap.size → o' k = .tx := fun k h1 h2 => by show (if _ then _ else _) = _; rw [if_neg (by omega), if_pos h2]
  have p2 : ∀ k, wa.heap.size ≤ k → k < wb.heap.size → o' k = .ro := fun k h1 h2 => by show (if _ then _ else _) = _; rw [if_neg (by omega), if_neg (by omega), if_pos h2]
  have p3 : ∀ k, wb.heap.size ≤ k → k < wc.heap.size → o' k = .ma i := fun k h1 h2 => by show (if _ then _ else _) = _; rw [if_neg (by omega), if_neg (by omega), if_neg (by omega), if_pos h2]
  have p4 : ∀ k, wc.heap.size ≤ k → k < wd.heap.size → o' k = .ac := fun k h1 h2 => by show (if _ then _ else _) = _; rw [if_neg (by omega), if_neg (by omega), if_neg (by omega), if_neg (by omega), if_pos h2]
  have p5 : ∀ k, wd.heap.size ≤ k → o' k = .no := fun k h1 => by show (if _ then _ else _) = _; rw [if_neg (by omega), if_neg (by omega), if_neg (by omega), if_neg (by omega), if_neg (by omega)]
  clear_value o'
  have e4 : upto (fun j => [if j = i then x else xs j]) (i + 1) = upto (fun j => [xs j]) i ++ [x] := by
    rw [upto_next]
    simp only [if_pos]
    rw [upto_congr (g := fun j => [xs j]) fun j hj => by rw [if_neg (by omega)]]
  have e5 : upto (fun j => (js j).ref (if j = i then B else Bs j)) (i + 1) = upto (fun j => (js j).ref (Bs j)) i ++ (js i).ref B := by
    rw [upto_next]
    simp only [if_pos]
    rw [upto_congr (g := fun j => (js j).ref (Bs j)) fun j hj => by rw [if_neg (by omega)]]
  refine ⟨o', fun j => if j = i then x else xs j, fun j => if j = i then B else Bs j, ?_, ?_, fun k hk => ?_, fun k hk => ?_, fun j hj2 => ?_, fun j hj2 => ?_, fun k hk => ?_, ?_, fun j hj2 => ?_⟩
  · rw [e4]; exact hm.row
  · rw [e5]
    refine ownsRow_keep hj.row fun q hq => gbd q (lt5 q hq) fun e => ?_
    rcases hz5 q hq with e1 | e1
    · have := (l4 q e).2.2; rw [e1.2] at this; cases this
    · have := (l4 q e).1; omega
  · rcases hz4 k hk with e | e
    · exact (p0 k e.1).trans e.2
    · exact p4 k (by omega) (lt4 k hk)
  · rcases hz5 k hk with e | e
    · exact (p0 k e.1).trans e.2
    · exact p2 k (by omega) (lt5 k hk)
  · by_cases hji : j = i
    · subst hji
      show BytesIn _ _ (if j = j then B else Bs j) _
      rw [if_pos rfl]
      exact (hB.lt.keep (by omega) fun k hk _ => (gbd k (by omega) fun e => by have := (l4 k e).1; omega).trans (g5 k hk.2 fun e => by have := (l5 k e).1; omega)).mono fun k hk _ => p1 k hk.1 hk.2
    · show BytesIn _ _ (if j = i then B else Bs j) _
      rw [if_neg hji]
      have hnw : ∀ k, o k = .tx → k < wr.heap.size := fun k hk => (h.new k (by rw [hk]; simp)).2
      exact ((h.txt j (by omega)).keep (by omega) fun k hk _ => grd k (hnw k hk) (t4 k (by rw [hk]; simp)) (t5 k (by rw [hk]; simp))).mono fun k hk _ => (p0 k (hnw k hk)).trans hk
  · by_cases hji : j = i
    · subst hji
      show MRep _ _ (if j = j then x else xs j) _
      rw [if_pos rfl]
      exact (hx.keep (by omega) fun k hk => (g4 k (by omega) fun e => by have := (l4 k e).1; omega).trans (hcc.block k hk.2)).mono fun k hk => p3 k hk.1 hk.2
    · show MRep _ _ (if j = i then x else xs j) _
      rw [if_neg hji]
      have hnw : ∀ k, o k = .ma j → k < wr.heap.size := fun k hk => (h.new k (by rw [hk]; simp)).2
      exact ((h.mach j (by omega)).keep (by omega) fun k hk => grd k (hnw k hk) (t4 k (by rw [hk]; simp)) (t5 k (by rw [hk]; simp))).mono fun k hk => (p0 k (hnw k hk)).trans hk
  · by_cases h1 : k < wr.heap.size
    · rw [p0 k h1] at hk
      have := h.new k hk
      omega
    · by_cases h2 : k < wd.heap.size
      · omega
      · exact absurd (p5 k (by omega)) hk
  · refine ⟨?_, ?_, ?_, by omega, fun k hk => ?_⟩
    · exact hm.grown.os.trans (hcc.os.trans (hbc.os.trans (hj.grown.os.trans (hab.os.trans h.low.os))))
    · exact hm.grown.tape.trans (hcc.tape.trans (hbc.tape.trans (hj.grown.tape.trans (hab.tape.trans h.low.tape))))
    · exact hm.grown.output.trans (hcc.output.trans (hbc.output.trans (hj.grown.output.trans (hab.output.trans h.low.output))))
    · exact (grd k (by omega) (fun e => by have := (l4 k e).2.1; omega) (fun e => by have := (l5 k e).2.1; omega)).trans (h.low.block k hk)
  · show ∃ A c, (if j = i then B else Bs j) = _ ∧ _
    by_cases hji : j = i
    · subst hji
      rw [if_pos rfl]
      exact hft
    · rw [if_neg hji]
      exact h.fits j (by omega)


theorem MadeTo.row4 {w wr wa wb : World} {o : Nat → Pt} {js : Nat → Jb} {i : Nat} {V4 V5 V5' : Value} {xs Bs : Nat → Value} {zs : List Value} (h : MadeTo w wr o js i V4 V5 xs Bs) (hab : Below wr.heap.size wr wa) (hj : AppRow 61 6 i V5 zs wa V5' wb) :
    wb.ownsRow 0 85 1 V4 i (upto (fun j => [xs j]) i) := by
  refine ownsRow_keep h.row fun q hq => ?_
  have hlt := (World.ownsRow.lt h.row q hq).2
  refine (hj.grown.block q (Nat.lt_of_lt_of_le hlt hab.size) fun e => ?_).trans (hab.block q hlt)
  have := (h.own5 q e.symm).symm.trans (h.own4 q hq)
  cases this

/-- Blocks made since are what they were. -/
theorem MadeTo.blk {w wr wa wb : World} {o : Nat → Pt} {js : Nat → Jb} {i : Nat} {V4 V5 V5' : Value} {xs Bs : Nat → Value} {zs : List Value} (h : MadeTo w wr o js i V4 V5 xs Bs) (hj : AppRow 61 6 i V5 zs wa V5' wb) {k : Nat} (h1 : wr.heap.size ≤ k) (h2 : k < wa.heap.size) :
    wb.heap[k]? = wa.heap[k]? := hj.grown.block k h2 fun e => by have := (h.new k (by rw [h.own5 k e.symm]; simp)).2; omega

/-- A new machine stands in the blocks since. -/
theorem MRep.fresh {w w' : World} {kd : Kd} {g n : Nat} (h : Cp w' w.heap.size w'.heap.size g kd 0 n (.slice none 0 0) []) (hk : kd.Okay) : MRep w' (fun k => w.heap.size ≤ k ∧ k < w'.heap.size) (.iface 70 (.pointer (some ⟨g, 0, none⟩))) (.copy kd 0 n []) :=
  ⟨w.heap.size, w'.heap.size, g, .slice none 0 0, rfl, h, fun _ a b => ⟨a, b⟩, fun _ hk => absurd hk (by simp [Value.ownBlock]), hk, by simp⟩

theorem Jb.mc_in {j : Jb} (h : j.K % 3 = 0) : j.mc = .copy (.wr j.at_ j.f) 0 j.L [] := if_pos h
theorem Jb.mc_zero {j : Jb} (h : j.K % 3 = 1) : j.mc = .copy (.ze j.at_) 0 (Cy.few j.num) [] := (if_neg (by omega)).trans (if_pos h)
theorem Jb.mc_out {j : Jb} (h : j.K % 3 = 2) : j.mc = .copy (.rd j.at_) 0 (Cy.few j.num) [] := (if_neg (by omega)).trans (if_neg (by omega))
theorem Jb.near (j : Jb) : -4611686018427387904 ≤ j.at_ ∧ j.at_ ≤ 4611686018427387904 := by unfold Jb.at_; omega
end Go.Proofs.Ytegjnejekakeiaa
namespace Go.Proofs.Ytegjnejekakeiaa
open Go.RowKit

/-- The bytes of "123456789". -/
def digits (i : Nat) : Nat := 49 + i
theorem digits_isB9 : Mb.bl digits 0 9 = [49, 50, 51, 52, 53, 54, 55, 56, 57] := by decide

theorem nine_made (w : World) : BytesAt (w.alloc (.cells #[.int .u8 49, .int .u8 50, .int .u8 51, .int .u8 52, .int .u8 53, .int .u8 54, .int .u8 55, .int .u8 56, .int .u8 57] 5 (9, 10))) (.slice (some ⟨w.heap.size, 0, none⟩) 9 9) (Mb.bl digits 0 9) := by
  rw [digits_isB9]
  refine ⟨_, _, rfl, fun _ => ⟨w.heap.size, 0, rfl, by simp, fun i hi => ?_⟩⟩
  simp only [List.length_cons, List.length_nil] at hi
  rw [Nat.zero_add, World.cell?_alloc_mark]
  match i, hi with
  | 0, _ | 1, _ | 2, _ | 3, _ | 4, _ | 5, _ | 6, _ | 7, _ | 8, _ => rfl

/-- A machine that writes bytes up to nine places on. -/
def digitsB (i : Nat) : Nat := if i < 9 then 49 + i else 0
theorem digitsB_isB : Mb.IsB digitsB := fun i => by unfold digitsB; split <;> omega
theorem digitsB_9 : Mb.bl digitsB 0 9 = Mb.bl digits 0 9 := by decide

/-- The states. -/
def fx0 : St := St.made 2 (fun i => if i = 0 then .copy (.wr 0 digitsB) 0 9 [] else .none) (fun _ => 0) 8 0
def fx1 : St := (fx0.pick ⟨2, 0, 5⟩).1
def fx2 : St := (fx1.pick ⟨0, 0, 0⟩).1
def fx4 : St := (fx2.robin 99).1
theorem fx_1 : ∃ v, fx0.pick ⟨2, 0, 5⟩ = (fx1, 0, v) := ⟨(fx0.pick ⟨2, 0, 5⟩).2.2, Prod.ext rfl (Prod.ext (by decide +kernel) rfl)⟩
theorem fx_2 : ∃ v, fx1.pick ⟨0, 0, 0⟩ = (fx2, 0, v) ∧ v.ac.N = 8 := ⟨(fx1.pick ⟨0, 0, 0⟩).2.2, Prod.ext rfl (Prod.ext (by decide +kernel) rfl), by decide +kernel⟩
theorem fx_3 : fx2.pick ⟨0, 2, 0⟩ = (fx2, 2, Ev.zero) := St.pick_no (p := ⟨0, 2, 0⟩) (show ¬ fx2.chk ⟨0, 2, 0⟩ = 0 by decide +kernel)
theorem fx_4 : (fx2.robin 99).2 = 1 := by decide +kernel
theorem fx_clock : fx4.clock = 5 := by decide +kernel
theorem fx_end0 : fx4.endB 0 = true := by decide +kernel
theorem fx_end1 : fx4.endB 1 = true := by decide +kernel
theorem fx_dead0 : fx4.deadB 0 = false := by decide +kernel
theorem fx_len1 : fx0.tr.length ≤ 1000000 ∧ fx1.tr.length ≤ 1000000 ∧ fx2.tr.length + 99 ≤ 1000000 := by decide +kernel
theorem fx_len4 : fx4.tr.length = 3 := by decide +kernel

theorem pick_is {w : World} {o : Nat → Pt} {gw ga gb hb : Nat} {ax : Nat → Value} {tv : Value} {ts : List Tx} {st st' : St} {r : Int} {v : Ev} (h : Sw w o gw ga gb hb ax tv ts st) (p : Pk) (hlong : st.tr.length ≤ 1000000) (hp : st.pick p = (st', r, v)) :
    Calls Try.prog 11 #[.pointer (some ⟨gw, 0, none⟩), .agg #[.int .i64 p.K, .int .i64 p.A, .int .i64 p.N]] w (PickTold o gw ga gb hb ax st' r v w) := by
  have h1 := pick_any h p hlong
  rw [hp] at h1
  exact h1

/-- A scheduler stands; all that was below stands as it was. -/
structure Stood (w0 w : World) (o : Nat → Pt) (gw ga gb hb : Nat) (ax : Nat → Value) (st : St) : Prop where
  sw : ∃ tv ts, Sw w o gw ga gb hb ax tv ts st
  low : Below w0.heap.size w0 w
  out : ∀ k, k < w0.heap.size → o k = .no

namespace Stood
variable {w0 w w' : World} {o o' : Nat → Pt} {gw ga gb hb : Nat} {ax : Nat → Value} {st st' : St}
theorem below (h : Stood w0 w o gw ga gb hb ax st) (hb' : Below w.heap.size w w') : Stood w0 w' o gw ga gb hb ax st := by
  obtain ⟨⟨tv, ts, hs⟩, h1, h2⟩ := h
  exact ⟨⟨tv, ts, hs.below hb'⟩, h1.trans (hb'.mono h1.size), h2⟩
theorem alloc (h : Stood w0 w o gw ga gb hb ax st) (q : Obj) : Stood w0 (w.alloc q) o gw ga gb hb ax st := h.below ((Below.refl _ _).alloc (Nat.le_refl _) q)
theorem after (h : Stood w0 w o gw ga gb hb ax st) (ht : Touch (Own o) w w') (hs : ∃ tv ts, Sw w' o' gw ga gb hb ax tv ts st') (ho : ∀ k, k < w.heap.size → o' k = o k) : Stood w0 w' o' gw ga gb hb ax st' :=
  ⟨hs, ⟨ht.os.trans h.low.os, ht.tape.trans h.low.tape, ht.output.trans h.low.output, Nat.le_trans h.low.size ht.size, fun k hk => (ht.block k (Nat.lt_of_lt_of_le hk h.low.size) fun e => e (h.out k hk)).trans (h.low.block k hk)⟩,
    fun k hk => (ho k (Nat.lt_of_lt_of_le hk h.low.size)).trans (h.out k hk)⟩
theorem new_no (h : Stood w0 w o gw ga gb hb ax st) {k : Nat} (hk : w.heap.size ≤ k) : o k = .no := by
  obtain ⟨⟨tv, ts, hs⟩, _, _⟩ := h
  exact hs.new_no hk
end Stood

/-- A block that is nobody's keeps its cells. -/
theorem nobody_cell {w w' : World} {o : Nat → Pt} (ht : Touch (Own o) w w') {q : Addr} (hq : q.block < w.heap.size) (hn : o q.block = .no) : w'.cell? q = w.cell? q :=
  World.cell?_of_block (ht.block q.block hq fun e => e hn)

/-- One machine and none, of a new scheduler. -/
theorem fixed_made {w0 w1 w2 w3 : World} {g h gm : Nat} (B : Buf w1 g h (fun _ => 0) 8 0) (h1 : w0.heap.size ≤ g) (h2 : w0.heap.size ≤ h) (hb1 : Below w0.heap.size w0 w1) (hb2 : Below w1.heap.size w1 w2)
    (hc : Cp w3 w2.heap.size w3.heap.size gm (.wr 0 digitsB) 0 9 (.slice none 0 0) []) (hb3 : Below w2.heap.size w2 w3) :
    ∃ o : Nat → Pt, ∀ T, Calls Try.prog 10 #[.pointer (some ⟨g, 0, none⟩), .slice (some ⟨w3.heap.size, 0, none⟩) 2 2] (w3.alloc (.cells #[.iface 70 (.pointer (some ⟨gm, 0, none⟩)), .nilIface] T)) fun e w' => ∃ gw ga ax o', e = .returned (.pointer (some ⟨gw, 0, none⟩)) ∧ Stood w0 w' o' gw ga g h ax fx0 ∧ (∀ k, k < w3.heap.size + 1 → o' k = o k) := by
  refine ⟨fun k => if k = g ∨ k = h then .bf else if w2.heap.size ≤ k ∧ k < w3.heap.size then .ma 0 else .no, fun T => ?_⟩
  have s1 := hb1.size
  have s2 := hb2.size
  have s3 := hb3.size
  have hgl := B.g_lt
  have hhl := B.h_lt
  have hba := (Below.refl w3.heap.size w3).alloc (Nat.le_refl _) (.cells #[.iface 70 (.pointer (some ⟨gm, 0, none⟩)), .nilIface] T)
  have e0 : (w3.alloc (.cells #[.iface 70 (.pointer (some ⟨gm, 0, none⟩)), .nilIface] T)).heap.size = w3.heap.size + 1 := by simp
  have x0 := Go.Deep.blk_alloc_new w3 (.cells #[.iface 70 (.pointer (some ⟨gm, 0, none⟩)), .nilIface] T)
  generalize w3.alloc (.cells #[.iface 70 (.pointer (some ⟨gm, 0, none⟩)), .nilIface] T) = w4 at *
  have B4 := ((B.below hb2).below hb3).below hba
  refine (schedNew_any B4 (some ⟨w3.heap.size, 0, none⟩) 2 2 (fun i => if i = 0 then .iface 70 (.pointer (some ⟨gm, 0, none⟩)) else .nilIface) (fun i => if i = 0 then .copy (.wr 0 digitsB) 0 9 [] else .none) (by decide) (by decide) (by decide)
    (fun _ => ⟨w3.heap.size, rfl, by omega, fun i hi => ?_⟩) (o := fun k => if k = g ∨ k = h then .bf else if w2.heap.size ≤ k ∧ k < w3.heap.size then .ma 0 else .no) (fun i hi => ?_) ?_ ?_ (fun k hk => ?_)).mono ?_
  · match i, hi with
    | 0, _ | 1, _ => simp [World.cell?, x0]
  · match i, hi with
    | 0, _ =>
      refine ((MRep.fresh hc digitsB_isB).keep hba.size fun k hk => hba.block k hk.2).mono fun k hk => ?_
      show (if _ then _ else _) = _
      rw [if_neg (by omega), if_pos hk]
    | 1, _ => exact rfl
  · exact if_pos (.inl rfl)
  · exact if_pos (.inr rfl)
  · by_cases e1 : k = g ∨ k = h
    · omega
    · rw [if_neg e1] at hk
      by_cases e2 : w2.heap.size ≤ k ∧ k < w3.heap.size
      · omega
      · rw [if_neg e2] at hk
        exact absurd rfl hk
  · rintro e w' ⟨gw, ga, o', rfl, _, hs, hbl, ho⟩
    refine ⟨gw, ga, _, o', rfl, ⟨⟨_, _, hs⟩, (((hb1.trans (hb2.mono s1)).trans (hb3.mono (by omega))).trans (hba.mono (by omega))).trans (hbl.mono (by omega)), fun k hk => ?_⟩, fun k hk => ho k (by omega)⟩
    rw [ho k (by omega)]
    show (if _ then _ else _) = _
    rw [if_neg (by omega), if_neg (by omega)]

set_option maxRecDepth 100000 in
set_option maxHeartbeats 2000000 in
theorem schedFixed_any (w : World) : Calls Try.prog 7 #[] w (TrueBelow w) := by
  go_enter Try.func7, Try.ntmps7
  go_upto_region 2 with (go_at_call 8; refine (new_yes 64 8 _ (by decide) (by decide) (by decide) (by decide)).mono ?_; rintro e w1 ⟨g, h, rfl, B, hg, hh, hb1⟩)
  have HB := Lib.hid (digitsB_9.symm ▸ nine_made w1)
  have hconv : (convert 26 26 (.slice (some ⟨w1.heap.size, 0, none⟩) 9 9)).run Try.prog (w1.alloc (.cells #[.int .u8 49, .int .u8 50, .int .u8 51, .int .u8 52, .int .u8 53, .int .u8 54, .int .u8 55, .int .u8 56, .int .u8 57] 5)) = .ok (.slice (some ⟨w1.heap.size, 0, none⟩) 9 9) (w1.alloc (.cells #[.int .u8 49, .int .u8 50, .int .u8 51, .int .u8 52, .int .u8 53, .int .u8 54, .int .u8 55, .int .u8 56, .int .u8 57] 5 (9, 10))) := Lib.run_convert_bytes_const w1 26 5 _ 9 9 Try.underlying26 Try.underlying5
  have HW := (Below.refl w1.heap.size w1).alloc (Nat.le_refl _) (.cells #[.int .u8 49, .int .u8 50, .int .u8 51, .int .u8 52, .int .u8 53, .int .u8 54, .int .u8 55, .int .u8 56, .int .u8 57] 5 (9, 10))
  go_wp2_with fail
  generalize w1.alloc (.cells #[.int .u8 49, .int .u8 50, .int .u8 51, .int .u8 52, .int .u8 53, .int .u8 54, .int .u8 55, .int .u8 56, .int .u8 57] 5 (9, 10)) = W at HW HB ⊢
  refine (in_any 0 _ 9 9 digitsB W (by omega) HB.out (by omega)).mono ?_
  rintro e w2 ⟨gm, rfl, hc, hb2⟩
  obtain ⟨o, hnew⟩ := fixed_made B hg hh hb1 HW hc hb2
  clear hconv HB HW hc hb2
  go_upto_region 3 with (go_at_call 10; refine (hnew _).mono ?_; rintro e w3 ⟨gw, ga, ax, o3, rfl, hs3, ho3⟩)
  clear hnew B hb1
  obtain ⟨v1, hv1⟩ := fx_1
  obtain ⟨v2, hv2, hn2⟩ := fx_2
  have HN2 := Lib.hid hn2
  clear hn2
  go_upto_region 4 with (go_at_call 11; obtain ⟨⟨tv, ts, hsw⟩, hlw, hot⟩ := hs3; refine (pick_is hsw ⟨2, 0, 5⟩ fx_len1.1 hv1).mono ?_; rintro e w4 ⟨o4, A1, l1, c1, A2, l2, c2, tv4, ts4, rfl, _, _, hsw4, ht4, ho4⟩)
  have hs4 := (Stood.after ⟨⟨tv, ts, hsw⟩, hlw, hot⟩ ht4 ⟨tv4, ts4, hsw4⟩ ho4).alloc (.cells #[.int .i64 v1.pk.K, .int .i64 v1.pk.A, .int .i64 v1.pk.N, .int .i64 v1.ac.K, .int .i64 v1.ac.P, .int .i64 v1.ac.N, .int .u64 v1.ac.V, .int .u64 v1.ac.U, .slice A1 l1 c1, .int .u64 v1.an.V, .bool v1.an.D, .slice A2 l2 c2] 51)
  generalize w4.alloc (.cells #[.int .i64 v1.pk.K, .int .i64 v1.pk.A, .int .i64 v1.pk.N, .int .i64 v1.ac.K, .int .i64 v1.ac.P, .int .i64 v1.ac.N, .int .u64 v1.ac.V, .int .u64 v1.ac.U, .slice A1 l1 c1, .int .u64 v1.an.V, .bool v1.an.D, .slice A2 l2 c2] 51) = W4 at hs4 ⊢
  clear hsw hlw hot ht4 hsw4 ho4 hv1
  go_upto_region 5 with (go_at_call 11; obtain ⟨⟨tv, ts, hsw⟩, hlw, hot⟩ := hs4; refine (pick_is hsw ⟨0, 0, 0⟩ fx_len1.2.1 hv2).mono ?_; rintro e w5 ⟨o5, A3, l3, c3, A4, l4, c4, tv5, ts5, rfl, _, _, hsw5, ht5, ho5⟩)
  have hs5 := (Stood.after ⟨⟨tv, ts, hsw⟩, hlw, hot⟩ ht5 ⟨tv5, ts5, hsw5⟩ ho5).alloc (.cells #[.int .i64 v2.pk.K, .int .i64 v2.pk.A, .int .i64 v2.pk.N, .int .i64 v2.ac.K, .int .i64 v2.ac.P, .int .i64 v2.ac.N, .int .u64 v2.ac.V, .int .u64 v2.ac.U, .slice A3 l3 c3, .int .u64 v2.an.V, .bool v2.an.D, .slice A4 l4 c4] 51)
  have hbx := hsw5.new_no (Nat.le_refl _)
  have hx5 := Go.Deep.blk_alloc_new w5 (.cells #[.int .i64 v2.pk.K, .int .i64 v2.pk.A, .int .i64 v2.pk.N, .int .i64 v2.ac.K, .int .i64 v2.ac.P, .int .i64 v2.ac.N, .int .u64 v2.ac.V, .int .u64 v2.ac.U, .slice A3 l3 c3, .int .u64 v2.an.V, .bool v2.an.D, .slice A4 l4 c4] 51)
  have hl5 : w5.heap.size < (w5.alloc (.cells #[.int .i64 v2.pk.K, .int .i64 v2.pk.A, .int .i64 v2.pk.N, .int .i64 v2.ac.K, .int .i64 v2.ac.P, .int .i64 v2.ac.N, .int .u64 v2.ac.V, .int .u64 v2.ac.U, .slice A3 l3 c3, .int .u64 v2.an.V, .bool v2.an.D, .slice A4 l4 c4] 51)).heap.size := by simp
  generalize w5.alloc (.cells #[.int .i64 v2.pk.K, .int .i64 v2.pk.A, .int .i64 v2.pk.N, .int .i64 v2.ac.K, .int .i64 v2.ac.P, .int .i64 v2.ac.N, .int .u64 v2.ac.V, .int .u64 v2.ac.U, .slice A3 l3 c3, .int .u64 v2.an.V, .bool v2.an.D, .slice A4 l4 c4] 51) = W5 at hs5 hx5 hl5 ⊢
  have d5 : W5.cell? ⟨w5.heap.size, 5, none⟩ = some (.int .i64 8) := by rw [← HN2.out]; simp [World.cell?, hx5]
  generalize w5.heap.size = b5 at hbx hx5 hl5 d5 ⊢
  clear hsw hlw hot ht5 hsw5 ho5 hv2 hx5
  go_upto_region 6 with (go_at_call 11; obtain ⟨⟨tv, ts, hsw⟩, hlw, hot⟩ := hs5; refine (pick_is hsw ⟨0, 2, 0⟩ (by have := fx_len1.2.2; omega) fx_3).mono ?_; rintro e w6 ⟨o6, A5, l5, c5, A6, l6, c6, tv6, ts6, rfl, _, _, hsw6, ht6, ho6⟩)
  have hs6 := (Stood.after ⟨⟨tv, ts, hsw⟩, hlw, hot⟩ ht6 ⟨tv6, ts6, hsw6⟩ ho6).alloc (.cells #[.int .i64 Ev.zero.pk.K, .int .i64 Ev.zero.pk.A, .int .i64 Ev.zero.pk.N, .int .i64 Ev.zero.ac.K, .int .i64 Ev.zero.ac.P, .int .i64 Ev.zero.ac.N, .int .u64 Ev.zero.ac.V, .int .u64 Ev.zero.ac.U, .slice A5 l5 c5, .int .u64 Ev.zero.an.V, .bool Ev.zero.an.D, .slice A6 l6 c6] 51)
  have d6 := ((((Below.refl w6.heap.size w6).alloc (Nat.le_refl _) (.cells #[.int .i64 Ev.zero.pk.K, .int .i64 Ev.zero.pk.A, .int .i64 Ev.zero.pk.N, .int .i64 Ev.zero.ac.K, .int .i64 Ev.zero.ac.P, .int .i64 Ev.zero.ac.N, .int .u64 Ev.zero.ac.V, .int .u64 Ev.zero.ac.U, .slice A5 l5 c5, .int .u64 Ev.zero.an.V, .bool Ev.zero.an.D, .slice A6 l6 c6] 51))).cell (p := ⟨b5, 5, none⟩) (Nat.lt_of_lt_of_le hl5 ht6.size)).trans ((nobody_cell ht6 (q := ⟨b5, 5, none⟩) hl5 hbx).trans d5)
  have hl6 : b5 < (w6.alloc (.cells #[.int .i64 Ev.zero.pk.K, .int .i64 Ev.zero.pk.A, .int .i64 Ev.zero.pk.N, .int .i64 Ev.zero.ac.K, .int .i64 Ev.zero.ac.P, .int .i64 Ev.zero.ac.N, .int .u64 Ev.zero.ac.V, .int .u64 Ev.zero.ac.U, .slice A5 l5 c5, .int .u64 Ev.zero.an.V, .bool Ev.zero.an.D, .slice A6 l6 c6] 51)).heap.size := by have := ht6.size; simp; omega
  have hbx6 := (ho6 b5 hl5).trans hbx
  generalize w6.alloc (.cells #[.int .i64 Ev.zero.pk.K, .int .i64 Ev.zero.pk.A, .int .i64 Ev.zero.pk.N, .int .i64 Ev.zero.ac.K, .int .i64 Ev.zero.ac.P, .int .i64 Ev.zero.ac.N, .int .u64 Ev.zero.ac.V, .int .u64 Ev.zero.ac.U, .slice A5 l5 c5, .int .u64 Ev.zero.an.V, .bool Ev.zero.an.D, .slice A6 l6 c6] 51) = W6 at hs6 d6 hl6 ⊢
  clear hsw hlw hot ht6 hsw6 ho6 hbx hl5 d5
  go_cut [10] from 11 (fun s10 wx => s10 = .int .i64 1 ∧ ∃ (o7 : Nat → Pt) (tv7 : Value) (ts7 : List Tx), Sw wx o7 gw ga g h ax tv7 ts7 fx4 ∧ Below w.heap.size w wx ∧ wx.cell? ⟨b5, 5, none⟩ = some (.int .i64 8) ∧ b5 < wx.heap.size)
  case first =>
    go_wp2_with (go_at_call 14; obtain ⟨⟨tv, ts, hsw⟩, hlw, hot⟩ := hs6; refine (robin_any hsw 99 fx_len1.2.2).mono ?_; rintro e w7 ⟨rfl, o7, tv7, ts7, hsw7, ht7, ho7⟩; rw [fx_4])
    go_meet
    exact ⟨rfl, o7, tv7, ts7, hsw7, (Stood.after ⟨⟨tv, ts, hsw⟩, hlw, hot⟩ ht7 ⟨tv7, ts7, hsw7⟩ ho7).low, (nobody_cell ht7 (q := ⟨b5, 5, none⟩) hl6 hbx6).trans d6, Nat.lt_of_lt_of_le hl6 ht7.size⟩
  case rest =>
    obtain ⟨rfl, o7, tv7, ts7, hsw7, hlw7, d7, hl7⟩ := hcut
    have HSW := Lib.hid hsw7
    clear hsw7 hs6 d6 hl6 hbx6 hg hh ho3
    obtain ⟨s4, h4⟩ : ∃ s, s = fx4 := ⟨_, rfl⟩
    have fc := h4 ▸ fx_clock
    have f0 := h4 ▸ fx_end0
    have f1 := h4 ▸ fx_end1
    have fd := h4 ▸ fx_dead0
    have fl := h4 ▸ fx_len4
    rw [← h4] at HSW
    clear h4
    have FC := Lib.hid fc
    have F0 := Lib.hid f0
    have F1 := Lib.hid f1
    have FD := Lib.hid fd
    have FL := Lib.hid fl
    clear fc f0 f1 fd fl
    go_wp2_with (first
      | (go_at_call 16; refine (clock_any HSW.out).mono ?_; rintro e w8 ⟨rfl, rfl⟩; rw [FC.out])
      | (go_at_call 21; refine (ended_any (HSW.out.below hb8) 1).mono ?_; rintro e w9 ⟨rfl, hb9⟩; rw [F1.out])
      | (go_at_call 21; refine (ended_any HSW.out 0).mono ?_; rintro e w8 ⟨rfl, hb8⟩; rw [F0.out])
      | (go_at_call 20; refine (dead_any ((HSW.out.below hb8).below hb9) 0).mono ?_; rintro e w10 ⟨rfl, rfl⟩; rw [FD.out])
      | (go_at_call 18; refine (trace_any ((HSW.out.below hb8).below hb9) (by rw [FL.out]; decide)).mono ?_; rintro e w11 ⟨A9, c9, qs9, rfl, _, _, hb11⟩; rw [FL.out]))
    go_ret
    have z7 := hlw7.size
    have z8 := hb8.size
    have z9 := hb9.size
    exact ⟨rfl, ((hlw7.trans (hb8.mono z7)).trans (hb9.mono (by omega))).trans (hb11.mono (by omega))⟩
end Go.Proofs.Ytegjnejekakeiaa
