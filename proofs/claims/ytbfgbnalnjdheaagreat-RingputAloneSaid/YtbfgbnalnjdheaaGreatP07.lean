/-
  Layer 6's round and Robin, walked: all that live do a step each, in order.
  Layer 6's Robin, walked: round by round.
  Layer 6's New, walked: a scheduler is made.
  A scheduler that stands, while what was there before it stands as it was.
  One machine alone on a buffer, told by a scheduler of its own: made, and run round by round.
  Layer 7's put is made.
  Bytes laid over bytes, and copied into a row, in memory (parted from layer 5's texts).
  Layer 7's put, alone: run to its end on plain bytes; a scheduler of one does just that.
  Layer 7's put, alone on a ring that was never got from: where its message stands, and what else stays.
  Arguments opened: a slice of slices of bytes.
  The calls whose answers layer 7's document fixes, walked.
  The plain answer to layer 1's Bytes, walked.
  The plain answer to layer 1's Number, walked over any slice that reads as bytes.
  The plain answers to layer 1's powers and multiples, walked.
-/
import Derived.Test.YtbfgbnalnjdheaaGreatP06
import Derived.Test.YtbfgbnalnjdheaaGreatP05
import Derived.Test.YtbfgbnalnjdheaaGreatP03
import Derived.Test.YtbfgbnalnjdheaaGreatP02
import Derived.Test.YtbfgbnalnjdheaaGreatP01
import Derived.Laws.CopyOwn
import Derived.Deep.Slices
namespace Go.Proofs.YtbfgbnalnjdheaaGreat
open Go.RowKit

/-- An actor does the access that it is at. -/
def St.act (st : St) (i : Nat) (a : Ac) : St := if a.err st.nw = 0 then st.did ⟨0, i, 0⟩ i a else st.kill i

/-- So many actors from i on do a step each, as long as fewer than 'most' did: the state, how many did. -/
def St.rnd : Nat → St → Nat → Nat → Nat → St × Nat
  | 0, st, _, n, _ => (st, n)
  | k + 1, st, i, n, most =>
    if n = most then (st, n)
    else if st.dead i = true then St.rnd k st (i + 1) n most
    else match (st.ms i).next with
      | none => St.rnd k st (i + 1) n most
      | some a => St.rnd k (st.act i a) (i + 1) (n + 1) most

theorem St.act_na (st : St) (i : Nat) (a : Ac) : (st.act i a).na = st.na := by unfold St.act; split <;> rfl
theorem St.act_tr (st : St) (i : Nat) (a : Ac) : (st.act i a).tr.length ≤ st.tr.length + 1 := by
  unfold St.act
  split
  · show (st.tr ++ [_]).length ≤ _; simp
  · exact Nat.le_succ _

theorem St.rnd_most (k : Nat) (st : St) (i most : Nat) : St.rnd k st i most most = (st, most) := by
  cases k with
  | zero => rfl
  | succ k => show (if most = most then _ else _) = _; rw [if_pos rfl]
theorem St.rnd_dead {k : Nat} {st : St} {i n most : Nat} (h : n ≠ most) (hd : st.dead i = true) : St.rnd (k + 1) st i n most = St.rnd k st (i + 1) n most := by
  show (if n = most then _ else _) = _
  rw [if_neg h, if_pos hd]
theorem St.rnd_end {k : Nat} {st : St} {i n most : Nat} (h : n ≠ most) (hd : st.dead i = false) (hn : (st.ms i).next = none) : St.rnd (k + 1) st i n most = St.rnd k st (i + 1) n most := by
  show (if n = most then _ else _) = _
  rw [if_neg h, if_neg (by rw [hd]; simp), hn]
theorem St.rnd_act {k : Nat} {st : St} {i n most : Nat} {a : Ac} (h : n ≠ most) (hd : st.dead i = false) (hn : (st.ms i).next = some a) : St.rnd (k + 1) st i n most = St.rnd k (st.act i a) (i + 1) (n + 1) most := by
  show (if n = most then _ else _) = _
  rw [if_neg h, if_neg (by rw [hd]; simp), hn]

/-- A step by the state alone: the event is told. -/
theorem step_act {w : World} {o : Nat → Pt} {gw ga gb hb : Nat} {ax : Nat → Value} {tv : Value} {ts : List Tx} {st : St} (h : Sw w o gw ga gb hb ax tv ts st) (i : Nat) (hi : i < st.na) (a : Ac) (hn : (st.ms i).next = some a)
    {base : Nat} {A : Option Addr} {l cp : Nat} (ho : Owns base w (.slice A l cp) a.bs) (hbase : ∀ k, o k ≠ .no → k < base) (hlong : ts.length ≤ 1000000) :
    Calls Tryz.prog 53 #[.pointer (some ⟨gw, 0, none⟩), .agg #[.int .i64 0, .int .i64 (i : Nat), .int .i64 0], .agg #[.int .i64 a.K, .int .i64 a.P, .int .i64 a.N, .int .u64 a.V, .int .u64 a.U, .slice A l cp]] w
      fun e w' => (∃ v r, e = .returned (.tuple #[.agg v, .int .i64 r])) ∧ ∃ o' tv' ts', Sw w' o' gw ga gb hb ax tv' ts' (st.act i a) ∧ Touch (Own o) w w' ∧ ∀ k, k < w.heap.size → o' k = o k := by
  unfold St.act
  by_cases h0 : a.err st.nw = 0
  · rw [if_pos h0]
    refine (step_ok h ⟨0, (i : Nat), 0⟩ i rfl hi a ((h.mach i hi).fine hn) hn ho hbase h0 hlong).mono ?_
    rintro e w' ⟨o', A2, l2, c2, tv', ts', he, _, hs, ht, ho'⟩
    exact ⟨⟨_, _, he⟩, o', tv', ts', hs, ht, ho'⟩
  · rw [if_neg h0]
    refine (step_no h ⟨0, (i : Nat), 0⟩ i rfl hi a ho h0).mono ?_
    rintro e w' ⟨he, hs, ht⟩
    exact ⟨⟨_, _, he⟩, o, tv, ts, hs, ht, fun _ _ => rfl⟩

set_option maxRecDepth 100000 in
set_option maxHeartbeats 4000000 in
theorem round_any {w : World} {o : Nat → Pt} {gw ga gb hb : Nat} {ax : Nat → Value} {tv : Value} {ts : List Tx} {st : St} (h : Sw w o gw ga gb hb ax tv ts st) (most : Nat) (hlong : st.tr.length + most ≤ 1000000) :
    Calls Tryz.prog 26 #[.pointer (some ⟨gw, 0, none⟩), .int .i64 most] w
      fun e w' => e = .returned (.int .i64 (St.rnd st.na st 0 0 most).2) ∧ ∃ o' tv' ts', Sw w' o' gw ga gb hb ax tv' ts' (St.rnd st.na st 0 0 most).1 ∧ Touch (Own o) w w' ∧ ∀ k, k < w.heap.size → o' k = o k := by
  have hc1 := h.w1
  have hfew := h.few
  have HS := Lib.hid h
  obtain ⟨res, hres⟩ : ∃ res, St.rnd st.na st 0 0 most = res := ⟨_, rfl⟩
  rw [hres]
  have HRES := Lib.hid hres
  have hmost : most ≤ 1000000 := by omega
  have HL := Lib.hid hlong
  clear h hres hlong
  go_enter Tryz.func26, Tryz.ntmps26
  go_wp2
  go_loopw [17, 5] (fun t17 t5 wr => ∃ (i n : Nat) (o1 : Nat → Pt) (tv1 : Value) (ts1 : List Tx) (st1 : St), t17 = .int .i64 i ∧ t5 = .int .i64 n ∧ i ≤ st.na ∧ n ≤ most ∧ st1.na = st.na ∧ Sw wr o1 gw ga gb hb ax tv1 ts1 st1 ∧ St.rnd (st.na - i) st1 i n most = res ∧ st1.tr.length + (most - n) ≤ 1000000 ∧ Touch (Own o) w wr ∧ ∀ k, k < w.heap.size → o1 k = o k) (fun t17 _ _ => st.na - (intOf t17).toNat)
  case atStart => exact ⟨0, 0, o, tv, ts, st, rfl, rfl, Nat.zero_le _, Nat.zero_le _, rfl, HS.out, HRES.out, HL.out, Touch.refl _ _, fun _ _ => rfl⟩
  case round =>
    obtain ⟨i, n, o1, tv1, ts1, st1, rfl, rfl, hi, hn, hna, hsw, heq, hlen, htt, hoo⟩ := hrel
    have HSW := Lib.hid hsw
    have HEQ := Lib.hid heq
    have HLEN := Lib.hid hlen
    have HTT := Lib.hid (And.intro htt hoo)
    have HNA := Lib.hid hna
    clear htt hoo heq hlen
    by_cases hlt : i < st.na
    · have hm := hsw.amach (i := i) (by omega)
      have hd := hsw.adead (i := i) (by omega)
      have HMR := Lib.hid (hsw.mach i (by omega))
      generalize hx : ax i = x at hm HMR
      have HX := Lib.hid hx
      clear hsw hx hna
      by_cases hnm : n = most
      · subst hnm
        have he := HEQ.out
        rw [St.rnd_most] at he
        have HE2 := Lib.hid he
        clear he
        rcases HMR.out.shape with ⟨rfl, _⟩ | ⟨T, y, rfl⟩
        all_goals
          go_wp2
          go_ret
          exact ⟨by rw [← HE2.out]; rfl, o1, tv1, ts1, by rw [← HE2.out]; exact HSW.out.alloc _, HTT.out.1.alloc _, HTT.out.2⟩
      · have hnm2 : ¬ (n : Int) = most := by omega
        have HNM := Lib.hid hnm
        clear hnm
        cases hdd : st1.dead i with
        | true =>
          rw [hdd] at hd
          have HDD := Lib.hid hdd
          clear hdd
          rcases HMR.out.shape with ⟨rfl, _⟩ | ⟨T, y, rfl⟩
          all_goals
            go_wp2
            go_roundw
            case rel =>
              have he := HEQ.out
              rw [show st.na - i = (st.na - (i + 1)) + 1 by omega, St.rnd_dead HNM.out HDD.out] at he
              exact ⟨i + 1, n, o1, tv1, ts1, st1, by go_num, rfl, by omega, hn, HNA.out, HSW.out.alloc _, he, HLEN.out, HTT.out.1.alloc _, HTT.out.2⟩
            case measure => simp [intOf]; omega
        | false =>
          rw [hdd] at hd
          have HDD := Lib.hid hdd
          clear hdd
          rcases HMR.out.shape with ⟨rfl, _⟩ | ⟨T, y, rfl⟩
          · skip
            have HBX := Lib.hid ((Below.refl wr.heap.size wr).alloc (Nat.le_refl _) (.cells #[.nilIface, .bool false] 87))
            have HNXT := Lib.hid (next_told (HMR.out.keep HBX.out.size fun k hk => HBX.out.block k (HSW.out.lt k (by rw [hk]; simp))) (fun k hk => Nat.lt_of_lt_of_le (HSW.out.lt k (by rw [hk]; simp)) HBX.out.size))
            have hna1 := HNA.out
            cases hnx : (st1.ms i).next with
            | none =>
              rw [hnx] at HNXT
              have HNX := Lib.hid hnx
              clear hnx
              go_wp2_with (go_at_call 52; refine HNXT.out.mono ?_; rintro e w2 ⟨hb2, he⟩; have he2 : e = .returned (.tuple #[.agg #[.int .i64 0, .int .i64 0, .int .i64 0, .int .u64 0, .int .u64 0, .slice none 0 0], .bool false]) := he; subst he2; have HB2 := Lib.hid hb2; clear hb2 he)
              go_roundw
              case rel =>
                have he := HEQ.out
                rw [show st.na - i = (st.na - (i + 1)) + 1 by omega, St.rnd_end HNM.out HDD.out HNX.out] at he
                have hbb := HBX.out.after HB2.out
                exact ⟨i + 1, n, o1, tv1, ts1, st1, by go_num, rfl, by omega, hn, HNA.out, (HSW.out.below hbb).alloc _, he, HLEN.out, (HTT.out.1.trans (Touch.of_below hbb)).alloc _, HTT.out.2⟩
              case measure => simp [intOf]; omega
            | some a =>
              rw [hnx] at HNXT
              have HNX := Lib.hid hnx
              clear hnx
              go_wp2_with (go_at_call 52; refine HNXT.out.mono ?_; rintro e w2 ⟨hb2, he⟩; obtain ⟨A, l, c, he2, ho⟩ := he; subst he2; have HB2 := Lib.hid (And.intro hb2 ho); clear hb2 ho)
              generalize hW3 : w2.alloc (.cells #[.int .i64 a.K, .int .i64 a.P, .int .i64 a.N, .int .u64 a.V, .int .u64 a.U, .slice A l c] 58) = W3
              have hb3 : Below w2.heap.size w2 W3 := by rw [← hW3]; exact (Below.refl _ w2).alloc (Nat.le_refl _) _
              have hbk : W3.heap[w2.heap.size]? = some (.cells #[.int .i64 a.K, .int .i64 a.P, .int .i64 a.N, .int .u64 a.V, .int .u64 a.U, .slice A l c] 58 (0, 0)) := by rw [← hW3]; exact Go.Deep.blk_alloc_new _ _
              have hbb := (HBX.out.after HB2.out.1).after hb3
              have HS3 := Lib.hid (HSW.out.below hbb)
              have HO3 := Lib.hid (HB2.out.2.below hb3)
              have hsx := HBX.out.size
              have hlst : st1.tr.length = ts1.length := by rw [HSW.out.told, List.length_map]
              have hlen := HLEN.out
              have HCL := Lib.hid (step_act HS3.out i (by omega) a HNX.out HO3.out (fun k hk => Nat.lt_of_lt_of_le (HSW.out.lt k hk) hsx) (by omega))
              have b0 : W3.cell? ⟨w2.heap.size, 0, none⟩ = some (.int .i64 a.K) := by simp [World.cell?, hbk]
              have b1 : W3.cell? ⟨w2.heap.size, 1, none⟩ = some (.int .i64 a.P) := by simp [World.cell?, hbk]
              have b2 : W3.cell? ⟨w2.heap.size, 2, none⟩ = some (.int .i64 a.N) := by simp [World.cell?, hbk]
              have b3 : W3.cell? ⟨w2.heap.size, 3, none⟩ = some (.int .u64 a.V) := by simp [World.cell?, hbk]
              have b4 : W3.cell? ⟨w2.heap.size, 4, none⟩ = some (.int .u64 a.U) := by simp [World.cell?, hbk]
              have b5 : W3.cell? ⟨w2.heap.size, 5, none⟩ = some (.slice A l c) := by simp [World.cell?, hbk]
              have HBB := Lib.hid hbb
              clear hW3 hbk hbb hb3
              go_wp2_with (go_at_call 53; refine HCL.out.mono ?_; rintro e w9 ⟨⟨v9, r9, he9⟩, ho9⟩; subst he9; have HO9 := Lib.hid ho9; clear ho9)
              go_roundw
              case rel =>
                have he := HEQ.out
                rw [show st.na - i = (st.na - (i + 1)) + 1 by omega, St.rnd_act HNM.out HDD.out HNX.out] at he
                obtain ⟨o9, tv9, ts9, z1, z2, z3⟩ := HO9.out
                have hall := own_trans (HTT.out.1.trans (Touch.of_below HBB.out)) HTT.out.2 z2 z3
                exact ⟨i + 1, n + 1, o9, tv9, ts9, st1.act i a, by go_num, by go_num, by omega, by omega, by rw [St.act_na]; exact HNA.out, z1, he, by have := St.act_tr st1 i a; omega, hall.1, hall.2⟩
              case measure => simp [intOf]; omega
          · skip
            have HBX := Lib.hid ((Below.refl wr.heap.size wr).alloc (Nat.le_refl _) (.cells #[.iface T y, .bool false] 87))
            have HNXT := Lib.hid (next_told (HMR.out.keep HBX.out.size fun k hk => HBX.out.block k (HSW.out.lt k (by rw [hk]; simp))) (fun k hk => Nat.lt_of_lt_of_le (HSW.out.lt k (by rw [hk]; simp)) HBX.out.size))
            have hna1 := HNA.out
            cases hnx : (st1.ms i).next with
            | none =>
              rw [hnx] at HNXT
              have HNX := Lib.hid hnx
              clear hnx
              go_wp2_with (go_at_call 52; refine HNXT.out.mono ?_; rintro e w2 ⟨hb2, he⟩; have he2 : e = .returned (.tuple #[.agg #[.int .i64 0, .int .i64 0, .int .i64 0, .int .u64 0, .int .u64 0, .slice none 0 0], .bool false]) := he; subst he2; have HB2 := Lib.hid hb2; clear hb2 he)
              go_roundw
              case rel =>
                have he := HEQ.out
                rw [show st.na - i = (st.na - (i + 1)) + 1 by omega, St.rnd_end HNM.out HDD.out HNX.out] at he
                have hbb := HBX.out.after HB2.out
                exact ⟨i + 1, n, o1, tv1, ts1, st1, by go_num, rfl, by omega, hn, HNA.out, (HSW.out.below hbb).alloc _, he, HLEN.out, (HTT.out.1.trans (Touch.of_below hbb)).alloc _, HTT.out.2⟩
              case measure => simp [intOf]; omega
            | some a =>
              rw [hnx] at HNXT
              have HNX := Lib.hid hnx
              clear hnx
              go_wp2_with (go_at_call 52; refine HNXT.out.mono ?_; rintro e w2 ⟨hb2, he⟩; obtain ⟨A, l, c, he2, ho⟩ := he; subst he2; have HB2 := Lib.hid (And.intro hb2 ho); clear hb2 ho)
              generalize hW3 : w2.alloc (.cells #[.int .i64 a.K, .int .i64 a.P, .int .i64 a.N, .int .u64 a.V, .int .u64 a.U, .slice A l c] 58) = W3
              have hb3 : Below w2.heap.size w2 W3 := by rw [← hW3]; exact (Below.refl _ w2).alloc (Nat.le_refl _) _
              have hbk : W3.heap[w2.heap.size]? = some (.cells #[.int .i64 a.K, .int .i64 a.P, .int .i64 a.N, .int .u64 a.V, .int .u64 a.U, .slice A l c] 58 (0, 0)) := by rw [← hW3]; exact Go.Deep.blk_alloc_new _ _
              have hbb := (HBX.out.after HB2.out.1).after hb3
              have HS3 := Lib.hid (HSW.out.below hbb)
              have HO3 := Lib.hid (HB2.out.2.below hb3)
              have hsx := HBX.out.size
              have hlst : st1.tr.length = ts1.length := by rw [HSW.out.told, List.length_map]
              have hlen := HLEN.out
              have HCL := Lib.hid (step_act HS3.out i (by omega) a HNX.out HO3.out (fun k hk => Nat.lt_of_lt_of_le (HSW.out.lt k hk) hsx) (by omega))
              have b0 : W3.cell? ⟨w2.heap.size, 0, none⟩ = some (.int .i64 a.K) := by simp [World.cell?, hbk]
              have b1 : W3.cell? ⟨w2.heap.size, 1, none⟩ = some (.int .i64 a.P) := by simp [World.cell?, hbk]
              have b2 : W3.cell? ⟨w2.heap.size, 2, none⟩ = some (.int .i64 a.N) := by simp [World.cell?, hbk]
              have b3 : W3.cell? ⟨w2.heap.size, 3, none⟩ = some (.int .u64 a.V) := by simp [World.cell?, hbk]
              have b4 : W3.cell? ⟨w2.heap.size, 4, none⟩ = some (.int .u64 a.U) := by simp [World.cell?, hbk]
              have b5 : W3.cell? ⟨w2.heap.size, 5, none⟩ = some (.slice A l c) := by simp [World.cell?, hbk]
              have HBB := Lib.hid hbb
              clear hW3 hbk hbb hb3
              go_wp2_with (go_at_call 53; refine HCL.out.mono ?_; rintro e w9 ⟨⟨v9, r9, he9⟩, ho9⟩; subst he9; have HO9 := Lib.hid ho9; clear ho9)
              go_roundw
              case rel =>
                have he := HEQ.out
                rw [show st.na - i = (st.na - (i + 1)) + 1 by omega, St.rnd_act HNM.out HDD.out HNX.out] at he
                obtain ⟨o9, tv9, ts9, z1, z2, z3⟩ := HO9.out
                have hall := own_trans (HTT.out.1.trans (Touch.of_below HBB.out)) HTT.out.2 z2 z3
                exact ⟨i + 1, n + 1, o9, tv9, ts9, st1.act i a, by go_num, by go_num, by omega, by omega, by rw [St.act_na]; exact HNA.out, z1, he, by have := St.act_tr st1 i a; omega, hall.1, hall.2⟩
              case measure => simp [intOf]; omega
    · obtain rfl : i = st.na := by omega
      have he := HEQ.out
      rw [Nat.sub_self] at he
      have HE2 : Hid ((st1, n) = res) := Lib.hid he
      clear he
      go_wp2
      go_ret
      exact ⟨by rw [← HE2.out]; rfl, o1, tv1, ts1, by rw [← HE2.out]; exact HSW.out, HTT.out⟩
end Go.Proofs.YtbfgbnalnjdheaaGreat
namespace Go.Proofs.YtbfgbnalnjdheaaGreat
open Go.RowKit

/-- Rounds, as long as somebody does something and fewer than 'most' steps were done. -/
def St.rob : Nat → St → Nat → Nat → St × Nat
  | 0, st, n, _ => (st, n)
  | f + 1, st, n, most =>
    if n < most then (if (St.rnd st.na st 0 0 (most - n)).2 = 0 then ((St.rnd st.na st 0 0 (most - n)).1, n) else St.rob f (St.rnd st.na st 0 0 (most - n)).1 (n + (St.rnd st.na st 0 0 (most - n)).2) most)
    else (st, n)
/-- Robin: the state, how many steps were done. -/
def St.robin (st : St) (most : Nat) : St × Nat := St.rob most st 0 most

theorem St.rnd_facts (k : Nat) : ∀ (st : St) (i n most : Nat), n ≤ most → n ≤ (St.rnd k st i n most).2 ∧ (St.rnd k st i n most).2 ≤ most ∧ (St.rnd k st i n most).1.tr.length ≤ st.tr.length + ((St.rnd k st i n most).2 - n) ∧ (St.rnd k st i n most).1.na = st.na := by
  induction k with
  | zero => exact fun st i n most h => ⟨Nat.le_refl _, h, Nat.le_add_right _ _, rfl⟩
  | succ k ih =>
    intro st i n most h
    by_cases hnm : n = most
    · subst hnm
      rw [St.rnd_most]
      exact ⟨Nat.le_refl _, Nat.le_refl _, Nat.le_add_right _ _, rfl⟩
    · cases hd : st.dead i with
      | true => rw [St.rnd_dead hnm hd]; exact ih st (i + 1) n most h
      | false =>
        cases hn : (st.ms i).next with
        | none => rw [St.rnd_end hnm hd hn]; exact ih st (i + 1) n most h
        | some a =>
          rw [St.rnd_act hnm hd hn]
          obtain ⟨h1, h2, h3, h4⟩ := ih (st.act i a) (i + 1) (n + 1) most (by omega)
          have h5 := St.act_tr st i a
          exact ⟨by omega, h2, by omega, h4.trans (St.act_na st i a)⟩

theorem St.rob_end (f : Nat) (st : St) (n most : Nat) (h : ¬ n < most) : St.rob f st n most = (st, n) := by
  cases f with
  | zero => rfl
  | succ f => show (if n < most then _ else _) = _; rw [if_neg h]
theorem St.rob_idle (f : Nat) (st : St) (n most : Nat) (h : n < most) (h0 : (St.rnd st.na st 0 0 (most - n)).2 = 0) : St.rob (f + 1) st n most = ((St.rnd st.na st 0 0 (most - n)).1, n) := by
  show (if n < most then _ else _) = _
  rw [if_pos h, if_pos h0]
theorem St.rob_next (f : Nat) (st : St) (n most : Nat) (h : n < most) (h0 : ¬ (St.rnd st.na st 0 0 (most - n)).2 = 0) : St.rob (f + 1) st n most = St.rob f (St.rnd st.na st 0 0 (most - n)).1 (n + (St.rnd st.na st 0 0 (most - n)).2) most := by
  show (if n < most then _ else _) = _
  rw [if_pos h, if_neg h0]

set_option maxRecDepth 100000 in
set_option maxHeartbeats 2000000 in
theorem robin_any {w : World} {o : Nat → Pt} {gw ga gb hb : Nat} {ax : Nat → Value} {tv : Value} {ts : List Tx} {st : St} (h : Sw w o gw ga gb hb ax tv ts st) (most : Nat) (hlong : st.tr.length + most ≤ 1000000) :
    Calls Tryz.prog 10 #[.pointer (some ⟨gw, 0, none⟩), .int .i64 most] w
      fun e w' => e = .returned (.int .i64 (st.robin most).2) ∧ ∃ o' tv' ts', Sw w' o' gw ga gb hb ax tv' ts' (st.robin most).1 ∧ Touch (Own o) w w' ∧ ∀ k, k < w.heap.size → o' k = o k := by
  have HS := Lib.hid h
  obtain ⟨res, hres⟩ : ∃ res, St.rob most st 0 most = res := ⟨_, rfl⟩
  unfold St.robin
  rw [hres]
  have HRES := Lib.hid hres
  have hmost : most ≤ 1000000 := by omega
  have HL := Lib.hid hlong
  clear h hres hlong
  go_enter Tryz.func10, Tryz.ntmps10
  go_wp2
  go_loopw [5] (fun t5 wr => ∃ (f n : Nat) (o1 : Nat → Pt) (tv1 : Value) (ts1 : List Tx) (st1 : St), t5 = .int .i64 n ∧ n ≤ most ∧ most - n ≤ f ∧ Sw wr o1 gw ga gb hb ax tv1 ts1 st1 ∧ St.rob f st1 n most = res ∧ st1.tr.length + (most - n) ≤ 1000000 ∧ Touch (Own o) w wr ∧ ∀ k, k < w.heap.size → o1 k = o k) (fun t5 _ => most - (intOf t5).toNat)
  case atStart => exact ⟨most, 0, o, tv, ts, st, rfl, Nat.zero_le _, Nat.le_refl _, HS.out, HRES.out, HL.out, Touch.refl _ _, fun _ _ => rfl⟩
  case round =>
    obtain ⟨f, n, o1, tv1, ts1, st1, rfl, hn, hf, hsw, heq, hlen, htt, hoo⟩ := hrel
    have HSW := Lib.hid hsw
    have HEQ := Lib.hid heq
    have HLEN := Lib.hid hlen
    have HTT := Lib.hid (And.intro htt hoo)
    clear htt hoo heq hlen hsw
    by_cases hlt : n < most
    · have hsub : IntKind.i64.wrap ((most : Int) - n) = ((most - n : Nat) : Int) := by rw [IntWalk.i64_in _ (by omega)]; omega
      obtain ⟨rr, hrr⟩ : ∃ rr, St.rnd st1.na st1 0 0 (most - n) = rr := ⟨_, rfl⟩
      have hfa := St.rnd_facts st1.na st1 0 0 (most - n) (Nat.zero_le _)
      have hro := round_any HSW.out (most - n) HLEN.out
      rw [hrr] at hfa hro
      have HRO := Lib.hid hro
      have HRR := Lib.hid hrr
      have hd2 := hfa.2.1
      have HFA := Lib.hid hfa
      clear hro hrr hfa
      obtain ⟨d, hd⟩ : ∃ d, rr.2 = d := ⟨_, rfl⟩
      rw [hd] at HRO hd2
      have HD := Lib.hid hd
      clear hd
      obtain ⟨f, rfl⟩ : ∃ f', f = f' + 1 := ⟨f - 1, by omega⟩
      by_cases h0 : d = 0
      · subst h0
        go_wp2_with (go_at_call 26; refine HRO.out.mono ?_; rintro e w2 ⟨rfl, ho⟩; have HO := Lib.hid ho; clear ho)
        go_ret
        have he := HEQ.out
        rw [St.rob_idle _ _ _ _ hlt (by rw [HRR.out]; exact HD.out), HRR.out] at he
        obtain ⟨o9, tv9, ts9, z1, z2, z3⟩ := HO.out
        have hall := own_trans HTT.out.1 HTT.out.2 z2 z3
        exact ⟨by rw [← he]; rfl, o9, tv9, ts9, by rw [← he]; exact z1, hall.1, hall.2⟩
      · have h0i : ¬ (d : Int) = 0 := by omega
        go_wp2_with (go_at_call 26; refine HRO.out.mono ?_; rintro e w2 ⟨rfl, ho⟩; have HO := Lib.hid ho; clear ho)
        go_roundw
        case rel =>
          have he := HEQ.out
          rw [St.rob_next _ _ _ _ hlt (by rw [HRR.out, HD.out]; exact h0), HRR.out, HD.out] at he
          obtain ⟨o9, tv9, ts9, z1, z2, z3⟩ := HO.out
          have hall := own_trans HTT.out.1 HTT.out.2 z2 z3
          have hl1 := HLEN.out
          have hl2 := HFA.out.2.2.1
          rw [HD.out] at hl2
          exact ⟨f, n + d, o9, tv9, ts9, rr.1, by go_num, by omega, by omega, z1, he, by omega, hall.1, hall.2⟩
        case measure => simp [intOf]; omega
    · obtain rfl : n = most := by omega
      have he := HEQ.out
      rw [St.rob_end _ _ _ _ hlt] at he
      have HE2 := Lib.hid he
      clear he
      go_wp2
      go_ret
      exact ⟨by rw [← HE2.out]; rfl, o1, tv1, ts1, by rw [← HE2.out]; exact HSW.out, HTT.out⟩
end Go.Proofs.YtbfgbnalnjdheaaGreat
namespace Go.Proofs.YtbfgbnalnjdheaaGreat
open Go.RowKit

/-- A slice of n machines stands in memory: the interfaces' values. -/
def MachsAt (w : World) (A : Option Addr) (n : Nat) (xs : Nat → Value) : Prop := 0 < n → ∃ b, A = some ⟨b, 0, none⟩ ∧ b < w.heap.size ∧ ∀ i, i < n → w.cell? ⟨b, i, none⟩ = some (xs i)

theorem MachsAt.below {w w' : World} {A : Option Addr} {n : Nat} {xs : Nat → Value} (h : MachsAt w A n xs) (hb : Below w.heap.size w w') : MachsAt w' A n xs := fun hp => by
  obtain ⟨b, e, hl, hc⟩ := h hp
  exact ⟨b, e, Nat.lt_of_lt_of_le hl hb.size, fun i hi => (hb.cell (p := ⟨b, i, none⟩) hl).trans (hc i hi)⟩

/-- A new scheduler's state. -/
def St.made (n : Nat) (ms : Nat → Mc) (m : Nat → Nat) (nw : Nat) (c : Int) : St := ⟨n, ms, fun _ => false, m, nw, c, 0, []⟩

/-- A scheduler was made. -/
def MadeSw (o : Nat → Pt) (gb hb : Nat) (xs : Nat → Value) (st : St) (w : World) (e : Ending) (w' : World) : Prop :=
  ∃ gw ga o', e = .returned (.pointer (some ⟨gw, 0, none⟩)) ∧ w.heap.size ≤ gw ∧ Sw w' o' gw ga gb hb xs (.slice none 0 0) [] st ∧ Below w.heap.size w w' ∧ ∀ k, k < w.heap.size → o' k = o k

theorem infoActor : (Tryz.prog.info? 87).map (fun i => (i.zero, i.size, i.bytes)) = some (some (.agg #[.nilIface, .bool false]), 2, 24) := by kernel_rfl

theorem make_actors (n : Nat) (hn : n ≤ 1000) (W : World) :
    (Instr.makeSlice 80 (.int .i64 (n : Int)) (.int .i64 (n : Int))).run Tryz.prog W = .ok (.slice (some ⟨W.heap.size, 0, none⟩) n n) (W.alloc (.cells (madeCells #[.nilIface, .bool false] (n * 2)) 87)) := by
  obtain ⟨i, hi, hz, hs, hby⟩ := info_parts infoActor
  have hr := run_make (P := Tryz.prog) W 80 87 i (.agg #[.nilIface, .bool false]) Tryz.underlying80 hi hz .i64 .i64 (n : Int) (n : Int) (by omega) (Int.le_refl _) (by rw [hby]; omega) (by omega)
  rw [hs] at hr
  simpa [Value.cells] using hr

theorem made_actors (w : World) (n : Nat) : (w.alloc (.cells (madeCells #[.nilIface, .bool false] (n * 2)) 87)).rowIs w.heap.size 87 (2 * n) (acCell (fun _ => .nilIface) (fun _ => false)) :=
  ⟨_, Go.Deep.blk_alloc_new _ _, by rw [size_madeCells]; omega, fun i hi => by
    unfold acCell madeCells
    have hm : i % 2 < 2 := Nat.mod_lt _ (by decide)
    have hi2 : i < n * 2 := by omega
    simp [hi2]
    rcases Nat.mod_two_eq_zero_or_one i with e | e
    · simp [e]
    · simp [e]⟩

theorem acCell_set (ax : Nat → Value) (dead : Nat → Bool) (i : Nat) (x : Value) (j : Nat) : (if j = i * 2 then x else acCell ax dead j) = acCell (upd ax i x) dead j := by
  unfold acCell
  by_cases e : j = i * 2
  · subst e
    rw [if_pos rfl, if_pos (by omega), show i * 2 / 2 = i by omega, upd_same]
  · rw [if_neg e]
    by_cases e2 : j % 2 = 0
    · rw [if_pos e2, if_pos e2, upd_other _ _ _ (by omega)]
    · rw [if_neg e2, if_neg e2]

set_option maxRecDepth 100000 in
set_option maxHeartbeats 2000000 in
theorem schedNew_any {w : World} {o : Nat → Pt} {gb hb nw : Nat} {m : Nat → Nat} {c : Int} (B : Buf w gb hb m nw c) (A : Option Addr) (n cap : Nat) (xs : Nat → Value) (ms : Nat → Mc) (hn : n ≤ 1000) (hcap : n ≤ cap) (hcap2 : cap ≤ 9223372036854775807) (hl : MachsAt w A n xs)
    (hm : ∀ i, i < n → MRep w (fun k => o k = .ma i) (xs i) (ms i)) (hog : o gb = .bf) (hoh : o hb = .bf) (hlt : ∀ k, o k ≠ .no → k < w.heap.size) :
    Calls Tryz.prog 9 #[.pointer (some ⟨gb, 0, none⟩), .slice A n cap] w (MadeSw o gb hb xs (St.made n ms m nw c) w) := by
  have hmk := make_actors n hn
  have HH := Lib.hid (And.intro B (And.intro hm (And.intro hog (And.intro hoh hlt))))
  have HL := Lib.hid hl
  have HN := Lib.hid hn
  clear B hm hog hoh hlt hl
  have ha := made_actors w n
  have e1 : (w.alloc (.cells (madeCells #[.nilIface, .bool false] (n * 2)) 87)).heap.size = w.heap.size + 1 := by simp
  have HB1 := (Below.refl w.heap.size w).alloc (Nat.le_refl _) (.cells (madeCells #[.nilIface, .bool false] (n * 2)) 87)
  go_enter Tryz.func9, Tryz.ntmps9
  go_wp2
  generalize hW1 : w.alloc (.cells (madeCells #[.nilIface, .bool false] (n * 2)) 87) = W1 at *
  have hh := Go.Deep.blk_alloc_new W1 (.cells #[.pointer (some ⟨gb, 0, none⟩), .slice (some ⟨w.heap.size, 0, none⟩) n n, .int .i64 0, .slice none 0 0] 83)
  rw [e1] at hh
  have ha2 := ha.alloc (.cells #[.pointer (some ⟨gb, 0, none⟩), .slice (some ⟨w.heap.size, 0, none⟩) n n, .int .i64 0, .slice none 0 0] 83)
  have HB2 := HB1.alloc HB1.size (.cells #[.pointer (some ⟨gb, 0, none⟩), .slice (some ⟨w.heap.size, 0, none⟩) n n, .int .i64 0, .slice none 0 0] 83)
  generalize W1.alloc (.cells #[.pointer (some ⟨gb, 0, none⟩), .slice (some ⟨w.heap.size, 0, none⟩) n n, .int .i64 0, .slice none 0 0] 83) = W2 at hh ha2 HB2 ⊢
  have HST := Lib.hid (And.intro hh (And.intro ha2 HB2))
  clear hmk hW1 ha HB1 hh ha2 HB2
  go_loopw [16] (fun t16 wr => ∃ (i : Nat) (ax : Nat → Value), t16 = .int .i64 i ∧ i ≤ n ∧ (∀ j, j < i → ax j = xs j) ∧ wr.heap[w.heap.size + 1]? = some (.cells #[.pointer (some ⟨gb, 0, none⟩), .slice (some ⟨w.heap.size, 0, none⟩) n n, .int .i64 0, .slice none 0 0] 83 (0, 0)) ∧ wr.rowIs w.heap.size 87 (2 * n) (acCell ax (fun _ => false)) ∧ Below w.heap.size w wr) (fun t16 _ => n - (intOf t16).toNat)
  case atStart => exact ⟨0, _, rfl, Nat.zero_le _, fun j hj => absurd hj (Nat.not_lt_zero _), HST.out.1, HST.out.2.1, HST.out.2.2⟩
  case round =>
    obtain ⟨i, ax, rfl, hi, hax, hhd, hrow, hbw⟩ := hrel
    have HAX := Lib.hid hax
    have HHD := Lib.hid (And.intro hhd (And.intro hrow hbw))
    by_cases hlt : i < n
    · obtain ⟨bl, rfl, hbl, hcl⟩ := HL.out (by omega)
      have hcx := (hbw.cell (p := ⟨bl, i, none⟩) hbl).trans (hcl i hlt)
      have hc1 : wr.cell? ⟨w.heap.size + 1, 1, none⟩ = some (.slice (some ⟨w.heap.size, 0, none⟩) n n) := by simp [World.cell?, hhd]
      have hr0 := hrow.cell (i := i * 2) (by omega)
      have hf0 := hrow.frozen (i * 2)
      have hsh := (HH.out.2.1 i hlt).shape
      generalize hx : xs i = x at hcx hsh
      have HX := Lib.hid hx
      clear hax hhd hrow hbw hcl hx
      rcases hsh with ⟨rfl, _⟩ | ⟨T, y, rfl⟩
      all_goals
        go_wp2
        go_roundw
        case rel =>
          refine ⟨i + 1, upd ax i (xs i), by go_num, by omega, fun j hj => ?_, blkF HHD.out.1 (by omega) _, (HHD.out.2.1.set (i * 2) _).congr fun j _ => ?_, HHD.out.2.2.setCell (p := ⟨w.heap.size, i * 2, none⟩) (Nat.le_refl _) _⟩
          · by_cases e : j = i
            · subst e; exact upd_same _ _ _
            · rw [upd_other _ _ _ e]; exact HAX.out j (by omega)
          · rw [HX.out]; exact acCell_set _ _ _ _ _
        case measure => simp [intOf]; omega
    · obtain rfl : i = n := by omega
      clear hax hhd hrow hbw
      go_wp2
      go_ret
      obtain ⟨hhd, hrow, hbw⟩ := HHD.out
      obtain ⟨B, hm, hog, hoh, hlk⟩ := HH.out
      have hsz := (Array.getElem?_eq_some_iff.1 hhd).1
      have hold : ∀ k, k < w.heap.size → claimed (claimed o w.heap.size (fun k => k = w.heap.size) .ac) w.heap.size (fun k => k = w.heap.size + 1) .wd k = o k := fun k hk => (claimed_old hk).trans (claimed_old hk)
      refine ⟨w.heap.size + 1, w.heap.size, claimed (claimed o w.heap.size (fun k => k = w.heap.size) .ac) w.heap.size (fun k => k = w.heap.size + 1) .wd, rfl, Nat.le_succ _, ⟨hhd, hrow.congr fun j hj => ?_, B.below hbw, fun j hj => ?_, ⟨World.ownsRow_nil _ _ _ _, fun t ht => absurd ht (by simp), fun k hk => absurd hk (by simp [Value.ownBlock])⟩, rfl, claimed_new (Nat.le_succ _) rfl, (claimed_not fun e => by omega).trans (claimed_new (Nat.le_refl _) rfl), (hold gb B.g_lt).trans hog, (hold hb B.h_lt).trans hoh, fun k hk => ?_, HN.out, fun e he => absurd he (by simp [St.made])⟩, hbw, hold⟩
      · unfold acCell
        by_cases e : j % 2 = 0
        · rw [if_pos e, if_pos e]; exact HAX.out _ (by omega)
        · rw [if_neg e, if_neg e]; rfl
      · exact ((hm j hj).keep hbw.size fun k hk => hbw.block k (hlk k (by rw [hk]; simp))).mono fun k hk => (hold k (hlk k (by rw [hk]; simp))).trans hk
      · by_cases e : w.heap.size ≤ k ∧ k = w.heap.size + 1
        · omega
        · rw [claimed_not e] at hk
          by_cases e2 : w.heap.size ≤ k ∧ k = w.heap.size
          · omega
          · rw [claimed_not e2] at hk
            have := hlk k hk
            omega
end Go.Proofs.YtbfgbnalnjdheaaGreat
namespace Go.Proofs.YtbfgbnalnjdheaaGreat
open Go.RowKit

/-- A scheduler stands; all that was below stands as it was. -/
structure Stood (w0 w : World) (o : Nat → Pt) (gw ga gb hb : Nat) (ax : Nat → Value) (st : St) : Prop where
  sw : ∃ tv ts, Sw w o gw ga gb hb ax tv ts st
  low : Below w0.heap.size w0 w
  out : ∀ k, k < w0.heap.size → o k = .no

namespace Stood
variable {w0 w w' : World} {o o' : Nat → Pt} {gw ga gb hb : Nat} {ax : Nat → Value} {st st' : St}
theorem below (h : Stood w0 w o gw ga gb hb ax st) (hb' : Below w.heap.size w w') : Stood w0 w' o gw ga gb hb ax st := by
  obtain ⟨⟨tv, ts, hs⟩, h1, h2⟩ := h
  exact ⟨⟨tv, ts, hs.below hb'⟩, h1.trans (hb'.mono h1.size), h2⟩
theorem alloc (h : Stood w0 w o gw ga gb hb ax st) (q : Obj) : Stood w0 (w.alloc q) o gw ga gb hb ax st := h.below ((Below.refl _ _).alloc (Nat.le_refl _) q)
theorem after (h : Stood w0 w o gw ga gb hb ax st) (ht : Touch (Own o) w w') (hs : ∃ tv ts, Sw w' o' gw ga gb hb ax tv ts st') (ho : ∀ k, k < w.heap.size → o' k = o k) : Stood w0 w' o' gw ga gb hb ax st' :=
  ⟨hs, ⟨ht.os.trans h.low.os, ht.tape.trans h.low.tape, ht.output.trans h.low.output, Nat.le_trans h.low.size ht.size, fun k hk => (ht.block k (Nat.lt_of_lt_of_le hk h.low.size) fun e => e (h.out k hk)).trans (h.low.block k hk)⟩,
    fun k hk => (ho k (Nat.lt_of_lt_of_le hk h.low.size)).trans (h.out k hk)⟩
theorem new_no (h : Stood w0 w o gw ga gb hb ax st) {k : Nat} (hk : w.heap.size ≤ k) : o k = .no := by
  obtain ⟨⟨tv, ts, hs⟩, _, _⟩ := h
  exact hs.new_no hk
end Stood

/-- A block that is nobody's keeps its cells. -/
theorem nobody_cell {w w' : World} {o : Nat → Pt} (ht : Touch (Own o) w w') {q : Addr} (hq : q.block < w.heap.size) (hn : o q.block = .no) : w'.cell? q = w.cell? q :=
  World.cell?_of_block (ht.block q.block hq fun e => e hn)
end Go.Proofs.YtbfgbnalnjdheaaGreat
namespace Go.Proofs.YtbfgbnalnjdheaaGreat
open Go.RowKit

/-- A scheduler of one machine x stands; but for the buffer's two blocks nothing has turned since w1. -/
def OneAt (w1 w : World) (gw g h : Nat) (x : Value) (st : St) : Prop :=
  ∃ ga o, (∃ tv ts, Sw w o gw ga g h (fun i => if i = 0 then x else .nilIface) tv ts st) ∧ Touch (Two g h) w1 w ∧ ∀ k, k < w1.heap.size → k ≠ g → k ≠ h → o k = .no

theorem OneAt.buf {w1 w : World} {gw g h : Nat} {x : Value} {st : St} (hs : OneAt w1 w gw g h x st) : Buf w g h st.m st.nw st.c := by
  obtain ⟨ga, o, ⟨tv, ts, hs⟩, _⟩ := hs
  exact hs.buf
theorem OneAt.mach {w1 w : World} {gw g h : Nat} {x : Value} {st : St} (hs : OneAt w1 w gw g h x st) (hn : 0 < st.na) : ∃ F : Nat → Prop, MRep w F x (st.ms 0) ∧ ∀ k, F k → k < w.heap.size := by
  obtain ⟨ga, o, ⟨tv, ts, hs⟩, _⟩ := hs
  have h0 := hs.mach 0 hn
  rw [if_pos rfl] at h0
  exact ⟨_, h0, fun k hk => hs.lt k (by rw [hk]; simp)⟩
theorem OneAt.touch {w1 w : World} {gw g h : Nat} {x : Value} {st : St} (hs : OneAt w1 w gw g h x st) : Touch (Two g h) w1 w := by
  obtain ⟨ga, o, _, ht, _⟩ := hs
  exact ht

theorem oneNew {w1 w3 : World} {g h : Nat} {m : Nat → Nat} {nw : Nat} {c : Int} (B : Buf w1 g h m nw c) {T0 : TypeId} {y : Value} {mc : Mc} (hp : MRep w3 (fun k => w1.heap.size ≤ k ∧ k < w3.heap.size) (.iface T0 y) mc) (hb3 : Below w1.heap.size w1 w3) :
    ∀ T, Calls Tryz.prog 9 #[.pointer (some ⟨g, 0, none⟩), .slice (some ⟨w3.heap.size, 0, none⟩) 1 1] (w3.alloc (.cells #[.iface T0 y] T)) fun e w' => ∃ gw, e = .returned (.pointer (some ⟨gw, 0, none⟩)) ∧ OneAt w1 w' gw g h (.iface T0 y) (St.made 1 (fun i => if i = 0 then mc else .none) m nw c) := by
  intro T
  have s3 := hb3.size
  have hgl := B.g_lt
  have hhl := B.h_lt
  have hba := (Below.refl w3.heap.size w3).alloc (Nat.le_refl _) (.cells #[.iface T0 y] T)
  have e0 : (w3.alloc (.cells #[.iface T0 y] T)).heap.size = w3.heap.size + 1 := by simp
  have x0 := Go.Deep.blk_alloc_new w3 (.cells #[.iface T0 y] T)
  generalize w3.alloc (.cells #[.iface T0 y] T) = w4 at *
  have B4 := (B.below hb3).below hba
  refine (schedNew_any B4 (some ⟨w3.heap.size, 0, none⟩) 1 1 (fun i => if i = 0 then .iface T0 y else .nilIface) (fun i => if i = 0 then mc else .none) (by decide) (by decide) (by decide)
    (fun _ => ⟨w3.heap.size, rfl, by omega, fun i hi => ?_⟩) (o := fun k => if k = g ∨ k = h then .bf else if w1.heap.size ≤ k ∧ k < w3.heap.size then .ma 0 else .no) (fun i hi => ?_) ?_ ?_ (fun k hk => ?_)).mono ?_
  · match i, hi with
    | 0, _ => simp [World.cell?, x0]
  · match i, hi with
    | 0, _ =>
      refine MRep.mono (F := fun k => w1.heap.size ≤ k ∧ k < w3.heap.size) (hp.keep hba.size fun k hk => hba.block k hk.2) fun k hk => ?_
      show (if _ then _ else _) = _
      rw [if_neg (by omega), if_pos hk]
  · exact if_pos (.inl rfl)
  · exact if_pos (.inr rfl)
  · by_cases e1 : k = g ∨ k = h
    · omega
    · rw [if_neg e1] at hk
      by_cases e2 : w1.heap.size ≤ k ∧ k < w3.heap.size
      · omega
      · rw [if_neg e2] at hk
        exact absurd rfl hk
  · rintro e w' ⟨gw, ga, o', rfl, _, hs, hbl, ho⟩
    have hbl2 : Below w3.heap.size w3 w' := hba.trans (hbl.mono (by omega))
    refine ⟨gw, rfl, ga, o', ⟨_, _, hs⟩, Touch.of_below (hb3.trans (hbl2.mono s3)), fun k hk hg hh => ?_⟩
    rw [ho k (by omega)]
    show (if _ then _ else _) = _
    rw [if_neg (by omega), if_neg (by omega)]

theorem oneRobin {w1 w : World} {gw g h : Nat} {x : Value} {st : St} (hs : OneAt w1 w gw g h x st) (most : Nat) (hlong : st.tr.length + most ≤ 1000000) :
    Calls Tryz.prog 10 #[.pointer (some ⟨gw, 0, none⟩), .int .i64 most] w fun e w' => e = .returned (.int .i64 (st.robin most).2) ∧ OneAt w1 w' gw g h x (st.robin most).1 := by
  obtain ⟨ga, o, ⟨tv, ts, hs⟩, ht, ho⟩ := hs
  refine (robin_any hs most hlong).mono ?_
  rintro e w' ⟨rfl, o', tv', ts', hs', ht', ho'⟩
  refine ⟨rfl, ga, o', ⟨tv', ts', hs'⟩, ⟨ht'.os.trans ht.os, ht'.tape.trans ht.tape, ht'.output.trans ht.output, Nat.le_trans ht.size ht'.size, fun k hk hn => (ht'.block k (Nat.lt_of_lt_of_le hk ht.size) fun e => ?_).trans (ht.block k hk hn)⟩, fun k hk hg hh => ?_⟩
  · have h0 := ho k hk (fun e => hn (.inl e)) (fun e => hn (.inr e))
    exact e h0
  · rw [ho' k (Nat.lt_of_lt_of_le hk ht.size)]
    exact ho k hk hg hh

theorem rg_cells (w : World) (B Z : Int) :
    (w.alloc (.cells #[.int .i64 B, .int .i64 Z] 25)).cell? ⟨w.heap.size, 0, none⟩ = some (.int .i64 B) ∧ (w.alloc (.cells #[.int .i64 B, .int .i64 Z] 25)).cell? ⟨w.heap.size, 1, none⟩ = some (.int .i64 Z) := by
  have h := Go.Deep.blk_alloc_new w (.cells #[.int .i64 B, .int .i64 Z] 25)
  refine ⟨?_, ?_⟩ <;> (unfold World.cell?; simp only [h]; rfl)
end Go.Proofs.YtbfgbnalnjdheaaGreat
namespace Go.Proofs.YtbfgbnalnjdheaaGreat
open Go.RowKit

/-- May a ring be? -/
def Rg.right (B Z : Int) : Prop := Wd.isP Z = true ∧ 64 ≤ Z ∧ Z ≤ 8192 ∧ 0 ≤ B ∧ B ≤ 131072 - Z - 32 ∧ B % 8 = 0
instance (B Z : Int) : Decidable (Rg.right B Z) := by unfold Rg.right; infer_instance

set_option maxRecDepth 100000 in
set_option maxHeartbeats 800000 in
theorem rpCheck (B Z : Int) (hB : -9223372036854775808 ≤ B ∧ B ≤ 9223372036854775807) (hZ : -9223372036854775808 ≤ Z ∧ Z ≤ 9223372036854775807) (w : World) :
    Calls Tryz.prog 17 #[.agg #[.int .i64 B, .int .i64 Z]] w (Made (.int .i64 (if Rg.right B Z then 0 else 1)) w) := by
  have hb0 := un_below w (.int .i64 B) (.int .i64 Z) 25
  have hx := Go.Deep.blk_alloc_new w (.cells #[.int .i64 B, .int .i64 Z] 25)
  obtain ⟨q, hq⟩ : ∃ q : Int, q = (if Rg.right B Z then 0 else 1) := ⟨_, rfl⟩
  rw [← hq]
  have HQ := Lib.hid hq
  clear hq
  go_enter Tryz.func17, Tryz.ntmps17
  go_upto_region 1 with (fail)
  generalize w.alloc (.cells #[.int .i64 B, .int .i64 Z] 25) = W at hb0 hx ⊢
  have x0 : W.cell? ⟨w.heap.size, 0, none⟩ = some (.int .i64 B) := by simp [World.cell?, hx]
  have x1 : W.cell? ⟨w.heap.size, 1, none⟩ = some (.int .i64 Z) := by simp [World.cell?, hx]
  clear hx
  cases hp : Wd.isP Z with
  | false =>
    have HP := Lib.hid hp
    clear hp
    go_wp2_with (go_at_call 37; refine (isPower_any Z _ (by omega) (by omega)).mono ?_; rintro e w2 ⟨rfl, rfl⟩; rw [HP.out])
    all_goals
      go_ret
      refine ⟨?_, hb0⟩
      rw [HQ.out, if_neg (fun h => by have := h.1; rw [HP.out] at this; cases this)]
      rfl
  | true =>
    have HP := Lib.hid hp
    clear hp
    go_wp2_with (go_at_call 37; refine (isPower_any Z _ (by omega) (by omega)).mono ?_; rintro e w2 ⟨rfl, rfl⟩; rw [HP.out])
    all_goals
      go_ret
      refine ⟨?_, hb0⟩
      rw [HQ.out]
      simp only [bne_eq_false_iff_eq, bne_iff_ne, ne_eq] at *
      first
        | (rw [if_pos ⟨HP.out, by omega, by omega, by omega, by omega, by omega⟩]; rfl)
        | (rw [if_neg (fun ⟨_, _, _, _, _, _⟩ => by omega)]; rfl)

theorem rp_need_aux (n : Nat) (h : n ≤ 131072) : sz (n : Int) 8 8 = 8 * (((n + 15) / 8 : Nat) : Int) := by
  unfold sz szOk Wd.al Wd.alOk
  have h1 : decide (0 ≤ (n : Int)) = true := by simp
  have h2 : decide ((n : Int) ≤ 131072) = true := by simp; omega
  have h3 : Wd.isP 8 = true := by decide
  have h4 : decide (0 ≤ (8 : Int) + n) = true := by simp; omega
  have h5 : decide ((8 : Int) + n ≤ 4611686018427387904) = true := by simp; omega
  rw [h1, h2, h3, h4, h5]
  simp only [Bool.and_self, if_true]
  omega

/-- A put was made: it stands in new memory. -/
def NewIs (m : Pm) (w : World) (e : Ending) (w' : World) : Prop :=
  ∃ g, e = .returned (.pointer (some ⟨g, 0, none⟩)) ∧ PmAt w' (fun k => w.heap.size ≤ k ∧ k < w'.heap.size) g m ∧ Below w.heap.size w w'

/-- The put that is made. -/
def Pm.new (B Z typ : Int) (f : Nat → Nat) (L : Nat) : Pm :=
  if ¬ Rg.right B Z ∨ typ < 1 then .dead 0 0 else if Z < 8 * (L : Int) then .dead Z 4 else .live ⟨B.toNat, Z.toNat, typ, f, L, 0, 0, 0, false, .ask, 0⟩

theorem new_dead (w W : World) (hb : Below w.heap.size w W) (B Z er : Int) : NewIs (.dead Z er) w (.returned (.pointer (some ⟨W.heap.size, 0, none⟩))) (W.alloc (.cells (PxCells B Z er) 78)) :=
  ⟨W.heap.size, rfl, ⟨⟨hb.size, by simp⟩, B, Go.Deep.blk_alloc_new _ _⟩, hb.alloc hb.size _⟩

set_option maxRecDepth 100000 in
set_option maxHeartbeats 800000 in
theorem rpNewBad (B Z typ : Int) (hB : -9223372036854775808 ≤ B ∧ B ≤ 9223372036854775807) (hZ : -9223372036854775808 ≤ Z ∧ Z ≤ 9223372036854775807) (hbad : ¬ Rg.right B Z) (A : Option Addr) (L c : Nat) (w : World) :
    Calls Tryz.prog 8 #[.agg #[.int .i64 B, .int .i64 Z], .int .i32 typ, .slice A L c] w (NewIs (.dead 0 0) w) := by
  have hb0 := un_below w (.int .i64 B) (.int .i64 Z) 25
  have hx := Go.Deep.blk_alloc_new w (.cells #[.int .i64 B, .int .i64 Z] 25)
  have HBZ := Lib.hid (And.intro hB hZ)
  have HN := Lib.hid hbad
  clear hB hZ hbad
  go_enter Tryz.func8, Tryz.ntmps8
  go_upto_region 1 with (fail)
  generalize w.alloc (.cells #[.int .i64 B, .int .i64 Z] 25) = W at hb0 hx ⊢
  have x0 : W.cell? ⟨w.heap.size, 0, none⟩ = some (.int .i64 B) := by simp [World.cell?, hx]
  have x1 : W.cell? ⟨w.heap.size, 1, none⟩ = some (.int .i64 Z) := by simp [World.cell?, hx]
  clear hx
  go_wp2_with (go_at_call 17; refine (rpCheck B Z HBZ.out.1 HBZ.out.2 W).mono ?_; rintro e w2 ⟨rfl, hb⟩; rw [if_neg HN.out])
  go_ret
  exact new_dead w w2 (hb0.trans (hb.mono hb0.size)) 0 0 0

set_option maxRecDepth 100000 in
set_option maxHeartbeats 800000 in
theorem rpNewTyp (B Z typ : Int) (hB : -9223372036854775808 ≤ B ∧ B ≤ 9223372036854775807) (hZ : -9223372036854775808 ≤ Z ∧ Z ≤ 9223372036854775807) (hok : Rg.right B Z) (htyp : typ < 1) (A : Option Addr) (L c : Nat) (w : World) :
    Calls Tryz.prog 8 #[.agg #[.int .i64 B, .int .i64 Z], .int .i32 typ, .slice A L c] w (NewIs (.dead 0 0) w) := by
  have hb0 := un_below w (.int .i64 B) (.int .i64 Z) 25
  have hx := Go.Deep.blk_alloc_new w (.cells #[.int .i64 B, .int .i64 Z] 25)
  have HBZ := Lib.hid (And.intro hB hZ)
  have HN := Lib.hid hok
  have hd : decide (typ < 1) = true := by simpa using htyp
  clear hB hZ hok
  go_enter Tryz.func8, Tryz.ntmps8
  go_upto_region 1 with (fail)
  generalize w.alloc (.cells #[.int .i64 B, .int .i64 Z] 25) = W at hb0 hx ⊢
  have x0 : W.cell? ⟨w.heap.size, 0, none⟩ = some (.int .i64 B) := by simp [World.cell?, hx]
  have x1 : W.cell? ⟨w.heap.size, 1, none⟩ = some (.int .i64 Z) := by simp [World.cell?, hx]
  clear hx
  go_wp2_with (go_at_call 17; refine (rpCheck B Z HBZ.out.1 HBZ.out.2 W).mono ?_; rintro e w2 ⟨rfl, hb⟩; rw [if_pos HN.out])
  go_ret
  exact new_dead w w2 (hb0.trans (hb.mono hb0.size)) 0 0 0

set_option maxRecDepth 100000 in
set_option maxHeartbeats 800000 in
theorem rpNewLong (B Z typ : Int) (hB : -9223372036854775808 ≤ B ∧ B ≤ 9223372036854775807) (hZ : -9223372036854775808 ≤ Z ∧ Z ≤ 9223372036854775807) (hok : Rg.right B Z) (htyp : ¬ typ < 1) (A : Option Addr) (L c : Nat) (hlong : Z < 8 * (L : Int)) (w : World) :
    Calls Tryz.prog 8 #[.agg #[.int .i64 B, .int .i64 Z], .int .i32 typ, .slice A L c] w (NewIs (.dead Z 4) w) := by
  have hb0 := un_below w (.int .i64 B) (.int .i64 Z) 25
  have hx := Go.Deep.blk_alloc_new w (.cells #[.int .i64 B, .int .i64 Z] 25)
  have HBZ := Lib.hid (And.intro hB hZ)
  have HN := Lib.hid hok
  have hd : decide (typ < 1) = false := by simpa using htyp
  have hz0 : 64 ≤ Z := hok.2.1
  have hz1 : Z ≤ 8192 := hok.2.2.1
  have hdl : Z / 8 < (L : Int) := by omega
  have hdd : decide (Z / 8 < (L : Int)) = true := by simpa using hdl
  clear hB hZ hok htyp hlong
  go_enter Tryz.func8, Tryz.ntmps8
  go_upto_region 1 with (fail)
  generalize w.alloc (.cells #[.int .i64 B, .int .i64 Z] 25) = W at hb0 hx ⊢
  have x0 : W.cell? ⟨w.heap.size, 0, none⟩ = some (.int .i64 B) := by simp [World.cell?, hx]
  have x1 : W.cell? ⟨w.heap.size, 1, none⟩ = some (.int .i64 Z) := by simp [World.cell?, hx]
  have hlx := (Array.getElem?_eq_some_iff.1 hx).1
  clear hx
  go_wp2_with (go_at_call 17; refine (rpCheck B Z HBZ.out.1 HBZ.out.2 W).mono ?_; rintro e w2 ⟨rfl, hb⟩; rw [if_pos HN.out]; have y0 := (hb.cell (p := ⟨w.heap.size, 0, none⟩) hlx).trans x0; have y1 := (hb.cell (p := ⟨w.heap.size, 1, none⟩) hlx).trans x1)
  go_ret
  exact new_dead w w2 (hb0.trans (hb.mono hb0.size)) B Z 4

/-- The block of a put that is made. -/
theorem rp_made {w w4 W5 : World} {B Z typ : Int} {A4 : Option Addr} {L c4 base : Nat} {f : Nat → Nat}
    (hW5 : W5 = w4.alloc (.cells #[.int .i64 B, .int .i64 Z, .int .i32 typ, .slice A4 L c4, .int .i64 (8 * (((L : Int) + 15) / 8)), .int .i64 0, .int .i64 0, .int .i64 0, .int .u64 0, .int .u64 0, .slice none 0 0, .nilFunc, .int .i64 0, .int .i64 0, .int .i64 0, .bool false, .int .i64 0] 78))
    (hb : Below w.heap.size w w4) (hbase : w.heap.size ≤ base) (hr : Rg.right B Z) (ht : 1 ≤ typ) (ht2 : typ ≤ 2147483647) (hfew : 8 * (L : Int) ≤ Z) (hf : Mb.IsB f) (ho : Owns base w4 (.slice A4 L c4) (Mb.bl f 0 L)) :
    RpBare W5 (fun k => w.heap.size ≤ k ∧ k < W5.heap.size) w4.heap.size ⟨B.toNat, Z.toNat, typ, f, L, 0, 0, 0, false, .ask, 0⟩ (.slice A4 L c4) := by
  obtain ⟨h1, h2, h3, h4, h5, h6⟩ := hr
  have hB : ((B.toNat : Nat) : Int) = B := Int.toNat_of_nonneg h4
  have hZ : ((Z.toNat : Nat) : Int) = Z := Int.toNat_of_nonneg (by omega)
  have hsz : W5.heap.size = w4.heap.size + 1 := by rw [hW5]; simp
  have hbl : Below w4.heap.size w4 W5 := by rw [hW5]; exact (Below.refl _ _).alloc (Nat.le_refl _) _
  have ho5 := (BytesIn.of_own ho).lt.below hbl
  have hc : L ≤ c4 ∧ c4 ≤ 9223372036854775807 := by
    obtain ⟨_, e | ⟨g, cap, cur, e, _, _, e2, e3, _⟩⟩ := ho
    · obtain ⟨e1, e2⟩ := e
      injection e1 with _ e3 e4
      omega
    · injection e with _ e4 e5
      unfold maxLen at e3
      omega
  refine ⟨⟨Ac.zero, .slice none 0 0, ?_⟩, ⟨hb.size, by omega⟩, ⟨by rw [← h1, hZ], by simp only; omega, by simp only; omega, by simp only; omega, by simp only; omega, ht, ht2, by simp only; omega, hf, by simp only; omega, by simp only; omega, by simp only; omega⟩, ⟨A4, c4, rfl, hc.1, hc.2⟩, ho5.mono fun k hk _ => ⟨⟨by omega, by omega⟩, by omega⟩⟩
  unfold RpBlk
  rw [hW5, Go.Deep.blk_alloc_new]
  have hn : (8 * (((L + 15) / 8 : Nat) : Int)) = 8 * (((L : Int) + 15) / 8) := by omega
  simp only [RpCells, Rs.need, hB, hZ, hn, Ac.zero]
  rfl

set_option maxRecDepth 100000 in
set_option maxHeartbeats 800000 in
theorem rpNewOk (B Z typ : Int) (hB : -9223372036854775808 ≤ B ∧ B ≤ 9223372036854775807) (hZ : -9223372036854775808 ≤ Z ∧ Z ≤ 9223372036854775807) (hok : Rg.right B Z) (htyp : ¬ typ < 1) (htyp2 : typ ≤ 2147483647) (A : Option Addr) (L c : Nat) (hfew : ¬ Z < 8 * (L : Int)) (f : Nat → Nat) (hf : Mb.IsB f) (w : World) (hby : BytesAt w (.slice A L c) (Mb.bl f 0 L)) :
    Calls Tryz.prog 8 #[.agg #[.int .i64 B, .int .i64 Z], .int .i32 typ, .slice A L c] w (NewIs (.live ⟨B.toNat, Z.toNat, typ, f, L, 0, 0, 0, false, .ask, 0⟩) w) := by
  have hb0 := un_below w (.int .i64 B) (.int .i64 Z) 25
  have hx := Go.Deep.blk_alloc_new w (.cells #[.int .i64 B, .int .i64 Z] 25)
  have HBZ := Lib.hid (And.intro hB hZ)
  have HN := Lib.hid hok
  have HY := Lib.hid hby
  have hd : decide (typ < 1) = false := by simpa using htyp
  have hz0 : 64 ≤ Z := hok.2.1
  have hz1 : Z ≤ 8192 := hok.2.2.1
  have hdl : ¬ Z / 8 < (L : Int) := by omega
  have hdd : decide (Z / 8 < (L : Int)) = false := by simpa using hdl
  have HT := Lib.hid (And.intro htyp htyp2)
  have HFE := Lib.hid hfew
  clear hB hZ hok htyp hfew hby htyp2
  go_enter Tryz.func8, Tryz.ntmps8
  go_upto_region 1 with (fail)
  generalize w.alloc (.cells #[.int .i64 B, .int .i64 Z] 25) = W at hb0 hx ⊢
  have x0 : W.cell? ⟨w.heap.size, 0, none⟩ = some (.int .i64 B) := by simp [World.cell?, hx]
  have x1 : W.cell? ⟨w.heap.size, 1, none⟩ = some (.int .i64 Z) := by simp [World.cell?, hx]
  have hlx := (Array.getElem?_eq_some_iff.1 hx).1
  clear hx
  go_upto_region 5 with (go_at_call 17; refine (rpCheck B Z HBZ.out.1 HBZ.out.2 W).mono ?_; rintro e w2 ⟨rfl, hb⟩; rw [if_pos HN.out]; have y0 := (hb.cell (p := ⟨w.heap.size, 0, none⟩) hlx).trans x0; have y1 := (hb.cell (p := ⟨w.heap.size, 1, none⟩) hlx).trans x1)
  have hneed := rp_need_aux L (by omega)
  have HNE := Lib.hid hneed
  have HB2 := Lib.hid (hb0.trans (hb.mono hb0.size))
  have hl2 : w.heap.size < w2.heap.size := lt_of_cell y0
  clear hneed hb hdl hd hdd hz0 hz1 x0 x1 hlx hb0
  go_upto_region 6 with (go_at_call 23; refine (recordSize_any (L : Int) w2).mono ?_; rintro e w3 ⟨rfl, rfl⟩; rw [HNE.out])
  obtain ⟨wq, hwq⟩ : ∃ W, W = w2 := ⟨_, rfl⟩
  go_region_held3 (fun w' => w'.cell? ⟨w.heap.size, 0, none⟩ = some (.int .i64 B) ∧ w'.cell? ⟨w.heap.size, 1, none⟩ = some (.int .i64 Z)) (go_keep)
    (first | (go_at_call 24; refine (clone_sl A L c (Mb.bl f 0 L) w2.drew (HY.out.below HB2.out.drew) (by have := HFE.out; have := HN.out.2.2.1; omega)).mono ?_; rintro e w4 ⟨A4, c4, rfl, ho4, hb4⟩; have z0 := (hb4.cell (p := ⟨w.heap.size, 0, none⟩) (lt_of_cell y0)).trans y0; have z1 := (hb4.cell (p := ⟨w.heap.size, 1, none⟩) (lt_of_cell y0)).trans y1))
  all_goals
    have hq := HN.out
    obtain ⟨W5, hW5⟩ : ∃ W5, W5 = w4.alloc (.cells #[.int .i64 B, .int .i64 Z, .int .i32 typ, .slice A4 L c4, .int .i64 (8 * (((L : Int) + 15) / 8)), .int .i64 0, .int .i64 0, .int .i64 0, .int .u64 0, .int .u64 0, .slice none 0 0, .nilFunc, .int .i64 0, .int .i64 0, .int .i64 0, .bool false, .int .i64 0] 78) := ⟨_, rfl⟩
    have hmade := rp_made (w := w) hW5 (HB2.out.drew.trans (hb4.mono HB2.out.size)) HB2.out.size hq HT.out.1 HT.out.2 HFE.out hf ho4
    rw [← hW5]
    have HM := Lib.hid hmade
    have hbk : Below w.heap.size w W5 := by rw [hW5]; exact (HB2.out.drew.trans (hb4.mono HB2.out.size)).alloc (Nat.le_trans HB2.out.size hb4.size) _
    have HBK := Lib.hid hbk
    clear hW5 hmade hbk
    go_wp2_with (go_at_call 25; refine (rpBegin HM.out).mono ?_; intro e w6 hm; have HMM := Lib.hid hm; obtain ⟨rfl, _⟩ := hm)
    go_ret
    obtain ⟨_, F', hp, ht, hF'⟩ := HMM.out
    refine ⟨_, rfl, ?_, ht.below HBK.out HBK.out.size fun k hk => hk.1⟩
    refine PutAt.wide (F' := fun k => w.heap.size ≤ k ∧ k < w6.heap.size) hp fun k hk => ?_
    · show w.heap.size ≤ k ∧ k < w6.heap.size
      rcases hF' k hk with e | e
      · exact ⟨e.1, Nat.lt_of_lt_of_le e.2 ht.size⟩
      · exact ⟨Nat.le_trans HBK.out.size e.1, e.2⟩

/-- A put is made, of whatever ring, type and bytes. -/
theorem rpNew (B Z typ : Int) (hB : -9223372036854775808 ≤ B ∧ B ≤ 9223372036854775807) (hZ : -9223372036854775808 ≤ Z ∧ Z ≤ 9223372036854775807) (htyp : typ ≤ 2147483647) (A : Option Addr) (L c : Nat) (f : Nat → Nat) (hf : Mb.IsB f) (w : World) (hby : BytesAt w (.slice A L c) (Mb.bl f 0 L)) :
    Calls Tryz.prog 8 #[.agg #[.int .i64 B, .int .i64 Z], .int .i32 typ, .slice A L c] w (NewIs (Pm.new B Z typ f L) w) := by
  unfold Pm.new
  by_cases h1 : Rg.right B Z
  · by_cases h2 : typ < 1
    · rw [if_pos (.inr h2)]
      exact rpNewTyp B Z typ hB hZ h1 h2 A L c w
    · rw [if_neg (fun h => h.elim (fun h => h h1) h2)]
      by_cases h3 : Z < 8 * (L : Int)
      · rw [if_pos h3]
        exact rpNewLong B Z typ hB hZ h1 h2 A L c h3 w
      · rw [if_neg h3]
        exact rpNewOk B Z typ hB hZ h1 h2 htyp A L c h3 f hf w hby
  · rw [if_pos (.inl h1)]
    exact rpNewBad B Z typ hB hZ h1 A L c w
end Go.Proofs.YtbfgbnalnjdheaaGreat
namespace Go.Proofs.YtbfgbnalnjdheaaGreat
open Go.RowKit

namespace Cy
/-- The bytes m, and d of f laid over them at a. -/
def lay (m f : Nat → Nat) (a d : Nat) : Nat → Nat := fun i => if a ≤ i ∧ i < a + d then f (i - a) else m i

theorem lay_isB {m f : Nat → Nat} (hm : Mb.IsB m) (hf : Mb.IsB f) (a d : Nat) : Mb.IsB (lay m f a d) := fun i => by
  unfold lay
  split
  · exact hf _
  · exact hm _

theorem lay_zero (m f : Nat → Nat) (a : Nat) : lay m f a 0 = m := by
  funext i
  unfold lay
  rw [if_neg (by omega)]

theorem lay_step {m f : Nat → Nat} (hf : Mb.IsB f) (a d c : Nat) : Mb.put (lay m f a d) (a + d) c (Mb.nm (fun i => f (d + i)) 0 c) = lay m f a (d + c) := by
  funext i
  unfold Mb.put lay
  by_cases h1 : a + d ≤ i ∧ i < a + d + c
  · rw [if_pos h1, if_pos (by omega), Mb.byt_nm (m := fun i => f (d + i)) (fun _ => hf _) 0 c _ (by omega)]
    show f (d + (0 + (i - (a + d)))) = _
    congr 1
    omega
  · rw [if_neg h1]
    by_cases h2 : a ≤ i ∧ i < a + d
    · rw [if_pos h2, if_pos (by omega)]
    · rw [if_neg h2, if_neg (by omega)]
end Cy

/-- The one block q. -/
def Lone (q k : Nat) : Prop := k = q

theorem addr_add (b o j : Nat) : (⟨b, o, none⟩ : Addr).add j = ⟨b, o + j, none⟩ := by unfold Addr.add; split <;> simp_all

theorem map_bl_at (f : Nat → Nat) (a L j : Nat) (h : j < L) : ((Mb.bl f a L).map (Value.int .u8))[j]? = some (.int .u8 ((f (a + j) : Nat) : Int)) := by
  unfold Mb.bl
  rw [List.getElem?_map, List.getElem?_map, List.getElem?_range h]
  rfl

theorem splice_at {cur : Array Value} {u f : Nat → Nat} {off L n j : Nat} (hn : cur.size = n) (hcur : ∀ i, i < n → cur[i]? = some (.int .u8 ((u i : Nat) : Int))) (hfit : off + L ≤ n) (hj : j < n) :
    (cur.toList.take off ++ (Mb.bl f 0 L).map (Value.int .u8) ++ cur.toList.drop (off + L)).toArray[j]? = some (.int .u8 ((Cy.lay u f off L j : Nat) : Int)) := by
  have hcl : cur.toList.length = n := by rw [Array.length_toList]; exact hn
  have hlen : ((Mb.bl f 0 L).map (Value.int .u8)).length = L := by rw [List.length_map, Mb.bl_length]
  have htl : (cur.toList.take off).length = off := by rw [List.length_take, hcl]; omega
  have hcj := hcur j hj
  rw [List.getElem?_toArray, List.append_assoc]
  unfold Cy.lay
  by_cases h1 : j < off
  · rw [if_neg (by omega), List.getElem?_append_left (by omega), List.getElem?_take, if_pos h1, Array.getElem?_toList]
    exact hcj
  · rw [List.getElem?_append_right (by omega), htl]
    by_cases h2 : j < off + L
    · rw [if_pos (by omega), List.getElem?_append_left (by omega), map_bl_at f 0 L (j - off) (by omega), Nat.zero_add]
    · rw [if_neg (by omega), List.getElem?_append_right (by omega), hlen, List.getElem?_drop, Array.getElem?_toList]
      have e : off + L + (j - off - L) = j := by omega
      rw [e]
      exact hcj

/-- Bytes are copied into a row. -/
theorem run_copy_bytes {w : World} {q off n dLen dCap : Nat} {u f : Nat → Nat} (hr : w.rowIs q 5 n (fun j => .int .u8 ((u j : Nat) : Int))) (B : Option Addr) (L cp : Nat) (hB : BytesAt w (.slice B L cp) (Mb.bl f 0 L)) (hfit : off + L ≤ n) (hL : L ≤ dLen) (ty : TypeId) :
    ∃ w', (Builtin.copy_ #[30, 30] ty #[.slice (some ⟨q, off, none⟩) dLen dCap, .slice B L cp]).run Tryz.prog w = .ok (goInt L) w' ∧ w'.rowIs q 5 n (fun j => .int .u8 ((Cy.lay u f off L j : Nat) : Int)) ∧ Touch (Lone q) w w' := by
  obtain ⟨i0, hi, hz0, hz1, hz2⟩ := info_parts infoU8
  have hsz : (Tryz.prog.info? 5).map (·.size) = some 1 := by rw [hi]; simp [hz1]
  by_cases h0 : L = 0
  · subst h0
    refine ⟨w, run_copy_none (P := Tryz.prog) w _ _ ty 5 _ _ _ _ _ _ Tryz.underlying30 hsz (by simp), ?_, Touch.refl _ _⟩
    rw [Cy.lay_zero]
    exact hr
  · obtain ⟨A2, c2, hv, hx⟩ := hB
    obtain ⟨b, o, rfl, hlt, hc⟩ := hx (by rw [Mb.bl_length]; omega)
    injection hv with e1 _ _
    subst e1
    rw [Mb.bl_length] at hc
    obtain ⟨cur, hb, hn, hcur⟩ := hr
    have hlen : ((Mb.bl f 0 L).map (Value.int .u8)).length = L := by rw [List.length_map, Mb.bl_length]
    have hrun := run_copy_row (P := Tryz.prog) w 30 30 ty 5 q off dLen dCap ⟨b, o, none⟩ L cp cur _ ((Mb.bl f 0 L).map (Value.int .u8)) Tryz.underlying30 hsz hb (by rw [hlen]; exact (Nat.min_eq_left hL).symm)
      (by
        intro j v hj
        have hjl : j < L := by
          have := (List.getElem?_eq_some_iff.1 hj).1
          rw [hlen] at this
          exact this
        rw [addr_add b o j, hc j hjl, ← hj, map_bl_at f 0 L j hjl, Mb.bl_getD _ _ _ _ hjl]) (by rw [hlen, hn]; exact hfit) (by intro v hv; obtain ⟨z, _, rfl⟩ := List.mem_map.1 hv; rfl)
    rw [hlen] at hrun
    exact ⟨_, hrun, ⟨_, setRow_heap w q _ _ _ _ hb, by rw [List.size_toArray, List.length_append, List.length_append, hlen, List.length_take, List.length_drop, Array.length_toList, hn]; omega, fun j hj => splice_at hn hcur hfit hj⟩, ⟨rfl, rfl, rfl, by simp [World.setRow], fun k _ hk => setRow_other w q k _ hk⟩⟩

theorem wpList_copy_bytes {w : World} {ops : Array Oper} {rest : List Oper} {o : Oper} {ac : Act} {Q : Exit → Act → World → Prop} (hgd : o.guard = none) (d s : Operand)
    (ho : o.op = .call { callee := .builtin .copy, args := #[d, s], argTypes := #[30, 30] }) {q off n dLen dCap : Nat} {u f : Nat → Nat} (B : Option Addr) (L cp : Nat) (hd : ac.eval d = .slice (some ⟨q, off, none⟩) dLen dCap) (hs : ac.eval s = .slice B L cp)
    (hr : w.rowIs q 5 n (fun j => .int .u8 ((u j : Nat) : Int))) (hB : BytesAt w (.slice B L cp) (Mb.bl f 0 L)) (hfit : off + L ≤ n) (hL : L ≤ dLen)
    (h : ∀ w', w'.rowIs q 5 n (fun j => .int .u8 ((Cy.lay u f off L j : Nat) : Int)) → Touch (Lone q) w w' → wpList Tryz.prog ops Q rest (ac.put o.dst (goInt L)) w') : wpList Tryz.prog ops Q (o :: rest) ac w := by
  refine wpList_plain hgd fun K hK => ?_
  obtain ⟨w', hrun, h1, h2⟩ := run_copy_bytes hr B L cp hB hfit hL o.type (dCap := dCap)
  unfold Oper.wp
  simp [execOp, ho, resolve, invoke, builtin, hd, hs, hrun, Result.andThen]
  exact hK _ _ (h w' h1 h2)
end Go.Proofs.YtbfgbnalnjdheaaGreat
namespace Go.Proofs.YtbfgbnalnjdheaaGreat
open Go.RowKit

/-- A put runs to its end on the bytes m, in k accesses. -/
inductive Runs (nw : Nat) : Pm → (Nat → Nat) → Nat → Pm → (Nat → Nat) → Prop where
  | stop {p : Pm} {m : Nat → Nat} (h : p.next = none) : Runs nw p m 0 p m
  | go {p : Pm} {m : Nat → Nat} {k : Nat} {p' : Pm} {m' : Nat → Nat} {a : Ac} (h : p.next = some a) (he : a.err nw = 0) (hr : Runs nw (p.take (a.ans m)) (a.aft m) k p' m') : Runs nw p m (k + 1) p' m'

theorem rob_runs {nw : Nat} {p : Pm} {m : Nat → Nat} {k : Nat} {p' : Pm} {m' : Nat → Nat} (hr : Runs nw p m k p' m') :
    ∀ (f : Nat) (st : St) (n most : Nat), st.nw = nw → st.m = m → st.na = 1 → st.dead 0 = false → st.ms 0 = .put p → n + k < most → most - n ≤ f →
      (St.rob f st n most).1.ms 0 = .put p' ∧ (St.rob f st n most).1.m = m' ∧ (St.rob f st n most).1.nw = nw ∧ (St.rob f st n most).1.na = 1 := by
  induction hr with
  | @stop p m h =>
    intro f st n most h1 h2 h3 h4 h5 h6 h7
    obtain ⟨f, rfl⟩ : ∃ f', f = f' + 1 := ⟨f - 1, by omega⟩
    have hn : (st.ms 0).next = none := by rw [h5]; exact h
    have e : St.rnd st.na st 0 0 (most - n) = (st, 0) := by
      rw [h3, St.rnd_end (by omega) h4 hn]
      rfl
    rw [St.rob_idle _ _ _ _ (by omega) (by rw [e]), e]
    exact ⟨h5, h2, h1, h3⟩
  | @go p m k p' m' a h he hr ih =>
    intro f st n most h1 h2 h3 h4 h5 h6 h7
    obtain ⟨f, rfl⟩ : ∃ f', f = f' + 1 := ⟨f - 1, by omega⟩
    have hn : (st.ms 0).next = some a := by rw [h5]; exact h
    have e : St.rnd st.na st 0 0 (most - n) = (st.act 0 a, 1) := by
      rw [h3, St.rnd_act (by omega) h4 hn]
      rfl
    rw [St.rob_next _ _ _ _ (by omega) (by rw [e]; exact Nat.one_ne_zero), e]
    have ha : st.act 0 a = st.did ⟨0, 0, 0⟩ 0 a := by unfold St.act; rw [if_pos (by rw [h1]; exact he)]; rfl
    rw [ha]
    refine ih f (st.did ⟨0, 0, 0⟩ 0 a) (n + 1) most h1 ?_ h3 h4 ?_ (by omega) (by omega)
    · show a.aft st.m = _
      rw [h2]
    · show upd st.ms 0 ((st.ms 0).take (a.ans st.m)) 0 = _
      rw [upd_same, h5, h2]
      rfl

/-- A scheduler of one put runs it to its end. -/
theorem robin_runs {nw : Nat} {p : Pm} {m : Nat → Nat} {k : Nat} {p' : Pm} {m' : Nat → Nat} (hr : Runs nw p m k p' m') (c : Int) (most : Nat) (hk : k < most) :
    ((St.made 1 (fun i => if i = 0 then .put p else .none) m nw c).robin most).1.ms 0 = .put p' ∧ ((St.made 1 (fun i => if i = 0 then .put p else .none) m nw c).robin most).1.m = m' ∧
      ((St.made 1 (fun i => if i = 0 then .put p else .none) m nw c).robin most).1.nw = nw ∧ ((St.made 1 (fun i => if i = 0 then .put p else .none) m nw c).robin most).1.na = 1 :=
  rob_runs hr most _ 0 most rfl rfl rfl rfl rfl (by omega) (by omega)

/-- A ring of Z bytes behind 16 others, never got from: its tail is t. -/
structure Alone (Z : Nat) (m : Nat → Nat) (t : Nat) : Prop where
  isB : Mb.IsB m
  tail : Mb.nm m (16 + Z) 8 = t
  copy : Mb.nm m (16 + Z + 8) 8 = 0
  head : Mb.nm m (16 + Z + 16) 8 = 0

/-- An access of a word that may be. -/
theorem al_word {nw : Nat} {K : Int} {P N : Nat} (hK : K = 1 ∨ K = 2 ∨ K = 4) (hN : N = 4 ∨ N = 8) (hal : P % N = 0) (h : P + N ≤ 8 * nw) (V U : Nat) : (⟨K, (P : Int), (N : Int), V, U, []⟩ : Ac).err nw = 0 := by
  show chk (8 * (nw : Int)) K P N 0 = 0
  have hf : formed K N 0 = true := by
    unfold formed
    rw [if_pos hK]
    rcases hN with rfl | rfl <;> rfl
  unfold chk
  rw [hf, if_neg (by decide), if_neg (by omega), if_neg (fun h => h.2 (by omega))]
theorem al_bytes {nw : Nat} {P N : Nat} (hN : N ≤ 8) (h : P + N ≤ 8 * nw) {bs : List Int} (hb : bs.length = N) : (⟨6, (P : Int), (N : Int), 0, 0, bs⟩ : Ac).err nw = 0 := by
  show chk (8 * (nw : Int)) 6 P N bs.length = 0
  rw [hb]
  have hf : formed 6 N N = true := by
    unfold formed
    rw [if_neg (by decide), if_neg (by decide), if_neg (by decide), if_pos rfl]
    simp
    omega
  have hn : numB 6 = false := rfl
  unfold chk
  rw [hf, if_neg (by decide), if_neg (by omega), hn, if_neg (fun h => by cases h.1)]

/-- A load, a store, a swap, bytes. -/
theorem Runs.load {nw : Nat} {p : Pm} {m : Nat → Nat} {k : Nat} {p' : Pm} {m' : Nat → Nat} {P : Nat} {V U : Nat} (h : p.next = some ⟨1, (P : Int), ((8 : Nat) : Int), V, U, []⟩) (hal : P % 8 = 0) (hin : P + 8 ≤ 8 * nw) (hr : Runs nw (p.take ⟨Mb.nm m P 8, false, []⟩) m k p' m') : Runs nw p m (k + 1) p' m' :=
  .go h (al_word (.inl rfl) (.inr rfl) hal hin _ _) hr
theorem Runs.store {nw : Nat} {p : Pm} {m : Nat → Nat} {k : Nat} {p' : Pm} {m' : Nat → Nat} {P N : Nat} {V U : Nat} (h : p.next = some ⟨2, (P : Int), (N : Int), V, U, []⟩) (hN : N = 4 ∨ N = 8) (hal : P % N = 0) (hin : P + N ≤ 8 * nw) (hr : Runs nw (p.take ⟨0, false, []⟩) (Mb.put m P N V) k p' m') : Runs nw p m (k + 1) p' m' :=
  .go h (al_word (.inr (.inl rfl)) hN hal hin _ _) hr
theorem Runs.swap {nw : Nat} {p : Pm} {m : Nat → Nat} {k : Nat} {p' : Pm} {m' : Nat → Nat} {P V U : Nat} (h : p.next = some ⟨4, (P : Int), ((8 : Nat) : Int), V, U, []⟩) (hal : P % 8 = 0) (hin : P + 8 ≤ 8 * nw) (hv : Mb.nm m P 8 = V) (hV : V < 18446744073709551616) (hr : Runs nw (p.take ⟨V, true, []⟩) (Mb.put m P 8 U) k p' m') : Runs nw p m (k + 1) p' m' := by
  have hm : V % 2 ^ (8 * 8) = V := Nat.mod_eq_of_lt hV
  refine .go h (al_word (.inr (.inr rfl)) (.inr rfl) hal hin _ _) ?_
  have e1 : (⟨4, (P : Int), ((8 : Nat) : Int), V, U, []⟩ : Ac).ans m = ⟨V, true, []⟩ := by
    show (⟨Mb.ansV m 4 P 8, Mb.ansD m 4 P 8 V, Mb.ansB m 4 P 8⟩ : An) = _
    have a1 : Mb.ansV m 4 P 8 = V := by unfold Mb.ansV; rw [if_pos (.inr (.inr rfl)), hv]
    have a2 : Mb.ansD m 4 P 8 V = true := by unfold Mb.ansD; rw [hv, hm]; simp
    have a3 : Mb.ansB m 4 P 8 = [] := by unfold Mb.ansB; rw [if_neg (by decide)]
    rw [a1, a2, a3]
  have e2 : (⟨4, (P : Int), ((8 : Nat) : Int), V, U, []⟩ : Ac).aft m = Mb.put m P 8 U := by
    show Mb.aft m 4 P 8 V U _ = _
    unfold Mb.aft
    rw [if_neg (by decide), if_neg (by decide), if_pos rfl, if_pos (by rw [hv, hm])]
  rw [e1, e2]
  exact hr
theorem fnOf_nm (f : Nat → Nat) (d n : Nat) : Mb.nm (fnOf (Mb.bl f d n)) 0 n = Mb.nm (fun i => f (d + i)) 0 n := by
  refine Mb.nm_congr 0 n fun i hi => ?_
  unfold fnOf
  have e : (Mb.bl f d n).getD (0 + i) 0 = (f (d + i) : Int) := by
    unfold Mb.bl
    rw [Nat.zero_add, List.getD_eq_getElem?_getD, List.getElem?_map, List.getElem?_range hi]
    rfl
  rw [e, Nat.zero_add]
  rfl
theorem Runs.bytes {nw : Nat} {p : Pm} {m f : Nat → Nat} {k : Nat} {p' : Pm} {m' : Nat → Nat} {P d N : Nat} (h : p.next = some ⟨6, (P : Int), (N : Int), 0, 0, Mb.bl f d N⟩) (hN : N ≤ 8) (hin : P + N ≤ 8 * nw) (hr : Runs nw (p.take ⟨0, false, []⟩) (Mb.put m P N (Mb.nm (fun i => f (d + i)) 0 N)) k p' m') : Runs nw p m (k + 1) p' m' := by
  refine .go h (al_bytes hN hin (Mb.bl_length _ _ _)) ?_
  have e2 : (⟨6, (P : Int), (N : Int), 0, 0, Mb.bl f d N⟩ : Ac).aft m = Mb.put m P N (Mb.nm (fun i => f (d + i)) 0 N) := by
    show Mb.aft m 6 P N 0 0 (fnOf (Mb.bl f d N)) = _
    unfold Mb.aft
    rw [if_neg (by decide), if_neg (by decide), if_neg (by decide), if_pos rfl, fnOf_nm]
  rw [e2]
  exact hr
end Go.Proofs.YtbfgbnalnjdheaaGreat
namespace Go.Proofs.YtbfgbnalnjdheaaGreat
open Go.RowKit

/-- A put of L bytes of f, at its phase. -/
def al (Z L : Nat) (f : Nat → Nat) (t p : Int) (cl : Bool) (ph : Ph) (er : Int) : Rs := ⟨16, Z, 7, f, L, 0, t, p, cl, ph, er⟩
/-- Bytes that a record takes. -/
def alN (L : Nat) : Nat := 8 * ((L + 15) / 8)

theorem al_need (Z L : Nat) (f : Nat → Nat) (t p : Int) (cl : Bool) (ph : Ph) (er : Int) : (al Z L f t p cl ph er).need = (alN L : Nat) := by
  show 8 * (((L + 15) / 8 : Nat) : Int) = ((8 * ((L + 15) / 8) : Nat) : Int)
  omega
theorem al_wr {x : Int} (h0 : -9223372036854775808 ≤ x) (h1 : x ≤ 9223372036854775807) : Rs.wr x = x := by unfold Rs.wr wrap64; omega
theorem al_un {x : Nat} (h : x < 18446744073709551616) : Rs.un (x : Int) = x := by unfold Rs.un; omega
theorem al_place {Z t : Nat} (h : t < Z) : Rg.place Z (t : Int) = (t : Int) := Int.emod_eq_of_lt (by omega) (by omega)
theorem al_zero : Rs.wr ((0 : Nat) : Int) = 0 := by unfold Rs.wr wrap64; omega
theorem al_spot {Z t : Nat} (h : t < Z) : Rg.spot 16 Z (t : Int) = ((16 + t : Nat) : Int) := by
  show ((16 : Nat) : Int) + Rg.place Z (t : Int) = _
  rw [al_place h]
  omega
theorem al_num (Z k : Nat) : Rg.num 16 Z (k : Int) = ((16 + Z + k : Nat) : Int) := by
  show ((16 : Nat) : Int) + (Z : Int) + (k : Int) = _
  omega
theorem al_fits {Z L t : Nat} {f : Nat → Nat} {p : Int} {cl : Bool} {ph : Ph} {er : Int} (hZ : Z ≤ 8192) (ht : t ≤ Z) : (al Z L f t p cl ph er).fits = decide (t + alN L ≤ Z) := by
  show decide ((al Z L f t p cl ph er).need ≤ Rs.wr ((Z : Int) - Rs.wr ((t : Int) - 0))) = _
  rw [al_need, al_wr (x := (t : Int) - 0) (by omega) (by omega), al_wr (by omega) (by omega)]
  by_cases h : t + alN L ≤ Z
  · rw [decide_eq_true h, decide_eq_true (by omega)]
  · rw [decide_eq_false h, decide_eq_false (by omega)]

/-- A put that is not too long goes on. -/
theorem al_new {Z L : Nat} {f : Nat → Nat} (hr : Rg.right 16 Z) (hL : 8 * L ≤ Z) : Pm.new 16 Z 7 f L = .live (al Z L f 0 0 false .ask 0) := by
  unfold Pm.new
  rw [if_neg (fun h => h.elim (fun h => h hr) (by decide)), if_neg (by omega)]
  rfl
theorem al_long {Z L : Nat} {f : Nat → Nat} (hr : Rg.right 16 Z) (hL : Z < 8 * L) : Pm.new 16 Z 7 f L = .dead Z 4 := by
  unfold Pm.new
  rw [if_neg (fun h => h.elim (fun h => h hr) (by decide)), if_pos (by omega)]

/-- Where there is no room the put ends, refused; nothing was written. -/
theorem al_full {Z L t : Nat} {f m : Nat → Nat} (hZ : 64 ≤ Z ∧ Z ≤ 512 ∧ Z % 8 = 0) (ht : t ≤ Z) (h : Alone Z m t) (hn : Z < t + alN L) :
    Runs 128 (.live (al Z L f 0 0 false .ask 0)) m 3 (.live (al Z L f t 0 false .fin 5)) m := by
  have hf : decide (t + alN L ≤ Z) = false := decide_eq_false (by omega)
  refine Runs.load (P := 16 + Z + 8) (V := 0) (U := 0) ?_ (by omega) (by omega) ?_
  · show some (⟨1, Rg.num 16 Z ((8 : Nat) : Int), 8, 0, 0, []⟩ : Ac) = _
    rw [al_num]; rfl
  rw [h.copy]
  have e1 : (Pm.live (al Z L f 0 0 false .ask 0)).take ⟨0, false, []⟩ = .live (al Z L f 0 0 false .tail 0) := by
    show Pm.live { al Z L f 0 0 false .ask 0 with h := Rs.wr ((0 : Nat) : Int), ph := .tail } = _
    rw [al_zero]
    rfl
  rw [e1]
  refine Runs.load (P := 16 + Z + 0) (V := 0) (U := 0) ?_ (by omega) (by omega) ?_
  · show some (⟨1, Rg.num 16 Z ((0 : Nat) : Int), 8, 0, 0, []⟩ : Ac) = _
    rw [al_num]; rfl
  rw [Nat.add_zero, h.tail]
  have hw : Rs.wr (t : Int) = t := al_wr (by omega) (by omega)
  have e2 : (Pm.live (al Z L f 0 0 false .tail 0)).take ⟨t, false, []⟩ = .live (al Z L f t 0 false .head1 0) := by
    show Pm.live (if (al Z L f (Rs.wr t) 0 false .tail 0).fits = true then (al Z L f (Rs.wr t) 0 false .tail 0).choose else al Z L f (Rs.wr t) 0 false .head1 0) = _
    rw [hw, al_fits (by omega) ht, hf, if_neg (by decide)]
  rw [e2]
  refine Runs.load (P := 16 + Z + 16) (V := 0) (U := 0) ?_ (by omega) (by omega) ?_
  · show some (⟨1, Rg.num 16 Z ((16 : Nat) : Int), 8, 0, 0, []⟩ : Ac) = _
    rw [al_num]; rfl
  rw [h.head]
  have e3 : (Pm.live (al Z L f t 0 false .head1 0)).take ⟨0, false, []⟩ = .live (al Z L f t 0 false .fin 5) := by
    show Pm.live (if ({ al Z L f t 0 false .head1 0 with h := Rs.wr ((0 : Nat) : Int) } : Rs).fits = true then { al Z L f t 0 false .head1 0 with h := Rs.wr ((0 : Nat) : Int), ph := .copy1 } else { al Z L f t 0 false .head1 0 with h := Rs.wr ((0 : Nat) : Int), ph := .fin, er := 5 }) = _
    rw [al_zero]
    show Pm.live (if (al Z L f t 0 false .head1 0).fits = true then al Z L f t 0 false .copy1 0 else al Z L f t 0 false .fin 5) = _
    rw [al_fits (by omega) ht, hf, if_neg (by decide)]
  rw [e3]
  exact .stop rfl

/-- The bytes are written, part by part. -/
theorem al_byt {Z L t : Nat} {f m : Nat → Nat} (hf : Mb.IsB f) (ht : t < Z) (hin : 16 + t + 8 + L ≤ 1024) {p' : Pm} {m' : Nat → Nat} :
    ∀ (n d k : Nat), L - d ≤ n → d < L → Runs 128 (.live (al Z L f t t true .len 0)) (Cy.lay m f (16 + t + 8) L) k p' m' → ∃ j, j ≤ n ∧ Runs 128 (.live (al Z L f t t true (.byt d) 0)) (Cy.lay m f (16 + t + 8) d) (k + j) p' m' := by
  intro n
  induction n with
  | zero => intro d k h1 h2; omega
  | succ n ih =>
    intro d k h1 h2 hr
    have hn0 := Cy.nx_pos (r := L - d) (by omega)
    have hn1 := Cy.nx_le (L - d)
    have hnx : (Pm.live (al Z L f t t true (.byt d) 0)).next = some ⟨6, ((16 + t + 8 + d : Nat) : Int), ((Cy.nx (L - d) : Nat) : Int), 0, 0, Mb.bl f d (Cy.nx (L - d))⟩ := by
      show some (⟨6, Rg.spot 16 Z (t : Int) + 8 + ((d : Nat) : Int), ((Cy.nx (L - d) : Nat) : Int), 0, 0, Mb.bl f d (Cy.nx (L - d))⟩ : Ac) = _
      rw [al_spot ht]
      congr 2
    have hstep := Cy.lay_step (m := m) hf (16 + t + 8) d (Cy.nx (L - d))
    by_cases hq : d + Cy.nx (L - d) = L
    · refine ⟨1, by omega, Runs.bytes hnx hn1.2 (by omega) ?_⟩
      rw [hstep, hq]
      have e : (Pm.live (al Z L f t t true (.byt d) 0)).take ⟨0, false, []⟩ = .live (al Z L f t t true .len 0) := by
        show Pm.live (if d + Cy.nx (L - d) = L then al Z L f t t true .len 0 else al Z L f t t true (.byt (d + Cy.nx (L - d))) 0) = _
        rw [if_pos hq]
      rw [e]
      exact hr
    · obtain ⟨j, hj, h⟩ := ih (d + Cy.nx (L - d)) k (by omega) (by omega) hr
      refine ⟨j + 1, by omega, Runs.bytes hnx hn1.2 (by omega) ?_⟩
      rw [hstep]
      have e : (Pm.live (al Z L f t t true (.byt d) 0)).take ⟨0, false, []⟩ = .live (al Z L f t t true (.byt (d + Cy.nx (L - d))) 0) := by
        show Pm.live (if d + Cy.nx (L - d) = L then al Z L f t t true .len 0 else al Z L f t t true (.byt (d + Cy.nx (L - d))) 0) = _
        rw [if_neg hq]
      rw [e]
      exact h

/-- The bytes behind a put that had room. -/
def alM (m f : Nat → Nat) (Z L t : Nat) : Nat → Nat := Mb.put (Cy.lay (Mb.put (Mb.put m (16 + Z) 8 (t + alN L)) (16 + t) 8 (Hd.jn (-(8 + (L : Int))) 7).toNat) f (16 + t + 8) L) (16 + t) 4 (8 + L)

/-- Where there is room it stands at the tail, whole. -/
theorem al_fit {Z L t : Nat} {f m : Nat → Nat} (hf : Mb.IsB f) (hZ : 64 ≤ Z ∧ Z ≤ 512 ∧ Z % 8 = 0) (ht8 : t % 8 = 0) (h : Alone Z m t) (hL : 8 * L ≤ Z) (hn : t + alN L ≤ Z) :
    ∃ k, k ≤ 600 ∧ Runs 128 (.live (al Z L f 0 0 false .ask 0)) m k (.live (al Z L f t t true .fin 0)) (alM m f Z L t) := by
  have hne : alN L = 8 * ((L + 15) / 8) := rfl
  have ht : t < Z := by omega
  have hd : decide (t + alN L ≤ Z) = true := decide_eq_true hn
  have hw : Rs.wr (t : Int) = t := al_wr (by omega) (by omega)
  have hL8 : 8 + L ≤ alN L := by omega
  -- the last store
  have hlen : Runs 128 (.live (al Z L f t t true .len 0)) (Cy.lay (Mb.put (Mb.put m (16 + Z) 8 (t + alN L)) (16 + t) 8 (Hd.jn (-(8 + (L : Int))) 7).toNat) f (16 + t + 8) L) 1 (.live (al Z L f t t true .fin 0)) (alM m f Z L t) := by
    refine Runs.store (P := 16 + t) (N := 4) (V := 8 + L) (U := 0) ?_ (.inl rfl) (by omega) (by omega) ?_
    · show some (⟨2, Rg.spot 16 Z (t : Int), 4, 8 + L, 0, []⟩ : Ac) = _
      rw [al_spot ht]; rfl
    · exact .stop rfl
  -- the bytes
  have hbyt : ∃ j, j ≤ L ∧ Runs 128 (.live (al Z L f t t true (if L = 0 then .len else .byt 0) 0)) (Mb.put (Mb.put m (16 + Z) 8 (t + alN L)) (16 + t) 8 (Hd.jn (-(8 + (L : Int))) 7).toNat) (1 + j) (.live (al Z L f t t true .fin 0)) (alM m f Z L t) := by
    by_cases h0 : L = 0
    · rw [if_pos h0]
      refine ⟨0, Nat.zero_le _, ?_⟩
      have := hlen
      rw [h0, Cy.lay_zero] at this
      rw [h0]
      exact this
    · rw [if_neg h0]
      obtain ⟨j, hj, hr⟩ := al_byt hf ht (by omega) L 0 1 (by omega) (by omega) hlen
      rw [Cy.lay_zero] at hr
      exact ⟨j, hj, hr⟩
  obtain ⟨j, hj, hbyt⟩ := hbyt
  refine ⟨1 + j + 1 + 1 + 1 + 1, by omega, ?_⟩
  refine Runs.load (P := 16 + Z + 8) (V := 0) (U := 0) ?_ (by omega) (by omega) ?_
  · show some (⟨1, Rg.num 16 Z ((8 : Nat) : Int), 8, 0, 0, []⟩ : Ac) = _
    rw [al_num]; rfl
  rw [h.copy]
  have e1 : (Pm.live (al Z L f 0 0 false .ask 0)).take ⟨0, false, []⟩ = .live (al Z L f 0 0 false .tail 0) := by
    show Pm.live { al Z L f 0 0 false .ask 0 with h := Rs.wr ((0 : Nat) : Int), ph := .tail } = _
    rw [al_zero]
    rfl
  rw [e1]
  refine Runs.load (P := 16 + Z + 0) (V := 0) (U := 0) ?_ (by omega) (by omega) ?_
  · show some (⟨1, Rg.num 16 Z ((0 : Nat) : Int), 8, 0, 0, []⟩ : Ac) = _
    rw [al_num]; rfl
  rw [Nat.add_zero, h.tail]
  have e2 : (Pm.live (al Z L f 0 0 false .tail 0)).take ⟨t, false, []⟩ = .live (al Z L f t 0 false (.cas 0) 0) := by
    show Pm.live (if (al Z L f (Rs.wr t) 0 false .tail 0).fits = true then (al Z L f (Rs.wr t) 0 false .tail 0).choose else al Z L f (Rs.wr t) 0 false .head1 0) = _
    rw [hw, al_fits (by omega) (by omega), hd, if_pos rfl]
    show Pm.live (if (al Z L f t 0 false .tail 0).need ≤ (Z : Int) - Rg.place Z (t : Int) then al Z L f t 0 false (.cas 0) 0 else _) = _
    rw [al_need, al_place ht, if_pos (by omega)]
  rw [e2]
  refine Runs.swap (P := 16 + Z) (V := t) (U := t + alN L) ?_ (by omega) (by omega) h.tail (by omega) ?_
  · show some (⟨4, Rg.num 16 Z ((0 : Nat) : Int), 8, Rs.un (t : Int), Rs.un (Rs.wr (Rs.wr ((t : Int) + (al Z L f t 0 false (.cas 0) 0).need) + 0)), []⟩ : Ac) = _
    have e3 : Rs.wr (Rs.wr ((t : Int) + (al Z L f t 0 false (.cas 0) 0).need) + 0) = ((t + alN L : Nat) : Int) := by
      rw [al_need, al_wr (x := (t : Int) + ((alN L : Nat) : Int)) (by omega) (by omega), al_wr (by omega) (by omega)]
      omega
    rw [e3, al_num, al_un (by omega), al_un (by omega)]
    rfl
  have e4 : (Pm.live (al Z L f t 0 false (.cas 0) 0)).take ⟨t, true, []⟩ = .live (al Z L f t t true .hdr 0) := by
    show Pm.live (al Z L f t (Rs.wr ((t : Int) + 0)) true .hdr 0) = _
    rw [Int.add_zero, hw]
  rw [e4]
  refine Runs.store (P := 16 + t) (N := 8) (V := (Hd.jn (-(8 + (L : Int))) 7).toNat) (U := 0) ?_ (.inr rfl) (by omega) (by omega) ?_
  · show some (⟨2, Rg.spot 16 Z (t : Int), 8, (Hd.jn (-(8 + (L : Int))) 7).toNat, 0, []⟩ : Ac) = _
    rw [al_spot ht]; rfl
  have e5 : (Pm.live (al Z L f t t true .hdr 0)).take ⟨0, false, []⟩ = .live (al Z L f t t true (if L = 0 then .len else .byt 0) 0) := by
    show Pm.live (if L = 0 then al Z L f t t true .len 0 else al Z L f t t true (.byt 0) 0) = _
    by_cases h0 : L = 0
    · rw [if_pos h0, if_pos h0]
    · rw [if_neg h0, if_neg h0]
  rw [e5]
  exact hbyt

theorem byt_low {L k : Nat} (hL : L < 1000000) (hk : k < 4) : Mb.byt (8 + L) k = Mb.byt (Hd.jn (8 + (L : Int)) 7).toNat k := by
  have e : (Hd.jn (8 + (L : Int)) 7).toNat = 8 + L + 7 * 4294967296 := by unfold Hd.jn; omega
  rw [e]
  unfold Mb.byt
  rcases (by omega : k = 0 ∨ k = 1 ∨ k = 2 ∨ k = 3) with rfl | rfl | rfl | rfl <;> simp only [Nat.reduceMul, Nat.reducePow] <;> omega
theorem byt_high {L k : Nat} (hL : L < 1000000) (hk : 4 ≤ k) (hk8 : k < 8) : Mb.byt (Hd.jn (-(8 + (L : Int))) 7).toNat k = Mb.byt (Hd.jn (8 + (L : Int)) 7).toNat k := by
  have e : (Hd.jn (8 + (L : Int)) 7).toNat = 8 + L + 7 * 4294967296 := by unfold Hd.jn; omega
  have e2 : (Hd.jn (-(8 + (L : Int))) 7).toNat = 4294967296 - (8 + L) + 7 * 4294967296 := by unfold Hd.jn; omega
  rw [e, e2]
  unfold Mb.byt
  rcases (by omega : k = 4 ∨ k = 5 ∨ k = 6 ∨ k = 7) with rfl | rfl | rfl | rfl <;> simp only [Nat.reduceMul, Nat.reducePow] <;> omega

/-- What stands there then: the record, its bytes, and what stood. -/
def alB (L : Nat) (f u : Nat → Nat) (t j : Nat) : Nat := if t ≤ j ∧ j < t + 8 then Mb.byt (Hd.jn (8 + (L : Int)) 7).toNat (j - t) else if t + 8 ≤ j ∧ j < t + 8 + L then f (j - (t + 8)) else u j

theorem alM_at {m f : Nat → Nat} {Z L t j : Nat} (hL : L < 1000000) (hj : j < Z) : alM m f Z L t (16 + j) = alB L f (fun k => m (16 + k)) t j := by
  have hne : alN L = 8 * ((L + 15) / 8) := rfl
  unfold alM alB
  show (if 16 + t ≤ 16 + j ∧ 16 + j < 16 + t + 4 then Mb.byt (8 + L) (16 + j - (16 + t)) else Cy.lay _ f (16 + t + 8) L (16 + j)) = _
  have e1 : 16 + j - (16 + t) = j - t := by omega
  rw [e1]
  by_cases h1 : t ≤ j ∧ j < t + 4
  · rw [if_pos (by omega), if_pos (by omega), byt_low hL (by omega)]
  · rw [if_neg (by omega)]
    unfold Cy.lay
    by_cases h2 : t ≤ j ∧ j < t + 8
    · rw [if_neg (by omega), if_pos h2]
      show (if 16 + t ≤ 16 + j ∧ 16 + j < 16 + t + 8 then Mb.byt _ (16 + j - (16 + t)) else _) = _
      rw [if_pos (by omega), e1, byt_high hL (by omega) (by omega)]
    · rw [if_neg h2]
      by_cases h3 : t + 8 ≤ j ∧ j < t + 8 + L
      · rw [if_pos (by omega), if_pos h3]
        congr 1
        omega
      · rw [if_neg (by omega), if_neg h3]
        show (if 16 + t ≤ 16 + j ∧ 16 + j < 16 + t + 8 then _ else Mb.put m (16 + Z) 8 (t + alN L) (16 + j)) = _
        rw [if_neg (by omega)]
        show (if 16 + Z ≤ 16 + j ∧ 16 + j < 16 + Z + 8 then _ else m (16 + j)) = _
        rw [if_neg (by omega)]

theorem alM_far {m f : Nat → Nat} {Z L t a : Nat} (hn : t + alN L ≤ Z) (ha : 16 + Z ≤ a) : alM m f Z L t a = Mb.put m (16 + Z) 8 (t + alN L) a := by
  have hne : alN L = 8 * ((L + 15) / 8) := rfl
  unfold alM
  show (if 16 + t ≤ a ∧ a < 16 + t + 4 then _ else Cy.lay _ f (16 + t + 8) L a) = _
  rw [if_neg (by omega)]
  unfold Cy.lay
  rw [if_neg (by omega)]
  show (if 16 + t ≤ a ∧ a < 16 + t + 8 then _ else Mb.put m (16 + Z) 8 (t + alN L) a) = _
  rw [if_neg (by omega)]

theorem alM_alone {m f : Nat → Nat} {Z L t : Nat} (hf : Mb.IsB f) (hZ : Z ≤ 512) (h : Alone Z m t) (hn : t + alN L ≤ Z) : Alone Z (alM m f Z L t) (t + alN L) := by
  refine ⟨Mb.put_isB (Cy.lay_isB (Mb.put_isB (Mb.put_isB h.isB _ _ _) _ _ _) hf _ _) _ _ _, ?_, ?_, ?_⟩
  · rw [Mb.nm_congr (m := Mb.put m (16 + Z) 8 (t + alN L)) (16 + Z) 8 fun i _ => alM_far hn (by omega), Mb.nm_put]
    exact Nat.mod_eq_of_lt (by show t + alN L < 2 ^ 64; omega)
  · rw [Mb.nm_congr (m := m) (16 + Z + 8) 8 fun i _ => (alM_far hn (by omega)).trans ?_]
    · exact h.copy
    · show (if 16 + Z ≤ 16 + Z + 8 + i ∧ 16 + Z + 8 + i < 16 + Z + 8 then _ else m (16 + Z + 8 + i)) = _
      rw [if_neg (by omega)]
  · rw [Mb.nm_congr (m := m) (16 + Z + 16) 8 fun i _ => (alM_far hn (by omega)).trans ?_]
    · exact h.head
    · show (if 16 + Z ≤ 16 + Z + 16 + i ∧ 16 + Z + 16 + i < 16 + Z + 8 then _ else m (16 + Z + 16 + i)) = _
      rw [if_neg (by omega)]
end Go.Proofs.YtbfgbnalnjdheaaGreat
namespace Go.Proofs.YtbfgbnalnjdheaaGreat
open Go.ChangeShapes Go.WideShapes Go.ChangeAt Go.RowKit Go.Deep

/-- A row of bytes: where they stand, and which they are. -/
structure Bl where
  A : Option Addr
  L : Nat
  cap : Nat
  f : Nat → Nat

/-- It reads so in w. -/
structure Bl.Is (x : Bl) (w : World) : Prop where
  isB : Mb.IsB x.f
  bytes : BytesAt w (.slice x.A x.L x.cap) (Mb.bl x.f 0 x.L)
  room : x.L ≤ x.cap
  few : x.cap ≤ 9223372036854775807

theorem bytesOne : Tryz.prog.cellsOf 30 = 1 := by kernel_rfl

/-- A slice of n rows of bytes that reads as R. -/
def BlsAt (W : World) (A : Option Addr) (n : Nat) (R : Nat → Bl) : Prop :=
  0 < n → ∃ b off, A = some ⟨b, off, none⟩ ∧ b < W.heap.size ∧ ∀ i, i < n → W.cell? ⟨b, off + i, none⟩ = some (.slice (R i).A (R i).L (R i).cap) ∧ (R i).Is W

set_option maxRecDepth 100000 in
theorem open_rows {H : Type} {enc : TypeId × Value → H} {W : World} {base : Nat} {v : Value} {d : DataW H} {ps : List MemPlace}
    (hv : Value.okWide Tryz.prog W .any base 22 v) (h : DataW.Trod enc Tryz.prog W 0 (fun _ => true) true 22 v d ps) :
    ∃ (A : Option Addr) (L cap : Nat) (R : Nat → Bl), v = .slice A L cap ∧ BlsAt W A L R ∧ L ≤ cap ∧ cap ≤ 9223372036854775807 := by
  obtain ⟨a0, len0, cap0, rfl⟩ := okWide_slice Tryz.underlying22 hv
  obtain ⟨fuel, hf⟩ := h
  rcases open_slice Tryz.underlying22 hf with ⟨hcs, _⟩ | ⟨a, len, cap, m, n, D, Pl, hcs, hb, hl, hm, hmm, _, hi⟩
  · simp [Value.cells] at hcs
    obtain ⟨rfl, rfl, rfl⟩ := hcs
    exact ⟨none, 0, 0, fun _ => ⟨none, 0, 0, fun _ => 0⟩, rfl, fun h => absurd h (Nat.lt_irrefl 0), Nat.le_refl _, by decide⟩
  · simp [Value.cells] at hcs
    obtain ⟨rfl, rfl, rfl⟩ := hcs
    simp only [if_true] at hmm
    rw [bytesOne] at hi
    have hx : ∀ i, i < m → ∃ y : Bl, W.cell? (a.add i) = some (.slice y.A y.L y.cap) ∧ y.Is W := by
      intro i him
      obtain ⟨cs', hc, ht'⟩ := hi i him
      obtain ⟨_, hcl, hat⟩ := World.cells?_some hc
      obtain ⟨A, L, cp, f, hcs2, h1, h2, h3, h4⟩ := bytes_cell ht'
      subst hcs2
      have := hat 0 (by decide)
      have e : ((a.add (i * 1)).add 0) = a.add i := by unfold Addr.add; split <;> split <;> simp_all
      rw [e] at this
      exact ⟨⟨A, L, cp, f⟩, this, h1, h2, h3, h4⟩
    have hT : ∃ R : Nat → Bl, ∀ i, i < m → W.cell? (a.add i) = some (.slice (R i).A (R i).L (R i).cap) ∧ (R i).Is W := by
      refine ⟨fun i => if h : i < m then Classical.choose (hx i h) else ⟨none, 0, 0, fun _ => 0⟩, fun i him => ?_⟩
      simp only [dif_pos him]
      exact Classical.choose_spec (hx i him)
    obtain ⟨R, hR⟩ := hT
    refine ⟨some a, _, _, R, rfl, fun hp => ?_, hl, by unfold maxLen at hm; omega⟩
    obtain ⟨b, off, spot⟩ := a
    have h00 := (hR 0 (by omega)).1
    have hspot : spot = none := by simpa [Addr.add] using World.cell?_spot h00
    subst hspot
    refine ⟨b, off, rfl, ?_, fun i him => ?_⟩
    · rcases Nat.lt_or_ge b W.heap.size with hlt | hge
      · exact hlt
      · simp [World.cell?, Addr.add, Array.getElem?_eq_none hge] at h00
    · obtain ⟨hc, his⟩ := hR i (by omega)
      have e : (⟨b, off, none⟩ : Addr).add i = ⟨b, off + i, none⟩ := by unfold Addr.add; split <;> simp_all
      rw [e] at hc
      exact ⟨hc, his⟩

theorem Bl.Is.below {x : Bl} {w w' : World} (h : x.Is w) (hb : Below w.heap.size w w') : x.Is w' := ⟨h.isB, h.bytes.below hb, h.room, h.few⟩

theorem BlsAt.below {W W' : World} {A : Option Addr} {n : Nat} {R : Nat → Bl} (h : BlsAt W A n R) (hb : Below W.heap.size W W') : BlsAt W' A n R := by
  intro hp
  obtain ⟨b, off, e, hlt, hc⟩ := h hp
  refine ⟨b, off, e, Nat.lt_of_lt_of_le hlt hb.size, fun i hi => ?_⟩
  obtain ⟨c0, his⟩ := hc i hi
  exact ⟨(hb.cell (p := ⟨b, off + i, none⟩) hlt).trans c0, his.below hb⟩
end Go.Proofs.YtbfgbnalnjdheaaGreat
namespace Go.Proofs.YtbfgbnalnjdheaaGreat
open Go.RowKit

/-- A put's machine, if it is one. -/
def Mc.putOf : Mc → Pm
  | .put m => m
  | _ => .dead 0 0
def Mc.isPut : Mc → Bool
  | .put _ => true
  | _ => false
theorem Mc.put_is {s : Mc} (h : s.isPut = true) : s = .put s.putOf := by
  cases s with
  | put m => rfl
  | _ => cases h

/-- The states. -/
def rx0 : St := St.made 1 (fun i => if i = 0 then .put (Pm.new 0 64 1 (fun _ => 0) 8) else .none) (fun _ => 0) 12 0
def rx1 : St := (rx0.robin 99).1
theorem rx_n : (rx0.robin 99).2 = 6 := by decide +kernel
theorem rx_is : (rx1.ms 0).isPut = true := by decide +kernel
theorem rx_res : (rx1.ms 0).putOf.result = (0, 0) := by decide +kernel
theorem rx_busy : (Pm.new 0 64 1 (fun _ => 0) 8).result = (0, 10) := by decide +kernel
theorem rx_tail : Mb.nm rx1.m 64 8 = 16 := by decide +kernel
theorem rx_len : rx0.tr.length + 99 ≤ 1000000 := by decide +kernel
theorem rx_nw : rx1.nw = 12 := by decide +kernel

/-- One put, of a new scheduler. -/
theorem fixed7_made {w0 w1 w3 : World} {g h gp : Nat} (B : Buf w1 g h (fun _ => 0) 12 0) (h1 : w0.heap.size ≤ g) (h2 : w0.heap.size ≤ h) (hb1 : Below w0.heap.size w0 w1) {m : Pm} {n2 : Nat} (hn2 : w1.heap.size ≤ n2)
    (hp : PmAt w3 (fun k => n2 ≤ k ∧ k < w3.heap.size) gp m) (hb3 : Below w1.heap.size w1 w3) :
    ∀ T, Calls Tryz.prog 9 #[.pointer (some ⟨g, 0, none⟩), .slice (some ⟨w3.heap.size, 0, none⟩) 1 1] (w3.alloc (.cells #[.iface 31 (.pointer (some ⟨gp, 0, none⟩))] T)) fun e w' => ∃ gw ga o', e = .returned (.pointer (some ⟨gw, 0, none⟩)) ∧ Stood w0 w' o' gw ga g h (fun i => if i = 0 then .iface 31 (.pointer (some ⟨gp, 0, none⟩)) else .nilIface) (St.made 1 (fun i => if i = 0 then .put m else .none) (fun _ => 0) 12 0) ∧ Below w3.heap.size w3 w' := by
  intro T
  have s1 := hb1.size
  have s3 := hb3.size
  have hgl := B.g_lt
  have hhl := B.h_lt
  have hba := (Below.refl w3.heap.size w3).alloc (Nat.le_refl _) (.cells #[.iface 31 (.pointer (some ⟨gp, 0, none⟩))] T)
  have e0 : (w3.alloc (.cells #[.iface 31 (.pointer (some ⟨gp, 0, none⟩))] T)).heap.size = w3.heap.size + 1 := by simp
  have x0 := Go.Deep.blk_alloc_new w3 (.cells #[.iface 31 (.pointer (some ⟨gp, 0, none⟩))] T)
  generalize w3.alloc (.cells #[.iface 31 (.pointer (some ⟨gp, 0, none⟩))] T) = w4 at *
  have B4 := (B.below hb3).below hba
  refine (schedNew_any B4 (some ⟨w3.heap.size, 0, none⟩) 1 1 (fun i => if i = 0 then .iface 31 (.pointer (some ⟨gp, 0, none⟩)) else .nilIface) (fun i => if i = 0 then .put m else .none) (by decide) (by decide) (by decide)
    (fun _ => ⟨w3.heap.size, rfl, by omega, fun i hi => ?_⟩) (o := fun k => if k = g ∨ k = h then .bf else if n2 ≤ k ∧ k < w3.heap.size then .ma 0 else .no) (fun i hi => ?_) ?_ ?_ (fun k hk => ?_)).mono ?_
  · match i, hi with
    | 0, _ => simp [World.cell?, x0]
  · match i, hi with
    | 0, _ =>
      refine MRep.mono (F := fun k => n2 ≤ k ∧ k < w3.heap.size) ⟨gp, rfl, hp.keep hba.size fun k hk => hba.block k hk.2⟩ fun k hk => ?_
      show (if _ then _ else _) = _
      rw [if_neg (by omega), if_pos hk]
  · exact if_pos (.inl rfl)
  · exact if_pos (.inr rfl)
  · by_cases e1 : k = g ∨ k = h
    · omega
    · rw [if_neg e1] at hk
      by_cases e2 : n2 ≤ k ∧ k < w3.heap.size
      · omega
      · rw [if_neg e2] at hk
        exact absurd rfl hk
  · rintro e w' ⟨gw, ga, o', rfl, _, hs, hbl, ho⟩
    have hbl2 : Below w3.heap.size w3 w' := hba.trans (hbl.mono (by omega))
    refine ⟨gw, ga, o', rfl, ⟨⟨_, _, hs⟩, (hb1.trans (hb3.mono s1)).trans (hbl2.mono (by omega)), fun k hk => ?_⟩, hbl2⟩
    rw [ho k (by omega)]
    show (if _ then _ else _) = _
    rw [if_neg (by omega), if_neg (by omega)]

set_option maxRecDepth 100000 in
set_option maxHeartbeats 2000000 in
theorem fixed7_any (w : World) : Calls Tryz.prog 6 #[] w (TrueBelow w) := by
  have hmk : ∀ W : World, (Instr.makeSlice 30 (.int .i64 8) (.int .i64 8)).run Tryz.prog W = .ok (.slice (some ⟨W.heap.size, 0, none⟩) 8 8) (W.alloc (.cells (madeCells #[.int .u8 0] 8) 5)) := make_bytes 8 (by decide)
  go_enter Tryz.func6, Tryz.ntmps6
  go_upto_region 2 with (go_at_call 7; refine (new_yes 96 12 _ (by decide) (by decide) (by decide) (by decide)).mono ?_; rintro e w1 ⟨g, h, rfl, B, hg, hh, hb1⟩)
  go_wp2_with fail
  have HZ := Lib.hid (zeros_made w1 8 (by decide)).bytes
  have hbz := (Below.refl w1.heap.size w1).alloc (Nat.le_refl _) (.cells (madeCells #[.int .u8 0] 8) 5)
  clear hmk
  generalize w1.alloc (.cells (madeCells #[.int .u8 0] 8) 5) = W at HZ hbz ⊢
  refine (rpNew 0 64 1 (by decide) (by decide) (by decide) _ 8 8 (fun _ => 0) Mb.zero_isB W HZ.out).mono ?_
  rintro e w3 ⟨gp, rfl, hp, hbp⟩
  have HP := Lib.hid hp
  have hb3 := hbz.trans (hbp.mono hbz.size)
  have hq3 := hbz.size
  have HQ := Lib.hid (And.intro hb3 (And.intro hb1 (And.intro hg hh)))
  clear hp hbp hbz
  go_upto_region 4 with (go_at_call 11; refine (putResult HP.out).mono ?_; rintro e w4 ⟨rfl, j4, rfl⟩; rw [rx_busy])
  have hbj := drewN_below w3 j4
  have hnew : ∀ T, _ := fixed7_made (w0 := w) (w1 := w1) (w3 := w3.drewN j4) (n2 := W.heap.size) B HQ.out.2.2.1 HQ.out.2.2.2 HQ.out.2.1 hq3 ((HP.out.keep hbj.size fun k hk => hbj.block k hk.2).wide fun k hk => ⟨hk.1, Nat.lt_of_lt_of_le hk.2 hbj.size⟩) (HQ.out.1.trans (hbj.mono HQ.out.1.size))
  have HNEW := Lib.hid hnew
  clear hnew hbj B HP hq3
  go_upto_region 5 with (first
    | (go_at_call 9; refine (HNEW.out _).mono ?_; rintro e w5 ⟨gw, ga, o5, rfl, hs5, hb5⟩)
    | (go_at_call 10; obtain ⟨⟨tv, ts, hsw⟩, hlw, hot⟩ := hs5; refine (robin_any (st := rx0) hsw 99 rx_len).mono ?_; rintro e w6 ⟨rfl, o6, tv6, ts6, hsw6, ht6, ho6⟩; rw [rx_n]))
  have hlow := (Stood.after ⟨⟨tv, ts, hsw⟩, hlw, hot⟩ ht6 ⟨tv6, ts6, hsw6⟩ ho6).low
  obtain ⟨s1, h1⟩ : ∃ s, s = rx1 := ⟨_, rfl⟩
  have hsw7 : Sw w6 o6 gw ga g h (fun i => if i = 0 then .iface 31 (.pointer (some ⟨gp, 0, none⟩)) else .nilIface) tv6 ts6 rx1 := hsw6
  rw [← h1] at hsw7
  have fis := h1 ▸ rx_is
  have fres := h1 ▸ rx_res
  have ftail := h1 ▸ rx_tail
  have fnw := h1 ▸ rx_nw
  have fna := h1 ▸ (show 0 < rx1.na by decide +kernel)
  have hm6 := hsw7.mach 0 fna
  have hbuf := hsw7.buf
  rw [Mc.put_is fis, if_pos rfl] at hm6
  obtain ⟨g', e', hp6⟩ := hm6
  injection e' with _ e'
  injection e' with e'
  injection e' with e'
  injection e' with e'
  subst e'
  have HP := Lib.hid hp6
  have HB := Lib.hid hbuf
  have HR := Lib.hid fres
  have HT := Lib.hid ftail
  have HNW := Lib.hid fnw
  have HLOW := Lib.hid hlow
  clear hp6 hbuf fres ftail fnw hlow hsw6 hsw7 h1 fis fna hsw hlw hot ht6 ho6 HNEW HQ hb5
  go_wp2_with (first
    | (go_at_call 11; refine (putResult HP.out).mono ?_; rintro e w7 ⟨rfl, j7, rfl⟩; rw [HR.out]; have hb7 := drewN_below w6 j7)
    | (go_at_call 17; refine (rpCheck 0 0 (by decide) (by decide) _).mono ?_; rintro e w9 ⟨rfl, hb9⟩; rw [show (if Rg.right 0 0 then (0 : Int) else 1) = 1 by decide])
    | (go_at_call 19; refine (do_plain (HB.out.below hb7) 1 64 8 0 0 (by decide) (by rw [HNW.out]; decide)).mono ?_; rintro e w8 ⟨sl, rfl, hby, hst8⟩; rw [show Mb.ansV s1.m 1 64 8 = 16 from HT.out]; obtain ⟨Asl, csl, rfl, _⟩ := hby))
  go_ret
  have hb8 : Below w.heap.size w w8 := hst8.2.below (HLOW.out.trans (hb7.mono HLOW.out.size)) (Nat.le_trans HLOW.out.size hb7.size) fun k hk => by rcases hk with rfl | rfl <;> assumption
  have hb8a := hb8.alloc hb8.size (.cells #[.int .u64 (16 : Nat), .bool (Mb.ansD s1.m 1 64 8 0), .slice Asl (Mb.ansB s1.m 1 64 8).length csl] 50)
  exact ⟨rfl, hb8a.trans (hb9.mono hb8a.size)⟩
end Go.Proofs.YtbfgbnalnjdheaaGreat
namespace Go.Proofs.YtbfgbnalnjdheaaGreat
open Go.RowKit

set_option maxHeartbeats 400000 in
theorem refBytes_no (v n : Int) (w : World) (h : n < 0 ∨ 8 < n) :
    Calls Tryz.prog 44 #[.int .u64 v, .int .i64 n] w fun e w' => e = .returned (.slice none 0 0) ∧ w = w' := by
  rcases h with h | h
  · go_enter Tryz.func44, Tryz.ntmps44
    go_wp2
    go_ret
    exact ⟨rfl, rfl⟩
  · have h' : 0 ≤ n := by omega
    go_enter Tryz.func44, Tryz.ntmps44
    go_wp2
    go_ret
    exact ⟨rfl, rfl⟩

theorem quo_u64 (x : Int) (h0 : 0 ≤ x) (h1 : x ≤ 18446744073709551615) : IntKind.u64.wrap (x.tdiv 256) = x / 256 := by
  rw [Int.tdiv_eq_ediv_of_nonneg h0, IntKind.wrap_u64]
  omega

theorem div_next (v : Int) (k : Nat) : v / 2 ^ (k * 8) / 256 = v / 2 ^ ((k + 1) * 8) := by
  have e : ((2 : Int) ^ ((k + 1) * 8)) = 2 ^ (k * 8) * 256 := by
    rw [Nat.add_mul, Int.pow_add]; rfl
  rw [e, Int.ediv_ediv_of_nonneg (Int.pow_nonneg (by decide))]

set_option maxRecDepth 100000 in
set_option maxHeartbeats 400000 in
theorem refBytes_own (v : Int) (n : Nat) (w : World) (hv : 0 ≤ v) (hv1 : v ≤ 18446744073709551615) (hn : n ≤ 8) :
    Calls Tryz.prog 44 #[.int .u64 v, .int .i64 n] w fun e w' => ∃ x, e = .returned x ∧ Owns w.heap.size w' x (Wd.bs v n) ∧ Below w.heap.size w w' := by
  obtain ⟨i0, hi, hz0, hz1, hz2⟩ := info_parts infoU8
  go_enter Tryz.func44, Tryz.ntmps44
  go_wp2
  go_loopw [0, 5, 6] (fun x r i wr => ∃ k : Nat, k ≤ n ∧ i = .int .i64 k ∧ x = .int .u64 (v / 2 ^ (k * 8)) ∧ Below w.heap.size w wr ∧ wr.ownsRow w.heap.size 5 1 r k ((Wd.bs v k).map (Value.int .u8))) (fun _ _ i _ => n - (intOf i).toNat)
  case atStart =>
    exact ⟨0, by omega, rfl, by simp, Below.refl _ _, World.ownsRow_nil _ _ _ _⟩
  case round =>
    obtain ⟨k, hk, rfl, rfl, hbel, hown⟩ := hrel
    by_cases hlt : k < n
    · have hpos : 0 ≤ v / 2 ^ (k * 8) := Int.ediv_nonneg hv (Int.pow_nonneg (by decide))
      have hsz := hbel.size
      go_wp2_with (at_builtin; refine wpList_append_own _ rfl _ _ 30 rfl w.heap.size 5 i0 (.int .u8 0) 1 1 Tryz.underlying30 hi hz0 hz1 hz2 rfl (by decide) _ _ _ rfl (hown.alloc _) ⟨wr.heap.size, 0, none⟩ 1 1 [.int .u8 (v / 2 ^ (k * 8) % 256)] rfl rfl ?c1 ?c2 ?c3 ?c4 ?c5 ?_)
      case c1 =>
        intro j u hj
        match j, hj with
        | 0, hj => simp at hj; subst hj; simp [Addr.add]
      case c2 => intro u hu; simp at hu; subst hu; rfl
      case c3 => unfold maxLen; omega
      case c4 => omega
      case c5 => simp; omega
      · intro v' w1 hown' hgrow _
        have hown2 : w1.ownsRow w.heap.size 5 1 v' (k + 1) ((Wd.bs v (k + 1)).map (Value.int .u8)) := by
          rw [bs_snoc, List.map_append]; exact hown'
        have hbel2 : Below w.heap.size w w1 := (hbel.alloc hsz _).grown hgrow (by simp; omega) (fun g hg => (hown.lt g hg).1)
        clear hown' hgrow hown hbel
        go_wp2
        go_roundw
        case rel => exact ⟨k + 1, by omega, by go_num, by rw [← div_next, quo_u64 _ hpos (by have := Int.ediv_le_self (2 ^ (k * 8)) hv; omega)], hbel2, hown2⟩
        case measure => simp [intOf]; omega
    · have hkn : k = n := by omega
      have HK := Lib.hid hkn
      clear hkn
      go_wp2
      go_ret
      have hkn := HK.out
      subst hkn
      exact ⟨_, rfl, by unfold Owns; rw [Wd.bs_length]; exact hown, hbel⟩

theorem refBytes_yes (v : Int) (n : Nat) (w : World) (hv : 0 ≤ v) (hv1 : v ≤ 18446744073709551615) (hn : n ≤ 8) :
    Calls Tryz.prog 44 #[.int .u64 v, .int .i64 n] w (MadeBytes (Wd.bs v n) w) :=
  (refBytes_own v n w hv hv1 hn).mono fun _ _ ⟨x, he, hx, hb⟩ => ⟨x, he, hx.bytes, hb⟩

end Go.Proofs.YtbfgbnalnjdheaaGreat
namespace Go.Proofs.YtbfgbnalnjdheaaGreat
open Go.RowKit

set_option maxHeartbeats 400000 in
theorem refNumber_short (b off cap : Nat) (xs : List Int) (w : World) (h8 : Wd.Bytes8 xs) (hm : xs.length ≤ 8)
    (hc : ∀ i, i < xs.length → w.cell? ⟨b, off + i, none⟩ = some (.int .u8 (xs.getD i 0))) :
    Calls Tryz.prog 29 #[.slice (some ⟨b, off, none⟩) xs.length cap] w fun e w' => e = .returned (.int .u64 (Wd.num (xs.take 8))) ∧ w = w' := by
  go_enter Tryz.func29, Tryz.ntmps29
  go_wp2
  go_loop [3, 4] (fun v i => ∃ k : Nat, k ≤ xs.length ∧ i = .int .i64 ((k : Int) - 1) ∧ v = .int .u64 (Wd.num ((xs.take 8).drop k))) (fun _ i => (intOf i + 1).toNat)
  case atStart =>
    have hl : (xs.take 8).length = xs.length := by rw [List.length_take]; omega
    exact ⟨xs.length, by omega, by first | rfl | (congr 1; omega), by rw [List.drop_of_length_le (by omega)]; rfl⟩
  case round =>
    obtain ⟨k, hk, rfl, rfl⟩ := hrel
    by_cases hlt : 0 < k
    · obtain ⟨j, rfl⟩ : ∃ j, k = j + 1 := ⟨k - 1, by omega⟩
      have hl : (xs.take 8).length = xs.length := by rw [List.length_take]; omega
      have hcell := hc j (by omega)
      obtain ⟨hb0, hb1⟩ := h8.at_ (show j < xs.length by omega)
      have hg : (xs.take 8).getD j 0 = xs.getD j 0 := by simp [List.getD, show j < 8 by omega]
      have hstep := Wd.drop_num (xs.take 8) j (by omega)
      rw [hg] at hstep
      have hn := Wd.num_small _ (Wd.drop_bytes (Wd.take_bytes h8 8) j) (by rw [List.length_drop]; omega)
      have hn0 := (Wd.num_bounds _ (Wd.drop_bytes (Wd.take_bytes h8 8) (j + 1))).1
      have H2 := Lib.hid hstep
      have HN := Lib.hid hn
      have H5 := Lib.hid h8
      have H6 := Lib.hid hc
      have hxl : j < xs.length := by omega
      have e0 : ((j + 1 : Nat) : Int) - 1 = j := by omega
      rw [e0]
      clear hl hg hstep h8 hc hn e0
      go_wp2
      go_round
      case rel =>
        refine ⟨j, by omega, by go_num, ?_⟩
        rw [H2.out]
        have e1 : xs.getD j 0 = xs[j] := by simp [List.getD, hxl]
        have hn2 := HN.out
        rw [H2.out] at hn2
        rw [e1] at hn2 hb0 hb1 ⊢
        rw [Wd.wrap_next _ _ hn0 hb0 hb1 hn2]
      case measure => simp [intOf]
    · obtain rfl : k = 0 := by omega
      go_wp2
      go_ret
      exact ⟨rfl, rfl⟩

set_option maxHeartbeats 400000 in
theorem refNumber_long (b off cap : Nat) (xs : List Int) (w : World) (h8 : Wd.Bytes8 xs) (hm : 8 < xs.length)
    (hc : ∀ i, i < xs.length → w.cell? ⟨b, off + i, none⟩ = some (.int .u8 (xs.getD i 0))) :
    Calls Tryz.prog 29 #[.slice (some ⟨b, off, none⟩) xs.length cap] w fun e w' => e = .returned (.int .u64 (Wd.num (xs.take 8))) ∧ w = w' := by
  go_enter Tryz.func29, Tryz.ntmps29
  go_wp2
  go_loop [3, 4] (fun v i => ∃ k : Nat, k ≤ 8 ∧ i = .int .i64 ((k : Int) - 1) ∧ v = .int .u64 (Wd.num ((xs.take 8).drop k))) (fun _ i => (intOf i + 1).toNat)
  case atStart =>
    have hl : (xs.take 8).length = 8 := by rw [List.length_take]; omega
    exact ⟨8, by omega, by first | rfl | (congr 1; omega), by rw [List.drop_of_length_le (by omega)]; rfl⟩
  case round =>
    obtain ⟨k, hk, rfl, rfl⟩ := hrel
    by_cases hlt : 0 < k
    · obtain ⟨j, rfl⟩ : ∃ j, k = j + 1 := ⟨k - 1, by omega⟩
      have hl : (xs.take 8).length = 8 := by rw [List.length_take]; omega
      have hcell := hc j (by omega)
      obtain ⟨hb0, hb1⟩ := h8.at_ (show j < xs.length by omega)
      have hg : (xs.take 8).getD j 0 = xs.getD j 0 := by simp [List.getD, show j < 8 by omega]
      have hstep := Wd.drop_num (xs.take 8) j (by omega)
      rw [hg] at hstep
      have hn := Wd.num_small _ (Wd.drop_bytes (Wd.take_bytes h8 8) j) (by rw [List.length_drop]; omega)
      have hn0 := (Wd.num_bounds _ (Wd.drop_bytes (Wd.take_bytes h8 8) (j + 1))).1
      have H2 := Lib.hid hstep
      have HN := Lib.hid hn
      have H5 := Lib.hid h8
      have H6 := Lib.hid hc
      have hxl : j < xs.length := by omega
      have e0 : ((j + 1 : Nat) : Int) - 1 = j := by omega
      rw [e0]
      clear hl hg hstep h8 hc hn e0
      go_wp2
      go_round
      case rel =>
        refine ⟨j, by omega, by go_num, ?_⟩
        rw [H2.out]
        have e1 : xs.getD j 0 = xs[j] := by simp [List.getD, hxl]
        have hn2 := HN.out
        rw [H2.out] at hn2
        rw [e1] at hn2 hb0 hb1 ⊢
        rw [Wd.wrap_next _ _ hn0 hb0 hb1 hn2]
      case measure => simp [intOf]
    · obtain rfl : k = 0 := by omega
      go_wp2
      go_ret
      exact ⟨rfl, rfl⟩

set_option maxHeartbeats 400000 in
theorem refNumber_zero (A : Option Addr) (cap : Nat) (w : World) :
    Calls Tryz.prog 29 #[.slice A 0 cap] w fun e w' => e = .returned (.int .u64 0) ∧ w = w' := by
  go_enter Tryz.func29, Tryz.ntmps29
  go_wp2
  refine wp_loop_rounds 1 ?_
  rw [rounds_succ]
  go_wp2
  go_ret
  exact ⟨rfl, rfl⟩

/-- Number, over whatever slice that reads as bytes. -/
theorem refNumber_any (v : Value) (xs : List Int) (w : World) (h8 : Wd.Bytes8 xs) (h : BytesAt w v xs) :
    Calls Tryz.prog 29 #[v] w fun e w' => e = .returned (.int .u64 (Wd.num (xs.take 8))) ∧ w = w' := by
  obtain ⟨A, cap, rfl, h⟩ := h
  by_cases hp : 0 < xs.length
  · obtain ⟨b, off, rfl, _, hc⟩ := h hp
    by_cases hl : xs.length ≤ 8
    · exact refNumber_short b off cap xs w h8 hl hc
    · exact refNumber_long b off cap xs w h8 (by omega) hc
  · have hx : xs = [] := List.eq_nil_of_length_eq_zero (by omega)
    subst hx
    exact refNumber_zero A cap w

end Go.Proofs.YtbfgbnalnjdheaaGreat
namespace Go.Proofs.YtbfgbnalnjdheaaGreat
open Go.RowKit

theorem pow_next (j : Nat) (x : Int) (h : j < 63 → x = 2 ^ j) (h' : j + 1 < 63) : wrap64 (x * 2) = 2 ^ (j + 1) := by
  have hb := Wd.pow_bounds (j + 1) h'
  rw [h (by omega), ← Int.pow_succ]
  show wrap64 ((2 : Int) ^ (j + 1)) = _
  unfold wrap64
  omega

set_option maxHeartbeats 400000 in
theorem refLog2_any (n : Int) (w : World) :
    Calls Tryz.prog 64 #[.int .i64 n] w fun e w' => e = .returned (.tuple #[.int .i64 (Wd.lg n), .bool (Wd.isP n)]) ∧ w = w' := by
  go_enter Tryz.func64, Tryz.ntmps64
  go_wp2
  go_loop [4, 5] (fun v k => ∃ (j : Nat) (x : Int), j ≤ 63 ∧ k = .int .i64 j ∧ v = .int .i64 x ∧ (j < 63 → x = 2 ^ j) ∧ ∀ i, i < j → n ≠ 2 ^ i) (fun _ k => 63 - (intOf k).toNat)
  case atStart => exact ⟨0, 1, by omega, rfl, rfl, by simp, by omega⟩
  case round =>
    obtain ⟨j, x, hj, rfl, rfl, hx, hn⟩ := hrel
    have HX := Lib.hid hx
    have HN := Lib.hid hn
    clear hx hn
    by_cases hlt : j < 63
    · by_cases he : x = n
      · have hb : (x == n) = true := by simpa using he
        have hlg : Wd.lg n = j := by rw [← he, HX.out hlt]; exact Wd.lg_pow j hlt
        have hip : Wd.isP n = true := by rw [← he, HX.out hlt]; exact Wd.isP_pow j hlt
        have H1 := Lib.hid hlg
        have H2 := Lib.hid hip
        clear hlg hip he
        go_wp2
        go_ret2
        exact ⟨by rw [H1.out, H2.out]; rfl, rfl⟩
      · have hb : (x == n) = false := by simpa using he
        have HB := Lib.hid he
        clear he
        go_wp2
        go_round
        case rel =>
          refine ⟨j + 1, _, by omega, by go_num, rfl, pow_next j x HX.out, ?_⟩
          intro i hi
          by_cases hij : i = j
          · subst hij; rw [← HX.out hlt]; exact fun h => HB.out h.symm
          · exact HN.out i (by omega)
        case measure => simp [intOf]; omega
    · have hjj : j = 63 := by omega
      have hip : Wd.isP n = false := by
        cases e : Wd.isP n with
        | false => rfl
        | true =>
          obtain ⟨k, hk, hh⟩ := (Wd.isP_iff n).1 e
          exact absurd hh (HN.out k (by omega))
      have hlg : Wd.lg n = 0 := by unfold Wd.lg; rw [hip]; rfl
      have H1 := Lib.hid hlg
      have H2 := Lib.hid hip
      clear hlg hip hjj
      go_wp2
      go_ret2
      exact ⟨by rw [H1.out, H2.out]; rfl, rfl⟩

set_option maxHeartbeats 400000 in
theorem refIsPower_any (n : Int) (w : World) :
    Calls Tryz.prog 38 #[.int .i64 n] w fun e w' => e = .returned (.bool (Wd.isP n)) ∧ w = w' := by
  go_enter Tryz.func38, Tryz.ntmps38
  go_wp2_with (go_at_call 64; refine (refLog2_any _ _).mono ?_; rintro e w' ⟨rfl, rfl⟩)
  go_ret
  exact ⟨rfl, rfl⟩

set_option maxHeartbeats 400000 in
theorem refAlign_any (n tz : Int) (w : World) :
    Calls Tryz.prog 54 #[.int .i64 n, .int .i64 tz] w fun e w' => e = .returned (.tuple #[.int .i64 (Wd.al n tz), .int .i64 (alE n tz)]) ∧ w = w' := by
  cases hp : Wd.isP tz with
  | true =>
    have hb := Wd.isP_bounds hp
    have hto : (tz == 0) = false := beq_eq_false_iff_ne.2 (by omega)
    by_cases hn : 0 ≤ n ∧ n ≤ 4611686018427387904
    · obtain ⟨hn0, hn1⟩ := hn
      have hok : Wd.alOk n tz = true := by unfold Wd.alOk; rw [hp]; simp [hn0, hn1]
      have e : Wd.al n tz = (n + tz - 1) / tz * tz := by unfold Wd.al; rw [if_pos hok]
      have e2 : alE n tz = 0 := by unfold alE; rw [if_pos hok]
      obtain ⟨hd, hz, hs, hlt⟩ := Wd.up_cases n tz hp hn0 hn1
      have HP := Lib.hid hp
      have HM := Lib.hid e
      have HE := Lib.hid e2
      have HZ := Lib.hid hz
      have HS := Lib.hid hs
      have HL := Lib.hid hlt
      clear hp e e2 hok hz hs hlt
      go_enter Tryz.func54, Tryz.ntmps54
      go_wp2_with (go_at_call 38; refine (refIsPower_any _ _).mono ?_; rintro e w' ⟨rfl, rfl⟩; rw [HP.out])
      · have h : (n % tz == 0) = true := by assumption
        go_ret2
        exact ⟨ret_tup (by rw [HM.out]; exact HZ.out (by simpa using h)) (by rw [HE.out]), rfl⟩
      · have h : (n % tz == 0) = false := by assumption
        have h2 := HL.out (by simpa using h)
        omega
      · have h : (n % tz == 0) = false := by assumption
        have h2 := HL.out (by simpa using h)
        go_ret2
        refine ⟨ret_tup ?_ (by rw [HE.out]), rfl⟩
        show Wd.al n tz = wrap64 ((n / tz + 1) * tz)
        rw [HM.out, HS.out (by simpa using h)]
        have h3 : 0 ≤ (n / tz + 1) * tz := Int.mul_nonneg (by omega) (by omega)
        generalize (n / tz + 1) * tz = z at h2 h3 ⊢
        unfold wrap64
        omega
    · have hok : Wd.alOk n tz = false := by unfold Wd.alOk; rw [hp]; simp; omega
      have e : Wd.al n tz = 0 := by unfold Wd.al; rw [hok]; rfl
      have e2 : alE n tz = 1 := by unfold alE; rw [hok]; rfl
      have HP := Lib.hid hp
      have HM := Lib.hid e
      have HE := Lib.hid e2
      clear hp e e2 hok
      by_cases hn0 : 0 ≤ n
      · have hn1 : 4611686018427387904 < n := by omega
        clear hn
        go_enter Tryz.func54, Tryz.ntmps54
        go_wp2_with (go_at_call 38; refine (refIsPower_any _ _).mono ?_; rintro e w' ⟨rfl, rfl⟩; rw [HP.out])
        go_ret2
        exact ⟨by rw [HM.out, HE.out]; rfl, rfl⟩
      · have hn1 : n < 0 := by omega
        clear hn hn0
        go_enter Tryz.func54, Tryz.ntmps54
        go_wp2_with (go_at_call 38; refine (refIsPower_any _ _).mono ?_; rintro e w' ⟨rfl, rfl⟩; rw [HP.out])
        go_ret2
        exact ⟨by rw [HM.out, HE.out]; rfl, rfl⟩
  | false =>
    have hok : Wd.alOk n tz = false := by unfold Wd.alOk; rw [hp]; rfl
    have e : Wd.al n tz = 0 := by unfold Wd.al; rw [hok]; rfl
    have e2 : alE n tz = 1 := by unfold alE; rw [hok]; rfl
    have HP := Lib.hid hp
    have HM := Lib.hid e
    have HE := Lib.hid e2
    clear hp e e2 hok
    go_enter Tryz.func54, Tryz.ntmps54
    go_wp2_with (go_at_call 38; refine (refIsPower_any _ _).mono ?_; rintro e w' ⟨rfl, rfl⟩; rw [HP.out])
    go_ret2
    exact ⟨by rw [HM.out, HE.out]; rfl, rfl⟩

end Go.Proofs.YtbfgbnalnjdheaaGreat
