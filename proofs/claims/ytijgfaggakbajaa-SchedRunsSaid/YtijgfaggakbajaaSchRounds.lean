/-
  Layer 6's round and Robin, walked: all that live do a step each, in order.
  Layer 6's Robin, walked: round by round.
-/
import Derived.Test.YtijgfaggakbajaaSchPickAll
namespace Go.Proofs.Ytijgfaggakbajaa
open Go.RowKit

/-- An actor does the access that it is at. -/
def St.act (st : St) (i : Nat) (a : Ac) : St := if a.err st.nw = 0 then st.did ⟨0, i, 0⟩ i a else st.kill i

/-- So many actors from i on do a step each, as long as fewer than 'most' did: the state, how many did. -/
def St.rnd : Nat → St → Nat → Nat → Nat → St × Nat
  | 0, st, _, n, _ => (st, n)
  | k + 1, st, i, n, most =>
    if n = most then (st, n)
    else if st.dead i = true then St.rnd k st (i + 1) n most
    else match (st.ms i).next with
      | none => St.rnd k st (i + 1) n most
      | some a => St.rnd k (st.act i a) (i + 1) (n + 1) most

theorem St.act_na (st : St) (i : Nat) (a : Ac) : (st.act i a).na = st.na := by unfold St.act; split <;> rfl
theorem St.act_tr (st : St) (i : Nat) (a : Ac) : (st.act i a).tr.length ≤ st.tr.length + 1 := by
  unfold St.act
  split
  · show (st.tr ++ [_]).length ≤ _; simp
  · exact Nat.le_succ _

theorem St.rnd_most (k : Nat) (st : St) (i most : Nat) : St.rnd k st i most most = (st, most) := by
  cases k with
  | zero => rfl
  | succ k => show (if most = most then _ else _) = _; rw [if_pos rfl]
theorem St.rnd_dead {k : Nat} {st : St} {i n most : Nat} (h : n ≠ most) (hd : st.dead i = true) : St.rnd (k + 1) st i n most = St.rnd k st (i + 1) n most := by
  show (if n = most then _ else _) = _
  rw [if_neg h, if_pos hd]
theorem St.rnd_end {k : Nat} {st : St} {i n most : Nat} (h : n ≠ most) (hd : st.dead i = false) (hn : (st.ms i).next = none) : St.rnd (k + 1) st i n most = St.rnd k st (i + 1) n most := by
  show (if n = most then _ else _) = _
  rw [if_neg h, if_neg (by rw [hd]; simp), hn]
theorem St.rnd_act {k : Nat} {st : St} {i n most : Nat} {a : Ac} (h : n ≠ most) (hd : st.dead i = false) (hn : (st.ms i).next = some a) : St.rnd (k + 1) st i n most = St.rnd k (st.act i a) (i + 1) (n + 1) most := by
  show (if n = most then _ else _) = _
  rw [if_neg h, if_neg (by rw [hd]; simp), hn]

/-- A step by the state alone: the event is told. -/
theorem step_act {w : World} {o : Nat → Pt} {gw ga gb hb : Nat} {ax : Nat → Value} {tv : Value} {ts : List Tx} {st : St} (h : Sw w o gw ga gb hb ax tv ts st) (i : Nat) (hi : i < st.na) (a : Ac) (hn : (st.ms i).next = some a)
    {base : Nat} {A : Option Addr} {l cp : Nat} (ho : Owns base w (.slice A l cp) a.bs) (hbase : ∀ k, o k ≠ .no → k < base) (hlong : ts.length ≤ 1000000) :
    Calls Try.prog 31 #[.pointer (some ⟨gw, 0, none⟩), .agg #[.int .i64 0, .int .i64 (i : Nat), .int .i64 0], .agg #[.int .i64 a.K, .int .i64 a.P, .int .i64 a.N, .int .u64 a.V, .int .u64 a.U, .slice A l cp]] w
      fun e w' => (∃ v r, e = .returned (.tuple #[.agg v, .int .i64 r])) ∧ ∃ o' tv' ts', Sw w' o' gw ga gb hb ax tv' ts' (st.act i a) ∧ Touch (Own o) w w' ∧ ∀ k, k < w.heap.size → o' k = o k := by
  unfold St.act
  by_cases h0 : a.err st.nw = 0
  · rw [if_pos h0]
    refine (step_ok h ⟨0, (i : Nat), 0⟩ i rfl hi a ((h.mach i hi).fine hn) hn ho hbase h0 hlong).mono ?_
    rintro e w' ⟨o', A2, l2, c2, tv', ts', he, _, hs, ht, ho'⟩
    exact ⟨⟨_, _, he⟩, o', tv', ts', hs, ht, ho'⟩
  · rw [if_neg h0]
    refine (step_no h ⟨0, (i : Nat), 0⟩ i rfl hi a ho h0).mono ?_
    rintro e w' ⟨he, hs, ht⟩
    exact ⟨⟨_, _, he⟩, o, tv, ts, hs, ht, fun _ _ => rfl⟩

set_option maxRecDepth 100000 in
set_option maxHeartbeats 4000000 in
theorem round_any {w : World} {o : Nat → Pt} {gw ga gb hb : Nat} {ax : Nat → Value} {tv : Value} {ts : List Tx} {st : St} (h : Sw w o gw ga gb hb ax tv ts st) (most : Nat) (hlong : st.tr.length + most ≤ 1000000) :
    Calls Try.prog 35 #[.pointer (some ⟨gw, 0, none⟩), .int .i64 most] w
      fun e w' => e = .returned (.int .i64 (St.rnd st.na st 0 0 most).2) ∧ ∃ o' tv' ts', Sw w' o' gw ga gb hb ax tv' ts' (St.rnd st.na st 0 0 most).1 ∧ Touch (Own o) w w' ∧ ∀ k, k < w.heap.size → o' k = o k := by
  have hc1 := h.w1
  have hfew := h.few
  have HS := Lib.hid h
  obtain ⟨res, hres⟩ : ∃ res, St.rnd st.na st 0 0 most = res := ⟨_, rfl⟩
  rw [hres]
  have HRES := Lib.hid hres
  have hmost : most ≤ 1000000 := by omega
  have HL := Lib.hid hlong
  clear h hres hlong
  go_enter Try.func35, Try.ntmps35
  go_wp2
  go_loopw [17, 5] (fun t17 t5 wr => ∃ (i n : Nat) (o1 : Nat → Pt) (tv1 : Value) (ts1 : List Tx) (st1 : St), t17 = .int .i64 i ∧ t5 = .int .i64 n ∧ i ≤ st.na ∧ n ≤ most ∧ st1.na = st.na ∧ Sw wr o1 gw ga gb hb ax tv1 ts1 st1 ∧ St.rnd (st.na - i) st1 i n most = res ∧ st1.tr.length + (most - n) ≤ 1000000 ∧ Touch (Own o) w wr ∧ ∀ k, k < w.heap.size → o1 k = o k) (fun t17 _ _ => st.na - (intOf t17).toNat)
  case atStart => exact ⟨0, 0, o, tv, ts, st, rfl, rfl, Nat.zero_le _, Nat.zero_le _, rfl, HS.out, HRES.out, HL.out, Touch.refl _ _, fun _ _ => rfl⟩
  case round =>
    obtain ⟨i, n, o1, tv1, ts1, st1, rfl, rfl, hi, hn, hna, hsw, heq, hlen, htt, hoo⟩ := hrel
    have HSW := Lib.hid hsw
    have HEQ := Lib.hid heq
    have HLEN := Lib.hid hlen
    have HTT := Lib.hid (And.intro htt hoo)
    have HNA := Lib.hid hna
    clear htt hoo heq hlen
    by_cases hlt : i < st.na
    · have hm := hsw.amach (i := i) (by omega)
      have hd := hsw.adead (i := i) (by omega)
      have HMR := Lib.hid (hsw.mach i (by omega))
      generalize hx : ax i = x at hm HMR
      have HX := Lib.hid hx
      clear hsw hx hna
      by_cases hnm : n = most
      · subst hnm
        have he := HEQ.out
        rw [St.rnd_most] at he
        have HE2 := Lib.hid he
        clear he
        rcases HMR.out.shape with ⟨rfl, _⟩ | ⟨T, y, rfl⟩
        all_goals
          go_wp2
          go_ret
          exact ⟨by rw [← HE2.out]; rfl, o1, tv1, ts1, by rw [← HE2.out]; exact HSW.out.alloc _, HTT.out.1.alloc _, HTT.out.2⟩
      · have hnm2 : ¬ (n : Int) = most := by omega
        have HNM := Lib.hid hnm
        clear hnm
        cases hdd : st1.dead i with
        | true =>
          rw [hdd] at hd
          have HDD := Lib.hid hdd
          clear hdd
          rcases HMR.out.shape with ⟨rfl, _⟩ | ⟨T, y, rfl⟩
          all_goals
            go_wp2
            go_roundw
            case rel =>
              have he := HEQ.out
              rw [show st.na - i = (st.na - (i + 1)) + 1 by omega, St.rnd_dead HNM.out HDD.out] at he
              exact ⟨i + 1, n, o1, tv1, ts1, st1, by go_num, rfl, by omega, hn, HNA.out, HSW.out.alloc _, he, HLEN.out, HTT.out.1.alloc _, HTT.out.2⟩
            case measure => simp [intOf]; omega
        | false =>
          rw [hdd] at hd
          have HDD := Lib.hid hdd
          clear hdd
          rcases HMR.out.shape with ⟨rfl, _⟩ | ⟨T, y, rfl⟩
          · skip
            have HBX := Lib.hid ((Below.refl wr.heap.size wr).alloc (Nat.le_refl _) (.cells #[.nilIface, .bool false] 87))
            have HNXT := Lib.hid (next_told (HMR.out.keep HBX.out.size fun k hk => HBX.out.block k (HSW.out.lt k (by rw [hk]; simp))) (fun k hk => Nat.lt_of_lt_of_le (HSW.out.lt k (by rw [hk]; simp)) HBX.out.size))
            have hna1 := HNA.out
            cases hnx : (st1.ms i).next with
            | none =>
              rw [hnx] at HNXT
              have HNX := Lib.hid hnx
              clear hnx
              go_wp2_with (go_at_call 30; refine HNXT.out.mono ?_; rintro e w2 ⟨hb2, he⟩; have he2 : e = .returned (.tuple #[.agg #[.int .i64 0, .int .i64 0, .int .i64 0, .int .u64 0, .int .u64 0, .slice none 0 0], .bool false]) := he; subst he2; have HB2 := Lib.hid hb2; clear hb2 he)
              go_roundw
              case rel =>
                have he := HEQ.out
                rw [show st.na - i = (st.na - (i + 1)) + 1 by omega, St.rnd_end HNM.out HDD.out HNX.out] at he
                have hbb := HBX.out.after HB2.out
                exact ⟨i + 1, n, o1, tv1, ts1, st1, by go_num, rfl, by omega, hn, HNA.out, (HSW.out.below hbb).alloc _, he, HLEN.out, (HTT.out.1.trans (Touch.of_below hbb)).alloc _, HTT.out.2⟩
              case measure => simp [intOf]; omega
            | some a =>
              rw [hnx] at HNXT
              have HNX := Lib.hid hnx
              clear hnx
              go_wp2_with (go_at_call 30; refine HNXT.out.mono ?_; rintro e w2 ⟨hb2, he⟩; obtain ⟨A, l, c, he2, ho⟩ := he; subst he2; have HB2 := Lib.hid (And.intro hb2 ho); clear hb2 ho)
              generalize hW3 : w2.alloc (.cells #[.int .i64 a.K, .int .i64 a.P, .int .i64 a.N, .int .u64 a.V, .int .u64 a.U, .slice A l c] 47) = W3
              have hb3 : Below w2.heap.size w2 W3 := by rw [← hW3]; exact (Below.refl _ w2).alloc (Nat.le_refl _) _
              have hbk : W3.heap[w2.heap.size]? = some (.cells #[.int .i64 a.K, .int .i64 a.P, .int .i64 a.N, .int .u64 a.V, .int .u64 a.U, .slice A l c] 47 (0, 0)) := by rw [← hW3]; exact Go.Deep.blk_alloc_new _ _
              have hbb := (HBX.out.after HB2.out.1).after hb3
              have HS3 := Lib.hid (HSW.out.below hbb)
              have HO3 := Lib.hid (HB2.out.2.below hb3)
              have hsx := HBX.out.size
              have hlst : st1.tr.length = ts1.length := by rw [HSW.out.told, List.length_map]
              have hlen := HLEN.out
              have HCL := Lib.hid (step_act HS3.out i (by omega) a HNX.out HO3.out (fun k hk => Nat.lt_of_lt_of_le (HSW.out.lt k hk) hsx) (by omega))
              have b0 : W3.cell? ⟨w2.heap.size, 0, none⟩ = some (.int .i64 a.K) := by simp [World.cell?, hbk]
              have b1 : W3.cell? ⟨w2.heap.size, 1, none⟩ = some (.int .i64 a.P) := by simp [World.cell?, hbk]
              have b2 : W3.cell? ⟨w2.heap.size, 2, none⟩ = some (.int .i64 a.N) := by simp [World.cell?, hbk]
              have b3 : W3.cell? ⟨w2.heap.size, 3, none⟩ = some (.int .u64 a.V) := by simp [World.cell?, hbk]
              have b4 : W3.cell? ⟨w2.heap.size, 4, none⟩ = some (.int .u64 a.U) := by simp [World.cell?, hbk]
              have b5 : W3.cell? ⟨w2.heap.size, 5, none⟩ = some (.slice A l c) := by simp [World.cell?, hbk]
              have HBB := Lib.hid hbb
              clear hW3 hbk hbb hb3
              go_wp2_with (go_at_call 31; refine HCL.out.mono ?_; rintro e w9 ⟨⟨v9, r9, he9⟩, ho9⟩; subst he9; have HO9 := Lib.hid ho9; clear ho9)
              go_roundw
              case rel =>
                have he := HEQ.out
                rw [show st.na - i = (st.na - (i + 1)) + 1 by omega, St.rnd_act HNM.out HDD.out HNX.out] at he
                obtain ⟨o9, tv9, ts9, z1, z2, z3⟩ := HO9.out
                have hall := own_trans (HTT.out.1.trans (Touch.of_below HBB.out)) HTT.out.2 z2 z3
                exact ⟨i + 1, n + 1, o9, tv9, ts9, st1.act i a, by go_num, by go_num, by omega, by omega, by rw [St.act_na]; exact HNA.out, z1, he, by have := St.act_tr st1 i a; omega, hall.1, hall.2⟩
              case measure => simp [intOf]; omega
          · skip
            have HBX := Lib.hid ((Below.refl wr.heap.size wr).alloc (Nat.le_refl _) (.cells #[.iface T y, .bool false] 87))
            have HNXT := Lib.hid (next_told (HMR.out.keep HBX.out.size fun k hk => HBX.out.block k (HSW.out.lt k (by rw [hk]; simp))) (fun k hk => Nat.lt_of_lt_of_le (HSW.out.lt k (by rw [hk]; simp)) HBX.out.size))
            have hna1 := HNA.out
            cases hnx : (st1.ms i).next with
            | none =>
              rw [hnx] at HNXT
              have HNX := Lib.hid hnx
              clear hnx
              go_wp2_with (go_at_call 30; refine HNXT.out.mono ?_; rintro e w2 ⟨hb2, he⟩; have he2 : e = .returned (.tuple #[.agg #[.int .i64 0, .int .i64 0, .int .i64 0, .int .u64 0, .int .u64 0, .slice none 0 0], .bool false]) := he; subst he2; have HB2 := Lib.hid hb2; clear hb2 he)
              go_roundw
              case rel =>
                have he := HEQ.out
                rw [show st.na - i = (st.na - (i + 1)) + 1 by omega, St.rnd_end HNM.out HDD.out HNX.out] at he
                have hbb := HBX.out.after HB2.out
                exact ⟨i + 1, n, o1, tv1, ts1, st1, by go_num, rfl, by omega, hn, HNA.out, (HSW.out.below hbb).alloc _, he, HLEN.out, (HTT.out.1.trans (Touch.of_below hbb)).alloc _, HTT.out.2⟩
              case measure => simp [intOf]; omega
            | some a =>
              rw [hnx] at HNXT
              have HNX := Lib.hid hnx
              clear hnx
              go_wp2_with (go_at_call 30; refine HNXT.out.mono ?_; rintro e w2 ⟨hb2, he⟩; obtain ⟨A, l, c, he2, ho⟩ := he; subst he2; have HB2 := Lib.hid (And.intro hb2 ho); clear hb2 ho)
              generalize hW3 : w2.alloc (.cells #[.int .i64 a.K, .int .i64 a.P, .int .i64 a.N, .int .u64 a.V, .int .u64 a.U, .slice A l c] 47) = W3
              have hb3 : Below w2.heap.size w2 W3 := by rw [← hW3]; exact (Below.refl _ w2).alloc (Nat.le_refl _) _
              have hbk : W3.heap[w2.heap.size]? = some (.cells #[.int .i64 a.K, .int .i64 a.P, .int .i64 a.N, .int .u64 a.V, .int .u64 a.U, .slice A l c] 47 (0, 0)) := by rw [← hW3]; exact Go.Deep.blk_alloc_new _ _
              have hbb := (HBX.out.after HB2.out.1).after hb3
              have HS3 := Lib.hid (HSW.out.below hbb)
              have HO3 := Lib.hid (HB2.out.2.below hb3)
              have hsx := HBX.out.size
              have hlst : st1.tr.length = ts1.length := by rw [HSW.out.told, List.length_map]
              have hlen := HLEN.out
              have HCL := Lib.hid (step_act HS3.out i (by omega) a HNX.out HO3.out (fun k hk => Nat.lt_of_lt_of_le (HSW.out.lt k hk) hsx) (by omega))
              have b0 : W3.cell? ⟨w2.heap.size, 0, none⟩ = some (.int .i64 a.K) := by simp [World.cell?, hbk]
              have b1 : W3.cell? ⟨w2.heap.size, 1, none⟩ = some (.int .i64 a.P) := by simp [World.cell?, hbk]
              have b2 : W3.cell? ⟨w2.heap.size, 2, none⟩ = some (.int .i64 a.N) := by simp [World.cell?, hbk]
              have b3 : W3.cell? ⟨w2.heap.size, 3, none⟩ = some (.int .u64 a.V) := by simp [World.cell?, hbk]
              have b4 : W3.cell? ⟨w2.heap.size, 4, none⟩ = some (.int .u64 a.U) := by simp [World.cell?, hbk]
              have b5 : W3.cell? ⟨w2.heap.size, 5, none⟩ = some (.slice A l c) := by simp [World.cell?, hbk]
              have HBB := Lib.hid hbb
              clear hW3 hbk hbb hb3
              go_wp2_with (go_at_call 31; refine HCL.out.mono ?_; rintro e w9 ⟨⟨v9, r9, he9⟩, ho9⟩; subst he9; have HO9 := Lib.hid ho9; clear ho9)
              go_roundw
              case rel =>
                have he := HEQ.out
                rw [show st.na - i = (st.na - (i + 1)) + 1 by omega, St.rnd_act HNM.out HDD.out HNX.out] at he
                obtain ⟨o9, tv9, ts9, z1, z2, z3⟩ := HO9.out
                have hall := own_trans (HTT.out.1.trans (Touch.of_below HBB.out)) HTT.out.2 z2 z3
                exact ⟨i + 1, n + 1, o9, tv9, ts9, st1.act i a, by go_num, by go_num, by omega, by omega, by rw [St.act_na]; exact HNA.out, z1, he, by have := St.act_tr st1 i a; omega, hall.1, hall.2⟩
              case measure => simp [intOf]; omega
    · obtain rfl : i = st.na := by omega
      have he := HEQ.out
      rw [Nat.sub_self] at he
      have HE2 : Hid ((st1, n) = res) := Lib.hid he
      clear he
      go_wp2
      go_ret
      exact ⟨by rw [← HE2.out]; rfl, o1, tv1, ts1, by rw [← HE2.out]; exact HSW.out, HTT.out⟩
end Go.Proofs.Ytijgfaggakbajaa
namespace Go.Proofs.Ytijgfaggakbajaa
open Go.RowKit

/-- Rounds, as long as somebody does something and fewer than 'most' steps were done. -/
def St.rob : Nat → St → Nat → Nat → St × Nat
  | 0, st, n, _ => (st, n)
  | f + 1, st, n, most =>
    if n < most then (if (St.rnd st.na st 0 0 (most - n)).2 = 0 then ((St.rnd st.na st 0 0 (most - n)).1, n) else St.rob f (St.rnd st.na st 0 0 (most - n)).1 (n + (St.rnd st.na st 0 0 (most - n)).2) most)
    else (st, n)
/-- Robin: the state, how many steps were done. -/
def St.robin (st : St) (most : Nat) : St × Nat := St.rob most st 0 most

theorem St.rnd_facts (k : Nat) : ∀ (st : St) (i n most : Nat), n ≤ most → n ≤ (St.rnd k st i n most).2 ∧ (St.rnd k st i n most).2 ≤ most ∧ (St.rnd k st i n most).1.tr.length ≤ st.tr.length + ((St.rnd k st i n most).2 - n) ∧ (St.rnd k st i n most).1.na = st.na := by
  induction k with
  | zero => exact fun st i n most h => ⟨Nat.le_refl _, h, Nat.le_add_right _ _, rfl⟩
  | succ k ih =>
    intro st i n most h
    by_cases hnm : n = most
    · subst hnm
      rw [St.rnd_most]
      exact ⟨Nat.le_refl _, Nat.le_refl _, Nat.le_add_right _ _, rfl⟩
    · cases hd : st.dead i with
      | true => rw [St.rnd_dead hnm hd]; exact ih st (i + 1) n most h
      | false =>
        cases hn : (st.ms i).next with
        | none => rw [St.rnd_end hnm hd hn]; exact ih st (i + 1) n most h
        | some a =>
          rw [St.rnd_act hnm hd hn]
          obtain ⟨h1, h2, h3, h4⟩ := ih (st.act i a) (i + 1) (n + 1) most (by omega)
          have h5 := St.act_tr st i a
          exact ⟨by omega, h2, by omega, h4.trans (St.act_na st i a)⟩

theorem St.rob_end (f : Nat) (st : St) (n most : Nat) (h : ¬ n < most) : St.rob f st n most = (st, n) := by
  cases f with
  | zero => rfl
  | succ f => show (if n < most then _ else _) = _; rw [if_neg h]
theorem St.rob_idle (f : Nat) (st : St) (n most : Nat) (h : n < most) (h0 : (St.rnd st.na st 0 0 (most - n)).2 = 0) : St.rob (f + 1) st n most = ((St.rnd st.na st 0 0 (most - n)).1, n) := by
  show (if n < most then _ else _) = _
  rw [if_pos h, if_pos h0]
theorem St.rob_next (f : Nat) (st : St) (n most : Nat) (h : n < most) (h0 : ¬ (St.rnd st.na st 0 0 (most - n)).2 = 0) : St.rob (f + 1) st n most = St.rob f (St.rnd st.na st 0 0 (most - n)).1 (n + (St.rnd st.na st 0 0 (most - n)).2) most := by
  show (if n < most then _ else _) = _
  rw [if_pos h, if_neg h0]

set_option maxRecDepth 100000 in
set_option maxHeartbeats 2000000 in
theorem robin_any {w : World} {o : Nat → Pt} {gw ga gb hb : Nat} {ax : Nat → Value} {tv : Value} {ts : List Tx} {st : St} (h : Sw w o gw ga gb hb ax tv ts st) (most : Nat) (hlong : st.tr.length + most ≤ 1000000) :
    Calls Try.prog 14 #[.pointer (some ⟨gw, 0, none⟩), .int .i64 most] w
      fun e w' => e = .returned (.int .i64 (st.robin most).2) ∧ ∃ o' tv' ts', Sw w' o' gw ga gb hb ax tv' ts' (st.robin most).1 ∧ Touch (Own o) w w' ∧ ∀ k, k < w.heap.size → o' k = o k := by
  have HS := Lib.hid h
  obtain ⟨res, hres⟩ : ∃ res, St.rob most st 0 most = res := ⟨_, rfl⟩
  unfold St.robin
  rw [hres]
  have HRES := Lib.hid hres
  have hmost : most ≤ 1000000 := by omega
  have HL := Lib.hid hlong
  clear h hres hlong
  go_enter Try.func14, Try.ntmps14
  go_wp2
  go_loopw [5] (fun t5 wr => ∃ (f n : Nat) (o1 : Nat → Pt) (tv1 : Value) (ts1 : List Tx) (st1 : St), t5 = .int .i64 n ∧ n ≤ most ∧ most - n ≤ f ∧ Sw wr o1 gw ga gb hb ax tv1 ts1 st1 ∧ St.rob f st1 n most = res ∧ st1.tr.length + (most - n) ≤ 1000000 ∧ Touch (Own o) w wr ∧ ∀ k, k < w.heap.size → o1 k = o k) (fun t5 _ => most - (intOf t5).toNat)
  case atStart => exact ⟨most, 0, o, tv, ts, st, rfl, Nat.zero_le _, Nat.le_refl _, HS.out, HRES.out, HL.out, Touch.refl _ _, fun _ _ => rfl⟩
  case round =>
    obtain ⟨f, n, o1, tv1, ts1, st1, rfl, hn, hf, hsw, heq, hlen, htt, hoo⟩ := hrel
    have HSW := Lib.hid hsw
    have HEQ := Lib.hid heq
    have HLEN := Lib.hid hlen
    have HTT := Lib.hid (And.intro htt hoo)
    clear htt hoo heq hlen hsw
    by_cases hlt : n < most
    · have hsub : IntKind.i64.wrap ((most : Int) - n) = ((most - n : Nat) : Int) := by rw [IntWalk.i64_in _ (by omega)]; omega
      obtain ⟨rr, hrr⟩ : ∃ rr, St.rnd st1.na st1 0 0 (most - n) = rr := ⟨_, rfl⟩
      have hfa := St.rnd_facts st1.na st1 0 0 (most - n) (Nat.zero_le _)
      have hro := round_any HSW.out (most - n) HLEN.out
      rw [hrr] at hfa hro
      have HRO := Lib.hid hro
      have HRR := Lib.hid hrr
      have hd2 := hfa.2.1
      have HFA := Lib.hid hfa
      clear hro hrr hfa
      obtain ⟨d, hd⟩ : ∃ d, rr.2 = d := ⟨_, rfl⟩
      rw [hd] at HRO hd2
      have HD := Lib.hid hd
      clear hd
      obtain ⟨f, rfl⟩ : ∃ f', f = f' + 1 := ⟨f - 1, by omega⟩
      by_cases h0 : d = 0
      · subst h0
        go_wp2_with (go_at_call 35; refine HRO.out.mono ?_; rintro e w2 ⟨rfl, ho⟩; have HO := Lib.hid ho; clear ho)
        go_ret
        have he := HEQ.out
        rw [St.rob_idle _ _ _ _ hlt (by rw [HRR.out]; exact HD.out), HRR.out] at he
        obtain ⟨o9, tv9, ts9, z1, z2, z3⟩ := HO.out
        have hall := own_trans HTT.out.1 HTT.out.2 z2 z3
        exact ⟨by rw [← he]; rfl, o9, tv9, ts9, by rw [← he]; exact z1, hall.1, hall.2⟩
      · have h0i : ¬ (d : Int) = 0 := by omega
        go_wp2_with (go_at_call 35; refine HRO.out.mono ?_; rintro e w2 ⟨rfl, ho⟩; have HO := Lib.hid ho; clear ho)
        go_roundw
        case rel =>
          have he := HEQ.out
          rw [St.rob_next _ _ _ _ hlt (by rw [HRR.out, HD.out]; exact h0), HRR.out, HD.out] at he
          obtain ⟨o9, tv9, ts9, z1, z2, z3⟩ := HO.out
          have hall := own_trans HTT.out.1 HTT.out.2 z2 z3
          have hl1 := HLEN.out
          have hl2 := HFA.out.2.2.1
          rw [HD.out] at hl2
          exact ⟨f, n + d, o9, tv9, ts9, rr.1, by go_num, by omega, by omega, z1, he, by omega, hall.1, hall.2⟩
        case measure => simp [intOf]; omega
    · obtain rfl : n = most := by omega
      have he := HEQ.out
      rw [St.rob_end _ _ _ _ hlt] at he
      have HE2 := Lib.hid he
      clear he
      go_wp2
      go_ret
      exact ⟨by rw [← HE2.out]; rfl, o1, tv1, ts1, by rw [← HE2.out]; exact HSW.out, HTT.out⟩
end Go.Proofs.Ytijgfaggakbajaa
