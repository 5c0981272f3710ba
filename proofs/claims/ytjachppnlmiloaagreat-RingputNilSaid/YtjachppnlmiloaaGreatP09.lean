/-
  Proved: for every answer the statement RingputNil (a nil machine is at its end) answers true, and its argument reads as before.
  Conditions: none beyond the row's own.
-/
import Derived.Test.YtjachppnlmiloaaGreatP08
import Derived.Test.YtjachppnlmiloaaGreatP05
import Derived.Test.YtjachppnlmiloaaGreatP03
import Derived.Deep.Slices
namespace Go.Proofs.YtjachppnlmiloaaGreat
open Go.RowKit

/-- An actor does the access that it is at. -/
def St.act (st : St) (i : Nat) (a : Ac) : St := if a.err st.nw = 0 then st.did ⟨0, i, 0⟩ i a else st.kill i

/-- So many actors from i on do a step each, as long as fewer than 'most' did: the state, how many did. -/
def St.rnd : Nat → St → Nat → Nat → Nat → St × Nat
  | 0, st, _, n, _ => (st, n)
  | k + 1, st, i, n, most =>
    if n = most then (st, n)
    else if st.dead i = true then St.rnd k st (i + 1) n most
    else match (st.ms i).next with
      | none => St.rnd k st (i + 1) n most
      | some a => St.rnd k (st.act i a) (i + 1) (n + 1) most

theorem St.act_na (st : St) (i : Nat) (a : Ac) : (st.act i a).na = st.na := by unfold St.act; split <;> rfl
theorem St.act_tr (st : St) (i : Nat) (a : Ac) : (st.act i a).tr.length ≤ st.tr.length + 1 := by
  unfold St.act
  split
  · show (st.tr ++ [_]).length ≤ _; simp
  · exact Nat.le_succ _

theorem St.rnd_most (k : Nat) (st : St) (i most : Nat) : St.rnd k st i most most = (st, most) := by
  cases k with
  | zero => rfl
  | succ k => show (if most = most then _ else _) = _; rw [if_pos rfl]
theorem St.rnd_dead {k : Nat} {st : St} {i n most : Nat} (h : n ≠ most) (hd : st.dead i = true) : St.rnd (k + 1) st i n most = St.rnd k st (i + 1) n most := by
  show (if n = most then _ else _) = _
  rw [if_neg h, if_pos hd]
theorem St.rnd_end {k : Nat} {st : St} {i n most : Nat} (h : n ≠ most) (hd : st.dead i = false) (hn : (st.ms i).next = none) : St.rnd (k + 1) st i n most = St.rnd k st (i + 1) n most := by
  show (if n = most then _ else _) = _
  rw [if_neg h, if_neg (by rw [hd]; simp), hn]
theorem St.rnd_act {k : Nat} {st : St} {i n most : Nat} {a : Ac} (h : n ≠ most) (hd : st.dead i = false) (hn : (st.ms i).next = some a) : St.rnd (k + 1) st i n most = St.rnd k (st.act i a) (i + 1) (n + 1) most := by
  show (if n = most then _ else _) = _
  rw [if_neg h, if_neg (by rw [hd]; simp), hn]

/-- A step by the state alone: the event is told. -/
theorem step_act {w : World} {o : Nat → Pt} {gw ga gb hb : Nat} {ax : Nat → Value} {tv : Value} {ts : List Tx} {st : St} (h : Sw w o gw ga gb hb ax tv ts st) (i : Nat) (hi : i < st.na) (a : Ac) (hn : (st.ms i).next = some a)
    {base : Nat} {A : Option Addr} {l cp : Nat} (ho : Owns base w (.slice A l cp) a.bs) (hbase : ∀ k, o k ≠ .no → k < base) (hlong : ts.length ≤ 1000000) :
    Calls Tryz.prog 67 #[.pointer (some ⟨gw, 0, none⟩), .agg #[.int .i64 0, .int .i64 (i : Nat), .int .i64 0], .agg #[.int .i64 a.K, .int .i64 a.P, .int .i64 a.N, .int .u64 a.V, .int .u64 a.U, .slice A l cp]] w
      fun e w' => (∃ v r, e = .returned (.tuple #[.agg v, .int .i64 r])) ∧ ∃ o' tv' ts', Sw w' o' gw ga gb hb ax tv' ts' (st.act i a) ∧ Touch (Own o) w w' ∧ ∀ k, k < w.heap.size → o' k = o k := by
  unfold St.act
  by_cases h0 : a.err st.nw = 0
  · rw [if_pos h0]
    refine (step_ok h ⟨0, (i : Nat), 0⟩ i rfl hi a ((h.mach i hi).fine hn) hn ho hbase h0 hlong).mono ?_
    rintro e w' ⟨o', A2, l2, c2, tv', ts', he, _, hs, ht, ho'⟩
    exact ⟨⟨_, _, he⟩, o', tv', ts', hs, ht, ho'⟩
  · rw [if_neg h0]
    refine (step_no h ⟨0, (i : Nat), 0⟩ i rfl hi a ho h0).mono ?_
    rintro e w' ⟨he, hs, ht⟩
    exact ⟨⟨_, _, he⟩, o, tv, ts, hs, ht, fun _ _ => rfl⟩

set_option maxRecDepth 100000 in
set_option maxHeartbeats 4000000 in
theorem round_any {w : World} {o : Nat → Pt} {gw ga gb hb : Nat} {ax : Nat → Value} {tv : Value} {ts : List Tx} {st : St} (h : Sw w o gw ga gb hb ax tv ts st) (most : Nat) (hlong : st.tr.length + most ≤ 1000000) :
    Calls Tryz.prog 57 #[.pointer (some ⟨gw, 0, none⟩), .int .i64 most] w
      fun e w' => e = .returned (.int .i64 (St.rnd st.na st 0 0 most).2) ∧ ∃ o' tv' ts', Sw w' o' gw ga gb hb ax tv' ts' (St.rnd st.na st 0 0 most).1 ∧ Touch (Own o) w w' ∧ ∀ k, k < w.heap.size → o' k = o k := by
  have hc1 := h.w1
  have hfew := h.few
  have HS := Lib.hid h
  obtain ⟨res, hres⟩ : ∃ res, St.rnd st.na st 0 0 most = res := ⟨_, rfl⟩
  rw [hres]
  have HRES := Lib.hid hres
  have hmost : most ≤ 1000000 := by omega
  have HL := Lib.hid hlong
  clear h hres hlong
  go_enter Tryz.func57, Tryz.ntmps57
  go_wp2
  go_loopw [17, 5] (fun t17 t5 wr => ∃ (i n : Nat) (o1 : Nat → Pt) (tv1 : Value) (ts1 : List Tx) (st1 : St), t17 = .int .i64 i ∧ t5 = .int .i64 n ∧ i ≤ st.na ∧ n ≤ most ∧ st1.na = st.na ∧ Sw wr o1 gw ga gb hb ax tv1 ts1 st1 ∧ St.rnd (st.na - i) st1 i n most = res ∧ st1.tr.length + (most - n) ≤ 1000000 ∧ Touch (Own o) w wr ∧ ∀ k, k < w.heap.size → o1 k = o k) (fun t17 _ _ => st.na - (intOf t17).toNat)
  case atStart => exact ⟨0, 0, o, tv, ts, st, rfl, rfl, Nat.zero_le _, Nat.zero_le _, rfl, HS.out, HRES.out, HL.out, Touch.refl _ _, fun _ _ => rfl⟩
  case round =>
    obtain ⟨i, n, o1, tv1, ts1, st1, rfl, rfl, hi, hn, hna, hsw, heq, hlen, htt, hoo⟩ := hrel
    have HSW := Lib.hid hsw
    have HEQ := Lib.hid heq
    have HLEN := Lib.hid hlen
    have HTT := Lib.hid (And.intro htt hoo)
    have HNA := Lib.hid hna
    clear htt hoo heq hlen
    by_cases hlt : i < st.na
    · have hm := hsw.amach (i := i) (by omega)
      have hd := hsw.adead (i := i) (by omega)
      have HMR := Lib.hid (hsw.mach i (by omega))
      generalize hx : ax i = x at hm HMR
      have HX := Lib.hid hx
      clear hsw hx hna
      by_cases hnm : n = most
      · subst hnm
        have he := HEQ.out
        rw [St.rnd_most] at he
        have HE2 := Lib.hid he
        clear he
        rcases HMR.out.shape with ⟨rfl, _⟩ | ⟨T, y, rfl⟩
        all_goals
          go_wp2
          go_ret
          exact ⟨by rw [← HE2.out]; rfl, o1, tv1, ts1, by rw [← HE2.out]; exact HSW.out.alloc _, HTT.out.1.alloc _, HTT.out.2⟩
      · have hnm2 : ¬ (n : Int) = most := by omega
        have HNM := Lib.hid hnm
        clear hnm
        cases hdd : st1.dead i with
        | true =>
          rw [hdd] at hd
          have HDD := Lib.hid hdd
          clear hdd
          rcases HMR.out.shape with ⟨rfl, _⟩ | ⟨T, y, rfl⟩
          all_goals
            go_wp2
            go_roundw
            case rel =>
              have he := HEQ.out
              rw [show st.na - i = (st.na - (i + 1)) + 1 by omega, St.rnd_dead HNM.out HDD.out] at he
              exact ⟨i + 1, n, o1, tv1, ts1, st1, by go_num, rfl, by omega, hn, HNA.out, HSW.out.alloc _, he, HLEN.out, HTT.out.1.alloc _, HTT.out.2⟩
            case measure => simp [intOf]; omega
        | false =>
          rw [hdd] at hd
          have HDD := Lib.hid hdd
          clear hdd
          rcases HMR.out.shape with ⟨rfl, _⟩ | ⟨T, y, rfl⟩
          · skip
            have HBX := Lib.hid ((Below.refl wr.heap.size wr).alloc (Nat.le_refl _) (.cells #[.nilIface, .bool false] 124))
            have HNXT := Lib.hid (next_told (HMR.out.keep HBX.out.size fun k hk => HBX.out.block k (HSW.out.lt k (by rw [hk]; simp))) (fun k hk => Nat.lt_of_lt_of_le (HSW.out.lt k (by rw [hk]; simp)) HBX.out.size))
            have hna1 := HNA.out
            cases hnx : (st1.ms i).next with
            | none =>
              rw [hnx] at HNXT
              have HNX := Lib.hid hnx
              clear hnx
              go_wp2_with (go_at_call 66; refine HNXT.out.mono ?_; rintro e w2 ⟨hb2, he⟩; have he2 : e = .returned (.tuple #[.agg #[.int .i64 0, .int .i64 0, .int .i64 0, .int .u64 0, .int .u64 0, .slice none 0 0], .bool false]) := he; subst he2; have HB2 := Lib.hid hb2; clear hb2 he)
              go_roundw
              case rel =>
                have he := HEQ.out
                rw [show st.na - i = (st.na - (i + 1)) + 1 by omega, St.rnd_end HNM.out HDD.out HNX.out] at he
                have hbb := HBX.out.after HB2.out
                exact ⟨i + 1, n, o1, tv1, ts1, st1, by go_num, rfl, by omega, hn, HNA.out, (HSW.out.below hbb).alloc _, he, HLEN.out, (HTT.out.1.trans (Touch.of_below hbb)).alloc _, HTT.out.2⟩
              case measure => simp [intOf]; omega
            | some a =>
              rw [hnx] at HNXT
              have HNX := Lib.hid hnx
              clear hnx
              go_wp2_with (go_at_call 66; refine HNXT.out.mono ?_; rintro e w2 ⟨hb2, he⟩; obtain ⟨A, l, c, he2, ho⟩ := he; subst he2; have HB2 := Lib.hid (And.intro hb2 ho); clear hb2 ho)
              generalize hW3 : w2.alloc (.cells #[.int .i64 a.K, .int .i64 a.P, .int .i64 a.N, .int .u64 a.V, .int .u64 a.U, .slice A l c] 45) = W3
              have hb3 : Below w2.heap.size w2 W3 := by rw [← hW3]; exact (Below.refl _ w2).alloc (Nat.le_refl _) _
              have hbk : W3.heap[w2.heap.size]? = some (.cells #[.int .i64 a.K, .int .i64 a.P, .int .i64 a.N, .int .u64 a.V, .int .u64 a.U, .slice A l c] 45 (0, 0)) := by rw [← hW3]; exact Go.Deep.blk_alloc_new _ _
              have hbb := (HBX.out.after HB2.out.1).after hb3
              have HS3 := Lib.hid (HSW.out.below hbb)
              have HO3 := Lib.hid (HB2.out.2.below hb3)
              have hsx := HBX.out.size
              have hlst : st1.tr.length = ts1.length := by rw [HSW.out.told, List.length_map]
              have hlen := HLEN.out
              have HCL := Lib.hid (step_act HS3.out i (by omega) a HNX.out HO3.out (fun k hk => Nat.lt_of_lt_of_le (HSW.out.lt k hk) hsx) (by omega))
              have b0 : W3.cell? ⟨w2.heap.size, 0, none⟩ = some (.int .i64 a.K) := by simp [World.cell?, hbk]
              have b1 : W3.cell? ⟨w2.heap.size, 1, none⟩ = some (.int .i64 a.P) := by simp [World.cell?, hbk]
              have b2 : W3.cell? ⟨w2.heap.size, 2, none⟩ = some (.int .i64 a.N) := by simp [World.cell?, hbk]
              have b3 : W3.cell? ⟨w2.heap.size, 3, none⟩ = some (.int .u64 a.V) := by simp [World.cell?, hbk]
              have b4 : W3.cell? ⟨w2.heap.size, 4, none⟩ = some (.int .u64 a.U) := by simp [World.cell?, hbk]
              have b5 : W3.cell? ⟨w2.heap.size, 5, none⟩ = some (.slice A l c) := by simp [World.cell?, hbk]
              have HBB := Lib.hid hbb
              clear hW3 hbk hbb hb3
              go_wp2_with (go_at_call 67; refine HCL.out.mono ?_; rintro e w9 ⟨⟨v9, r9, he9⟩, ho9⟩; subst he9; have HO9 := Lib.hid ho9; clear ho9)
              go_roundw
              case rel =>
                have he := HEQ.out
                rw [show st.na - i = (st.na - (i + 1)) + 1 by omega, St.rnd_act HNM.out HDD.out HNX.out] at he
                obtain ⟨o9, tv9, ts9, z1, z2, z3⟩ := HO9.out
                have hall := own_trans (HTT.out.1.trans (Touch.of_below HBB.out)) HTT.out.2 z2 z3
                exact ⟨i + 1, n + 1, o9, tv9, ts9, st1.act i a, by go_num, by go_num, by omega, by omega, by rw [St.act_na]; exact HNA.out, z1, he, by have := St.act_tr st1 i a; omega, hall.1, hall.2⟩
              case measure => simp [intOf]; omega
          · skip
            have HBX := Lib.hid ((Below.refl wr.heap.size wr).alloc (Nat.le_refl _) (.cells #[.iface T y, .bool false] 124))
            have HNXT := Lib.hid (next_told (HMR.out.keep HBX.out.size fun k hk => HBX.out.block k (HSW.out.lt k (by rw [hk]; simp))) (fun k hk => Nat.lt_of_lt_of_le (HSW.out.lt k (by rw [hk]; simp)) HBX.out.size))
            have hna1 := HNA.out
            cases hnx : (st1.ms i).next with
            | none =>
              rw [hnx] at HNXT
              have HNX := Lib.hid hnx
              clear hnx
              go_wp2_with (go_at_call 66; refine HNXT.out.mono ?_; rintro e w2 ⟨hb2, he⟩; have he2 : e = .returned (.tuple #[.agg #[.int .i64 0, .int .i64 0, .int .i64 0, .int .u64 0, .int .u64 0, .slice none 0 0], .bool false]) := he; subst he2; have HB2 := Lib.hid hb2; clear hb2 he)
              go_roundw
              case rel =>
                have he := HEQ.out
                rw [show st.na - i = (st.na - (i + 1)) + 1 by omega, St.rnd_end HNM.out HDD.out HNX.out] at he
                have hbb := HBX.out.after HB2.out
                exact ⟨i + 1, n, o1, tv1, ts1, st1, by go_num, rfl, by omega, hn, HNA.out, (HSW.out.below hbb).alloc _, he, HLEN.out, (HTT.out.1.trans (Touch.of_below hbb)).alloc _, HTT.out.2⟩
              case measure => simp [intOf]; omega
            | some a =>
              rw [hnx] at HNXT
              have HNX := Lib.hid hnx
              clear hnx
              go_wp2_with (go_at_call 66; refine HNXT.out.mono ?_; rintro e w2 ⟨hb2, he⟩; obtain ⟨A, l, c, he2, ho⟩ := he; subst he2; have HB2 := Lib.hid (And.intro hb2 ho); clear hb2 ho)
              generalize hW3 : w2.alloc (.cells #[.int .i64 a.K, .int .i64 a.P, .int .i64 a.N, .int .u64 a.V, .int .u64 a.U, .slice A l c] 45) = W3
              have hb3 : Below w2.heap.size w2 W3 := by rw [← hW3]; exact (Below.refl _ w2).alloc (Nat.le_refl _) _
              have hbk : W3.heap[w2.heap.size]? = some (.cells #[.int .i64 a.K, .int .i64 a.P, .int .i64 a.N, .int .u64 a.V, .int .u64 a.U, .slice A l c] 45 (0, 0)) := by rw [← hW3]; exact Go.Deep.blk_alloc_new _ _
              have hbb := (HBX.out.after HB2.out.1).after hb3
              have HS3 := Lib.hid (HSW.out.below hbb)
              have HO3 := Lib.hid (HB2.out.2.below hb3)
              have hsx := HBX.out.size
              have hlst : st1.tr.length = ts1.length := by rw [HSW.out.told, List.length_map]
              have hlen := HLEN.out
              have HCL := Lib.hid (step_act HS3.out i (by omega) a HNX.out HO3.out (fun k hk => Nat.lt_of_lt_of_le (HSW.out.lt k hk) hsx) (by omega))
              have b0 : W3.cell? ⟨w2.heap.size, 0, none⟩ = some (.int .i64 a.K) := by simp [World.cell?, hbk]
              have b1 : W3.cell? ⟨w2.heap.size, 1, none⟩ = some (.int .i64 a.P) := by simp [World.cell?, hbk]
              have b2 : W3.cell? ⟨w2.heap.size, 2, none⟩ = some (.int .i64 a.N) := by simp [World.cell?, hbk]
              have b3 : W3.cell? ⟨w2.heap.size, 3, none⟩ = some (.int .u64 a.V) := by simp [World.cell?, hbk]
              have b4 : W3.cell? ⟨w2.heap.size, 4, none⟩ = some (.int .u64 a.U) := by simp [World.cell?, hbk]
              have b5 : W3.cell? ⟨w2.heap.size, 5, none⟩ = some (.slice A l c) := by simp [World.cell?, hbk]
              have HBB := Lib.hid hbb
              clear hW3 hbk hbb hb3
              go_wp2_with (go_at_call 67; refine HCL.out.mono ?_; rintro e w9 ⟨⟨v9, r9, he9⟩, ho9⟩; subst he9; have HO9 := Lib.hid ho9; clear ho9)
              go_roundw
              case rel =>
                have he := HEQ.out
                rw [show st.na - i = (st.na - (i + 1)) + 1 by omega, St.rnd_act HNM.out HDD.out HNX.out] at he
                obtain ⟨o9, tv9, ts9, z1, z2, z3⟩ := HO9.out
                have hall := own_trans (HTT.out.1.trans (Touch.of_below HBB.out)) HTT.out.2 z2 z3
                exact ⟨i + 1, n + 1, o9, tv9, ts9, st1.act i a, by go_num, by go_num, by omega, by omega, by rw [St.act_na]; exact HNA.out, z1, he, by have := St.act_tr st1 i a; omega, hall.1, hall.2⟩
              case measure => simp [intOf]; omega
    · obtain rfl : i = st.na := by omega
      have he := HEQ.out
      rw [Nat.sub_self] at he
      have HE2 : Hid ((st1, n) = res) := Lib.hid he
      clear he
      go_wp2
      go_ret
      exact ⟨by rw [← HE2.out]; rfl, o1, tv1, ts1, by rw [← HE2.out]; exact HSW.out, HTT.out⟩
end Go.Proofs.YtjachppnlmiloaaGreat
namespace Go.Proofs.YtjachppnlmiloaaGreat
open Go.RowKit

/-- Rounds, as long as somebody does something and fewer than 'most' steps were done. -/
def St.rob : Nat → St → Nat → Nat → St × Nat
  | 0, st, n, _ => (st, n)
  | f + 1, st, n, most =>
    if n < most then (if (St.rnd st.na st 0 0 (most - n)).2 = 0 then ((St.rnd st.na st 0 0 (most - n)).1, n) else St.rob f (St.rnd st.na st 0 0 (most - n)).1 (n + (St.rnd st.na st 0 0 (most - n)).2) most)
    else (st, n)
/-- Robin: the state, how many steps were done. -/
def St.robin (st : St) (most : Nat) : St × Nat := St.rob most st 0 most

theorem St.rnd_facts (k : Nat) : ∀ (st : St) (i n most : Nat), n ≤ most → n ≤ (St.rnd k st i n most).2 ∧ (St.rnd k st i n most).2 ≤ most ∧ (St.rnd k st i n most).1.tr.length ≤ st.tr.length + ((St.rnd k st i n most).2 - n) ∧ (St.rnd k st i n most).1.na = st.na := by
  induction k with
  | zero => exact fun st i n most h => ⟨Nat.le_refl _, h, Nat.le_add_right _ _, rfl⟩
  | succ k ih =>
    intro st i n most h
    by_cases hnm : n = most
    · subst hnm
      rw [St.rnd_most]
      exact ⟨Nat.le_refl _, Nat.le_refl _, Nat.le_add_right _ _, rfl⟩
    · cases hd : st.dead i with
      | true => rw [St.rnd_dead hnm hd]; exact ih st (i + 1) n most h
      | false =>
        cases hn : (st.ms i).next with
        | none => rw [St.rnd_end hnm hd hn]; exact ih st (i + 1) n most h
        | some a =>
          rw [St.rnd_act hnm hd hn]
          obtain ⟨h1, h2, h3, h4⟩ := ih (st.act i a) (i + 1) (n + 1) most (by omega)
          have h5 := St.act_tr st i a
          exact ⟨by omega, h2, by omega, h4.trans (St.act_na st i a)⟩

theorem St.rob_end (f : Nat) (st : St) (n most : Nat) (h : ¬ n < most) : St.rob f st n most = (st, n) := by
  cases f with
  | zero => rfl
  | succ f => show (if n < most then _ else _) = _; rw [if_neg h]
theorem St.rob_idle (f : Nat) (st : St) (n most : Nat) (h : n < most) (h0 : (St.rnd st.na st 0 0 (most - n)).2 = 0) : St.rob (f + 1) st n most = ((St.rnd st.na st 0 0 (most - n)).1, n) := by
  show (if n < most then _ else _) = _
  rw [if_pos h, if_pos h0]
theorem St.rob_next (f : Nat) (st : St) (n most : Nat) (h : n < most) (h0 : ¬ (St.rnd st.na st 0 0 (most - n)).2 = 0) : St.rob (f + 1) st n most = St.rob f (St.rnd st.na st 0 0 (most - n)).1 (n + (St.rnd st.na st 0 0 (most - n)).2) most := by
  show (if n < most then _ else _) = _
  rw [if_pos h, if_neg h0]

set_option maxRecDepth 100000 in
set_option maxHeartbeats 2000000 in
theorem robin_any {w : World} {o : Nat → Pt} {gw ga gb hb : Nat} {ax : Nat → Value} {tv : Value} {ts : List Tx} {st : St} (h : Sw w o gw ga gb hb ax tv ts st) (most : Nat) (hlong : st.tr.length + most ≤ 1000000) :
    Calls Tryz.prog 24 #[.pointer (some ⟨gw, 0, none⟩), .int .i64 most] w
      fun e w' => e = .returned (.int .i64 (st.robin most).2) ∧ ∃ o' tv' ts', Sw w' o' gw ga gb hb ax tv' ts' (st.robin most).1 ∧ Touch (Own o) w w' ∧ ∀ k, k < w.heap.size → o' k = o k := by
  have HS := Lib.hid h
  obtain ⟨res, hres⟩ : ∃ res, St.rob most st 0 most = res := ⟨_, rfl⟩
  unfold St.robin
  rw [hres]
  have HRES := Lib.hid hres
  have hmost : most ≤ 1000000 := by omega
  have HL := Lib.hid hlong
  clear h hres hlong
  go_enter Tryz.func24, Tryz.ntmps24
  go_wp2
  go_loopw [5] (fun t5 wr => ∃ (f n : Nat) (o1 : Nat → Pt) (tv1 : Value) (ts1 : List Tx) (st1 : St), t5 = .int .i64 n ∧ n ≤ most ∧ most - n ≤ f ∧ Sw wr o1 gw ga gb hb ax tv1 ts1 st1 ∧ St.rob f st1 n most = res ∧ st1.tr.length + (most - n) ≤ 1000000 ∧ Touch (Own o) w wr ∧ ∀ k, k < w.heap.size → o1 k = o k) (fun t5 _ => most - (intOf t5).toNat)
  case atStart => exact ⟨most, 0, o, tv, ts, st, rfl, Nat.zero_le _, Nat.le_refl _, HS.out, HRES.out, HL.out, Touch.refl _ _, fun _ _ => rfl⟩
  case round =>
    obtain ⟨f, n, o1, tv1, ts1, st1, rfl, hn, hf, hsw, heq, hlen, htt, hoo⟩ := hrel
    have HSW := Lib.hid hsw
    have HEQ := Lib.hid heq
    have HLEN := Lib.hid hlen
    have HTT := Lib.hid (And.intro htt hoo)
    clear htt hoo heq hlen hsw
    by_cases hlt : n < most
    · have hsub : IntKind.i64.wrap ((most : Int) - n) = ((most - n : Nat) : Int) := by rw [IntWalk.i64_in _ (by omega)]; omega
      obtain ⟨rr, hrr⟩ : ∃ rr, St.rnd st1.na st1 0 0 (most - n) = rr := ⟨_, rfl⟩
      have hfa := St.rnd_facts st1.na st1 0 0 (most - n) (Nat.zero_le _)
      have hro := round_any HSW.out (most - n) HLEN.out
      rw [hrr] at hfa hro
      have HRO := Lib.hid hro
      have HRR := Lib.hid hrr
      have hd2 := hfa.2.1
      have HFA := Lib.hid hfa
      clear hro hrr hfa
      obtain ⟨d, hd⟩ : ∃ d, rr.2 = d := ⟨_, rfl⟩
      rw [hd] at HRO hd2
      have HD := Lib.hid hd
      clear hd
      obtain ⟨f, rfl⟩ : ∃ f', f = f' + 1 := ⟨f - 1, by omega⟩
      by_cases h0 : d = 0
      · subst h0
        go_wp2_with (go_at_call 57; refine HRO.out.mono ?_; rintro e w2 ⟨rfl, ho⟩; have HO := Lib.hid ho; clear ho)
        go_ret
        have he := HEQ.out
        rw [St.rob_idle _ _ _ _ hlt (by rw [HRR.out]; exact HD.out), HRR.out] at he
        obtain ⟨o9, tv9, ts9, z1, z2, z3⟩ := HO.out
        have hall := own_trans HTT.out.1 HTT.out.2 z2 z3
        exact ⟨by rw [← he]; rfl, o9, tv9, ts9, by rw [← he]; exact z1, hall.1, hall.2⟩
      · have h0i : ¬ (d : Int) = 0 := by omega
        go_wp2_with (go_at_call 57; refine HRO.out.mono ?_; rintro e w2 ⟨rfl, ho⟩; have HO := Lib.hid ho; clear ho)
        go_roundw
        case rel =>
          have he := HEQ.out
          rw [St.rob_next _ _ _ _ hlt (by rw [HRR.out, HD.out]; exact h0), HRR.out, HD.out] at he
          obtain ⟨o9, tv9, ts9, z1, z2, z3⟩ := HO.out
          have hall := own_trans HTT.out.1 HTT.out.2 z2 z3
          have hl1 := HLEN.out
          have hl2 := HFA.out.2.2.1
          rw [HD.out] at hl2
          exact ⟨f, n + d, o9, tv9, ts9, rr.1, by go_num, by omega, by omega, z1, he, by omega, hall.1, hall.2⟩
        case measure => simp [intOf]; omega
    · obtain rfl : n = most := by omega
      have he := HEQ.out
      rw [St.rob_end _ _ _ _ hlt] at he
      have HE2 := Lib.hid he
      clear he
      go_wp2
      go_ret
      exact ⟨by rw [← HE2.out]; rfl, o1, tv1, ts1, by rw [← HE2.out]; exact HSW.out, HTT.out⟩
end Go.Proofs.YtjachppnlmiloaaGreat
namespace Go.Proofs.YtjachppnlmiloaaGreat
open Go.RowKit

/-- A slice of n machines stands in memory: the interfaces' values. -/
def MsAt (w : World) (A : Option Addr) (n : Nat) (xs : Nat → Value) : Prop := 0 < n → ∃ b, A = some ⟨b, 0, none⟩ ∧ b < w.heap.size ∧ ∀ i, i < n → w.cell? ⟨b, i, none⟩ = some (xs i)

theorem MsAt.below {w w' : World} {A : Option Addr} {n : Nat} {xs : Nat → Value} (h : MsAt w A n xs) (hb : Below w.heap.size w w') : MsAt w' A n xs := fun hp => by
  obtain ⟨b, e, hl, hc⟩ := h hp
  exact ⟨b, e, Nat.lt_of_lt_of_le hl hb.size, fun i hi => (hb.cell (p := ⟨b, i, none⟩) hl).trans (hc i hi)⟩

/-- A new scheduler's state. -/
def St.made (n : Nat) (ms : Nat → Mc) (m : Nat → Nat) (nw : Nat) (c : Int) : St := ⟨n, ms, fun _ => false, m, nw, c, 0, []⟩

/-- A scheduler was made. -/
def MadeSw (o : Nat → Pt) (gb hb : Nat) (xs : Nat → Value) (st : St) (w : World) (e : Ending) (w' : World) : Prop :=
  ∃ gw ga o', e = .returned (.pointer (some ⟨gw, 0, none⟩)) ∧ w.heap.size ≤ gw ∧ Sw w' o' gw ga gb hb xs (.slice none 0 0) [] st ∧ Below w.heap.size w w' ∧ ∀ k, k < w.heap.size → o' k = o k

theorem infoActor : (Tryz.prog.info? 124).map (fun i => (i.zero, i.size, i.bytes)) = some (some (.agg #[.nilIface, .bool false]), 2, 24) := by kernel_rfl

theorem make_actors (n : Nat) (hn : n ≤ 1000) (W : World) :
    (Instr.makeSlice 117 (.int .i64 (n : Int)) (.int .i64 (n : Int))).run Tryz.prog W = .ok (.slice (some ⟨W.heap.size, 0, none⟩) n n) (W.alloc (.cells (madeCells #[.nilIface, .bool false] (n * 2)) 124)) := by
  obtain ⟨i, hi, hz, hs, hby⟩ := info_parts infoActor
  have hr := run_make (P := Tryz.prog) W 117 124 i (.agg #[.nilIface, .bool false]) Tryz.underlying117 hi hz .i64 .i64 (n : Int) (n : Int) (by omega) (Int.le_refl _) (by rw [hby]; omega) (by omega)
  rw [hs] at hr
  simpa [Value.cells] using hr

theorem made_actors (w : World) (n : Nat) : (w.alloc (.cells (madeCells #[.nilIface, .bool false] (n * 2)) 124)).rowIs w.heap.size 124 (2 * n) (acCell (fun _ => .nilIface) (fun _ => false)) :=
  ⟨_, Go.Deep.blk_alloc_new _ _, by rw [size_madeCells]; omega, fun i hi => by
    unfold acCell madeCells
    have hm : i % 2 < 2 := Nat.mod_lt _ (by decide)
    have hi2 : i < n * 2 := by omega
    simp [hi2]
    rcases Nat.mod_two_eq_zero_or_one i with e | e
    · simp [e]
    · simp [e]⟩

theorem acCell_set (ax : Nat → Value) (dead : Nat → Bool) (i : Nat) (x : Value) (j : Nat) : (if j = i * 2 then x else acCell ax dead j) = acCell (upd ax i x) dead j := by
  unfold acCell
  by_cases e : j = i * 2
  · subst e
    rw [if_pos rfl, if_pos (by omega), show i * 2 / 2 = i by omega, upd_same]
  · rw [if_neg e]
    by_cases e2 : j % 2 = 0
    · rw [if_pos e2, if_pos e2, upd_other _ _ _ (by omega)]
    · rw [if_neg e2, if_neg e2]

set_option maxRecDepth 100000 in
set_option maxHeartbeats 2000000 in
theorem schedNew_any {w : World} {o : Nat → Pt} {gb hb nw : Nat} {m : Nat → Nat} {c : Int} (B : Buf w gb hb m nw c) (A : Option Addr) (n cap : Nat) (xs : Nat → Value) (ms : Nat → Mc) (hn : n ≤ 1000) (hcap : n ≤ cap) (hcap2 : cap ≤ 9223372036854775807) (hl : MsAt w A n xs)
    (hm : ∀ i, i < n → MRep w (fun k => o k = .ma i) (xs i) (ms i)) (hog : o gb = .bf) (hoh : o hb = .bf) (hlt : ∀ k, o k ≠ .no → k < w.heap.size) :
    Calls Tryz.prog 23 #[.pointer (some ⟨gb, 0, none⟩), .slice A n cap] w (MadeSw o gb hb xs (St.made n ms m nw c) w) := by
  have hmk := make_actors n hn
  have HH := Lib.hid (And.intro B (And.intro hm (And.intro hog (And.intro hoh hlt))))
  have HL := Lib.hid hl
  have HN := Lib.hid hn
  clear B hm hog hoh hlt hl
  have ha := made_actors w n
  have e1 : (w.alloc (.cells (madeCells #[.nilIface, .bool false] (n * 2)) 124)).heap.size = w.heap.size + 1 := by simp
  have HB1 := (Below.refl w.heap.size w).alloc (Nat.le_refl _) (.cells (madeCells #[.nilIface, .bool false] (n * 2)) 124)
  go_enter Tryz.func23, Tryz.ntmps23
  go_wp2
  generalize hW1 : w.alloc (.cells (madeCells #[.nilIface, .bool false] (n * 2)) 124) = W1 at *
  have hh := Go.Deep.blk_alloc_new W1 (.cells #[.pointer (some ⟨gb, 0, none⟩), .slice (some ⟨w.heap.size, 0, none⟩) n n, .int .i64 0, .slice none 0 0] 120)
  rw [e1] at hh
  have ha2 := ha.alloc (.cells #[.pointer (some ⟨gb, 0, none⟩), .slice (some ⟨w.heap.size, 0, none⟩) n n, .int .i64 0, .slice none 0 0] 120)
  have HB2 := HB1.alloc HB1.size (.cells #[.pointer (some ⟨gb, 0, none⟩), .slice (some ⟨w.heap.size, 0, none⟩) n n, .int .i64 0, .slice none 0 0] 120)
  generalize W1.alloc (.cells #[.pointer (some ⟨gb, 0, none⟩), .slice (some ⟨w.heap.size, 0, none⟩) n n, .int .i64 0, .slice none 0 0] 120) = W2 at hh ha2 HB2 ⊢
  have HST := Lib.hid (And.intro hh (And.intro ha2 HB2))
  clear hmk hW1 ha HB1 hh ha2 HB2
  go_loopw [16] (fun t16 wr => ∃ (i : Nat) (ax : Nat → Value), t16 = .int .i64 i ∧ i ≤ n ∧ (∀ j, j < i → ax j = xs j) ∧ wr.heap[w.heap.size + 1]? = some (.cells #[.pointer (some ⟨gb, 0, none⟩), .slice (some ⟨w.heap.size, 0, none⟩) n n, .int .i64 0, .slice none 0 0] 120 (0, 0)) ∧ wr.rowIs w.heap.size 124 (2 * n) (acCell ax (fun _ => false)) ∧ Below w.heap.size w wr) (fun t16 _ => n - (intOf t16).toNat)
  case atStart => exact ⟨0, _, rfl, Nat.zero_le _, fun j hj => absurd hj (Nat.not_lt_zero _), HST.out.1, HST.out.2.1, HST.out.2.2⟩
  case round =>
    obtain ⟨i, ax, rfl, hi, hax, hhd, hrow, hbw⟩ := hrel
    have HAX := Lib.hid hax
    have HHD := Lib.hid (And.intro hhd (And.intro hrow hbw))
    by_cases hlt : i < n
    · obtain ⟨bl, rfl, hbl, hcl⟩ := HL.out (by omega)
      have hcx := (hbw.cell (p := ⟨bl, i, none⟩) hbl).trans (hcl i hlt)
      have hc1 : wr.cell? ⟨w.heap.size + 1, 1, none⟩ = some (.slice (some ⟨w.heap.size, 0, none⟩) n n) := by simp [World.cell?, hhd]
      have hr0 := hrow.cell (i := i * 2) (by omega)
      have hf0 := hrow.frozen (i * 2)
      have hsh := (HH.out.2.1 i hlt).shape
      generalize hx : xs i = x at hcx hsh
      have HX := Lib.hid hx
      clear hax hhd hrow hbw hcl hx
      rcases hsh with ⟨rfl, _⟩ | ⟨T, y, rfl⟩
      all_goals
        go_wp2
        go_roundw
        case rel =>
          refine ⟨i + 1, upd ax i (xs i), by go_num, by omega, fun j hj => ?_, blkF HHD.out.1 (by omega) _, (HHD.out.2.1.set (i * 2) _).congr fun j _ => ?_, HHD.out.2.2.setCell (p := ⟨w.heap.size, i * 2, none⟩) (Nat.le_refl _) _⟩
          · by_cases e : j = i
            · subst e; exact upd_same _ _ _
            · rw [upd_other _ _ _ e]; exact HAX.out j (by omega)
          · rw [HX.out]; exact acCell_set _ _ _ _ _
        case measure => simp [intOf]; omega
    · obtain rfl : i = n := by omega
      clear hax hhd hrow hbw
      go_wp2
      go_ret
      obtain ⟨hhd, hrow, hbw⟩ := HHD.out
      obtain ⟨B, hm, hog, hoh, hlk⟩ := HH.out
      have hsz := (Array.getElem?_eq_some_iff.1 hhd).1
      have hold : ∀ k, k < w.heap.size → claimed (claimed o w.heap.size (fun k => k = w.heap.size) .ac) w.heap.size (fun k => k = w.heap.size + 1) .wd k = o k := fun k hk => (claimed_old hk).trans (claimed_old hk)
      refine ⟨w.heap.size + 1, w.heap.size, claimed (claimed o w.heap.size (fun k => k = w.heap.size) .ac) w.heap.size (fun k => k = w.heap.size + 1) .wd, rfl, Nat.le_succ _, ⟨hhd, hrow.congr fun j hj => ?_, B.below hbw, fun j hj => ?_, ⟨World.ownsRow_nil _ _ _ _, fun t ht => absurd ht (by simp), fun k hk => absurd hk (by simp [Value.ownBlock])⟩, rfl, claimed_new (Nat.le_succ _) rfl, (claimed_not fun e => by omega).trans (claimed_new (Nat.le_refl _) rfl), (hold gb B.g_lt).trans hog, (hold hb B.h_lt).trans hoh, fun k hk => ?_, HN.out, fun e he => absurd he (by simp [St.made])⟩, hbw, hold⟩
      · unfold acCell
        by_cases e : j % 2 = 0
        · rw [if_pos e, if_pos e]; exact HAX.out _ (by omega)
        · rw [if_neg e, if_neg e]; rfl
      · exact ((hm j hj).keep hbw.size fun k hk => hbw.block k (hlk k (by rw [hk]; simp))).mono fun k hk => (hold k (hlk k (by rw [hk]; simp))).trans hk
      · by_cases e : w.heap.size ≤ k ∧ k = w.heap.size + 1
        · omega
        · rw [claimed_not e] at hk
          by_cases e2 : w.heap.size ≤ k ∧ k = w.heap.size
          · omega
          · rw [claimed_not e2] at hk
            have := hlk k hk
            omega
end Go.Proofs.YtjachppnlmiloaaGreat
namespace Go.Proofs.YtjachppnlmiloaaGreat
open Go.RowKit

/-- A scheduler stands; all that was below stands as it was. -/
structure Stood (w0 w : World) (o : Nat → Pt) (gw ga gb hb : Nat) (ax : Nat → Value) (st : St) : Prop where
  sw : ∃ tv ts, Sw w o gw ga gb hb ax tv ts st
  low : Below w0.heap.size w0 w
  out : ∀ k, k < w0.heap.size → o k = .no

namespace Stood
variable {w0 w w' : World} {o o' : Nat → Pt} {gw ga gb hb : Nat} {ax : Nat → Value} {st st' : St}
theorem below (h : Stood w0 w o gw ga gb hb ax st) (hb' : Below w.heap.size w w') : Stood w0 w' o gw ga gb hb ax st := by
  obtain ⟨⟨tv, ts, hs⟩, h1, h2⟩ := h
  exact ⟨⟨tv, ts, hs.below hb'⟩, h1.trans (hb'.mono h1.size), h2⟩
theorem alloc (h : Stood w0 w o gw ga gb hb ax st) (q : Obj) : Stood w0 (w.alloc q) o gw ga gb hb ax st := h.below ((Below.refl _ _).alloc (Nat.le_refl _) q)
theorem after (h : Stood w0 w o gw ga gb hb ax st) (ht : Touch (Own o) w w') (hs : ∃ tv ts, Sw w' o' gw ga gb hb ax tv ts st') (ho : ∀ k, k < w.heap.size → o' k = o k) : Stood w0 w' o' gw ga gb hb ax st' :=
  ⟨hs, ⟨ht.os.trans h.low.os, ht.tape.trans h.low.tape, ht.output.trans h.low.output, Nat.le_trans h.low.size ht.size, fun k hk => (ht.block k (Nat.lt_of_lt_of_le hk h.low.size) fun e => e (h.out k hk)).trans (h.low.block k hk)⟩,
    fun k hk => (ho k (Nat.lt_of_lt_of_le hk h.low.size)).trans (h.out k hk)⟩
theorem new_no (h : Stood w0 w o gw ga gb hb ax st) {k : Nat} (hk : w.heap.size ≤ k) : o k = .no := by
  obtain ⟨⟨tv, ts, hs⟩, _, _⟩ := h
  exact hs.new_no hk
end Stood

/-- A block that is nobody's keeps its cells. -/
theorem nobody_cell {w w' : World} {o : Nat → Pt} (ht : Touch (Own o) w w') {q : Addr} (hq : q.block < w.heap.size) (hn : o q.block = .no) : w'.cell? q = w.cell? q :=
  World.cell?_of_block (ht.block q.block hq fun e => e hn)
end Go.Proofs.YtjachppnlmiloaaGreat
namespace Go.Proofs.YtjachppnlmiloaaGreat
open Go.RowKit

/-- May a ring be? -/
def Rg.right (B Z : Int) : Prop := Wd.isP Z = true ∧ 64 ≤ Z ∧ Z ≤ 8192 ∧ 0 ≤ B ∧ B ≤ 131072 - Z - 32 ∧ B % 8 = 0
instance (B Z : Int) : Decidable (Rg.right B Z) := by unfold Rg.right; infer_instance

set_option maxRecDepth 100000 in
set_option maxHeartbeats 800000 in
theorem rpCheck (B Z : Int) (hB : -9223372036854775808 ≤ B ∧ B ≤ 9223372036854775807) (hZ : -9223372036854775808 ≤ Z ∧ Z ≤ 9223372036854775807) (w : World) :
    Calls Tryz.prog 15 #[.agg #[.int .i64 B, .int .i64 Z]] w (Made (.int .i64 (if Rg.right B Z then 0 else 1)) w) := by
  have hb0 := un_below w (.int .i64 B) (.int .i64 Z) 23
  have hx := Go.Deep.blk_alloc_new w (.cells #[.int .i64 B, .int .i64 Z] 23)
  obtain ⟨q, hq⟩ : ∃ q : Int, q = (if Rg.right B Z then 0 else 1) := ⟨_, rfl⟩
  rw [← hq]
  have HQ := Lib.hid hq
  clear hq
  go_enter Tryz.func15, Tryz.ntmps15
  go_upto_region 1 with (fail)
  generalize w.alloc (.cells #[.int .i64 B, .int .i64 Z] 23) = W at hb0 hx ⊢
  have x0 : W.cell? ⟨w.heap.size, 0, none⟩ = some (.int .i64 B) := by simp [World.cell?, hx]
  have x1 : W.cell? ⟨w.heap.size, 1, none⟩ = some (.int .i64 Z) := by simp [World.cell?, hx]
  clear hx
  cases hp : Wd.isP Z with
  | false =>
    have HP := Lib.hid hp
    clear hp
    go_wp2_with (go_at_call 45; refine (isPower_any Z _ (by omega) (by omega)).mono ?_; rintro e w2 ⟨rfl, rfl⟩; rw [HP.out])
    all_goals
      go_ret
      refine ⟨?_, hb0⟩
      rw [HQ.out, if_neg (fun h => by have := h.1; rw [HP.out] at this; cases this)]
      rfl
  | true =>
    have HP := Lib.hid hp
    clear hp
    go_wp2_with (go_at_call 45; refine (isPower_any Z _ (by omega) (by omega)).mono ?_; rintro e w2 ⟨rfl, rfl⟩; rw [HP.out])
    all_goals
      go_ret
      refine ⟨?_, hb0⟩
      rw [HQ.out]
      simp only [bne_eq_false_iff_eq, bne_iff_ne, ne_eq] at *
      first
        | (rw [if_pos ⟨HP.out, by omega, by omega, by omega, by omega, by omega⟩]; rfl)
        | (rw [if_neg (fun ⟨_, _, _, _, _, _⟩ => by omega)]; rfl)

theorem rp_need_aux (n : Nat) (h : n ≤ 131072) : sz (n : Int) 8 8 = 8 * (((n + 15) / 8 : Nat) : Int) := by
  unfold sz szOk Wd.al Wd.alOk
  have h1 : decide (0 ≤ (n : Int)) = true := by simp
  have h2 : decide ((n : Int) ≤ 131072) = true := by simp; omega
  have h3 : Wd.isP 8 = true := by decide
  have h4 : decide (0 ≤ (8 : Int) + n) = true := by simp; omega
  have h5 : decide ((8 : Int) + n ≤ 4611686018427387904) = true := by simp; omega
  rw [h1, h2, h3, h4, h5]
  simp only [Bool.and_self, if_true]
  omega

/-- A put was made: it stands in new memory. -/
def NewIs (m : Pm) (w : World) (e : Ending) (w' : World) : Prop :=
  ∃ g, e = .returned (.pointer (some ⟨g, 0, none⟩)) ∧ PmAt w' (fun k => w.heap.size ≤ k ∧ k < w'.heap.size) g m ∧ Below w.heap.size w w'

/-- The put that is made. -/
def Pm.new (B Z typ : Int) (f : Nat → Nat) (L : Nat) : Pm :=
  if ¬ Rg.right B Z ∨ typ < 1 then .dead 0 0 else if Z < 8 * (L : Int) then .dead Z 4 else .live ⟨B.toNat, Z.toNat, typ, f, L, 0, 0, 0, false, .ask, 0⟩

theorem new_dead (w W : World) (hb : Below w.heap.size w W) (B Z er : Int) : NewIs (.dead Z er) w (.returned (.pointer (some ⟨W.heap.size, 0, none⟩))) (W.alloc (.cells (PxCells B Z er) 92)) :=
  ⟨W.heap.size, rfl, ⟨⟨hb.size, by simp⟩, B, Go.Deep.blk_alloc_new _ _⟩, hb.alloc hb.size _⟩

set_option maxRecDepth 100000 in
set_option maxHeartbeats 800000 in
theorem rpNewBad (B Z typ : Int) (hB : -9223372036854775808 ≤ B ∧ B ≤ 9223372036854775807) (hZ : -9223372036854775808 ≤ Z ∧ Z ≤ 9223372036854775807) (hbad : ¬ Rg.right B Z) (A : Option Addr) (L c : Nat) (w : World) :
    Calls Tryz.prog 12 #[.agg #[.int .i64 B, .int .i64 Z], .int .i32 typ, .slice A L c] w (NewIs (.dead 0 0) w) := by
  have hb0 := un_below w (.int .i64 B) (.int .i64 Z) 23
  have hx := Go.Deep.blk_alloc_new w (.cells #[.int .i64 B, .int .i64 Z] 23)
  have HBZ := Lib.hid (And.intro hB hZ)
  have HN := Lib.hid hbad
  clear hB hZ hbad
  go_enter Tryz.func12, Tryz.ntmps12
  go_upto_region 1 with (fail)
  generalize w.alloc (.cells #[.int .i64 B, .int .i64 Z] 23) = W at hb0 hx ⊢
  have x0 : W.cell? ⟨w.heap.size, 0, none⟩ = some (.int .i64 B) := by simp [World.cell?, hx]
  have x1 : W.cell? ⟨w.heap.size, 1, none⟩ = some (.int .i64 Z) := by simp [World.cell?, hx]
  clear hx
  go_wp2_with (go_at_call 15; refine (rpCheck B Z HBZ.out.1 HBZ.out.2 W).mono ?_; rintro e w2 ⟨rfl, hb⟩; rw [if_neg HN.out])
  go_ret
  exact new_dead w w2 (hb0.trans (hb.mono hb0.size)) 0 0 0

set_option maxRecDepth 100000 in
set_option maxHeartbeats 800000 in
theorem rpNewTyp (B Z typ : Int) (hB : -9223372036854775808 ≤ B ∧ B ≤ 9223372036854775807) (hZ : -9223372036854775808 ≤ Z ∧ Z ≤ 9223372036854775807) (hok : Rg.right B Z) (htyp : typ < 1) (A : Option Addr) (L c : Nat) (w : World) :
    Calls Tryz.prog 12 #[.agg #[.int .i64 B, .int .i64 Z], .int .i32 typ, .slice A L c] w (NewIs (.dead 0 0) w) := by
  have hb0 := un_below w (.int .i64 B) (.int .i64 Z) 23
  have hx := Go.Deep.blk_alloc_new w (.cells #[.int .i64 B, .int .i64 Z] 23)
  have HBZ := Lib.hid (And.intro hB hZ)
  have HN := Lib.hid hok
  have hd : decide (typ < 1) = true := by simpa using htyp
  clear hB hZ hok
  go_enter Tryz.func12, Tryz.ntmps12
  go_upto_region 1 with (fail)
  generalize w.alloc (.cells #[.int .i64 B, .int .i64 Z] 23) = W at hb0 hx ⊢
  have x0 : W.cell? ⟨w.heap.size, 0, none⟩ = some (.int .i64 B) := by simp [World.cell?, hx]
  have x1 : W.cell? ⟨w.heap.size, 1, none⟩ = some (.int .i64 Z) := by simp [World.cell?, hx]
  clear hx
  go_wp2_with (go_at_call 15; refine (rpCheck B Z HBZ.out.1 HBZ.out.2 W).mono ?_; rintro e w2 ⟨rfl, hb⟩; rw [if_pos HN.out])
  go_ret
  exact new_dead w w2 (hb0.trans (hb.mono hb0.size)) 0 0 0

set_option maxRecDepth 100000 in
set_option maxHeartbeats 800000 in
theorem rpNewLong (B Z typ : Int) (hB : -9223372036854775808 ≤ B ∧ B ≤ 9223372036854775807) (hZ : -9223372036854775808 ≤ Z ∧ Z ≤ 9223372036854775807) (hok : Rg.right B Z) (htyp : ¬ typ < 1) (A : Option Addr) (L c : Nat) (hlong : Z < 8 * (L : Int)) (w : World) :
    Calls Tryz.prog 12 #[.agg #[.int .i64 B, .int .i64 Z], .int .i32 typ, .slice A L c] w (NewIs (.dead Z 4) w) := by
  have hb0 := un_below w (.int .i64 B) (.int .i64 Z) 23
  have hx := Go.Deep.blk_alloc_new w (.cells #[.int .i64 B, .int .i64 Z] 23)
  have HBZ := Lib.hid (And.intro hB hZ)
  have HN := Lib.hid hok
  have hd : decide (typ < 1) = false := by simpa using htyp
  have hz0 : 64 ≤ Z := hok.2.1
  have hz1 : Z ≤ 8192 := hok.2.2.1
  have hdl : Z / 8 < (L : Int) := by omega
  have hdd : decide (Z / 8 < (L : Int)) = true := by simpa using hdl
  clear hB hZ hok htyp hlong
  go_enter Tryz.func12, Tryz.ntmps12
  go_upto_region 1 with (fail)
  generalize w.alloc (.cells #[.int .i64 B, .int .i64 Z] 23) = W at hb0 hx ⊢
  have x0 : W.cell? ⟨w.heap.size, 0, none⟩ = some (.int .i64 B) := by simp [World.cell?, hx]
  have x1 : W.cell? ⟨w.heap.size, 1, none⟩ = some (.int .i64 Z) := by simp [World.cell?, hx]
  have hlx := (Array.getElem?_eq_some_iff.1 hx).1
  clear hx
  go_wp2_with (go_at_call 15; refine (rpCheck B Z HBZ.out.1 HBZ.out.2 W).mono ?_; rintro e w2 ⟨rfl, hb⟩; rw [if_pos HN.out]; have y0 := (hb.cell (p := ⟨w.heap.size, 0, none⟩) hlx).trans x0; have y1 := (hb.cell (p := ⟨w.heap.size, 1, none⟩) hlx).trans x1)
  go_ret
  exact new_dead w w2 (hb0.trans (hb.mono hb0.size)) B Z 4

/-- The block of a put that is made. -/
theorem rp_made {w w4 W5 : World} {B Z typ : Int} {A4 : Option Addr} {L c4 base : Nat} {f : Nat → Nat}
    (hW5 : W5 = w4.alloc (.cells #[.int .i64 B, .int .i64 Z, .int .i32 typ, .slice A4 L c4, .int .i64 (8 * (((L : Int) + 15) / 8)), .int .i64 0, .int .i64 0, .int .i64 0, .int .u64 0, .int .u64 0, .slice none 0 0, .nilFunc, .int .i64 0, .int .i64 0, .int .i64 0, .bool false, .int .i64 0] 92))
    (hb : Below w.heap.size w w4) (hbase : w.heap.size ≤ base) (hr : Rg.right B Z) (ht : 1 ≤ typ) (ht2 : typ ≤ 2147483647) (hfew : 8 * (L : Int) ≤ Z) (hf : Mb.IsB f) (ho : Owns base w4 (.slice A4 L c4) (Mb.bl f 0 L)) :
    RpBare W5 (fun k => w.heap.size ≤ k ∧ k < W5.heap.size) w4.heap.size ⟨B.toNat, Z.toNat, typ, f, L, 0, 0, 0, false, .ask, 0⟩ (.slice A4 L c4) := by
  obtain ⟨h1, h2, h3, h4, h5, h6⟩ := hr
  have hB : ((B.toNat : Nat) : Int) = B := Int.toNat_of_nonneg h4
  have hZ : ((Z.toNat : Nat) : Int) = Z := Int.toNat_of_nonneg (by omega)
  have hsz : W5.heap.size = w4.heap.size + 1 := by rw [hW5]; simp
  have hbl : Below w4.heap.size w4 W5 := by rw [hW5]; exact (Below.refl _ _).alloc (Nat.le_refl _) _
  have ho5 := (BytesIn.of_own ho).lt.below hbl
  have hc : L ≤ c4 ∧ c4 ≤ 9223372036854775807 := by
    obtain ⟨_, e | ⟨g, cap, cur, e, _, _, e2, e3, _⟩⟩ := ho
    · obtain ⟨e1, e2⟩ := e
      injection e1 with _ e3 e4
      omega
    · injection e with _ e4 e5
      unfold maxLen at e3
      omega
  refine ⟨⟨Ac.zero, .slice none 0 0, ?_⟩, ⟨hb.size, by omega⟩, ⟨by rw [← h1, hZ], by simp only; omega, by simp only; omega, by simp only; omega, by simp only; omega, ht, ht2, by simp only; omega, hf, by simp only; omega, by simp only; omega, by simp only; omega⟩, ⟨A4, c4, rfl, hc.1, hc.2⟩, ho5.mono fun k hk _ => ⟨⟨by omega, by omega⟩, by omega⟩⟩
  unfold RpBlk
  rw [hW5, Go.Deep.blk_alloc_new]
  have hn : (8 * (((L + 15) / 8 : Nat) : Int)) = 8 * (((L : Int) + 15) / 8) := by omega
  simp only [RpCells, Rs.need, hB, hZ, hn, Ac.zero]
  rfl

set_option maxRecDepth 100000 in
set_option maxHeartbeats 800000 in
theorem rpNewOk (B Z typ : Int) (hB : -9223372036854775808 ≤ B ∧ B ≤ 9223372036854775807) (hZ : -9223372036854775808 ≤ Z ∧ Z ≤ 9223372036854775807) (hok : Rg.right B Z) (htyp : ¬ typ < 1) (htyp2 : typ ≤ 2147483647) (A : Option Addr) (L c : Nat) (hfew : ¬ Z < 8 * (L : Int)) (f : Nat → Nat) (hf : Mb.IsB f) (w : World) (hby : BytesAt w (.slice A L c) (Mb.bl f 0 L)) :
    Calls Tryz.prog 12 #[.agg #[.int .i64 B, .int .i64 Z], .int .i32 typ, .slice A L c] w (NewIs (.live ⟨B.toNat, Z.toNat, typ, f, L, 0, 0, 0, false, .ask, 0⟩) w) := by
  have hb0 := un_below w (.int .i64 B) (.int .i64 Z) 23
  have hx := Go.Deep.blk_alloc_new w (.cells #[.int .i64 B, .int .i64 Z] 23)
  have HBZ := Lib.hid (And.intro hB hZ)
  have HN := Lib.hid hok
  have HY := Lib.hid hby
  have hd : decide (typ < 1) = false := by simpa using htyp
  have hz0 : 64 ≤ Z := hok.2.1
  have hz1 : Z ≤ 8192 := hok.2.2.1
  have hdl : ¬ Z / 8 < (L : Int) := by omega
  have hdd : decide (Z / 8 < (L : Int)) = false := by simpa using hdl
  have HT := Lib.hid (And.intro htyp htyp2)
  have HFE := Lib.hid hfew
  clear hB hZ hok htyp hfew hby htyp2
  go_enter Tryz.func12, Tryz.ntmps12
  go_upto_region 1 with (fail)
  generalize w.alloc (.cells #[.int .i64 B, .int .i64 Z] 23) = W at hb0 hx ⊢
  have x0 : W.cell? ⟨w.heap.size, 0, none⟩ = some (.int .i64 B) := by simp [World.cell?, hx]
  have x1 : W.cell? ⟨w.heap.size, 1, none⟩ = some (.int .i64 Z) := by simp [World.cell?, hx]
  have hlx := (Array.getElem?_eq_some_iff.1 hx).1
  clear hx
  go_upto_region 5 with (go_at_call 15; refine (rpCheck B Z HBZ.out.1 HBZ.out.2 W).mono ?_; rintro e w2 ⟨rfl, hb⟩; rw [if_pos HN.out]; have y0 := (hb.cell (p := ⟨w.heap.size, 0, none⟩) hlx).trans x0; have y1 := (hb.cell (p := ⟨w.heap.size, 1, none⟩) hlx).trans x1)
  have hneed := rp_need_aux L (by omega)
  have HNE := Lib.hid hneed
  have HB2 := Lib.hid (hb0.trans (hb.mono hb0.size))
  have hl2 : w.heap.size < w2.heap.size := lt_of_cell y0
  clear hneed hb hdl hd hdd hz0 hz1 x0 x1 hlx hb0
  go_upto_region 6 with (go_at_call 39; refine (recordSize_any (L : Int) w2).mono ?_; rintro e w3 ⟨rfl, rfl⟩; rw [HNE.out])
  obtain ⟨wq, hwq⟩ : ∃ W, W = w2 := ⟨_, rfl⟩
  go_region_held3 (fun w' => w'.cell? ⟨w.heap.size, 0, none⟩ = some (.int .i64 B) ∧ w'.cell? ⟨w.heap.size, 1, none⟩ = some (.int .i64 Z)) (go_keep)
    (first | (go_at_call 40; refine (clone_sl A L c (Mb.bl f 0 L) w2.drew (HY.out.below HB2.out.drew) (by have := HFE.out; have := HN.out.2.2.1; omega)).mono ?_; rintro e w4 ⟨A4, c4, rfl, ho4, hb4⟩; have z0 := (hb4.cell (p := ⟨w.heap.size, 0, none⟩) (lt_of_cell y0)).trans y0; have z1 := (hb4.cell (p := ⟨w.heap.size, 1, none⟩) (lt_of_cell y0)).trans y1))
  all_goals
    have hq := HN.out
    obtain ⟨W5, hW5⟩ : ∃ W5, W5 = w4.alloc (.cells #[.int .i64 B, .int .i64 Z, .int .i32 typ, .slice A4 L c4, .int .i64 (8 * (((L : Int) + 15) / 8)), .int .i64 0, .int .i64 0, .int .i64 0, .int .u64 0, .int .u64 0, .slice none 0 0, .nilFunc, .int .i64 0, .int .i64 0, .int .i64 0, .bool false, .int .i64 0] 92) := ⟨_, rfl⟩
    have hmade := rp_made (w := w) hW5 (HB2.out.drew.trans (hb4.mono HB2.out.size)) HB2.out.size hq HT.out.1 HT.out.2 HFE.out hf ho4
    rw [← hW5]
    have HM := Lib.hid hmade
    have hbk : Below w.heap.size w W5 := by rw [hW5]; exact (HB2.out.drew.trans (hb4.mono HB2.out.size)).alloc (Nat.le_trans HB2.out.size hb4.size) _
    have HBK := Lib.hid hbk
    clear hW5 hmade hbk
    go_wp2_with (go_at_call 41; refine (rpBegin HM.out).mono ?_; intro e w6 hm; have HMM := Lib.hid hm; obtain ⟨rfl, _⟩ := hm)
    go_ret
    obtain ⟨_, F', hp, ht, hF'⟩ := HMM.out
    refine ⟨_, rfl, ?_, ht.below HBK.out HBK.out.size fun k hk => hk.1⟩
    refine PutAt.wide (F' := fun k => w.heap.size ≤ k ∧ k < w6.heap.size) hp fun k hk => ?_
    · show w.heap.size ≤ k ∧ k < w6.heap.size
      rcases hF' k hk with e | e
      · exact ⟨e.1, Nat.lt_of_lt_of_le e.2 ht.size⟩
      · exact ⟨Nat.le_trans HBK.out.size e.1, e.2⟩

/-- A put is made, of whatever ring, type and bytes. -/
theorem rpNew (B Z typ : Int) (hB : -9223372036854775808 ≤ B ∧ B ≤ 9223372036854775807) (hZ : -9223372036854775808 ≤ Z ∧ Z ≤ 9223372036854775807) (htyp : typ ≤ 2147483647) (A : Option Addr) (L c : Nat) (f : Nat → Nat) (hf : Mb.IsB f) (w : World) (hby : BytesAt w (.slice A L c) (Mb.bl f 0 L)) :
    Calls Tryz.prog 12 #[.agg #[.int .i64 B, .int .i64 Z], .int .i32 typ, .slice A L c] w (NewIs (Pm.new B Z typ f L) w) := by
  unfold Pm.new
  by_cases h1 : Rg.right B Z
  · by_cases h2 : typ < 1
    · rw [if_pos (.inr h2)]
      exact rpNewTyp B Z typ hB hZ h1 h2 A L c w
    · rw [if_neg (fun h => h.elim (fun h => h h1) h2)]
      by_cases h3 : Z < 8 * (L : Int)
      · rw [if_pos h3]
        exact rpNewLong B Z typ hB hZ h1 h2 A L c h3 w
      · rw [if_neg h3]
        exact rpNewOk B Z typ hB hZ h1 h2 htyp A L c h3 f hf w hby
  · rw [if_pos (.inl h1)]
    exact rpNewBad B Z typ hB hZ h1 A L c w
end Go.Proofs.YtjachppnlmiloaaGreat
namespace Go.Proofs.YtjachppnlmiloaaGreat
open Go.RowKit

/-- A put's machine, if it is one. -/
def Mc.putOf : Mc → Pm
  | .put m => m
  | _ => .dead 0 0
def Mc.isPut : Mc → Bool
  | .put _ => true
  | _ => false
theorem Mc.put_is {s : Mc} (h : s.isPut = true) : s = .put s.putOf := by
  cases s with
  | put m => rfl
  | none => cases h
  | copy _ _ _ _ => cases h

/-- The states. -/
def rx0 : St := St.made 1 (fun i => if i = 0 then .put (Pm.new 0 64 1 (fun _ => 0) 8) else .none) (fun _ => 0) 12 0
def rx1 : St := (rx0.robin 99).1
theorem rx_n : (rx0.robin 99).2 = 6 := by decide +kernel
theorem rx_is : (rx1.ms 0).isPut = true := by decide +kernel
theorem rx_res : (rx1.ms 0).putOf.result = (0, 0) := by decide +kernel
theorem rx_busy : (Pm.new 0 64 1 (fun _ => 0) 8).result = (0, 10) := by decide +kernel
theorem rx_tail : Mb.nm rx1.m 64 8 = 16 := by decide +kernel
theorem rx_len : rx0.tr.length + 99 ≤ 1000000 := by decide +kernel
theorem rx_nw : rx1.nw = 12 := by decide +kernel

/-- One put, of a new scheduler. -/
theorem fixed7_made {w0 w1 w3 : World} {g h gp : Nat} (B : Buf w1 g h (fun _ => 0) 12 0) (h1 : w0.heap.size ≤ g) (h2 : w0.heap.size ≤ h) (hb1 : Below w0.heap.size w0 w1) {m : Pm} {n2 : Nat} (hn2 : w1.heap.size ≤ n2)
    (hp : PmAt w3 (fun k => n2 ≤ k ∧ k < w3.heap.size) gp m) (hb3 : Below w1.heap.size w1 w3) :
    ∀ T, Calls Tryz.prog 23 #[.pointer (some ⟨g, 0, none⟩), .slice (some ⟨w3.heap.size, 0, none⟩) 1 1] (w3.alloc (.cells #[.iface 27 (.pointer (some ⟨gp, 0, none⟩))] T)) fun e w' => ∃ gw ga o', e = .returned (.pointer (some ⟨gw, 0, none⟩)) ∧ Stood w0 w' o' gw ga g h (fun i => if i = 0 then .iface 27 (.pointer (some ⟨gp, 0, none⟩)) else .nilIface) (St.made 1 (fun i => if i = 0 then .put m else .none) (fun _ => 0) 12 0) ∧ Below w3.heap.size w3 w' := by
  intro T
  have s1 := hb1.size
  have s3 := hb3.size
  have hgl := B.g_lt
  have hhl := B.h_lt
  have hba := (Below.refl w3.heap.size w3).alloc (Nat.le_refl _) (.cells #[.iface 27 (.pointer (some ⟨gp, 0, none⟩))] T)
  have e0 : (w3.alloc (.cells #[.iface 27 (.pointer (some ⟨gp, 0, none⟩))] T)).heap.size = w3.heap.size + 1 := by simp
  have x0 := Go.Deep.blk_alloc_new w3 (.cells #[.iface 27 (.pointer (some ⟨gp, 0, none⟩))] T)
  generalize w3.alloc (.cells #[.iface 27 (.pointer (some ⟨gp, 0, none⟩))] T) = w4 at *
  have B4 := (B.below hb3).below hba
  refine (schedNew_any B4 (some ⟨w3.heap.size, 0, none⟩) 1 1 (fun i => if i = 0 then .iface 27 (.pointer (some ⟨gp, 0, none⟩)) else .nilIface) (fun i => if i = 0 then .put m else .none) (by decide) (by decide) (by decide)
    (fun _ => ⟨w3.heap.size, rfl, by omega, fun i hi => ?_⟩) (o := fun k => if k = g ∨ k = h then .bf else if n2 ≤ k ∧ k < w3.heap.size then .ma 0 else .no) (fun i hi => ?_) ?_ ?_ (fun k hk => ?_)).mono ?_
  · match i, hi with
    | 0, _ => simp [World.cell?, x0]
  · match i, hi with
    | 0, _ =>
      refine MRep.mono (F := fun k => n2 ≤ k ∧ k < w3.heap.size) ⟨gp, rfl, hp.keep hba.size fun k hk => hba.block k hk.2⟩ fun k hk => ?_
      show (if _ then _ else _) = _
      rw [if_neg (by omega), if_pos hk]
  · exact if_pos (.inl rfl)
  · exact if_pos (.inr rfl)
  · by_cases e1 : k = g ∨ k = h
    · omega
    · rw [if_neg e1] at hk
      by_cases e2 : n2 ≤ k ∧ k < w3.heap.size
      · omega
      · rw [if_neg e2] at hk
        exact absurd rfl hk
  · rintro e w' ⟨gw, ga, o', rfl, _, hs, hbl, ho⟩
    have hbl2 : Below w3.heap.size w3 w' := hba.trans (hbl.mono (by omega))
    refine ⟨gw, ga, o', rfl, ⟨⟨_, _, hs⟩, (hb1.trans (hb3.mono s1)).trans (hbl2.mono (by omega)), fun k hk => ?_⟩, hbl2⟩
    rw [ho k (by omega)]
    show (if _ then _ else _) = _
    rw [if_neg (by omega), if_neg (by omega)]

set_option maxRecDepth 100000 in
set_option maxHeartbeats 2000000 in
theorem fixed7_any (w : World) : Calls Tryz.prog 11 #[] w (TrueBelow w) := by
  have hmk : ∀ W : World, (Instr.makeSlice 24 (.int .i64 8) (.int .i64 8)).run Tryz.prog W = .ok (.slice (some ⟨W.heap.size, 0, none⟩) 8 8) (W.alloc (.cells (madeCells #[.int .u8 0] 8) 5)) := make_bytes 8 (by decide)
  go_enter Tryz.func11, Tryz.ntmps11
  go_upto_region 2 with (go_at_call 17; refine (new_yes 96 12 _ (by decide) (by decide) (by decide) (by decide)).mono ?_; rintro e w1 ⟨g, h, rfl, B, hg, hh, hb1⟩)
  go_wp2_with fail
  have HZ := Lib.hid (zeros_made w1 8 (by decide)).bytes
  have hbz := (Below.refl w1.heap.size w1).alloc (Nat.le_refl _) (.cells (madeCells #[.int .u8 0] 8) 5)
  clear hmk
  generalize w1.alloc (.cells (madeCells #[.int .u8 0] 8) 5) = W at HZ hbz ⊢
  refine (rpNew 0 64 1 (by decide) (by decide) (by decide) _ 8 8 (fun _ => 0) Mb.zero_isB W HZ.out).mono ?_
  rintro e w3 ⟨gp, rfl, hp, hbp⟩
  have HP := Lib.hid hp
  have hb3 := hbz.trans (hbp.mono hbz.size)
  have hq3 := hbz.size
  have HQ := Lib.hid (And.intro hb3 (And.intro hb1 (And.intro hg hh)))
  clear hp hbp hbz
  go_upto_region 4 with (go_at_call 25; refine (putResult HP.out).mono ?_; rintro e w4 ⟨rfl, j4, rfl⟩; rw [rx_busy])
  have hbj := drewN_below w3 j4
  have hnew : ∀ T, _ := fixed7_made (w0 := w) (w1 := w1) (w3 := w3.drewN j4) (n2 := W.heap.size) B HQ.out.2.2.1 HQ.out.2.2.2 HQ.out.2.1 hq3 ((HP.out.keep hbj.size fun k hk => hbj.block k hk.2).wide fun k hk => ⟨hk.1, Nat.lt_of_lt_of_le hk.2 hbj.size⟩) (HQ.out.1.trans (hbj.mono HQ.out.1.size))
  have HNEW := Lib.hid hnew
  clear hnew hbj B HP hq3
  go_upto_region 5 with (first
    | (go_at_call 23; refine (HNEW.out _).mono ?_; rintro e w5 ⟨gw, ga, o5, rfl, hs5, hb5⟩)
    | (go_at_call 24; obtain ⟨⟨tv, ts, hsw⟩, hlw, hot⟩ := hs5; refine (robin_any (st := rx0) hsw 99 rx_len).mono ?_; rintro e w6 ⟨rfl, o6, tv6, ts6, hsw6, ht6, ho6⟩; rw [rx_n]))
  have hlow := (Stood.after ⟨⟨tv, ts, hsw⟩, hlw, hot⟩ ht6 ⟨tv6, ts6, hsw6⟩ ho6).low
  obtain ⟨s1, h1⟩ : ∃ s, s = rx1 := ⟨_, rfl⟩
  have hsw7 : Sw w6 o6 gw ga g h (fun i => if i = 0 then .iface 27 (.pointer (some ⟨gp, 0, none⟩)) else .nilIface) tv6 ts6 rx1 := hsw6
  rw [← h1] at hsw7
  have fis := h1 ▸ rx_is
  have fres := h1 ▸ rx_res
  have ftail := h1 ▸ rx_tail
  have fnw := h1 ▸ rx_nw
  have fna := h1 ▸ (show 0 < rx1.na by decide +kernel)
  have hm6 := hsw7.mach 0 fna
  have hbuf := hsw7.buf
  rw [Mc.put_is fis, if_pos rfl] at hm6
  obtain ⟨g', e', hp6⟩ := hm6
  injection e' with _ e'
  injection e' with e'
  injection e' with e'
  injection e' with e'
  subst e'
  have HP := Lib.hid hp6
  have HB := Lib.hid hbuf
  have HR := Lib.hid fres
  have HT := Lib.hid ftail
  have HNW := Lib.hid fnw
  have HLOW := Lib.hid hlow
  clear hp6 hbuf fres ftail fnw hlow hsw6 hsw7 h1 fis fna hsw hlw hot ht6 ho6 HNEW HQ hb5
  go_wp2_with (first
    | (go_at_call 25; refine (putResult HP.out).mono ?_; rintro e w7 ⟨rfl, j7, rfl⟩; rw [HR.out]; have hb7 := drewN_below w6 j7)
    | (go_at_call 15; refine (rpCheck 0 0 (by decide) (by decide) _).mono ?_; rintro e w9 ⟨rfl, hb9⟩; rw [show (if Rg.right 0 0 then (0 : Int) else 1) = 1 by decide])
    | (go_at_call 18; refine (do_plain (HB.out.below hb7) 1 64 8 0 0 (by decide) (by rw [HNW.out]; decide)).mono ?_; rintro e w8 ⟨sl, rfl, hby, hst8⟩; rw [show Mb.ansV s1.m 1 64 8 = 16 from HT.out]; obtain ⟨Asl, csl, rfl, _⟩ := hby))
  go_ret
  have hb8 : Below w.heap.size w w8 := hst8.2.below (HLOW.out.trans (hb7.mono HLOW.out.size)) (Nat.le_trans HLOW.out.size hb7.size) fun k hk => by rcases hk with rfl | rfl <;> assumption
  have hb8a := hb8.alloc hb8.size (.cells #[.int .u64 (16 : Nat), .bool (Mb.ansD s1.m 1 64 8 0), .slice Asl (Mb.ansB s1.m 1 64 8).length csl] 33)
  exact ⟨rfl, hb8a.trans (hb9.mono hb8a.size)⟩
end Go.Proofs.YtjachppnlmiloaaGreat
namespace Go.Proofs.YtjachppnlmiloaaGreat
open Go.RowKit

set_option maxRecDepth 100000 in
set_option maxHeartbeats 1000000 in
theorem ringputNil_any (V : Nat) (D : Bool) (A : Option Addr) (L cp : Nat) (w : World) (hL : L ≤ 9223372036854775807) :
    Calls Tryz.prog 6 #[.agg #[.int .u64 V, .bool D, .slice A L cp]] w (TrueBelow w) := by
  have HW := (Below.refl w.heap.size w).alloc (Nat.le_refl _) (.cells #[.int .u64 V, .bool D, .slice A L cp] 33)
  have HX := Lib.hid (Go.Deep.blk_alloc_new w (.cells #[.int .u64 V, .bool D, .slice A L cp] 33))
  go_enter Tryz.func6, Tryz.ntmps6
  go_wp2_with fail
  generalize w.alloc (.cells #[.int .u64 V, .bool D, .slice A L cp] 33) = W at HW HX ⊢
  refine (fixed7_any W).mono ?_
  rintro e w1 ⟨rfl, hq1⟩
  have HW1 := HW.trans (hq1.mono HW.size)
  have hb1 := (hq1.block w.heap.size (Array.getElem?_eq_some_iff.1 HX.out).1).trans HX.out
  have d0 : w1.cell? ⟨w.heap.size, 0, none⟩ = some (.int .u64 V) := by simp [World.cell?, hb1]
  have d1 : w1.cell? ⟨w.heap.size, 1, none⟩ = some (.bool D) := by simp [World.cell?, hb1]
  have d2 : w1.cell? ⟨w.heap.size, 2, none⟩ = some (.slice A L cp) := by simp [World.cell?, hb1]
  clear hq1 HW HX hb1
  by_cases hlong : 100 < L
  · go_wp2
    go_ret
    exact ⟨rfl, HW1⟩
  · have hlong2 : L ≤ 100 := by omega
    clear hlong
    go_wp2_with fail
    refine (putTakeNil V D A L cp w1).mono ?_
    rintro e w2 ⟨rfl, hq2⟩
    go_wp2_with fail
    refine (putNextNil w2).mono ?_
    rintro e w3 ⟨hq3, rfl⟩
    have HW3 := (HW1.trans (hq2.mono HW1.size)).trans (hq3.mono (by have := HW1.size; have := hq2.size; omega))
    clear hq2 hq3 d0 d1 d2
    go_wp2_with (first
      | (go_at_call 28; refine (putAtNil _).mono ?_; rintro e w4 ⟨rfl, rfl⟩)
      | (go_at_call 25; refine (putResultNil _).mono ?_; rintro e w5 ⟨rfl, rfl⟩))
    go_ret
    exact ⟨rfl, HW3.alloc HW3.size _⟩
end Go.Proofs.YtjachppnlmiloaaGreat
namespace Go.Proofs.YtjachppnlmiloaaGreat
open Go.ChangeShapes Go.WideShapes Go.ChangeAt Go.RowKit Go.Deep

/-- An answer: its number, whether it stored, where its bytes stand, and which they are. -/
structure Ans where
  V : Nat
  D : Bool
  A : Option Addr
  L : Nat
  cap : Nat
  f : Nat → Nat

namespace Ans
/-- Its slice. -/
def sl (x : Ans) : Value := .slice x.A x.L x.cap
/-- Its bytes. -/
def bs (x : Ans) : List Int := Mb.bl x.f 0 x.L
/-- It reads so in w. -/
structure Is (x : Ans) (w : World) : Prop where
  num : x.V < 18446744073709551616
  isB : Mb.IsB x.f
  bytes : BytesAt w (.slice x.A x.L x.cap) (Mb.bl x.f 0 x.L)
  room : x.L ≤ x.cap
  few : x.cap ≤ 9223372036854775807
end Ans

theorem answerOne : Tryz.prog.cellsOf 33 = 3 := by kernel_rfl

set_option maxRecDepth 100000 in
theorem answer_cells {H : Type} {enc : TypeId × Value → H} {W : World} {fuel : Nat} {cs : List Value} {x : DataW H × List MemPlace} (hsz : cs.length = 3)
    (h : DataW.trod enc Tryz.prog W 0 (fun _ => true) true fuel 33 cs = some x) :
    ∃ y : Ans, cs = [.int .u64 y.V, .bool y.D, y.sl] ∧ y.Is W := by
  match cs, hsz with
  | [v0, v1, v2], _ =>
    obtain ⟨xs, n, _, _, _, hlen, hg⟩ := DataW.trod_struct Tryz.underlying33 h
    have g0 := hg 0 _ rfl
    have g1 := hg 1 _ rfl
    have g2 := hg 2 _ rfl
    have cU : Tryz.prog.cellsOf 31 = 1 := by kernel_rfl
    have cD : Tryz.prog.cellsOf 4 = 1 := by kernel_rfl
    have cB : Tryz.prog.cellsOf 24 = 1 := by kernel_rfl
    match xs, hlen with
    | [y0, y1, y2], _ =>
      simp [cU, cD, cB] at g0 g1 g2
      obtain ⟨V, e0, _, w0⟩ := DataW.trod_int Tryz.underlying31 g0
      obtain ⟨D, e1, _⟩ := DataW.trod_bool Tryz.underlying4 g1
      obtain ⟨A, L, cap, f, e2, h1, h2, h3, h4⟩ := bytes_cell g2
      simp only [List.cons.injEq, and_true] at e0 e1 e2
      subst e0 e1 e2
      have b0 := u64_wide w0
      obtain ⟨V, rfl⟩ := Int.eq_ofNat_of_zero_le b0.1
      exact ⟨⟨V, D, A, L, cap, f⟩, rfl, by show V < 18446744073709551616; omega, h1, h2, h3, h4⟩

set_option maxRecDepth 100000 in
theorem open_answer {H : Type} {enc : TypeId × Value → H} {W : World} {base : Nat} {v : Value} {d : DataW H} {ps : List MemPlace}
    (hv : Value.okWide Tryz.prog W .any base 33 v) (h : DataW.Trod enc Tryz.prog W 0 (fun _ => true) true 33 v d ps) :
    ∃ y : Ans, v = .agg #[.int .u64 y.V, .bool y.D, .slice y.A y.L y.cap] ∧ y.Is W := by
  obtain ⟨cs, rfl, hsz⟩ := okWide_struct Tryz.underlying33 hv
  obtain ⟨l⟩ := cs
  rw [answerOne] at hsz
  obtain ⟨fuel, hf⟩ := h
  obtain ⟨y, hy, hi⟩ := answer_cells (by simpa [Value.cells] using hsz) hf
  refine ⟨y, ?_, hi⟩
  simp [Value.cells] at hy
  rw [hy]
  rfl

/-- A slice of n answers that reads as T. -/
def ToldAt (W : World) (A : Option Addr) (n : Nat) (T : Nat → Ans) : Prop :=
  0 < n → ∃ b off, A = some ⟨b, off, none⟩ ∧ b < W.heap.size ∧ ∀ i, i < n → W.cell? ⟨b, off + i * 3, none⟩ = some (.int .u64 (T i).V) ∧ W.cell? ⟨b, off + i * 3 + 1, none⟩ = some (.bool (T i).D) ∧ W.cell? ⟨b, off + i * 3 + 2, none⟩ = some (.slice (T i).A (T i).L (T i).cap) ∧ (T i).Is W

set_option maxRecDepth 100000 in
theorem open_answers {H : Type} {enc : TypeId × Value → H} {W : World} {base : Nat} {v : Value} {d : DataW H} {ps : List MemPlace}
    (hv : Value.okWide Tryz.prog W .any base 25 v) (h : DataW.Trod enc Tryz.prog W 0 (fun _ => true) true 25 v d ps) :
    ∃ (A : Option Addr) (L cap : Nat) (T : Nat → Ans), v = .slice A L cap ∧ ToldAt W A L T ∧ L ≤ cap ∧ cap ≤ 9223372036854775807 := by
  obtain ⟨a0, len0, cap0, rfl⟩ := okWide_slice Tryz.underlying25 hv
  obtain ⟨fuel, hf⟩ := h
  rcases open_slice Tryz.underlying25 hf with ⟨hcs, _⟩ | ⟨a, len, cap, m, n, D, Pl, hcs, hb, hl, hm, hmm, _, hi⟩
  · simp [Value.cells] at hcs
    obtain ⟨rfl, rfl, rfl⟩ := hcs
    exact ⟨none, 0, 0, fun _ => ⟨0, false, none, 0, 0, fun _ => 0⟩, rfl, fun h => absurd h (Nat.lt_irrefl 0), Nat.le_refl _, by decide⟩
  · simp [Value.cells] at hcs
    obtain ⟨rfl, rfl, rfl⟩ := hcs
    simp only [if_true] at hmm
    rw [answerOne] at hi
    have hx : ∀ i, i < m → ∃ y : Ans, (∀ j : Nat, j < 3 → W.cell? ((a.add (i * 3)).add j) = ([.int .u64 y.V, .bool y.D, y.sl] : List Value)[j]?) ∧ y.Is W := by
      intro i him
      obtain ⟨cs', hc, ht'⟩ := hi i him
      obtain ⟨_, hcl, hat⟩ := World.cells?_some hc
      obtain ⟨y, hy, his⟩ := answer_cells hcl ht'
      subst hy
      exact ⟨y, hat, his⟩
    have hT : ∃ T : Nat → Ans, ∀ i, i < m → (∀ j : Nat, j < 3 → W.cell? ((a.add (i * 3)).add j) = ([.int .u64 (T i).V, .bool (T i).D, (T i).sl] : List Value)[j]?) ∧ (T i).Is W := by
      refine ⟨fun i => if h : i < m then Classical.choose (hx i h) else ⟨0, false, none, 0, 0, fun _ => 0⟩, fun i him => ?_⟩
      simp only [dif_pos him]
      exact Classical.choose_spec (hx i him)
    obtain ⟨T, hT⟩ := hT
    refine ⟨some a, _, _, T, rfl, fun hp => ?_, hl, by unfold maxLen at hm; omega⟩
    obtain ⟨b, off, spot⟩ := a
    have h00 := (hT 0 (by omega)).1 0 (by decide)
    have hspot : spot = none := by simpa [Addr.add] using World.cell?_spot h00
    subst hspot
    refine ⟨b, off, rfl, ?_, fun i him => ?_⟩
    · rcases Nat.lt_or_ge b W.heap.size with hlt | hge
      · exact hlt
      · simp [World.cell?, Addr.add, Array.getElem?_eq_none hge] at h00
    · obtain ⟨hc, his⟩ := hT i (by omega)
      have e : ∀ j, ((⟨b, off, none⟩ : Addr).add (i * 3)).add j = ⟨b, off + i * 3 + j, none⟩ := fun j => by
        unfold Addr.add
        split <;> split <;> simp_all
      have c0 := hc 0 (by decide)
      have c1 := hc 1 (by decide)
      have c2 := hc 2 (by decide)
      rw [e] at c0 c1 c2
      exact ⟨c0, c1, c2, his⟩

theorem Ans.Is.below {x : Ans} {w w' : World} (h : x.Is w) (hb : Below w.heap.size w w') : x.Is w' := ⟨h.num, h.isB, h.bytes.below hb, h.room, h.few⟩

theorem ToldAt.below {W W' : World} {A : Option Addr} {n : Nat} {T : Nat → Ans} (h : ToldAt W A n T) (hb : Below W.heap.size W W') : ToldAt W' A n T := by
  intro hp
  obtain ⟨b, off, e, hlt, hc⟩ := h hp
  refine ⟨b, off, e, Nat.lt_of_lt_of_le hlt hb.size, fun i hi => ?_⟩
  obtain ⟨c0, c1, c2, his⟩ := hc i hi
  have k := fun j => hb.cell (p := ⟨b, j, none⟩) hlt
  exact ⟨(k _).trans c0, (k _).trans c1, (k _).trans c2, his.below hb⟩
end Go.Proofs.YtjachppnlmiloaaGreat
namespace Go.Proofs.YtjachppnlmiloaaGreat
open Go.ChangeShapes Go.WideShapes Go.ChangeAt Go.RowKit

set_option maxRecDepth 100000 in
theorem ringputNil_lifted (os : Os) (started : os.Started) (H : Type) (enc : TypeId × Value → H) :
    ReturnsInHanded {} Tryz.checked os 6 .any (Rows.ringputNilSpec.pre6 enc Tryz.prog Tryz.f6 Rows.ringputNilRow.domain false) (Rows.ringputNilSpec.post enc Tryz.prog Tryz.f6 false true false false) := by
  refine returnsInHanded_of_change (C := Tryz.checked) own started (by kernel_rfl) Tryz.func6
    (ChangeSpec.witness6 (enc := enc) (C := Tryz.checked) false ⟨#[], #[.agg #[.int .u64 0, .bool false, .slice none 0 0]], []⟩ 8 (by kernel_rfl) (by kernel_rfl) (by kernel_rfl) (by kernel_rfl)) ?_
  intro W base args ds gs before hval0 hW _ _
  have hval : ∀ (j : Nat) t v, Tryz.f6.params[j]? = some t → args[j]? = some v → Value.okWide Tryz.prog W .any base t v := hval0
  have hW' := hW
  obtain ⟨p, q, hA0, hV, rfl, hfz, hnd⟩ := hW
  have hA : DataW.TrodAll enc Tryz.prog W 0 (fun _ => true) true Tryz.f6.params.toList args.toList ds p := hA0
  rw [Tryz.params6] at hA hval
  obtain ⟨v0, d0, rfl, rfl, h0⟩ := trodAll_one hA
  obtain ⟨rfl, rfl⟩ := trodVars_none hV
  obtain ⟨y0, rfl, hy0⟩ := open_answer (hval 0 33 v0 rfl rfl) h0
  clear hA0 hval0
  exact (ringputNil_any y0.V y0.D y0.A y0.L y0.cap W (by have := hy0.room; have := hy0.few; omega)).mono fun e W' ⟨he, hbel⟩ => ⟨_, he, law_post laidOut (by kernel_rfl) rfl Tryz.underlying4 rfl hW' rfl hbel⟩

theorem ringputNil_row : Rows.RingputNilSaid :=
  OpenClaim.holds_of_wide 6 Tryz.f6 rfl rfl rfl rfl rfl rfl rfl ⟨rfl, rfl, rfl, rfl, rfl⟩ rfl rfl rfl rfl rfl (by kernel_rfl) Tryz.func6 (by kernel_rfl)
    (of_decide_eq_true (by kernel_rfl)) (by unfold Func.isWrapper; first | (rw [if_pos (by decide +kernel)]; kernel_rfl) | (rw [if_neg (by decide +kernel)]; exact ⟨rfl, rfl⟩))
    (fun os started H enc _ => ringputNil_lifted os started H enc)

theorem ringputNil_holds : Rows.RingputNilSaid := ringputNil_row
end Go.Proofs.YtjachppnlmiloaaGreat
