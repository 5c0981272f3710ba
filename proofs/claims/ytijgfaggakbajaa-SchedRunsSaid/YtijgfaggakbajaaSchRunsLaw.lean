/-
  The statement that a row of picks does what they do one by one (layer 6), walked.
-/
import Derived.Test.YtijgfaggakbajaaSchTwo
import Derived.Test.YtijgfaggakbajaaSchSame
import Derived.Test.YtijgfaggakbajaaSchOpen
import Derived.Test.YtijgfaggakbajaaSchCalls
namespace Go.Proofs.Ytijgfaggakbajaa
open Go.RowKit

set_option maxRecDepth 100000 in
set_option maxHeartbeats 1000000 in
theorem schRunsLaw_out (w : World) (A : Option Addr) (n cap : Nat) (A2 : Option Addr) (M cap2 : Nat) (hn : n ≤ 9223372036854775807) (hM : M ≤ 9223372036854775807) (h : 6 < n ∨ 120 < M) :
    Calls Try.prog 5 #[.slice A n cap, .slice A2 M cap2] w (TrueBelow w) := by
  by_cases h1 : 6 < n
  · clear h
    go_enter Try.func5, Try.ntmps5
    go_wp2_with (go_at_call 7; refine (schedFixed_any w).mono ?_; rintro e w1 ⟨rfl, hq1⟩)
    go_ret
    exact ⟨rfl, hq1⟩
  · have h1' : n ≤ 6 := by omega
    have h2 : 120 < M := by omega
    clear h h1
    go_enter Try.func5, Try.ntmps5
    go_wp2_with (go_at_call 7; refine (schedFixed_any w).mono ?_; rintro e w1 ⟨rfl, hq1⟩)
    go_ret
    exact ⟨rfl, hq1⟩

set_option maxRecDepth 100000 in
set_option maxHeartbeats 4000000 in
theorem schRunsLaw_main (w : World) (A : Option Addr) (n cap : Nat) (js : Nat → Jb) (hj : JbsAt w A n js) (hcap : n ≤ cap) (hcap2 : cap ≤ 9223372036854775807) (A2 : Option Addr) (cap2 : Nat) (ps : List Pk) (hps : PksAt w A2 ps) (hc : ps.length ≤ cap2) (hc2 : cap2 ≤ 9223372036854775807)
    (hn : n ≤ 6) (hM : ps.length ≤ 120) :
    Calls Try.prog 5 #[.slice A n cap, .slice A2 ps.length cap2] w (TrueBelow w) := by
  have HJ := Lib.hid hj
  have HP := Lib.hid hps
  clear hj hps
  go_enter Try.func5, Try.ntmps5
  go_wp2_with (go_at_call 7; refine (schedFixed_any w).mono ?_; rintro e w1 ⟨rfl, hq1⟩)
  go_loopw [38] (fun t38 wr => ∃ k : Nat, t38 = .int .i64 k ∧ k ≤ n ∧ Below w.heap.size w wr ∧ ∀ j, j < k → (js j).L ≤ 60) (fun t38 _ => n - (intOf t38).toNat)
  case atStart => exact ⟨0, rfl, Nat.zero_le _, hq1, fun j hj => absurd hj (Nat.not_lt_zero _)⟩
  case round =>
    obtain ⟨k, rfl, hk, hbw, hall⟩ := hrel
    have HB := Lib.hid hbw
    have HALL := Lib.hid hall
    clear hbw hall
    by_cases hlt : k < n
    · obtain ⟨b, off, rfl, hbl, hcl⟩ := HJ.out (by omega)
      obtain ⟨c0, c1, c2, c3, his⟩ := hcl k hlt
      have kc := fun q => HB.out.cell (p := ⟨b, q, none⟩) hbl
      have c0 := (kc _).trans c0
      have c1 := (kc _).trans c1
      have c2 := (kc _).trans c2
      have c3 := (kc _).trans c3
      have hrm := his.room
      have hfw := his.few
      clear kc hcl his
      have hsz := HB.out.size
      by_cases hL : (js k).L ≤ 60
      · have HL := Lib.hid hL
        generalize hjq : js k = j at *
        have HJQ := Lib.hid hjq
        clear hjq
        go_wp2
        refine ⟨⟨k + 1, rfl, hlt, HB.out.alloc hsz _, fun j' hj' => ?_⟩, by simp only [intOf]; omega⟩
        by_cases e : j' = k
        · rw [e, HJQ.out]; exact HL.out
        · exact HALL.out j' (by omega)
      · generalize hjq : js k = j at *
        have HJQ := Lib.hid hjq
        clear hjq
        have hL' : 60 < j.L := by omega
        go_wp2
        go_ret
        exact ⟨rfl, HB.out.alloc hsz _⟩
    · obtain rfl : n = k := by omega
      have hsz := HB.out.size
      go_upto_region 12 with (go_at_call 8; refine (new_yes 256 32 _ (by decide) (by decide) (by decide) (by decide)).mono ?_; rintro e w2 ⟨g1, h1, rfl, B1, hg1, hh1, hb2⟩)
      have lw2 := HB.out.trans (hb2.mono hsz)
      go_upto_region 13 with (go_at_call 8; refine (new_yes 256 32 _ (by decide) (by decide) (by decide) (by decide)).mono ?_; rintro e w3 ⟨g2, h2, rfl, B2, hg2, hh2, hb3⟩)
      have lw3 := lw2.trans (hb3.mono lw2.size)
      go_upto_region 14 with (go_at_call 9; refine (made_walk A n cap js (HJ.out.below lw3) hn hcap hcap2 HALL.out).mono ?_; rintro e w4 ⟨oA, A4, c4, A5, c5, xs, Bs, rfl, hmA⟩)
      have lw4 := lw3.trans (hmA.low.mono lw3.size)
      go_upto_region 15 with (go_at_call 9; refine (made_walk A n cap js (HJ.out.below lw4) hn hcap hcap2 HALL.out).mono ?_; rintro e w5 ⟨oB, A6, c6, A7, c7, ys, Cs, rfl, hmB⟩)
      have hst2 := start_two B1 (Nat.le_trans hsz hg1) (Nat.le_trans hsz hh1) lw2 B2 hg2 hh2 hb3 hmA hmB hn
      clear hmA hmB B1 B2 lw2 lw3 lw4 hb2 hb3 hg1 hh1 hg2 hh2
      go_upto_region 16 with (go_at_call 10; first | (refine hnew2.mono ?_; rintro e w7 ⟨oV, gw2, ga2, ax2, oW, rfl, hV, hW, hdis⟩) | (refine hst2.mono ?_; rintro e w6 ⟨gw, ga, ax, rfl, hnew2⟩))
      clear hst2 hnew2
      obtain ⟨st0, hst0⟩ : ∃ s, s = St.made n (fun i => (js i).mc) (fun _ => 0) 32 0 := ⟨_, rfl⟩
      have htr0 : st0.tr = [] := by rw [hst0]; rfl
      rw [← hst0] at hV hW
      clear hst0
      have hps7 := HP.out.keep hV.low.size fun a _ hl => hV.low.block _ hl
      have hA7 : 0 < ps.length → ∀ a, A2 = some a → oV a.block = .no := fun hp a ha => by
        obtain ⟨b, off, e, hlt, _⟩ := HP.out hp
        rw [e] at ha
        cases ha
        exact hV.out b hlt
      obtain ⟨⟨tvV, tsV, hsV⟩, hlV, hoV⟩ := hV
      have htl0 : st0.tr.length + ps.length ≤ 1000000 := by rw [htr0]; simp; omega
      go_upto_region 17 with (go_at_call 23; refine (run_all hsV A2 cap2 ps hps7 hc hc2 hA7 htl0).mono ?_; rintro e w8 ⟨oV8, tv8, ts8, A8, c8, qs8, rfl, hmap8, hev8, hsV8, ht8, ho8⟩)
      have hV8 := Stood.after ⟨⟨tvV, tsV, hsV⟩, hlV, hoV⟩ ht8 ⟨tv8, ts8, hsV8⟩ ho8
      have hW8 := Stood.aside hW ht8 hdis hV8.low
      have hoW7 : ∀ k, w7.heap.size ≤ k → oW k = .no := fun k hk => hW.new_no hk
      have hdis8 : ∀ k, oW k ≠ .no → oV8 k = .no := fun k hk => by
        have hk7 : k < w7.heap.size := Nat.lt_of_not_le fun h => hk (hoW7 k h)
        exact (ho8 k hk7).trans (hdis k hk)
      have htold : (St.runs ps st0 []).1.tr = (St.runs ps st0 []).2 := St.runs_told ps st0 [] htr0
      have htrl : (St.runs ps st0 []).1.tr.length ≤ 1000000 := Nat.le_trans (St.runs_tr ps st0 []) htl0
      obtain ⟨res, hres⟩ : ∃ res, St.runs ps st0 [] = res := ⟨_, rfl⟩
      rw [hres] at hmap8 hev8 hV8 htold htrl ⊢
      have HR := Lib.hid hres
      have HV8 := Lib.hid hV8
      have HW8 := Lib.hid hW8
      have HG8 := Lib.hid (And.intro hmap8 hev8)
      have HDS := Lib.hid (And.intro hoW7 hdis8)
      have HTO := Lib.hid (And.intro htold (And.intro htrl htl0))
      clear hsV hlV hoV hsV8 ht8 ho8 hV8 hW8 hmap8 hev8 hoW7 hdis8 hdis hW hps7 hA7 htold htrl hres htl0 htr0
      have HP8 := Lib.hid (HP.out.keep HV8.out.low.size fun a _ hl => HV8.out.low.block _ hl)
      have HA8 : Hid (0 < ps.length → ∀ a, A2 = some a → oW a.block = .no) := Lib.hid fun hp a ha => by
        obtain ⟨b, off, e, hlt, _⟩ := HP.out hp
        rw [e] at ha
        cases ha
        exact HW8.out.out b hlt
      obtain ⟨tvW, tsW, hsW⟩ := HW8.out.sw
      have HSW0 := Lib.hid hsW
      clear hsW
      go_wp2_with fail
      go_loopw [76, 18] (fun t76 t18 wr => ∃ (i : Nat) (o1 : Nat → Pt) (tv1 : Value) (ts1 qs : List Tx) (st1 : St) (Av : Option Addr) (nv cv : Nat), t76 = .int .i64 i ∧ t18 = .slice Av nv cv ∧ nv = qs.length ∧ i ≤ ps.length ∧ qs.length ≤ i ∧ Sw wr o1 gw2 ga2 g2 h2 ax2 tv1 ts1 st1 ∧ St.runs (ps.drop i) st1 (qs.map Tx.e) = res ∧ st1.tr.length + (ps.length - i) ≤ 1000000 ∧
        wr.ownsRow 0 51 12 (.slice Av nv cv) qs.length (qs.flatMap Tx.cells) ∧ (∀ k, Value.ownBlock (.slice Av nv cv) = some k → w8.heap.size ≤ k ∧ o1 k = .no) ∧ Texts (fun k => (w8.heap.size ≤ k ∧ o1 k = .no) ∧ Value.ownBlock (.slice Av nv cv) ≠ some k) wr qs ∧ Touch (Own oW) w8 wr ∧ ∀ k, k < w8.heap.size → o1 k = oW k) (fun t76 _ _ => ps.length - (intOf t76).toNat)
      case atStart => exact ⟨0, oW, tvW, tsW, [], st0, none, 0, 0, rfl, rfl, rfl, Nat.zero_le _, Nat.le_refl _, HSW0.out, by rw [List.drop_zero]; exact HR.out, HTO.out.2.2, World.ownsRow_nil _ _ _ _, fun k hk => absurd hk (by simp [Value.ownBlock]), Texts.nil _ _, Touch.refl _ _, fun _ _ => rfl⟩
      case round =>
        obtain ⟨i, o1, tv1, ts1, qs, st1, Av, nv, cv, rfl, rfl, hnv, hi, hqi, hsw, heq, hlen, hown, hob, htx, htt, hoo⟩ := hrel
        have HNV := Lib.hid hnv
        have HEQ := Lib.hid heq
        have HLEN := Lib.hid hlen
        have HSW := Lib.hid hsw
        have HOW := Lib.hid (And.intro hown (And.intro hob htx))
        have HTT := Lib.hid (And.intro htt hoo)
        have hszw := htt.size
        clear hnv heq hlen hsw hown hob htx htt hoo
        by_cases hlt : i < ps.length
        · obtain ⟨p, hp⟩ : ∃ p, ps[i]? = some p := ⟨_, List.getElem?_eq_getElem hlt⟩
          obtain ⟨b, off, rfl, hbl, hcl⟩ := HP8.out (by omega)
          have hbo := HA8.out (by omega) _ rfl
          have hbk := HTT.out.1.block b hbl fun e => e hbo
          have kc : ∀ j, wr.cell? ⟨b, j, none⟩ = w8.cell? ⟨b, j, none⟩ := fun j => World.cell?_of_block (w := w8) (a := ⟨b, j, none⟩) hbk
          obtain ⟨c0, c1, c2⟩ := hcl i p hp
          have c0 := (kc _).trans c0
          have c1 := (kc _).trans c1
          have c2 := (kc _).trans c2
          have hdrop : ps.drop i = p :: ps.drop (i + 1) := by
            rw [List.drop_eq_getElem_cons hlt]
            congr 1
            have := List.getElem?_eq_getElem hlt
            rw [hp] at this
            injection this with this
            exact this.symm
          have he := HEQ.out
          rw [hdrop] at he
          have he2 : St.runs (ps.drop (i + 1)) (st1.pick p).1 (if (st1.pick p).2.1 = 0 then qs.map Tx.e ++ [(st1.pick p).2.2] else qs.map Tx.e) = res := he
          have hpl := St.act_len st1 p
          obtain ⟨pr, hpr⟩ : ∃ pr, st1.pick p = pr := ⟨_, rfl⟩
          have hb1 := (Below.refl wr.heap.size wr).alloc (Nat.le_refl _) (.cells #[.int .i64 p.K, .int .i64 p.A, .int .i64 p.N] 44)
          have hlen := HLEN.out
          have hcall := pick_any (HSW.out.below hb1) p (by omega)
          rw [hpr] at he2 hcall hpl
          obtain ⟨s2, r, v⟩ := pr
          have HC := Lib.hid hcall
          have HE := Lib.hid he2
          have HPL := Lib.hid hpl
          clear hcall he he2 hpr hdrop kc hcl hbk hp hpl
          by_cases hr : r = 0
          · subst hr
            go_wp2_with (first
              | (go_at_call 11; refine HC.out.mono ?_; rintro e w2 ⟨o2, A1, l1, q1, A2, l2, q2, tv2, ts2, he, hb⟩; subst he; have HBB := Lib.hid (runStep hszw hb1 HSW.out hb HOW.out.1 HOW.out.2.1 HOW.out.2.2); clear hb)
              | (at_builtin; refine wpList_app_ev rfl _ _ rfl (.slice Av nv cv) qs.length _ ⟨v, .slice A1 l1 q1, .slice A2 l2 q2⟩ _ _ rfl rfl ((HBB.out.row.alloc _).alloc _) (blk_new_at _ _ _ (by simp)) rfl rfl (by omega) ?_; intro v7 w7 happ; obtain ⟨g7, q7, rfl⟩ := happ.form; have HAP := Lib.hid happ; clear happ))
            go_roundw
            case rel =>
              have he := HE.out
              rw [if_pos (by trivial)] at he
              have hpl := HPL.out
              obtain ⟨z1, z2, z3, z4, z5, z6⟩ := runApp HBB.out HAP.out HTT.out.1 HTT.out.2
              exact ⟨i + 1, o2, tv2, ts2, qs ++ [⟨v, .slice A1 l1 q1, .slice A2 l2 q2⟩], s2, _, _, q7, by go_num, rfl, by simp, by omega, by simp; omega, z1, by rw [List.map_append]; exact he, by omega, z2, z3, z4, z5, z6⟩
            case measure => simp [intOf]; omega
          · have hr2 : (r == 0) = false := by simpa using hr
            go_wp2_with (go_at_call 11; refine HC.out.mono ?_; rintro e w2 ⟨o2, A1, l1, q1, A2, l2, q2, tv2, ts2, he, hb⟩; subst he; have HBB := Lib.hid (runStep hszw hb1 HSW.out hb HOW.out.1 HOW.out.2.1 HOW.out.2.2); clear hb)
            go_roundw
            case rel =>
              have he := HE.out
              rw [if_neg hr] at he
              have hpl := HPL.out
              have hq := HBB.out
              have hbx := (Below.refl w2.heap.size w2).alloc (Nat.le_refl _) (.cells #[.int .i64 v.pk.K, .int .i64 v.pk.A, .int .i64 v.pk.N, .int .i64 v.ac.K, .int .i64 v.ac.P, .int .i64 v.ac.N, .int .u64 v.ac.V, .int .u64 v.ac.U, .slice A1 l1 q1, .int .u64 v.an.V, .bool v.an.D, .slice A2 l2 q2] 51)
              have hall := own_trans HTT.out.1 HTT.out.2 hq.touch hq.agree
              exact ⟨i + 1, o2, tv2, ts2, qs, s2, _, _, cv, by go_num, rfl, HNV.out, by omega, by omega, hq.sw.alloc _, he, by omega, hq.row.alloc _, hq.own, hq.old.keep hbx.size (fun k _ hl => hbx.block k hl), hall.1.alloc _, hall.2⟩
            case measure => simp [intOf]; omega
        · obtain rfl : i = ps.length := by omega
          have he := HEQ.out
          rw [List.drop_length] at he
          have he2 : (st1, qs.map Tx.e) = res := he
          have hq2 : qs.map Tx.e = res.2 := by rw [← he2]
          have hV9 := Stood.aside HV8.out HTT.out.1 (fun k hk => Classical.byContradiction fun e => hk (HDS.out.2 k e)) (Stood.after HW8.out HTT.out.1 ⟨_, _, HSW.out⟩ HTT.out.2).low
          have hg9 := HG8.out.2.touch HTT.out.1 fun k hk _ e => e (HDS.out.1 k hk.1)
          have hw9 : EvsAt (fun k => w8.heap.size ≤ k) wr (.slice Av nv cv) qs := EvsAt.of_own HOW.out.1 (HOW.out.2.2.mono fun k hk _ => hk.1.1) fun k hk => (HOW.out.2.1 k hk).1
          obtain ⟨tvV9, tsV9, hsV9⟩ := hV9.sw
          have HV9 := Lib.hid hV9
          have HSV9 := Lib.hid hsV9
          have HG9 := Lib.hid hg9
          have HW9 := Lib.hid (And.intro hq2 hw9)
          obtain rfl : nv = qs.length := HNV.out
          have hlow9 := hV9.low.size
          clear hV9 hsV9 hg9 hw9 hq2 he he2 HEQ HSW HOW HTT HLEN HV8 HW8 HSW0
          obtain ⟨w9, rfl⟩ : ∃ W, W = wr := ⟨_, rfl⟩
          go_wp2_with (go_at_call 18; refine (trace_any HSV9.out HTO.out.2.1).mono ?_; rintro e w10 ⟨A10, c10, qs10, rfl, hm10, ⟨hev10, hown10, hA10⟩, hb10⟩)
          have HL10 := Lib.hid (show qs10.length = res.1.tr.length by rw [← hm10, List.length_map])
          have HT10 := Lib.hid (And.intro hm10 (And.intro hev10 (And.intro hown10 hA10)))
          have HB10 := Lib.hid hb10
          have hsz10 := hb10.size
          clear hm10 hev10 hown10 hA10 hb10
          generalize hmm : res.1.tr.length = m at HTO HL10 HT10 ⊢
          have HMM := Lib.hid hmm
          clear hmm
          have hmb : m ≤ 1000000 := HTO.out.2.1
          go_loopw [96] (fun t96 wr => ∃ i : Nat, t96 = .int .i64 i ∧ i ≤ m ∧ Below (w9.heap.size + 1) w10 wr ∧ ∀ t ∈ qs10, Soft (w9.heap.size + 1) w10.heap.size wr t) (fun t96 _ => m - (intOf t96).toNat)
          case atStart => exact ⟨0, rfl, Nat.zero_le _, Below.refl _ _, fun t ht => Soft.of_own (HT10.out.2.2.1 t ht)⟩
          case round =>
            obtain ⟨i, rfl, hi, hbx, hsf⟩ := hrel
            have HBX := Lib.hid hbx
            have HSF := Lib.hid hsf
            have hszx := hbx.size
            clear hbx hsf
            by_cases hlt : i < m
            · obtain ⟨t, ht⟩ : ∃ t, qs10[i]? = some t := ⟨_, List.getElem?_eq_getElem (by rw [HL10.out]; exact hlt)⟩
              obtain ⟨⟨A', c', hv', hx1, hx2, hp'⟩, htx'⟩ := HT10.out.2.1
              have hxl : qs10.length = m := HL10.out
              rw [hxl] at hv' hx1 hp'
              injection hv' with z1 z2 z3
              subst z1 z3
              obtain ⟨b, eb, _, hbl, hrow⟩ := hp' (by omega)
              have hbw : b = w9.heap.size := HT10.out.2.2.2 _ eb
              subst eb
              have htm := List.mem_of_getElem? ht
              obtain ⟨A1, q1, e1, e3, e4, _⟩ := HSF.out t htm
              obtain ⟨A2, q2, e2⟩ := (htx' t htm).2.length
              have hcell : ∀ j u, t.cells[j]? = some u → wr.cell? ⟨b, i * 12 + j, none⟩ = some u := fun j u hj => (HBX.out.cell (p := ⟨b, i * 12 + j, none⟩) (show b < w9.heap.size + 1 by omega)).trans (hrow i t ht j u hj)
              obtain ⟨⟨p, a, x⟩, s1, s2⟩ := t
              replace e1 : s1 = .slice A1 a.bs.length q1 := e1
              replace e2 : s2 = .slice A2 x.bs.length q2 := e2
              subst e1 e2
              have e3 : a.bs.length ≤ q1 := e3
              have k0 : wr.cell? ⟨b, i * 12, none⟩ = some (.int .i64 p.K) := hcell 0 _ rfl
              have k1 : wr.cell? ⟨b, i * 12 + 1, none⟩ = some (.int .i64 p.A) := hcell 1 _ rfl
              have k2 : wr.cell? ⟨b, i * 12 + 2, none⟩ = some (.int .i64 p.N) := hcell 2 _ rfl
              have k3 : wr.cell? ⟨b, i * 12 + 3, none⟩ = some (.int .i64 a.K) := hcell 3 _ rfl
              have k4 : wr.cell? ⟨b, i * 12 + 4, none⟩ = some (.int .i64 a.P) := hcell 4 _ rfl
              have k5 : wr.cell? ⟨b, i * 12 + 5, none⟩ = some (.int .i64 a.N) := hcell 5 _ rfl
              have k6 : wr.cell? ⟨b, i * 12 + 6, none⟩ = some (.int .u64 a.V) := hcell 6 _ rfl
              have k7 : wr.cell? ⟨b, i * 12 + 7, none⟩ = some (.int .u64 a.U) := hcell 7 _ rfl
              have k8 : wr.cell? ⟨b, i * 12 + 8, none⟩ = some (.slice A1 a.bs.length q1) := hcell 8 _ rfl
              have k9 : wr.cell? ⟨b, i * 12 + 9, none⟩ = some (.int .u64 x.V) := hcell 9 _ rfl
              have k10 : wr.cell? ⟨b, i * 12 + 10, none⟩ = some (.bool x.D) := hcell 10 _ rfl
              have k11 : wr.cell? ⟨b, i * 12 + 11, none⟩ = some (.slice A2 x.bs.length q2) := hcell 11 _ rfl
              have HTM := Lib.hid htm
              have HSF1 := Lib.hid fun t ht => (HSF.out t ht).keep (w' := wr.alloc (.cells #[.int .i64 p.K, .int .i64 p.A, .int .i64 p.N, .int .i64 a.K, .int .i64 a.P, .int .i64 a.N, .int .u64 a.V, .int .u64 a.U, .slice A1 a.bs.length q1, .int .u64 x.V, .bool x.D, .slice A2 x.bs.length q2] 51)) fun k _ hk => Below.heap_alloc _ _ _ (by omega)
              have HBX1 := Lib.hid (HBX.out.alloc (by omega) (.cells #[.int .i64 p.K, .int .i64 p.A, .int .i64 p.N, .int .i64 a.K, .int .i64 a.P, .int .i64 a.N, .int .u64 a.V, .int .u64 a.U, .slice A1 a.bs.length q1, .int .u64 x.V, .bool x.D, .slice A2 x.bs.length q2] 51))
              have hblk := Go.Deep.blk_alloc_new wr (.cells #[.int .i64 p.K, .int .i64 p.A, .int .i64 p.N, .int .i64 a.K, .int .i64 a.P, .int .i64 a.N, .int .u64 a.V, .int .u64 a.U, .slice A1 a.bs.length q1, .int .u64 x.V, .bool x.D, .slice A2 x.bs.length q2] 51)
              have hgB : w10.heap.size ≤ wr.heap.size := hszx
              have hgl : wr.heap.size < (wr.alloc (.cells #[.int .i64 p.K, .int .i64 p.A, .int .i64 p.N, .int .i64 a.K, .int .i64 a.P, .int .i64 a.N, .int .u64 a.V, .int .u64 a.U, .slice A1 a.bs.length q1, .int .u64 x.V, .bool x.D, .slice A2 x.bs.length q2] 51)).heap.size := by simp
              clear hcell hrow hp' htx' ht htm hxl hx1 hx2 hbw
              go_upto_region 28 with (fail)
              generalize wr.alloc (.cells #[.int .i64 p.K, .int .i64 p.A, .int .i64 p.N, .int .i64 a.K, .int .i64 a.P, .int .i64 a.N, .int .u64 a.V, .int .u64 a.U, .slice A1 a.bs.length q1, .int .u64 x.V, .bool x.D, .slice A2 x.bs.length q2] 51) = W1 at HSF1 HBX1 hblk hgl ⊢
              have d8 : W1.cell? ⟨wr.heap.size, 8, none⟩ = some (.slice A1 a.bs.length q1) := by simp [World.cell?, hblk]
              generalize wr.heap.size = gB at hblk hgB hgl d8 ⊢
              clear hblk k0 k1 k2 k3 k4 k5 k6 k7 k8 k9 k10 k11
              go_wp2_with fail
              go_loopw [104] (fun t104 wr => ∃ j : Nat, t104 = .int .i64 j ∧ j ≤ a.bs.length ∧ Below (w9.heap.size + 1) w10 wr ∧ (∀ t ∈ qs10, Soft (w9.heap.size + 1) w10.heap.size wr t) ∧ wr.cell? ⟨gB, 8, none⟩ = some (.slice A1 a.bs.length q1) ∧ gB < wr.heap.size) (fun t104 _ => a.bs.length - (intOf t104).toNat)
              case atStart => exact ⟨0, rfl, Nat.zero_le _, HBX1.out, HSF1.out, d8, hgl⟩
              case round =>
                obtain ⟨j, rfl, hj, hbx, hsf, hc8, hgw⟩ := hrel
                have HBX2 := Lib.hid hbx
                have HSF2 := Lib.hid hsf
                clear hbx hsf d8
                by_cases hjl : j < a.bs.length
                · obtain ⟨A3, q3, e5, _, _, hp3⟩ := HSF2.out _ HTM.out
                  injection e5 with z4 z5 z6
                  subst z4 z6
                  obtain ⟨b3, eb3, hB3, hT3, hc3⟩ := hp3 (show 0 < a.bs.length by omega)
                  subst eb3
                  obtain ⟨⟨v, hcv⟩, hfz⟩ := hc3 j hjl
                  have hne : b3 ≠ gB := by omega
                  clear hp3 hc3
                  go_wp2
                  exact ⟨⟨j + 1, rfl, hjl, HBX2.out.setCell (p := ⟨b3, j, none⟩) hB3 _, fun t ht => (HSF2.out t ht).set _ _, (World.cell?_setCell_far _ _ _ _ hne).trans hc8, by simpa [World.setCell] using hgw⟩, by simp only [intOf]; omega⟩
                · obtain rfl : j = a.bs.length := by omega
                  go_wp2
                  exact ⟨⟨i + 1, rfl, hlt, HBX2.out, HSF2.out⟩, by simp only [intOf]; omega⟩
            · obtain rfl : i = m := by omega
              have hlowN : Below w9.heap.size w9 wr := HB10.out.trans (HBX.out.mono (Nat.le_succ _))
              have HLN := Lib.hid hlowN
              have HGN := Lib.hid (HG9.out.below hlowN)
              have HWN := Lib.hid (HW9.out.2.below hlowN)
              have HEN := Lib.hid (HG8.out.1.trans HW9.out.1.symm)
              have HSVN := Lib.hid (HSV9.out.below hlowN)
              clear hlowN
              go_wp2_with (first
                | (go_at_call 13; refine (evs_same hev20 HG20 (hm20.trans (HTO.out.1.trans HG8.out.1.symm))).mono ?_; rintro e w21 ⟨rfl, hb21⟩)
                | (go_at_call 13; refine (evs_same HGN.out HWN.out HEN.out).mono ?_; rintro e w19 ⟨rfl, hb19⟩)
                | (go_at_call 18; refine (trace_any (HSVN.out.below hb19) (by rw [HMM.out]; exact HTO.out.2.1)).mono ?_; rintro e w20 ⟨A20, c20, qs20, rfl, hm20, ⟨hev20, _, _⟩, hb20⟩; have HG20 := (HGN.out.below hb19).below hb20))
              go_ret
              have z0 := HV9.out.low.size
              have z1 := HLN.out.size
              have z2 := hb19.size
              have z3 := hb20.size
              exact ⟨rfl, (((HV9.out.low.trans (HLN.out.mono z0)).trans (hb19.mono (by omega))).trans (hb20.mono (by omega))).trans (hb21.mono (by omega))⟩

theorem schRunsLaw_all (w : World) (A : Option Addr) (n cap : Nat) (js : Nat → Jb) (hj : JbsAt w A n js) (hcap : n ≤ cap) (hcap2 : cap ≤ 9223372036854775807) (A2 : Option Addr) (cap2 : Nat) (ps : List Pk) (hps : PksAt w A2 ps) (hc : ps.length ≤ cap2) (hc2 : cap2 ≤ 9223372036854775807) :
    Calls Try.prog 5 #[.slice A n cap, .slice A2 ps.length cap2] w (TrueBelow w) := by
  by_cases h : 6 < n ∨ 120 < ps.length
  · exact schRunsLaw_out w A n cap A2 ps.length cap2 (by omega) (by omega) h
  · exact schRunsLaw_main w A n cap js hj hcap hcap2 A2 cap2 ps hps hc hc2 (by omega) (by omega)
end Go.Proofs.Ytijgfaggakbajaa
