/-
  Layer 6's Run, walked: a row of picks.
-/
import Derived.Test.YtijgfaggakbajaaSchCalls
namespace Go.Proofs.Ytijgfaggakbajaa
open Go.RowKit

/-- A slice of picks stands in memory. -/
def PksAt (w : World) (A : Option Addr) (ps : List Pk) : Prop := 0 < ps.length → ∃ b off, A = some ⟨b, off, none⟩ ∧ b < w.heap.size ∧ ∀ i p, ps[i]? = some p → w.cell? ⟨b, off + i * 3, none⟩ = some (.int .i64 p.K) ∧ w.cell? ⟨b, off + i * 3 + 1, none⟩ = some (.int .i64 p.A) ∧ w.cell? ⟨b, off + i * 3 + 2, none⟩ = some (.int .i64 p.N)

theorem PksAt.keep {w w' : World} {A : Option Addr} {ps : List Pk} (h : PksAt w A ps) (hs : w.heap.size ≤ w'.heap.size) (hb : ∀ a, A = some a → a.block < w.heap.size → w'.heap[a.block]? = w.heap[a.block]?) : PksAt w' A ps := fun hp => by
  obtain ⟨b, off, e, hl, hc⟩ := h hp
  have hk := hb _ e hl
  have hcell : ∀ j, w'.cell? ⟨b, j, none⟩ = w.cell? ⟨b, j, none⟩ := fun j => World.cell?_of_block (w := w) (a := ⟨b, j, none⟩) hk
  exact ⟨b, off, e, Nat.lt_of_lt_of_le hl hs, fun i p hi => ⟨(hcell _).trans (hc i p hi).1, (hcell _).trans (hc i p hi).2.1, (hcell _).trans (hc i p hi).2.2⟩⟩

/-- A row of picks: the state, the events of those that answered OK. -/
def St.runs : List Pk → St → List Ev → St × List Ev
  | [], st, es => (st, es)
  | p :: ps, st, es => St.runs ps (st.pick p).1 (if (st.pick p).2.1 = 0 then es ++ [(st.pick p).2.2] else es)

theorem St.act_len (st : St) (p : Pk) : (st.pick p).1.tr.length ≤ st.tr.length + 1 := by
  have hp : ∀ (s : St) (e : Ev), (s.push e).tr.length = s.tr.length + 1 := fun s e => by show (s.tr ++ [e]).length = _; simp
  by_cases h0 : st.chk p = 0
  · by_cases h1 : p.K = 1
    · rw [St.pick_kill h0 h1]; exact Nat.le_of_eq (hp _ _)
    · by_cases h2 : p.K = 2
      · rw [St.pick_tick h0 h2]; exact Nat.le_of_eq (hp _ _)
      · have hk : p.K = 0 := by have := St.chk_kind h0; omega
        cases hn : (st.ms p.A.toNat).next with
        | none => rw [St.pick_end h0 hk hn]; exact Nat.le_of_eq (hp _ _)
        | some a =>
          by_cases he : a.err st.nw = 0
          · rw [St.pick_ok h0 hk hn he]; show (st.tr ++ [_]).length ≤ _; simp
          · rw [St.pick_bad h0 hk hn he]; exact Nat.le_succ _
  · rw [St.pick_no h0]; exact Nat.le_succ _

/-- Run told events, in new memory that is nobody's. -/
def RunTold (o : Nat → Pt) (gw ga gb hb : Nat) (ax : Nat → Value) (res : St × List Ev) (w : World) (e : Ending) (w' : World) : Prop :=
  ∃ o' tv' ts' A c qs, e = .returned (.slice A res.2.length c) ∧ qs.map Tx.e = res.2 ∧ EvsAt (fun k => w.heap.size ≤ k ∧ o' k = .no) w' (.slice A res.2.length c) qs ∧
    Sw w' o' gw ga gb hb ax tv' ts' res.1 ∧ Touch (Own o) w w' ∧ ∀ k, k < w.heap.size → o' k = o k

theorem own_form {w : World} {base n size : Nat} {T : TypeId} {v : Value} {xs : List Value} (h : w.ownsRow base T size v n xs) : ∃ A c, v = .slice A n c := by
  rcases h.2 with ⟨hv, h0⟩ | ⟨g, cap, cur, hv, _⟩
  · exact ⟨none, 0, by rw [hv, h0]⟩
  · exact ⟨_, _, hv⟩

theorem blk_new_at (W : World) (q : Obj) (H : Nat) (hH : W.heap.size = H) : (W.alloc q).heap[H]? = some q := by rw [← hH]; exact Go.Deep.blk_alloc_new _ _

/-- What a pick left, as Run goes on. -/
structure RunStep (w wr w2 : World) (o1 o2 : Nat → Pt) (gw ga gb hb : Nat) (ax : Nat → Value) (tv2 : Value) (ts2 : List Tx) (s2 : St) (V : Value) (qs : List Tx) (x : Ev) (u1 u2 : Value) : Prop where
  sw : Sw w2 o2 gw ga gb hb ax tv2 ts2 s2
  touch : Touch (Own o1) wr w2
  agree : ∀ k, k < wr.heap.size → o2 k = o1 k
  row : w2.ownsRow 0 51 12 V qs.length (qs.flatMap Tx.cells)
  own : ∀ k, V.ownBlock = some k → w.heap.size ≤ k ∧ o2 k = .no
  old : Texts (fun k => (w.heap.size ≤ k ∧ o2 k = .no) ∧ V.ownBlock ≠ some k) w2 qs
  n1 : BytesIn (fun k => (w.heap.size ≤ k ∧ o2 k = .no) ∧ V.ownBlock ≠ some k) w2 u1 x.ac.bs
  n2 : BytesIn (fun k => (w.heap.size ≤ k ∧ o2 k = .no) ∧ V.ownBlock ≠ some k) w2 u2 x.an.bs

theorem runStep {w wr wp w2 : World} {o1 o2 : Nat → Pt} {gw ga gb hb : Nat} {ax : Nat → Value} {tv1 tv2 : Value} {ts1 ts2 : List Tx} {st1 s2 : St} {V : Value} {qs : List Tx} {x : Ev} {u1 u2 : Value} (hw : w.heap.size ≤ wr.heap.size) (hb1 : Below wr.heap.size wr wp) (_hs : Sw wr o1 gw ga gb hb ax tv1 ts1 st1)
    (h : BytesIn (fun k => wp.heap.size ≤ k ∧ o2 k = .no) w2 u1 x.ac.bs ∧ BytesIn (fun k => wp.heap.size ≤ k ∧ o2 k = .no) w2 u2 x.an.bs ∧ Sw w2 o2 gw ga gb hb ax tv2 ts2 s2 ∧ Touch (Own o1) wp w2 ∧ ∀ k, k < wp.heap.size → o2 k = o1 k)
    (hr : wr.ownsRow 0 51 12 V qs.length (qs.flatMap Tx.cells)) (hob : ∀ k, V.ownBlock = some k → w.heap.size ≤ k ∧ o1 k = .no) (htx : Texts (fun k => (w.heap.size ≤ k ∧ o1 k = .no) ∧ V.ownBlock ≠ some k) wr qs) :
    RunStep w wr w2 o1 o2 gw ga gb hb ax tv2 ts2 s2 V qs x u1 u2 := by
  obtain ⟨h1, h2, h3, h4, h5⟩ := h
  have hsz := hb1.size
  have ht : Touch (Own o1) wr w2 := (Touch.of_below hb1).trans h4
  have hag : ∀ k, k < wr.heap.size → o2 k = o1 k := fun k hk => h5 k (by omega)
  have hlt : ∀ k, V.ownBlock = some k → k < wr.heap.size := fun k hk => (World.ownsRow.lt hr k hk).2
  refine ⟨h3, ht, hag, ownsRow_keep hr fun q hq => ht.block q (hlt q hq) fun e => e (hob q hq).2, fun k hk => ⟨(hob k hk).1, (hag k (hlt k hk)).trans (hob k hk).2⟩, (Texts.keep (w := wr) (htx.mono (K' := fun k => ((w.heap.size ≤ k ∧ o1 k = .no) ∧ V.ownBlock ≠ some k) ∧ k < wr.heap.size) fun k hk hl => ⟨hk, hl⟩) ht.size fun k hk hl => ht.block k hl fun e => e hk.1.1.2).mono fun k hk _ => ⟨⟨hk.1.1.1, (hag k hk.2).trans hk.1.1.2⟩, hk.1.2⟩, h1.mono (K' := fun k => (w.heap.size ≤ k ∧ o2 k = .no) ∧ V.ownBlock ≠ some k) fun k hk _ => ⟨⟨by have := hk.1; omega, hk.2⟩, fun e => by have := hlt k e; have := hk.1; omega⟩, h2.mono (K' := fun k => (w.heap.size ≤ k ∧ o2 k = .no) ∧ V.ownBlock ≠ some k) fun k hk _ => ⟨⟨by have := hk.1; omega, hk.2⟩, fun e => by have := hlt k e; have := hk.1; omega⟩⟩

/-- .. and the event was appended. -/
theorem runApp {w wr w2 w7 : World} {o o1 o2 : Nat → Pt} {gw ga gb hb : Nat} {ax : Nat → Value} {tv2 : Value} {ts2 : List Tx} {s2 : St} {V V' : Value} {qs : List Tx} {x : Ev} {u1 u2 : Value} {q1 q2 : Obj} (h : RunStep w wr w2 o1 o2 gw ga gb hb ax tv2 ts2 s2 V qs x u1 u2)
    (ha : AppEv qs.length V (qs.flatMap Tx.cells ++ (Tx.cells ⟨x, u1, u2⟩)) ((w2.alloc q1).alloc q2) V' w7) (ht : Touch (Own o) w wr) (hoo : ∀ k, k < w.heap.size → o1 k = o k) :
    Sw w7 o2 gw ga gb hb ax tv2 ts2 s2 ∧ w7.ownsRow 0 51 12 V' (qs ++ [(⟨x, u1, u2⟩ : Tx)]).length ((qs ++ [(⟨x, u1, u2⟩ : Tx)]).flatMap Tx.cells) ∧ (∀ k, V'.ownBlock = some k → w.heap.size ≤ k ∧ o2 k = .no) ∧
      Texts (fun k => (w.heap.size ≤ k ∧ o2 k = .no) ∧ V'.ownBlock ≠ some k) w7 (qs ++ [(⟨x, u1, u2⟩ : Tx)]) ∧ Touch (Own o) w w7 ∧ ∀ k, k < w.heap.size → o2 k = o k := by
  have hb2 : Below w2.heap.size w2 ((w2.alloc q1).alloc q2) := ((Below.refl _ w2).alloc (Nat.le_refl _) _).alloc (by simp) _
  have hs := hb2.size
  have hsz : ((w2.alloc q1).alloc q2).heap.size = w2.heap.size + 1 + 1 := by simp
  have hall := own_trans ht hoo h.touch h.agree
  have hlt : ∀ k, V.ownBlock = some k → k < w2.heap.size := fun k hk => (World.ownsRow.lt h.row k hk).2
  have hblk : ∀ k, k < w2.heap.size → V.ownBlock ≠ some k → w7.heap[k]? = w2.heap[k]? := fun k hk hn => (ha.grown.block k (by omega) fun e => hn e.symm).trans (hb2.block k hk)
  have hs7 : w2.heap.size ≤ w7.heap.size := Nat.le_trans hs ha.grown.size
  have hV' : ∀ k, V'.ownBlock = some k → V.ownBlock = some k ∨ k = w2.heap.size + 1 + 1 := fun k hk => by
    rcases ha.lies with e | e
    · exact .inl (e.symm.trans hk)
    · rw [e] at hk; injection hk with hk; exact .inr (by omega)
  have hno : ∀ k, w2.heap.size ≤ k → o2 k = .no := fun k hk => h.sw.new_no hk
  have hwsz := ht.size
  have hwr := h.touch.size
  refine ⟨h.sw.keep hs7 fun k hk => hblk k (h.sw.lt k hk) fun e => hk (h.own k e).2, ?_, fun k hk => ?_, ?_, ⟨ha.grown.os.trans (hb2.os.trans hall.1.os), ha.grown.tape.trans (hb2.tape.trans hall.1.tape), ha.grown.output.trans (hb2.output.trans hall.1.output), by omega, fun k hk hn => (hblk k (by omega) fun e => by have := (h.own k e).1; omega).trans (hall.1.block k hk hn)⟩, hall.2⟩
  · have hr := ha.row
    rw [show qs.length + 1 = (qs ++ [(⟨x, u1, u2⟩ : Tx)]).length by simp, show qs.flatMap Tx.cells ++ Tx.cells (⟨x, u1, u2⟩ : Tx) = (qs ++ [(⟨x, u1, u2⟩ : Tx)]).flatMap Tx.cells by simp] at hr
    exact hr
  · rcases hV' k hk with e | e
    · exact h.own k e
    · exact ⟨by omega, hno k (by omega)⟩
  · have hm : Texts (fun k => ((w.heap.size ≤ k ∧ o2 k = .no) ∧ V.ownBlock ≠ some k) ∧ k < w2.heap.size) w2 (qs ++ [(⟨x, u1, u2⟩ : Tx)]) := (h.old.append h.n1 h.n2).mono fun k hk hl => ⟨hk, hl⟩
    refine (hm.keep hs7 fun k hk _ => hblk k hk.2 hk.1.2).mono fun k hk _ => ⟨hk.1.1, fun e => ?_⟩
    rcases hV' k e with e1 | e1
    · exact hk.1.2 e1
    · have := hk.2; omega

set_option maxRecDepth 100000 in
set_option maxHeartbeats 4000000 in
theorem run_all {w : World} {o : Nat → Pt} {gw ga gb hb : Nat} {ax : Nat → Value} {tv : Value} {ts : List Tx} {st : St} (h : Sw w o gw ga gb hb ax tv ts st) (A : Option Addr) (cap : Nat) (ps : List Pk) (hps : PksAt w A ps) (hcap : ps.length ≤ cap) (hcap2 : cap ≤ 9223372036854775807)
    (hA : 0 < ps.length → ∀ a, A = some a → o a.block = .no) (hlong : st.tr.length + ps.length ≤ 1000000) :
    Calls Try.prog 23 #[.pointer (some ⟨gw, 0, none⟩), .slice A ps.length cap] w (RunTold o gw ga gb hb ax (St.runs ps st []) w) := by
  have HS := Lib.hid h
  have HP := Lib.hid hps
  have HA := Lib.hid hA
  have HL := Lib.hid hlong
  have hgw := h.gw_lt
  obtain ⟨res, hres⟩ : ∃ res, St.runs ps st [] = res := ⟨_, rfl⟩
  rw [hres]
  have HRES := Lib.hid hres
  clear h hps hA hres
  go_enter Try.func23, Try.ntmps23
  go_wp2
  go_loopw [12, 5] (fun t12 t5 wr => ∃ (i : Nat) (o1 : Nat → Pt) (tv1 : Value) (ts1 qs : List Tx) (st1 : St) (Av : Option Addr) (nv cv : Nat), t12 = .int .i64 i ∧ t5 = .slice Av nv cv ∧ nv = qs.length ∧ i ≤ ps.length ∧ qs.length ≤ i ∧ Sw wr o1 gw ga gb hb ax tv1 ts1 st1 ∧ St.runs (ps.drop i) st1 (qs.map Tx.e) = res ∧ st1.tr.length + (ps.length - i) ≤ 1000000 ∧
    wr.ownsRow 0 51 12 (.slice Av nv cv) qs.length (qs.flatMap Tx.cells) ∧ (∀ k, Value.ownBlock (.slice Av nv cv) = some k → w.heap.size ≤ k ∧ o1 k = .no) ∧ Texts (fun k => (w.heap.size ≤ k ∧ o1 k = .no) ∧ Value.ownBlock (.slice Av nv cv) ≠ some k) wr qs ∧ Touch (Own o) w wr ∧ ∀ k, k < w.heap.size → o1 k = o k) (fun t12 _ _ => ps.length - (intOf t12).toNat)
  case atStart => exact ⟨0, o, tv, ts, [], st, none, 0, 0, rfl, rfl, rfl, Nat.zero_le _, Nat.le_refl _, HS.out, by rw [List.drop_zero]; exact HRES.out, HL.out, World.ownsRow_nil _ _ _ _, fun k hk => absurd hk (by simp [Value.ownBlock]), Texts.nil _ _, Touch.refl _ _, fun _ _ => rfl⟩
  case round =>
    obtain ⟨i, o1, tv1, ts1, qs, st1, Av, nv, cv, rfl, rfl, hnv, hi, hqi, hsw, heq, hlen, hown, hob, htx, htt, hoo⟩ := hrel
    have HNV := Lib.hid hnv
    have HEQ := Lib.hid heq
    have HLEN := Lib.hid hlen
    have HSW := Lib.hid hsw
    have HOW := Lib.hid (And.intro hown (And.intro hob htx))
    have HTT := Lib.hid (And.intro htt hoo)
    have hszw := htt.size
    clear hnv heq hlen hsw hown hob htx htt hoo
    by_cases hlt : i < ps.length
    · obtain ⟨p, hp⟩ : ∃ p, ps[i]? = some p := ⟨_, List.getElem?_eq_getElem hlt⟩
      obtain ⟨b, off, rfl, hbl, hcl⟩ := HP.out (by omega)
      have hbo := HA.out (by omega) _ rfl
      have hbk := HTT.out.1.block b hbl fun e => e hbo
      have kc : ∀ j, wr.cell? ⟨b, j, none⟩ = w.cell? ⟨b, j, none⟩ := fun j => World.cell?_of_block (w := w) (a := ⟨b, j, none⟩) hbk
      obtain ⟨c0, c1, c2⟩ := hcl i p hp
      have c0 := (kc _).trans c0
      have c1 := (kc _).trans c1
      have c2 := (kc _).trans c2
      have hdrop : ps.drop i = p :: ps.drop (i + 1) := by
        rw [List.drop_eq_getElem_cons hlt]
        congr 1
        have := List.getElem?_eq_getElem hlt
        rw [hp] at this
        injection this with this
        exact this.symm
      have he := HEQ.out
      rw [hdrop] at he
      have he2 : St.runs (ps.drop (i + 1)) (st1.pick p).1 (if (st1.pick p).2.1 = 0 then qs.map Tx.e ++ [(st1.pick p).2.2] else qs.map Tx.e) = res := he
      have hpl := St.act_len st1 p
      obtain ⟨pr, hpr⟩ : ∃ pr, st1.pick p = pr := ⟨_, rfl⟩
      have hb1 := (Below.refl wr.heap.size wr).alloc (Nat.le_refl _) (.cells #[.int .i64 p.K, .int .i64 p.A, .int .i64 p.N] 44)
      have hlen := HLEN.out
      have hcall := pick_any (HSW.out.below hb1) p (by omega)
      rw [hpr] at he2 hcall hpl
      obtain ⟨s2, r, v⟩ := pr
      have HC := Lib.hid hcall
      have HE := Lib.hid he2
      have HPL := Lib.hid hpl
      clear hcall he he2 hpr hdrop kc hcl hbk hp hpl
      by_cases hr : r = 0
      · subst hr
        go_wp2_with (first
          | (go_at_call 11; refine HC.out.mono ?_; rintro e w2 ⟨o2, A1, l1, q1, A2, l2, q2, tv2, ts2, he, hb⟩; subst he; have HB := Lib.hid (runStep hszw hb1 HSW.out hb HOW.out.1 HOW.out.2.1 HOW.out.2.2); clear hb)
          | (at_builtin; refine wpList_app_ev rfl _ _ rfl (.slice Av nv cv) qs.length _ ⟨v, .slice A1 l1 q1, .slice A2 l2 q2⟩ _ _ rfl rfl ((HB.out.row.alloc _).alloc _) (blk_new_at _ _ _ (by simp)) rfl rfl (by omega) ?_; intro v7 w7 happ; obtain ⟨g7, q7, rfl⟩ := happ.form; have HAP := Lib.hid happ; clear happ))
        go_roundw
        case rel =>
          have he := HE.out
          rw [if_pos (by trivial)] at he
          have hpl := HPL.out
          obtain ⟨z1, z2, z3, z4, z5, z6⟩ := runApp HB.out HAP.out HTT.out.1 HTT.out.2
          exact ⟨i + 1, o2, tv2, ts2, qs ++ [⟨v, .slice A1 l1 q1, .slice A2 l2 q2⟩], s2, _, _, q7, by go_num, rfl, by simp, by omega, by simp; omega, z1, by rw [List.map_append]; exact he, by omega, z2, z3, z4, z5, z6⟩
        case measure => simp [intOf]; omega
      · have hr2 : (r == 0) = false := by simpa using hr
        go_wp2_with (go_at_call 11; refine HC.out.mono ?_; rintro e w2 ⟨o2, A1, l1, q1, A2, l2, q2, tv2, ts2, he, hb⟩; subst he; have HB := Lib.hid (runStep hszw hb1 HSW.out hb HOW.out.1 HOW.out.2.1 HOW.out.2.2); clear hb)
        go_roundw
        case rel =>
          have he := HE.out
          rw [if_neg hr] at he
          have hpl := HPL.out
          have hq := HB.out
          have hbx := (Below.refl w2.heap.size w2).alloc (Nat.le_refl _) (.cells #[.int .i64 v.pk.K, .int .i64 v.pk.A, .int .i64 v.pk.N, .int .i64 v.ac.K, .int .i64 v.ac.P, .int .i64 v.ac.N, .int .u64 v.ac.V, .int .u64 v.ac.U, .slice A1 l1 q1, .int .u64 v.an.V, .bool v.an.D, .slice A2 l2 q2] 51)
          have hall := own_trans HTT.out.1 HTT.out.2 hq.touch hq.agree
          exact ⟨i + 1, o2, tv2, ts2, qs, s2, _, _, cv, by go_num, rfl, HNV.out, by omega, by omega, hq.sw.alloc _, he, by omega, hq.row.alloc _, hq.own, hq.old.keep hbx.size (fun k _ hl => hbx.block k hl), hall.1.alloc _, hall.2⟩
        case measure => simp [intOf]; omega
    · obtain rfl : i = ps.length := by omega
      have he := HEQ.out
      rw [List.drop_length] at he
      have he2 : (st1, qs.map Tx.e) = res := he
      have HE := Lib.hid he2
      clear he he2
      go_wp2
      go_ret
      obtain ⟨hown, hob, htx⟩ := HOW.out
      refine ⟨o1, tv1, ts1, Av, cv, qs, ?_, by rw [← HE.out], ?_, by rw [← HE.out]; exact HSW.out, HTT.out.1, HTT.out.2⟩
      · rw [← HE.out, HNV.out]; simp
      · have e : (res.2).length = qs.length := by rw [← HE.out]; simp
        rw [e, ← HNV.out]
        exact EvsAt.of_own hown (htx.mono fun k hk _ => hk.1) hob
end Go.Proofs.Ytijgfaggakbajaa
