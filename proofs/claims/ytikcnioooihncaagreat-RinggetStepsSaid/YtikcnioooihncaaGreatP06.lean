/-
  Layer 8's get, walked: it drains; it looks at the next record, or drains; it goes on behind a record.
  Layer 8's get, walked: it goes on behind a record; a message is kept.
  A message more, in a row of messages.
  Layer 8's get, walked: a message was read: it is kept, and the get goes on behind its record.
  Layer 5's Bytes, walked; and whether two accesses are one (layer 2's plain answer).
  Layer 8's get, walked: a message's bytes are followed, part by part.
  Layer 8's get, walked: the next part of a message's bytes is asked for, or the message is kept.
  Layer 8's get, walked: a part of a message's bytes was read.
  Layer 8's get, walked: a message's reading begins.
  Layer 8's get, walked: a record's header was told: nothing whole stands there, or something odd.
  Layer 8's get, walked: a record's header was told that is odd.
  Layer 8's get, walked: a record's header was told that is too long.
  Layer 8's get, walked: a record's header was told that is padding's.
  Layer 8's get, walked: a record's header was told that is a message's.
  Layer 8's get, walked: a record's header was told.
  Layer 8's get, walked: a record's header was answered.
  Layer 8's get, walked: an answer is taken.
  Layer 7's put takes an answer, whatever phase it is in.
  Layer 7's put from outside: what it does next, what it takes, how it ended, where its record stands; one that never began; none at all.
-/
import Derived.Test.YtikcnioooihncaaGreatP05
import Derived.Deep.RegionLaw
import Derived.Test.YtikcnioooihncaaGreatP02
import Derived.Test.YtikcnioooihncaaGreatP03
namespace Go.Proofs.YtikcnioooihncaaGreat
open Go.RowKit

theorem gtDrain {w : World} {F M : Nat → Prop} {g : Nat} {s : Gs} {mv : Value} (h : GtBare w F g s M mv) (hF : ∀ k, F k → k < w.heap.size) :
    Calls Tryz.prog 89 #[.pointer (some ⟨g, 0, none⟩)] w (GtMoved F g s.drain w) := by
  unfold Gs.drain
  by_cases hd : s.dn = 0
  · rw [if_pos hd]; exact gtDrainNo h hd
  · rw [if_neg hd]; exact gtDrainYes h hF (by omega)

theorem MsAt.slice {K : Nat → Prop} {w : World} {mv : Value} {ms : List (Int × List Int)} (h : MsAt K w mv ms) : ∃ A c, mv = .slice A ms.length c := by
  obtain ⟨vs, _, hr, _, _⟩ := h
  rcases hr.2 with ⟨rfl, h0⟩ | ⟨g, cap, cur, rfl, _⟩
  · exact ⟨none, 0, by rw [h0]⟩
  · exact ⟨_, _, rfl⟩

set_option maxRecDepth 100000 in
set_option maxHeartbeats 800000 in
theorem gtLookFull {w : World} {F M : Nat → Prop} {g : Nat} {s : Gs} {mv : Value} (h : GtBare w F g s M mv) (hF : ∀ k, F k → k < w.heap.size) (hm : (s.ms.length : Int) = s.most) :
    Calls Tryz.prog 58 #[.pointer (some ⟨g, 0, none⟩)] w (GtMoved F g s.drain w) := by
  obtain ⟨a, av, hblk⟩ := h.blk
  obtain ⟨Am, cm, hmv⟩ := h.msgs.slice
  subst hmv
  have hgl := hblk.lt
  have HH := Lib.hid h
  have HFL := Lib.hid hF
  have hb0 := (Below.refl w.heap.size w).alloc (Nat.le_refl _) (.cells #[.pointer (some ⟨g, 0, none⟩)] 27)
  have hbox := rp_box w (.pointer (some ⟨g, 0, none⟩)) 27
  have c2 := (hb0.cell (p := ⟨g, 2, none⟩) hgl).trans hblk.c2
  have c12 := (hb0.cell (p := ⟨g, 12, none⟩) hgl).trans hblk.c12
  obtain ⟨n, hn⟩ : ∃ n, n = s.ms.length := ⟨_, rfl⟩
  rw [← hn] at hm c12
  have hd : ((n : Int) == s.most) = true := by simpa using hm
  have HW := Lib.hid hb0
  clear h hblk hb0 hF hm hn
  go_enter Tryz.func58, Tryz.ntmps58
  go_upto_region 1 with (fail)
  generalize w.alloc (.cells #[.pointer (some ⟨g, 0, none⟩)] 27) = W at hbox HW c2 c12 ⊢
  have HBL := Lib.hid (fun k => HW.out.trans ((drewN_below W k).mono HW.out.size))
  go_quiet (fail)
  go_wp2_with fail
  refine (gtDrain (HH.out.below (HBL.out nq)) fun k hk => Nat.lt_of_lt_of_le (HFL.out k hk) (HBL.out nq).size).mono ?_
  intro e w3 hm
  have hm2 := hm.after (HBL.out nq)
  obtain ⟨rfl, _⟩ := hm
  have HM := Lib.hid hm2
  clear hm2
  go_wp2
  go_end0
  exact HM.out

set_option maxRecDepth 100000 in
set_option maxHeartbeats 800000 in
theorem gtLookEmpty {w : World} {F M : Nat → Prop} {g : Nat} {s : Gs} {mv : Value} (h : GtBare w F g s M mv) (hF : ∀ k, F k → k < w.heap.size) (hm : ¬ (s.ms.length : Int) = s.most) (hl : s.left = 0) :
    Calls Tryz.prog 58 #[.pointer (some ⟨g, 0, none⟩)] w (GtMoved F g s.drain w) := by
  obtain ⟨a, av, hblk⟩ := h.blk
  obtain ⟨Am, cm, hmv⟩ := h.msgs.slice
  subst hmv
  have hgl := hblk.lt
  have HH := Lib.hid h
  have HFL := Lib.hid hF
  have HB := Lib.hid hblk
  have hb0 := (Below.refl w.heap.size w).alloc (Nat.le_refl _) (.cells #[.pointer (some ⟨g, 0, none⟩)] 27)
  have hbox := rp_box w (.pointer (some ⟨g, 0, none⟩)) 27
  have hsz : (w.alloc (.cells #[.pointer (some ⟨g, 0, none⟩)] 27)).heap.size = w.heap.size + 1 := by simp
  have c2 := (hb0.cell (p := ⟨g, 2, none⟩) hgl).trans hblk.c2
  have c12 := (hb0.cell (p := ⟨g, 12, none⟩) hgl).trans hblk.c12
  obtain ⟨n, hn⟩ : ∃ n, n = s.ms.length := ⟨_, rfl⟩
  rw [← hn] at hm c12
  have hd : ((n : Int) == s.most) = false := by simpa using hm
  have HW := Lib.hid hb0
  have HL := Lib.hid hl
  clear h hblk hb0 hF hm hn hl
  go_enter Tryz.func58, Tryz.ntmps58
  go_upto_region 1 with (fail)
  generalize w.alloc (.cells #[.pointer (some ⟨g, 0, none⟩)] 27) = W at hbox HW hsz c2 c12 ⊢
  have hla : w.heap.size < W.heap.size := by omega
  have hgW : g < W.heap.size := by omega
  clear hsz
  go_region_held3 (fun w' => w'.cell? ⟨w.heap.size, 0, none⟩ = some (.pointer (some ⟨g, 0, none⟩)) ∧ w'.cell? ⟨g, 2, none⟩ = some (.int .i64 s.most) ∧ w'.cell? ⟨g, 12, none⟩ = some (.slice Am n cm)) (go_keep)
    (first
      | (go_at_call 88; refine (gtLeft (HB.out.below HW.out.drew) HH.out.ok).mono ?_; rw [HL.out]; rintro e x1 ⟨rfl, hq1⟩; have hb1 := below_drew hq1; have k1 := (hb1.cell (p := ⟨w.heap.size, 0, none⟩) hla).trans hbox; have o21 := (hb1.cell (p := ⟨g, 2, none⟩) hgW).trans c2; have o121 := (hb1.cell (p := ⟨g, 12, none⟩) hgW).trans c12))
  all_goals
    have hbl := HW.out.trans (hb1.mono HW.out.size)
    have HBL := Lib.hid hbl
    clear hbl
    go_wp2_with fail
    refine (gtDrain (HH.out.below HBL.out) fun k hk => Nat.lt_of_lt_of_le (HFL.out k hk) HBL.out.size).mono ?_
    intro e w3 hm
    have hm2 := hm.after HBL.out
    obtain ⟨rfl, _⟩ := hm
    have HM := Lib.hid hm2
    clear hm2
    go_wp2
    go_end0
    exact HM.out

set_option maxRecDepth 100000 in
set_option maxHeartbeats 800000 in
theorem gtLookOn {w : World} {F M : Nat → Prop} {g : Nat} {s : Gs} {mv : Value} (h : GtBare w F g s M mv) (hm : ¬ (s.ms.length : Int) = s.most) (hl : ¬ s.left = 0) :
    Calls Tryz.prog 58 #[.pointer (some ⟨g, 0, none⟩)] w (GtMoved F g { s with ph := .look } w) := by
  obtain ⟨a, av, hblk⟩ := h.blk
  obtain ⟨Am, cm, hmv⟩ := h.msgs.slice
  subst hmv
  have hgl := hblk.lt
  have HH := Lib.hid h
  have HB := Lib.hid hblk
  have hb0 := (Below.refl w.heap.size w).alloc (Nat.le_refl _) (.cells #[.pointer (some ⟨g, 0, none⟩)] 27)
  have hbox := rp_box w (.pointer (some ⟨g, 0, none⟩)) 27
  have hsz : (w.alloc (.cells #[.pointer (some ⟨g, 0, none⟩)] 27)).heap.size = w.heap.size + 1 := by simp
  have c2 := (hb0.cell (p := ⟨g, 2, none⟩) hgl).trans hblk.c2
  have c12 := (hb0.cell (p := ⟨g, 12, none⟩) hgl).trans hblk.c12
  obtain ⟨n, hn⟩ : ∃ n, n = s.ms.length := ⟨_, rfl⟩
  rw [← hn] at hm c12
  have hd : ((n : Int) == s.most) = false := by simpa using hm
  obtain ⟨lf, hlf⟩ : ∃ lf, lf = s.left := ⟨_, rfl⟩
  rw [← hlf] at hl
  have hd2 : (lf == 0) = false := by simpa using hl
  have HLF := Lib.hid hlf
  obtain ⟨P, hP⟩ : ∃ P, P = s.at_ := ⟨_, rfl⟩
  have HP := Lib.hid hP
  have HW := Lib.hid hb0
  clear h hblk hb0 hm hn hlf hP
  go_enter Tryz.func58, Tryz.ntmps58
  go_upto_region 1 with (fail)
  generalize w.alloc (.cells #[.pointer (some ⟨g, 0, none⟩)] 27) = W at hbox HW hsz c2 c12 ⊢
  have hga : ¬ w.heap.size = g := by omega
  have hla : w.heap.size < W.heap.size := by omega
  have hgW : g < W.heap.size := by omega
  clear hsz
  go_region_held3 (fun w' => w'.cell? ⟨w.heap.size, 0, none⟩ = some (.pointer (some ⟨g, 0, none⟩)) ∧ w'.cell? ⟨g, 2, none⟩ = some (.int .i64 s.most) ∧ w'.cell? ⟨g, 12, none⟩ = some (.slice Am n cm)) (go_keep)
    (first
      | (go_at_call 88; refine (gtLeft (HB.out.below HW.out.drew) HH.out.ok).mono ?_; rw [← HLF.out]; rintro e x1 ⟨rfl, hq1⟩; have hb1 := below_drew hq1; have k1 := (hb1.cell (p := ⟨w.heap.size, 0, none⟩) hla).trans hbox; have o21 := (hb1.cell (p := ⟨g, 2, none⟩) hgW).trans c2; have o121 := (hb1.cell (p := ⟨g, 12, none⟩) hgW).trans c12))
  all_goals
    have hbl := HW.out.trans (hb1.mono HW.out.size)
    have HBL := Lib.hid hbl
    have hlx : w.heap.size < x1.heap.size := lt_of_cell k1
    clear hbl
    go_upto_region 3 with (fail)
    go_region_held3 (fun w' => w'.cell? ⟨w.heap.size, 0, none⟩ = some (.pointer (some ⟨g, 0, none⟩))) (go_keep)
      (first
        | (go_at_call 54; refine (gtDo (HB.out.below (HBL.out.trans (hb3.mono HBL.out.size))) ⟨1, P, 8, 0, 0, []⟩ none 0 0 91 #[] #[.pointer (some ⟨w.heap.size, 0, none⟩)]).mono ?_; intro e wd has; have HAS := Lib.hid has; obtain ⟨rfl, _, htd⟩ := has; have kd := (htd.cell (p := ⟨w.heap.size, 0, none⟩) (lt_of_cell k3) hga).trans k3)
        | (go_at_call 55; refine (stLoad P _).mono ?_; rintro e x3 ⟨rfl, hq3⟩; have hb3 := hb2.trans (hq3.mono hb2.size); have k3 := (hb3.cell (p := ⟨w.heap.size, 0, none⟩) hlx).trans k1)
        | (go_at_call 90; refine (gtAt (HB.out.below HBL.out.drew) HH.out.ok).mono ?_; rw [← HP.out]; rintro e x2 ⟨rfl, hq2⟩; have hb2 := below_drew hq2; have k2 := (hb2.cell (p := ⟨w.heap.size, 0, none⟩) hlx).trans k1))
  all_goals
    go_wp2
    go_end0
    obtain ⟨_, hbk, hT⟩ := HAS.out
    exact gt_put HH.out .look ((Touch.of_below (HBL.out.trans (hb3.mono HBL.out.size))).trans hT) hbk (by show some (⟨1, s.at_, 8, 0, 0, []⟩ : Ac) = _; rw [HP.out]) rfl trivial ⟨w.heap.size, rfl, ⟨.inr ⟨Nat.le_refl _, lt_of_cell kd⟩, fun hM => absurd (HH.out.in_ _ hM).2.2 (Nat.lt_irrefl _)⟩, hga, kd⟩

theorem gtLook {w : World} {F M : Nat → Prop} {g : Nat} {s : Gs} {mv : Value} (h : GtBare w F g s M mv) (hF : ∀ k, F k → k < w.heap.size) :
    Calls Tryz.prog 58 #[.pointer (some ⟨g, 0, none⟩)] w (GtMoved F g s.looks w) := by
  unfold Gs.looks
  by_cases hm : (s.ms.length : Int) = s.most
  · rw [if_pos (.inl hm)]; exact gtLookFull h hF hm
  · by_cases hl : s.left = 0
    · rw [if_pos (.inr hl)]; exact gtLookEmpty h hF hm hl
    · rw [if_neg (by rintro (e | e) <;> contradiction)]; exact gtLookOn h hm hl
end Go.Proofs.YtikcnioooihncaaGreat
namespace Go.Proofs.YtikcnioooihncaaGreat
open Go.RowKit

theorem gt_setD (s : Gs) (v : Nat) (a : Ac) (av th mv : Value) : (GtCells s a av th mv).setIfInBounds 11 (.int .i64 (v : Int)) = GtCells { s with dn := v } a av th mv := by simp [GtCells]
theorem gt_setH (s : Gs) (v : Int) (a : Ac) (av th mv : Value) : (GtCells s a av th mv).setIfInBounds 10 (.int .i64 v) = GtCells { s with h := v } a av th mv := by simp [GtCells]
theorem gt_setE (s : Gs) (v : Int) (a : Ac) (av th mv : Value) : (GtCells s a av th mv).setIfInBounds 13 (.int .i64 v) = GtCells { s with er := v } a av th mv := by simp [GtCells]
theorem gt_setM (s : Gs) (v : Value) (a : Ac) (av th mv : Value) : (GtCells s a av th mv).setIfInBounds 12 v = GtCells s a av th v := by simp [GtCells]
theorem GtBlk.set {w : World} {g : Nat} {s s' : Gs} {a : Ac} {av th mv mv' : Value} (h : GtBlk w g s a av th mv) (i : Nat) (v : Value) (hc : (GtCells s a av th mv).setIfInBounds i v = GtCells s' a av th mv') : GtBlk (w.setCell ⟨g, i, none⟩ v) g s' a av th mv' := by
  have := blkS (i := i) (show w.heap[g]? = some (.cells (GtCells s a av th mv) 73 (0, 0)) from h) v
  rw [hc] at this
  exact this

/-- A get that goes on behind a record of sz bytes: all but the record's bytes are gone over. -/
structure GtOpen (w : World) (F : Nat → Prop) (g : Nat) (s : Gs) (M : Nat → Prop) (mv : Value) (sz : Nat) : Prop where
  blk : ∃ a av, GtBlk w g s a av .nilFunc mv
  own : F g
  ok : ({ s with dn := s.dn + sz } : Gs).Ok
  msgs : MsAt M w mv s.ms
  in_ : ∀ k, M k → F k ∧ k ≠ g ∧ k < w.heap.size

set_option maxRecDepth 100000 in
set_option maxHeartbeats 800000 in
theorem gtPass {w : World} {F M : Nat → Prop} {g : Nat} {s : Gs} {mv : Value} {sz : Nat} (h : GtOpen w F g s M mv sz) (hF : ∀ k, F k → k < w.heap.size) :
    Calls Tryz.prog 124 #[.pointer (some ⟨g, 0, none⟩), .int .i64 sz] w (GtMoved F g (s.pass sz) w) := by
  obtain ⟨a, av, hblk⟩ := h.blk
  have hgl := hblk.lt
  have c11 := hblk.c11
  have f11 := hblk.free 11
  have hz := h.ok.dn0
  have hz1 := h.ok.rg.z1
  have hpl := h.ok.rg.place_in s.h
  simp only at hz hz1 hpl
  have e1 : IntKind.i64.wrap ((s.dn : Int) + (sz : Int)) = ((s.dn + sz : Nat) : Int) := by rw [IntWalk.i64_in _ (by omega)]; omega
  have e2 : wrap64 ((s.dn : Int) + (sz : Int)) = ((s.dn + sz : Nat) : Int) := by unfold wrap64; omega
  obtain ⟨D, hD⟩ : ∃ D, D = s.dn + sz := ⟨_, rfl⟩
  rw [← hD] at e1 e2
  have hTT : Touch (fun k => k = g) w (w.setCell ⟨g, 11, none⟩ (.int .i64 (D : Int))) := (Touch.refl (fun k => k = g) w).setCell (p := ⟨g, 11, none⟩) rfl _
  have hB : GtBare (w.setCell ⟨g, 11, none⟩ (.int .i64 (D : Int))) F g { s with dn := D } M mv :=
    ⟨⟨a, av, hblk.set 11 _ (gt_setD s D _ _ _ _)⟩, h.own, by rw [hD]; exact h.ok, h.msgs.keep hTT.size fun k hk => hTT.block k (h.in_ k hk).2.2 (h.in_ k hk).2.1, fun k hk => ⟨(h.in_ k hk).1, (h.in_ k hk).2.1, Nat.lt_of_lt_of_le (h.in_ k hk).2.2 hTT.size⟩⟩
  have HC := Lib.hid (gtLook hB fun k hk => Nat.lt_of_lt_of_le (hF k hk) hTT.size)
  have HS := Lib.hid (show s.pass sz = ({ s with dn := D } : Gs).looks by rw [hD]; rfl)
  have HT : Hid (Touch F w (w.setCell ⟨g, 11, none⟩ (.int .i64 (D : Int)))) := Lib.hid (hTT.mono fun k e => by have e : k = g := e; rw [e]; exact h.own)
  clear h hB hTT hblk hz hz1 hpl hD hF
  go_enter Tryz.func124, Tryz.ntmps124
  go_upto_region 1 with (fail)
  generalize w.setCell ⟨g, 11, none⟩ (.int .i64 (D : Int)) = W2 at HC HT ⊢
  clear c11 f11 e1 e2
  go_wp2_with fail
  refine HC.out.mono ?_
  intro e w3 hm
  have HM := Lib.hid hm
  obtain ⟨rfl, _⟩ := hm
  go_wp2
  go_end0
  rw [HS.out]
  exact HM.out.afterT HT.out

end Go.Proofs.YtikcnioooihncaaGreat
namespace Go.Proofs.YtikcnioooihncaaGreat
open Go.RowKit

theorem infoMsg : (Tryz.prog.info? 69).map (fun i => (i.zero, i.size, i.bytes)) = some (some (.agg #[.int .i32 0, .slice none 0 0]), 2, 32) := by kernel_rfl

theorem msCells_app (l : List (Int × Value)) (t : Int) (v : Value) : msCells (l ++ [(t, v)]) = msCells l ++ [.int .i32 t, v] := by
  induction l with
  | nil => rfl
  | cons x l ih =>
    obtain ⟨t0, v0⟩ := x
    show Value.int .i32 t0 :: v0 :: msCells (l ++ [(t, v)]) = _
    rw [ih]
    rfl

theorem run_app_msg {w : World} {n : Nat} {v : Value} {xs : List Value} (hv : w.ownsRow 0 69 2 v n xs) (t : Int) (A : Option Addr) (l cp : Nat) {b c : Nat} (hg : w.heap[b]? = some (.cells #[.int .i32 t, .slice A l cp] 69 (0, 0)))
    (hn : n ≤ 1000000) (ty : TypeId) :
    ∃ g cap w', (Builtin.append_ #[39, 39] ty #[v, .slice (some ⟨b, 0, none⟩) 1 c]).run Tryz.prog w = .ok (.slice (some ⟨g, 0, none⟩) (n + 1) cap) w' ∧ w'.ownsRow 0 69 2 (.slice (some ⟨g, 0, none⟩) (n + 1) cap) (n + 1) (xs ++ [.int .i32 t, .slice A l cp]) ∧ w.grownBy w' v.ownBlock ∧ (some g = v.ownBlock ∨ some g = some w.heap.size) := by
  obtain ⟨i0, hi, hz0, hz1, hz2⟩ := info_parts infoMsg
  obtain ⟨v', w', hrun, h2, h3, _, h5⟩ := run_append_own_at (P := Tryz.prog) w 0 39 ty 69 i0 _ 2 32 Tryz.underlying39 hi hz0 hz1 hz2 rfl (by decide) _ n _ hv ⟨b, 0, none⟩ 1 c [.int .i32 t, .slice A l cp] rfl (by
    intro j u hj
    have e : (⟨b, 0, none⟩ : Addr).add j = ⟨b, 0 + j, none⟩ := by unfold Addr.add; split <;> simp_all
    rw [e, Nat.zero_add]
    simp only [World.cell?, hg]
    rw [← hj]
    simp) (by
    intro u hu
    simp only [List.mem_cons, List.not_mem_nil, or_false] at hu
    rcases hu with rfl | rfl <;> rfl) (by unfold maxLen; omega) (by omega) (Nat.zero_le _)
  rcases h2.2 with ⟨_, h0⟩ | ⟨g, cap, cur, rfl, _, _, hc, hc2, _⟩
  · omega
  · exact ⟨g, cap, w', hrun, h2, h3, h5⟩

theorem step_app_msg {w : World} {ops : Array Oper} {o : Oper} {a : Act} {K : Act → World → Prop} {Q : Exit → Act → World → Prop} {E : Prop} (hgd : o.guard = none) (s x : Operand)
    (ho : o.op = .call { callee := .builtin .append, args := #[s, x], argTypes := #[39, 39] }) (n : Nat) (v : Value) (xs : List Value) (t : Int) (A : Option Addr) (l cp b c : Nat)
    (hs : a.eval s = v) (hx : a.eval x = .slice (some ⟨b, 0, none⟩) 1 c) (hv : w.ownsRow 0 69 2 v n xs) (hg : w.heap[b]? = some (.cells #[.int .i32 t, .slice A l cp] 69 (0, 0))) (hn : n ≤ 1000000)
    (h : ∀ g cap w', w'.ownsRow 0 69 2 (.slice (some ⟨g, 0, none⟩) (n + 1) cap) (n + 1) (xs ++ [.int .i32 t, .slice A l cp]) → w.grownBy w' v.ownBlock → (some g = v.ownBlock ∨ some g = some w.heap.size) → K (a.put o.dst (.slice (some ⟨g, 0, none⟩) (n + 1) cap)) w') :
    if Region.wanted o (yielded ops a.tmps) = true then Oper.wp Tryz.prog o a w K Q else E := by
  have hw : Region.wanted o (yielded ops a.tmps) = true := by simp [Region.wanted, hgd]
  rw [if_pos hw]
  obtain ⟨g, cap, w', hrun, h1, h2, h3⟩ := run_app_msg hv t A l cp (c := c) hg hn o.type
  unfold Oper.wp execOp
  simp only [ho, resolve, invoke, builtin, Sem.run_bind, Sem.run_pure, Result.andThen_ok, List.map_toArray, List.map_cons, List.map_nil, hs, hx, hrun]
  exact h g cap w' h1 h2 h3

/-- A message more stands in the row. -/
theorem MsAt.more {K K' : Nat → Prop} {w W w' : World} {mv : Value} {ms : List (Int × List Int)} {vs : List Value} (h1 : vs.length = ms.length) (h4 : ∀ i (hi : i < ms.length) (hv : i < vs.length), BytesIn (fun k => K k ∧ mv.ownBlock ≠ some k) w vs[i] ms[i].2) (hb : Below w.heap.size w W) (hK : ∀ k, K k → k < w.heap.size) {typ : Int} {A : Option Addr} {l cp : Nat} {ys : List Int} (hd : BytesIn K' W (.slice A l cp) ys) (hK' : ∀ k, K' k → mv.ownBlock ≠ some k) {g cap : Nat}
    (hrow : w'.ownsRow 0 69 2 (.slice (some ⟨g, 0, none⟩) (ms.length + 1) cap) (ms.length + 1) (msCells ((ms.map Prod.fst).zip vs) ++ [.int .i32 typ, .slice A l cp])) (hg : W.grownBy w' mv.ownBlock) (hl : some g = mv.ownBlock ∨ some g = some W.heap.size) :
    MsAt (fun k => K k ∨ K' k ∨ k = g) w' (.slice (some ⟨g, 0, none⟩) (ms.length + 1) cap) (ms ++ [(typ, ys)]) := by
  refine ⟨vs ++ [.slice A l cp], by simp [h1], ?_, fun k hk => ?_, fun i hi hv => ?_⟩
  · rw [List.map_append, List.zip_append (by simp [h1])]
    show w'.ownsRow 0 _ 2 _ (ms ++ [(typ, ys)]).length (msCells ((ms.map Prod.fst).zip vs ++ [(typ, .slice A l cp)]))
    rw [msCells_app, List.length_append]
    exact hrow
  · injection hk with hk
    exact .inr (.inr hk.symm)
  · have far : ∀ k, k < W.heap.size → mv.ownBlock ≠ some k → w'.heap[k]? = W.heap[k]? := fun k hk hn => hg.block k hk fun e => hn e.symm
    have nog : ∀ k, k < W.heap.size → mv.ownBlock ≠ some k → (Value.slice (some ⟨g, 0, none⟩) (ms.length + 1) cap).ownBlock ≠ some k := fun k hk hn e => by
      injection e with e
      have e : g = k := e
      subst e
      rcases hl with e | e
      · exact hn e.symm
      · injection e with e
        omega
    by_cases hi2 : i < ms.length
    · have hb4 := (h4 i hi2 (by omega)).below hb
      rw [List.getElem_append_left (by omega), List.getElem_append_left hi2]
      exact (hb4.keep hg.size fun k hk hkl => far k hkl hk.2).mono fun k hk hkl => ⟨.inl hk.1, nog k (Nat.lt_of_lt_of_le (hK k hk.1) hb.size) hk.2⟩
    · have hi3 : i = ms.length := by simp at hi; omega
      subst hi3
      have e1 : (vs ++ [Value.slice A l cp])[ms.length] = .slice A l cp := by
        rw [List.getElem_append_right (by omega)]
        simp [h1]
      have e2 : (ms ++ [(typ, ys)])[ms.length] = (typ, ys) := by
        rw [List.getElem_append_right (by omega)]
        simp
      rw [e1, e2]
      exact (hd.lt.keep hg.size fun k hk hkl => far k hkl (hK' k hk.1)).mono fun k hk _ => ⟨.inr (.inl hk.1), nog k hk.2 (hK' k hk.1)⟩
end Go.Proofs.YtikcnioooihncaaGreat
namespace Go.Proofs.YtikcnioooihncaaGreat
open Go.RowKit

theorem gt_kept {w W0 w1 : World} {F M Kd : Nat → Prop} {g : Nat} {s : Gs} {Am : Option Addr} {cm n : Nat} (hn : n = s.ms.length) (h : GtBare w F g s M (.slice Am s.ms.length cm)) (_hF : ∀ k, F k → k < w.heap.size) {typ : Int} {sz : Nat} (hsz : 1 ≤ sz ∧ (sz : Int) ≤ s.left) {Ad : Option Addr} {ld cd : Nat} {ys : List Int} (hd : BytesIn Kd w (.slice Ad ld cd) ys) (hKd : ∀ k, Kd k → F k ∧ k ≠ g ∧ (Value.slice Am s.ms.length cm).ownBlock ≠ some k)
    (hB : Below w.heap.size w W0) {vs : List Value} (hvs : vs.length = s.ms.length) {cells : List Value} (hce : cells = msCells ((s.ms.map Prod.fst).zip vs)) (h4 : ∀ i (hi : i < s.ms.length) (hv : i < vs.length), BytesIn (fun k => M k ∧ (Value.slice Am s.ms.length cm).ownBlock ≠ some k) w vs[i] s.ms[i].2) (h3 : ∀ k, (Value.slice Am s.ms.length cm).ownBlock = some k → M k) (hrow : w.ownsRow 0 69 2 (.slice Am n cm) n cells)
    {gr cr : Nat} (ho : w1.ownsRow 0 69 2 (.slice (some ⟨gr, 0, none⟩) (n + 1) cr) (n + 1) (cells ++ [.int .i32 typ, .slice Ad ld cd])) (hgr : W0.grownBy w1 (Value.slice Am n cm).ownBlock) (hl : some gr = (Value.slice Am n cm).ownBlock ∨ some gr = some W0.heap.size) {a0 : Ac} {av : Value} (hg1 : GtBlk w1 g s a0 av .nilFunc (.slice Am n cm)) :
    GtOpen (w1.setCell ⟨g, 12, none⟩ (.slice (some ⟨gr, 0, none⟩) (n + 1) cr)) (fun k => F k ∨ (w.heap.size ≤ k ∧ k < (w1.setCell ⟨g, 12, none⟩ (.slice (some ⟨gr, 0, none⟩) (n + 1) cr)).heap.size)) g { s with ms := s.ms ++ [(typ, ys)] } (fun k => M k ∨ (Kd k ∧ k < w.heap.size) ∨ k = gr) (.slice (some ⟨gr, 0, none⟩) (n + 1) cr) sz ∧
      Touch F w (w1.setCell ⟨g, 12, none⟩ (.slice (some ⟨gr, 0, none⟩) (n + 1) cr)) := by
  subst hn
  subst hce
  have hms : MsAt (fun k => M k ∨ (Kd k ∧ k < w.heap.size) ∨ k = gr) w1 (.slice (some ⟨gr, 0, none⟩) (s.ms.length + 1) cr) (s.ms ++ [(typ, ys)]) :=
    MsAt.more hvs h4 hB (fun k hk => (h.in_ k hk).2.2) (hd.lt.below hB) (fun k hk => (hKd k hk.1).2.2) ho hgr hl
  have hgl := h.lt
  have hgrl : gr < w1.heap.size := by
    obtain ⟨_, e | ⟨g', cap', cur', e, _, hh, _⟩⟩ := ho
    · cases e.1
    · injection e with e _ _
      injection e with e
      injection e with e _ _
      rw [e]
      exact (Array.getElem?_eq_some_iff.1 hh).1
  have hW := hB.size
  have hgrg : gr ≠ g := fun e => by
    rcases hl with e2 | e2
    · exact (h.in_ g (h3 g (by rw [← e2, e]))).2.1 rfl
    · injection e2 with e2
      omega
  have hst : Touch (fun k => k = g) w1 (w1.setCell ⟨g, 12, none⟩ (.slice (some ⟨gr, 0, none⟩) (s.ms.length + 1) cr)) := (Touch.refl (fun k => k = g) w1).setCell (p := ⟨g, 12, none⟩) rfl _
  have hss := hst.size
  have hgs := hgr.size
  have hT1 : Touch F w w1 := (Touch.of_below hB).trans ⟨hgr.os, hgr.tape, hgr.output, hgr.size, fun k hk hn => hgr.block k hk fun e => hn (h.in_ k (h3 k e.symm)).1⟩
  refine ⟨⟨⟨a0, av, hg1.set 12 _ (gt_setM s _ _ _ _ _)⟩, .inl h.own, ⟨h.ok.rg, ?_, h.ok.m0, h.ok.h0, ?_⟩, hms.keep hst.size fun k hk => ?_, fun k hk => ?_⟩, hT1.trans (hst.mono fun k e => by have e : k = g := e; rw [e]; exact h.own)⟩
  · have := hsz.2
    unfold Gs.left at this
    show ((s.dn + sz : Nat) : Int) ≤ (s.Z : Int) - Rg.place s.Z s.h
    omega
  · have := h.ok.few
    show (s.ms ++ [(typ, ys)]).length ≤ s.dn + sz
    simp only [List.length_append, List.length_cons, List.length_nil]
    omega
  · have hkg : k ≠ g ∧ k < w1.heap.size := by
      rcases hk with hk | hk | hk
      · have := h.in_ k hk
        exact ⟨this.2.1, by omega⟩
      · have := hKd k hk.1
        exact ⟨this.2.1, by omega⟩
      · exact ⟨hk ▸ hgrg, by omega⟩
    exact hst.block k hkg.2 hkg.1
  · rcases hk with hk | hk | hk
    · have := h.in_ k hk
      exact ⟨.inl this.1, this.2.1, by omega⟩
    · have := hKd k hk.1
      exact ⟨.inl this.1, this.2.1, by omega⟩
    · rcases hl with e2 | e2
      · have := h.in_ gr (h3 gr e2.symm)
        exact ⟨.inl (hk ▸ this.1), hk ▸ hgrg, by omega⟩
      · injection e2 with e2
        exact ⟨.inr ⟨by omega, by omega⟩, hk ▸ hgrg, by omega⟩

set_option maxRecDepth 100000 in
set_option maxHeartbeats 1600000 in
theorem gtTell1 {w : World} {F M : Nat → Prop} {g : Nat} {s : Gs} {mv : Value} (h : GtBare w F g s M mv) (hF : ∀ k, F k → k < w.heap.size) {typ : Int} {sz a b c : Nat} (ha : w.cell? ⟨a, 0, none⟩ = some (.pointer (some ⟨g, 0, none⟩))) (hb : w.cell? ⟨b, 0, none⟩ = some (.int .i32 typ)) (hc : w.cell? ⟨c, 0, none⟩ = some (.int .i64 sz))
    (hag : a ≠ g) (hbg : b ≠ g) (hcg : c ≠ g) (har : mv.ownBlock ≠ some a) (hbr : mv.ownBlock ≠ some b) (hcr : mv.ownBlock ≠ some c) (hsz : 1 ≤ sz ∧ (sz : Int) ≤ s.left) {Ad : Option Addr} {ld cd : Nat} {ys : List Int} {Kd : Nat → Prop} (hd : BytesIn Kd w (.slice Ad ld cd) ys) (hKd : ∀ k, Kd k → F k ∧ k ≠ g ∧ mv.ownBlock ≠ some k) :
    Calls Tryz.prog 126 #[.slice Ad ld cd, .pointer (some ⟨a, 0, none⟩), .pointer (some ⟨b, 0, none⟩), .pointer (some ⟨c, 0, none⟩)] w (GtMoved F g (s.got typ sz ys) w) := by
  obtain ⟨a0, av, hblk⟩ := h.blk
  obtain ⟨Am, cm, hmv⟩ := h.msgs.slice
  subst hmv
  have hgl := hblk.lt
  have HH := Lib.hid h
  have HFL := Lib.hid hF
  have HD := Lib.hid hd
  have HKD := Lib.hid hKd
  have HSZ := Lib.hid hsz
  have c12 := hblk.c12
  have f12 := hblk.free 12
  have hgr0 : (Value.slice Am s.ms.length cm).ownBlock ≠ some g := fun e => by
    obtain ⟨vs, _, _, h3, _⟩ := h.msgs
    exact (h.in_ g (h3 g e)).2.1 rfl
  obtain ⟨vs, hvs, hrow, h3, h4⟩ := h.msgs
  have HROW := Lib.hid hrow
  have hn : s.ms.length ≤ 1000000 := by
    have h1 := h.ok.few
    have h2 := h.ok.dn0
    have h3 := h.ok.rg.z1
    have h4 := h.ok.rg.place_in s.h
    omega
  have HN := Lib.hid hn
  obtain ⟨n, hnn⟩ : ∃ n, n = s.ms.length := ⟨_, rfl⟩
  obtain ⟨cells, hcells⟩ : ∃ cells, cells = msCells ((s.ms.map Prod.fst).zip vs) := ⟨_, rfl⟩
  rw [← hnn, ← hcells] at HROW
  have hblk2 := hblk
  rw [← hnn] at HN hgr0 c12 har hbr hcr hblk2
  have HNN := Lib.hid hnn
  have HCE := Lib.hid hcells
  have HVS := Lib.hid hvs
  have H3 := Lib.hid h3
  have H4 := Lib.hid h4
  have hB0 := (Below.refl w.heap.size w).drew.alloc (Nat.le_refl _) (.cells #[.int .i32 typ, .slice Ad ld cd] 69)
  have hbk0 := Go.Deep.blk_alloc_new w.drew (.cells #[.int .i32 typ, .slice Ad ld cd] 69)
  have hla := lt_of_cell ha
  have hlb := lt_of_cell hb
  have hlc := lt_of_cell hc
  have HB0 := Lib.hid hB0
  have HBK := Lib.hid hbk0
  have HBL := Lib.hid hblk2
  have HNE := Lib.hid (And.intro hag (And.intro hbg (And.intro hcg (And.intro har (And.intro hbr (And.intro hcr hgr0))))))
  clear h hblk hblk2 hF hd hKd hsz hrow hn hnn hcells hvs hB0 hbk0 h3 h4 hag hbg hcg har hbr hcr hgr0
  go_enter Tryz.func126, Tryz.ntmps126
  go_wp2
  go_region_law
    (first
      | (refine step_app_msg rfl _ _ rfl n (.slice Am n cm) cells typ Ad ld cd w.heap.size 1 rfl rfl (row_of_block HROW.out fun k hk => HB0.out.block k (row_lt HROW.out hk).2) HBK.out HN.out ?_; intro gr cr w1 ho hgr hlie; have hg1 := (hgr.block g (Nat.lt_of_lt_of_le hgl HB0.out.size) (fun e => HNE.out.2.2.2.2.2.2 e.symm)).trans ((HB0.out.block g hgl).trans HBL.out); have c121 : w1.cell? ⟨g, 12, none⟩ = some (.slice Am n cm) := (by simp [World.cell?, hg1, GtCells]); have f121 : w1.frozen? ⟨g, 12, none⟩ = false := (by simp [World.frozen?, hg1]); have ka1 : w1.cell? ⟨a, 0, none⟩ = some (.pointer (some ⟨g, 0, none⟩)) := (World.cell?_of_block (a := ⟨a, 0, none⟩) (hgr.block a (Nat.lt_of_lt_of_le hla HB0.out.size) (fun e => HNE.out.2.2.2.1 e.symm))).trans ((HB0.out.cell (p := ⟨a, 0, none⟩) hla).trans ha); have kc1 : w1.cell? ⟨c, 0, none⟩ = some (.int .i64 sz) := (World.cell?_of_block (a := ⟨c, 0, none⟩) (hgr.block c (Nat.lt_of_lt_of_le hlc HB0.out.size) (fun e => HNE.out.2.2.2.2.2.1 e.symm))).trans ((HB0.out.cell (p := ⟨c, 0, none⟩) hlc).trans hc); have HG1 := Lib.hid hg1; have HOO := Lib.hid ho; have HGR := Lib.hid hgr; have HLI := Lib.hid hlie; clear hg1 ho hgr hlie))
  all_goals
    have hk := gt_kept HNN.out HH.out HFL.out HSZ.out HD.out HKD.out HB0.out HVS.out HCE.out H4.out H3.out HROW.out HOO.out HGR.out HLI.out HG1.out
    have ka2 := (World.cell?_setCell_far w1 ⟨g, 12, none⟩ ⟨a, 0, none⟩ (.slice (some ⟨gr, 0, none⟩) (n + 1) cr) (fun e => HNE.out.1 e.symm)).trans ka1
    have kc2 := (World.cell?_setCell_far w1 ⟨g, 12, none⟩ ⟨c, 0, none⟩ (.slice (some ⟨gr, 0, none⟩) (n + 1) cr) (fun e => HNE.out.2.2.1 e.symm)).trans kc1
    have HK := Lib.hid hk
    clear hk ka1 kc1 c121 f121 HG1 HOO HGR HLI
    go_upto_region 1 with (fail)
    generalize w1.setCell ⟨g, 12, none⟩ (.slice (some ⟨gr, 0, none⟩) (n + 1) cr) = W2 at HK ka2 kc2 ⊢
    go_wp2_with fail
    refine (gtPass HK.out.1 fun k hk => hk.elim (fun hk => Nat.lt_of_lt_of_le (HFL.out k hk) HK.out.2.size) fun hk => hk.2).mono ?_
    intro e w3 hm
    have hm2 := hm.around HK.out.2 fun k hk => hk
    obtain ⟨rfl, _⟩ := hm
    have HM := Lib.hid hm2
    clear hm2
    go_wp2
    go_end0
    exact HM.out
end Go.Proofs.YtikcnioooihncaaGreat
namespace Go.Proofs.YtikcnioooihncaaGreat
open Go.RowKit

set_option maxRecDepth 100000 in
set_option maxHeartbeats 400000 in
theorem bytes_any {kd : Kd} {w : World} {base top g d r : Nat} {v : Value} {ys : List Int} (h : Cp w base top g kd d r v ys) (hl : ys.length ≤ 1073741824) :
    Calls Tryz.prog 146 #[.pointer (some ⟨g, 0, none⟩)] w (MadeSl ys.length ys w) := by
  obtain ⟨cv, nx, th, h1, _, _⟩ := h.head
  have hb := h.own.bytes
  obtain ⟨A, cap, rfl, _⟩ := h.own.bytes
  have hc : w.cell? ⟨g, 4, none⟩ = some (.slice A ys.length cap) := by simp [World.cell?, h1]
  have HB := Lib.hid hb
  clear h h1 hb
  go_enter Tryz.func146, Tryz.ntmps146
  go_wp2_with (go_at_call 46; refine (clone_sl A ys.length cap ys w HB.out hl).mono ?_; rintro e w1 ⟨A1, c1, rfl, ho1, hb1⟩)
  go_ret
  exact ⟨_, _, rfl, ho1, hb1⟩

set_option maxRecDepth 100000 in
set_option maxHeartbeats 400000 in
theorem bytes_nil (w : World) : Calls Tryz.prog 146 #[.pointer none] w (MadeSl 0 [] w) := by
  go_enter Tryz.func146, Tryz.ntmps146
  go_wp2
  go_ret
  exact ⟨_, _, rfl, World.ownsRow_nil _ _ _ _, Below.refl _ _⟩
end Go.Proofs.YtikcnioooihncaaGreat
namespace Go.Proofs.YtikcnioooihncaaGreat
open Go.RowKit

theorem gt_row {w : World} {F M : Nat → Prop} {g : Nat} {s : Gs} {mv : Value} (h : GtBare w F g s M mv) {k : Nat} (hk : mv.ownBlock = some k) : M k ∧ k < w.heap.size := by
  obtain ⟨vs, _, hr, h3, _⟩ := h.msgs
  exact ⟨h3 k hk, (row_lt hr hk).2⟩

/-- Bytes came in new memory: the message is kept. -/
theorem gt_on {w w2 : World} {F M : Nat → Prop} {g : Nat} {s : Gs} {mv : Value} (h : GtBare w F g s M mv) (hF : ∀ k, F k → k < w.heap.size) {typ : Int} {sz a b c : Nat} (ha : Capt w (fun k => F k ∧ ¬ M k) g a (.pointer (some ⟨g, 0, none⟩))) (hb : Capt w (fun k => F k ∧ ¬ M k) g b (.int .i32 typ)) (hc : Capt w (fun k => F k ∧ ¬ M k) g c (.int .i64 sz)) (hsz : 1 ≤ sz ∧ (sz : Int) ≤ s.left)
    {W : World} (hW : Below w.heap.size w W) {A : Option Addr} {L cp : Nat} {ys : List Int} (ho : Owns W.heap.size w2 (.slice A L cp) ys) (hb2 : Below W.heap.size W w2) :
    Calls Tryz.prog 126 #[.slice A L cp, .pointer (some ⟨a, 0, none⟩), .pointer (some ⟨b, 0, none⟩), .pointer (some ⟨c, 0, none⟩)] w2 (GtMoved F g (s.got typ sz ys) w) := by
  have hw2 : Below w.heap.size w w2 := hW.trans (hb2.mono hW.size)
  have no : ∀ {q : Nat} {u : Value}, Capt w (fun k => F k ∧ ¬ M k) g q u → mv.ownBlock ≠ some q := fun hq e => hq.1.2 (gt_row h e).1
  have at2 : ∀ {q : Nat} {u : Value}, Capt w (fun k => F k ∧ ¬ M k) g q u → w2.cell? ⟨q, 0, none⟩ = some u := fun {q u} hq => (hw2.cell (p := ⟨q, 0, none⟩) (lt_of_cell hq.2.2)).trans hq.2.2
  have hs := hw2.size
  have hWs := hW.size
  have hgl := h.lt
  refine (gtTell1 (F := fun k => F k ∨ (w.heap.size ≤ k ∧ k < w2.heap.size)) ((h.below hw2).wide fun k hk => .inl hk) (fun k hk => hk.elim (fun hk => Nat.lt_of_lt_of_le (hF k hk) hs) fun hk => hk.2) (at2 ha) (at2 hb) (at2 hc) ha.2.1 hb.2.1 hc.2.1 (no ha) (no hb) (no hc) hsz (BytesIn.of_own ho).lt (fun k hk => ⟨.inr ⟨by have := hk.1; omega, hk.2⟩, by have := hk.1; omega, fun e => by have := (gt_row h e).2; have := hk.1; omega⟩)).mono ?_
  intro e w' hm
  exact hm.around (Touch.of_below hw2) fun k hk => hk

set_option maxRecDepth 100000 in
set_option maxHeartbeats 1600000 in
theorem gtRead1 {w : World} {F M : Nat → Prop} {g : Nat} {s : Gs} {mv : Value} (h : GtBare w F g s M mv) (hF : ∀ k, F k → k < w.heap.size) {typ : Int} {sz a b c er ec gc base top n : Nat} {v : Value} {ys : List Int} {kd : Kd}
    (hr : w.cell? ⟨er, 0, none⟩ = some (.func (.func 126) #[] #[.pointer (some ⟨a, 0, none⟩), .pointer (some ⟨b, 0, none⟩), .pointer (some ⟨c, 0, none⟩)])) (hec : w.cell? ⟨ec, 0, none⟩ = some (.pointer (some ⟨gc, 0, none⟩)))
    (ha : Capt w (fun k => F k ∧ ¬ M k) g a (.pointer (some ⟨g, 0, none⟩))) (hb : Capt w (fun k => F k ∧ ¬ M k) g b (.int .i32 typ)) (hc : Capt w (fun k => F k ∧ ¬ M k) g c (.int .i64 sz)) (hsz : 1 ≤ sz ∧ (sz : Int) ≤ s.left) (hcp : Cp w base top gc kd n 0 v ys) (hl : ys.length ≤ 1073741824) :
    Calls Tryz.prog 145 #[.pointer (some ⟨er, 0, none⟩), .pointer (some ⟨ec, 0, none⟩)] w (GtMoved F g (s.got typ sz ys) w) := by
  have hlr := lt_of_cell hr
  have HON := Lib.hid (fun (W w2 : World) (hW : Below w.heap.size w W) (A : Option Addr) (cp : Nat) (ho : Owns W.heap.size w2 (.slice A ys.length cp) ys) (hb2 : Below W.heap.size W w2) => gt_on h hF ha hb hc hsz hW ho hb2)
  have HCP := Lib.hid (fun W (hW : Below w.heap.size w W) => bytes_any (hcp.below hW) hl)
  have HR := Lib.hid hr
  clear h hF ha hb hc hsz hcp hl
  go_enter Tryz.func145, Tryz.ntmps145
  go_region_with
    (first
      | (go_at_call 146; refine (HCP.out _ (Below.refl w.heap.size w).drew).mono ?_; rintro e w2 ⟨A, cp, rfl, ho, hb2⟩; have hr2 := ((below_drew hb2).cell (p := ⟨er, 0, none⟩) hlr).trans HR.out; have HO := Lib.hid ho; have HB2 := Lib.hid hb2; clear ho hb2)
      | (go_at_call 126; refine (HON.out _ _ (Below.refl w.heap.size w).drew _ _ HO.out HB2.out).mono ?_; intro e w3 hm; have HM := Lib.hid hm; obtain ⟨rfl, _⟩ := hm))
  all_goals
    go_wp2
    go_end0
    exact HM.out
end Go.Proofs.YtikcnioooihncaaGreat
namespace Go.Proofs.YtikcnioooihncaaGreat
open Go.RowKit

/-- What the bytes' end and their next part lead to. -/
def Gs.reads (s : Gs) (typ : Int) (sz n d : Nat) (ys : List Int) : Gs := if d = n then s.got typ sz ys else { s with ph := .read typ sz n d ys }

theorem gt_enterR (er ec : Nat) (w : World) : (callFunc 145 #[.pointer (some ⟨er, 0, none⟩), .pointer (some ⟨ec, 0, none⟩)]).run Tryz.prog w = .ok (.enter 145 #[.pointer (some ⟨er, 0, none⟩), .pointer (some ⟨ec, 0, none⟩)]) w := by
  simp [go_sem]

set_option maxHeartbeats 800000 in
/-- The bytes are followed: the next part is asked for, or the message is kept. -/
theorem gtReads {w : World} {F M : Nat → Prop} {g : Nat} {s : Gs} {mv : Value} (h : GtBare w F g s M mv) (hF : ∀ k, F k → k < w.heap.size) {typ : Int} {sz n d er ec gc base top : Nat} {v on : Value} {ys : List Int}
    (hr : Capt w (fun k => F k ∧ ¬ M k) g er on) (hec : Capt w (fun k => F k ∧ ¬ M k) g ec (.pointer (some ⟨gc, 0, none⟩))) (ht : GTell w (fun k => (F k ∧ ¬ M k) ∧ ¬ ((base ≤ k ∧ k < top) ∨ v.ownBlock = some k)) g typ sz on)
    (hc : Cp w base top gc (.rd (s.at_ + 8)) d (n - d) v ys) (hd : d ≤ n) (hsz : n + 8 ≤ sz ∧ (sz : Int) ≤ s.left ∧ 1 ≤ sz) (hlen : ys.length ≤ 1073741824) (hsep : ∀ k, (base ≤ k ∧ k < top) ∨ v.ownBlock = some k → (F k ∧ ¬ M k) ∧ k ≠ g ∧ k ≠ er ∧ k ≠ ec ∧ mv.ownBlock ≠ some k) :
    Calls Tryz.prog 118 #[.pointer (some ⟨g, 3, none⟩), .iface 179 (.pointer (some ⟨gc, 0, none⟩)), .func (.func 145) #[] #[.pointer (some ⟨er, 0, none⟩), .pointer (some ⟨ec, 0, none⟩)]] w (GtMoved F g (s.reads typ sz n d ys) w) := by
  unfold Gs.reads
  by_cases hl : d = n
  · rw [if_pos hl]
    have hz : n - d = 0 := by omega
    rw [hz] at hc
    obtain ⟨a, b, c, e, ha, hb, hcc⟩ := ht
    have wk : ∀ {q : Nat} {u : Value}, Capt w (fun k => (F k ∧ ¬ M k) ∧ ¬ ((base ≤ k ∧ k < top) ∨ v.ownBlock = some k)) g q u → Capt w (fun k => F k ∧ ¬ M k) g q u := fun hq => hq.mono fun k hk => hk.1
    refine (stFollowNo hc g 3 (Q := fun w' => GtMoved F g (s.got typ sz ys) w (.returned (.tuple #[])) w') #[.pointer (some ⟨er, 0, none⟩), .pointer (some ⟨ec, 0, none⟩)] (by simp) (gt_enterR er ec) fun W hW => ?_).mono ?_
    · have bl : ∀ {q : Nat} {u : Value}, Capt w (fun k => F k ∧ ¬ M k) g q u → Capt W (fun k => F k ∧ ¬ M k) g q u := fun {q u} hq => ⟨hq.1, hq.2.1, (hW.cell (p := ⟨q, 0, none⟩) (lt_of_cell hq.2.2)).trans hq.2.2⟩
      have hon := (bl hr).2.2
      rw [e] at hon
      refine (gtRead1 (h.below hW) (fun k hk => Nat.lt_of_lt_of_le (hF k hk) hW.size) hon (bl hec).2.2 (bl (wk ha)) (bl (wk hb)) (bl (wk hcc)) ⟨hsz.2.2, hsz.2.1⟩ (hc.below hW) hlen).mono ?_
      intro e w' hm
      have hm2 := hm.after hW
      obtain ⟨rfl, _⟩ := hm
      exact ⟨rfl, hm2⟩
    · rintro e w' ⟨rfl, hm⟩
      exact hm
  · rw [if_neg hl]
    obtain ⟨a0, av, hblk⟩ := h.blk
    refine (stFollowYes hc (by omega) hblk.st 145 #[] #[.pointer (some ⟨er, 0, none⟩), .pointer (some ⟨ec, 0, none⟩)]).mono ?_
    rintro e w' ⟨rfl, W, A, l, cp, hW, ho, k0, k1, k2, rfl⟩
    have hgl := hblk.lt
    obtain ⟨th, hth⟩ : ∃ th : Value, th = .func (.func 139) #[] #[.pointer (some ⟨w.heap.size + 1, 0, none⟩), .pointer (some ⟨w.heap.size, 0, none⟩), .pointer (some ⟨w.heap.size + 2, 0, none⟩)] := ⟨_, rfl⟩
    obtain ⟨ac, hac⟩ : ∃ ac : Ac, ac = ⟨5, s.at_ + 8 + (d : Nat), (Cy.nx (n - d) : Nat), 0, 0, []⟩ := ⟨_, rfl⟩
    have hs := seven_touch1 W g 3 ac (.slice A l cp) th
    have hbk := gt_seven (hblk.below hW) ac (.slice A l cp) th
    have hbi := (BytesIn.of_own ho).lt
    show GtMoved F g { s with ph := .read typ sz n d ys } w (.returned (.tuple #[])) (seven W g 3 ⟨5, s.at_ + 8 + (d : Nat), (Cy.nx (n - d) : Nat), 0, 0, []⟩ (.slice A l cp) (.func (.func 139) #[] #[.pointer (some ⟨w.heap.size + 1, 0, none⟩), .pointer (some ⟨w.heap.size, 0, none⟩), .pointer (some ⟨w.heap.size + 2, 0, none⟩)]))
    rw [← hth, ← hac]
    generalize seven W g 3 ac (.slice A l cp) th = w2 at hs hbk ⊢
    have l0 := lt_of_cell k0
    have l1 := lt_of_cell k1
    have l2 := lt_of_cell k2
    have hws := hW.size
    have hs2 := hs.size
    have hne0 : w.heap.size ≠ g := by omega
    have hne1 : w.heap.size + 1 ≠ g := by omega
    have hne2 : w.heap.size + 2 ≠ g := by omega
    have hk : ∀ k, k ≠ g → k < W.heap.size → w2.heap[k]? = W.heap[k]? := fun k hg hl => hs.block k hl hg
    have hFk : ∀ k, F k → k ≠ g → w2.heap[k]? = w.heap[k]? := fun k hkF hkg => (hk k hkg (Nat.lt_of_lt_of_le (hF k hkF) hws)).trans (hW.block k (hF k hkF))
    have hMl : ∀ k, M k → k < w.heap.size := fun k hk => (h.in_ k hk).2.2
    refine ⟨rfl, fun k => F k ∨ (w.heap.size ≤ k ∧ k < w2.heap.size), ⟨M, _, _, _, mv, hbk, .inl h.own, h.ok.withPh _, show d < n ∧ n + 8 ≤ sz ∧ (sz : Int) ≤ s.left ∧ 1 ≤ sz from ⟨by omega, hsz⟩, ?_, h.msgs.keep (Nat.le_trans hws hs2) fun k hk => hFk k (h.in_ k hk).1 (h.in_ k hk).2.1, fun k hk => ⟨.inl (h.in_ k hk).1, (h.in_ k hk).2.1⟩, fun b hb => ?_⟩, ((Touch.of_below hW).trans hs).mono fun k e => by have e : k = g := e; rw [e]; exact h.own, fun k hk => hk⟩
    · refine ⟨w.heap.size + 1, w.heap.size, w.heap.size + 2, er, ec, gc, base, top, v, on, hth, ⟨⟨.inr ⟨by omega, by omega⟩, fun hm => by have := hMl _ hm; omega⟩, hne1, (World.cell?_of_block (w := W) (a := ⟨w.heap.size + 1, 0, none⟩) (hk _ hne1 l1)).trans k1⟩, ⟨⟨.inr ⟨by omega, by omega⟩, fun hm => by have := hMl _ hm; omega⟩, hne0, (World.cell?_of_block (w := W) (a := ⟨w.heap.size, 0, none⟩) (hk _ hne0 l0)).trans k0⟩, ⟨⟨.inr ⟨by omega, by omega⟩, fun hm => by have := hMl _ hm; omega⟩, hne2, (World.cell?_of_block (w := W) (a := ⟨w.heap.size + 2, 0, none⟩) (hk _ hne2 l2)).trans k2⟩, (hr.keep fun k hk hkg => hFk k hk.1 hkg).mono fun k hk => ⟨.inl hk.1, hk.2⟩, (hec.keep fun k hk hkg => hFk k hk.1 hkg).mono fun k hk => ⟨.inl hk.1, hk.2⟩, ht.keep (fun k hk hkg => hFk k hk.1.1 hkg) fun k hk => ⟨⟨.inl hk.1.1, hk.1.2⟩, hk.2⟩, ?_, fun k hk2 => ?_⟩
      · show Cp w2 base top gc (.rd (s.at_ + 8)) d (n - d) v ys
        refine hc.keep (Nat.le_trans hws hs2) (fun k h1 h2 => ?_) fun k h1 => ?_
        · have := hsep k (.inl ⟨h1, h2⟩)
          exact hFk k this.1.1 this.2.1
        · have := hsep k (.inr h1)
          exact hFk k this.1.1 this.2.1
      · have h5 := hsep k hk2
        have h6 := hF k h5.1.1
        exact ⟨⟨.inl h5.1.1, h5.1.2⟩, h5.2.1, by omega, by omega, by omega, h5.2.2.1, h5.2.2.2.1, h5.2.2.2.2⟩
    · have hb' : some (⟨5, s.at_ + 8 + (d : Nat), (Cy.nx (n - d) : Nat), 0, 0, []⟩ : Ac) = some b := hb
      injection hb' with hb'
      refine ⟨hac.trans hb', ?_⟩
      subst hb'
      exact (hbi.keep hs2 fun k h1 hl => hk k (by have := h1.1; omega) hl).mono fun k h1 _ => ⟨.inr ⟨by have := h1.1; omega, Nat.lt_of_lt_of_le h1.2 hs2⟩, fun hm => by have := hMl _ hm; have := h1.1; omega, by have := h1.1; omega⟩
end Go.Proofs.YtikcnioooihncaaGreat
namespace Go.Proofs.YtikcnioooihncaaGreat
open Go.RowKit

set_option maxHeartbeats 800000 in
/-- A part of the bytes was read: the next one, or the message is kept. -/
theorem gtReads1 {w : World} {F M : Nat → Prop} {g : Nat} {s : Gs} {mv : Value} (h : GtBare w F g s M mv) (hF : ∀ k, F k → k < w.heap.size) {typ : Int} {sz n d em es eo er ec gc base top : Nat} {v on : Value} {ys : List Int}
    (hm : Capt w (fun k => F k ∧ ¬ M k) g em (.iface 179 (.pointer (some ⟨gc, 0, none⟩)))) (hs : Capt w (fun k => F k ∧ ¬ M k) g es (.pointer (some ⟨g, 3, none⟩))) (ho : Capt w (fun k => F k ∧ ¬ M k) g eo (.func (.func 145) #[] #[.pointer (some ⟨er, 0, none⟩), .pointer (some ⟨ec, 0, none⟩)]))
    (hr : Capt w (fun k => F k ∧ ¬ M k) g er on) (hec : Capt w (fun k => F k ∧ ¬ M k) g ec (.pointer (some ⟨gc, 0, none⟩))) (ht : GTell w (fun k => (F k ∧ ¬ M k) ∧ ¬ ((base ≤ k ∧ k < top) ∨ v.ownBlock = some k)) g typ sz on)
    (hc : Cp w base top gc (.rd (s.at_ + 8)) d (n - d) v ys) (hd : d < n) (hsz : n + 8 ≤ sz ∧ (sz : Int) ≤ s.left ∧ 1 ≤ sz) (hsep : ∀ k, (base ≤ k ∧ k < top) ∨ v.ownBlock = some k → (F k ∧ ¬ M k) ∧ k ≠ g ∧ k ≠ em ∧ k ≠ es ∧ k ≠ eo ∧ k ≠ er ∧ k ≠ ec ∧ mv.ownBlock ≠ some k)
    (V : Nat) (D : Bool) (A : Option Addr) (L cp : Nat) {zs : List Int} (hz : BytesAt w (.slice A L cp) zs) (hlen : ys.length + zs.length ≤ 1073741824) :
    Calls Tryz.prog 139 #[.agg #[.int .u64 V, .bool D, .slice A L cp], .pointer (some ⟨em, 0, none⟩), .pointer (some ⟨es, 0, none⟩), .pointer (some ⟨eo, 0, none⟩)] w (GtMoved F g (s.reads typ sz n (d + Cy.nx (n - d)) (ys ++ zs)) w) := by
  have hmine : ∀ k, Mine gc v k → (F k ∧ ¬ M k) ∧ k ≠ g ∧ k ≠ em ∧ k ≠ es ∧ k ≠ eo ∧ k ≠ er ∧ k ≠ ec ∧ mv.ownBlock ≠ some k := fun k hk => by
    rcases hk with hk | hk
    · exact hsep k (.inl ⟨hk ▸ hc.above, hk ▸ hc.under⟩)
    · exact hsep k (.inr hk)
  have hmc : ∀ k, Mine gc v k → (base ≤ k ∧ k < top) ∨ v.ownBlock = some k := fun k hk => by
    rcases hk with hk | hk
    · exact .inl ⟨hk ▸ hc.above, hk ▸ hc.under⟩
    · exact .inr hk
  have hnl := Cy.nx_le (n - d)
  refine (stFollow1 hc (by omega) hm.2.2 hs.2.2 ho.2.2 (fun e => (hmine _ e).2.2.1 rfl) (fun e => (hmine _ e).2.2.2.1 rfl) (fun e => (hmine _ e).2.2.2.2.1 rfl) V D A L cp hz (fun _ => hlen) (Q := fun w' => GtMoved F g (s.reads typ sz n (d + Cy.nx (n - d)) (ys ++ zs)) w (.returned (.tuple #[])) w') fun W v' hc' ht' hl' => ?_).mono ?_
  · have hTF : Touch F w W := ht'.mono fun k hk => (hmine k hk).1.1
    have hb := h.turn ht' (fun e => (hmine g e).2.1 rfl) fun k hk e => (hmine k e).1.2 hk
    have hws := ht'.size
    have cap : ∀ {q : Nat} {u : Value}, Capt w (fun k => F k ∧ ¬ M k) g q u → ¬ Mine gc v q → Capt W (fun k => (F k ∨ (w.heap.size ≤ k ∧ k < W.heap.size)) ∧ ¬ M k) g q u := fun {q u} hq hn =>
      ⟨⟨.inl hq.1.1, hq.1.2⟩, hq.2.1, (World.cell?_of_block (w := w) (a := ⟨q, 0, none⟩) (ht'.block q (hF q hq.1.1) hn)).trans hq.2.2⟩
    have hsub : n - d - Cy.nx (n - d) = n - (d + Cy.nx (n - d)) := by omega
    rw [hsub] at hc'
    have hgl := h.lt
    have hml : ∀ k, M k → k < w.heap.size := fun k hk => (h.in_ k hk).2.2
    have hvl : ∀ k, mv.ownBlock = some k → k < w.heap.size := fun k hk => (gt_row h hk).2
    have lr := hF er hr.1.1
    have lc := hF ec hec.1.1
    have key : ∀ k, (base ≤ k ∧ k < top) ∨ v'.ownBlock = some k → ((base ≤ k ∧ k < top) ∨ v.ownBlock = some k) ∨ (w.heap.size ≤ k ∧ k < W.heap.size) := fun k hk => by
      rcases hk with hk | hk
      · exact .inl (.inl hk)
      · rcases hl' k hk with e | e
        · exact .inl (.inr e)
        · exact .inr ⟨e, (hc'.own.ge hk).2⟩
    have ht2 : GTell W (fun k => ((F k ∨ (w.heap.size ≤ k ∧ k < W.heap.size)) ∧ ¬ M k) ∧ ¬ ((base ≤ k ∧ k < top) ∨ v'.ownBlock = some k)) g typ sz on := by
      obtain ⟨a, b, c, e, h1, h2, h3⟩ := ht
      have one : ∀ {q : Nat} {u : Value}, Capt w (fun k => (F k ∧ ¬ M k) ∧ ¬ ((base ≤ k ∧ k < top) ∨ v.ownBlock = some k)) g q u → Capt W (fun k => ((F k ∨ (w.heap.size ≤ k ∧ k < W.heap.size)) ∧ ¬ M k) ∧ ¬ ((base ≤ k ∧ k < top) ∨ v'.ownBlock = some k)) g q u := fun {q u} hq => by
        have hql := hF q hq.1.1.1
        refine ⟨⟨⟨.inl hq.1.1.1, hq.1.1.2⟩, fun e => ?_⟩, hq.2.1, (World.cell?_of_block (w := w) (a := ⟨q, 0, none⟩) (ht'.block q hql fun e => hq.1.2 (hmc q e))).trans hq.2.2⟩
        rcases key q e with e | e
        · exact hq.1.2 e
        · omega
      exact ⟨a, b, c, e, one h1, one h2, one h3⟩
    refine (gtReads hb (fun k hk => hk.elim (fun hk => Nat.lt_of_lt_of_le (hF k hk) hws) fun hk => hk.2) (cap hr fun e => (hmine er e).2.2.2.2.2.1 rfl) (cap hec fun e => (hmine ec e).2.2.2.2.2.2.1 rfl) ht2 (show Cp W base top gc (.rd (s.at_ + 8)) (d + Cy.nx (n - d)) (n - (d + Cy.nx (n - d))) v' (ys ++ zs) from hc') (by omega) hsz (by rw [List.length_append]; exact hlen) fun k hk => ?_).mono fun e w' hm => ?_
    · rcases key k hk with hk | h5
      · have h5 := hsep k hk
        exact ⟨⟨.inl h5.1.1, h5.1.2⟩, h5.2.1, h5.2.2.2.2.2.1, h5.2.2.2.2.2.2.1, h5.2.2.2.2.2.2.2⟩
      · exact ⟨⟨.inr h5, fun e => by have := hml k e; omega⟩, by omega, by omega, by omega, fun e => by have := hvl k e; omega⟩
    · have h6 := hm.around hTF fun k hk => hk
      obtain ⟨rfl, _⟩ := hm
      exact ⟨rfl, h6⟩
  · rintro e w' ⟨rfl, hm⟩
    exact hm
end Go.Proofs.YtikcnioooihncaaGreat
namespace Go.Proofs.YtikcnioooihncaaGreat
open Go.RowKit

set_option maxRecDepth 100000 in
set_option maxHeartbeats 1600000 in
theorem gtReadM {w : World} {F M : Nat → Prop} {g : Nat} {s : Gs} {mv : Value} (h : GtBare w F g s M mv) (hF : ∀ k, F k → k < w.heap.size) {typ : Int} {sz n a b c : Nat} (ha : Capt w (fun k => F k ∧ ¬ M k) g a (.pointer (some ⟨g, 0, none⟩))) (hb : Capt w (fun k => F k ∧ ¬ M k) g b (.int .i32 typ)) (hc : Capt w (fun k => F k ∧ ¬ M k) g c (.int .i64 sz)) (hsz : n + 8 ≤ sz ∧ (sz : Int) ≤ s.left ∧ 1 ≤ sz) :
    Calls Tryz.prog 125 #[.pointer (some ⟨g, 0, none⟩), .int .i64 n, .func (.func 126) #[] #[.pointer (some ⟨a, 0, none⟩), .pointer (some ⟨b, 0, none⟩), .pointer (some ⟨c, 0, none⟩)]] w (GtMoved F g (s.reads typ sz n 0 []) w) := by
  obtain ⟨on, hon⟩ : ∃ on : Value, on = .func (.func 126) #[] #[.pointer (some ⟨a, 0, none⟩), .pointer (some ⟨b, 0, none⟩), .pointer (some ⟨c, 0, none⟩)] := ⟨_, rfl⟩
  rw [← hon]
  obtain ⟨a0, av, hblk⟩ := h.blk
  have hgl := hblk.lt
  have HH := Lib.hid h
  have HFL := Lib.hid hF
  have HB := Lib.hid hblk
  have HON := Lib.hid hon
  have HSZ := Lib.hid hsz
  have HABC := Lib.hid (And.intro ha (And.intro hb hc))
  have hb0 := (Below.refl w.heap.size w).alloc (Nat.le_refl _) (.cells #[on] 185)
  have hbox := rp_box w on 185
  have hsz0 : (w.alloc (.cells #[on] 185)).heap.size = w.heap.size + 1 := by simp
  have HW := Lib.hid hb0
  have hz1 := h.ok.rg.z1
  have hb1' := h.ok.rg.b1
  have hpl := h.ok.rg.place_in s.h
  have hdn := h.ok.dn0
  have hat : 0 ≤ s.at_ ∧ s.at_ ≤ 200000 := by unfold Gs.at_ Rg.spot; omega
  have hn2 : n ≤ 8192 := by
    have := hsz.2.1
    unfold Gs.left at this
    omega
  obtain ⟨P, hP⟩ : ∃ P, P = s.at_ := ⟨_, rfl⟩
  rw [← hP] at hat
  have e1 : IntKind.i64.wrap (P + 8) = P + 8 := IntWalk.i64_in _ (by omega)
  have e2 : wrap64 (P + 8) = P + 8 := by unfold wrap64; omega
  have HNE := Lib.hid (show -4611686018427387904 ≤ P + 8 ∧ P + 8 ≤ 4611686018427387904 by omega)
  have HFW : Hid (Cy.few (n : Int) = n) := Lib.hid (Cy.few_nat (by omega))
  have HP := Lib.hid hP
  clear h hblk hF hon hsz ha hb hc hb0 hz1 hb1' hpl hdn hat hn2 hP
  go_enter Tryz.func125, Tryz.ntmps125
  go_wp2_with fail
  generalize w.alloc (.cells #[on] 185) = W at hbox HW hsz0 ⊢
  have hla : w.heap.size < W.heap.size := by omega
  refine (gtAt (HB.out.below HW.out) HH.out.ok).mono ?_
  rw [← HP.out]
  rintro e x1 ⟨rfl, hb1⟩
  have k1 := (hb1.cell (p := ⟨w.heap.size, 0, none⟩) hla).trans hbox
  have HX1 := Lib.hid (HW.out.trans (hb1.mono HW.out.size))
  have hs1 := hb1.size
  clear hb1 hbox
  go_wp2_with fail
  refine (out_any (P + 8) n _ HNE.out).mono ?_
  rintro e x2 ⟨gc, rfl, hc2, hb2⟩
  have hcc := Lib.hid (gt_few HFW.out hc2)
  have k2 := (hb2.cell (p := ⟨w.heap.size, 0, none⟩) (lt_of_cell k1)).trans k1
  have HX2 := Lib.hid (HX1.out.trans (hb2.mono HX1.out.size))
  have hs2 := hb2.size
  clear hc2 hb2 k1
  have hb3 := (Below.refl x2.heap.size x2).alloc (Nat.le_refl _) (.cells #[.pointer (some ⟨gc, 0, none⟩)] 179)
  have kc := rp_box x2 (.pointer (some ⟨gc, 0, none⟩)) 179
  go_upto_region 2 with (fail)
  generalize x2.alloc (.cells #[.pointer (some ⟨gc, 0, none⟩)] 179) = x3 at hb3 kc ⊢
  have k3 := (hb3.cell (p := ⟨w.heap.size, 0, none⟩) (lt_of_cell k2)).trans k2
  have HX3 := Lib.hid (HX2.out.trans (hb3.mono HX2.out.size))
  have HC3 := Lib.hid (hcc.out.below hb3)
  have hs3 := hb3.size
  have hl3 := lt_of_cell kc
  have hl3' : x2.heap.size < x3.heap.size := hl3
  have HFO : Hid (∀ X, Below x3.heap.size x3 X → Calls Tryz.prog 118 #[.pointer (some ⟨g, 3, none⟩), .iface 179 (.pointer (some ⟨gc, 0, none⟩)), .func (.func 145) #[] #[.pointer (some ⟨w.heap.size, 0, none⟩), .pointer (some ⟨x2.heap.size, 0, none⟩)]] X (GtMoved F g (s.reads typ sz n 0 []) w)) := Lib.hid fun X hX => by
    have hwX := HX3.out.trans (hX.mono HX3.out.size)
    have hsX := hX.size
    obtain ⟨ha, hb, hc⟩ := HABC.out
    have hgw := HH.out.lt
    have nM : ∀ k, w.heap.size ≤ k → ¬ M k := fun k hk hm => by have := (HH.out.in_ k hm).2.2; omega
    have one : ∀ {q : Nat} {u : Value}, Capt w (fun k => F k ∧ ¬ M k) g q u → Capt X (fun k => ((F k ∨ (w.heap.size ≤ k ∧ k < X.heap.size)) ∧ ¬ M k) ∧ ¬ ((x1.heap.size ≤ k ∧ k < x2.heap.size) ∨ (Value.slice none 0 0).ownBlock = some k)) g q u := fun {q u} hq => by
      have hql := HFL.out q hq.1.1
      refine ⟨⟨⟨.inl hq.1.1, hq.1.2⟩, fun e => ?_⟩, hq.2.1, (hwX.cell (p := ⟨q, 0, none⟩) hql).trans hq.2.2⟩
      rcases e with e | e
      · omega
      · cases e
    have hcX : Cp X x1.heap.size x2.heap.size gc (.rd (s.at_ + 8)) 0 (n - 0) (.slice none 0 0) [] := by rw [← HP.out]; exact HC3.out.below hX
    refine (gtReads (F := fun k => F k ∨ (w.heap.size ≤ k ∧ k < X.heap.size)) ((HH.out.below hwX).wide fun k hk => .inl hk) (fun k hk => hk.elim (fun hk => Nat.lt_of_lt_of_le (HFL.out k hk) hwX.size) fun hk => hk.2) (er := w.heap.size) (ec := x2.heap.size)
      ⟨⟨.inr ⟨Nat.le_refl _, by omega⟩, nM _ (Nat.le_refl _)⟩, by omega, (hX.cell (p := ⟨w.heap.size, 0, none⟩) (lt_of_cell k3)).trans k3⟩ ⟨⟨.inr ⟨by omega, by omega⟩, nM _ (by omega)⟩, by omega, (hX.cell (p := ⟨x2.heap.size, 0, none⟩) hl3).trans kc⟩ ⟨a, b, c, HON.out, one ha, one hb, one hc⟩ hcX (Nat.zero_le _) HSZ.out (by simp) fun k hk => ?_).mono fun e w' hm => hm.around (Touch.of_below hwX) fun k hk => hk
    rcases hk with hk | hk
    · exact ⟨⟨.inr ⟨by omega, by omega⟩, nM _ (by omega)⟩, by omega, by omega, by omega, fun e => by have := (gt_row HH.out e).2; omega⟩
    · cases hk
  clear hcc HC3 hb3 HON k2 hs1 hs2 hs3
  go_region_with
    (first
      | (go_at_call 118; refine (HFO.out _ (Below.refl x3.heap.size x3).drew).mono ?_; intro e w4 hm; have HM := Lib.hid hm; obtain ⟨rfl, _⟩ := hm))
  all_goals
    go_wp2
    go_end0
    exact HM.out
end Go.Proofs.YtikcnioooihncaaGreat
namespace Go.Proofs.YtikcnioooihncaaGreat
open Go.RowKit

theorem gt_box2 (w : World) (v0 v1 : Value) (T0 T1 : TypeId) (WW : World) (hWW : WW = (w.alloc (.cells #[v0] T0)).alloc (.cells #[v1] T1)) :
    Below w.heap.size w WW ∧ WW.cell? ⟨w.heap.size, 0, none⟩ = some v0 ∧ WW.cell? ⟨w.heap.size + 1, 0, none⟩ = some v1 ∧ WW.heap.size = w.heap.size + 2 := by
  have b1 := (Below.refl w.heap.size w).alloc (Nat.le_refl _) (.cells #[v0] T0)
  have x1 := rp_box w v0 T0
  have s1 : (w.alloc (.cells #[v0] T0)).heap.size = w.heap.size + 1 := by simp
  generalize w.alloc (.cells #[v0] T0) = W1 at *
  have b2 := (Below.refl W1.heap.size W1).alloc (Nat.le_refl _) (.cells #[v1] T1)
  have x2 := rp_box W1 v1 T1
  have s2 : (W1.alloc (.cells #[v1] T1)).heap.size = W1.heap.size + 1 := by simp
  have y1 := (b2.cell (p := ⟨w.heap.size, 0, none⟩) (by show w.heap.size < _; omega)).trans x1
  rw [s1] at x2
  subst hWW
  exact ⟨b1.trans (b2.mono (by omega)), y1, x2, by omega⟩

theorem gt_al {l : Int} (h0 : 1 ≤ l) (h1 : l ≤ 2147483647) : Wd.al l 8 = ((Gs.size l : Nat) : Int) := by
  have hk : Wd.alOk l 8 = true := by
    have hp : Wd.isP 8 = true := by decide
    unfold Wd.alOk
    simp [hp]
    omega
  unfold Wd.al Gs.size
  rw [if_pos hk]
  omega

set_option maxRecDepth 100000 in
set_option maxHeartbeats 800000 in
theorem gtTellNone {w : World} {F M : Nat → Prop} {g : Nat} {s : Gs} {mv : Value} (h : GtBare w F g s M mv) (hF : ∀ k, F k → k < w.heap.size) {l typ : Int} (hl : l < 1) :
    Calls Tryz.prog 92 #[.pointer (some ⟨g, 0, none⟩), .int .i32 l, .int .i32 typ] w (GtMoved F g s.drain w) := by
  have HH := Lib.hid h
  have HFL := Lib.hid hF
  obtain ⟨WW, hWW⟩ : ∃ WW, WW = (w.alloc (.cells #[.pointer (some ⟨g, 0, none⟩)] 27)).alloc (.cells #[.int .i32 typ] 21) := ⟨_, rfl⟩
  obtain ⟨hb0, x0, x1, hsz⟩ := gt_box2 w (.pointer (some ⟨g, 0, none⟩)) (.int .i32 typ) _ _ WW hWW
  have HW := Lib.hid hb0
  have hd : decide (l < 1) = true := decide_eq_true hl
  clear h hF hb0 hl
  go_enter Tryz.func92, Tryz.ntmps92
  go_upto_region 1 with (fail)
  rw [← hWW]
  clear hWW
  go_wp2_with fail
  refine (gtDrain (HH.out.below HW.out) fun k hk => Nat.lt_of_lt_of_le (HFL.out k hk) HW.out.size).mono ?_
  intro e w3 hm
  have hm2 := hm.after HW.out
  obtain ⟨rfl, _⟩ := hm
  have HM := Lib.hid hm2
  clear hm2
  go_wp2
  go_end0
  exact HM.out

theorem GtBare.fault {w : World} {F M : Nat → Prop} {g : Nat} {s : Gs} {mv : Value} (h : GtBare w F g s M mv) (er : Int) : GtBare (w.setCell ⟨g, 13, none⟩ (.int .i64 er)) F g { s with er := er } M mv := by
  obtain ⟨a, av, hk⟩ := h.blk
  have hT := (Touch.refl (fun k => k = g) w).setCell (p := ⟨g, 13, none⟩) rfl (.int .i64 er)
  exact ⟨⟨a, av, hk.set 13 _ (gt_setE s er _ _ _ _)⟩, h.own, h.ok.withEr er, h.msgs.keep hT.size fun k hk => hT.block k (h.in_ k hk).2.2 (h.in_ k hk).2.1, fun k hk => ⟨(h.in_ k hk).1, (h.in_ k hk).2.1, Nat.lt_of_lt_of_le (h.in_ k hk).2.2 hT.size⟩⟩
end Go.Proofs.YtikcnioooihncaaGreat
namespace Go.Proofs.YtikcnioooihncaaGreat
open Go.RowKit

set_option maxRecDepth 100000 in
set_option maxHeartbeats 1600000 in
theorem gtTellOdd1 {w : World} {F M : Nat → Prop} {g : Nat} {s : Gs} {mv : Value} (h : GtBare w F g s M mv) (hF : ∀ k, F k → k < w.heap.size) {l typ : Int} (hl : 1 ≤ l ∧ l ≤ 2147483647) (h8 : l < 8) :
    Calls Tryz.prog 92 #[.pointer (some ⟨g, 0, none⟩), .int .i32 l, .int .i32 typ] w (GtMoved F g ({ s with er := 13 } : Gs).drain w) := by
  have HH := Lib.hid h
  have HFL := Lib.hid hF
  obtain ⟨a0, av, hblk⟩ := h.blk
  have hgl := hblk.lt
  have HB := Lib.hid hblk
  obtain ⟨WW, hWW⟩ : ∃ WW, WW = (w.alloc (.cells #[.pointer (some ⟨g, 0, none⟩)] 27)).alloc (.cells #[.int .i32 typ] 21) := ⟨_, rfl⟩
  obtain ⟨hb0, x0, x1, hsz⟩ := gt_box2 w (.pointer (some ⟨g, 0, none⟩)) (.int .i32 typ) _ _ WW hWW
  have HW := Lib.hid hb0
  obtain ⟨S, hS⟩ : ∃ S, S = Gs.size l := ⟨_, rfl⟩
  have hal : Wd.al l 8 = (S : Int) := by rw [hS]; exact gt_al hl.1 hl.2
  have HSS := Lib.hid hS
  clear hS
  have hd : decide (l < 1) = false := decide_eq_false (by omega)
  have hc1 : IntKind.i64.wrap l = l := IntWalk.i64_in _ (by omega)
  have hd8 : decide (l < 8) = true := decide_eq_true h8
  clear h hF hb0 hblk
  go_enter Tryz.func92, Tryz.ntmps92
  go_upto_region 1 with (fail)
  rw [← hWW]
  clear hWW
  go_upto_region 5 with (go_at_call 105; refine (align_any l 8 _ (by omega) (by omega)).mono ?_; rw [hal]; rintro e wq ⟨rfl, rfl⟩)
  have hb1 := (Below.refl WW.heap.size WW).alloc (Nat.le_refl _) (.cells #[.int .i64 (S : Int)] 2)
  have x2 := rp_box WW (.int .i64 (S : Int)) 2
  have k0 := (hb1.cell (p := ⟨w.heap.size, 0, none⟩) (lt_of_cell x0)).trans x0
  have k1 := (hb1.cell (p := ⟨w.heap.size + 1, 0, none⟩) (lt_of_cell x1)).trans x1
  generalize WW.alloc (.cells #[.int .i64 (S : Int)] 2) = W at hb1 x2 k0 k1 ⊢
  have HX := Lib.hid (HW.out.trans (hb1.mono HW.out.size))
  have HBL := Lib.hid (fun n => HX.out.trans ((drewN_below W n).mono HX.out.size))
  have hgx : ∀ n, g < (W.drewN n).heap.size := fun n => Nat.lt_of_lt_of_le hgl (HBL.out n).size
  go_quiet (fail)
  have hb2 := HBL.out nq
  have c13 := (hb2.cell (p := ⟨g, 13, none⟩) hgl).trans HB.out.c13
  have f13 := (HB.out.below hb2).free 13
  have hF2 : Hid (GtBare ((W.drewN nq).setCell ⟨g, 13, none⟩ (.int .i64 13)) F g { s with er := 13 } M mv) := Lib.hid ((HH.out.below hb2).fault 13)
  have hT2 : Hid (Touch F w ((W.drewN nq).setCell ⟨g, 13, none⟩ (.int .i64 13))) := Lib.hid ((Touch.of_below hb2).trans (((Touch.refl (fun k => k = g) _).setCell (p := ⟨g, 13, none⟩) rfl _).mono fun k e => by have e : k = g := e; rw [e]; exact HH.out.own))
  have hga : ¬ g = w.heap.size := by omega
  have j0 : (W.drewN nq).cell? ⟨w.heap.size, 0, none⟩ = some (.pointer (some ⟨g, 0, none⟩)) := k0
  have j1 := (World.cell?_setCell_far (W.drewN nq) ⟨g, 13, none⟩ ⟨w.heap.size, 0, none⟩ (.int .i64 13) hga).trans j0
  go_upto_region 7 with (fail)
  generalize (W.drewN nq).setCell ⟨g, 13, none⟩ (.int .i64 13) = W2 at hF2 hT2 j1 ⊢
  go_wp2_with fail
  refine (gtDrain hF2.out fun k hk => Nat.lt_of_lt_of_le (HFL.out k hk) hT2.out.size).mono ?_
  intro e w3 hm
  have hm2 := hm.afterT hT2.out
  obtain ⟨rfl, _⟩ := hm
  have HM := Lib.hid hm2
  clear hm2
  go_wp2
  go_end0
  exact HM.out
end Go.Proofs.YtikcnioooihncaaGreat
namespace Go.Proofs.YtikcnioooihncaaGreat
open Go.RowKit

set_option maxRecDepth 100000 in
set_option maxHeartbeats 1600000 in
theorem gtTellOdd2 {w : World} {F M : Nat → Prop} {g : Nat} {s : Gs} {mv : Value} (h : GtBare w F g s M mv) (hF : ∀ k, F k → k < w.heap.size) {l typ : Int} (hl : 1 ≤ l ∧ l ≤ 2147483647) (h8 : ¬ l < 8) (hlt : s.left < (Gs.size l : Int)) :
    Calls Tryz.prog 92 #[.pointer (some ⟨g, 0, none⟩), .int .i32 l, .int .i32 typ] w (GtMoved F g ({ s with er := 13 } : Gs).drain w) := by
  have HH := Lib.hid h
  have HFL := Lib.hid hF
  obtain ⟨a0, av, hblk⟩ := h.blk
  have hgl := hblk.lt
  have HB := Lib.hid hblk
  obtain ⟨WW, hWW⟩ : ∃ WW, WW = (w.alloc (.cells #[.pointer (some ⟨g, 0, none⟩)] 27)).alloc (.cells #[.int .i32 typ] 21) := ⟨_, rfl⟩
  obtain ⟨hb0, x0, x1, hsz⟩ := gt_box2 w (.pointer (some ⟨g, 0, none⟩)) (.int .i32 typ) _ _ WW hWW
  have HW := Lib.hid hb0
  obtain ⟨S, hS⟩ : ∃ S, S = Gs.size l := ⟨_, rfl⟩
  have hal : Wd.al l 8 = (S : Int) := by rw [hS]; exact gt_al hl.1 hl.2
  have HSS := Lib.hid hS
  clear hS
  have hd : decide (l < 1) = false := decide_eq_false (by omega)
  have hc1 : IntKind.i64.wrap l = l := IntWalk.i64_in _ (by omega)
  have hd8 : decide (l < 8) = false := decide_eq_false h8
  obtain ⟨lf, hlf⟩ : ∃ lf, lf = s.left := ⟨_, rfl⟩
  have hd9 : decide (lf < (S : Int)) = true := decide_eq_true (by rw [hlf, HSS.out]; exact hlt)
  have HLF := Lib.hid hlf
  have HLT := Lib.hid hlt
  clear hlf hlt
  clear h hF hb0 hblk
  go_enter Tryz.func92, Tryz.ntmps92
  go_upto_region 1 with (fail)
  rw [← hWW]
  clear hWW
  go_upto_region 5 with (go_at_call 105; refine (align_any l 8 _ (by omega) (by omega)).mono ?_; rw [hal]; rintro e wq ⟨rfl, rfl⟩)
  have hb1 := (Below.refl WW.heap.size WW).alloc (Nat.le_refl _) (.cells #[.int .i64 (S : Int)] 2)
  have x2 := rp_box WW (.int .i64 (S : Int)) 2
  have k0 := (hb1.cell (p := ⟨w.heap.size, 0, none⟩) (lt_of_cell x0)).trans x0
  have k1 := (hb1.cell (p := ⟨w.heap.size + 1, 0, none⟩) (lt_of_cell x1)).trans x1
  generalize WW.alloc (.cells #[.int .i64 (S : Int)] 2) = W at hb1 x2 k0 k1 ⊢
  have HX := Lib.hid (HW.out.trans (hb1.mono HW.out.size))
  rw [hsz] at x2
  have hl0 := lt_of_cell k0
  have hl2 := lt_of_cell x2
  have hl1 := lt_of_cell k1
  go_region_held3 (fun w' => w'.cell? ⟨w.heap.size, 0, none⟩ = some (.pointer (some ⟨g, 0, none⟩)) ∧ w'.cell? ⟨w.heap.size + 2, 0, none⟩ = some (.int .i64 (S : Int))) (go_keep)
    (first
      | (go_at_call 88; refine (gtLeft (HB.out.below HX.out.drew) HH.out.ok).mono ?_; rw [← HLF.out]; rintro e x5 ⟨rfl, hq1⟩; have hb5 := below_drew hq1; have k05 := (hb5.cell (p := ⟨w.heap.size, 0, none⟩) hl0).trans k0; have k25 := (hb5.cell (p := ⟨w.heap.size + 2, 0, none⟩) hl2).trans x2))
  all_goals
    have k15 := (hb5.cell (p := ⟨w.heap.size + 1, 0, none⟩) hl1).trans k1
    have hb2 := HX.out.trans (hb5.mono HX.out.size)
    have HB2 := Lib.hid hb2
    have hga : ¬ g = w.heap.size := by omega
    clear k0 k1 x0 x1 x2 hb5 hb1
    have c13 := (hb2.cell (p := ⟨g, 13, none⟩) hgl).trans HB.out.c13
    have f13 := (HB.out.below hb2).free 13
    have hF2 : Hid (GtBare (x5.setCell ⟨g, 13, none⟩ (.int .i64 13)) F g { s with er := 13 } M mv) := Lib.hid ((HH.out.below hb2).fault 13)
    have hT2 : Hid (Touch F w (x5.setCell ⟨g, 13, none⟩ (.int .i64 13))) := Lib.hid ((Touch.of_below hb2).trans (((Touch.refl (fun k => k = g) _).setCell (p := ⟨g, 13, none⟩) rfl _).mono fun k e => by have e : k = g := e; rw [e]; exact HH.out.own))
    have j1 := (World.cell?_setCell_far x5 ⟨g, 13, none⟩ ⟨w.heap.size, 0, none⟩ (.int .i64 13) hga).trans k05
    clear hb2
    go_upto_region 7 with (fail)
    generalize x5.setCell ⟨g, 13, none⟩ (.int .i64 13) = W2 at hF2 hT2 j1 ⊢
    go_wp2_with fail
    refine (gtDrain hF2.out fun k hk => Nat.lt_of_lt_of_le (HFL.out k hk) hT2.out.size).mono ?_
    intro e w3 hm
    have hm2 := hm.afterT hT2.out
    obtain ⟨rfl, _⟩ := hm
    have HM := Lib.hid hm2
    clear hm2
    go_wp2
    go_end0
    exact HM.out
end Go.Proofs.YtikcnioooihncaaGreat
namespace Go.Proofs.YtikcnioooihncaaGreat
open Go.RowKit

set_option maxRecDepth 100000 in
set_option maxHeartbeats 1600000 in
theorem gtTellPad {w : World} {F M : Nat → Prop} {g : Nat} {s : Gs} {mv : Value} (h : GtBare w F g s M mv) (hF : ∀ k, F k → k < w.heap.size) {l typ : Int} (hl : 1 ≤ l ∧ l ≤ 2147483647) (h8 : ¬ l < 8) (hlt : ¬ s.left < (Gs.size l : Int)) (ht : typ = -1) :
    Calls Tryz.prog 92 #[.pointer (some ⟨g, 0, none⟩), .int .i32 l, .int .i32 typ] w (GtMoved F g (s.pass (Gs.size l)) w) := by
  have HH := Lib.hid h
  have HFL := Lib.hid hF
  obtain ⟨a0, av, hblk⟩ := h.blk
  have hgl := hblk.lt
  have HB := Lib.hid hblk
  obtain ⟨WW, hWW⟩ : ∃ WW, WW = (w.alloc (.cells #[.pointer (some ⟨g, 0, none⟩)] 27)).alloc (.cells #[.int .i32 typ] 21) := ⟨_, rfl⟩
  obtain ⟨hb0, x0, x1, hsz⟩ := gt_box2 w (.pointer (some ⟨g, 0, none⟩)) (.int .i32 typ) _ _ WW hWW
  have HW := Lib.hid hb0
  obtain ⟨S, hS⟩ : ∃ S, S = Gs.size l := ⟨_, rfl⟩
  have hal : Wd.al l 8 = (S : Int) := by rw [hS]; exact gt_al hl.1 hl.2
  have HSS := Lib.hid hS
  clear hS
  have hd : decide (l < 1) = false := decide_eq_false (by omega)
  have hc1 : IntKind.i64.wrap l = l := IntWalk.i64_in _ (by omega)
  have hd8 : decide (l < 8) = false := decide_eq_false h8
  obtain ⟨lf, hlf⟩ : ∃ lf, lf = s.left := ⟨_, rfl⟩
  have hd9 : decide (lf < (S : Int)) = false := decide_eq_false (by rw [hlf, HSS.out]; exact hlt)
  have HLF := Lib.hid hlf
  have HLT := Lib.hid hlt
  clear hlf hlt
  have hdt : (typ == -1) = true := by simpa using ht
  clear ht
  clear h hF hb0 hblk
  go_enter Tryz.func92, Tryz.ntmps92
  go_upto_region 1 with (fail)
  rw [← hWW]
  clear hWW
  go_upto_region 5 with (go_at_call 105; refine (align_any l 8 _ (by omega) (by omega)).mono ?_; rw [hal]; rintro e wq ⟨rfl, rfl⟩)
  have hb1 := (Below.refl WW.heap.size WW).alloc (Nat.le_refl _) (.cells #[.int .i64 (S : Int)] 2)
  have x2 := rp_box WW (.int .i64 (S : Int)) 2
  have k0 := (hb1.cell (p := ⟨w.heap.size, 0, none⟩) (lt_of_cell x0)).trans x0
  have k1 := (hb1.cell (p := ⟨w.heap.size + 1, 0, none⟩) (lt_of_cell x1)).trans x1
  generalize WW.alloc (.cells #[.int .i64 (S : Int)] 2) = W at hb1 x2 k0 k1 ⊢
  have HX := Lib.hid (HW.out.trans (hb1.mono HW.out.size))
  rw [hsz] at x2
  have hl0 := lt_of_cell k0
  have hl2 := lt_of_cell x2
  have hl1 := lt_of_cell k1
  go_region_held3 (fun w' => w'.cell? ⟨w.heap.size, 0, none⟩ = some (.pointer (some ⟨g, 0, none⟩)) ∧ w'.cell? ⟨w.heap.size + 2, 0, none⟩ = some (.int .i64 (S : Int))) (go_keep)
    (first
      | (go_at_call 88; refine (gtLeft (HB.out.below HX.out.drew) HH.out.ok).mono ?_; rw [← HLF.out]; rintro e x5 ⟨rfl, hq1⟩; have hb5 := below_drew hq1; have k05 := (hb5.cell (p := ⟨w.heap.size, 0, none⟩) hl0).trans k0; have k25 := (hb5.cell (p := ⟨w.heap.size + 2, 0, none⟩) hl2).trans x2))
  all_goals
    have k15 := (hb5.cell (p := ⟨w.heap.size + 1, 0, none⟩) hl1).trans k1
    have hb2 := HX.out.trans (hb5.mono HX.out.size)
    have HB2 := Lib.hid hb2
    have hga : ¬ g = w.heap.size := by omega
    clear k0 k1 x0 x1 x2 hb5 hb1
    clear hb2
    have HDN := Lib.hid (show ((s.dn + S : Nat) : Int) ≤ (s.Z : Int) - Rg.place s.Z s.h by have h1 := HLT.out; have h2 := HSS.out; unfold Gs.left at h1; omega)
    go_wp2_with fail
    refine (gtPass (sz := S) ⟨(HH.out.below HB2.out).blk, HH.out.own, ⟨HH.out.ok.rg, HDN.out, HH.out.ok.m0, HH.out.ok.h0, Nat.le_trans HH.out.ok.few (Nat.le_add_right _ _)⟩, (HH.out.below HB2.out).msgs, (HH.out.below HB2.out).in_⟩ fun k hk => Nat.lt_of_lt_of_le (HFL.out k hk) HB2.out.size).mono ?_
    intro e w3 hm
    have hm2 := hm.after HB2.out
    obtain ⟨rfl, _⟩ := hm
    have HM := Lib.hid hm2
    clear hm2
    go_wp2
    go_end0
    rw [← HSS.out]
    exact HM.out
end Go.Proofs.YtikcnioooihncaaGreat
namespace Go.Proofs.YtikcnioooihncaaGreat
open Go.RowKit

set_option maxRecDepth 100000 in
set_option maxHeartbeats 1600000 in
theorem gtTellMsg {w : World} {F M : Nat → Prop} {g : Nat} {s : Gs} {mv : Value} (h : GtBare w F g s M mv) (hF : ∀ k, F k → k < w.heap.size) {l typ : Int} (hl : 1 ≤ l ∧ l ≤ 2147483647) (h8 : ¬ l < 8) (hlt : ¬ s.left < (Gs.size l : Int)) (ht : ¬ typ = -1) :
    Calls Tryz.prog 92 #[.pointer (some ⟨g, 0, none⟩), .int .i32 l, .int .i32 typ] w (GtMoved F g (s.reads typ (Gs.size l) (l - 8).toNat 0 []) w) := by
  have HH := Lib.hid h
  have HFL := Lib.hid hF
  obtain ⟨a0, av, hblk⟩ := h.blk
  have hgl := hblk.lt
  have HB := Lib.hid hblk
  obtain ⟨WW, hWW⟩ : ∃ WW, WW = (w.alloc (.cells #[.pointer (some ⟨g, 0, none⟩)] 27)).alloc (.cells #[.int .i32 typ] 21) := ⟨_, rfl⟩
  obtain ⟨hb0, x0, x1, hsz⟩ := gt_box2 w (.pointer (some ⟨g, 0, none⟩)) (.int .i32 typ) _ _ WW hWW
  have HW := Lib.hid hb0
  obtain ⟨S, hS⟩ : ∃ S, S = Gs.size l := ⟨_, rfl⟩
  have hal : Wd.al l 8 = (S : Int) := by rw [hS]; exact gt_al hl.1 hl.2
  have HSS := Lib.hid hS
  clear hS
  have hd : decide (l < 1) = false := decide_eq_false (by omega)
  have hc1 : IntKind.i64.wrap l = l := IntWalk.i64_in _ (by omega)
  have hd8 : decide (l < 8) = false := decide_eq_false h8
  obtain ⟨lf, hlf⟩ : ∃ lf, lf = s.left := ⟨_, rfl⟩
  have hd9 : decide (lf < (S : Int)) = false := decide_eq_false (by rw [hlf, HSS.out]; exact hlt)
  have HLF := Lib.hid hlf
  have HLT := Lib.hid hlt
  clear hlf hlt
  have hdt : (typ == -1) = false := by simpa using ht
  have HL := Lib.hid (And.intro hl h8)
  clear ht
  clear h hF hb0 hblk
  go_enter Tryz.func92, Tryz.ntmps92
  go_upto_region 1 with (fail)
  rw [← hWW]
  clear hWW
  go_upto_region 5 with (go_at_call 105; refine (align_any l 8 _ (by omega) (by omega)).mono ?_; rw [hal]; rintro e wq ⟨rfl, rfl⟩)
  have hb1 := (Below.refl WW.heap.size WW).alloc (Nat.le_refl _) (.cells #[.int .i64 (S : Int)] 2)
  have x2 := rp_box WW (.int .i64 (S : Int)) 2
  have k0 := (hb1.cell (p := ⟨w.heap.size, 0, none⟩) (lt_of_cell x0)).trans x0
  have k1 := (hb1.cell (p := ⟨w.heap.size + 1, 0, none⟩) (lt_of_cell x1)).trans x1
  generalize WW.alloc (.cells #[.int .i64 (S : Int)] 2) = W at hb1 x2 k0 k1 ⊢
  have HX := Lib.hid (HW.out.trans (hb1.mono HW.out.size))
  rw [hsz] at x2
  have hl0 := lt_of_cell k0
  have hl2 := lt_of_cell x2
  have hl1 := lt_of_cell k1
  go_region_held3 (fun w' => w'.cell? ⟨w.heap.size, 0, none⟩ = some (.pointer (some ⟨g, 0, none⟩)) ∧ w'.cell? ⟨w.heap.size + 2, 0, none⟩ = some (.int .i64 (S : Int))) (go_keep)
    (first
      | (go_at_call 88; refine (gtLeft (HB.out.below HX.out.drew) HH.out.ok).mono ?_; rw [← HLF.out]; rintro e x5 ⟨rfl, hq1⟩; have hb5 := below_drew hq1; have k05 := (hb5.cell (p := ⟨w.heap.size, 0, none⟩) hl0).trans k0; have k25 := (hb5.cell (p := ⟨w.heap.size + 2, 0, none⟩) hl2).trans x2))
  all_goals
    have k15 := (hb5.cell (p := ⟨w.heap.size + 1, 0, none⟩) hl1).trans k1
    have hb2 := HX.out.trans (hb5.mono HX.out.size)
    have HB2 := Lib.hid hb2
    have hga : ¬ g = w.heap.size := by omega
    clear k0 k1 x0 x1 x2 hb5 hb1
    clear hb2
    have HN := Lib.hid (show (l - 8).toNat + 8 ≤ S ∧ (S : Int) ≤ s.left ∧ 1 ≤ S by have h1 := HLT.out; have h2 := HSS.out; have h3 := HL.out; unfold Gs.size at h1 h2; omega)
    obtain ⟨n, hn⟩ : ∃ n : Nat, (n : Int) = l - 8 := ⟨(l - 8).toNat, by omega⟩
    have hnn : (l - 8).toNat = n := by omega
    have HNN := Lib.hid hnn
    have e8 : IntKind.i64.wrap (l - 8) = (n : Int) := by rw [IntWalk.i64_in _ (by omega), hn]
    have e9 : wrap64 (l - 8) = (n : Int) := by unfold wrap64; omega
    have nM : ∀ k, w.heap.size ≤ k → ¬ M k := fun k hk hm => by have := (HH.out.in_ k hm).2.2; omega
    have g0 : w.heap.size < x5.heap.size := lt_of_cell k05
    have g1 : w.heap.size + 1 < x5.heap.size := lt_of_cell k15
    have g2 : w.heap.size + 2 < x5.heap.size := lt_of_cell k25
    have HRD := Lib.hid (gtReadM (F := fun k => F k ∨ (w.heap.size ≤ k ∧ k < x5.heap.size)) ((HH.out.below HB2.out).wide fun k hk => .inl hk) (fun k hk => hk.elim (fun hk => Nat.lt_of_lt_of_le (HFL.out k hk) HB2.out.size) fun hk => hk.2) (typ := typ) (sz := S) (n := n) (a := w.heap.size) (b := w.heap.size + 1) (c := w.heap.size + 2) ⟨⟨.inr ⟨Nat.le_refl _, g0⟩, nM _ (Nat.le_refl _)⟩, by omega, k05⟩ ⟨⟨.inr ⟨by omega, g1⟩, nM _ (by omega)⟩, by omega, k15⟩ ⟨⟨.inr ⟨by omega, g2⟩, nM _ (by omega)⟩, by omega, k25⟩ (by rw [← HNN.out]; exact HN.out))
    clear hn hnn nM g0 g1 g2
    go_wp2_with fail
    refine HRD.out.mono ?_
    intro e w3 hm
    have hm2 := hm.around (Touch.of_below HB2.out) fun k hk => hk
    obtain ⟨rfl, _⟩ := hm
    have HM := Lib.hid hm2
    clear hm2
    go_wp2
    go_end0
    rw [← HSS.out, HNN.out]
    exact HM.out
end Go.Proofs.YtikcnioooihncaaGreat
namespace Go.Proofs.YtikcnioooihncaaGreat
open Go.RowKit

theorem gtTell {w : World} {F M : Nat → Prop} {g : Nat} {s : Gs} {mv : Value} (h : GtBare w F g s M mv) (hF : ∀ k, F k → k < w.heap.size) {l typ : Int} (hl : l ≤ 2147483647) :
    Calls Tryz.prog 92 #[.pointer (some ⟨g, 0, none⟩), .int .i32 l, .int .i32 typ] w (GtMoved F g (s.tell l typ) w) := by
  unfold Gs.tell
  by_cases h1 : l < 1
  · rw [if_pos h1]; exact gtTellNone h hF h1
  · rw [if_neg h1]
    by_cases h8 : l < 8
    · rw [if_pos (.inl h8)]; exact gtTellOdd1 h hF ⟨by omega, hl⟩ h8
    · by_cases hlt : s.left < (Gs.size l : Int)
      · rw [if_pos (.inr hlt)]; exact gtTellOdd2 h hF ⟨by omega, hl⟩ h8 hlt
      · rw [if_neg (by rintro (e | e) <;> contradiction)]
        by_cases ht : typ = -1
        · rw [if_pos ht]; exact gtTellPad h hF ⟨by omega, hl⟩ h8 hlt ht
        · rw [if_neg ht]
          have hm := gtTellMsg h hF ⟨by omega, hl⟩ h8 hlt ht
          unfold Gs.reads at hm
          by_cases he : l = 8
          · rw [if_pos he]
            rw [if_pos (by omega)] at hm
            exact hm
          · rw [if_neg he]
            rw [if_neg (by omega)] at hm
            exact hm

set_option maxRecDepth 100000 in
set_option maxHeartbeats 800000 in
/-- The head was told. -/
theorem gtBegin1 {w : World} {F M : Nat → Prop} {g : Nat} {s : Gs} {mv : Value} (h : GtBare w F g s M mv) (hF : ∀ k, F k → k < w.heap.size) (hd0 : s.dn = 0) {a : Nat} (ha : Capt w (fun k => F k ∧ ¬ M k) g a (.pointer (some ⟨g, 0, none⟩))) (V : Nat) (D : Bool) (A : Option Addr) (L cp : Nat) :
    Calls Tryz.prog 57 #[.agg #[.int .u64 V, .bool D, .slice A L cp], .pointer (some ⟨a, 0, none⟩)] w (GtMoved F g ({ s with h := Rs.wr V } : Gs).looks w) := by
  obtain ⟨a0, av, hblk⟩ := h.blk
  have hgl := hblk.lt
  have hb0 := (Below.refl w.heap.size w).alloc (Nat.le_refl _) (.cells #[.int .u64 V, .bool D, .slice A L cp] 25)
  have hx := Go.Deep.blk_alloc_new w (.cells #[.int .u64 V, .bool D, .slice A L cp] 25)
  have hk := (hb0.cell (p := ⟨a, 0, none⟩) (lt_of_cell ha.2.2)).trans ha.2.2
  have HH := Lib.hid h
  have HFL := Lib.hid hF
  have HW := Lib.hid hb0
  have hga : ¬ g = a := fun e => ha.2.1 e.symm
  have c10 := (hb0.cell (p := ⟨g, 10, none⟩) hgl).trans hblk.c10
  have f10 := (hblk.below hb0).free 10
  have HB := Lib.hid (hblk.below hb0)
  have HD := Lib.hid hd0
  have hm0 : s.ms.length ≤ s.dn := h.ok.few
  have HM0 := Lib.hid hm0
  obtain ⟨H, hH⟩ : ∃ H, H = Rs.wr (V : Int) := ⟨_, rfl⟩
  have e1 : IntKind.i64.wrap (V : Int) = H := by rw [hH]; exact IntWalk.i64_left _
  have e2 : wrap64 (V : Int) = H := by rw [hH]; rfl
  have HHE := Lib.hid hH
  clear h hF hb0 ha hblk hd0 hm0 hH
  go_enter Tryz.func57, Tryz.ntmps57
  go_upto_region 1 with (fail)
  generalize w.alloc (.cells #[.int .u64 V, .bool D, .slice A L cp] 25) = W at hx hk HW c10 f10 HB ⊢
  have x0 : W.cell? ⟨w.heap.size, 0, none⟩ = some (.int .u64 V) := by simp [World.cell?, hx]
  clear hx
  have k2 := (World.cell?_setCell_far W ⟨g, 10, none⟩ ⟨a, 0, none⟩ (.int .i64 H) hga).trans hk
  have HBare : Hid (GtBare (W.setCell ⟨g, 10, none⟩ (.int .i64 H)) F g { s with h := H } M mv) := Lib.hid (by
    have hb := HH.out.below HW.out
    have hT := (Touch.refl (fun k => k = g) W).setCell (p := ⟨g, 10, none⟩) rfl (.int .i64 H)
    have hpl := HH.out.ok.rg.place_in H
    refine ⟨⟨a0, av, HB.out.set 10 _ (gt_setH s H _ _ _ _)⟩, hb.own, ⟨HH.out.ok.rg, ?_, HH.out.ok.m0, by show -9223372036854775808 ≤ H ∧ H ≤ _; rw [HHE.out]; exact Rs.wr_in _, HM0.out⟩, hb.msgs.keep hT.size fun k hk => hT.block k (hb.in_ k hk).2.2 (hb.in_ k hk).2.1, fun k hk => ⟨(hb.in_ k hk).1, (hb.in_ k hk).2.1, Nat.lt_of_lt_of_le (hb.in_ k hk).2.2 hT.size⟩⟩
    show (s.dn : Int) ≤ (s.Z : Int) - Rg.place s.Z H
    rw [HD.out]
    omega)
  have HT : Hid (Touch F w (W.setCell ⟨g, 10, none⟩ (.int .i64 H))) := Lib.hid ((Touch.of_below HW.out).trans (((Touch.refl (fun k => k = g) W).setCell (p := ⟨g, 10, none⟩) rfl _).mono fun k e => by have e : k = g := e; rw [e]; exact HH.out.own))
  go_upto_region 2 with (fail)
  generalize W.setCell ⟨g, 10, none⟩ (.int .i64 H) = W2 at k2 HBare HT ⊢
  go_wp2_with fail
  refine (gtLook HBare.out fun k hk => Nat.lt_of_lt_of_le (HFL.out k hk) HT.out.size).mono ?_
  intro e w3 hm
  have hm2 := hm.afterT HT.out
  obtain ⟨rfl, _⟩ := hm
  have HM := Lib.hid hm2
  clear hm2
  go_wp2
  go_end0
  rw [← HHE.out]
  exact HM.out
end Go.Proofs.YtikcnioooihncaaGreat
namespace Go.Proofs.YtikcnioooihncaaGreat
open Go.RowKit

set_option maxRecDepth 100000 in
set_option maxHeartbeats 800000 in
theorem gtLook1 {w : World} {F M : Nat → Prop} {g : Nat} {s : Gs} {mv : Value} (h : GtBare w F g s M mv) (hF : ∀ k, F k → k < w.heap.size) {a : Nat} (ha : Capt w (fun k => F k ∧ ¬ M k) g a (.pointer (some ⟨g, 0, none⟩))) (V : Nat) (D : Bool) (A : Option Addr) (L cp : Nat) :
    Calls Tryz.prog 91 #[.agg #[.int .u64 V, .bool D, .slice A L cp], .pointer (some ⟨a, 0, none⟩)] w (GtMoved F g (s.tell (Hd.s32 V) (Hd.s32 (V / 4294967296))) w) := by
  have hb0 := (Below.refl w.heap.size w).alloc (Nat.le_refl _) (.cells #[.int .u64 V, .bool D, .slice A L cp] 25)
  have hx := Go.Deep.blk_alloc_new w (.cells #[.int .u64 V, .bool D, .slice A L cp] 25)
  have hk := (hb0.cell (p := ⟨a, 0, none⟩) (lt_of_cell ha.2.2)).trans ha.2.2
  have HW := Lib.hid hb0
  obtain ⟨l, hl⟩ : ∃ l, l = Hd.s32 (V : Int) := ⟨_, rfl⟩
  obtain ⟨typ, hty⟩ : ∃ typ, typ = Hd.s32 ((V : Int) / 4294967296) := ⟨_, rfl⟩
  have hb := Hd.s32_bounds (V : Int)
  rw [← hl] at hb
  have HT := Lib.hid (fun (X : World) (hX : Below w.heap.size w X) => gtTell (typ := typ) (h.below hX) (fun k hk => Nat.lt_of_lt_of_le (hF k hk) hX.size) hb.2)
  have HE := Lib.hid (And.intro hl hty)
  rw [← hl, ← hty]
  clear h hF hb0 ha hl hty hb
  go_enter Tryz.func91, Tryz.ntmps91
  go_upto_region 1 with (fail)
  generalize w.alloc (.cells #[.int .u64 V, .bool D, .slice A L cp] 25) = W at hx hk HW ⊢
  have x0 : W.cell? ⟨w.heap.size, 0, none⟩ = some (.int .u64 V) := by simp [World.cell?, hx]
  clear hx
  go_region_with
    (first
      | (go_at_call 93; refine (split_any V _).mono ?_; rw [← HE.out.1, ← HE.out.2]; rintro e w2 ⟨rfl, rfl⟩)
      | (go_at_call 92; refine (HT.out _ (HW.out.drew)).mono ?_; intro e w3 hm; have hm2 := hm.after HW.out.drew; have HM := Lib.hid hm2; obtain ⟨rfl, _⟩ := hm; clear hm2))
  all_goals
    go_wp2
    go_end0
    exact HM.out
end Go.Proofs.YtikcnioooihncaaGreat
namespace Go.Proofs.YtikcnioooihncaaGreat
open Go.RowKit

/-- A byte is none of a get's cells. -/
theorem gt_noByte {w : World} {g : Nat} {s : Gs} {a : Ac} {A A2 : Option Addr} {l l2 c c2 : Nat} {k : FuncId} {rc caps : Array Value} (h : GtBlk w g s a (.slice A2 l2 c2) (.func (.func k) rc caps) (.slice A l c)) (i : Nat) (v : Int) : w.cell? ⟨g, i, none⟩ ≠ some (.int .u8 v) := by
  intro e
  have h' : w.heap[g]? = some (.cells (GtCells s a (.slice A2 l2 c2) (.func (.func k) rc caps) (.slice A l c)) 73 (0, 0)) := h
  simp only [World.cell?, h'] at e
  rcases Nat.lt_or_ge i 14 with hi | hi
  · rcases (by omega : i = 0 ∨ i = 1 ∨ i = 2 ∨ i = 3 ∨ i = 4 ∨ i = 5 ∨ i = 6 ∨ i = 7 ∨ i = 8 ∨ i = 9 ∨ i = 10 ∨ i = 11 ∨ i = 12 ∨ i = 13) with h | h | h | h | h | h | h | h | h | h | h | h | h | h <;> (subst h; simp [GtCells] at e)
  · have : (GtCells s a (.slice A2 l2 c2) (.func (.func k) rc caps) (.slice A l c))[i]? = none := by
      rw [Array.getElem?_eq_none]
      simp [GtCells]
      exact hi
    simp [this] at e

theorem gt_bytes {w w' : World} {g : Nat} {s : Gs} {a : Ac} {A A2 : Option Addr} {l l2 c c2 : Nat} {k : FuncId} {rc caps : Array Value} (h : GtBlk w g s a (.slice A2 l2 c2) (.func (.func k) rc caps) (.slice A l c)) {v : Value} {xs : List Int} (hv : BytesAt w v xs) (ht : Touch (fun k => k = g) w w') : BytesAt w' v xs := by
  obtain ⟨A', c', e, hh⟩ := hv
  refine ⟨A', c', e, fun hp => ?_⟩
  obtain ⟨b, off, e1, hb, hcs⟩ := hh hp
  have hbg : b ≠ g := fun e => by
    subst e
    exact gt_noByte h _ _ (hcs 0 hp)
  exact ⟨b, off, e1, Nat.lt_of_lt_of_le hb ht.size, fun i hi => (World.cell?_of_block (w := w) (a := ⟨b, off + i, none⟩) (ht.block b hb hbg)).trans (hcs i hi)⟩

/-- What was read, and comes now, is no more than a list of bytes may be. -/
def Gs.Fits (s : Gs) (n : Nat) : Prop := ∀ typ sz m d ys, s.ph = .read typ sz m d ys → ys.length + n ≤ 1073741824

set_option maxHeartbeats 1000000 in
theorem gtStepsTake {w : World} {F : Nat → Prop} {g : Nat} {s : Gs} (h : GetAt w F g s) (hF : ∀ k, F k → k < w.heap.size) (x : An) (A : Option Addr) (l c : Nat) (hB : BytesAt w (.slice A l c) x.bs) (hfit : s.Fits x.bs.length) :
    Calls Tryz.prog 27 #[.pointer (some ⟨g, 3, none⟩), .agg #[.int .u64 x.V, .bool x.D, .slice A l c]] w (GtMoved F g (s.take x) w) := by
  obtain ⟨M, a, av, th, mv, hblk, hFg, hok, hpk, hth, hms, hin, hnx⟩ := h
  have hgl := hblk.lt
  obtain ⟨Am, cm, hmv⟩ := hms.slice
  have hkeep : ∀ W, Below w.heap.size w W → ∀ k, F k → k ≠ g → (seven W g 3 Ac.zero (.slice none 0 0) .nilFunc).heap[k]? = w.heap[k]? := fun W hW k hk hkg =>
    ((seven_touch1 W g 3 Ac.zero (.slice none 0 0) .nilFunc).block k (Nat.lt_of_lt_of_le (hF k hk) hW.size) hkg).trans (hW.block k (hF k hk))
  have hkeepM : ∀ W, Below w.heap.size w W → ∀ k, (F k ∧ ¬ M k) → k ≠ g → (seven W g 3 Ac.zero (.slice none 0 0) .nilFunc).heap[k]? = w.heap[k]? := fun W hW k hk hkg => hkeep W hW k hk.1 hkg
  have hsz : ∀ W, Below w.heap.size w W → w.heap.size ≤ (seven W g 3 Ac.zero (.slice none 0 0) .nilFunc).heap.size := fun W hW => Nat.le_trans hW.size (seven_touch1 W g 3 Ac.zero (.slice none 0 0) .nilFunc).size
  have hFW : ∀ W, Below w.heap.size w W → ∀ k, F k → k < (seven W g 3 Ac.zero (.slice none 0 0) .nilFunc).heap.size := fun W hW k hk => Nat.lt_of_lt_of_le (hF k hk) (hsz W hW)
  have hbare : ∀ W, Below w.heap.size w W → GtBare (seven W g 3 Ac.zero (.slice none 0 0) .nilFunc) F g s M mv := fun W hW =>
    ⟨⟨_, _, gt_seven (hblk.below hW) _ _ _⟩, hFg, hok, hms.keep (hsz W hW) fun k hk => hkeep W hW k (hin k hk).1 (hin k hk).2, fun k hk => ⟨(hin k hk).1, (hin k hk).2, hFW W hW k (hin k hk).1⟩⟩
  have hTF : ∀ W, Below w.heap.size w W → Touch F w (seven W g 3 Ac.zero (.slice none 0 0) .nilFunc) := fun W hW => (Touch.of_below hW).trans ((seven_touch1 W g 3 _ _ _).mono fun k hk => by have e : k = g := hk; rw [e]; exact hFg)
  have fin : ∀ {k : FuncId} {caps : Array Value} (s' : Gs) (hthv : th = .func (.func k) #[] caps) (args : Array Value) (ha : (#[] : Array Value).push (.agg #[.int .u64 x.V, .bool x.D, .slice A l c]) ++ caps = args) (he : ∀ w, (callFunc k args).run Tryz.prog w = .ok (.enter k args) w)
      (H : ∀ W, Below w.heap.size w W → Calls Tryz.prog k args (seven W g 3 Ac.zero (.slice none 0 0) .nilFunc) (GtMoved F g s' (seven W g 3 Ac.zero (.slice none 0 0) .nilFunc))),
      Calls Tryz.prog 27 #[.pointer (some ⟨g, 3, none⟩), .agg #[.int .u64 x.V, .bool x.D, .slice A l c]] w (GtMoved F g s' w) := by
    intro k caps s' hthv args ha he H
    subst hthv
    refine (stTakeYes hblk.st x.V x.D A l c (Q := fun w' => GtMoved F g s' w (.returned (.tuple #[])) w') args ha he fun W hW => (H W hW).mono fun e w' hm => ?_).mono ?_
    · have h2 := hm.afterT (hTF W hW)
      obtain ⟨rfl, _⟩ := hm
      exact ⟨rfl, h2⟩
    · rintro e w' ⟨rfl, hm⟩
      exact hm
  have hzs : ∀ W, Below w.heap.size w W → (∃ k rc caps, th = .func (.func k) rc caps) → (∃ A2 l2 c2, av = .slice A2 l2 c2) → BytesAt (seven W g 3 Ac.zero (.slice none 0 0) .nilFunc) (.slice A l c) x.bs := by
    rintro W hW ⟨k, rc, caps, e1⟩ ⟨A2, l2, c2, e2⟩
    have hb := hblk.below hW
    rw [e1, e2, hmv] at hb
    exact gt_bytes hb (hB.below hW) (seven_touch1 W g 3 _ _ _)
  have hav : ∀ b, s.next = some b → ∃ A2 l2 c2, av = .slice A2 l2 c2 := fun b hb => by
    obtain ⟨_, A2, c2, e, _⟩ := hnx b hb
    exact ⟨A2, _, c2, e⟩
  unfold GThen at hth
  unfold Gs.PhOk at hpk
  unfold Gs.Fits at hfit
  have hnext : ∀ b, s.next = some b → s.next = some b := fun _ h => h
  unfold Gs.next at hnext
  unfold Gs.take
  cases hph : s.ph with
  | head =>
    rw [hph] at hth hpk
    obtain ⟨b, e, hb⟩ := hth
    exact fin _ e _ (by simp) (fun w => by simp [go_sem]) fun W hW => gtBegin1 (hbare W hW) (hFW W hW) hpk (hb.keep (hkeepM W hW)) x.V x.D A l c
  | look =>
    rw [hph] at hth
    obtain ⟨b, e, hb⟩ := hth
    exact fin _ e _ (by simp) (fun w => by simp [go_sem]) fun W hW => gtLook1 (hbare W hW) (hFW W hW) (hb.keep (hkeepM W hW)) x.V x.D A l c
  | read typ sz n d ys =>
    rw [hph] at hth hpk
    obtain ⟨em, es, eo, er, ec, gc, base, top, v, on, e, h1, h2, h3, h4, h5, h6, h7, h8⟩ := hth
    refine fin _ e _ (by simp; rfl) (fun w => by simp [go_sem]) fun W hW => ?_
    have hz := hzs W hW ⟨_, _, _, e⟩ (hav ⟨5, s.at_ + 8 + (d : Nat), (Cy.nx (n - d) : Nat), 0, 0, []⟩ (by unfold Gs.next; rw [hph]))
    exact gtReads1 (hbare W hW) (hFW W hW) (h1.keep (hkeepM W hW)) (h2.keep (hkeepM W hW)) (h3.keep (hkeepM W hW)) (h4.keep (hkeepM W hW)) (h5.keep (hkeepM W hW)) (h6.keep (fun k hk hkg => hkeepM W hW k hk.1 hkg) fun k hk => hk)
      (h7.keep (hsz W hW) (fun k k1 k2 => hkeepM W hW k (h8 k (.inl ⟨k1, k2⟩)).1 (h8 k (.inl ⟨k1, k2⟩)).2.1) fun k k1 => hkeepM W hW k (h8 k (.inr k1)).1 (h8 k (.inr k1)).2.1) hpk.1 ⟨hpk.2.1, hpk.2.2.1, hpk.2.2.2⟩ h8 x.V x.D A l c hz (hfit _ _ _ _ _ hph)
  | zero d =>
    rw [hph] at hth hpk
    obtain ⟨em, es, eo, a1, gc, base, top, v, e, h1, h2, h3, h4, h5, h6⟩ := hth
    refine fin _ e _ (by simp; rfl) (fun w => by simp [go_sem]) fun W hW => ?_
    have hz := hzs W hW ⟨_, _, _, e⟩ (hav ⟨6, Rg.spot s.B s.Z s.h + (d : Nat), (Cy.nx (s.dn - d) : Nat), 0, 0, Mb.bl (fun _ => 0) d (Cy.nx (s.dn - d))⟩ (by unfold Gs.next; rw [hph]))
    exact gtZeros1 (hbare W hW) (hFW W hW) (h1.keep (hkeepM W hW)) (h2.keep (hkeepM W hW)) (h3.keep (hkeepM W hW)) (h4.keep (hkeepM W hW))
      (h5.keep (hsz W hW) (fun k k1 k2 => hkeepM W hW k (h6 k (.inl ⟨k1, k2⟩)).1 (h6 k (.inl ⟨k1, k2⟩)).2.1) fun k k1 => hkeepM W hW k (h6 k (.inr k1)).1 (h6 k (.inr k1)).2.1) h6 hpk x.V x.D A l c hz
  | set =>
    rw [hph] at hth
    refine fin _ hth _ (by simp) (fun w => by simp [go_sem]) fun W hW => (gtDrain11 x.V x.D A l c _).mono ?_
    rintro e w' ⟨rfl, hb⟩
    exact gt_done (((hbare W hW).below hb).withPh .fin) (Touch.of_below hb) rfl
  | fin =>
    rw [hph] at hth
    have e : th = .nilFunc := hth
    subst e
    refine (stTakeNo hblk.c9 x.V x.D A l c).mono ?_
    rintro e w' ⟨rfl, hb⟩
    exact gt_done (s := s) (M := M) (mv := mv) ⟨⟨a, av, hblk.below hb⟩, hFg, hok, hms.keep hb.size fun k hk => hb.block k (hF k (hin k hk).1), fun k hk => ⟨(hin k hk).1, (hin k hk).2, Nat.lt_of_lt_of_le (hF k (hin k hk).1) hb.size⟩⟩ (Touch.of_below hb) hph
end Go.Proofs.YtikcnioooihncaaGreat
namespace Go.Proofs.YtikcnioooihncaaGreat
open Go.RowKit

theorem seven_size (W : World) (g o : Nat) (b : Ac) (bv th : Value) : (seven W g o b bv th).heap.size = W.heap.size := by simp [seven, World.setCell]

theorem PutAt.bare {w : World} {F : Nat → Prop} {g : Nat} {s : Rs} {A : Option Addr} {L c : Nat} {a : Ac} {av th : Value} (hk : RpBlk w g s (.slice A L c) a av th) (hg : F g) (hok : s.Ok) (ht : BytesIn (fun k => F k ∧ k ≠ g) w (.slice A L c) (Mb.bl s.f 0 s.L)) (hl : L ≤ c) (hc : c ≤ 9223372036854775807) {W : World} (hW : Below w.heap.size w W) :
    RpBare (seven W g 5 Ac.zero (.slice none 0 0) .nilFunc) F g s (.slice A L c) := by
  have hL : L = s.L := by
    obtain ⟨A', c', e, _⟩ := ht
    injection e with _ e _
    rw [e, Mb.bl_length]
  subst hL
  have hT := seven_touch1 W g 5 Ac.zero (.slice none 0 0) .nilFunc
  exact ⟨⟨_, _, rp_seven (hk.below hW) _ _ _⟩, hg, hok, ⟨A, c, rfl, hl, hc⟩, (ht.below hW).keep hT.size fun k hk hlt => hT.block k hlt hk.2⟩

/-- A byte is none of a put's cells. -/
theorem rp_noByte {w : World} {g : Nat} {s : Rs} {a : Ac} {A A2 : Option Addr} {l l2 c c2 : Nat} {k : FuncId} {rc caps : Array Value} (h : RpBlk w g s (.slice A l c) a (.slice A2 l2 c2) (.func (.func k) rc caps)) (i : Nat) (v : Int) : w.cell? ⟨g, i, none⟩ ≠ some (.int .u8 v) := by
  intro e
  have h' : w.heap[g]? = some (.cells (RpCells s (.slice A l c) a (.slice A2 l2 c2) (.func (.func k) rc caps)) 99 (0, 0)) := h
  simp only [World.cell?, h'] at e
  rcases Nat.lt_or_ge i 17 with hi | hi
  · rcases (by omega : i = 0 ∨ i = 1 ∨ i = 2 ∨ i = 3 ∨ i = 4 ∨ i = 5 ∨ i = 6 ∨ i = 7 ∨ i = 8 ∨ i = 9 ∨ i = 10 ∨ i = 11 ∨ i = 12 ∨ i = 13 ∨ i = 14 ∨ i = 15 ∨ i = 16) with h | h | h | h | h | h | h | h | h | h | h | h | h | h | h | h | h <;> (subst h; simp [RpCells] at e)
  · have : (RpCells s (.slice A l c) a (.slice A2 l2 c2) (.func (.func k) rc caps))[i]? = none := by
      rw [Array.getElem?_eq_none]
      simp [RpCells]
      exact hi
    simp [this] at e

theorem rp_bytes {w w' : World} {g : Nat} {s : Rs} {a : Ac} {A A2 : Option Addr} {l l2 c c2 : Nat} {k : FuncId} {rc caps : Array Value} (h : RpBlk w g s (.slice A l c) a (.slice A2 l2 c2) (.func (.func k) rc caps)) {v : Value} {xs : List Int} (hv : BytesAt w v xs) (ht : Touch (fun k => k = g) w w') : BytesAt w' v xs := by
  obtain ⟨A', c', e, hh⟩ := hv
  refine ⟨A', c', e, fun hp => ?_⟩
  obtain ⟨b, off, e1, hb, hcs⟩ := hh hp
  have hbg : b ≠ g := fun e => by
    subst e
    exact rp_noByte h _ _ (hcs 0 hp)
  exact ⟨b, off, e1, Nat.lt_of_lt_of_le hb ht.size, fun i hi => (World.cell?_of_block (w := w) (a := ⟨b, off + i, none⟩) (ht.block b hb hbg)).trans (hcs i hi)⟩

set_option maxHeartbeats 1000000 in
theorem rpStepsTake {w : World} {F : Nat → Prop} {g : Nat} {s : Rs} (h : PutAt w F g s) (hF : ∀ k, F k → k < w.heap.size) (x : An) (hx : x.V < 18446744073709551616) (A : Option Addr) (l c : Nat) (hB : BytesAt w (.slice A l c) x.bs) :
    Calls Tryz.prog 27 #[.pointer (some ⟨g, 5, none⟩), .agg #[.int .u64 x.V, .bool x.D, .slice A l c]] w (RpMoved F g (s.take x) w) := by
  obtain ⟨Ad, Ld, cd, a, av, th, hblk, hFg, hok, htxt, hl, hc, hth, hnx⟩ := h
  have hgl := hblk.lt
  have hbare : ∀ W, Below w.heap.size w W → RpBare (seven W g 5 Ac.zero (.slice none 0 0) .nilFunc) F g s (.slice Ad Ld cd) := fun W hW => PutAt.bare hblk hFg hok htxt hl hc hW
  have hkeep : ∀ W, Below w.heap.size w W → ∀ k, F k → k ≠ g → (seven W g 5 Ac.zero (.slice none 0 0) .nilFunc).heap[k]? = w.heap[k]? := fun W hW k hk hkg =>
    ((seven_touch1 W g 5 Ac.zero (.slice none 0 0) .nilFunc).block k (Nat.lt_of_lt_of_le (hF k hk) hW.size) hkg).trans (hW.block k (hF k hk))
  have hFW : ∀ W, Below w.heap.size w W → ∀ k, F k → k < (seven W g 5 Ac.zero (.slice none 0 0) .nilFunc).heap.size := fun W hW k hk => by rw [seven_size]; exact Nat.lt_of_lt_of_le (hF k hk) hW.size
  have hTF : ∀ W, Below w.heap.size w W → Touch F w (seven W g 5 Ac.zero (.slice none 0 0) .nilFunc) := fun W hW => (Touch.of_below hW).trans ((seven_touch1 W g 5 _ _ _).mono fun k hk => by have e : k = g := hk; rw [e]; exact hFg)
  have fin : ∀ {k : FuncId} {caps : Array Value} (s' : Rs) (hthv : th = .func (.func k) #[] caps) (args : Array Value) (ha : (#[] : Array Value).push (.agg #[.int .u64 x.V, .bool x.D, .slice A l c]) ++ caps = args) (he : ∀ w, (callFunc k args).run Tryz.prog w = .ok (.enter k args) w)
      (H : ∀ W, Below w.heap.size w W → Calls Tryz.prog k args (seven W g 5 Ac.zero (.slice none 0 0) .nilFunc) (RpMoved F g s' (seven W g 5 Ac.zero (.slice none 0 0) .nilFunc))),
      Calls Tryz.prog 27 #[.pointer (some ⟨g, 5, none⟩), .agg #[.int .u64 x.V, .bool x.D, .slice A l c]] w (RpMoved F g s' w) := by
    intro k caps s' hthv args ha he H
    subst hthv
    refine (stTakeYes hblk.st x.V x.D A l c (Q := fun w' => RpMoved F g s' w (.returned (.tuple #[])) w') args ha he fun W hW => (H W hW).mono fun e w' hm => ?_).mono ?_
    · have h2 := hm.afterT (hTF W hW)
      obtain ⟨rfl, _⟩ := hm
      exact ⟨rfl, h2⟩
    · rintro e w' ⟨rfl, hm⟩
      exact hm
  unfold ThenIs at hth
  unfold Rs.take
  cases hph : s.ph with
  | ask =>
    rw [hph] at hth
    obtain ⟨b, e, hb⟩ := hth
    exact fin _ e _ (by simp) (fun w => by simp [go_sem]) fun W hW => rpBegin1 (hbare W hW) (hb.keep (hkeep W hW)).2.2 hb.2.1 x.V x.D A l c
  | tail =>
    rw [hph] at hth
    obtain ⟨b, e, hb⟩ := hth
    exact fin _ e _ (by simp) (fun w => by simp [go_sem]) fun W hW => rpTry1 (hbare W hW) (hFW W hW) (hb.keep (hkeep W hW)).2.2 hb.2.1 x.V x.D A l c
  | head1 =>
    rw [hph] at hth
    obtain ⟨b1, b2, b3, on, e, h1, h2, h3, h4⟩ := hth
    exact fin _ e _ (by simp) (fun w => by simp [go_sem]) fun W hW => rpAwait1Tail (hbare W hW) (hFW W hW) (h1.keep (hkeep W hW)) (h2.keep (hkeep W hW)) (h3.keep (hkeep W hW)) (OnIs.keep h4 (hkeep W hW) fun _ hk => hk) x.V hx x.D A l c
  | head2 gap =>
    rw [hph] at hth
    obtain ⟨b1, b2, b3, on, e, h1, h2, h3, h4⟩ := hth
    exact fin _ e _ (by simp) (fun w => by simp [go_sem]) fun W hW => rpAwait1Gap (hbare W hW) (hFW W hW) gap (h1.keep (hkeep W hW)) (h2.keep (hkeep W hW)) (h3.keep (hkeep W hW)) (OnIs.keep h4 (hkeep W hW) fun _ hk => hk) x.V hx x.D A l c
  | copy1 =>
    rw [hph] at hth
    obtain ⟨b3, on, e, h3, h4⟩ := hth
    exact fin _ e _ (by simp) (fun w => by simp [go_sem]) fun W hW => rpAwait11Tail (hbare W hW) (hFW W hW) (h3.keep (hkeep W hW)) (OnIs.keep h4 (hkeep W hW) fun _ hk => hk) x.V x.D A l c
  | copy2 gap =>
    rw [hph] at hth
    obtain ⟨b3, on, e, h3, h4⟩ := hth
    exact fin _ e _ (by simp) (fun w => by simp [go_sem]) fun W hW => rpAwait11Gap (hbare W hW) gap (h3.keep (hkeep W hW)) (OnIs.keep h4 (hkeep W hW) fun _ hk => hk) x.V x.D A l c
  | cas pad =>
    rw [hph] at hth
    obtain ⟨b1, b2, e, h1, h2⟩ := hth
    refine fin _ e _ (by simp; rfl) (fun w => by simp [go_sem]) fun W hW => ?_
    cases hD : x.D with
    | false =>
      simp only [if_true]
      exact rpClaim1No (hbare W hW) (h1.keep (hkeep W hW)) x.V A l c
    | true =>
      by_cases hp : pad = 0
      · subst hp
        simp only [if_true]
        exact rpClaim1Yes (hbare W hW) (h1.keep (hkeep W hW)) (h2.keep (hkeep W hW)) x.V A l c
      · simp only [if_neg hp]
        exact rpClaim1Pad (hbare W hW) (h1.keep (hkeep W hW)) pad hp (h2.keep (hkeep W hW)) x.V A l c
  | padd pad =>
    rw [hph] at hth
    obtain ⟨b1, e, h1⟩ := hth
    exact fin _ e _ (by simp) (fun w => by simp [go_sem]) fun W hW => rpClaim11 (hbare W hW) (h1.keep (hkeep W hW)) x.V x.D A l c
  | hdr =>
    rw [hph] at hth
    obtain ⟨b1, b2, b3, e, h1⟩ := hth
    refine fin _ e _ (by simp) (fun w => by simp [go_sem]) fun W hW => (rpWrite1 (hbare W hW) (hFW W hW) (h1.keep (hkeep W hW) fun _ hk => hk) x.V x.D A l c).mono fun e w' hm => ?_
    by_cases hz : s.L = 0
    · have := hm.1
      rw [if_pos hz.symm] at this
      simp only [if_pos hz]
      exact this
    · have := hm.1
      rw [if_neg (fun e => hz e.symm)] at this
      simp only [if_neg hz]
      exact this
  | byt d =>
    rw [hph] at hth
    obtain ⟨em, es, eo, b1, b2, b3, gc, base, top, v, e, h1, h2, h3, h4, h5, h6, h7⟩ := hth
    refine fin _ e _ (by simp; rfl) (fun w => by simp [go_sem]) fun W hW => ?_
    have hT := hTF W hW
    obtain ⟨rfl, hav⟩ := hnx ⟨6, s.spot s.p + 8 + (d : Nat), (Cy.nx (s.L - d) : Nat), 0, 0, Mb.bl s.f d (Cy.nx (s.L - d))⟩ (by unfold Rs.next; rw [hph])
    obtain ⟨Av, cv, hav, _⟩ := hav
    subst hav
    have hblkW := hblk.below hW
    rw [e] at hblkW
    exact rpFollow1 (hbare W hW) (hFW W hW) (h1.keep (hkeep W hW)) (h2.keep (hkeep W hW)) (h3.keep (hkeep W hW)) (h4.keep (hkeep W hW) fun _ hk => hk) (h5.keep hT.size (fun k k1 k2 => hkeep W hW k (h6 k (.inl ⟨k1, k2⟩)).1 (h6 k (.inl ⟨k1, k2⟩)).2.1) fun k k1 => hkeep W hW k (h6 k (.inr k1)).1 (h6 k (.inr k1)).2.1) h6 h7 x.V x.D A l c
      (rp_bytes (k := 139) (rc := #[]) (caps := _) hblkW (hB.below hW) (seven_touch1 W g 5 _ _ _))
  | len =>
    rw [hph] at hth
    exact fin _ hth _ (by simp) (fun w => by simp [go_sem]) fun W hW => rpWrite111 (hbare W hW) x.V x.D A l c
  | fin =>
    rw [hph] at hth
    have e : th = .nilFunc := hth
    subst e
    refine (stTakeNo hblk.c11 x.V x.D A l c).mono ?_
    rintro e w' ⟨rfl, hb⟩
    refine ⟨rfl, F, ⟨Ad, Ld, cd, a, av, _, hblk.below hb, hFg, hok, htxt.below hb, hl, hc, ?_, fun b hb' => ?_⟩, Touch.of_below hb, fun k hk => .inl hk⟩
    · unfold ThenIs
      rw [hph]
    · unfold Rs.next at hb'
      rw [hph] at hb'
      cases hb'
end Go.Proofs.YtikcnioooihncaaGreat
namespace Go.Proofs.YtikcnioooihncaaGreat
open Go.RowKit

/-- A put: one that goes on, or one that never began (its ring's size, its fault). -/
inductive Pm where
  | live (s : Rs) | dead (Z er : Int)
namespace Pm
def next : Pm → Option Ac
  | .live s => s.next
  | .dead _ _ => none
def take : Pm → An → Pm
  | .live s, x => .live (s.take x)
  | .dead Z er, _ => .dead Z er
def busy : Pm → Bool
  | .live s => s.next.isSome
  | .dead _ _ => false
def size : Pm → Int
  | .live s => s.Z
  | .dead Z _ => Z
def fault : Pm → Int
  | .live s => s.er
  | .dead _ er => er
def pos : Pm → Int
  | .live s => s.p
  | .dead _ _ => 0
def has : Pm → Bool
  | .live s => s.cl
  | .dead _ _ => false
/-- How it ended: a position, an error. -/
def result (m : Pm) : Int × Int := if m.size = 0 then (0, 1) else if m.busy = true then (0, 10) else if m.fault = 0 then (m.pos, 0) else (0, m.fault)
end Pm

/-- The cells of a put that never began. -/
def PxCells (B Z er : Int) : Array Value :=
  #[.int .i64 B, .int .i64 Z, .int .i32 0, .slice none 0 0, .int .i64 0, .int .i64 0, .int .i64 0, .int .i64 0, .int .u64 0, .int .u64 0, .slice none 0 0, .nilFunc, .int .i64 0, .int .i64 0, .int .i64 0, .bool false, .int .i64 er]
/-- A put stands in the blocks F, its own block is g. -/
def PmAt (w : World) (F : Nat → Prop) (g : Nat) : Pm → Prop
  | .live s => PutAt w F g s
  | .dead Z er => F g ∧ ∃ B, w.heap[g]? = some (.cells (PxCells B Z er) 99 (0, 0))

/-- What a call on a put leaves. -/
def PmMoved (F : Nat → Prop) (g : Nat) (m : Pm) (w : World) (e : Ending) (w' : World) : Prop :=
  e = .returned (.tuple #[]) ∧ ∃ F', PmAt w' F' g m ∧ Touch F w w' ∧ ∀ k, F' k → F k ∨ (w.heap.size ≤ k ∧ k < w'.heap.size)

theorem PutAt.below {w w' : World} {F : Nat → Prop} {g : Nat} {s : Rs} (h : PutAt w F g s) (hs : w.heap.size ≤ w'.heap.size) (hb : ∀ k, F k → w'.heap[k]? = w.heap[k]?) : PutAt w' F g s := by
  obtain ⟨A, L, c, a, av, th, h1, h2, h3, h4, h5, h6, h7, h8⟩ := h
  have hg := hb g h2
  have hc : ∀ {a : Nat} {v : Value}, Capt w F g a v → Capt w' F g a v := fun h => h.keep fun k hk _ => hb k hk
  have ho : ∀ {o : Option Int} {v : Value}, OnIs w F g o v → OnIs w' F g o v := fun h => OnIs.keep h (fun k hk _ => hb k hk) fun _ hk => hk
  refine ⟨A, L, c, a, av, th, h1.of_block hg, h2, h3, h4.keep hs fun k hk _ => hb k hk.1, h5, h6, ?_, fun b hb' => ⟨(h8 b hb').1, (h8 b hb').2.keep hs fun k hk _ => hb k hk.1⟩⟩
  unfold ThenIs at h7 ⊢
  cases hph : s.ph with
  | ask => rw [hph] at h7; obtain ⟨a, e, h⟩ := h7; exact ⟨a, e, hc h⟩
  | tail => rw [hph] at h7; obtain ⟨a, e, h⟩ := h7; exact ⟨a, e, hc h⟩
  | head1 => rw [hph] at h7; obtain ⟨a, b, c, on, e, k1, k2, k3, k4⟩ := h7; exact ⟨a, b, c, on, e, hc k1, hc k2, hc k3, ho k4⟩
  | head2 gap => rw [hph] at h7; obtain ⟨a, b, c, on, e, k1, k2, k3, k4⟩ := h7; exact ⟨a, b, c, on, e, hc k1, hc k2, hc k3, ho k4⟩
  | copy1 => rw [hph] at h7; obtain ⟨c, on, e, k3, k4⟩ := h7; exact ⟨c, on, e, hc k3, ho k4⟩
  | copy2 gap => rw [hph] at h7; obtain ⟨c, on, e, k3, k4⟩ := h7; exact ⟨c, on, e, hc k3, ho k4⟩
  | cas pad => rw [hph] at h7; obtain ⟨a, b, e, k1, k2⟩ := h7; exact ⟨a, b, e, hc k1, hc k2⟩
  | padd pad => rw [hph] at h7; obtain ⟨a, e, k1⟩ := h7; exact ⟨a, e, hc k1⟩
  | hdr => rw [hph] at h7; obtain ⟨a, b, c, e, k1, k2, k3⟩ := h7; exact ⟨a, b, c, e, hc k1, hc k2, hc k3⟩
  | byt d =>
    rw [hph] at h7
    obtain ⟨em, es, eo, b1, b2, b3, gc, base, top, v, e, k1, k2, k3, ⟨k4, k5, k6⟩, k7, k8, k9⟩ := h7
    exact ⟨em, es, eo, b1, b2, b3, gc, base, top, v, e, hc k1, hc k2, hc k3, ⟨hc k4, hc k5, hc k6⟩, k7.keep hs (fun k x y => hb k (k8 k (.inl ⟨x, y⟩)).1) fun k x => hb k (k8 k (.inr x)).1, k8, k9⟩
  | len => rw [hph] at h7; exact h7
  | fin => rw [hph] at h7; exact h7

theorem PutAt.wide {w : World} {F F' : Nat → Prop} {g : Nat} {s : Rs} (h : PutAt w F g s) (hF : ∀ k, F k → F' k) : PutAt w F' g s := by
  obtain ⟨A, L, c, a, av, th, h1, h2, h3, h4, h5, h6, h7, h8⟩ := h
  have hc : ∀ {a : Nat} {v : Value}, Capt w F g a v → Capt w F' g a v := fun h => h.mono hF
  have ho : ∀ {o : Option Int} {v : Value}, OnIs w F g o v → OnIs w F' g o v := fun h => OnIs.keep h (fun k hk _ => rfl) hF
  refine ⟨A, L, c, a, av, th, h1, hF g h2, h3, h4.mono fun k hk _ => ⟨hF k hk.1, hk.2⟩, h5, h6, ?_, fun b hb' => ⟨(h8 b hb').1, (h8 b hb').2.mono fun k hk _ => ⟨hF k hk.1, hk.2⟩⟩⟩
  unfold ThenIs at h7 ⊢
  cases hph : s.ph with
  | ask => rw [hph] at h7; obtain ⟨a, e, h⟩ := h7; exact ⟨a, e, hc h⟩
  | tail => rw [hph] at h7; obtain ⟨a, e, h⟩ := h7; exact ⟨a, e, hc h⟩
  | head1 => rw [hph] at h7; obtain ⟨a, b, c, on, e, k1, k2, k3, k4⟩ := h7; exact ⟨a, b, c, on, e, hc k1, hc k2, hc k3, ho k4⟩
  | head2 gap => rw [hph] at h7; obtain ⟨a, b, c, on, e, k1, k2, k3, k4⟩ := h7; exact ⟨a, b, c, on, e, hc k1, hc k2, hc k3, ho k4⟩
  | copy1 => rw [hph] at h7; obtain ⟨c, on, e, k3, k4⟩ := h7; exact ⟨c, on, e, hc k3, ho k4⟩
  | copy2 gap => rw [hph] at h7; obtain ⟨c, on, e, k3, k4⟩ := h7; exact ⟨c, on, e, hc k3, ho k4⟩
  | cas pad => rw [hph] at h7; obtain ⟨a, b, e, k1, k2⟩ := h7; exact ⟨a, b, e, hc k1, hc k2⟩
  | padd pad => rw [hph] at h7; obtain ⟨a, e, k1⟩ := h7; exact ⟨a, e, hc k1⟩
  | hdr => rw [hph] at h7; obtain ⟨a, b, c, e, k1, k2, k3⟩ := h7; exact ⟨a, b, c, e, hc k1, hc k2, hc k3⟩
  | byt d =>
    rw [hph] at h7
    obtain ⟨em, es, eo, b1, b2, b3, gc, base, top, v, e, k1, k2, k3, ⟨k4, k5, k6⟩, k7, k8, k9⟩ := h7
    exact ⟨em, es, eo, b1, b2, b3, gc, base, top, v, e, hc k1, hc k2, hc k3, ⟨hc k4, hc k5, hc k6⟩, k7, fun k hk => ⟨hF k (k8 k hk).1, (k8 k hk).2⟩, k9⟩
  | len => rw [hph] at h7; exact h7
  | fin => rw [hph] at h7; exact h7

theorem PmAt.keep {w w' : World} {F : Nat → Prop} {g : Nat} {m : Pm} (h : PmAt w F g m) (hs : w.heap.size ≤ w'.heap.size) (hb : ∀ k, F k → w'.heap[k]? = w.heap[k]?) : PmAt w' F g m := by
  cases m with
  | live s => exact PutAt.below h hs hb
  | dead Z er =>
    obtain ⟨h1, B, h2⟩ := h
    exact ⟨h1, B, (hb g h1).trans h2⟩
theorem PmAt.wide {w : World} {F F' : Nat → Prop} {g : Nat} {m : Pm} (h : PmAt w F g m) (hF : ∀ k, F k → F' k) : PmAt w F' g m := by
  cases m with
  | live s => exact PutAt.wide h hF
  | dead Z er =>
    obtain ⟨h1, B, h2⟩ := h
    exact ⟨hF g h1, B, h2⟩

/-- Something goes on where, and only where, there is a next access. -/
theorem PutAt.thenIs {w : World} {F : Nat → Prop} {g : Nat} {s : Rs} {dv th : Value} (h : ThenIs w F g s dv th) : (s.next = none ∧ th = .nilFunc) ∨ (s.next ≠ none ∧ ∃ k rc caps, th = .func (.func k) rc caps) := by
  unfold ThenIs at h
  unfold Rs.next
  cases hph : s.ph with
  | fin => rw [hph] at h; exact .inl ⟨rfl, h⟩
  | len => rw [hph] at h; exact .inr ⟨by simp, _, _, _, h⟩
  | ask => rw [hph] at h; obtain ⟨_, e, _⟩ := h; exact .inr ⟨by simp, _, _, _, e⟩
  | tail => rw [hph] at h; obtain ⟨_, e, _⟩ := h; exact .inr ⟨by simp, _, _, _, e⟩
  | head1 => rw [hph] at h; obtain ⟨_, _, _, _, e, _⟩ := h; exact .inr ⟨by simp, _, _, _, e⟩
  | head2 gap => rw [hph] at h; obtain ⟨_, _, _, _, e, _⟩ := h; exact .inr ⟨by simp, _, _, _, e⟩
  | copy1 => rw [hph] at h; obtain ⟨_, _, e, _⟩ := h; exact .inr ⟨by simp, _, _, _, e⟩
  | copy2 gap => rw [hph] at h; obtain ⟨_, _, e, _⟩ := h; exact .inr ⟨by simp, _, _, _, e⟩
  | cas pad => rw [hph] at h; obtain ⟨_, _, e, _⟩ := h; exact .inr ⟨by simp, _, _, _, e⟩
  | padd pad => rw [hph] at h; obtain ⟨_, e, _⟩ := h; exact .inr ⟨by simp, _, _, _, e⟩
  | hdr => rw [hph] at h; obtain ⟨_, _, _, e, _⟩ := h; exact .inr ⟨by simp, _, _, _, e⟩
  | byt d => rw [hph] at h; obtain ⟨_, _, _, _, _, _, _, _, _, _, e, _⟩ := h; exact .inr ⟨by simp, _, _, _, e⟩
end Go.Proofs.YtikcnioooihncaaGreat
