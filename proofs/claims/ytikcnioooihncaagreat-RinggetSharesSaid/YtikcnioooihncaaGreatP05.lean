/-
  Layer 7's put, walked: it waits for room, and chooses.
  Layer 7's put, walked: what goes on from an answer.
  Layer 7's put, walked: what goes on where room was waited for.
  Layer 7's put, walked: the message's writing begins.
  Layer 7's put, walked: behind the padding's header the message is written; behind the length nothing goes on.
  Layer 7's put, walked: the bytes are stored: the length.
  Layer 7's put, walked: what the claim was told.
  Layer 7's put, walked: the claim moved the tail over padding.
  Layer 7's put, walked: its bytes are followed, part by part; then comes the length.
  Layer 7's put, walked: the header was stored, or a part of the bytes: the bytes are followed.
  Layer 7's put takes an answer, whatever phase it is in.
-/
import Derived.Test.YtikcnioooihncaaGreatP04
import Derived.Deep.CutRange
import Derived.Deep.DeepCutAuto
namespace Go.Proofs.YtikcnioooihncaaGreat
open Go.RowKit

theorem RpMoved.after {F : Nat → Prop} {g : Nat} {s : Rs} {w W : World} {e : Ending} {w' : World} (h : RpMoved F g s W e w') (hb : Below w.heap.size w W) : RpMoved F g s w e w' := by
  obtain ⟨he, F', hp, ht, hF⟩ := h
  exact ⟨he, F', hp, (Touch.of_below hb).trans ht, fun k hk => (hF k hk).imp id fun h => ⟨Nat.le_trans hb.size h.1, h.2⟩⟩

theorem Capt.below {w w' : World} {F : Nat → Prop} {g a : Nat} {v : Value} (h : Capt w F g a v) (hb : Below w.heap.size w w') : Capt w' F g a v := ⟨h.1, h.2.1, (hb.cell (p := ⟨a, 0, none⟩) (lt_of_cell h.2.2)).trans h.2.2⟩

theorem da_size (w : World) (q : Obj) : (w.alloc q).drew.heap.size = w.heap.size + 1 := by show (w.alloc q).heap.size = _; simp
theorem da_below (w : World) (q : Obj) : Below w.heap.size w (w.alloc q).drew := ((Below.refl w.heap.size w).alloc (Nat.le_refl _) q).drew
theorem rp_free (w : World) (v : Value) (T : TypeId) : (w.alloc (.cells #[v] T)).frozen? ⟨w.heap.size, 0, none⟩ = false := by
  have h := Go.Deep.blk_alloc_new w (.cells #[v] T)
  unfold World.frozen?
  simp only [h]
  rfl

set_option maxRecDepth 100000 in
theorem rpChooseOn {w : World} {F : Nat → Prop} {g : Nat} {s : Rs} {dv : Value} (h : RpBare w F g s dv) (gap : Int) {a b : Nat} (ha : w.cell? ⟨a, 0, none⟩ = some (.pointer (some ⟨g, 0, none⟩))) (hb : w.cell? ⟨b, 0, none⟩ = some (.int .i64 gap)) :
    Calls Tryz.prog 136 #[.pointer (some ⟨a, 0, none⟩), .pointer (some ⟨b, 0, none⟩)] w (RpMoved F g { s with ph := .cas gap } w) := by
  have HC := Lib.hid (rpClaim h gap)
  clear h
  go_enter Tryz.func136, Tryz.ntmps136
  go_wp2_with (go_at_call 134; refine HC.out.mono ?_; intro e w2 hm; have HM := Lib.hid hm; obtain ⟨rfl, _⟩ := hm)
  go_end0
  exact HM.out

set_option maxRecDepth 100000 in
set_option maxHeartbeats 1000000 in
/-- Waiting for room at the ring's beginning. -/
theorem rpAwaitGap {w : World} {F : Nat → Prop} {g : Nat} {s : Rs} {dv : Value} (h : RpBare w F g s dv) (hF : ∀ k, F k → k < w.heap.size) (gap : Int) {a b : Nat} (ha : Capt w F g a (.pointer (some ⟨g, 0, none⟩))) (hb' : Capt w F g b (.int .i64 gap)) :
    Calls Tryz.prog 108 #[.pointer (some ⟨g, 0, none⟩), .func (.func 135) #[.pointer (some ⟨g, 0, none⟩)] #[], .func (.func 136) #[] #[.pointer (some ⟨a, 0, none⟩), .pointer (some ⟨b, 0, none⟩)]] w (RpMoved F g (if s.ahead = true then { s with ph := .cas gap } else { s with ph := .head2 gap }) w) := by
  obtain ⟨a0, av, hblk⟩ := h.blk
  have hgl := hblk.lt
  have HH := Lib.hid h
  have HB := Lib.hid hblk
  obtain ⟨WW, hWW⟩ : ∃ WW, WW = ((w.alloc (.cells #[.pointer (some ⟨g, 0, none⟩)] 58)).alloc (.cells #[.func (.func 135) #[.pointer (some ⟨g, 0, none⟩)] #[]] 26)).alloc (.cells #[.func (.func 136) #[] #[.pointer (some ⟨a, 0, none⟩), .pointer (some ⟨b, 0, none⟩)]] 1) := ⟨_, rfl⟩
  obtain ⟨hw3, x0, x1, x2, hsz⟩ := rp_boxes w (.pointer (some ⟨g, 0, none⟩)) (.func (.func 135) #[.pointer (some ⟨g, 0, none⟩)] #[]) (.func (.func 136) #[] #[.pointer (some ⟨a, 0, none⟩), .pointer (some ⟨b, 0, none⟩)]) _ _ _ WW hWW
  have HW := Lib.hid hw3
  obtain ⟨s', hs'⟩ : ∃ s' : Rs, s' = (if s.ahead = true then { s with ph := .cas gap } else { s with ph := .head2 gap }) := ⟨_, rfl⟩
  rw [← hs']
  have HSS := Lib.hid hs'
  clear hs'
  have HA := Lib.hid (And.intro ha hb')
  have HFL := Lib.hid hF
  clear hF
  clear h hblk hw3 ha hb'
  go_enter Tryz.func108, Tryz.ntmps108
  go_upto_region 1 with (fail)
  rw [← hWW]
  clear hWW
  have hga : ¬ w.heap.size = g := by omega
  have hgb : ¬ w.heap.size + 1 = g := by omega
  have hgc : ¬ w.heap.size + 2 = g := by omega
  have hl0 : w.heap.size < WW.heap.size := by omega
  have hl1 : w.heap.size + 1 < WW.heap.size := by omega
  have hl2 : w.heap.size + 2 < WW.heap.size := by omega
  clear hsz
  cases hf : s.ahead with
  | true =>
    have HF := Lib.hid hf
    clear hf
    go_wp2_with (first
      | (go_at_call 136; refine (rpChooseOn (HH.out.below hb2) gap (HA.out.1.below hb2).2.2 (HA.out.2.below hb2).2.2).mono ?_; intro e w3 hm; have HM := Lib.hid hm; obtain ⟨rfl, _⟩ := hm)
      | (go_at_call 135; refine (rpAhead (HB.out.below HW.out) HH.out.ok).mono ?_; rintro e w2 ⟨rfl, hb⟩; rw [HF.out]; have hb2 := HW.out.trans (hb.mono HW.out.size); have k0 := (hb.cell (p := ⟨w.heap.size, 0, none⟩) hl0).trans x0; have k2 := (hb.cell (p := ⟨w.heap.size + 2, 0, none⟩) hl2).trans x2))
    go_end0
    have hss := HSS.out
    rw [if_pos HF.out] at hss
    rw [hss]
    exact HM.out.after hb2
  | false =>
    have HF := Lib.hid hf
    clear hf
    go_upto_region 3 with (go_at_call 135; refine (rpAhead (HB.out.below HW.out) HH.out.ok).mono ?_; rintro e w2 ⟨rfl, hb⟩; rw [HF.out])
    have hb2 := HW.out.trans (hb.mono HW.out.size)
    have y0 := (hb.cell (p := ⟨w.heap.size, 0, none⟩) hl0).trans x0
    have y1 := (hb.cell (p := ⟨w.heap.size + 1, 0, none⟩) hl1).trans x1
    have y2 := (hb.cell (p := ⟨w.heap.size + 2, 0, none⟩) hl2).trans x2
    have hs2 := hb.size
    have HB2 := Lib.hid hb2
    clear hb hb2 x0 x1 x2
    have hl0 : w.heap.size < w2.heap.size := by omega
    have hl1 : w.heap.size + 1 < w2.heap.size := by omega
    have hl2 : w.heap.size + 2 < w2.heap.size := by omega
    have c0 := (HB2.out.cell (p := ⟨g, 0, none⟩) hgl).trans HB.out.c0
    have c1 := (HB2.out.cell (p := ⟨g, 1, none⟩) hgl).trans HB.out.c1
    have hgW : g < w2.heap.size := Nat.lt_of_lt_of_le hgl HB2.out.size
    go_region_held3 (fun w' => w'.cell? ⟨w.heap.size, 0, none⟩ = some (.pointer (some ⟨g, 0, none⟩)) ∧ w'.cell? ⟨w.heap.size + 1, 0, none⟩ = some (.func (.func 135) #[.pointer (some ⟨g, 0, none⟩)] #[]) ∧ w'.cell? ⟨w.heap.size + 2, 0, none⟩ = some (.func (.func 136) #[] #[.pointer (some ⟨a, 0, none⟩), .pointer (some ⟨b, 0, none⟩)]) ∧ w'.cell? ⟨g, 0, none⟩ = some (.int .i64 s.B) ∧ w'.cell? ⟨g, 1, none⟩ = some (.int .i64 s.Z)) (go_keep)
      (first
        | (go_at_call 54; refine (rpDo (HB.out.below hbl) ⟨1, s.num 16, 8, 0, 0, []⟩ none 0 0 132 #[] #[.pointer (some ⟨w.heap.size, 0, none⟩), .pointer (some ⟨w.heap.size + 1, 0, none⟩), .pointer (some ⟨w.heap.size + 2, 0, none⟩)]).mono ?_; intro e wd has; have HAS := Lib.hid has; obtain ⟨rfl, hblkd, htd⟩ := has; have kd := (htd.cell (p := ⟨w.heap.size, 0, none⟩) (lt_of_cell k2) hga).trans k2; have md := (htd.cell (p := ⟨w.heap.size + 1, 0, none⟩) (lt_of_cell m2) hgb).trans m2; have nd := (htd.cell (p := ⟨w.heap.size + 2, 0, none⟩) (lt_of_cell n2) hgc).trans n2; have o0d := hblkd.c0; have o1d := hblkd.c1; clear hblkd)
        | (go_at_call 55; refine (stLoad (s.num 16) _).mono ?_; rintro e x2 ⟨rfl, hq2⟩; have hb2 := hb1.trans (hq2.mono hb1.size); have k2 := (hb2.cell (p := ⟨w.heap.size, 0, none⟩) hl0).trans y0; have m2 := (hb2.cell (p := ⟨w.heap.size + 1, 0, none⟩) hl1).trans y1; have n2 := (hb2.cell (p := ⟨w.heap.size + 2, 0, none⟩) hl2).trans y2; have o02 := (hb2.cell (p := ⟨g, 0, none⟩) hgW).trans c0; have o12 := (hb2.cell (p := ⟨g, 1, none⟩) hgW).trans c1; have hbl := HB2.out.trans (hb2.mono HB2.out.size))
        | (go_at_call 56; refine (rpHeadC HH.out.ok _).mono ?_; rintro e x1 ⟨rfl, hq1⟩; have hb1 := below_drew hq1; have k1 := (hb1.cell (p := ⟨w.heap.size, 0, none⟩) hl0).trans y0; have m1 := (hb1.cell (p := ⟨w.heap.size + 1, 0, none⟩) hl1).trans y1; have n1 := (hb1.cell (p := ⟨w.heap.size + 2, 0, none⟩) hl2).trans y2; have o01 := (hb1.cell (p := ⟨g, 0, none⟩) hgW).trans c0; have o11 := (hb1.cell (p := ⟨g, 1, none⟩) hgW).trans c1))
    all_goals
      go_wp2
      go_end0
      have hss := HSS.out
      rw [if_neg (by rw [HF.out]; decide)] at hss
      rw [hss]
      refine rp_asked (s' := { s with ph := .head2 gap }) HH.out rfl hbl rfl HAS.out (BytesIn.none _ _) fun w5 hk => ?_
      have hl3 : w.heap.size < x2.heap.size := lt_of_cell k2
      have hm3 : w.heap.size + 1 < x2.heap.size := lt_of_cell m2
      have hn3 : w.heap.size + 2 < x2.heap.size := lt_of_cell n2
      refine ⟨w.heap.size, w.heap.size + 1, w.heap.size + 2, _, rfl, ⟨.inr ⟨Nat.le_refl _, hl3⟩, hga, (World.cell?_of_block (w := x2) (a := ⟨w.heap.size, 0, none⟩) (hk _ hga hl3)).trans k2⟩, ⟨.inr ⟨by omega, hm3⟩, hgb, (World.cell?_of_block (w := x2) (a := ⟨w.heap.size + 1, 0, none⟩) (hk _ hgb hm3)).trans m2⟩, ⟨.inr ⟨by omega, hn3⟩, hgc, (World.cell?_of_block (w := x2) (a := ⟨w.heap.size + 2, 0, none⟩) (hk _ hgc hn3)).trans n2⟩, ?_⟩
      have hk5 : ∀ k, F k → k ≠ g → w5.heap[k]? = x2.heap[k]? := fun k hk' hkg => hk k hkg (Nat.lt_of_lt_of_le (HFL.out k hk') hbl.size)
      exact ⟨a, b, rfl, ((HA.out.1.below hbl).keep fun k hk hkg => hk5 k hk hkg).mono fun k hk => .inl hk, ((HA.out.2.below hbl).keep fun k hk hkg => hk5 k hk hkg).mono fun k hk => .inl hk⟩

theorem RpBare.wide {w : World} {F F' : Nat → Prop} {g : Nat} {s : Rs} {dv : Value} (h : RpBare w F g s dv) (hF : ∀ k, F k → F' k) : RpBare w F' g s dv := ⟨h.blk, hF g h.own, h.ok, h.dat, h.txt.mono fun k hk _ => ⟨hF k hk.1, hk.2⟩⟩
theorem RpMoved.narrow {F F2 : Nat → Prop} {g : Nat} {s : Rs} {w W : World} {e : Ending} {w' : World} (h : RpMoved F2 g s W e w') (hb : Below w.heap.size w W) (hF : ∀ k, F2 k → F k ∨ (w.heap.size ≤ k ∧ k < W.heap.size)) : RpMoved F g s w e w' := by
  obtain ⟨he, F', hp, ht, hF'⟩ := h
  refine ⟨he, F', hp, ⟨ht.os.trans hb.os, ht.tape.trans hb.tape, ht.output.trans hb.output, Nat.le_trans hb.size ht.size, fun k hk hn => (ht.block k (Nat.lt_of_lt_of_le hk hb.size) fun e => ?_).trans (hb.block k hk)⟩, fun k hk => ?_⟩
  · rcases hF k e with e | e
    · exact hn e
    · omega
  · rcases hF' k hk with e | e
    · exact (hF k e).imp id fun e => ⟨e.1, Nat.lt_of_lt_of_le e.2 ht.size⟩
    · exact .inr ⟨Nat.le_trans hb.size e.1, e.2⟩

theorem RpBare.lt {w : World} {F : Nat → Prop} {g : Nat} {s : Rs} {dv : Value} (h : RpBare w F g s dv) : g < w.heap.size := by
  obtain ⟨a, av, hk⟩ := h.blk
  exact hk.lt

set_option maxRecDepth 100000 in
set_option maxHeartbeats 1000000 in
theorem rpChoose {w : World} {F : Nat → Prop} {g : Nat} {s : Rs} {dv : Value} (h : RpBare w F g s dv) (hF : ∀ k, F k → k < w.heap.size) :
    Calls Tryz.prog 110 #[.pointer (some ⟨g, 0, none⟩)] w (RpMoved F g s.choose w) := by
  obtain ⟨a0, av, hblk⟩ := h.blk
  have hgl := hblk.lt
  have HH := Lib.hid h
  have hb0 := (Below.refl w.heap.size w).alloc (Nat.le_refl _) (.cells #[.pointer (some ⟨g, 0, none⟩)] 58)
  have hbox := rp_box w (.pointer (some ⟨g, 0, none⟩)) 58
  have hsz : (w.alloc (.cells #[.pointer (some ⟨g, 0, none⟩)] 58)).heap.size = w.heap.size + 1 := by simp
  have HB := Lib.hid (hblk.below hb0)
  have HW := Lib.hid hb0
  obtain ⟨s', hs'⟩ : ∃ s' : Rs, s' = s.choose := ⟨_, rfl⟩
  rw [← hs']
  have HSS := Lib.hid hs'
  have HFL := Lib.hid hF
  have hz := h.ok.place_in s.t
  have hz1 := h.ok.z1
  have he1 : IntKind.i64.wrap ((s.Z : Int) - s.place s.t) = s.gap := IntWalk.i64_in _ (by omega)
  have HE := Lib.hid he1
  clear hs' h hblk hb0 hF hz hz1 he1
  go_enter Tryz.func110, Tryz.ntmps110
  go_upto_region 1 with (fail)
  generalize w.alloc (.cells #[.pointer (some ⟨g, 0, none⟩)] 58) = W at hbox HW hsz HB ⊢
  have hga : ¬ w.heap.size = g := by omega
  have hgW : g < W.heap.size := by omega
  have hla : w.heap.size < W.heap.size := by omega
  clear hsz
  have c0 := HB.out.c0
  have c1 := HB.out.c1
  have c6 := HB.out.c13
  have y0 := World.new_ne W ⟨w.heap.size, 0, none⟩ hbox
  have y1 := World.new_ne W ⟨g, 1, none⟩ c1
  have y6 := World.new_ne W ⟨g, 13, none⟩ c6
  have yz := World.new_ne W ⟨g, 0, none⟩ c0
  have hee : IntKind.i64.wrap ((s.Z : Int) - s.place s.t) = s.gap := HE.out
  go_cut [2] (fun v wx => ∃ b, v = .pointer (some ⟨b, 0, none⟩) ∧ Below W.heap.size W wx ∧ W.heap.size ≤ b ∧ wx.cell? ⟨b, 0, none⟩ = some (.int .i64 s.gap))
  case first =>
    go_region_held3 (fun w' => w'.cell? ⟨w.heap.size, 0, none⟩ = some (.pointer (some ⟨g, 0, none⟩)) ∧ w'.cell? ⟨g, 0, none⟩ = some (.int .i64 s.B) ∧ w'.cell? ⟨g, 1, none⟩ = some (.int .i64 s.Z) ∧ w'.cell? ⟨g, 13, none⟩ = some (.int .i64 s.t)) (go_keep)
      (first
        | (go_at_call 117; refine (rpPlaceC HH.out.ok s.t (W.alloc (.cells #[.int .i64 0] 2)).drew).mono ?_; rintro e w2 ⟨rfl, hb⟩; have hb2 : Below W.heap.size W w2 := (da_below W _).trans (hb.mono (by rw [da_size]; omega)); have hnb := (hb.cell (p := ⟨W.heap.size, 0, none⟩) (by rw [da_size]; show W.heap.size < _; omega)).trans (show (W.alloc (.cells #[.int .i64 0] 2)).drew.cell? ⟨W.heap.size, 0, none⟩ = some (.int .i64 0) from rp_box W _ _); have hnf : w2.frozen? ⟨W.heap.size, 0, none⟩ = false := (hb.frozen (p := ⟨W.heap.size, 0, none⟩) (by rw [da_size]; show W.heap.size < _; omega)).trans (show (W.alloc (.cells #[.int .i64 0] 2)).drew.frozen? ⟨W.heap.size, 0, none⟩ = false from rp_free W _ _); have k0 := (hb2.cell (p := ⟨w.heap.size, 0, none⟩) hla).trans hbox; have k1 := (hb2.cell (p := ⟨g, 1, none⟩) hgW).trans c1; have kz := (hb2.cell (p := ⟨g, 0, none⟩) hgW).trans c0; have k6 := (hb2.cell (p := ⟨g, 13, none⟩) hgW).trans c6)
        | (go_at_call 117; refine (rpPlaceC HH.out.ok s.t W.drew).mono ?_; rintro e w2 ⟨rfl, hb⟩; have hb2 := below_drew hb; have k0 := (hb2.cell (p := ⟨w.heap.size, 0, none⟩) hla).trans hbox; have k1 := (hb2.cell (p := ⟨g, 1, none⟩) hgW).trans c1; have kz := (hb2.cell (p := ⟨g, 0, none⟩) hgW).trans c0; have k6 := (hb2.cell (p := ⟨g, 13, none⟩) hgW).trans c6))
    all_goals (go_wp2_with fail; go_meet)
    · exact ⟨_, rfl, hb2.alloc hb2.size _, hb2.size, rp_box w2 _ _⟩
    · exact ⟨_, rfl, hb2.setCell (Nat.le_refl _) _, Nat.le_refl _, World.cell?_setCell_same _ _ _ hnb⟩
  case rest =>
    obtain ⟨b, rfl, hbc, hbge, hgap⟩ := hcut
    have hbW := HW.out.trans (hbc.mono HW.out.size)
    have k0 := (hbc.cell (p := ⟨w.heap.size, 0, none⟩) hla).trans hbox
    have HB2 := Lib.hid (HB.out.below hbc)
    have k4 := HB2.out.c4
    have HBW := Lib.hid hbW
    have HS2 := Lib.hid hbc.size
    clear c0 c1 c6 y0 y1 y6 yz hbox hbc hbW
    go_upto_region 2 with (fail)
    obtain ⟨wq, rfl⟩ : ∃ W, W = wc := ⟨_, rfl⟩
    have hbl : b < wq.heap.size := lt_of_cell hgap
    by_cases hfit : s.need ≤ s.gap
    · have HFI := Lib.hid hfit
      have hdec : decide (s.need ≤ s.gap) = true := by simpa using hfit
      go_quiet (fail)
      have hbd : Below w.heap.size w (wq.drewN nq) := HBW.out.trans ((drewN_below wq nq).mono HBW.out.size)
      have HC := Lib.hid ((rpClaim (HH.out.below hbd) 0))
      have HBD := Lib.hid hbd
      clear hbd hdec
      go_wp2_with (go_at_call 134; refine HC.out.mono ?_; intro e w3 hm; have HM := Lib.hid hm; obtain ⟨rfl, _⟩ := hm)
      go_end0
      have hss := HSS.out
      unfold Rs.choose at hss
      rw [if_pos HFI.out] at hss
      rw [hss]
      exact HM.out.after HBD.out
    · have HFI := Lib.hid hfit
      have hdec : decide (s.need ≤ s.gap) = false := by simpa using hfit
      go_quiet (fail)
      have hbd : Below w.heap.size w (wq.drewN nq) := HBW.out.trans ((drewN_below wq nq).mono HBW.out.size)
      have HC := Lib.hid (rpAwaitGap ((HH.out.below hbd).wide (F' := fun k => F k ∨ (w.heap.size ≤ k ∧ k < wq.heap.size)) fun k hk => .inl hk) (fun k hk => by
          rcases hk with hk | hk
          · exact Nat.lt_of_lt_of_le (HFL.out k hk) hbd.size
          · exact hk.2) s.gap (a := w.heap.size) (b := b) ⟨.inr ⟨Nat.le_refl _, lt_of_cell k0⟩, hga, k0⟩ ⟨.inr ⟨by have := HW.out.size; omega, hbl⟩, by have := HH.out.lt; have := HW.out.size; omega, hgap⟩)
      have HBD := Lib.hid hbd
      clear hbd hdec
      go_wp2_with (go_at_call 108; refine HC.out.mono ?_; intro e w3 hm; have HM := Lib.hid hm; obtain ⟨rfl, _⟩ := hm)
      go_end0
      have hss := HSS.out
      unfold Rs.choose at hss
      rw [if_neg (by have := HFI.out; omega)] at hss
      rw [hss]
      exact HM.out.narrow HBD.out fun k hk => hk

set_option maxRecDepth 100000 in
set_option maxHeartbeats 1000000 in
/-- Waiting for room at the tail. -/
theorem rpAwaitTail {w : World} {F : Nat → Prop} {g : Nat} {s : Rs} {dv : Value} (h : RpBare w F g s dv) (hF : ∀ k, F k → k < w.heap.size) :
    Calls Tryz.prog 108 #[.pointer (some ⟨g, 0, none⟩), .func (.func 109) #[.pointer (some ⟨g, 0, none⟩)] #[], .func (.func 110) #[.pointer (some ⟨g, 0, none⟩)] #[]] w (RpMoved F g (if s.fits = true then s.choose else { s with ph := .head1 }) w) := by
  obtain ⟨a0, av, hblk⟩ := h.blk
  have hgl := hblk.lt
  have HH := Lib.hid h
  have HB := Lib.hid hblk
  obtain ⟨WW, hWW⟩ : ∃ WW, WW = ((w.alloc (.cells #[.pointer (some ⟨g, 0, none⟩)] 58)).alloc (.cells #[.func (.func 109) #[.pointer (some ⟨g, 0, none⟩)] #[]] 26)).alloc (.cells #[.func (.func 110) #[.pointer (some ⟨g, 0, none⟩)] #[]] 1) := ⟨_, rfl⟩
  obtain ⟨hw3, x0, x1, x2, hsz⟩ := rp_boxes w (.pointer (some ⟨g, 0, none⟩)) (.func (.func 109) #[.pointer (some ⟨g, 0, none⟩)] #[]) (.func (.func 110) #[.pointer (some ⟨g, 0, none⟩)] #[]) _ _ _ WW hWW
  have HW := Lib.hid hw3
  obtain ⟨s', hs'⟩ : ∃ s' : Rs, s' = (if s.fits = true then s.choose else { s with ph := .head1 }) := ⟨_, rfl⟩
  rw [← hs']
  have HSS := Lib.hid hs'
  clear hs'
  have HFL := Lib.hid hF
  clear h hblk hw3 hF
  go_enter Tryz.func108, Tryz.ntmps108
  go_upto_region 1 with (fail)
  rw [← hWW]
  clear hWW
  have hga : ¬ w.heap.size = g := by omega
  have hgb : ¬ w.heap.size + 1 = g := by omega
  have hgc : ¬ w.heap.size + 2 = g := by omega
  have hl0 : w.heap.size < WW.heap.size := by omega
  have hl1 : w.heap.size + 1 < WW.heap.size := by omega
  have hl2 : w.heap.size + 2 < WW.heap.size := by omega
  clear hsz
  cases hf : s.fits with
  | true =>
    have HF := Lib.hid hf
    clear hf
    go_wp2_with (first
      | (go_at_call 110; refine (rpChoose (HH.out.below hb2) (fun k hk => Nat.lt_of_lt_of_le (HFL.out k hk) hb2.size)).mono ?_; intro e w3 hm; have HM := Lib.hid hm; obtain ⟨rfl, _⟩ := hm)
      | (go_at_call 109; refine (rpFits (HB.out.below HW.out)).mono ?_; rintro e w2 ⟨rfl, hb⟩; rw [HF.out]; have hb2 := HW.out.trans (hb.mono HW.out.size); have k0 := (hb.cell (p := ⟨w.heap.size, 0, none⟩) hl0).trans x0; have k2 := (hb.cell (p := ⟨w.heap.size + 2, 0, none⟩) hl2).trans x2))
    go_end0
    have hss := HSS.out
    rw [if_pos HF.out] at hss
    rw [hss]
    exact HM.out.after hb2
  | false =>
    have HF := Lib.hid hf
    clear hf
    go_upto_region 3 with (go_at_call 109; refine (rpFits (HB.out.below HW.out)).mono ?_; rintro e w2 ⟨rfl, hb⟩; rw [HF.out])
    have hb2 := HW.out.trans (hb.mono HW.out.size)
    have y0 := (hb.cell (p := ⟨w.heap.size, 0, none⟩) hl0).trans x0
    have y1 := (hb.cell (p := ⟨w.heap.size + 1, 0, none⟩) hl1).trans x1
    have y2 := (hb.cell (p := ⟨w.heap.size + 2, 0, none⟩) hl2).trans x2
    have hs2 := hb.size
    have HB2 := Lib.hid hb2
    clear hb hb2 x0 x1 x2
    have hl0 : w.heap.size < w2.heap.size := by omega
    have hl1 : w.heap.size + 1 < w2.heap.size := by omega
    have hl2 : w.heap.size + 2 < w2.heap.size := by omega
    have c0 := (HB2.out.cell (p := ⟨g, 0, none⟩) hgl).trans HB.out.c0
    have c1 := (HB2.out.cell (p := ⟨g, 1, none⟩) hgl).trans HB.out.c1
    have hgW : g < w2.heap.size := Nat.lt_of_lt_of_le hgl HB2.out.size
    go_region_held3 (fun w' => w'.cell? ⟨w.heap.size, 0, none⟩ = some (.pointer (some ⟨g, 0, none⟩)) ∧ w'.cell? ⟨w.heap.size + 1, 0, none⟩ = some (.func (.func 109) #[.pointer (some ⟨g, 0, none⟩)] #[]) ∧ w'.cell? ⟨w.heap.size + 2, 0, none⟩ = some (.func (.func 110) #[.pointer (some ⟨g, 0, none⟩)] #[]) ∧ w'.cell? ⟨g, 0, none⟩ = some (.int .i64 s.B) ∧ w'.cell? ⟨g, 1, none⟩ = some (.int .i64 s.Z)) (go_keep)
      (first
        | (go_at_call 54; refine (rpDo (HB.out.below hbl) ⟨1, s.num 16, 8, 0, 0, []⟩ none 0 0 132 #[] #[.pointer (some ⟨w.heap.size, 0, none⟩), .pointer (some ⟨w.heap.size + 1, 0, none⟩), .pointer (some ⟨w.heap.size + 2, 0, none⟩)]).mono ?_; intro e wd has; have HAS := Lib.hid has; obtain ⟨rfl, hblkd, htd⟩ := has; have kd := (htd.cell (p := ⟨w.heap.size, 0, none⟩) (lt_of_cell k2) hga).trans k2; have md := (htd.cell (p := ⟨w.heap.size + 1, 0, none⟩) (lt_of_cell m2) hgb).trans m2; have nd := (htd.cell (p := ⟨w.heap.size + 2, 0, none⟩) (lt_of_cell n2) hgc).trans n2; have o0d := hblkd.c0; have o1d := hblkd.c1; clear hblkd)
        | (go_at_call 55; refine (stLoad (s.num 16) _).mono ?_; rintro e x2 ⟨rfl, hq2⟩; have hb2 := hb1.trans (hq2.mono hb1.size); have k2 := (hb2.cell (p := ⟨w.heap.size, 0, none⟩) hl0).trans y0; have m2 := (hb2.cell (p := ⟨w.heap.size + 1, 0, none⟩) hl1).trans y1; have n2 := (hb2.cell (p := ⟨w.heap.size + 2, 0, none⟩) hl2).trans y2; have o02 := (hb2.cell (p := ⟨g, 0, none⟩) hgW).trans c0; have o12 := (hb2.cell (p := ⟨g, 1, none⟩) hgW).trans c1; have hbl := HB2.out.trans (hb2.mono HB2.out.size))
        | (go_at_call 56; refine (rpHeadC HH.out.ok _).mono ?_; rintro e x1 ⟨rfl, hq1⟩; have hb1 := below_drew hq1; have k1 := (hb1.cell (p := ⟨w.heap.size, 0, none⟩) hl0).trans y0; have m1 := (hb1.cell (p := ⟨w.heap.size + 1, 0, none⟩) hl1).trans y1; have n1 := (hb1.cell (p := ⟨w.heap.size + 2, 0, none⟩) hl2).trans y2; have o01 := (hb1.cell (p := ⟨g, 0, none⟩) hgW).trans c0; have o11 := (hb1.cell (p := ⟨g, 1, none⟩) hgW).trans c1))
    all_goals
      go_wp2
      go_end0
      have hss := HSS.out
      rw [if_neg (by rw [HF.out]; decide)] at hss
      rw [hss]
      refine rp_asked (s' := { s with ph := .head1 }) HH.out rfl hbl rfl HAS.out (BytesIn.none _ _) fun w5 hk => ?_
      have hl3 : w.heap.size < x2.heap.size := lt_of_cell k2
      have hm3 : w.heap.size + 1 < x2.heap.size := lt_of_cell m2
      have hn3 : w.heap.size + 2 < x2.heap.size := lt_of_cell n2
      refine ⟨w.heap.size, w.heap.size + 1, w.heap.size + 2, _, rfl, ⟨.inr ⟨Nat.le_refl _, hl3⟩, hga, (World.cell?_of_block (w := x2) (a := ⟨w.heap.size, 0, none⟩) (hk _ hga hl3)).trans k2⟩, ⟨.inr ⟨by omega, hm3⟩, hgb, (World.cell?_of_block (w := x2) (a := ⟨w.heap.size + 1, 0, none⟩) (hk _ hgb hm3)).trans m2⟩, ⟨.inr ⟨by omega, hn3⟩, hgc, (World.cell?_of_block (w := x2) (a := ⟨w.heap.size + 2, 0, none⟩) (hk _ hgc hn3)).trans n2⟩, ?_⟩
      exact rfl
end Go.Proofs.YtikcnioooihncaaGreat
namespace Go.Proofs.YtikcnioooihncaaGreat
open Go.RowKit

theorem RpMoved.afterT {F : Nat → Prop} {g : Nat} {s : Rs} {w W : World} {e : Ending} {w' : World} (h : RpMoved F g s W e w') (ht : Touch F w W) : RpMoved F g s w e w' := by
  obtain ⟨he, F', hp, ht2, hF⟩ := h
  exact ⟨he, F', hp, ht.trans ht2, fun k hk => (hF k hk).imp id fun h => ⟨Nat.le_trans ht.size h.1, h.2⟩⟩

/-- A field of the put's own is stored. -/
theorem RpBare.store {w : World} {F : Nat → Prop} {g : Nat} {s s' : Rs} {dv : Value} (h : RpBare w F g s dv) (i : Nat) (v : Value) (hc : ∀ a av, (RpCells s dv a av .nilFunc).setIfInBounds i v = RpCells s' dv a av .nilFunc) (hok : s'.Ok) (hL : s'.L = s.L) (hf : s'.f = s.f) :
    RpBare (w.setCell ⟨g, i, none⟩ v) F g s' dv := by
  obtain ⟨a, av, hk⟩ := h.blk
  have hk' : w.heap[g]? = some (.cells (RpCells s dv a av .nilFunc) 99 (0, 0)) := hk
  refine ⟨⟨a, av, ?_⟩, h.own, hok, by rw [hL]; exact h.dat, ?_⟩
  · have := blkS (i := i) hk' v
    rw [hc] at this
    exact this
  · rw [hL, hf]
    exact h.txt.keep (by simp [World.setCell]) fun k hk _ => Below.heap_setCell _ _ _ _ hk.2

theorem rp_setH (s : Rs) (v : Int) (dv : Value) (a : Ac) (av th : Value) : (RpCells s dv a av th).setIfInBounds 12 (.int .i64 v) = RpCells { s with h := v } dv a av th := by simp [RpCells, Rs.need]
theorem rp_setT (s : Rs) (v : Int) (dv : Value) (a : Ac) (av th : Value) : (RpCells s dv a av th).setIfInBounds 13 (.int .i64 v) = RpCells { s with t := v } dv a av th := by simp [RpCells, Rs.need]

theorem Rs.Ok.withH {s : Rs} (ok : s.Ok) (v : Int) (ph : Ph) : ({ s with h := Rs.wr v, ph := ph } : Rs).Ok := ⟨ok.pow, ok.z0, ok.z1, ok.b0, ok.b1, ok.t0, ok.t1, ok.few, ok.isB, Rs.wr_in v, ok.tl, ok.ps⟩
theorem Rs.Ok.withT {s : Rs} (ok : s.Ok) (v : Int) : ({ s with t := Rs.wr v } : Rs).Ok := ⟨ok.pow, ok.z0, ok.z1, ok.b0, ok.b1, ok.t0, ok.t1, ok.few, ok.isB, ok.h0, Rs.wr_in v, ok.ps⟩

set_option maxRecDepth 100000 in
set_option maxHeartbeats 800000 in
theorem rpBegin1 {w : World} {F : Nat → Prop} {g : Nat} {s : Rs} {dv : Value} (h : RpBare w F g s dv) {a : Nat} (ha : w.cell? ⟨a, 0, none⟩ = some (.pointer (some ⟨g, 0, none⟩))) (hag : a ≠ g) (V : Nat) (D : Bool) (A : Option Addr) (L c : Nat) :
    Calls Tryz.prog 78 #[.agg #[.int .u64 V, .bool D, .slice A L c], .pointer (some ⟨a, 0, none⟩)] w (RpMoved F g { s with h := Rs.wr V, ph := .tail } w) := by
  have hb0 := (Below.refl w.heap.size w).alloc (Nat.le_refl _) (.cells #[.int .u64 V, .bool D, .slice A L c] 25)
  have hx := Go.Deep.blk_alloc_new w (.cells #[.int .u64 V, .bool D, .slice A L c] 25)
  have HH := Lib.hid (h.below hb0)
  have hal := lt_of_cell ha
  have ha1 := (hb0.cell (p := ⟨a, 0, none⟩) hal).trans ha
  have HW := Lib.hid hb0
  have hgl := h.lt
  clear h hb0 ha
  go_enter Tryz.func78, Tryz.ntmps78
  go_upto_region 1 with (fail)
  generalize w.alloc (.cells #[.int .u64 V, .bool D, .slice A L c] 25) = W at hx HH HW ha1 ⊢
  have x0 : W.cell? ⟨w.heap.size, 0, none⟩ = some (.int .u64 V) := by simp [World.cell?, hx]
  obtain ⟨b0, bv, hblk⟩ := HH.out.blk
  have c12 := hblk.c12
  have f12 := hblk.free 12
  clear hblk hx
  go_upto_region 2 with (fail)
  have HS := Lib.hid (HH.out.store (s' := { s with h := Rs.wr V }) 12 (.int .i64 (Rs.wr V)) (fun _ _ => rp_setH _ _ _ _ _ _) (HH.out.ok.withH V s.ph) rfl rfl)
  have HT : Hid (Touch F w (W.setCell ⟨g, 12, none⟩ (.int .i64 (Rs.wr V)))) := Lib.hid ((Touch.of_below HW.out).setCell (p := ⟨g, 12, none⟩) HH.out.own _)
  have ha2 : (W.setCell ⟨g, 12, none⟩ (.int .i64 (Rs.wr V))).cell? ⟨a, 0, none⟩ = some (.pointer (some ⟨g, 0, none⟩)) := (World.cell?_setCell_far _ _ _ _ (fun e => hag e.symm)).trans ha1
  unfold Rs.wr at HS HT ha2
  clear c12 f12 x0 ha1
  generalize W.setCell ⟨g, 12, none⟩ (.int .i64 (wrap64 (V : Int))) = W2 at HS HT ha2 ⊢
  go_wp2_with (go_at_call 79; refine (rpTry HS.out).mono ?_; intro e w3 hm; have HM := Lib.hid hm; obtain ⟨rfl, _⟩ := hm)
  go_end0
  exact HM.out.afterT HT.out

set_option maxRecDepth 100000 in
set_option maxHeartbeats 800000 in
theorem rpTry1 {w : World} {F : Nat → Prop} {g : Nat} {s : Rs} {dv : Value} (h : RpBare w F g s dv) (hF : ∀ k, F k → k < w.heap.size) {a : Nat} (ha : w.cell? ⟨a, 0, none⟩ = some (.pointer (some ⟨g, 0, none⟩))) (hag : a ≠ g) (V : Nat) (D : Bool) (A : Option Addr) (L c : Nat) :
    Calls Tryz.prog 107 #[.agg #[.int .u64 V, .bool D, .slice A L c], .pointer (some ⟨a, 0, none⟩)] w (RpMoved F g (if ({ s with t := Rs.wr V } : Rs).fits = true then ({ s with t := Rs.wr V } : Rs).choose else { ({ s with t := Rs.wr V } : Rs) with ph := .head1 }) w) := by
  have hb0 := (Below.refl w.heap.size w).alloc (Nat.le_refl _) (.cells #[.int .u64 V, .bool D, .slice A L c] 25)
  have hx := Go.Deep.blk_alloc_new w (.cells #[.int .u64 V, .bool D, .slice A L c] 25)
  have HH := Lib.hid (h.below hb0)
  have hal := lt_of_cell ha
  have ha1 := (hb0.cell (p := ⟨a, 0, none⟩) hal).trans ha
  have HW := Lib.hid hb0
  have hgl := h.lt
  have HFL := Lib.hid hF
  obtain ⟨s1, hs1⟩ : ∃ s1 : Rs, s1 = { s with t := Rs.wr V } := ⟨_, rfl⟩
  rw [← hs1]
  have HS1 := Lib.hid hs1
  obtain ⟨s', hs'⟩ : ∃ s' : Rs, s' = (if s1.fits = true then s1.choose else { s1 with ph := .head1 }) := ⟨_, rfl⟩
  rw [← hs']
  have HSS := Lib.hid hs'
  clear hs'
  clear h hb0 ha hF hs1
  go_enter Tryz.func107, Tryz.ntmps107
  go_upto_region 1 with (fail)
  generalize w.alloc (.cells #[.int .u64 V, .bool D, .slice A L c] 25) = W at hx HH HW ha1 ⊢
  have x0 : W.cell? ⟨w.heap.size, 0, none⟩ = some (.int .u64 V) := by simp [World.cell?, hx]
  obtain ⟨b0, bv, hblk⟩ := HH.out.blk
  have c13 := hblk.c13
  have f13 := hblk.free 13
  clear hblk hx
  go_upto_region 2 with (fail)
  have HS := Lib.hid (HH.out.store (s' := { s with t := Rs.wr V }) 13 (.int .i64 (Rs.wr V)) (fun _ _ => rp_setT _ _ _ _ _ _) (HH.out.ok.withT V) rfl rfl)
  have HT : Hid (Touch F w (W.setCell ⟨g, 13, none⟩ (.int .i64 (Rs.wr V)))) := Lib.hid ((Touch.of_below HW.out).setCell (p := ⟨g, 13, none⟩) HH.out.own _)
  have ha2 : (W.setCell ⟨g, 13, none⟩ (.int .i64 (Rs.wr V))).cell? ⟨a, 0, none⟩ = some (.pointer (some ⟨g, 0, none⟩)) := (World.cell?_setCell_far _ _ _ _ (fun e => hag e.symm)).trans ha1
  have hlW := HT.out.size
  rw [← HS1.out] at HS
  unfold Rs.wr at HT ha2
  clear c13 f13 x0 ha1
  unfold Rs.wr at HS hlW
  generalize W.setCell ⟨g, 13, none⟩ (.int .i64 (wrap64 (V : Int))) = W2 at HS HT ha2 hlW ⊢
  have HC := Lib.hid (rpAwaitTail HS.out fun k hk => Nat.lt_of_lt_of_le (HFL.out k hk) hlW)
  go_wp2_with (go_at_call 108; refine HC.out.mono ?_; intro e w3 hm; have HM := Lib.hid hm; obtain ⟨rfl, _⟩ := hm)
  go_end0
  rw [HSS.out]
  exact HM.out.afterT HT.out
end Go.Proofs.YtikcnioooihncaaGreat
namespace Go.Proofs.YtikcnioooihncaaGreat
open Go.RowKit

theorem Rs.un_wr {V : Nat} (h : V < 18446744073709551616) : Rs.un (Rs.wr (V : Int)) = V := by
  unfold Rs.un Rs.wr wrap64
  omega

theorem rp_setE (s : Rs) (v : Int) (dv : Value) (a : Ac) (av th : Value) : (RpCells s dv a av th).setIfInBounds 16 (.int .i64 v) = RpCells { s with er := v, ph := .fin } dv a av th := by simp [RpCells, Rs.need]
theorem rp_ph (s : Rs) (ph : Ph) (dv : Value) (a : Ac) (av th : Value) : RpCells { s with ph := ph } dv a av th = RpCells s dv a av th := rfl
theorem Rs.Ok.withE {s : Rs} (ok : s.Ok) (v : Int) (ph : Ph) : ({ s with er := v, ph := ph } : Rs).Ok := ⟨ok.pow, ok.z0, ok.z1, ok.b0, ok.b1, ok.t0, ok.t1, ok.few, ok.isB, ok.h0, ok.tl, ok.ps⟩

theorem rp_done {w0 w : World} {F : Nat → Prop} {g : Nat} {s : Rs} {dv : Value} (h : RpBare w F g s dv) (hph : s.ph = .fin) (ht : Touch F w0 w) : RpMoved F g s w0 (.returned (.tuple #[])) w := by
  obtain ⟨a, av, hk⟩ := h.blk
  obtain ⟨A, c, hdv, hl, hc⟩ := h.dat
  subst hdv
  refine ⟨rfl, F, ⟨A, s.L, c, a, av, .nilFunc, hk, h.own, h.ok, h.txt, hl, hc, ?_, fun b hb => ?_⟩, ht, fun k hk => .inl hk⟩
  · unfold ThenIs
    rw [hph]
  · unfold Rs.next at hb
    rw [hph] at hb
    cases hb

theorem OnIs.keep {w w' : World} {F F' : Nat → Prop} {g : Nat} {o : Option Int} {v : Value} (h : OnIs w F g o v) (hb : ∀ k, F k → k ≠ g → w'.heap[k]? = w.heap[k]?) (hF : ∀ k, F k → F' k) : OnIs w' F' g o v := by
  cases o with
  | none => exact h
  | some gap =>
    obtain ⟨a, b, e, h1, h2⟩ := h
    exact ⟨a, b, e, (h1.keep hb).mono hF, (h2.keep hb).mono hF⟩

set_option maxRecDepth 100000 in
set_option maxHeartbeats 1000000 in
/-- The head was told, and there is room at the tail now, or none at all. -/
theorem rpAwait1Tail {w : World} {F : Nat → Prop} {g : Nat} {s : Rs} {dv : Value} (h : RpBare w F g s dv) (hF : ∀ k, F k → k < w.heap.size) {a b c : Nat} {on : Value} (ha : Capt w F g a (.pointer (some ⟨g, 0, none⟩))) (hb : Capt w F g b (.func (.func 109) #[.pointer (some ⟨g, 0, none⟩)] #[])) (hc : Capt w F g c on) (hon : OnIs w F g (none) on)
    (V : Nat) (hV : V < 18446744073709551616) (D : Bool) (A : Option Addr) (L cp : Nat) :
    Calls Tryz.prog 132 #[.agg #[.int .u64 V, .bool D, .slice A L cp], .pointer (some ⟨a, 0, none⟩), .pointer (some ⟨b, 0, none⟩), .pointer (some ⟨c, 0, none⟩)] w
      (RpMoved F g (if ({ s with h := Rs.wr V } : Rs).fits = true then { ({ s with h := Rs.wr V } : Rs) with ph := .copy1 } else { ({ s with h := Rs.wr V } : Rs) with er := 5, ph := .fin }) w) := by
  have hb0 := (Below.refl w.heap.size w).alloc (Nat.le_refl _) (.cells #[.int .u64 V, .bool D, .slice A L cp] 25)
  have hx := Go.Deep.blk_alloc_new w (.cells #[.int .u64 V, .bool D, .slice A L cp] 25)
  have HH := Lib.hid (h.below hb0)
  have hal := lt_of_cell ha.2.2
  have hbl := lt_of_cell hb.2.2
  have hag := ha.2.1
  have hbg := hb.2.1
  have ha1 := (hb0.cell (p := ⟨a, 0, none⟩) hal).trans ha.2.2
  have hb1 := (hb0.cell (p := ⟨b, 0, none⟩) hbl).trans hb.2.2
  have HC := Lib.hid (And.intro hc hon)
  have HW := Lib.hid hb0
  have hgl := h.lt
  have HFL := Lib.hid hF
  have HU := Lib.hid (Rs.un_wr hV)
  obtain ⟨s1, hs1⟩ : ∃ s1 : Rs, s1 = { s with h := Rs.wr V } := ⟨_, rfl⟩
  rw [← hs1]
  have HS1 := Lib.hid hs1
  obtain ⟨s', hs'⟩ : ∃ s' : Rs, s' = (if s1.fits = true then { s1 with ph := .copy1 } else { s1 with er := 5, ph := .fin }) := ⟨_, rfl⟩
  rw [← hs']
  have HSS := Lib.hid hs'
  clear h hb0 ha hb hc hon hF hs1 hs' hV
  go_enter Tryz.func132, Tryz.ntmps132
  go_upto_region 1 with (fail)
  generalize w.alloc (.cells #[.int .u64 V, .bool D, .slice A L cp] 25) = W at hx HH HW ha1 hb1 ⊢
  have hlx := (Array.getElem?_eq_some_iff.1 hx).1
  have x0 : W.cell? ⟨w.heap.size, 0, none⟩ = some (.int .u64 V) := by simp [World.cell?, hx]
  obtain ⟨b0, bv, hblk⟩ := HH.out.blk
  have c12 := hblk.c12
  have f12 := hblk.free 12
  have hgx : g ≠ w.heap.size := by omega
  clear hblk hx
  go_upto_region 2 with (fail)
  have HS := Lib.hid (HH.out.store (s' := { s with h := Rs.wr V }) 12 (.int .i64 (Rs.wr V)) (fun _ _ => rp_setH _ _ _ _ _ _) (HH.out.ok.withH V s.ph) rfl rfl)
  have HT : Hid (Touch F w (W.setCell ⟨g, 12, none⟩ (.int .i64 (Rs.wr V)))) := Lib.hid ((Touch.of_below HW.out).setCell (p := ⟨g, 12, none⟩) HH.out.own _)
  have HTg : Hid (Touch (fun k => k = g) w (W.setCell ⟨g, 12, none⟩ (.int .i64 (Rs.wr V)))) := Lib.hid ((Touch.of_below (S := fun k => k = g) HW.out).setCell (p := ⟨g, 12, none⟩) (show g = g from rfl) _)
  have ha2 : (W.setCell ⟨g, 12, none⟩ (.int .i64 (Rs.wr V))).cell? ⟨a, 0, none⟩ = some (.pointer (some ⟨g, 0, none⟩)) := (World.cell?_setCell_far _ _ _ _ (fun e => hag e.symm)).trans ha1
  have hb2 : (W.setCell ⟨g, 12, none⟩ (.int .i64 (Rs.wr V))).cell? ⟨b, 0, none⟩ = some (.func (.func 109) #[.pointer (some ⟨g, 0, none⟩)] #[]) := (World.cell?_setCell_far _ _ _ _ (fun e => hbg e.symm)).trans hb1
  have hx2 : (W.setCell ⟨g, 12, none⟩ (.int .i64 (Rs.wr V))).cell? ⟨w.heap.size, 0, none⟩ = some (.int .u64 V) := (World.cell?_setCell_far _ _ _ _ hgx).trans x0
  rw [← HS1.out] at HS
  unfold Rs.wr at HS HT HTg ha2 hb2 hx2
  clear c12 f12 x0 ha1 hb1
  generalize W.setCell ⟨g, 12, none⟩ (.int .i64 (wrap64 (V : Int))) = W2 at HS HT HTg ha2 hb2 hx2 ⊢
  have hs2 := HT.out.size
  have hal2 : a < W2.heap.size := lt_of_cell ha2
  have hxl2 : w.heap.size < W2.heap.size := lt_of_cell hx2
  obtain ⟨b0, bv, hblk⟩ := HS.out.blk
  have HB := Lib.hid hblk
  have hgl2 := hblk.lt
  clear hblk
  cases hf : s1.fits with
  | false =>
    have HF := Lib.hid hf
    clear hf
    go_upto_region 3 with (go_at_call 109; refine (rpFits HB.out).mono ?_; rintro e w3 ⟨rfl, hb3⟩; rw [HF.out])
    have k0 := (hb3.cell (p := ⟨a, 0, none⟩) hal2).trans ha2
    have HS3 := Lib.hid (HS.out.below hb3)
    have HT3 := Lib.hid (HT.out.trans (Touch.of_below hb3))
    obtain ⟨b1, bw, hblk⟩ := HS3.out.blk
    have c16 := hblk.c16
    have f16 := hblk.free 16
    clear hblk hb3
    go_wp2
    go_end0
    have hss := HSS.out
    rw [if_neg (by rw [HF.out]; decide)] at hss
    rw [hss]
    exact rp_done (HS3.out.store (s' := { s1 with er := 5, ph := .fin }) 16 (.int .i64 5) (fun _ _ => rp_setE _ _ _ _ _ _) (HS3.out.ok.withE 5 .fin) rfl rfl) rfl (HT3.out.setCell (p := ⟨g, 16, none⟩) HS3.out.own _)
  | true =>
    have HF := Lib.hid hf
    clear hf
    go_upto_region 4 with (go_at_call 109; refine (rpFits HB.out).mono ?_; rintro e w3 ⟨rfl, hb3⟩; rw [HF.out])
    have k0 := (hb3.cell (p := ⟨a, 0, none⟩) hal2).trans ha2
    have kx := (hb3.cell (p := ⟨w.heap.size, 0, none⟩) hxl2).trans hx2
    have HS3 := Lib.hid (HS.out.below hb3)
    have HB3 := Lib.hid (HB.out.below hb3)
    have hs3 := hb3.size
    have HT3 := Lib.hid (HT.out.trans (Touch.of_below hb3))
    have HTG3 := Lib.hid (HTg.out.trans (Touch.of_below hb3))
    have hal3 : a < w3.heap.size := lt_of_cell k0
    have hxl3 : w.heap.size < w3.heap.size := lt_of_cell kx
    have hgl3 : g < w3.heap.size := by omega
    clear hb3
    have c0 := HB3.out.c0
    have c1 := HB3.out.c1
    go_region_held3 (fun w' => w'.cell? ⟨a, 0, none⟩ = some (.pointer (some ⟨g, 0, none⟩)) ∧ w'.cell? ⟨w.heap.size, 0, none⟩ = some (.int .u64 V) ∧ w'.cell? ⟨g, 0, none⟩ = some (.int .i64 s1.B) ∧ w'.cell? ⟨g, 1, none⟩ = some (.int .i64 s1.Z)) (go_keep)
      (first
        | (go_at_call 54; refine (rpDo (HB3.out.below hb2) ⟨2, s1.num 8, 8, V, 0, []⟩ none 0 0 133 #[] #[.pointer (some ⟨c, 0, none⟩)]).mono ?_; intro e wd has; have HAS := Lib.hid has; obtain ⟨rfl, hblkd, htd⟩ := has; have kd := (htd.cell (p := ⟨a, 0, none⟩) (lt_of_cell k2) hag).trans k2; have md := (htd.cell (p := ⟨w.heap.size, 0, none⟩) (lt_of_cell m2) (fun e => hgx (show g = w.heap.size from e.symm))).trans m2; have o0d := hblkd.c0; have o1d := hblkd.c1; clear hblkd)
        | (go_at_call 122; refine (stSet (s1.num 8) V _).mono ?_; rintro e x2 ⟨rfl, hq2⟩; have hb2 := hb1.trans (hq2.mono hb1.size); have k2 := (hb2.cell (p := ⟨a, 0, none⟩) hal3).trans k0; have m2 := (hb2.cell (p := ⟨w.heap.size, 0, none⟩) hxl3).trans kx; have o02 := (hb2.cell (p := ⟨g, 0, none⟩) hgl3).trans c0; have o12 := (hb2.cell (p := ⟨g, 1, none⟩) hgl3).trans c1)
        | (go_at_call 77; refine (rpCopyC HS3.out.ok _).mono ?_; rintro e x1 ⟨rfl, hq1⟩; have hb1 := below_drew hq1; have k1 := (hb1.cell (p := ⟨a, 0, none⟩) hal3).trans k0; have m1 := (hb1.cell (p := ⟨w.heap.size, 0, none⟩) hxl3).trans kx; have o01 := (hb1.cell (p := ⟨g, 0, none⟩) hgl3).trans c0; have o11 := (hb1.cell (p := ⟨g, 1, none⟩) hgl3).trans c1))
    all_goals
      go_wp2
      go_end0
      have hss := HSS.out
      rw [if_pos HF.out] at hss
      rw [hss]
      refine RpMoved.afterT (W := w3) (rp_asked (s' := { s1 with ph := .copy1 }) HS3.out rfl hb2 ?_ HAS.out (BytesIn.none _ _) fun w9 hk => ?_) HT3.out
      · have hun : Rs.un s1.h = V := by rw [HS1.out]; exact HU.out
        show some (⟨2, s1.num 8, 8, Rs.un s1.h, 0, []⟩ : Ac) = _
        rw [hun]
      · have hk9 : ∀ k, F k → k ≠ g → w9.heap[k]? = w.heap[k]? := fun k hk' hkg => (hk k hkg (by have := HFL.out k hk'; have := hb2.size; omega)).trans ((hb2.block k (by have := HFL.out k hk'; omega)).trans (HTG3.out.block k (HFL.out k hk') hkg))
        refine ⟨c, on, rfl, (HC.out.1.keep hk9).mono fun k hk => .inl hk, ?_⟩
        exact OnIs.keep HC.out.2 hk9 fun k hk => .inl hk

set_option maxRecDepth 100000 in
set_option maxHeartbeats 1000000 in
/-- The head was told, and there is room at the ring's beginning now, or none at all. -/
theorem rpAwait1Gap {w : World} {F : Nat → Prop} {g : Nat} {s : Rs} {dv : Value} (h : RpBare w F g s dv) (hF : ∀ k, F k → k < w.heap.size) (gap : Int) {a b c : Nat} {on : Value} (ha : Capt w F g a (.pointer (some ⟨g, 0, none⟩))) (hb : Capt w F g b (.func (.func 135) #[.pointer (some ⟨g, 0, none⟩)] #[])) (hc : Capt w F g c on) (hon : OnIs w F g (some gap) on)
    (V : Nat) (hV : V < 18446744073709551616) (D : Bool) (A : Option Addr) (L cp : Nat) :
    Calls Tryz.prog 132 #[.agg #[.int .u64 V, .bool D, .slice A L cp], .pointer (some ⟨a, 0, none⟩), .pointer (some ⟨b, 0, none⟩), .pointer (some ⟨c, 0, none⟩)] w
      (RpMoved F g (if ({ s with h := Rs.wr V } : Rs).ahead = true then { ({ s with h := Rs.wr V } : Rs) with ph := .copy2 gap } else { ({ s with h := Rs.wr V } : Rs) with er := 5, ph := .fin }) w) := by
  have hb0 := (Below.refl w.heap.size w).alloc (Nat.le_refl _) (.cells #[.int .u64 V, .bool D, .slice A L cp] 25)
  have hx := Go.Deep.blk_alloc_new w (.cells #[.int .u64 V, .bool D, .slice A L cp] 25)
  have HH := Lib.hid (h.below hb0)
  have hal := lt_of_cell ha.2.2
  have hbl := lt_of_cell hb.2.2
  have hag := ha.2.1
  have hbg := hb.2.1
  have ha1 := (hb0.cell (p := ⟨a, 0, none⟩) hal).trans ha.2.2
  have hb1 := (hb0.cell (p := ⟨b, 0, none⟩) hbl).trans hb.2.2
  have HC := Lib.hid (And.intro hc hon)
  have HW := Lib.hid hb0
  have hgl := h.lt
  have HFL := Lib.hid hF
  have HU := Lib.hid (Rs.un_wr hV)
  obtain ⟨s1, hs1⟩ : ∃ s1 : Rs, s1 = { s with h := Rs.wr V } := ⟨_, rfl⟩
  rw [← hs1]
  have HS1 := Lib.hid hs1
  obtain ⟨s', hs'⟩ : ∃ s' : Rs, s' = (if s1.ahead = true then { s1 with ph := .copy2 gap } else { s1 with er := 5, ph := .fin }) := ⟨_, rfl⟩
  rw [← hs']
  have HSS := Lib.hid hs'
  clear h hb0 ha hb hc hon hF hs1 hs' hV
  go_enter Tryz.func132, Tryz.ntmps132
  go_upto_region 1 with (fail)
  generalize w.alloc (.cells #[.int .u64 V, .bool D, .slice A L cp] 25) = W at hx HH HW ha1 hb1 ⊢
  have hlx := (Array.getElem?_eq_some_iff.1 hx).1
  have x0 : W.cell? ⟨w.heap.size, 0, none⟩ = some (.int .u64 V) := by simp [World.cell?, hx]
  obtain ⟨b0, bv, hblk⟩ := HH.out.blk
  have c12 := hblk.c12
  have f12 := hblk.free 12
  have hgx : g ≠ w.heap.size := by omega
  clear hblk hx
  go_upto_region 2 with (fail)
  have HS := Lib.hid (HH.out.store (s' := { s with h := Rs.wr V }) 12 (.int .i64 (Rs.wr V)) (fun _ _ => rp_setH _ _ _ _ _ _) (HH.out.ok.withH V s.ph) rfl rfl)
  have HT : Hid (Touch F w (W.setCell ⟨g, 12, none⟩ (.int .i64 (Rs.wr V)))) := Lib.hid ((Touch.of_below HW.out).setCell (p := ⟨g, 12, none⟩) HH.out.own _)
  have HTg : Hid (Touch (fun k => k = g) w (W.setCell ⟨g, 12, none⟩ (.int .i64 (Rs.wr V)))) := Lib.hid ((Touch.of_below (S := fun k => k = g) HW.out).setCell (p := ⟨g, 12, none⟩) (show g = g from rfl) _)
  have ha2 : (W.setCell ⟨g, 12, none⟩ (.int .i64 (Rs.wr V))).cell? ⟨a, 0, none⟩ = some (.pointer (some ⟨g, 0, none⟩)) := (World.cell?_setCell_far _ _ _ _ (fun e => hag e.symm)).trans ha1
  have hb2 : (W.setCell ⟨g, 12, none⟩ (.int .i64 (Rs.wr V))).cell? ⟨b, 0, none⟩ = some (.func (.func 135) #[.pointer (some ⟨g, 0, none⟩)] #[]) := (World.cell?_setCell_far _ _ _ _ (fun e => hbg e.symm)).trans hb1
  have hx2 : (W.setCell ⟨g, 12, none⟩ (.int .i64 (Rs.wr V))).cell? ⟨w.heap.size, 0, none⟩ = some (.int .u64 V) := (World.cell?_setCell_far _ _ _ _ hgx).trans x0
  rw [← HS1.out] at HS
  unfold Rs.wr at HS HT HTg ha2 hb2 hx2
  clear c12 f12 x0 ha1 hb1
  generalize W.setCell ⟨g, 12, none⟩ (.int .i64 (wrap64 (V : Int))) = W2 at HS HT HTg ha2 hb2 hx2 ⊢
  have hs2 := HT.out.size
  have hal2 : a < W2.heap.size := lt_of_cell ha2
  have hxl2 : w.heap.size < W2.heap.size := lt_of_cell hx2
  obtain ⟨b0, bv, hblk⟩ := HS.out.blk
  have HB := Lib.hid hblk
  have hgl2 := hblk.lt
  clear hblk
  cases hf : s1.ahead with
  | false =>
    have HF := Lib.hid hf
    clear hf
    go_upto_region 3 with (go_at_call 135; refine (rpAhead HB.out HS.out.ok).mono ?_; rintro e w3 ⟨rfl, hb3⟩; rw [HF.out])
    have k0 := (hb3.cell (p := ⟨a, 0, none⟩) hal2).trans ha2
    have HS3 := Lib.hid (HS.out.below hb3)
    have HT3 := Lib.hid (HT.out.trans (Touch.of_below hb3))
    obtain ⟨b1, bw, hblk⟩ := HS3.out.blk
    have c16 := hblk.c16
    have f16 := hblk.free 16
    clear hblk hb3
    go_wp2
    go_end0
    have hss := HSS.out
    rw [if_neg (by rw [HF.out]; decide)] at hss
    rw [hss]
    exact rp_done (HS3.out.store (s' := { s1 with er := 5, ph := .fin }) 16 (.int .i64 5) (fun _ _ => rp_setE _ _ _ _ _ _) (HS3.out.ok.withE 5 .fin) rfl rfl) rfl (HT3.out.setCell (p := ⟨g, 16, none⟩) HS3.out.own _)
  | true =>
    have HF := Lib.hid hf
    clear hf
    go_upto_region 4 with (go_at_call 135; refine (rpAhead HB.out HS.out.ok).mono ?_; rintro e w3 ⟨rfl, hb3⟩; rw [HF.out])
    have k0 := (hb3.cell (p := ⟨a, 0, none⟩) hal2).trans ha2
    have kx := (hb3.cell (p := ⟨w.heap.size, 0, none⟩) hxl2).trans hx2
    have HS3 := Lib.hid (HS.out.below hb3)
    have HB3 := Lib.hid (HB.out.below hb3)
    have hs3 := hb3.size
    have HT3 := Lib.hid (HT.out.trans (Touch.of_below hb3))
    have HTG3 := Lib.hid (HTg.out.trans (Touch.of_below hb3))
    have hal3 : a < w3.heap.size := lt_of_cell k0
    have hxl3 : w.heap.size < w3.heap.size := lt_of_cell kx
    have hgl3 : g < w3.heap.size := by omega
    clear hb3
    have c0 := HB3.out.c0
    have c1 := HB3.out.c1
    go_region_held3 (fun w' => w'.cell? ⟨a, 0, none⟩ = some (.pointer (some ⟨g, 0, none⟩)) ∧ w'.cell? ⟨w.heap.size, 0, none⟩ = some (.int .u64 V) ∧ w'.cell? ⟨g, 0, none⟩ = some (.int .i64 s1.B) ∧ w'.cell? ⟨g, 1, none⟩ = some (.int .i64 s1.Z)) (go_keep)
      (first
        | (go_at_call 54; refine (rpDo (HB3.out.below hb2) ⟨2, s1.num 8, 8, V, 0, []⟩ none 0 0 133 #[] #[.pointer (some ⟨c, 0, none⟩)]).mono ?_; intro e wd has; have HAS := Lib.hid has; obtain ⟨rfl, hblkd, htd⟩ := has; have kd := (htd.cell (p := ⟨a, 0, none⟩) (lt_of_cell k2) hag).trans k2; have md := (htd.cell (p := ⟨w.heap.size, 0, none⟩) (lt_of_cell m2) (fun e => hgx (show g = w.heap.size from e.symm))).trans m2; have o0d := hblkd.c0; have o1d := hblkd.c1; clear hblkd)
        | (go_at_call 122; refine (stSet (s1.num 8) V _).mono ?_; rintro e x2 ⟨rfl, hq2⟩; have hb2 := hb1.trans (hq2.mono hb1.size); have k2 := (hb2.cell (p := ⟨a, 0, none⟩) hal3).trans k0; have m2 := (hb2.cell (p := ⟨w.heap.size, 0, none⟩) hxl3).trans kx; have o02 := (hb2.cell (p := ⟨g, 0, none⟩) hgl3).trans c0; have o12 := (hb2.cell (p := ⟨g, 1, none⟩) hgl3).trans c1)
        | (go_at_call 77; refine (rpCopyC HS3.out.ok _).mono ?_; rintro e x1 ⟨rfl, hq1⟩; have hb1 := below_drew hq1; have k1 := (hb1.cell (p := ⟨a, 0, none⟩) hal3).trans k0; have m1 := (hb1.cell (p := ⟨w.heap.size, 0, none⟩) hxl3).trans kx; have o01 := (hb1.cell (p := ⟨g, 0, none⟩) hgl3).trans c0; have o11 := (hb1.cell (p := ⟨g, 1, none⟩) hgl3).trans c1))
    all_goals
      go_wp2
      go_end0
      have hss := HSS.out
      rw [if_pos HF.out] at hss
      rw [hss]
      refine RpMoved.afterT (W := w3) (rp_asked (s' := { s1 with ph := .copy2 gap }) HS3.out rfl hb2 ?_ HAS.out (BytesIn.none _ _) fun w9 hk => ?_) HT3.out
      · have hun : Rs.un s1.h = V := by rw [HS1.out]; exact HU.out
        show some (⟨2, s1.num 8, 8, Rs.un s1.h, 0, []⟩ : Ac) = _
        rw [hun]
      · have hk9 : ∀ k, F k → k ≠ g → w9.heap[k]? = w.heap[k]? := fun k hk' hkg => (hk k hkg (by have := HFL.out k hk'; have := hb2.size; omega)).trans ((hb2.block k (by have := HFL.out k hk'; omega)).trans (HTG3.out.block k (HFL.out k hk') hkg))
        refine ⟨c, on, rfl, (HC.out.1.keep hk9).mono fun k hk => .inl hk, ?_⟩
        exact OnIs.keep HC.out.2 hk9 fun k hk => .inl hk

set_option maxRecDepth 100000 in
set_option maxHeartbeats 800000 in
/-- The head's copy was stored: a choice. -/
theorem rpAwait11Tail {w : World} {F : Nat → Prop} {g : Nat} {s : Rs} {dv : Value} (h : RpBare w F g s dv) (hF : ∀ k, F k → k < w.heap.size) {c : Nat} {on : Value} (hc : Capt w F g c on) (hon : OnIs w F g none on) (V : Nat) (D : Bool) (A : Option Addr) (L cp : Nat) :
    Calls Tryz.prog 133 #[.agg #[.int .u64 V, .bool D, .slice A L cp], .pointer (some ⟨c, 0, none⟩)] w (RpMoved F g s.choose w) := by
  have hon' : on = .func (.func 110) #[.pointer (some ⟨g, 0, none⟩)] #[] := hon
  subst hon'
  have hb0 := (Below.refl w.heap.size w).alloc (Nat.le_refl _) (.cells #[.int .u64 V, .bool D, .slice A L cp] 25)
  have hc1 := (hb0.cell (p := ⟨c, 0, none⟩) (lt_of_cell hc.2.2)).trans hc.2.2
  have HC := Lib.hid ((rpChoose (h.below hb0) fun k hk => Nat.lt_of_lt_of_le (hF k hk) hb0.size))
  have HW := Lib.hid hb0
  clear h hb0 hc hon hF
  go_enter Tryz.func133, Tryz.ntmps133
  go_upto_region 1 with (fail)
  generalize w.alloc (.cells #[.int .u64 V, .bool D, .slice A L cp] 25) = W at HC HW hc1 ⊢
  go_wp2_with (go_at_call 110; refine HC.out.mono ?_; intro e w3 hm; have HM := Lib.hid hm; obtain ⟨rfl, _⟩ := hm)
  go_end0
  exact HM.out.after HW.out

set_option maxRecDepth 100000 in
set_option maxHeartbeats 800000 in
/-- The head's copy was stored: the claim behind padding. -/
theorem rpAwait11Gap {w : World} {F : Nat → Prop} {g : Nat} {s : Rs} {dv : Value} (h : RpBare w F g s dv) (gap : Int) {c : Nat} {on : Value} (hc : Capt w F g c on) (hon : OnIs w F g (some gap) on) (V : Nat) (D : Bool) (A : Option Addr) (L cp : Nat) :
    Calls Tryz.prog 133 #[.agg #[.int .u64 V, .bool D, .slice A L cp], .pointer (some ⟨c, 0, none⟩)] w (RpMoved F g { s with ph := .cas gap } w) := by
  obtain ⟨a, b, hon', ha, hb⟩ := hon
  subst hon'
  have hb0 := (Below.refl w.heap.size w).alloc (Nat.le_refl _) (.cells #[.int .u64 V, .bool D, .slice A L cp] 25)
  have hc1 := (hb0.cell (p := ⟨c, 0, none⟩) (lt_of_cell hc.2.2)).trans hc.2.2
  have HC := Lib.hid (rpChooseOn (h.below hb0) gap (ha.below hb0).2.2 (hb.below hb0).2.2)
  have HW := Lib.hid hb0
  clear h hb0 hc ha hb
  go_enter Tryz.func133, Tryz.ntmps133
  go_upto_region 1 with (fail)
  generalize w.alloc (.cells #[.int .u64 V, .bool D, .slice A L cp] 25) = W at HC HW hc1 ⊢
  go_wp2_with (go_at_call 136; refine HC.out.mono ?_; intro e w3 hm; have HM := Lib.hid hm; obtain ⟨rfl, _⟩ := hm)
  go_end0
  exact HM.out.after HW.out
end Go.Proofs.YtikcnioooihncaaGreat
namespace Go.Proofs.YtikcnioooihncaaGreat
open Go.RowKit

theorem daa_size (w : World) (q q' : Obj) : ((w.alloc q).alloc q').drew.heap.size = w.heap.size + 2 := by show ((w.alloc q).alloc q').heap.size = _; simp
theorem daa_blk (w : World) (q q' : Obj) : ((w.alloc q).alloc q').drew.heap[w.heap.size + 1]? = some q' := by
  have := Go.Deep.blk_alloc_new (w.alloc q) q'
  rw [show (w.alloc q).heap.size = w.heap.size + 1 by simp] at this
  exact this
theorem daa_below (w : World) (q q' : Obj) : Below w.heap.size w ((w.alloc q).alloc q').drew := (((Below.refl w.heap.size w).alloc (Nat.le_refl _) q).alloc (by simp) q').drew
theorem rp_boxed {w0 w2 : World} {n : Nat} {o : Value} {t : Nat} (hb : Below w0.heap.size w0 w2) (hq : w0.heap[n]? = some (.cells #[o] t)) : w2.cell? ⟨n, 0, none⟩ = some o ∧ w2.frozen? ⟨n, 0, none⟩ = false := by
  have hq' := (hb.block n ((Array.getElem?_eq_some_iff.1 hq).1)).trans hq
  exact ⟨by simp [World.cell?, hq'], by simp [World.frozen?, hq']⟩
theorem rp_over {w2 : World} {n : Nat} {o : Value} (q : Obj) (hc : w2.cell? ⟨n, 0, none⟩ = some o) (hz : w2.frozen? ⟨n, 0, none⟩ = false) : (w2.alloc q).cell? ⟨n, 0, none⟩ = some o ∧ (w2.alloc q).frozen? ⟨n, 0, none⟩ = false :=
  have hl : n < w2.heap.size := lt_of_cell hc
  ⟨(((Below.refl w2.heap.size w2).alloc (Nat.le_refl _) q).cell (p := ⟨n, 0, none⟩) hl).trans hc, (((Below.refl w2.heap.size w2).alloc (Nat.le_refl _) q).frozen (p := ⟨n, 0, none⟩) hl).trans hz⟩
theorem rp_two (w : World) (x : Value) (t : Nat) (q : Obj) : ((w.alloc (.cells #[x] t)).alloc q).cell? ⟨w.heap.size, 0, none⟩ = some x := (World.cell?_alloc_lt _ _ _ (by simp)).trans (rp_box w x t)
theorem rp_two' (w : World) (x : Value) (t : Nat) (q : Obj) : ((w.alloc q).alloc (.cells #[x] t)).cell? ⟨w.heap.size + 1, 0, none⟩ = some x := by
  have := rp_box (w.alloc q) x t
  rw [show (w.alloc q).heap.size = w.heap.size + 1 by simp] at this
  exact this
theorem rp_cast (x : Int) (h : 0 ≤ x) : ∃ V : Nat, x = (V : Int) ∧ x.toNat = V := ⟨x.toNat, (Int.toNat_of_nonneg h).symm, rfl⟩
theorem rp_lt_of {w : World} {k : Nat} {o : Obj} (h : w.heap[k]? = some o) : k < w.heap.size := (Array.getElem?_eq_some_iff.1 h).1

set_option maxRecDepth 100000 in
set_option maxHeartbeats 2000000 in
theorem rpWrite {w : World} {F : Nat → Prop} {g : Nat} {s : Rs} {dv : Value} (h : RpBare w F g s dv) :
    Calls Tryz.prog 149 #[.pointer (some ⟨g, 0, none⟩)] w (RpMoved F g { s with ph := .hdr } w) := by
  obtain ⟨a0, av, hblk⟩ := h.blk
  have hgl := hblk.lt
  have HH := Lib.hid h
  have hb0 := (Below.refl w.heap.size w).alloc (Nat.le_refl _) (.cells #[.pointer (some ⟨g, 0, none⟩)] 58)
  have hbox := rp_box w (.pointer (some ⟨g, 0, none⟩)) 58
  have hsz : (w.alloc (.cells #[.pointer (some ⟨g, 0, none⟩)] 58)).heap.size = w.heap.size + 1 := by simp
  have HB := Lib.hid (hblk.below hb0)
  have HW := Lib.hid hb0
  have hfew := h.ok.few
  have hz1 := h.ok.z1
  have he1 : IntKind.i64.wrap (8 + (s.L : Int)) = 8 + s.L := IntWalk.i64_in _ (by omega)
  have he2 : IntKind.i32.wrap (8 + (s.L : Int)) = 8 + s.L := by rw [Hd.s32_wrap]; unfold Hd.s32; omega
  have he3 : IntKind.i32.wrap (-(8 + (s.L : Int))) = -(8 + s.L) := by rw [Hd.s32_wrap]; unfold Hd.s32; omega
  obtain ⟨V, hV, hVn⟩ : ∃ V : Nat, Hd.jn (-(8 + (s.L : Int))) s.typ = (V : Int) ∧ (Hd.jn (-(8 + (s.L : Int))) s.typ).toNat = V := rp_cast _ (Hd.jn_bounds _ _).1
  obtain ⟨Ad, cd, hdv, _, _⟩ := h.dat
  subst hdv
  clear h hblk hb0 hfew hz1
  go_enter Tryz.func149, Tryz.ntmps149
  go_upto_region 1 with (fail)
  generalize w.alloc (.cells #[.pointer (some ⟨g, 0, none⟩)] 58) = W at hbox HW hsz HB ⊢
  have hga : ¬ w.heap.size = g := by omega
  have hgW : g < W.heap.size := by omega
  have hla : w.heap.size < W.heap.size := by omega
  clear hsz
  have c7 := HB.out.c14
  have c0 := HB.out.c0
  have c1 := HB.out.c1
  have c3 := HB.out.c3
  have y0 := World.new_ne W ⟨w.heap.size, 0, none⟩ hbox
  have y7 := World.new_ne W ⟨g, 14, none⟩ c7
  have yz := World.new_ne W ⟨g, 0, none⟩ c0
  have yo := World.new_ne W ⟨g, 1, none⟩ c1
  have y3 := World.new_ne W ⟨g, 3, none⟩ c3
  have z0 : ¬ W.heap.size + 1 = w.heap.size := by omega
  have z7 : ¬ W.heap.size + 1 = g := by omega
  go_cut [2, 3] (fun v u wx => ∃ bA bL, v = .pointer (some ⟨bA, 0, none⟩) ∧ u = .pointer (some ⟨bL, 0, none⟩) ∧ Below W.heap.size W wx ∧ W.heap.size ≤ bA ∧ W.heap.size ≤ bL ∧ wx.cell? ⟨bA, 0, none⟩ = some (.int .i64 (s.spot s.p)) ∧ wx.cell? ⟨bL, 0, none⟩ = some (.int .i32 (8 + (s.L : Int))))
  case first =>
    go_region_held3 (fun w' => w'.cell? ⟨w.heap.size, 0, none⟩ = some (.pointer (some ⟨g, 0, none⟩)) ∧ w'.cell? ⟨g, 14, none⟩ = some (.int .i64 s.p) ∧ w'.cell? ⟨g, 0, none⟩ = some (.int .i64 s.B) ∧ w'.cell? ⟨g, 1, none⟩ = some (.int .i64 s.Z) ∧ w'.cell? ⟨g, 3, none⟩ = some (.slice Ad s.L cd)) (go_keep)
      (first
        | (go_at_call 120; refine (rpAtC HH.out.ok s.p (((W.alloc (.cells #[.int .i64 0] 3)).alloc (.cells #[.int .i32 0] 21)).drew)).mono ?_; rintro e w2 ⟨rfl, hb⟩; have hbq : Below W.heap.size W (((W.alloc (.cells #[.int .i64 0] 3)).alloc (.cells #[.int .i32 0] 21)).drew) := daa_below W (.cells #[.int .i64 0] 3) (.cells #[.int .i32 0] 21); have hb2 : Below W.heap.size W w2 := hbq.trans (hb.mono hbq.size); obtain ⟨hc0, hz0⟩ := rp_boxed (n := W.heap.size) (o := .int .i64 0) (t := 3) hb ((Below.heap_alloc (W.alloc (.cells #[.int .i64 0] 3)) (.cells #[.int .i32 0] 21) W.heap.size (by simp)).trans (Go.Deep.blk_alloc_new W _)); obtain ⟨hc1, hz1⟩ := rp_boxed (n := (W.heap.size + 1)) (o := .int .i32 0) (t := 21) hb (daa_blk W _ _); have k0 := (hb2.cell (p := ⟨w.heap.size, 0, none⟩) hla).trans hbox; have k7 := (hb2.cell (p := ⟨g, 14, none⟩) hgW).trans c7; have kz := (hb2.cell (p := ⟨g, 0, none⟩) hgW).trans c0; have ko := (hb2.cell (p := ⟨g, 1, none⟩) hgW).trans c1; have k3 := (hb2.cell (p := ⟨g, 3, none⟩) hgW).trans c3; have yy0 := World.new_ne w2 ⟨w.heap.size, 0, none⟩ k0; have yy7 := World.new_ne w2 ⟨g, 14, none⟩ k7; have yyz := World.new_ne w2 ⟨g, 0, none⟩ kz; have yyo := World.new_ne w2 ⟨g, 1, none⟩ ko; have yy3 := World.new_ne w2 ⟨g, 3, none⟩ k3; have yc0 := World.new_ne w2 ⟨W.heap.size, 0, none⟩ hc0; have yc1 := World.new_ne w2 ⟨(W.heap.size + 1), 0, none⟩ hc1)
        | (go_at_call 120; refine (rpAtC HH.out.ok s.p (((W.alloc (.cells #[.int .i32 0] 21)).alloc (.cells #[.int .i64 0] 3)).drew)).mono ?_; rintro e w2 ⟨rfl, hb⟩; have hbq : Below W.heap.size W (((W.alloc (.cells #[.int .i32 0] 21)).alloc (.cells #[.int .i64 0] 3)).drew) := daa_below W (.cells #[.int .i32 0] 21) (.cells #[.int .i64 0] 3); have hb2 : Below W.heap.size W w2 := hbq.trans (hb.mono hbq.size); obtain ⟨hc0, hz0⟩ := rp_boxed (n := W.heap.size) (o := .int .i32 0) (t := 21) hb ((Below.heap_alloc (W.alloc (.cells #[.int .i32 0] 21)) (.cells #[.int .i64 0] 3) W.heap.size (by simp)).trans (Go.Deep.blk_alloc_new W _)); obtain ⟨hc1, hz1⟩ := rp_boxed (n := (W.heap.size + 1)) (o := .int .i64 0) (t := 3) hb (daa_blk W _ _); have k0 := (hb2.cell (p := ⟨w.heap.size, 0, none⟩) hla).trans hbox; have k7 := (hb2.cell (p := ⟨g, 14, none⟩) hgW).trans c7; have kz := (hb2.cell (p := ⟨g, 0, none⟩) hgW).trans c0; have ko := (hb2.cell (p := ⟨g, 1, none⟩) hgW).trans c1; have k3 := (hb2.cell (p := ⟨g, 3, none⟩) hgW).trans c3; have yy0 := World.new_ne w2 ⟨w.heap.size, 0, none⟩ k0; have yy7 := World.new_ne w2 ⟨g, 14, none⟩ k7; have yyz := World.new_ne w2 ⟨g, 0, none⟩ kz; have yyo := World.new_ne w2 ⟨g, 1, none⟩ ko; have yy3 := World.new_ne w2 ⟨g, 3, none⟩ k3; have yc0 := World.new_ne w2 ⟨W.heap.size, 0, none⟩ hc0; have yc1 := World.new_ne w2 ⟨(W.heap.size + 1), 0, none⟩ hc1)
        | (go_at_call 120; refine (rpAtC HH.out.ok s.p ((W.alloc (.cells #[.int .i64 0] 3)).drew)).mono ?_; rintro e w2 ⟨rfl, hb⟩; have hbq : Below W.heap.size W ((W.alloc (.cells #[.int .i64 0] 3)).drew) := da_below W (.cells #[.int .i64 0] 3); have hb2 : Below W.heap.size W w2 := hbq.trans (hb.mono hbq.size); obtain ⟨hc0, hz0⟩ := rp_boxed (n := W.heap.size) (o := .int .i64 0) (t := 3) hb (Go.Deep.blk_alloc_new W _); have k0 := (hb2.cell (p := ⟨w.heap.size, 0, none⟩) hla).trans hbox; have k7 := (hb2.cell (p := ⟨g, 14, none⟩) hgW).trans c7; have kz := (hb2.cell (p := ⟨g, 0, none⟩) hgW).trans c0; have ko := (hb2.cell (p := ⟨g, 1, none⟩) hgW).trans c1; have k3 := (hb2.cell (p := ⟨g, 3, none⟩) hgW).trans c3; have yy0 := World.new_ne w2 ⟨w.heap.size, 0, none⟩ k0; have yy7 := World.new_ne w2 ⟨g, 14, none⟩ k7; have yyz := World.new_ne w2 ⟨g, 0, none⟩ kz; have yyo := World.new_ne w2 ⟨g, 1, none⟩ ko; have yy3 := World.new_ne w2 ⟨g, 3, none⟩ k3; have yc0 := World.new_ne w2 ⟨W.heap.size, 0, none⟩ hc0; have hv0 := fun q => (rp_over q hc0 hz0).1; have hf0 := fun q => (rp_over q hc0 hz0).2)
        | (go_at_call 120; refine (rpAtC HH.out.ok s.p ((W.alloc (.cells #[.int .i32 0] 21)).drew)).mono ?_; rintro e w2 ⟨rfl, hb⟩; have hbq : Below W.heap.size W ((W.alloc (.cells #[.int .i32 0] 21)).drew) := da_below W (.cells #[.int .i32 0] 21); have hb2 : Below W.heap.size W w2 := hbq.trans (hb.mono hbq.size); obtain ⟨hc0, hz0⟩ := rp_boxed (n := W.heap.size) (o := .int .i32 0) (t := 21) hb (Go.Deep.blk_alloc_new W _); have k0 := (hb2.cell (p := ⟨w.heap.size, 0, none⟩) hla).trans hbox; have k7 := (hb2.cell (p := ⟨g, 14, none⟩) hgW).trans c7; have kz := (hb2.cell (p := ⟨g, 0, none⟩) hgW).trans c0; have ko := (hb2.cell (p := ⟨g, 1, none⟩) hgW).trans c1; have k3 := (hb2.cell (p := ⟨g, 3, none⟩) hgW).trans c3; have yy0 := World.new_ne w2 ⟨w.heap.size, 0, none⟩ k0; have yy7 := World.new_ne w2 ⟨g, 14, none⟩ k7; have yyz := World.new_ne w2 ⟨g, 0, none⟩ kz; have yyo := World.new_ne w2 ⟨g, 1, none⟩ ko; have yy3 := World.new_ne w2 ⟨g, 3, none⟩ k3; have yc0 := World.new_ne w2 ⟨W.heap.size, 0, none⟩ hc0; have hv0 := fun q => (rp_over q hc0 hz0).1; have hf0 := fun q => (rp_over q hc0 hz0).2)
        | (go_at_call 120; refine (rpAtC HH.out.ok s.p (W.drew)).mono ?_; rintro e w2 ⟨rfl, hb⟩; have hbq : Below W.heap.size W (W.drew) := (Below.refl _ W).drew; have hb2 : Below W.heap.size W w2 := hbq.trans (hb.mono hbq.size); have k0 := (hb2.cell (p := ⟨w.heap.size, 0, none⟩) hla).trans hbox; have k7 := (hb2.cell (p := ⟨g, 14, none⟩) hgW).trans c7; have kz := (hb2.cell (p := ⟨g, 0, none⟩) hgW).trans c0; have ko := (hb2.cell (p := ⟨g, 1, none⟩) hgW).trans c1; have k3 := (hb2.cell (p := ⟨g, 3, none⟩) hgW).trans c3; have yy0 := World.new_ne w2 ⟨w.heap.size, 0, none⟩ k0; have yy7 := World.new_ne w2 ⟨g, 14, none⟩ k7; have yyz := World.new_ne w2 ⟨g, 0, none⟩ kz; have yyo := World.new_ne w2 ⟨g, 1, none⟩ ko; have yy3 := World.new_ne w2 ⟨g, 3, none⟩ k3)
)
    all_goals (go_wp2_with fail; go_meet)
    · exact ⟨_, _, rfl, rfl, (hb2.alloc hb2.size _).alloc (by have := hb2.size; simp; omega) _, hb2.size, Nat.le_succ_of_le hb2.size, rp_two w2 _ _ _, rp_two' w2 _ _ _⟩
    · exact ⟨_, _, rfl, rfl, (hb2.alloc hb2.size _).alloc (by have := hb2.size; simp; omega) _, Nat.le_succ_of_le hb2.size, hb2.size, rp_two' w2 _ _ _, rp_two w2 _ _ _⟩
    · exact ⟨_, _, rfl, rfl, ((hb2.alloc hb2.size _).setCell (Nat.le_refl _) _).setCell hb2.size _, Nat.le_refl _, hb2.size, (World.cell?_setCell_far _ _ _ _ yc0).trans (World.cell?_setCell_same _ _ _ (hv0 _)), World.cell?_setCell_same _ _ _ ((World.cell?_setCell_far _ _ _ _ yc0.symm).trans (rp_box w2 _ _))⟩
    · exact ⟨_, _, rfl, rfl, (hb2.setCell (Nat.le_refl _) _).setCell (Nat.le_succ _) _, Nat.le_refl _, Nat.le_succ _, (World.cell?_setCell_far _ _ _ _ (Nat.succ_ne_self _)).trans (World.cell?_setCell_same _ _ _ hc0), World.cell?_setCell_same _ _ _ ((World.cell?_setCell_far _ _ _ _ (Nat.succ_ne_self _).symm).trans hc1)⟩
    · exact ⟨_, _, rfl, rfl, (hb2.alloc hb2.size _).setCell (Nat.le_refl _) _, hb2.size, Nat.le_refl _, (World.cell?_setCell_far _ _ _ _ yc0.symm).trans (rp_box w2 _ _), World.cell?_setCell_same _ _ _ (hv0 _)⟩
    · exact ⟨_, _, rfl, rfl, (hb2.setCell (Nat.le_succ _) _).setCell (Nat.le_refl _) _, Nat.le_succ _, Nat.le_refl _, (World.cell?_setCell_far _ _ _ _ (Nat.succ_ne_self _).symm).trans (World.cell?_setCell_same _ _ _ hc1), World.cell?_setCell_same _ _ _ ((World.cell?_setCell_far _ _ _ _ (Nat.succ_ne_self _)).trans hc0)⟩
  case rest =>
    obtain ⟨bA, bL, rfl, rfl, hbc, hA, hL, hca, hcl⟩ := hcut
    have hbW := HW.out.trans (hbc.mono HW.out.size)
    have k0 := (hbc.cell (p := ⟨w.heap.size, 0, none⟩) hla).trans hbox
    have HB2 := Lib.hid (HB.out.below hbc)
    have k2 := HB2.out.c2
    have HBW := Lib.hid hbW
    have hAg : ¬ bA = g := by omega
    have hLg : ¬ bL = g := by omega
    have hwA : w.heap.size ≤ bA := by omega
    have hwL : w.heap.size ≤ bL := by omega
    have hla' : w.heap.size < wc.heap.size := lt_of_cell k0
    have hbA : bA < wc.heap.size := lt_of_cell hca
    have hbL : bL < wc.heap.size := lt_of_cell hcl
    have hgc : g < wc.heap.size := lt_of_cell k2
    clear c7 c3 c0 c1 y0 y7 y3 yz yo z0 z7 hbox hbc hbW he1 he2 HB HW hla hgW hA hL
    go_upto_region 2 with (fail)
    go_region_held3 (fun w' => w'.cell? ⟨w.heap.size, 0, none⟩ = some (.pointer (some ⟨g, 0, none⟩)) ∧ w'.cell? ⟨bA, 0, none⟩ = some (.int .i64 (s.spot s.p)) ∧ w'.cell? ⟨bL, 0, none⟩ = some (.int .i32 (8 + (s.L : Int))) ∧ w'.cell? ⟨g, 2, none⟩ = some (.int .i32 s.typ)) (go_keep)
      (first
        | (go_at_call 54; refine (rpDo (HB2.out.below hb1) ⟨2, s.spot s.p, 8, V, 0, []⟩ none 0 0 156 #[] #[.pointer (some ⟨w.heap.size, 0, none⟩), .pointer (some ⟨bA, 0, none⟩), .pointer (some ⟨bL, 0, none⟩)]).mono ?_; intro e wd has; have HAS := Lib.hid has; obtain ⟨rfl, hblkd, htd⟩ := has; have kd := (htd.cell (p := ⟨w.heap.size, 0, none⟩) (lt_of_cell k1) hga).trans k1; have ad := (htd.cell (p := ⟨bA, 0, none⟩) (lt_of_cell a1) hAg).trans a1; have ld := (htd.cell (p := ⟨bL, 0, none⟩) (lt_of_cell l1) hLg).trans l1; have o2d := hblkd.c2; clear hblkd)
        | (go_at_call 150; refine (record_any (-(8 + (s.L : Int))) s.typ _).mono ?_; rintro e w' ⟨rfl, rfl⟩; rw [hV])
        | (go_at_call 122; refine (stSet (s.spot s.p) V _).mono ?_; rintro e x1 ⟨rfl, hq1⟩; have hb1 := below_drew hq1; have k1 := (hb1.cell (p := ⟨w.heap.size, 0, none⟩) hla').trans k0; have a1 := (hb1.cell (p := ⟨bA, 0, none⟩) hbA).trans hca; have l1 := (hb1.cell (p := ⟨bL, 0, none⟩) hbL).trans hcl; have o21 := (hb1.cell (p := ⟨g, 2, none⟩) hgc).trans k2; have hbl := HBW.out.trans (hb1.mono HBW.out.size)))
    all_goals
      go_wp2
      go_end0
      refine rp_asked (s' := { s with ph := .hdr }) HH.out rfl hbl (show some (⟨2, s.spot s.p, 8, (Hd.jn (-(8 + (s.L : Int))) s.typ).toNat, 0, []⟩ : Ac) = _ by rw [hVn]) HAS.out (BytesIn.none _ _) fun w2 hk => ?_
      have hl3 : w.heap.size < x1.heap.size := lt_of_cell k1
      have hm3 : bA < x1.heap.size := lt_of_cell a1
      have hn3 : bL < x1.heap.size := lt_of_cell l1
      exact ⟨w.heap.size, bA, bL, rfl, ⟨.inr ⟨Nat.le_refl _, hl3⟩, hga, (World.cell?_of_block (w := x1) (a := ⟨w.heap.size, 0, none⟩) (hk _ hga hl3)).trans k1⟩, ⟨.inr ⟨hwA, hm3⟩, hAg, (World.cell?_of_block (w := x1) (a := ⟨bA, 0, none⟩) (hk _ hAg hm3)).trans a1⟩, ⟨.inr ⟨hwL, hn3⟩, hLg, (World.cell?_of_block (w := x1) (a := ⟨bL, 0, none⟩) (hk _ hLg hn3)).trans l1⟩⟩
end Go.Proofs.YtikcnioooihncaaGreat
namespace Go.Proofs.YtikcnioooihncaaGreat
open Go.RowKit

theorem Rs.Ok.withPh {s : Rs} (ok : s.Ok) (ph : Ph) : ({ s with ph := ph } : Rs).Ok := ⟨ok.pow, ok.z0, ok.z1, ok.b0, ok.b1, ok.t0, ok.t1, ok.few, ok.isB, ok.h0, ok.tl, ok.ps⟩
theorem RpBare.withPh {w : World} {F : Nat → Prop} {g : Nat} {s : Rs} {dv : Value} (h : RpBare w F g s dv) (ph : Ph) : RpBare w F g { s with ph := ph } dv := by
  obtain ⟨a, av, hk⟩ := h.blk
  exact ⟨⟨a, av, hk⟩, h.own, h.ok.withPh ph, h.dat, h.txt⟩

set_option maxRecDepth 100000 in
set_option maxHeartbeats 800000 in
/-- The padding's header was stored: the message's writing begins. -/
theorem rpClaim11 {w : World} {F : Nat → Prop} {g : Nat} {s : Rs} {dv : Value} (h : RpBare w F g s dv) {a : Nat} (ha : Capt w F g a (.pointer (some ⟨g, 0, none⟩))) (V : Nat) (D : Bool) (A : Option Addr) (L cp : Nat) :
    Calls Tryz.prog 151 #[.agg #[.int .u64 V, .bool D, .slice A L cp], .pointer (some ⟨a, 0, none⟩)] w (RpMoved F g { s with ph := .hdr } w) := by
  have hb0 := (Below.refl w.heap.size w).alloc (Nat.le_refl _) (.cells #[.int .u64 V, .bool D, .slice A L cp] 25)
  have hc1 := (hb0.cell (p := ⟨a, 0, none⟩) (lt_of_cell ha.2.2)).trans ha.2.2
  have HC := Lib.hid (rpWrite (h.below hb0))
  have HW := Lib.hid hb0
  clear h hb0 ha
  go_enter Tryz.func151, Tryz.ntmps151
  go_upto_region 1 with (fail)
  generalize w.alloc (.cells #[.int .u64 V, .bool D, .slice A L cp] 25) = W at HC HW hc1 ⊢
  go_wp2_with (go_at_call 149; refine HC.out.mono ?_; intro e w3 hm; have HM := Lib.hid hm; obtain ⟨rfl, _⟩ := hm)
  go_end0
  exact HM.out.after HW.out

set_option maxRecDepth 100000 in
set_option maxHeartbeats 800000 in
/-- The length was stored: the message is whole. -/
theorem rpWrite111 {w : World} {F : Nat → Prop} {g : Nat} {s : Rs} {dv : Value} (h : RpBare w F g s dv) (V : Nat) (D : Bool) (A : Option Addr) (L cp : Nat) :
    Calls Tryz.prog 159 #[.agg #[.int .u64 V, .bool D, .slice A L cp]] w (RpMoved F g { s with ph := .fin } w) := by
  have hb0 := (Below.refl w.heap.size w).alloc (Nat.le_refl _) (.cells #[.int .u64 V, .bool D, .slice A L cp] 25)
  have HH := Lib.hid h
  have HW := Lib.hid hb0
  clear h hb0
  go_enter Tryz.func159, Tryz.ntmps159
  go_wp2
  go_end0
  exact rp_done ((HH.out.below HW.out).withPh .fin) rfl (Touch.of_below HW.out)
end Go.Proofs.YtikcnioooihncaaGreat
namespace Go.Proofs.YtikcnioooihncaaGreat
open Go.RowKit

set_option maxRecDepth 100000 in
set_option maxHeartbeats 1000000 in
theorem rpWrite11 {w : World} {F : Nat → Prop} {g : Nat} {s : Rs} {dv : Value} (h : RpBare w F g s dv) {a b c : Nat} (ht : Three w F g s a b c) :
    Calls Tryz.prog 158 #[.pointer (some ⟨a, 0, none⟩), .pointer (some ⟨b, 0, none⟩), .pointer (some ⟨c, 0, none⟩)] w (RpMovedG F g { s with ph := .len } w) := by
  obtain ⟨a0, av, hblk⟩ := h.blk
  have HH := Lib.hid h
  have HB := Lib.hid hblk
  have hfew := h.ok.few
  have hz1 := h.ok.z1
  have he : IntKind.u64.wrap (8 + (s.L : Int)) = ((8 + s.L : Nat) : Int) := by
    rw [show (8 + (s.L : Int)) = ((8 + s.L : Nat) : Int) by omega]
    exact IntWalk.u64_in _ (by omega)
  obtain ⟨⟨_, hag, hca⟩, ⟨_, hbg, hcb⟩, ⟨_, hcg, hcc⟩⟩ := ht
  have hga : ¬ a = g := hag
  have hgb : ¬ b = g := hbg
  have hgc : ¬ c = g := hcg
  have hla := lt_of_cell hca
  have hlb := lt_of_cell hcb
  have hlc := lt_of_cell hcc
  clear h hblk hfew hz1 hag hbg hcg
  go_enter Tryz.func158, Tryz.ntmps158
  go_upto_region 1 with (fail)
  go_region_held3 (fun w' => w'.cell? ⟨a, 0, none⟩ = some (.pointer (some ⟨g, 0, none⟩)) ∧ w'.cell? ⟨b, 0, none⟩ = some (.int .i64 (s.spot s.p)) ∧ w'.cell? ⟨c, 0, none⟩ = some (.int .i32 (8 + (s.L : Int)))) (go_keep)
    (first
      | (go_at_call 54; refine (rpDo (HB.out.below hb1) ⟨2, s.spot s.p, 4, 8 + s.L, 0, []⟩ none 0 0 159 #[] #[]).mono ?_; intro e wd has; have HAS := Lib.hid has; obtain ⟨rfl, hblkd, htd⟩ := has; have kd := (htd.cell (p := ⟨a, 0, none⟩) (lt_of_cell k1) hga).trans k1; have ad := (htd.cell (p := ⟨b, 0, none⟩) (lt_of_cell a1) hgb).trans a1; have ld := (htd.cell (p := ⟨c, 0, none⟩) (lt_of_cell l1) hgc).trans l1; clear hblkd)
      | (go_at_call 143; refine (stStore (s.spot s.p) 4 (8 + s.L) _).mono ?_; rintro e x1 ⟨rfl, hq1⟩; have hb1 := below_drew hq1; have k1 := (hb1.cell (p := ⟨a, 0, none⟩) hla).trans hca; have a1 := (hb1.cell (p := ⟨b, 0, none⟩) hlb).trans hcb; have l1 := (hb1.cell (p := ⟨c, 0, none⟩) hlc).trans hcc))
  all_goals
    go_wp2
    go_end0
    exact ⟨rp_asked (s' := { s with ph := .len }) HH.out rfl hb1 rfl HAS.out (BytesIn.none _ _) (fun w2 hk => rfl), (Touch.of_below hb1).trans HAS.out.2.2, HAS.out.2.1.c3.trans HB.out.c3.symm⟩
end Go.Proofs.YtikcnioooihncaaGreat
namespace Go.Proofs.YtikcnioooihncaaGreat
open Go.RowKit

set_option maxRecDepth 100000 in
set_option maxHeartbeats 1000000 in
/-- Another one was faster: it is tried again. -/
theorem rpClaim1No {w : World} {F : Nat → Prop} {g : Nat} {s : Rs} {dv : Value} (h : RpBare w F g s dv) {a b : Nat} (ha : Capt w F g a (.pointer (some ⟨g, 0, none⟩))) (V : Nat) (A : Option Addr) (L cp : Nat) :
    Calls Tryz.prog 148 #[.agg #[.int .u64 V, .bool false, .slice A L cp], .pointer (some ⟨a, 0, none⟩), .pointer (some ⟨b, 0, none⟩)] w (RpMoved F g { s with ph := .tail } w) := by
  have hb0 := (Below.refl w.heap.size w).alloc (Nat.le_refl _) (.cells #[.int .u64 V, .bool false, .slice A L cp] 25)
  have hx := Go.Deep.blk_alloc_new w (.cells #[.int .u64 V, .bool false, .slice A L cp] 25)
  have hc1 := (hb0.cell (p := ⟨a, 0, none⟩) (lt_of_cell ha.2.2)).trans ha.2.2
  have HH := Lib.hid (h.below hb0)
  have HW := Lib.hid hb0
  clear h hb0 ha
  go_enter Tryz.func148, Tryz.ntmps148
  go_upto_region 1 with (fail)
  generalize w.alloc (.cells #[.int .u64 V, .bool false, .slice A L cp] 25) = W at hx HH HW hc1 ⊢
  have x1 : W.cell? ⟨w.heap.size, 1, none⟩ = some (.bool false) := by simp [World.cell?, hx]
  clear hx
  go_wp2_with (go_at_call 79; refine (rpTry HH.out).mono ?_; intro e w3 hm; have HM := Lib.hid hm; obtain ⟨rfl, _⟩ := hm)
  go_end0
  exact HM.out.after HW.out

theorem rp_setP (s : Rs) (v : Int) (dv : Value) (a : Ac) (av th : Value) : (RpCells s dv a av th).setIfInBounds 14 (.int .i64 v) = RpCells { s with p := v } dv a av th := by simp [RpCells, Rs.need]
theorem Rs.Ok.withP {s : Rs} (ok : s.Ok) (v : Int) : ({ s with p := Rs.wr v } : Rs).Ok := ⟨ok.pow, ok.z0, ok.z1, ok.b0, ok.b1, ok.t0, ok.t1, ok.few, ok.isB, ok.h0, ok.tl, Rs.wr_in v⟩
theorem Rs.Ok.withC {s : Rs} {v : Bool} (ok : s.Ok) : ({ s with cl := v } : Rs).Ok := ⟨ok.pow, ok.z0, ok.z1, ok.b0, ok.b1, ok.t0, ok.t1, ok.few, ok.isB, ok.h0, ok.tl, ok.ps⟩
theorem rp_setC (s : Rs) (v : Bool) (dv : Value) (a : Ac) (av th : Value) : (RpCells s dv a av th).setIfInBounds 15 (.bool v) = RpCells { s with cl := v } dv a av th := by simp [RpCells, Rs.need]

set_option maxRecDepth 100000 in
set_option maxHeartbeats 1000000 in
/-- The tail is moved, no padding: the message's writing begins. -/
theorem rpClaim1Yes {w : World} {F : Nat → Prop} {g : Nat} {s : Rs} {dv : Value} (h : RpBare w F g s dv) {a b : Nat} (ha : Capt w F g a (.pointer (some ⟨g, 0, none⟩))) (hb : Capt w F g b (.int .i64 0)) (V : Nat) (A : Option Addr) (L cp : Nat) :
    Calls Tryz.prog 148 #[.agg #[.int .u64 V, .bool true, .slice A L cp], .pointer (some ⟨a, 0, none⟩), .pointer (some ⟨b, 0, none⟩)] w (RpMoved F g { s with p := Rs.wr (s.t + 0), cl := true, ph := .hdr } w) := by
  have hb0 := (Below.refl w.heap.size w).alloc (Nat.le_refl _) (.cells #[.int .u64 V, .bool true, .slice A L cp] 25)
  have hx := Go.Deep.blk_alloc_new w (.cells #[.int .u64 V, .bool true, .slice A L cp] 25)
  have hc1 := (hb0.cell (p := ⟨a, 0, none⟩) (lt_of_cell ha.2.2)).trans ha.2.2
  have hp1 := (hb0.cell (p := ⟨b, 0, none⟩) (lt_of_cell hb.2.2)).trans hb.2.2
  have hag : ¬ g = a := fun e => ha.2.1 e.symm
  have hbg : ¬ g = b := fun e => hb.2.1 e.symm
  have HH := Lib.hid (h.below hb0)
  have HW := Lib.hid hb0
  clear h hb0 ha hb
  go_enter Tryz.func148, Tryz.ntmps148
  go_upto_region 1 with (fail)
  generalize w.alloc (.cells #[.int .u64 V, .bool true, .slice A L cp] 25) = W at hx HH HW hc1 hp1 ⊢
  have x1 : W.cell? ⟨w.heap.size, 1, none⟩ = some (.bool true) := by simp [World.cell?, hx]
  clear hx
  obtain ⟨b0, bv, hblk⟩ := HH.out.blk
  have c13 := hblk.c13
  have c14 := hblk.c14
  have c15 := hblk.c15
  have f14 := hblk.free 14
  have f15 := hblk.free 15
  clear hblk
  go_upto_region 2 with (fail)
  go_upto_region 3 with (fail)
  go_region_held3 (fun w' => w'.cell? ⟨a, 0, none⟩ = some (.pointer (some ⟨g, 0, none⟩)) ∧ w'.cell? ⟨b, 0, none⟩ = some (.int .i64 0) ∧ w'.cell? ⟨g, 13, none⟩ = some (.int .i64 s.t)) (simp [*, World.cell?_setCell_far, World.cell?_setCell_other]) (fail)
  have hwr : IntKind.i64.wrap s.t = Rs.wr (s.t + 0) := by rw [Int.add_zero, IntKind.wrap_i64, Rs.wr, wrap64]
  rw [hwr]
  have HS := Lib.hid ((HH.out.store (s' := { s with p := Rs.wr (s.t + 0) }) 14 (.int .i64 (Rs.wr (s.t + 0))) (fun _ _ => rp_setP _ _ _ _ _ _) (HH.out.ok.withP _) rfl rfl).store (s' := { s with p := Rs.wr (s.t + 0), cl := true }) 15 (.bool true) (fun _ _ => rp_setC _ _ _ _ _ _) (HH.out.ok.withP _).withC rfl rfl)
  have HT : Hid (Touch F w ((W.setCell ⟨g, 14, none⟩ (.int .i64 (Rs.wr (s.t + 0)))).setCell ⟨g, 15, none⟩ (.bool true))) := Lib.hid (((Touch.of_below HW.out).setCell (p := ⟨g, 14, none⟩) HH.out.own _).setCell (p := ⟨g, 15, none⟩) HH.out.own _)
  have ha2 : ((W.setCell ⟨g, 14, none⟩ (.int .i64 (Rs.wr (s.t + 0)))).setCell ⟨g, 15, none⟩ (.bool true)).cell? ⟨a, 0, none⟩ = some (.pointer (some ⟨g, 0, none⟩)) := (World.cell?_setCell_far _ _ _ _ hag).trans ((World.cell?_setCell_far _ _ _ _ hag).trans hc1)
  have hp2 : ((W.setCell ⟨g, 14, none⟩ (.int .i64 (Rs.wr (s.t + 0)))).setCell ⟨g, 15, none⟩ (.bool true)).cell? ⟨b, 0, none⟩ = some (.int .i64 0) := (World.cell?_setCell_far _ _ _ _ hbg).trans ((World.cell?_setCell_far _ _ _ _ hbg).trans hp1)
  clear c13 c14 c15 f14 f15 x1 hc1 hp1 hwr
  generalize (W.setCell ⟨g, 14, none⟩ (.int .i64 (Rs.wr (s.t + 0)))).setCell ⟨g, 15, none⟩ (.bool true) = W2 at HS HT ha2 hp2 ⊢
  go_upto_region 4 with (fail)
  go_upto_region 5 with (fail)
  have HBD := Lib.hid ((Below.refl W2.heap.size W2).drew)
  have HC := Lib.hid (rpWrite (HS.out.below HBD.out))
  go_wp2_with (go_at_call 149; refine HC.out.mono ?_; intro e w3 hm; have HM := Lib.hid hm; obtain ⟨rfl, _⟩ := hm)
  go_end0
  exact (HM.out.after HBD.out).afterT HT.out
end Go.Proofs.YtikcnioooihncaaGreat
namespace Go.Proofs.YtikcnioooihncaaGreat
open Go.RowKit

theorem rp_jn (pad : Int) : Hd.jn (wrap32 pad) (-1) = Hd.jn pad (-1) := by
  have h : wrap32 pad = Hd.s32 pad := by unfold wrap32 Hd.s32; omega
  rw [h]
  unfold Hd.jn Hd.s32
  split <;> omega

set_option maxRecDepth 100000 in
set_option maxHeartbeats 1600000 in
/-- The tail is moved over padding: its header is written. -/
theorem rpClaim1Pad {w : World} {F : Nat → Prop} {g : Nat} {s : Rs} {dv : Value} (h : RpBare w F g s dv) {a b : Nat} (ha : Capt w F g a (.pointer (some ⟨g, 0, none⟩))) (pad : Int) (hnz : pad ≠ 0) (hb : Capt w F g b (.int .i64 pad)) (V : Nat) (A : Option Addr) (L cp : Nat) :
    Calls Tryz.prog 148 #[.agg #[.int .u64 V, .bool true, .slice A L cp], .pointer (some ⟨a, 0, none⟩), .pointer (some ⟨b, 0, none⟩)] w (RpMoved F g { s with p := Rs.wr (s.t + pad), cl := true, ph := .padd pad } w) := by
  have hb0 := (Below.refl w.heap.size w).alloc (Nat.le_refl _) (.cells #[.int .u64 V, .bool true, .slice A L cp] 25)
  have hx := Go.Deep.blk_alloc_new w (.cells #[.int .u64 V, .bool true, .slice A L cp] 25)
  have hc1 := (hb0.cell (p := ⟨a, 0, none⟩) (lt_of_cell ha.2.2)).trans ha.2.2
  have hp1 := (hb0.cell (p := ⟨b, 0, none⟩) (lt_of_cell hb.2.2)).trans hb.2.2
  have hFa := ha.1
  have hag : ¬ g = a := fun e => ha.2.1 e.symm
  have hbg : ¬ g = b := fun e => hb.2.1 e.symm
  have HH := Lib.hid (h.below hb0)
  have HW := Lib.hid hb0
  clear h hb0 ha hb
  go_enter Tryz.func148, Tryz.ntmps148
  go_upto_region 1 with (fail)
  generalize w.alloc (.cells #[.int .u64 V, .bool true, .slice A L cp] 25) = W at hx HH HW hc1 hp1 ⊢
  have x1 : W.cell? ⟨w.heap.size, 1, none⟩ = some (.bool true) := by simp [World.cell?, hx]
  clear hx
  obtain ⟨b0, bv, hblk⟩ := HH.out.blk
  have c13 := hblk.c13
  have c14 := hblk.c14
  have c15 := hblk.c15
  have f14 := hblk.free 14
  have f15 := hblk.free 15
  clear hblk
  go_upto_region 2 with (fail)
  go_upto_region 3 with (fail)
  go_region_held3 (fun w' => w'.cell? ⟨a, 0, none⟩ = some (.pointer (some ⟨g, 0, none⟩)) ∧ w'.cell? ⟨b, 0, none⟩ = some (.int .i64 pad) ∧ w'.cell? ⟨g, 13, none⟩ = some (.int .i64 s.t)) (simp [*, World.cell?_setCell_far, World.cell?_setCell_other]) (fail)
  have hwr : IntKind.i64.wrap (s.t + pad) = Rs.wr (s.t + pad) := by rw [IntKind.wrap_i64, Rs.wr, wrap64]
  rw [hwr]
  have HS := Lib.hid ((HH.out.store (s' := { s with p := Rs.wr (s.t + pad) }) 14 (.int .i64 (Rs.wr (s.t + pad))) (fun _ _ => rp_setP _ _ _ _ _ _) (HH.out.ok.withP _) rfl rfl).store (s' := { s with p := Rs.wr (s.t + pad), cl := true }) 15 (.bool true) (fun _ _ => rp_setC _ _ _ _ _ _) (HH.out.ok.withP _).withC rfl rfl)
  have HT : Hid (Touch F w ((W.setCell ⟨g, 14, none⟩ (.int .i64 (Rs.wr (s.t + pad)))).setCell ⟨g, 15, none⟩ (.bool true))) := Lib.hid (((Touch.of_below HW.out).setCell (p := ⟨g, 14, none⟩) HH.out.own _).setCell (p := ⟨g, 15, none⟩) HH.out.own _)
  have ha2 : ((W.setCell ⟨g, 14, none⟩ (.int .i64 (Rs.wr (s.t + pad)))).setCell ⟨g, 15, none⟩ (.bool true)).cell? ⟨a, 0, none⟩ = some (.pointer (some ⟨g, 0, none⟩)) := (World.cell?_setCell_far _ _ _ _ hag).trans ((World.cell?_setCell_far _ _ _ _ hag).trans hc1)
  have hp2 : ((W.setCell ⟨g, 14, none⟩ (.int .i64 (Rs.wr (s.t + pad)))).setCell ⟨g, 15, none⟩ (.bool true)).cell? ⟨b, 0, none⟩ = some (.int .i64 pad) := (World.cell?_setCell_far _ _ _ _ hbg).trans ((World.cell?_setCell_far _ _ _ _ hbg).trans hp1)
  clear c13 c14 c15 f14 f15 x1 hc1 hp1 hwr
  generalize (W.setCell ⟨g, 14, none⟩ (.int .i64 (Rs.wr (s.t + pad)))).setCell ⟨g, 15, none⟩ (.bool true) = W2 at HS HT ha2 hp2 ⊢
  go_upto_region 4 with (fail)
  have hdec : decide (pad = 0) = false := by simpa using hnz
  have hjn := rp_jn pad
  obtain ⟨Vp, hV, hVn⟩ : ∃ V : Nat, Hd.jn pad (-1) = (V : Int) ∧ (Hd.jn pad (-1)).toNat = V := rp_cast _ (Hd.jn_bounds _ _).1
  have HVN := Lib.hid hVn
  clear hVn
  go_upto_region 7 with (go_at_call 150; refine (record_any (wrap32 pad) (-1) _).mono ?_; rintro e w' ⟨rfl, rfl⟩; rw [hjn, hV])
  have HBD := Lib.hid ((Below.refl W2.heap.size W2).drew)
  have HS3 := Lib.hid (HS.out.below HBD.out)
  have k3 : W2.drew.cell? ⟨a, 0, none⟩ = some (.pointer (some ⟨g, 0, none⟩)) := ha2
  obtain ⟨b3, v3, hblk3⟩ := HS3.out.blk
  have HB3 := Lib.hid hblk3
  have t3 := hblk3.c13
  have z3 := hblk3.c0
  have o3 := hblk3.c1
  clear hblk3 ha2 hp2
  generalize W2.drew = W3 at HBD HS3 HB3 k3 t3 z3 o3 ⊢
  have hla := lt_of_cell k3
  have hlg := lt_of_cell t3
  have hga : ¬ a = g := fun e => hag e.symm
  go_region_held3 (fun w' => w'.cell? ⟨a, 0, none⟩ = some (.pointer (some ⟨g, 0, none⟩)) ∧ w'.cell? ⟨g, 0, none⟩ = some (.int .i64 s.B) ∧ w'.cell? ⟨g, 1, none⟩ = some (.int .i64 s.Z) ∧ w'.cell? ⟨g, 13, none⟩ = some (.int .i64 s.t)) (go_keep)
    (first
      | (go_at_call 54; refine (rpDo (HB3.out.below hb2) ⟨2, s.spot s.t, 8, Vp, 0, []⟩ none 0 0 151 #[] #[.pointer (some ⟨a, 0, none⟩)]).mono ?_; intro e wd has; have HAS := Lib.hid has; obtain ⟨rfl, hblkd, htd⟩ := has; have kd := (htd.cell (p := ⟨a, 0, none⟩) (lt_of_cell k2) hga).trans k2; have o0d := hblkd.c0; have o1d := hblkd.c1; have o13d := hblkd.c13; clear hblkd)
      | (go_at_call 122; refine (stSet (s.spot s.t) Vp _).mono ?_; rintro e x2 ⟨rfl, hq2⟩; have hb2 := hb1.trans (hq2.mono hb1.size); have k2 := (hb2.cell (p := ⟨a, 0, none⟩) hla).trans k3; have o02 := (hb2.cell (p := ⟨g, 0, none⟩) hlg).trans z3; have o12 := (hb2.cell (p := ⟨g, 1, none⟩) hlg).trans o3; have o132 := (hb2.cell (p := ⟨g, 13, none⟩) hlg).trans t3)
      | (go_at_call 120; refine (rpAtC HS3.out.ok s.t _).mono ?_; rintro e x1 ⟨rfl, hq1⟩; have hb1 := below_drew hq1; have k1 := (hb1.cell (p := ⟨a, 0, none⟩) hla).trans k3; have o01 := (hb1.cell (p := ⟨g, 0, none⟩) hlg).trans z3; have o11 := (hb1.cell (p := ⟨g, 1, none⟩) hlg).trans o3; have o131 := (hb1.cell (p := ⟨g, 13, none⟩) hlg).trans t3))
  all_goals
    go_wp2
    go_end0
    refine RpMoved.afterT (RpMoved.after (rp_asked (s' := { s with p := Rs.wr (s.t + pad), cl := true, ph := .padd pad }) HS3.out rfl hb2 (show some (⟨2, s.spot s.t, 8, (Hd.jn pad (-1)).toNat, 0, []⟩ : Ac) = _ by rw [HVN.out]) HAS.out (BytesIn.none _ _) fun w8 hk => ?_) HBD.out) HT.out
    exact ⟨a, rfl, ⟨.inl hFa, hga, (World.cell?_of_block (w := x2) (a := ⟨a, 0, none⟩) (hk _ hga (lt_of_cell k2))).trans k2⟩⟩
end Go.Proofs.YtikcnioooihncaaGreat
namespace Go.Proofs.YtikcnioooihncaaGreat
open Go.RowKit

theorem Three.below {w w' : World} {F : Nat → Prop} {g : Nat} {s : Rs} {a b c : Nat} (h : Three w F g s a b c) (hb : Below w.heap.size w w') : Three w' F g s a b c := ⟨h.1.below hb, h.2.1.below hb, h.2.2.below hb⟩
theorem Three.keep {w w' : World} {F F' : Nat → Prop} {g : Nat} {s : Rs} {a b c : Nat} (h : Three w F g s a b c) (hb : ∀ k, F k → k ≠ g → w'.heap[k]? = w.heap[k]?) (hF : ∀ k, F k → F' k) : Three w' F' g s a b c := ⟨(h.1.keep hb).mono hF, (h.2.1.keep hb).mono hF, (h.2.2.keep hb).mono hF⟩

theorem RpMovedG.after {F : Nat → Prop} {g : Nat} {s : Rs} {w W : World} {e : Ending} {w' : World} (h : RpMovedG F g s W e w') (hb : Below w.heap.size w W) (hg : g < w.heap.size) : RpMovedG F g s w e w' := ⟨h.1.after hb, (Touch.of_below hb).trans h.2.1, h.2.2.trans (hb.cell (p := ⟨g, 3, none⟩) hg)⟩

theorem rp_enter (a b c : Nat) (w : World) : (callFunc 158 #[.pointer (some ⟨a, 0, none⟩), .pointer (some ⟨b, 0, none⟩), .pointer (some ⟨c, 0, none⟩)]).run Tryz.prog w = .ok (.enter 158 #[.pointer (some ⟨a, 0, none⟩), .pointer (some ⟨b, 0, none⟩), .pointer (some ⟨c, 0, none⟩)]) w := by
  simp [go_sem]

/-- The bytes' copy is followed: its next access is asked for, or the length's. -/
theorem rpFollow {w : World} {F : Nat → Prop} {g : Nat} {s : Rs} {dv : Value} (h : RpBare w F g s dv) (hF : ∀ k, F k → k < w.heap.size) {a b c : Nat} (ht : Three w F g s a b c) {base top gc d : Nat} {v : Value}
    (hc : Cp w base top gc (.wr (s.spot s.p + 8) s.f) d (s.L - d) v []) (hd : d ≤ s.L) (hsep : ∀ k, (base ≤ k ∧ k < top) ∨ v.ownBlock = some k → F k ∧ k ≠ g ∧ k ≠ a ∧ k ≠ b ∧ k ≠ c ∧ (0 < s.L → dv.ownBlock ≠ some k)) :
    Calls Tryz.prog 118 #[.pointer (some ⟨g, 5, none⟩), .iface 179 (.pointer (some ⟨gc, 0, none⟩)), .func (.func 158) #[] #[.pointer (some ⟨a, 0, none⟩), .pointer (some ⟨b, 0, none⟩), .pointer (some ⟨c, 0, none⟩)]] w (RpMovedG F g (if d = s.L then { s with ph := .len } else { s with ph := .byt d }) w) := by
  by_cases hl : d = s.L
  · rw [if_pos hl]
    have hz : s.L - d = 0 := by omega
    rw [hz] at hc
    refine (stFollowNo hc g 5 (Q := fun w' => RpMovedG F g { s with ph := .len } w (.returned (.tuple #[])) w') #[.pointer (some ⟨a, 0, none⟩), .pointer (some ⟨b, 0, none⟩), .pointer (some ⟨c, 0, none⟩)] (by simp) (rp_enter a b c) fun W hW => ?_).mono ?_
    · refine (rpWrite11 (h.below hW) (ht.below hW)).mono ?_
      intro e w' hm
      have hm2 := hm.after hW h.lt
      obtain ⟨⟨rfl, _⟩, _⟩ := hm
      exact ⟨rfl, hm2⟩
    · rintro e w' ⟨rfl, hm⟩
      exact hm
  · rw [if_neg hl]
    obtain ⟨a0, av, hblk⟩ := h.blk
    refine (stFollowYes hc (by omega) hblk.st 158 #[] #[.pointer (some ⟨a, 0, none⟩), .pointer (some ⟨b, 0, none⟩), .pointer (some ⟨c, 0, none⟩)]).mono ?_
    rintro e w' ⟨rfl, W, A, l, cp, hW, ho, k0, k1, k2, rfl⟩
    have hgl := hblk.lt
    have has : RpAsked g s dv ⟨6, s.spot s.p + 8 + (d : Nat), (Cy.nx (s.L - d) : Nat), 0, 0, Mb.bl s.f d (Cy.nx (s.L - d))⟩ (.slice A l cp) (.func (.func 139) #[] #[.pointer (some ⟨w.heap.size + 1, 0, none⟩), .pointer (some ⟨w.heap.size, 0, none⟩), .pointer (some ⟨w.heap.size + 2, 0, none⟩)]) W (.returned (.tuple #[])) _ :=
      ⟨rfl, rp_seven (hblk.below hW) _ _ _, seven_touch1 W g 5 _ _ _⟩
    refine ⟨rp_askedS (s' := { s with ph := .byt d }) h rfl hW rfl has ?_ fun w2 hs hk => ?_, (Touch.of_below hW).trans (seven_touch1 W g 5 _ _ _), has.2.1.c3.trans hblk.c3.symm⟩
    · have hbi := (BytesIn.of_own ho).lt
      exact hbi.mono fun k h1 _ => ⟨.inr ⟨by have := h1.1; omega, h1.2⟩, by have := h1.1; omega⟩
    · have l0 := lt_of_cell k0
      have l1 := lt_of_cell k1
      have l2 := lt_of_cell k2
      have hne0 : w.heap.size ≠ g := by omega
      have hne1 : w.heap.size + 1 ≠ g := by omega
      have hne2 : w.heap.size + 2 ≠ g := by omega
      have hFk : ∀ k, F k → k ≠ g → w2.heap[k]? = w.heap[k]? := fun k hkF hkg => (hk k hkg (Nat.lt_of_lt_of_le (hF k hkF) hW.size)).trans (hW.block k (hF k hkF))
      refine ⟨w.heap.size + 1, w.heap.size, w.heap.size + 2, a, b, c, gc, base, top, v, rfl, ⟨.inr ⟨by omega, l1⟩, hne1, (World.cell?_of_block (w := W) (a := ⟨w.heap.size + 1, 0, none⟩) (hk _ hne1 l1)).trans k1⟩, ⟨.inr ⟨by omega, l0⟩, hne0, (World.cell?_of_block (w := W) (a := ⟨w.heap.size, 0, none⟩) (hk _ hne0 l0)).trans k0⟩, ⟨.inr ⟨by omega, l2⟩, hne2, (World.cell?_of_block (w := W) (a := ⟨w.heap.size + 2, 0, none⟩) (hk _ hne2 l2)).trans k2⟩, ht.keep hFk fun k hk => .inl hk, ?_, fun k hk2 => ?_, show d < s.L by omega⟩
      · refine hc.keep (Nat.le_trans hW.size hs) (fun k h1 h2 => ?_) fun k h1 => ?_
        · have := hsep k (.inl ⟨h1, h2⟩)
          exact hFk k this.1 this.2.1
        · have := hsep k (.inr h1)
          exact hFk k this.1 this.2.1
      · have h5 := hsep k hk2
        have h6 := hF k h5.1
        exact ⟨.inl h5.1, h5.2.1, by omega, by omega, by omega, h5.2.2.1, h5.2.2.2.1, h5.2.2.2.2.1, h5.2.2.2.2.2 (by omega)⟩
end Go.Proofs.YtikcnioooihncaaGreat
namespace Go.Proofs.YtikcnioooihncaaGreat
open Go.RowKit

theorem RpMovedG.narrow {F F2 : Nat → Prop} {g : Nat} {s : Rs} {w W : World} {e : Ending} {w' : World} (h : RpMovedG F2 g s W e w') (hb : Below w.heap.size w W) (hg : g < w.heap.size) (hF : ∀ k, F2 k → F k ∨ (w.heap.size ≤ k ∧ k < W.heap.size)) : RpMovedG F g s w e w' := ⟨h.1.narrow hb hF, (Touch.of_below hb).trans h.2.1, h.2.2.trans (hb.cell (p := ⟨g, 3, none⟩) hg)⟩

theorem rp_sep {w : World} {F : Nat → Prop} {g : Nat} {s : Rs} {dv : Value} (h : RpBare w F g s dv) {n top a b c : Nat} (hnm : n ≤ w.heap.size) (ha : a < w.heap.size) (hb : b < w.heap.size) (hc : c < w.heap.size) (k : Nat) (hk : (w.heap.size ≤ k ∧ k < top) ∨ Value.ownBlock (.slice none 0 0) = some k) :
    (F k ∨ (n ≤ k ∧ k < top)) ∧ k ≠ g ∧ k ≠ a ∧ k ≠ b ∧ k ≠ c ∧ (0 < s.L → dv.ownBlock ≠ some k) := by
  have hg := h.lt
  rcases hk with hk | hk
  · refine ⟨.inr ⟨by omega, hk.2⟩, by omega, by omega, by omega, by omega, fun hp e => ?_⟩
    have hx : 0 < (Mb.bl s.f 0 s.L).length := by rw [Mb.bl_length]; exact hp
    obtain ⟨A, cp, hv, hh⟩ := h.txt
    obtain ⟨b', off, e2, h1, h2, h3⟩ := hh hx
    rw [hv, e2] at e
    injection e with e
    simp only at e
    omega
  · cases hk

set_option maxRecDepth 100000 in
set_option maxHeartbeats 1600000 in
/-- The header was stored: the bytes' copy is made and followed. -/
theorem rpWrite1 {w : World} {F : Nat → Prop} {g : Nat} {s : Rs} {dv : Value} (h : RpBare w F g s dv) (hF : ∀ k, F k → k < w.heap.size) {a b c : Nat} (ht : Three w F g s a b c) (V : Nat) (D : Bool) (A : Option Addr) (L cp : Nat) :
    Calls Tryz.prog 156 #[.agg #[.int .u64 V, .bool D, .slice A L cp], .pointer (some ⟨a, 0, none⟩), .pointer (some ⟨b, 0, none⟩), .pointer (some ⟨c, 0, none⟩)] w (RpMovedG F g (if 0 = s.L then { s with ph := .len } else { s with ph := .byt 0 }) w) := by
  have hb0 := (Below.refl w.heap.size w).alloc (Nat.le_refl _) (.cells #[.int .u64 V, .bool D, .slice A L cp] 25)
  have hsp := h.ok.place_in s.p
  have hb1 := h.ok.b1
  have hfew := h.ok.few
  have hz1 := h.ok.z1
  have hsv : s.spot s.p = (s.B : Int) + s.place s.p := rfl
  have hnear : -4611686018427387904 ≤ s.spot s.p + 8 ∧ s.spot s.p + 8 ≤ 4611686018427387904 := by omega
  have hadd : IntKind.i64.wrap (s.spot s.p + 8) = s.spot s.p + 8 := IntWalk.i64_in _ (by omega)
  have HNE := Lib.hid hnear
  have HLL := Lib.hid (show s.L ≤ 131072 by omega)
  have hgl := h.lt
  have HH := Lib.hid (h.below hb0)
  have HT := Lib.hid (ht.below hb0)
  have HW := Lib.hid hb0
  have HFL := Lib.hid hF
  have hag := ht.1.2.1
  have hbg := ht.2.1.2.1
  have hcg := ht.2.2.2.1
  obtain ⟨s', hs'⟩ : ∃ s' : Rs, s' = (if 0 = s.L then { s with ph := .len } else { s with ph := .byt 0 }) := ⟨_, rfl⟩
  rw [← hs']
  have HS' := Lib.hid hs'
  obtain ⟨Ad, cd, hdv, _, _⟩ := h.dat
  subst hdv
  clear hs' h hb0 hsp hb1 hfew hz1 hsv hnear ht hF
  go_enter Tryz.func156, Tryz.ntmps156
  go_upto_region 1 with (fail)
  generalize w.alloc (.cells #[.int .u64 V, .bool D, .slice A L cp] 25) = W at HH HT HW ⊢
  have hca := HT.out.1.2.2
  have hcb := HT.out.2.1.2.2
  have hcc := HT.out.2.2.2.2
  have hla := lt_of_cell hca
  have hlb := lt_of_cell hcb
  have hlc := lt_of_cell hcc
  obtain ⟨a0, av, hblk⟩ := HH.out.blk
  have c3 := hblk.c3
  have hgW := hblk.lt
  clear hblk
  have hga : ¬ a = g := hag
  have hgb : ¬ b = g := hbg
  have hgc : ¬ c = g := hcg
  clear hag hbg hcg
  go_region_held3 (fun w' => w'.cell? ⟨a, 0, none⟩ = some (.pointer (some ⟨g, 0, none⟩)) ∧ w'.cell? ⟨b, 0, none⟩ = some (.int .i64 (s.spot s.p)) ∧ w'.cell? ⟨g, 3, none⟩ = some (.slice Ad s.L cd)) (go_keep)
    (first
      | (go_at_call 118; refine (rpFollow (HB1.out.wide (F' := fun k => F k ∨ (w.heap.size ≤ k ∧ k < w1.heap.size)) fun k hk => .inl hk) (fun k hk => hk.elim (fun hk => Nat.lt_of_lt_of_le (HFL.out k hk) hbW.size) fun hk => hk.2) (HT1.out.keep (fun _ _ _ => rfl) fun k hk => .inl hk) hc1 (Nat.zero_le _) (rp_sep HH.out HW.out.size hla hlb hlc)).mono ?_; intro e w4 hm; have HM := Lib.hid hm; obtain ⟨⟨rfl, _⟩, ht4, h34⟩ := hm; have o4 := h34.trans o1; have k4 := (ht4.cell (p := ⟨a, 0, none⟩) (lt_of_cell k1) hga).trans k1; have m4 := (ht4.cell (p := ⟨b, 0, none⟩) (lt_of_cell m1) hgb).trans m1)
      | (go_at_call 157; refine (in_any (s.spot s.p + 8) Ad s.L cd s.f W.drew HNE.out ((HH.out.below (Below.refl W.heap.size W).drew).txt.bytes) HLL.out).mono ?_; rintro e w1 ⟨gc, rfl, hc1, hq1⟩; have hb2 := below_drew hq1; have k1 := (hb2.cell (p := ⟨a, 0, none⟩) hla).trans hca; have m1 := (hb2.cell (p := ⟨b, 0, none⟩) hlb).trans hcb; have o1 := (hb2.cell (p := ⟨g, 3, none⟩) hgW).trans c3; have HB1 := Lib.hid (HH.out.below hb2); have HT1 := Lib.hid (HT.out.below hb2); have hbW := HW.out.trans (hb2.mono HW.out.size)))
  all_goals
    go_wp2
    go_end0
    rw [HS'.out]
    exact HM.out.narrow hbW hgl fun k hk => hk

/-- What a call leaves that turned blocks of the put alone: in the sense of what went on before. -/
theorem RpMoved.around {F F2 : Nat → Prop} {g : Nat} {s : Rs} {w W : World} {e : Ending} {w' : World} (h : RpMoved F2 g s W e w') (ht : Touch F w W) (hF : ∀ k, F2 k → F k ∨ (w.heap.size ≤ k ∧ k < W.heap.size)) : RpMoved F g s w e w' := by
  obtain ⟨he, F', hp, ht2, hF'⟩ := h
  refine ⟨he, F', hp, ⟨ht2.os.trans ht.os, ht2.tape.trans ht.tape, ht2.output.trans ht.output, Nat.le_trans ht.size ht2.size, fun k hk hn => (ht2.block k (Nat.lt_of_lt_of_le hk ht.size) fun e => ?_).trans (ht.block k hk hn)⟩, fun k hk => ?_⟩
  · rcases hF k e with e | e
    · exact hn e
    · omega
  · rcases hF' k hk with e | e
    · exact (hF k e).imp id fun e => ⟨e.1, Nat.lt_of_lt_of_le e.2 ht2.size⟩
    · exact .inr ⟨Nat.le_trans ht.size e.1, e.2⟩

set_option maxHeartbeats 800000 in
/-- A part of the bytes was stored: the next one, or the length. -/
theorem rpFollow1 {w : World} {F : Nat → Prop} {g : Nat} {s : Rs} {dv : Value} (h : RpBare w F g s dv) (hF : ∀ k, F k → k < w.heap.size) {em es eo a b c gc base top d : Nat} {v : Value}
    (hm : Capt w F g em (.iface 179 (.pointer (some ⟨gc, 0, none⟩)))) (hs : Capt w F g es (.pointer (some ⟨g, 5, none⟩))) (ho : Capt w F g eo (.func (.func 158) #[] #[.pointer (some ⟨a, 0, none⟩), .pointer (some ⟨b, 0, none⟩), .pointer (some ⟨c, 0, none⟩)])) (ht : Three w F g s a b c)
    (hc : Cp w base top gc (.wr (s.spot s.p + 8) s.f) d (s.L - d) v []) (hsep : ∀ k, (base ≤ k ∧ k < top) ∨ v.ownBlock = some k → F k ∧ k ≠ g ∧ k ≠ em ∧ k ≠ es ∧ k ≠ eo ∧ k ≠ a ∧ k ≠ b ∧ k ≠ c ∧ dv.ownBlock ≠ some k) (hd : d < s.L)
    (V : Nat) (D : Bool) (A : Option Addr) (L cp : Nat) {zs : List Int} (hz : BytesAt w (.slice A L cp) zs) :
    Calls Tryz.prog 139 #[.agg #[.int .u64 V, .bool D, .slice A L cp], .pointer (some ⟨em, 0, none⟩), .pointer (some ⟨es, 0, none⟩), .pointer (some ⟨eo, 0, none⟩)] w (RpMoved F g (if d + Cy.nx (s.L - d) = s.L then { s with ph := .len } else { s with ph := .byt (d + Cy.nx (s.L - d)) }) w) := by
  have hmine : ∀ k, Mine gc v k → F k ∧ k ≠ g ∧ k ≠ em ∧ k ≠ es ∧ k ≠ eo ∧ k ≠ a ∧ k ≠ b ∧ k ≠ c ∧ dv.ownBlock ≠ some k := fun k hk => by
    rcases hk with hk | hk
    · exact hsep k (.inl ⟨hk ▸ hc.above, hk ▸ hc.under⟩)
    · exact hsep k (.inr hk)
  have hnl := Cy.nx_le (s.L - d)
  obtain ⟨s', hs'⟩ : ∃ s' : Rs, s' = (if d + Cy.nx (s.L - d) = s.L then { s with ph := .len } else { s with ph := .byt (d + Cy.nx (s.L - d)) }) := ⟨_, rfl⟩
  rw [← hs']
  refine (stFollow1 hc (by omega) hm.2.2 hs.2.2 ho.2.2 (fun e => (hmine _ e).2.2.1 rfl) (fun e => (hmine _ e).2.2.2.1 rfl) (fun e => (hmine _ e).2.2.2.2.1 rfl) V D A L cp hz (fun e => by cases e) (Q := fun w' => RpMoved F g s' w (.returned (.tuple #[])) w') fun W v' hc' ht' hl' => ?_).mono ?_
  · have hTF : Touch F w W := ht'.mono fun k hk => (hmine k hk).1
    obtain ⟨a0, av, hblk⟩ := h.blk
    have hgM : ¬ Mine gc v g := fun e => (hmine g e).2.1 rfl
    have hk3 : ∀ q, q ≠ g → F q → (q = a ∨ q = b ∨ q = c) → W.heap[q]? = w.heap[q]? := fun q _ hq hq2 => ht'.block q (hF q hq) fun e => by
      have := hmine q e
      omega
    have hb : RpBare W (fun k => F k ∨ (w.heap.size ≤ k ∧ k < W.heap.size)) g s dv :=
      ⟨⟨a0, av, hblk.of_block (ht'.block g hblk.lt hgM)⟩, .inl h.own, h.ok, h.dat, (h.txt.ownK.keep ht'.size fun k hk hlt => ht'.block k hlt fun e => (hmine k e).2.2.2.2.2.2.2.2 hk.2.2).mono fun k hk _ => ⟨.inl hk.1.1, hk.1.2⟩⟩
    have ht3 : Three W (fun k => F k ∨ (w.heap.size ≤ k ∧ k < W.heap.size)) g s a b c := by
      have cap : ∀ {q : Nat} {u : Value}, Capt w F g q u → (q = a ∨ q = b ∨ q = c) → Capt W (fun k => F k ∨ (w.heap.size ≤ k ∧ k < W.heap.size)) g q u := fun hq h2 => ⟨.inl hq.1, hq.2.1, (World.cell?_of_block (w := w) (a := ⟨_, 0, none⟩) (hk3 _ hq.2.1 hq.1 h2)).trans hq.2.2⟩
      exact ⟨cap ht.1 (.inl rfl), cap ht.2.1 (.inr (.inl rfl)), cap ht.2.2 (.inr (.inr rfl))⟩
    have hsub : s.L - d - Cy.nx (s.L - d) = s.L - (d + Cy.nx (s.L - d)) := by omega
    rw [hsub] at hc'
    have hlt3 : ∀ {q : Nat} {u : Value}, Capt w F g q u → q < w.heap.size := fun hq => hF _ hq.1
    have la := hlt3 ht.1
    have lb := hlt3 ht.2.1
    have lc := hlt3 ht.2.2
    have hgl := hblk.lt
    have hdl : ∀ k, dv.ownBlock = some k → k < w.heap.size := fun k hk => by
      have hx : 0 < (Mb.bl s.f 0 s.L).length := by rw [Mb.bl_length]; omega
      obtain ⟨A', cp', hv, hh⟩ := h.txt
      obtain ⟨b', off, e2, h1, h2, h3⟩ := hh hx
      rw [hv, e2] at hk
      injection hk with hk
      simp only at hk
      omega
    refine (rpFollow hb (fun k hk => hk.elim (fun hk => Nat.lt_of_lt_of_le (hF k hk) ht'.size) fun hk => hk.2) ht3 hc' (by omega) fun k hk => ?_).mono fun e w' hm => ?_
    · have key : (F k ∧ k ≠ g ∧ k ≠ em ∧ k ≠ es ∧ k ≠ eo ∧ k ≠ a ∧ k ≠ b ∧ k ≠ c ∧ dv.ownBlock ≠ some k) ∨ (w.heap.size ≤ k ∧ k < W.heap.size) := by
        rcases hk with hk | hk
        · exact .inl (hsep k (.inl hk))
        · rcases hl' k hk with e | e
          · exact .inl (hsep k (.inr e))
          · exact .inr ⟨e, (hc'.own.ge hk).2⟩
      rcases key with h5 | h5
      · exact ⟨.inl h5.1, h5.2.1, h5.2.2.2.2.2.1, h5.2.2.2.2.2.2.1, h5.2.2.2.2.2.2.2.1, fun _ => h5.2.2.2.2.2.2.2.2⟩
      · exact ⟨.inr h5, by omega, by omega, by omega, by omega, fun _ e => by have := hdl k e; omega⟩
    · have h6 := hm.1.around hTF fun k hk => hk
      rw [← hs'] at h6
      obtain ⟨rfl, _⟩ := hm.1
      exact ⟨rfl, h6⟩
  · rintro e w' ⟨rfl, hm⟩
    exact hm
end Go.Proofs.YtikcnioooihncaaGreat
namespace Go.Proofs.YtikcnioooihncaaGreat
open Go.RowKit

theorem seven_size (W : World) (g o : Nat) (b : Ac) (bv th : Value) : (seven W g o b bv th).heap.size = W.heap.size := by simp [seven, World.setCell]

theorem PutAt.bare {w : World} {F : Nat → Prop} {g : Nat} {s : Rs} {A : Option Addr} {L c : Nat} {a : Ac} {av th : Value} (hk : RpBlk w g s (.slice A L c) a av th) (hg : F g) (hok : s.Ok) (ht : BytesIn (fun k => F k ∧ k ≠ g) w (.slice A L c) (Mb.bl s.f 0 s.L)) (hl : L ≤ c) (hc : c ≤ 9223372036854775807) {W : World} (hW : Below w.heap.size w W) :
    RpBare (seven W g 5 Ac.zero (.slice none 0 0) .nilFunc) F g s (.slice A L c) := by
  have hL : L = s.L := by
    obtain ⟨A', c', e, _⟩ := ht
    injection e with _ e _
    rw [e, Mb.bl_length]
  subst hL
  have hT := seven_touch1 W g 5 Ac.zero (.slice none 0 0) .nilFunc
  exact ⟨⟨_, _, rp_seven (hk.below hW) _ _ _⟩, hg, hok, ⟨A, c, rfl, hl, hc⟩, (ht.below hW).keep hT.size fun k hk hlt => hT.block k hlt hk.2⟩

/-- A byte is none of a put's cells. -/
theorem rp_noByte {w : World} {g : Nat} {s : Rs} {a : Ac} {A A2 : Option Addr} {l l2 c c2 : Nat} {k : FuncId} {rc caps : Array Value} (h : RpBlk w g s (.slice A l c) a (.slice A2 l2 c2) (.func (.func k) rc caps)) (i : Nat) (v : Int) : w.cell? ⟨g, i, none⟩ ≠ some (.int .u8 v) := by
  intro e
  have h' : w.heap[g]? = some (.cells (RpCells s (.slice A l c) a (.slice A2 l2 c2) (.func (.func k) rc caps)) 99 (0, 0)) := h
  simp only [World.cell?, h'] at e
  rcases Nat.lt_or_ge i 17 with hi | hi
  · rcases (by omega : i = 0 ∨ i = 1 ∨ i = 2 ∨ i = 3 ∨ i = 4 ∨ i = 5 ∨ i = 6 ∨ i = 7 ∨ i = 8 ∨ i = 9 ∨ i = 10 ∨ i = 11 ∨ i = 12 ∨ i = 13 ∨ i = 14 ∨ i = 15 ∨ i = 16) with h | h | h | h | h | h | h | h | h | h | h | h | h | h | h | h | h <;> (subst h; simp [RpCells] at e)
  · have : (RpCells s (.slice A l c) a (.slice A2 l2 c2) (.func (.func k) rc caps))[i]? = none := by
      rw [Array.getElem?_eq_none]
      simp [RpCells]
      exact hi
    simp [this] at e

theorem rp_bytes {w w' : World} {g : Nat} {s : Rs} {a : Ac} {A A2 : Option Addr} {l l2 c c2 : Nat} {k : FuncId} {rc caps : Array Value} (h : RpBlk w g s (.slice A l c) a (.slice A2 l2 c2) (.func (.func k) rc caps)) {v : Value} {xs : List Int} (hv : BytesAt w v xs) (ht : Touch (fun k => k = g) w w') : BytesAt w' v xs := by
  obtain ⟨A', c', e, hh⟩ := hv
  refine ⟨A', c', e, fun hp => ?_⟩
  obtain ⟨b, off, e1, hb, hcs⟩ := hh hp
  have hbg : b ≠ g := fun e => by
    subst e
    exact rp_noByte h _ _ (hcs 0 hp)
  exact ⟨b, off, e1, Nat.lt_of_lt_of_le hb ht.size, fun i hi => (World.cell?_of_block (w := w) (a := ⟨b, off + i, none⟩) (ht.block b hb hbg)).trans (hcs i hi)⟩

set_option maxHeartbeats 1000000 in
theorem rpStepsTake {w : World} {F : Nat → Prop} {g : Nat} {s : Rs} (h : PutAt w F g s) (hF : ∀ k, F k → k < w.heap.size) (x : An) (hx : x.V < 18446744073709551616) (A : Option Addr) (l c : Nat) (hB : BytesAt w (.slice A l c) x.bs) :
    Calls Tryz.prog 27 #[.pointer (some ⟨g, 5, none⟩), .agg #[.int .u64 x.V, .bool x.D, .slice A l c]] w (RpMoved F g (s.take x) w) := by
  obtain ⟨Ad, Ld, cd, a, av, th, hblk, hFg, hok, htxt, hl, hc, hth, hnx⟩ := h
  have hgl := hblk.lt
  have hbare : ∀ W, Below w.heap.size w W → RpBare (seven W g 5 Ac.zero (.slice none 0 0) .nilFunc) F g s (.slice Ad Ld cd) := fun W hW => PutAt.bare hblk hFg hok htxt hl hc hW
  have hkeep : ∀ W, Below w.heap.size w W → ∀ k, F k → k ≠ g → (seven W g 5 Ac.zero (.slice none 0 0) .nilFunc).heap[k]? = w.heap[k]? := fun W hW k hk hkg =>
    ((seven_touch1 W g 5 Ac.zero (.slice none 0 0) .nilFunc).block k (Nat.lt_of_lt_of_le (hF k hk) hW.size) hkg).trans (hW.block k (hF k hk))
  have hFW : ∀ W, Below w.heap.size w W → ∀ k, F k → k < (seven W g 5 Ac.zero (.slice none 0 0) .nilFunc).heap.size := fun W hW k hk => by rw [seven_size]; exact Nat.lt_of_lt_of_le (hF k hk) hW.size
  have hTF : ∀ W, Below w.heap.size w W → Touch F w (seven W g 5 Ac.zero (.slice none 0 0) .nilFunc) := fun W hW => (Touch.of_below hW).trans ((seven_touch1 W g 5 _ _ _).mono fun k hk => by have e : k = g := hk; rw [e]; exact hFg)
  have fin : ∀ {k : FuncId} {caps : Array Value} (s' : Rs) (hthv : th = .func (.func k) #[] caps) (args : Array Value) (ha : (#[] : Array Value).push (.agg #[.int .u64 x.V, .bool x.D, .slice A l c]) ++ caps = args) (he : ∀ w, (callFunc k args).run Tryz.prog w = .ok (.enter k args) w)
      (H : ∀ W, Below w.heap.size w W → Calls Tryz.prog k args (seven W g 5 Ac.zero (.slice none 0 0) .nilFunc) (RpMoved F g s' (seven W g 5 Ac.zero (.slice none 0 0) .nilFunc))),
      Calls Tryz.prog 27 #[.pointer (some ⟨g, 5, none⟩), .agg #[.int .u64 x.V, .bool x.D, .slice A l c]] w (RpMoved F g s' w) := by
    intro k caps s' hthv args ha he H
    subst hthv
    refine (stTakeYes hblk.st x.V x.D A l c (Q := fun w' => RpMoved F g s' w (.returned (.tuple #[])) w') args ha he fun W hW => (H W hW).mono fun e w' hm => ?_).mono ?_
    · have h2 := hm.afterT (hTF W hW)
      obtain ⟨rfl, _⟩ := hm
      exact ⟨rfl, h2⟩
    · rintro e w' ⟨rfl, hm⟩
      exact hm
  unfold ThenIs at hth
  unfold Rs.take
  cases hph : s.ph with
  | ask =>
    rw [hph] at hth
    obtain ⟨b, e, hb⟩ := hth
    exact fin _ e _ (by simp) (fun w => by simp [go_sem]) fun W hW => rpBegin1 (hbare W hW) (hb.keep (hkeep W hW)).2.2 hb.2.1 x.V x.D A l c
  | tail =>
    rw [hph] at hth
    obtain ⟨b, e, hb⟩ := hth
    exact fin _ e _ (by simp) (fun w => by simp [go_sem]) fun W hW => rpTry1 (hbare W hW) (hFW W hW) (hb.keep (hkeep W hW)).2.2 hb.2.1 x.V x.D A l c
  | head1 =>
    rw [hph] at hth
    obtain ⟨b1, b2, b3, on, e, h1, h2, h3, h4⟩ := hth
    exact fin _ e _ (by simp) (fun w => by simp [go_sem]) fun W hW => rpAwait1Tail (hbare W hW) (hFW W hW) (h1.keep (hkeep W hW)) (h2.keep (hkeep W hW)) (h3.keep (hkeep W hW)) (OnIs.keep h4 (hkeep W hW) fun _ hk => hk) x.V hx x.D A l c
  | head2 gap =>
    rw [hph] at hth
    obtain ⟨b1, b2, b3, on, e, h1, h2, h3, h4⟩ := hth
    exact fin _ e _ (by simp) (fun w => by simp [go_sem]) fun W hW => rpAwait1Gap (hbare W hW) (hFW W hW) gap (h1.keep (hkeep W hW)) (h2.keep (hkeep W hW)) (h3.keep (hkeep W hW)) (OnIs.keep h4 (hkeep W hW) fun _ hk => hk) x.V hx x.D A l c
  | copy1 =>
    rw [hph] at hth
    obtain ⟨b3, on, e, h3, h4⟩ := hth
    exact fin _ e _ (by simp) (fun w => by simp [go_sem]) fun W hW => rpAwait11Tail (hbare W hW) (hFW W hW) (h3.keep (hkeep W hW)) (OnIs.keep h4 (hkeep W hW) fun _ hk => hk) x.V x.D A l c
  | copy2 gap =>
    rw [hph] at hth
    obtain ⟨b3, on, e, h3, h4⟩ := hth
    exact fin _ e _ (by simp) (fun w => by simp [go_sem]) fun W hW => rpAwait11Gap (hbare W hW) gap (h3.keep (hkeep W hW)) (OnIs.keep h4 (hkeep W hW) fun _ hk => hk) x.V x.D A l c
  | cas pad =>
    rw [hph] at hth
    obtain ⟨b1, b2, e, h1, h2⟩ := hth
    refine fin _ e _ (by simp; rfl) (fun w => by simp [go_sem]) fun W hW => ?_
    cases hD : x.D with
    | false =>
      simp only [if_true]
      exact rpClaim1No (hbare W hW) (h1.keep (hkeep W hW)) x.V A l c
    | true =>
      by_cases hp : pad = 0
      · subst hp
        simp only [if_true]
        exact rpClaim1Yes (hbare W hW) (h1.keep (hkeep W hW)) (h2.keep (hkeep W hW)) x.V A l c
      · simp only [if_neg hp]
        exact rpClaim1Pad (hbare W hW) (h1.keep (hkeep W hW)) pad hp (h2.keep (hkeep W hW)) x.V A l c
  | padd pad =>
    rw [hph] at hth
    obtain ⟨b1, e, h1⟩ := hth
    exact fin _ e _ (by simp) (fun w => by simp [go_sem]) fun W hW => rpClaim11 (hbare W hW) (h1.keep (hkeep W hW)) x.V x.D A l c
  | hdr =>
    rw [hph] at hth
    obtain ⟨b1, b2, b3, e, h1⟩ := hth
    refine fin _ e _ (by simp) (fun w => by simp [go_sem]) fun W hW => (rpWrite1 (hbare W hW) (hFW W hW) (h1.keep (hkeep W hW) fun _ hk => hk) x.V x.D A l c).mono fun e w' hm => ?_
    by_cases hz : s.L = 0
    · have := hm.1
      rw [if_pos hz.symm] at this
      simp only [if_pos hz]
      exact this
    · have := hm.1
      rw [if_neg (fun e => hz e.symm)] at this
      simp only [if_neg hz]
      exact this
  | byt d =>
    rw [hph] at hth
    obtain ⟨em, es, eo, b1, b2, b3, gc, base, top, v, e, h1, h2, h3, h4, h5, h6, h7⟩ := hth
    refine fin _ e _ (by simp; rfl) (fun w => by simp [go_sem]) fun W hW => ?_
    have hT := hTF W hW
    obtain ⟨rfl, hav⟩ := hnx ⟨6, s.spot s.p + 8 + (d : Nat), (Cy.nx (s.L - d) : Nat), 0, 0, Mb.bl s.f d (Cy.nx (s.L - d))⟩ (by unfold Rs.next; rw [hph])
    obtain ⟨Av, cv, hav, _⟩ := hav
    subst hav
    have hblkW := hblk.below hW
    rw [e] at hblkW
    exact rpFollow1 (hbare W hW) (hFW W hW) (h1.keep (hkeep W hW)) (h2.keep (hkeep W hW)) (h3.keep (hkeep W hW)) (h4.keep (hkeep W hW) fun _ hk => hk) (h5.keep hT.size (fun k k1 k2 => hkeep W hW k (h6 k (.inl ⟨k1, k2⟩)).1 (h6 k (.inl ⟨k1, k2⟩)).2.1) fun k k1 => hkeep W hW k (h6 k (.inr k1)).1 (h6 k (.inr k1)).2.1) h6 h7 x.V x.D A l c
      (rp_bytes (k := 139) (rc := #[]) (caps := _) hblkW (hB.below hW) (seven_touch1 W g 5 _ _ _))
  | len =>
    rw [hph] at hth
    exact fin _ hth _ (by simp) (fun w => by simp [go_sem]) fun W hW => rpWrite111 (hbare W hW) x.V x.D A l c
  | fin =>
    rw [hph] at hth
    have e : th = .nilFunc := hth
    subst e
    refine (stTakeNo hblk.c11 x.V x.D A l c).mono ?_
    rintro e w' ⟨rfl, hb⟩
    refine ⟨rfl, F, ⟨Ad, Ld, cd, a, av, _, hblk.below hb, hFg, hok, htxt.below hb, hl, hc, ?_, fun b hb' => ?_⟩, Touch.of_below hb, fun k hk => .inl hk⟩
    · unfold ThenIs
      rw [hph]
    · unfold Rs.next at hb'
      rw [hph] at hb'
      cases hb'
end Go.Proofs.YtikcnioooihncaaGreat
