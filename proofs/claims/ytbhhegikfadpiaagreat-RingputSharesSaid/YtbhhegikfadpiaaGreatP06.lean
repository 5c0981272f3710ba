/-
  Layer 9's fix, walked: it begins, it spans, it looks, further on and further back, it makes padding.
  Layer 9's fix, walked: further on, further back, what the head's header tells, the span.
  Layer 9's fix, walked: what the head's header tells; the span that is looked through.
  Layer 9's fix, walked: what goes on from an answer.
  Layer 7's put is made.
  Layer 9's fix takes an answer, whatever phase it is in; from outside: Take, Next, Result; it is made.
-/
import Derived.Test.YtbhhegikfadpiaaGreatP05
import Derived.Deep.RegionHeld3
import Derived.Test.YtbhhegikfadpiaaGreatP03
namespace Go.Proofs.YtbhhegikfadpiaaGreat
open Go.RowKit

theorem fx_box2 (w : World) (v0 v1 : Value) (T0 T1 : TypeId) (WW : World) (hWW : WW = (w.alloc (.cells #[v0] T0)).alloc (.cells #[v1] T1)) :
    Below w.heap.size w WW ∧ WW.cell? ⟨w.heap.size, 0, none⟩ = some v0 ∧ WW.cell? ⟨w.heap.size + 1, 0, none⟩ = some v1 ∧ WW.heap.size = w.heap.size + 2 := by
  have b1 := (Below.refl w.heap.size w).alloc (Nat.le_refl _) (.cells #[v0] T0)
  have x1 := rp_box w v0 T0
  have s1 : (w.alloc (.cells #[v0] T0)).heap.size = w.heap.size + 1 := by simp
  generalize w.alloc (.cells #[v0] T0) = W1 at *
  have b2 := (Below.refl W1.heap.size W1).alloc (Nat.le_refl _) (.cells #[v1] T1)
  have x2 := rp_box W1 v1 T1
  have s2 : (W1.alloc (.cells #[v1] T1)).heap.size = W1.heap.size + 1 := by simp
  have y1 := (b2.cell (p := ⟨w.heap.size, 0, none⟩) (by show w.heap.size < _; omega)).trans x1
  rw [s1] at x2
  subst hWW
  exact ⟨b1.trans (b2.mono (by omega)), y1, x2, by omega⟩

set_option maxRecDepth 100000 in
set_option maxHeartbeats 800000 in
theorem fxBegin {w : World} {F : Nat → Prop} {g : Nat} {s : Fs} (h : FxBare w F g s) :
    Calls Tryz.prog 28 #[.pointer (some ⟨g, 0, none⟩)] w (FxMoved F g { s with ph := .head } w) := by
  obtain ⟨a, hblk⟩ := h.blk
  have hgl := hblk.lt
  have HH := Lib.hid h
  have HB := Lib.hid hblk
  have hb0 := (Below.refl w.heap.size w).alloc (Nat.le_refl _) (.cells #[.pointer (some ⟨g, 0, none⟩)] 38)
  have hbox := rp_box w (.pointer (some ⟨g, 0, none⟩)) 38
  have hsz : (w.alloc (.cells #[.pointer (some ⟨g, 0, none⟩)] 38)).heap.size = w.heap.size + 1 := by simp
  have c0 := (hb0.cell (p := ⟨g, 0, none⟩) hgl).trans hblk.c0
  have c1 := (hb0.cell (p := ⟨g, 1, none⟩) hgl).trans hblk.c1
  have HW := Lib.hid hb0
  clear h hblk hb0
  go_enter Tryz.func28, Tryz.ntmps28
  go_upto_region 1 with (fail)
  generalize w.alloc (.cells #[.pointer (some ⟨g, 0, none⟩)] 38) = W at hbox HW hsz c0 c1 ⊢
  have hga : ¬ w.heap.size = g := by omega
  have hla : w.heap.size < W.heap.size := by omega
  have hgW : g < W.heap.size := by omega
  clear hsz
  go_region_held3 (fun w' => w'.cell? ⟨w.heap.size, 0, none⟩ = some (.pointer (some ⟨g, 0, none⟩)) ∧ w'.cell? ⟨g, 0, none⟩ = some (.int .i64 s.B) ∧ w'.cell? ⟨g, 1, none⟩ = some (.int .i64 s.Z)) (go_keep)
    (first
      | (go_at_call 55; refine (fxDo (HB.out.below hbl) ⟨1, Rg.num s.B s.Z 16, 8, 0, 0, []⟩ none 0 0 58 #[] #[.pointer (some ⟨w.heap.size, 0, none⟩)]).mono ?_; intro e wd has; have HAS := Lib.hid has; obtain ⟨rfl, hblkd, htd⟩ := has; have kd := (htd.cell (p := ⟨w.heap.size, 0, none⟩) (lt_of_cell k2) hga).trans k2; have o0d := hblkd.c0; have o1d := hblkd.c1; clear hblkd)
      | (go_at_call 56; refine (stLoad (Rg.num s.B s.Z 16) _).mono ?_; rintro e x2 ⟨rfl, hq2⟩; have hb2 := hb1.trans (hq2.mono hb1.size); have k2 := (hb2.cell (p := ⟨w.heap.size, 0, none⟩) hla).trans hbox; have o02 := (hb2.cell (p := ⟨g, 0, none⟩) hgW).trans c0; have o12 := (hb2.cell (p := ⟨g, 1, none⟩) hgW).trans c1; have hbl := HW.out.trans (hb2.mono HW.out.size))
      | (go_at_call 57; refine (rgHead HH.out.ok.rg _).mono ?_; rintro e x1 ⟨rfl, hq1⟩; have hb1 := below_drew hq1; have k1 := (hb1.cell (p := ⟨w.heap.size, 0, none⟩) hla).trans hbox; have o01 := (hb1.cell (p := ⟨g, 0, none⟩) hgW).trans c0; have o11 := (hb1.cell (p := ⟨g, 1, none⟩) hgW).trans c1))
  all_goals
    go_wp2
    go_end0
    obtain ⟨_, hbk, hT⟩ := HAS.out
    exact fx_put HH.out .head ((Touch.of_below hbl).trans hT) hbk rfl trivial ⟨w.heap.size, rfl, .inr ⟨Nat.le_refl _, lt_of_cell kd⟩, hga, kd⟩

/-- What looking at a place leaves. -/
def FxLook (g : Nat) (s : Fs) (q : Int) (on : Value) (w : World) (e : Ending) (w' : World) : Prop :=
  e = .returned (.tuple #[]) ∧ ∃ c, FxBlk w' g s ⟨1, Rg.spot s.B s.Z q, 4, 0, 0, []⟩ (.slice none 0 0) (.func (.func 138) #[] #[.pointer (some ⟨c, 0, none⟩)]) ∧ w.heap.size ≤ c ∧ c < w'.heap.size ∧ w'.cell? ⟨c, 0, none⟩ = some on ∧ Touch (fun k => k = g) w w'

set_option maxRecDepth 100000 in
set_option maxHeartbeats 800000 in
theorem fxLook {w : World} {g : Nat} {s : Fs} {a : Ac} {av th : Value} (hblk : FxBlk w g s a av th) (ok : Rg.Ok s.B s.Z) (q : Int) (k : FuncId) (rc caps : Array Value) :
    Calls Tryz.prog 127 #[.pointer (some ⟨g, 0, none⟩), .int .i64 q, .func (.func k) rc caps] w (FxLook g s q (.func (.func k) rc caps) w) := by
  have hgl := hblk.lt
  have HO := Lib.hid ok
  have HB := Lib.hid hblk
  have hb0 := (Below.refl w.heap.size w).alloc (Nat.le_refl _) (.cells #[.func (.func k) rc caps] 178)
  have hbox := rp_box w (.func (.func k) rc caps) 178
  have hsz : (w.alloc (.cells #[.func (.func k) rc caps] 178)).heap.size = w.heap.size + 1 := by simp
  have c0 := (hb0.cell (p := ⟨g, 0, none⟩) hgl).trans hblk.c0
  have c1 := (hb0.cell (p := ⟨g, 1, none⟩) hgl).trans hblk.c1
  have HW := Lib.hid hb0
  clear hblk hb0 ok
  go_enter Tryz.func127, Tryz.ntmps127
  go_upto_region 1 with (fail)
  generalize w.alloc (.cells #[.func (.func k) rc caps] 178) = W at hbox HW hsz c0 c1 ⊢
  have hga : ¬ w.heap.size = g := by omega
  have hla : w.heap.size < W.heap.size := by omega
  have hgW : g < W.heap.size := by omega
  clear hsz
  go_region_held3 (fun w' => w'.cell? ⟨w.heap.size, 0, none⟩ = some (.func (.func k) rc caps) ∧ w'.cell? ⟨g, 0, none⟩ = some (.int .i64 s.B) ∧ w'.cell? ⟨g, 1, none⟩ = some (.int .i64 s.Z)) (go_keep)
    (first
      | (go_at_call 55; refine (fxDo (HB.out.below hbl) ⟨1, Rg.spot s.B s.Z q, 4, 0, 0, []⟩ none 0 0 138 #[] #[.pointer (some ⟨w.heap.size, 0, none⟩)]).mono ?_; intro e wd has; have HAS := Lib.hid has; obtain ⟨rfl, hblkd, htd⟩ := has; have kd := (htd.cell (p := ⟨w.heap.size, 0, none⟩) (lt_of_cell k2) hga).trans k2; have o0d := hblkd.c0; have o1d := hblkd.c1; clear hblkd)
      | (go_at_call 137; refine (stLoadHalf (Rg.spot s.B s.Z q) _).mono ?_; rintro e x2 ⟨rfl, hq2⟩; have hb2 := hb1.trans (hq2.mono hb1.size); have k2 := (hb2.cell (p := ⟨w.heap.size, 0, none⟩) hla).trans hbox; have o02 := (hb2.cell (p := ⟨g, 0, none⟩) hgW).trans c0; have o12 := (hb2.cell (p := ⟨g, 1, none⟩) hgW).trans c1; have hbl := HW.out.trans (hb2.mono HW.out.size))
      | (go_at_call 90; refine (rgAt HO.out q _).mono ?_; rintro e x1 ⟨rfl, hq1⟩; have hb1 := below_drew hq1; have k1 := (hb1.cell (p := ⟨w.heap.size, 0, none⟩) hla).trans hbox; have o01 := (hb1.cell (p := ⟨g, 0, none⟩) hgW).trans c0; have o11 := (hb1.cell (p := ⟨g, 1, none⟩) hgW).trans c1))
  all_goals
    go_wp2
    go_end0
    obtain ⟨_, hbk, hT⟩ := HAS.out
    exact ⟨rfl, w.heap.size, hbk, Nat.le_refl _, lt_of_cell kd, kd, (Touch.of_below hbl).trans hT⟩

set_option maxRecDepth 100000 in
set_option maxHeartbeats 800000 in
theorem fxPad {w : World} {F : Nat → Prop} {g : Nat} {s : Fs} (h : FxBare w F g s) (n : Int) (hn : -8192 ≤ n ∧ n ≤ 8192) :
    Calls Tryz.prog 117 #[.pointer (some ⟨g, 0, none⟩), .int .i32 n] w (FxMoved F g { s with ph := .padd n } w) := by
  obtain ⟨a, hblk⟩ := h.blk
  have hgl := hblk.lt
  have HH := Lib.hid h
  have HB := Lib.hid hblk
  obtain ⟨WW, hWW⟩ : ∃ WW, WW = (w.alloc (.cells #[.pointer (some ⟨g, 0, none⟩)] 38)).alloc (.cells #[.int .i32 n] 21) := ⟨_, rfl⟩
  obtain ⟨hb0, hbox, hbox1, hsz⟩ := fx_box2 w (.pointer (some ⟨g, 0, none⟩)) (.int .i32 n) _ _ WW hWW
  have c0 := (hb0.cell (p := ⟨g, 0, none⟩) hgl).trans hblk.c0
  have c1 := (hb0.cell (p := ⟨g, 1, none⟩) hgl).trans hblk.c1
  have c9 := (hb0.cell (p := ⟨g, 9, none⟩) hgl).trans hblk.c9
  have HW := Lib.hid hb0
  have HN := Lib.hid hn
  clear h hblk hb0 hn
  go_enter Tryz.func117, Tryz.ntmps117
  go_upto_region 1 with (fail)
  rw [← hWW]
  clear hWW
  have hga : ¬ w.heap.size = g := by omega
  have hgb : ¬ w.heap.size + 1 = g := by omega
  have hla : w.heap.size < WW.heap.size := by omega
  have hlb : w.heap.size + 1 < WW.heap.size := by omega
  have hgW : g < WW.heap.size := by omega
  clear hsz
  obtain ⟨Vp, hV, hVn⟩ : ∃ V : Nat, Hd.jn n (-1) = (V : Int) ∧ (Hd.jn n (-1)).toNat = V := rp_cast _ (Hd.jn_bounds _ _).1
  have HVN := Lib.hid hVn
  clear hVn
  go_region_held3 (fun w' => w'.cell? ⟨w.heap.size, 0, none⟩ = some (.pointer (some ⟨g, 0, none⟩)) ∧ w'.cell? ⟨w.heap.size + 1, 0, none⟩ = some (.int .i32 n) ∧ w'.cell? ⟨g, 0, none⟩ = some (.int .i64 s.B) ∧ w'.cell? ⟨g, 1, none⟩ = some (.int .i64 s.Z) ∧ w'.cell? ⟨g, 9, none⟩ = some (.int .i64 s.a)) (go_keep)
    (first
      | (go_at_call 55; refine (fxDo (HB.out.below hbl) ⟨2, Rg.spot s.B s.Z s.a, 8, Vp, 0, []⟩ none 0 0 131 #[] #[.pointer (some ⟨w.heap.size + 1, 0, none⟩), .pointer (some ⟨w.heap.size, 0, none⟩)]).mono ?_; intro e wd has; have HAS := Lib.hid has; obtain ⟨rfl, hblkd, htd⟩ := has; have kd := (htd.cell (p := ⟨w.heap.size, 0, none⟩) (lt_of_cell k3) hga).trans k3; have md := (htd.cell (p := ⟨w.heap.size + 1, 0, none⟩) (lt_of_cell m3) hgb).trans m3; have o0d := hblkd.c0; have o1d := hblkd.c1; have o9d := hblkd.c9; clear hblkd)
      | (go_at_call 120; refine (stSet (Rg.spot s.B s.Z s.a) Vp _).mono ?_; rintro e x3 ⟨rfl, hq3⟩; have hb3 := hb1.trans (hq3.mono hb1.size); have k3 := (hb3.cell (p := ⟨w.heap.size, 0, none⟩) hla).trans hbox; have m3 := (hb3.cell (p := ⟨w.heap.size + 1, 0, none⟩) hlb).trans hbox1; have o03 := (hb3.cell (p := ⟨g, 0, none⟩) hgW).trans c0; have o13 := (hb3.cell (p := ⟨g, 1, none⟩) hgW).trans c1; have o93 := (hb3.cell (p := ⟨g, 9, none⟩) hgW).trans c9; have hbl := HW.out.trans (hb3.mono HW.out.size))
      | (go_at_call 130; refine (record_any n (-1) _).mono ?_; rintro e x2 ⟨rfl, rfl⟩; rw [hV])
      | (go_at_call 90; refine (rgAt HH.out.ok.rg s.a _).mono ?_; rintro e x1 ⟨rfl, hq1⟩; have hb1 := below_drew hq1; have k1 := (hb1.cell (p := ⟨w.heap.size, 0, none⟩) hla).trans hbox; have m1 := (hb1.cell (p := ⟨w.heap.size + 1, 0, none⟩) hlb).trans hbox1; have o01 := (hb1.cell (p := ⟨g, 0, none⟩) hgW).trans c0; have o11 := (hb1.cell (p := ⟨g, 1, none⟩) hgW).trans c1; have o91 := (hb1.cell (p := ⟨g, 9, none⟩) hgW).trans c9))
  all_goals
    go_wp2
    go_end0
    obtain ⟨_, hbk, hT⟩ := HAS.out
    refine fx_put HH.out (.padd n) ((Touch.of_below hbl).trans hT) hbk (by show some (⟨2, Rg.spot s.B s.Z s.a, 8, (Hd.jn n (-1)).toNat, 0, []⟩ : Ac) = _; rw [HVN.out]) HN.out ⟨w.heap.size + 1, w.heap.size, rfl, ⟨.inr ⟨Nat.le_succ _, lt_of_cell md⟩, hgb, md⟩, .inr ⟨Nat.le_refl _, lt_of_cell kd⟩, hga, kd⟩

end Go.Proofs.YtbhhegikfadpiaaGreat
namespace Go.Proofs.YtbhhegikfadpiaaGreat
open Go.RowKit

/-- What looking at a place leaves, of a fix that is at one. -/
theorem fx_looked {w w1 w3 : World} {F : Nat → Prop} {g : Nat} {s : Fs} {q : Int} {on : Value} {e : Ending} (h : FxBare w F g s) (hw : Below w.heap.size w w1) (hl : FxLook g s q on w1 e w3) (ph : Fh) (hph : ph = .up q ∨ ph = .down q) (hq : 0 ≤ q ∧ q ≤ s.Z)
    (hon : (ph = .up q → FUp w3 (fun k => F k ∨ (w.heap.size ≤ k ∧ k < w3.heap.size)) g q on) ∧ (ph = .down q → FDown w3 (fun k => F k ∨ (w.heap.size ≤ k ∧ k < w3.heap.size)) g q on)) : FxMoved F g { s with ph := ph } w e w3 := by
  obtain ⟨rfl, c, hk, h1, h2, h3, ht⟩ := hl
  have hgl := h.lt
  have hc : Capt w3 (fun k => F k ∨ (w.heap.size ≤ k ∧ k < w3.heap.size)) g c on := ⟨.inr ⟨Nat.le_trans hw.size h1, h2⟩, by have := hw.size; omega, h3⟩
  have hT := (Touch.of_below (S := fun k => k = g) hw).trans ht
  rcases hph with e | e
  · subst e
    exact fx_put h (.up q) hT hk rfl hq ⟨c, on, rfl, hc, hon.1 rfl⟩
  · subst e
    exact fx_put h (.down q) hT hk rfl hq ⟨c, on, rfl, hc, hon.2 rfl⟩

set_option maxRecDepth 100000 in
set_option maxHeartbeats 800000 in
theorem fxAhead {w : World} {F : Nat → Prop} {g : Nat} {s : Fs} (h : FxBare w F g s) (q : Int) (hq : 0 ≤ q ∧ q ≤ 20000) :
    Calls Tryz.prog 115 #[.pointer (some ⟨g, 0, none⟩), .int .i64 q, .func (.func 116) #[.pointer (some ⟨g, 0, none⟩)] #[]] w (FxMoved F g (s.ahead q) w) := by
  obtain ⟨a, hblk⟩ := h.blk
  have hgl := hblk.lt
  have HH := Lib.hid h
  have HB := Lib.hid hblk
  obtain ⟨WW, hWW⟩ : ∃ WW, WW = ((w.alloc (.cells #[.pointer (some ⟨g, 0, none⟩)] 38)).alloc (.cells #[.int .i64 q] 2)).alloc (.cells #[.func (.func 116) #[.pointer (some ⟨g, 0, none⟩)] #[]] 172) := ⟨_, rfl⟩
  obtain ⟨hb0, x0, x1, x2, hsz⟩ := rp_boxes w (.pointer (some ⟨g, 0, none⟩)) (.int .i64 q) (.func (.func 116) #[.pointer (some ⟨g, 0, none⟩)] #[]) _ _ _ WW hWW
  have c10 := (hb0.cell (p := ⟨g, 10, none⟩) hgl).trans hblk.c10
  have hbl : ∀ n, Below w.heap.size w (WW.drewN n) := fun n => hb0.trans ((drewN_below WW n).mono hb0.size)
  have HBL := Lib.hid hbl
  have HQ := Lib.hid hq
  clear h hblk hb0 hbl hq
  by_cases hle : s.b ≤ q
  · have hd : decide (s.b ≤ q) = true := decide_eq_true hle
    have HS := Lib.hid (show s.ahead q = { s with ph := .fin } by unfold Fs.ahead; rw [if_pos hle])
    clear hle
    go_enter Tryz.func115, Tryz.ntmps115
    go_upto_region 1 with (fail)
    rw [← hWW]
    clear hWW
    go_quiet (fail)
    go_wp2
    go_end0
    rw [HS.out]
    exact fx_done ((HH.out.below (HBL.out _)).withPh .fin) (Touch.of_below (HBL.out _)) rfl
  · have hd : decide (s.b ≤ q) = false := decide_eq_false hle
    have HS := Lib.hid (show s.ahead q = { s with ph := .up q } by unfold Fs.ahead; rw [if_neg hle])
    have HLE := Lib.hid hle
    clear hle
    go_enter Tryz.func115, Tryz.ntmps115
    go_upto_region 1 with (fail)
    rw [← hWW]
    clear hWW
    go_quiet (fail)
    go_wp2_with (go_at_call 127; refine (fxLook (HB.out.below (HBL.out _)) HH.out.ok.rg q 128 #[] #[.pointer (some ⟨w.heap.size, 0, none⟩), .pointer (some ⟨w.heap.size + 1, 0, none⟩), .pointer (some ⟨w.heap.size + 2, 0, none⟩)]).mono ?_; intro e w3 hl; have HL := Lib.hid hl; obtain ⟨rfl, _⟩ := hl)
    go_end0
    rw [HS.out]
    obtain ⟨_, c, hk, h1, h2, h3, ht⟩ := HL.out
    have hs3 : w.heap.size + 3 ≤ w3.heap.size := by have := ht.size; have e : (WW.drewN nq).heap.size = WW.heap.size := rfl; omega
    refine fx_looked HH.out (HBL.out _) HL.out (.up q) (.inl rfl) ⟨HQ.out.1, by have := HLE.out; have := HH.out.ok.b0; omega⟩ ⟨fun _ => ⟨w.heap.size, w.heap.size + 1, w.heap.size + 2, rfl, ⟨.inr ⟨by omega, by omega⟩, by omega, ?_⟩, ⟨.inr ⟨by omega, by omega⟩, by omega, ?_⟩, ⟨.inr ⟨by omega, by omega⟩, by omega, ?_⟩⟩, fun e => (by cases e)⟩
    · exact (ht.cell (p := ⟨w.heap.size, 0, none⟩) (show w.heap.size < WW.heap.size by omega) (show ¬ w.heap.size = g by omega)).trans x0
    · exact (ht.cell (p := ⟨w.heap.size + 1, 0, none⟩) (show w.heap.size + 1 < WW.heap.size by omega) (show ¬ w.heap.size + 1 = g by omega)).trans x1
    · exact (ht.cell (p := ⟨w.heap.size + 2, 0, none⟩) (show w.heap.size + 2 < WW.heap.size by omega) (show ¬ w.heap.size + 2 = g by omega)).trans x2

set_option maxRecDepth 100000 in
set_option maxHeartbeats 800000 in
theorem fxBack {w : World} {F : Nat → Prop} {g : Nat} {s : Fs} (h : FxBare w F g s) (q : Int) (hq : 0 ≤ q ∧ q ≤ s.Z) :
    Calls Tryz.prog 116 #[.pointer (some ⟨g, 0, none⟩), .int .i64 q] w (FxMoved F g (s.back q) w) := by
  obtain ⟨a, hblk⟩ := h.blk
  have hgl := hblk.lt
  have HH := Lib.hid h
  have HB := Lib.hid hblk
  have hz1 := h.ok.rg.z1
  have ha0 := h.ok.a0
  have hm0 := h.ok.m0
  have e1 : IntKind.i64.wrap (q - 8) = q - 8 := IntWalk.i64_in _ (by omega)
  have e2 : IntKind.i64.wrap (s.m - s.a) = s.m - s.a := IntWalk.i64_in _ (by omega)
  have e3 : wrap32 (s.m - s.a) = s.m - s.a := by unfold wrap32; omega
  have e4 : IntKind.i32.wrap (s.m - s.a) = s.m - s.a := (Hd.s32_wrap _).trans (Hd.s32_in _ (by omega) (by omega))
  obtain ⟨WW, hWW⟩ : ∃ WW, WW = (w.alloc (.cells #[.pointer (some ⟨g, 0, none⟩)] 38)).alloc (.cells #[.int .i64 (q - 8)] 2) := ⟨_, rfl⟩
  obtain ⟨hb0, x0, x1, hsz⟩ := fx_box2 w (.pointer (some ⟨g, 0, none⟩)) (.int .i64 (q - 8)) _ _ WW hWW
  have c9 := (hb0.cell (p := ⟨g, 9, none⟩) hgl).trans hblk.c9
  have c11 := (hb0.cell (p := ⟨g, 11, none⟩) hgl).trans hblk.c11
  have hbl : ∀ n, Below w.heap.size w (WW.drewN n) := fun n => hb0.trans ((drewN_below WW n).mono hb0.size)
  have HBL := Lib.hid hbl
  have HQ := Lib.hid hq
  have HA := Lib.hid (And.intro hz1 (And.intro ha0 hm0))
  clear h hblk hb0 hbl hq hz1 ha0 hm0
  by_cases hle : q - 8 < s.a
  · have hd : decide (q - 8 < s.a) = true := decide_eq_true hle
    have HS := Lib.hid (show s.back q = { s with ph := .padd (s.m - s.a) } by unfold Fs.back; rw [if_pos hle])
    clear hle
    go_enter Tryz.func116, Tryz.ntmps116
    go_upto_region 2 with (fail)
    rw [← hWW]
    clear hWW
    go_quiet (fail)
    go_upto_region 3 with (fail)
    obtain ⟨n1, hn1⟩ : ∃ n, n = nq := ⟨_, rfl⟩
    rw [← hn1]
    clear hn1
    have HBN := Lib.hid (HBL.out n1)
    have HWN : Hid ((WW.drewN n1).heap.size = WW.heap.size) := Lib.hid rfl
    have y0 : (WW.drewN n1).cell? ⟨w.heap.size, 0, none⟩ = some (.pointer (some ⟨g, 0, none⟩)) := x0
    have y9 : (WW.drewN n1).cell? ⟨g, 9, none⟩ = some (.int .i64 s.a) := c9
    have y11 : (WW.drewN n1).cell? ⟨g, 11, none⟩ = some (.int .i64 s.m) := c11
    generalize WW.drewN n1 = W at HBN HWN y0 y9 y11 ⊢
    clear x0 x1 c9 c11 HBL
    have hga : ¬ w.heap.size = g := by omega
    go_region_held3 (fun w' => w'.cell? ⟨w.heap.size, 0, none⟩ = some (.pointer (some ⟨g, 0, none⟩)) ∧ w'.cell? ⟨g, 9, none⟩ = some (.int .i64 s.a) ∧ w'.cell? ⟨g, 11, none⟩ = some (.int .i64 s.m)) (go_keep)
      (first | (go_at_call 117; refine (fxPad (HH.out.below HBN.out.drew) (s.m - s.a) (by have := HA.out; omega)).mono ?_; intro e w3 hm; have HM := Lib.hid hm; obtain ⟨rfl, F3, hf, ht, _⟩ := hm; have z0 := (ht.cell (p := ⟨w.heap.size, 0, none⟩) (lt_of_cell y0) hga).trans y0; have z9 := fx_c9 hf; have z11 := fx_c11 hf))
    all_goals
      go_wp2
      go_end0
      rw [HS.out]
      exact HM.out.afterT (Touch.of_below HBN.out.drew)
  · have hd : decide (q - 8 < s.a) = false := decide_eq_false hle
    have HS := Lib.hid (show s.back q = { s with ph := .down (q - 8) } by unfold Fs.back; rw [if_neg hle])
    have HLE := Lib.hid hle
    clear hle
    go_enter Tryz.func116, Tryz.ntmps116
    go_upto_region 2 with (fail)
    rw [← hWW]
    clear hWW
    go_quiet (fail)
    go_wp2_with (go_at_call 127; refine (fxLook (HB.out.below (HBL.out _)) HH.out.ok.rg (q - 8) 129 #[] #[.pointer (some ⟨w.heap.size, 0, none⟩), .pointer (some ⟨w.heap.size + 1, 0, none⟩)]).mono ?_; intro e w3 hl; have HL := Lib.hid hl; obtain ⟨rfl, _⟩ := hl)
    go_end0
    rw [HS.out]
    obtain ⟨_, c, hk, h1, h2, h3, ht⟩ := HL.out
    have hs3 : w.heap.size + 2 ≤ w3.heap.size := by have := ht.size; have e : (WW.drewN nq).heap.size = WW.heap.size := rfl; omega
    refine fx_looked HH.out (HBL.out _) HL.out (.down (q - 8)) (.inr rfl) ⟨by have := HLE.out; have := HA.out; omega, by have := HQ.out; omega⟩ ⟨fun e => (by cases e), fun _ => ⟨w.heap.size, w.heap.size + 1, rfl, ⟨.inr ⟨by omega, by omega⟩, by omega, ?_⟩, ⟨.inr ⟨by omega, by omega⟩, by omega, ?_⟩⟩⟩
    · exact (ht.cell (p := ⟨w.heap.size, 0, none⟩) (show w.heap.size < WW.heap.size by omega) (show ¬ w.heap.size = g by omega)).trans x0
    · exact (ht.cell (p := ⟨w.heap.size + 1, 0, none⟩) (show w.heap.size + 1 < WW.heap.size by omega) (show ¬ w.heap.size + 1 = g by omega)).trans x1

end Go.Proofs.YtbhhegikfadpiaaGreat
namespace Go.Proofs.YtbhhegikfadpiaaGreat
open Go.RowKit

set_option maxRecDepth 100000 in
set_option maxHeartbeats 800000 in
theorem fxJudge {w : World} {F : Nat → Prop} {g : Nat} {s : Fs} (h : FxBare w F g s) (l : Int) (hl : -2147483648 ≤ l ∧ l ≤ 2147483647) :
    Calls Tryz.prog 93 #[.pointer (some ⟨g, 0, none⟩), .int .i32 l] w (FxMoved F g (s.judge l) w) := by
  obtain ⟨a, hblk⟩ := h.blk
  have HH := Lib.hid h
  have hz1 := h.ok.rg.z1
  have ha0 := h.ok.a0
  have c1 := hblk.c1
  have c9 := hblk.c9
  have e5 : IntKind.i64.wrap l = l := IntWalk.i64_in _ (by omega)
  have e1 : IntKind.i64.wrap (s.a + 8) = s.a + 8 := IntWalk.i64_in _ (by omega)
  have e2 : IntKind.i64.wrap (s.a - l) = s.a - l := IntWalk.i64_in _ (by omega)
  have HA := Lib.hid (And.intro hz1 (And.intro ha0 hl))
  clear h hblk hz1
  by_cases h0 : l = 0
  · have hd : (l == 0) = true := by simpa using h0
    have HS := Lib.hid (show s.judge l = s.ahead (s.a + 8) by unfold Fs.judge; rw [if_pos h0])
    have HC := Lib.hid (fxAhead HH.out (s.a + 8) (by have := HA.out; omega))
    clear h0 ha0 hl
    go_enter Tryz.func93, Tryz.ntmps93
    go_wp2_with (go_at_call 115; refine HC.out.mono ?_; intro e w3 hm; have HM := Lib.hid hm; obtain ⟨rfl, _⟩ := hm)
    go_end0
    rw [HS.out]
    exact HM.out
  · have hd : (l == 0) = false := by simpa using h0
    have hz1 := HA.out.1
    by_cases h1 : l < 0
    · have hd1 : decide (l < 0) = true := decide_eq_true h1
      by_cases h2 : s.a - l ≤ s.Z
      · have hd2 : decide (s.a - l ≤ s.Z) = true := decide_eq_true h2
        have HS := Lib.hid (show s.judge l = { s with ph := .padd (-l) } by unfold Fs.judge; rw [if_neg h0, if_pos ⟨h1, h2⟩])
        have e6 : IntKind.i32.wrap (-l) = -l := (Hd.s32_wrap _).trans (Hd.s32_in _ (by omega) (by omega))
        have e7 : wrap32 (-l) = -l := by unfold wrap32; omega
        have HC : ∀ n, Calls Tryz.prog 117 #[.pointer (some ⟨g, 0, none⟩), .int .i32 (-l)] (w.drewN n) (FxMoved F g { s with ph := .padd (-l) } (w.drewN n)) := fun n => fxPad (HH.out.below (drewN_below _ _)) (-l) (by have := HA.out; omega)
        have HCC := Lib.hid HC
        clear HC h0 h1 h2 ha0 hl
        go_enter Tryz.func93, Tryz.ntmps93
        go_upto_region 2 with (fail)
        go_quiet (fail)
        go_wp2_with (go_at_call 117; refine (HCC.out _).mono ?_; intro e w3 hm; have HM := Lib.hid hm; obtain ⟨rfl, _⟩ := hm)
        go_end0
        rw [HS.out]
        exact HM.out.afterT (Touch.of_below (drewN_below _ _))
      · have hd2 : decide (s.a - l ≤ s.Z) = false := decide_eq_false h2
        have HS := Lib.hid (show s.judge l = { s with ph := .fin } by unfold Fs.judge; rw [if_neg h0, if_neg (fun e => h2 e.2)])
        clear h0 h1 h2 ha0 hl hz1
        go_enter Tryz.func93, Tryz.ntmps93
        go_upto_region 2 with (fail)
        go_quiet (fail)
        go_wp2
        go_end0
        rw [HS.out]
        exact fx_done ((HH.out.below (drewN_below _ _)).withPh .fin) (Touch.of_below (drewN_below _ _)) rfl
    · have hd1 : decide (l < 0) = false := decide_eq_false h1
      have HS := Lib.hid (show s.judge l = { s with ph := .fin } by unfold Fs.judge; rw [if_neg h0, if_neg (fun e => h1 e.1)])
      clear h0 h1 ha0 hl hz1
      go_enter Tryz.func93, Tryz.ntmps93
      go_upto_region 2 with (fail)
      go_quiet (fail)
      go_wp2
      go_end0
      rw [HS.out]
      exact fx_done ((HH.out.below (drewN_below _ _)).withPh .fin) (Touch.of_below (drewN_below _ _)) rfl

theorem fx_setA (s : Fs) (v : Int) (a : Ac) (av th : Value) : (FxCells s a av th).setIfInBounds 9 (.int .i64 v) = FxCells { s with a := v } a av th := by simp [FxCells]
theorem fx_setB (s : Fs) (v : Int) (a : Ac) (av th : Value) : (FxCells s a av th).setIfInBounds 10 (.int .i64 v) = FxCells { s with b := v } a av th := by simp [FxCells]
theorem fx_setM (s : Fs) (v : Int) (a : Ac) (av th : Value) : (FxCells s a av th).setIfInBounds 11 (.int .i64 v) = FxCells { s with m := v } a av th := by simp [FxCells]
theorem fx_setN (s : Fs) (v : Int) (a : Ac) (av th : Value) : (FxCells s a av th).setIfInBounds 12 (.int .i32 v) = FxCells { s with n := v } a av th := by simp [FxCells]
theorem Fs.Ok.withA {s : Fs} (ok : s.Ok) (v : Int) : ({ s with a := Rg.place s.Z v } : Fs).Ok := ⟨ok.rg, by have := ok.rg.place_in v; show 0 ≤ Rg.place s.Z v ∧ Rg.place s.Z v ≤ s.Z; omega, ok.b0, ok.m0, ok.n0⟩
theorem Fs.Ok.withB {s : Fs} (ok : s.Ok) (v : Int) : ({ s with b := Rg.place s.Z v } : Fs).Ok := ⟨ok.rg, ok.a0, by have := ok.rg.place_in v; show 0 ≤ Rg.place s.Z v ∧ Rg.place s.Z v ≤ s.Z; omega, ok.m0, ok.n0⟩
theorem Fs.Ok.withBZ {s : Fs} (ok : s.Ok) : ({ s with b := (s.Z : Int) } : Fs).Ok := ⟨ok.rg, ok.a0, by show 0 ≤ (s.Z : Int) ∧ (s.Z : Int) ≤ s.Z; omega, ok.m0, ok.n0⟩

set_option maxRecDepth 100000 in
set_option maxHeartbeats 1600000 in
theorem fxSpan {w : World} {F : Nat → Prop} {g : Nat} {s : Fs} (h : FxBare w F g s) (d t : Int) :
    Calls Tryz.prog 61 #[.pointer (some ⟨g, 0, none⟩), .int .i64 d, .int .i64 t] w (FxMoved F g (s.span d t) w) := by
  obtain ⟨a, hblk⟩ := h.blk
  have hgl := hblk.lt
  have HH := Lib.hid h
  have hb0 := (Below.refl w.heap.size w).alloc (Nat.le_refl _) (.cells #[.pointer (some ⟨g, 0, none⟩)] 38)
  have hbox := rp_box w (.pointer (some ⟨g, 0, none⟩)) 38
  have hsz : (w.alloc (.cells #[.pointer (some ⟨g, 0, none⟩)] 38)).heap.size = w.heap.size + 1 := by simp
  have c0 := (hb0.cell (p := ⟨g, 0, none⟩) hgl).trans hblk.c0
  have c1 := (hb0.cell (p := ⟨g, 1, none⟩) hgl).trans hblk.c1
  have c9 := (hb0.cell (p := ⟨g, 9, none⟩) hgl).trans hblk.c9
  have c10 := (hb0.cell (p := ⟨g, 10, none⟩) hgl).trans hblk.c10
  have f9 := (hblk.below hb0).free 9
  have f10 := (hblk.below hb0).free 10
  have HW := Lib.hid hb0
  clear h hblk hb0
  go_enter Tryz.func61, Tryz.ntmps61
  go_upto_region 1 with (fail)
  generalize w.alloc (.cells #[.pointer (some ⟨g, 0, none⟩)] 38) = W at hbox HW hsz c0 c1 c9 c10 f9 f10 ⊢
  have hga : ¬ w.heap.size = g := by omega
  have hag : ¬ g = w.heap.size := by omega
  have hla : w.heap.size < W.heap.size := by omega
  have hgW : g < W.heap.size := by omega
  clear hsz
  go_region_held3 (fun w' => w'.cell? ⟨w.heap.size, 0, none⟩ = some (.pointer (some ⟨g, 0, none⟩)) ∧ w'.cell? ⟨g, 0, none⟩ = some (.int .i64 s.B) ∧ w'.cell? ⟨g, 1, none⟩ = some (.int .i64 s.Z)) (simp [*, World.cell?_setCell_far, World.cell?_setCell_other])
    (first
      | (go_at_call 89; refine (rgPlace HH.out.ok.rg t _).mono ?_; rintro e x2 ⟨rfl, hq2⟩; have hb2 := hb1.trans (hq2.mono hb1.size); have k2 := (hb2.cell (p := ⟨w.heap.size, 0, none⟩) hla).trans hbox; have o02 := (hb2.cell (p := ⟨g, 0, none⟩) hgW).trans c0; have o12 := (hb2.cell (p := ⟨g, 1, none⟩) hgW).trans c1; have o92 := (hb2.cell (p := ⟨g, 9, none⟩) hgW).trans c9; have o102 := (hb2.cell (p := ⟨g, 10, none⟩) hgW).trans c10; have z92 := (hb2.frozen (p := ⟨g, 9, none⟩) hgW).trans f9; have z102 := (hb2.frozen (p := ⟨g, 10, none⟩) hgW).trans f10)
      | (go_at_call 89; refine (rgPlace HH.out.ok.rg d _).mono ?_; rintro e x1 ⟨rfl, hq1⟩; have hb1 := below_drew hq1; have k1 := (hb1.cell (p := ⟨w.heap.size, 0, none⟩) hla).trans hbox; have o01 := (hb1.cell (p := ⟨g, 0, none⟩) hgW).trans c0; have o11 := (hb1.cell (p := ⟨g, 1, none⟩) hgW).trans c1; have o91 := (hb1.cell (p := ⟨g, 9, none⟩) hgW).trans c9; have o101 := (hb1.cell (p := ⟨g, 10, none⟩) hgW).trans c10; have z91 := (hb1.frozen (p := ⟨g, 9, none⟩) hgW).trans f9; have z101 := (hb1.frozen (p := ⟨g, 10, none⟩) hgW).trans f10))
  have hB2 := HW.out.trans (hb2.mono HW.out.size)
  have HS2 := Lib.hid (((HH.out.below hB2).store (s' := { s with a := Rg.place s.Z d }) 9 (.int .i64 (Rg.place s.Z d)) (fun _ => fx_setA _ _ _ _ _) (HH.out.ok.withA d)).store (s' := { s with a := Rg.place s.Z d, b := Rg.place s.Z t }) 10 (.int .i64 (Rg.place s.Z t)) (fun _ => fx_setB _ _ _ _ _) ((HH.out.ok.withA d).withB t))
  have HT2 : Hid (Touch (fun k => k = g) w ((x2.setCell ⟨g, 9, none⟩ (.int .i64 (Rg.place s.Z d))).setCell ⟨g, 10, none⟩ (.int .i64 (Rg.place s.Z t)))) := Lib.hid (((Touch.of_below (S := fun k => k = g) hB2).setCell (p := ⟨g, 9, none⟩) rfl _).setCell (p := ⟨g, 10, none⟩) rfl _)
  have k3 : ((x2.setCell ⟨g, 9, none⟩ (.int .i64 (Rg.place s.Z d))).setCell ⟨g, 10, none⟩ (.int .i64 (Rg.place s.Z t))).cell? ⟨w.heap.size, 0, none⟩ = some (.pointer (some ⟨g, 0, none⟩)) := (World.cell?_setCell_far _ _ _ _ hag).trans ((World.cell?_setCell_far _ _ _ _ hag).trans k2)
  clear hbox c0 c1 c9 c10 f9 f10 k1 o01 o11 o91 o101 z91 z101 o02 o12 o92 o102 z92 z102 k2 hb1 hb2 hq1 hq2 hB2 HW hla hgW
  generalize (x2.setCell ⟨g, 9, none⟩ (.int .i64 (Rg.place s.Z d))).setCell ⟨g, 10, none⟩ (.int .i64 (Rg.place s.Z t)) = W2 at HS2 HT2 k3 ⊢
  obtain ⟨a2, hblk2⟩ := HS2.out.blk
  have c9 : W2.cell? ⟨g, 9, none⟩ = some (.int .i64 (Rg.place s.Z d)) := hblk2.c9
  have c10 : W2.cell? ⟨g, 10, none⟩ = some (.int .i64 (Rg.place s.Z t)) := hblk2.c10
  clear hblk2
  by_cases hle : Rg.place s.Z t ≤ Rg.place s.Z d
  · have hd : decide (Rg.place s.Z t ≤ Rg.place s.Z d) = true := decide_eq_true hle
    have HS := Lib.hid (show s.span d t = { ({ s with a := Rg.place s.Z d, b := (s.Z : Int) } : Fs) with ph := .hdr } by unfold Fs.span; rw [if_pos hle])
    have HOK := Lib.hid ((HH.out.ok.withA d).withBZ)
    clear hle
    go_upto_region 2 with (fail)
    go_quiet (fail)
    go_upto_region 3 with (fail)
    obtain ⟨n1, hn1⟩ : ∃ n, n = nq := ⟨_, rfl⟩
    rw [← hn1]
    clear hn1
    have HS3 := Lib.hid (HS2.out.below (drewN_below W2 n1))
    have HT3 := Lib.hid (HT2.out.trans (Touch.of_below (drewN_below W2 n1)))
    have k4 : (W2.drewN n1).cell? ⟨w.heap.size, 0, none⟩ = some (.pointer (some ⟨g, 0, none⟩)) := k3
    generalize W2.drewN n1 = W3 at HS3 HT3 k4 ⊢
    clear c9 c10 k3 HS2 HT2
    obtain ⟨a3, hblk3⟩ := HS3.out.blk
    have c1 : W3.cell? ⟨g, 1, none⟩ = some (.int .i64 s.Z) := hblk3.c1
    have c10 : W3.cell? ⟨g, 10, none⟩ = some (.int .i64 (Rg.place s.Z t)) := hblk3.c10
    have f10 := hblk3.free 10
    clear hblk3
    go_region_held3 (fun w' => w'.cell? ⟨w.heap.size, 0, none⟩ = some (.pointer (some ⟨g, 0, none⟩)) ∧ w'.cell? ⟨g, 1, none⟩ = some (.int .i64 s.Z)) (simp [*, World.cell?_setCell_far, World.cell?_setCell_other]) (fail)
    have HS4 := Lib.hid ((HS3.out.store (s' := { s with a := Rg.place s.Z d, b := (s.Z : Int) }) 10 (.int .i64 s.Z) (fun _ => fx_setB _ _ _ _ _) HOK.out).below (Below.refl _ _).drew)
    have HTT := Lib.hid ((HT3.out.setCell (p := ⟨g, 10, none⟩) rfl (.int .i64 s.Z)).trans (Touch.of_below (Below.refl (W3.setCell ⟨g, 10, none⟩ (.int .i64 s.Z)).heap.size (W3.setCell ⟨g, 10, none⟩ (.int .i64 s.Z))).drew))
    have k5 : (W3.setCell ⟨g, 10, none⟩ (.int .i64 s.Z)).drew.cell? ⟨w.heap.size, 0, none⟩ = some (.pointer (some ⟨g, 0, none⟩)) := (World.cell?_setCell_far _ _ _ _ hag).trans k4
    clear c1 c10 f10 k4 HS3 HT3
    generalize (W3.setCell ⟨g, 10, none⟩ (.int .i64 s.Z)).drew = W at HS4 HTT k5 ⊢
    obtain ⟨a5, hblk5⟩ := HS4.out.blk
    have HB := Lib.hid hblk5
    have hbox := k5
    have c0 : W.cell? ⟨g, 0, none⟩ = some (.int .i64 s.B) := hblk5.c0
    have c1 : W.cell? ⟨g, 1, none⟩ = some (.int .i64 s.Z) := hblk5.c1
    have c9 : W.cell? ⟨g, 9, none⟩ = some (.int .i64 (Rg.place s.Z d)) := hblk5.c9
    have hla := lt_of_cell k5
    have hgW := hblk5.lt
    have HBR := Lib.hid (Below.refl W.heap.size W)
    clear hblk5 k5
    go_upto_region 4 with (fail)
    go_region_held3 (fun w' => w'.cell? ⟨w.heap.size, 0, none⟩ = some (.pointer (some ⟨g, 0, none⟩)) ∧ w'.cell? ⟨g, 0, none⟩ = some (.int .i64 s.B) ∧ w'.cell? ⟨g, 1, none⟩ = some (.int .i64 s.Z) ∧ w'.cell? ⟨g, 9, none⟩ = some (.int .i64 (Rg.place s.Z d))) (go_keep)
      (first
        | (go_at_call 55; refine (fxDo (HB.out.below hbl) ⟨1, Rg.spot s.B s.Z (Rg.place s.Z d), 8, 0, 0, []⟩ none 0 0 91 #[] #[.pointer (some ⟨w.heap.size, 0, none⟩)]).mono ?_; intro e wd has; have HAS := Lib.hid has; obtain ⟨rfl, hblkd, htd⟩ := has; have kd := (htd.cell (p := ⟨w.heap.size, 0, none⟩) (lt_of_cell k2) hga).trans k2; have o0d := hblkd.c0; have o1d := hblkd.c1; have o9d := hblkd.c9; clear hblkd)
        | (go_at_call 56; refine (stLoad (Rg.spot s.B s.Z (Rg.place s.Z d)) _).mono ?_; rintro e x2 ⟨rfl, hq2⟩; have hb2 := hb1.trans (hq2.mono hb1.size); have k2 := (hb2.cell (p := ⟨w.heap.size, 0, none⟩) hla).trans hbox; have o02 := (hb2.cell (p := ⟨g, 0, none⟩) hgW).trans c0; have o12 := (hb2.cell (p := ⟨g, 1, none⟩) hgW).trans c1; have o92 := (hb2.cell (p := ⟨g, 9, none⟩) hgW).trans c9; have hbl := HBR.out.trans (hb2.mono HBR.out.size))
        | (go_at_call 90; refine (rgAt HH.out.ok.rg (Rg.place s.Z d) _).mono ?_; rintro e x1 ⟨rfl, hq1⟩; have hb1 := below_drew hq1; have k1 := (hb1.cell (p := ⟨w.heap.size, 0, none⟩) hla).trans hbox; have o01 := (hb1.cell (p := ⟨g, 0, none⟩) hgW).trans c0; have o11 := (hb1.cell (p := ⟨g, 1, none⟩) hgW).trans c1; have o91 := (hb1.cell (p := ⟨g, 9, none⟩) hgW).trans c9))
    all_goals
      go_wp2
      go_end0
      obtain ⟨_, hbk, hT⟩ := HAS.out
      rw [HS.out]
      exact fx_put0 (s := { s with a := Rg.place s.Z d, b := (s.Z : Int) }) HH.out.own HOK.out .hdr (HTT.out.trans ((Touch.of_below (hbl.mono (Nat.le_refl _))).trans hT)) hbk rfl trivial ⟨w.heap.size, rfl, .inr ⟨Nat.le_refl _, lt_of_cell kd⟩, hga, kd⟩
  · have hd : decide (Rg.place s.Z t ≤ Rg.place s.Z d) = false := decide_eq_false hle
    have HS := Lib.hid (show s.span d t = { ({ s with a := Rg.place s.Z d, b := Rg.place s.Z t } : Fs) with ph := .hdr } by unfold Fs.span; rw [if_neg hle])
    have HOK := Lib.hid ((HH.out.ok.withA d).withB t)
    clear hle
    go_upto_region 2 with (fail)
    go_quiet (fail)
    go_upto_region 4 with (fail)
    obtain ⟨n1, hn1⟩ : ∃ n, n = nq := ⟨_, rfl⟩
    rw [← hn1]
    clear hn1
    have HS4 := Lib.hid (HS2.out.below (drewN_below W2 n1))
    have HTT := Lib.hid (HT2.out.trans (Touch.of_below (drewN_below W2 n1)))
    have k5 : (W2.drewN n1).cell? ⟨w.heap.size, 0, none⟩ = some (.pointer (some ⟨g, 0, none⟩)) := k3
    generalize W2.drewN n1 = W at HS4 HTT k5 ⊢
    clear c9 c10 k3 HS2 HT2
    obtain ⟨a5, hblk5⟩ := HS4.out.blk
    have HB := Lib.hid hblk5
    have hbox := k5
    have c0 : W.cell? ⟨g, 0, none⟩ = some (.int .i64 s.B) := hblk5.c0
    have c1 : W.cell? ⟨g, 1, none⟩ = some (.int .i64 s.Z) := hblk5.c1
    have c9 : W.cell? ⟨g, 9, none⟩ = some (.int .i64 (Rg.place s.Z d)) := hblk5.c9
    have hla := lt_of_cell k5
    have hgW := hblk5.lt
    have HBR := Lib.hid (Below.refl W.heap.size W)
    clear hblk5 k5
    go_region_held3 (fun w' => w'.cell? ⟨w.heap.size, 0, none⟩ = some (.pointer (some ⟨g, 0, none⟩)) ∧ w'.cell? ⟨g, 0, none⟩ = some (.int .i64 s.B) ∧ w'.cell? ⟨g, 1, none⟩ = some (.int .i64 s.Z) ∧ w'.cell? ⟨g, 9, none⟩ = some (.int .i64 (Rg.place s.Z d))) (go_keep)
      (first
        | (go_at_call 55; refine (fxDo (HB.out.below hbl) ⟨1, Rg.spot s.B s.Z (Rg.place s.Z d), 8, 0, 0, []⟩ none 0 0 91 #[] #[.pointer (some ⟨w.heap.size, 0, none⟩)]).mono ?_; intro e wd has; have HAS := Lib.hid has; obtain ⟨rfl, hblkd, htd⟩ := has; have kd := (htd.cell (p := ⟨w.heap.size, 0, none⟩) (lt_of_cell k2) hga).trans k2; have o0d := hblkd.c0; have o1d := hblkd.c1; have o9d := hblkd.c9; clear hblkd)
        | (go_at_call 56; refine (stLoad (Rg.spot s.B s.Z (Rg.place s.Z d)) _).mono ?_; rintro e x2 ⟨rfl, hq2⟩; have hb2 := hb1.trans (hq2.mono hb1.size); have k2 := (hb2.cell (p := ⟨w.heap.size, 0, none⟩) hla).trans hbox; have o02 := (hb2.cell (p := ⟨g, 0, none⟩) hgW).trans c0; have o12 := (hb2.cell (p := ⟨g, 1, none⟩) hgW).trans c1; have o92 := (hb2.cell (p := ⟨g, 9, none⟩) hgW).trans c9; have hbl := HBR.out.trans (hb2.mono HBR.out.size))
        | (go_at_call 90; refine (rgAt HH.out.ok.rg (Rg.place s.Z d) _).mono ?_; rintro e x1 ⟨rfl, hq1⟩; have hb1 := below_drew hq1; have k1 := (hb1.cell (p := ⟨w.heap.size, 0, none⟩) hla).trans hbox; have o01 := (hb1.cell (p := ⟨g, 0, none⟩) hgW).trans c0; have o11 := (hb1.cell (p := ⟨g, 1, none⟩) hgW).trans c1; have o91 := (hb1.cell (p := ⟨g, 9, none⟩) hgW).trans c9))
    all_goals
      go_wp2
      go_end0
      obtain ⟨_, hbk, hT⟩ := HAS.out
      rw [HS.out]
      exact fx_put0 (s := { s with a := Rg.place s.Z d, b := Rg.place s.Z t }) HH.out.own HOK.out .hdr (HTT.out.trans ((Touch.of_below (hbl.mono (Nat.le_refl _))).trans hT)) hbk rfl trivial ⟨w.heap.size, rfl, .inr ⟨Nat.le_refl _, lt_of_cell kd⟩, hga, kd⟩

end Go.Proofs.YtbhhegikfadpiaaGreat
namespace Go.Proofs.YtbhhegikfadpiaaGreat
open Go.RowKit

theorem fx_capt {w w' : World} {F : Nat → Prop} {g a : Nat} {v : Value} (h : Capt w F g a v) (hb : Below w.heap.size w w') : w'.cell? ⟨a, 0, none⟩ = some v := (hb.cell (p := ⟨a, 0, none⟩) (lt_of_cell h.2.2)).trans h.2.2

set_option maxRecDepth 100000 in
set_option maxHeartbeats 800000 in
theorem fxBegin1 {w : World} {F : Nat → Prop} {g : Nat} {s : Fs} (h : FxBare w F g s) {a : Nat} (ha : Capt w F g a (.pointer (some ⟨g, 0, none⟩))) (V : Nat) (D : Bool) (A : Option Addr) (L cp : Nat) (hV : V < 18446744073709551616) :
    Calls Tryz.prog 58 #[.agg #[.int .u64 V, .bool D, .slice A L cp], .pointer (some ⟨a, 0, none⟩)] w (FxMoved F g { s with ph := .tail V } w) := by
  obtain ⟨a0, hblk⟩ := h.blk
  have hgl := hblk.lt
  have HH := Lib.hid h
  have HB := Lib.hid hblk
  have hb0 := (Below.refl w.heap.size w).alloc (Nat.le_refl _) (.cells #[.int .u64 V, .bool D, .slice A L cp] 33)
  have hx := Go.Deep.blk_alloc_new w (.cells #[.int .u64 V, .bool D, .slice A L cp] 33)
  have hsz : (w.alloc (.cells #[.int .u64 V, .bool D, .slice A L cp] 33)).heap.size = w.heap.size + 1 := by simp
  have c0 := (hb0.cell (p := ⟨g, 0, none⟩) hgl).trans hblk.c0
  have c1 := (hb0.cell (p := ⟨g, 1, none⟩) hgl).trans hblk.c1
  have hk := fx_capt ha hb0
  have HW := Lib.hid hb0
  have HA := Lib.hid ha
  have HV := Lib.hid hV
  have hag : ¬ a = g := ha.2.1
  clear h hblk hb0 ha hV
  go_enter Tryz.func58, Tryz.ntmps58
  go_upto_region 1 with (fail)
  generalize w.alloc (.cells #[.int .u64 V, .bool D, .slice A L cp] 33) = W at hx HW hsz c0 c1 hk ⊢
  have hm : W.cell? ⟨w.heap.size, 0, none⟩ = some (.int .u64 V) := by simp [World.cell?, hx]
  have hmg : ¬ w.heap.size = g := by omega
  have hla : w.heap.size < W.heap.size := by omega
  have hgW : g < W.heap.size := by omega
  have hka := lt_of_cell hk
  clear hsz hx
  go_region_held3 (fun w' => w'.cell? ⟨a, 0, none⟩ = some (.pointer (some ⟨g, 0, none⟩)) ∧ w'.cell? ⟨w.heap.size, 0, none⟩ = some (.int .u64 V) ∧ w'.cell? ⟨g, 0, none⟩ = some (.int .i64 s.B) ∧ w'.cell? ⟨g, 1, none⟩ = some (.int .i64 s.Z)) (go_keep)
    (first
      | (go_at_call 55; refine (fxDo (HB.out.below hbl) ⟨1, Rg.num s.B s.Z 0, 8, 0, 0, []⟩ none 0 0 60 #[] #[.pointer (some ⟨w.heap.size, 0, none⟩), .pointer (some ⟨a, 0, none⟩)]).mono ?_; intro e wd has; have HAS := Lib.hid has; obtain ⟨rfl, hblkd, htd⟩ := has; have kd := (htd.cell (p := ⟨a, 0, none⟩) (lt_of_cell k2) hag).trans k2; have md := (htd.cell (p := ⟨w.heap.size, 0, none⟩) (lt_of_cell m2) hmg).trans m2; have o0d := hblkd.c0; have o1d := hblkd.c1; clear hblkd)
      | (go_at_call 56; refine (stLoad (Rg.num s.B s.Z 0) _).mono ?_; rintro e x2 ⟨rfl, hq2⟩; have hb2 := hb1.trans (hq2.mono hb1.size); have k2 := (hb2.cell (p := ⟨a, 0, none⟩) hka).trans hk; have m2 := (hb2.cell (p := ⟨w.heap.size, 0, none⟩) hla).trans hm; have o02 := (hb2.cell (p := ⟨g, 0, none⟩) hgW).trans c0; have o12 := (hb2.cell (p := ⟨g, 1, none⟩) hgW).trans c1; have hbl := HW.out.trans (hb2.mono HW.out.size))
      | (go_at_call 59; refine (rgTail HH.out.ok.rg _).mono ?_; rintro e x1 ⟨rfl, hq1⟩; have hb1 := below_drew hq1; have k1 := (hb1.cell (p := ⟨a, 0, none⟩) hka).trans hk; have m1 := (hb1.cell (p := ⟨w.heap.size, 0, none⟩) hla).trans hm; have o01 := (hb1.cell (p := ⟨g, 0, none⟩) hgW).trans c0; have o11 := (hb1.cell (p := ⟨g, 1, none⟩) hgW).trans c1))
  all_goals
    go_wp2
    go_end0
    obtain ⟨_, hbk, hT⟩ := HAS.out
    exact fx_put HH.out (.tail V) ((Touch.of_below hbl).trans hT) hbk rfl HV.out ⟨w.heap.size, a, rfl, ⟨.inr ⟨Nat.le_refl _, lt_of_cell md⟩, hmg, md⟩, .inl HA.out.1, hag, kd⟩

set_option maxRecDepth 100000 in
set_option maxHeartbeats 800000 in
theorem fxBegin11Yes {w : World} {F : Nat → Prop} {g : Nat} {s : Fs} (h : FxBare w F g s) {a b d : Nat} (hb : Capt w F g b (.int .u64 d)) (ha : Capt w F g a (.pointer (some ⟨g, 0, none⟩))) (V : Nat) (D : Bool) (A : Option Addr) (L cp : Nat) (hVd : V = d) :
    Calls Tryz.prog 60 #[.agg #[.int .u64 V, .bool D, .slice A L cp], .pointer (some ⟨b, 0, none⟩), .pointer (some ⟨a, 0, none⟩)] w (FxMoved F g { s with ph := .fin } w) := by
  have HH := Lib.hid h
  have hb0 := (Below.refl w.heap.size w).alloc (Nat.le_refl _) (.cells #[.int .u64 V, .bool D, .slice A L cp] 33)
  have hx := Go.Deep.blk_alloc_new w (.cells #[.int .u64 V, .bool D, .slice A L cp] 33)
  have hk := fx_capt ha hb0
  have hm := fx_capt hb hb0
  have HW := Lib.hid hb0
  have hd : ((V : Int) != (d : Int)) = false := by subst hVd; simp
  clear h hb0 ha hb hVd
  go_enter Tryz.func60, Tryz.ntmps60
  go_upto_region 1 with (fail)
  generalize w.alloc (.cells #[.int .u64 V, .bool D, .slice A L cp] 33) = W at hx HW hk hm ⊢
  have x0 : W.cell? ⟨w.heap.size, 0, none⟩ = some (.int .u64 V) := by simp [World.cell?, hx]
  clear hx
  go_wp2
  go_end0
  exact fx_done ((HH.out.below HW.out).withPh .fin) (Touch.of_below HW.out) rfl

set_option maxRecDepth 100000 in
set_option maxHeartbeats 800000 in
theorem fxBegin11No {w : World} {F : Nat → Prop} {g : Nat} {s : Fs} (h : FxBare w F g s) {a b d : Nat} (hb : Capt w F g b (.int .u64 d)) (ha : Capt w F g a (.pointer (some ⟨g, 0, none⟩))) (V : Nat) (D : Bool) (A : Option Addr) (L cp : Nat) (hVd : V ≠ d) :
    Calls Tryz.prog 60 #[.agg #[.int .u64 V, .bool D, .slice A L cp], .pointer (some ⟨b, 0, none⟩), .pointer (some ⟨a, 0, none⟩)] w (FxMoved F g (s.span (Rs.wr d) (Rs.wr V)) w) := by
  have HH := Lib.hid h
  have hb0 := (Below.refl w.heap.size w).alloc (Nat.le_refl _) (.cells #[.int .u64 V, .bool D, .slice A L cp] 33)
  have hx := Go.Deep.blk_alloc_new w (.cells #[.int .u64 V, .bool D, .slice A L cp] 33)
  have hk := fx_capt ha hb0
  have hm := fx_capt hb hb0
  have HW := Lib.hid hb0
  have hd : ((V : Int) != (d : Int)) = true := by simp; omega
  have HC := Lib.hid (fxSpan (h.below hb0) (wrap64 d) (wrap64 V))
  clear h hb0 ha hb hVd
  go_enter Tryz.func60, Tryz.ntmps60
  go_upto_region 1 with (fail)
  generalize w.alloc (.cells #[.int .u64 V, .bool D, .slice A L cp] 33) = W at hx HW hk hm HC ⊢
  have x0 : W.cell? ⟨w.heap.size, 0, none⟩ = some (.int .u64 V) := by simp [World.cell?, hx]
  clear hx
  go_wp2_with (go_at_call 61; refine HC.out.mono ?_; intro e w3 hm; have HM := Lib.hid hm; obtain ⟨rfl, _⟩ := hm)
  go_end0
  exact HM.out.afterT (Touch.of_below HW.out)

set_option maxRecDepth 100000 in
set_option maxHeartbeats 800000 in
theorem fxSpan1 {w : World} {F : Nat → Prop} {g : Nat} {s : Fs} (h : FxBare w F g s) {a : Nat} (ha : Capt w F g a (.pointer (some ⟨g, 0, none⟩))) (V : Nat) (D : Bool) (A : Option Addr) (L cp : Nat) :
    Calls Tryz.prog 91 #[.agg #[.int .u64 V, .bool D, .slice A L cp], .pointer (some ⟨a, 0, none⟩)] w (FxMoved F g (s.judge (Hd.s32 V)) w) := by
  have hb0 := (Below.refl w.heap.size w).alloc (Nat.le_refl _) (.cells #[.int .u64 V, .bool D, .slice A L cp] 33)
  have hx := Go.Deep.blk_alloc_new w (.cells #[.int .u64 V, .bool D, .slice A L cp] 33)
  have hk := fx_capt ha hb0
  have HW := Lib.hid hb0
  have HC := Lib.hid (fxJudge (h.below hb0) (Hd.s32 V) (Hd.s32_bounds _))
  clear h hb0 ha
  go_enter Tryz.func91, Tryz.ntmps91
  go_upto_region 1 with (fail)
  generalize w.alloc (.cells #[.int .u64 V, .bool D, .slice A L cp] 33) = W at hx HW hk HC ⊢
  have x0 : W.cell? ⟨w.heap.size, 0, none⟩ = some (.int .u64 V) := by simp [World.cell?, hx]
  clear hx
  go_wp2_with (first
    | (go_at_call 92; refine (split_any V _).mono ?_; rintro e w2 ⟨rfl, rfl⟩)
    | (go_at_call 93; refine HC.out.mono ?_; intro e w3 hm; have HM := Lib.hid hm; obtain ⟨rfl, _⟩ := hm))
  go_end0
  exact HM.out.afterT (Touch.of_below HW.out)

set_option maxRecDepth 100000 in
set_option maxHeartbeats 800000 in
theorem fxLook1 {w : World} {c : Nat} {k : FuncId} {caps : Array Value} (hc : w.cell? ⟨c, 0, none⟩ = some (.func (.func k) #[] caps)) (V : Nat) (D : Bool) (A : Option Addr) (L cp : Nat) (q : Bool) (hq : ((V : Int) % 4294967296 == 0) = q) {Q : World → Prop}
    (args : Array Value) (hargs : (#[.bool q] : Array Value) ++ caps = args) (hent : ∀ w, (callFunc k args).run Tryz.prog w = .ok (.enter k args) w)
    (H : ∀ W, Below w.heap.size w W → Calls Tryz.prog k args W fun e w' => e = .returned (.tuple #[]) ∧ Q w') :
    Calls Tryz.prog 138 #[.agg #[.int .u64 V, .bool D, .slice A L cp], .pointer (some ⟨c, 0, none⟩)] w fun e w' => e = .returned (.tuple #[]) ∧ Q w' := by
  have hb0 := (Below.refl w.heap.size w).alloc (Nat.le_refl _) (.cells #[.int .u64 V, .bool D, .slice A L cp] 33)
  have hx := Go.Deep.blk_alloc_new w (.cells #[.int .u64 V, .bool D, .slice A L cp] 33)
  have hk := (hb0.cell (p := ⟨c, 0, none⟩) (lt_of_cell hc)).trans hc
  have HC := Lib.hid (H _ hb0)
  have hq2 : (IntKind.u32.wrap (V : Int) == 0) = q := by rw [Hd.u32_wrap]; exact hq
  clear hb0 hc H
  go_enter Tryz.func138, Tryz.ntmps138
  go_upto_region 1 with (fail)
  generalize w.alloc (.cells #[.int .u64 V, .bool D, .slice A L cp] 33) = W at hx HC hk ⊢
  have x0 : W.cell? ⟨w.heap.size, 0, none⟩ = some (.int .u64 V) := by simp [World.cell?, hx]
  have he : (callFunc k (#[.bool q] ++ caps)).run Tryz.prog W = .ok (.enter k args) W := by rw [hargs]; exact hent W
  clear hx
  go_wp2_with fail
  refine HC.out.mono ?_
  rintro e w2 ⟨rfl, hq⟩
  go_wp2_with fail
  go_end0
  exact ⟨rfl, hq⟩

set_option maxRecDepth 100000 in
set_option maxHeartbeats 800000 in
theorem fxAhead1Yes {w : World} {F : Nat → Prop} {g : Nat} {s : Fs} (h : FxBare w F g s) {a b d : Nat} {q : Int} (hq : 0 ≤ q ∧ q ≤ s.Z) (ha : Capt w F g a (.pointer (some ⟨g, 0, none⟩))) (hb : Capt w F g b (.int .i64 q)) (hd : Capt w F g d (.func (.func 116) #[.pointer (some ⟨g, 0, none⟩)] #[])) :
    Calls Tryz.prog 128 #[.bool true, .pointer (some ⟨a, 0, none⟩), .pointer (some ⟨b, 0, none⟩), .pointer (some ⟨d, 0, none⟩)] w (FxMoved F g (s.ahead (q + 8)) w) := by
  have k0 := ha.2.2
  have k1 := hb.2.2
  have k2 := hd.2.2
  have hz := h.ok.rg.z1
  have e1 : IntKind.i64.wrap (q + 8) = q + 8 := IntWalk.i64_in _ (by omega)
  have HC := Lib.hid (fxAhead h (q + 8) (by omega))
  clear h ha hb hd hq hz
  go_enter Tryz.func128, Tryz.ntmps128
  go_wp2_with (go_at_call 115; refine HC.out.mono ?_; intro e w3 hm; have HM := Lib.hid hm; obtain ⟨rfl, _⟩ := hm)
  go_end0
  exact HM.out

set_option maxRecDepth 100000 in
set_option maxHeartbeats 800000 in
theorem fxAhead1No {w : World} {F : Nat → Prop} {g : Nat} {s : Fs} (h : FxBare w F g s) {a b d : Nat} {q : Int} (hq : 0 ≤ q ∧ q ≤ s.Z) (ha : Capt w F g a (.pointer (some ⟨g, 0, none⟩))) (hb : Capt w F g b (.int .i64 q)) (hd : Capt w F g d (.func (.func 116) #[.pointer (some ⟨g, 0, none⟩)] #[])) :
    Calls Tryz.prog 128 #[.bool false, .pointer (some ⟨a, 0, none⟩), .pointer (some ⟨b, 0, none⟩), .pointer (some ⟨d, 0, none⟩)] w (FxMoved F g (({ s with m := q } : Fs).back q) w) := by
  have k0 := ha.2.2
  have k1 := hb.2.2
  have k2 := hd.2.2
  have hga : ¬ g = a := fun e => ha.2.1 e.symm
  have hgb : ¬ g = b := fun e => hb.2.1 e.symm
  have hgd : ¬ g = d := fun e => hd.2.1 e.symm
  obtain ⟨a0, hblk⟩ := h.blk
  have c11 := hblk.c11
  have f11 := hblk.free 11
  have HS := Lib.hid (h.store (s' := { s with m := q }) 11 (.int .i64 q) (fun _ => fx_setM _ _ _ _ _) ⟨h.ok.rg, h.ok.a0, h.ok.b0, hq, h.ok.n0⟩)
  have HT : Hid (Touch (fun k => k = g) w (w.setCell ⟨g, 11, none⟩ (.int .i64 q))) := Lib.hid ((Touch.refl (fun k => k = g) w).setCell (p := ⟨g, 11, none⟩) rfl _)
  have HC := Lib.hid (fxBack HS.out q hq)
  have k1' : (w.setCell ⟨g, 11, none⟩ (.int .i64 q)).cell? ⟨b, 0, none⟩ = some (.int .i64 q) := (World.cell?_setCell_far _ _ _ _ hgb).trans k1
  have k2' : (w.setCell ⟨g, 11, none⟩ (.int .i64 q)).cell? ⟨d, 0, none⟩ = some (.func (.func 116) #[.pointer (some ⟨g, 0, none⟩)] #[]) := (World.cell?_setCell_far _ _ _ _ hgd).trans k2
  clear h ha hb hd hq hblk
  go_enter Tryz.func128, Tryz.ntmps128
  go_upto_region 2 with (fail)
  go_upto_region 3 with (fail)
  clear k0 k1 k2 c11 f11
  generalize w.setCell ⟨g, 11, none⟩ (.int .i64 q) = W2 at HS HT HC k1' k2' ⊢
  go_wp2_with (go_at_call 116; refine HC.out.mono ?_; intro e w3 hm; have HM := Lib.hid hm; obtain ⟨rfl, _⟩ := hm)
  go_end0
  exact HM.out.afterT HT.out

set_option maxRecDepth 100000 in
set_option maxHeartbeats 800000 in
theorem fxBack1Yes {w : World} {F : Nat → Prop} {g : Nat} {s : Fs} (h : FxBare w F g s) {a b : Nat} {q : Int} (hq : 0 ≤ q ∧ q ≤ s.Z) (ha : Capt w F g a (.pointer (some ⟨g, 0, none⟩))) (hb : Capt w F g b (.int .i64 q)) :
    Calls Tryz.prog 129 #[.bool true, .pointer (some ⟨a, 0, none⟩), .pointer (some ⟨b, 0, none⟩)] w (FxMoved F g (s.back q) w) := by
  have k0 := ha.2.2
  have k1 := hb.2.2
  have HC := Lib.hid (fxBack h q hq)
  clear h ha hb hq
  go_enter Tryz.func129, Tryz.ntmps129
  go_wp2_with (go_at_call 116; refine HC.out.mono ?_; intro e w3 hm; have HM := Lib.hid hm; obtain ⟨rfl, _⟩ := hm)
  go_end0
  exact HM.out

set_option maxRecDepth 100000 in
set_option maxHeartbeats 800000 in
theorem fxBack1No {w : World} {F : Nat → Prop} {g : Nat} {s : Fs} (h : FxBare w F g s) (a b : Nat) :
    Calls Tryz.prog 129 #[.bool false, .pointer (some ⟨a, 0, none⟩), .pointer (some ⟨b, 0, none⟩)] w (FxMoved F g { s with ph := .fin } w) := by
  have HH := Lib.hid h
  clear h
  go_enter Tryz.func129, Tryz.ntmps129
  go_wp2
  go_end0
  exact fx_done (HH.out.withPh .fin) (Touch.refl _ _) rfl

set_option maxRecDepth 100000 in
set_option maxHeartbeats 800000 in
theorem fxPad1 {w : World} {F : Nat → Prop} {g : Nat} {s : Fs} (h : FxBare w F g s) {a b : Nat} {n : Int} (hn : -8192 ≤ n ∧ n ≤ 8192) (hb : Capt w F g b (.int .i32 n)) (ha : Capt w F g a (.pointer (some ⟨g, 0, none⟩))) (V : Nat) (D : Bool) (A : Option Addr) (L cp : Nat) :
    Calls Tryz.prog 131 #[.agg #[.int .u64 V, .bool D, .slice A L cp], .pointer (some ⟨b, 0, none⟩), .pointer (some ⟨a, 0, none⟩)] w (FxMoved F g { s with n := n, ph := .fin } w) := by
  have hb0 := (Below.refl w.heap.size w).alloc (Nat.le_refl _) (.cells #[.int .u64 V, .bool D, .slice A L cp] 33)
  have k0 := fx_capt ha hb0
  have k1 := fx_capt hb hb0
  have HH := Lib.hid (h.below hb0)
  obtain ⟨a0, hblk⟩ := HH.out.blk
  have c12 := hblk.c12
  have f12 := hblk.free 12
  have HW := Lib.hid hb0
  have HN := Lib.hid hn
  clear h ha hb hn hblk hb0
  go_enter Tryz.func131, Tryz.ntmps131
  go_upto_region 1 with (fail)
  generalize w.alloc (.cells #[.int .u64 V, .bool D, .slice A L cp] 33) = W at HH HW k0 k1 c12 f12 ⊢
  go_wp2
  go_end0
  exact fx_done ((HH.out.store (s' := { s with n := n }) 12 (.int .i32 n) (fun _ => fx_setN _ _ _ _ _) ⟨HH.out.ok.rg, HH.out.ok.a0, HH.out.ok.b0, HH.out.ok.m0, HN.out⟩).withPh .fin) ((Touch.of_below (S := fun k => k = g) HW.out).setCell (p := ⟨g, 12, none⟩) rfl _) rfl

end Go.Proofs.YtbhhegikfadpiaaGreat
namespace Go.Proofs.YtbhhegikfadpiaaGreat
open Go.RowKit

/-- May a ring be? -/
def Rg.right (B Z : Int) : Prop := Wd.isP Z = true ∧ 64 ≤ Z ∧ Z ≤ 8192 ∧ 0 ≤ B ∧ B ≤ 131072 - Z - 32 ∧ B % 8 = 0
instance (B Z : Int) : Decidable (Rg.right B Z) := by unfold Rg.right; infer_instance

set_option maxRecDepth 100000 in
set_option maxHeartbeats 800000 in
theorem rpCheck (B Z : Int) (hB : -9223372036854775808 ≤ B ∧ B ≤ 9223372036854775807) (hZ : -9223372036854775808 ≤ Z ∧ Z ≤ 9223372036854775807) (w : World) :
    Calls Tryz.prog 27 #[.agg #[.int .i64 B, .int .i64 Z]] w (Made (.int .i64 (if Rg.right B Z then 0 else 1)) w) := by
  have hb0 := un_below w (.int .i64 B) (.int .i64 Z) 26
  have hx := Go.Deep.blk_alloc_new w (.cells #[.int .i64 B, .int .i64 Z] 26)
  obtain ⟨q, hq⟩ : ∃ q : Int, q = (if Rg.right B Z then 0 else 1) := ⟨_, rfl⟩
  rw [← hq]
  have HQ := Lib.hid hq
  clear hq
  go_enter Tryz.func27, Tryz.ntmps27
  go_upto_region 1 with (fail)
  generalize w.alloc (.cells #[.int .i64 B, .int .i64 Z] 26) = W at hb0 hx ⊢
  have x0 : W.cell? ⟨w.heap.size, 0, none⟩ = some (.int .i64 B) := by simp [World.cell?, hx]
  have x1 : W.cell? ⟨w.heap.size, 1, none⟩ = some (.int .i64 Z) := by simp [World.cell?, hx]
  clear hx
  cases hp : Wd.isP Z with
  | false =>
    have HP := Lib.hid hp
    clear hp
    go_wp2_with (go_at_call 54; refine (isPower_any Z _ (by omega) (by omega)).mono ?_; rintro e w2 ⟨rfl, rfl⟩; rw [HP.out])
    all_goals
      go_ret
      refine ⟨?_, hb0⟩
      rw [HQ.out, if_neg (fun h => by have := h.1; rw [HP.out] at this; cases this)]
      rfl
  | true =>
    have HP := Lib.hid hp
    clear hp
    go_wp2_with (go_at_call 54; refine (isPower_any Z _ (by omega) (by omega)).mono ?_; rintro e w2 ⟨rfl, rfl⟩; rw [HP.out])
    all_goals
      go_ret
      refine ⟨?_, hb0⟩
      rw [HQ.out]
      simp only [bne_eq_false_iff_eq, bne_iff_ne, ne_eq] at *
      first
        | (rw [if_pos ⟨HP.out, by omega, by omega, by omega, by omega, by omega⟩]; rfl)
        | (rw [if_neg (fun ⟨_, _, _, _, _, _⟩ => by omega)]; rfl)

theorem rp_need_aux (n : Nat) (h : n ≤ 131072) : sz (n : Int) 8 8 = 8 * (((n + 15) / 8 : Nat) : Int) := by
  unfold sz szOk Wd.al Wd.alOk
  have h1 : decide (0 ≤ (n : Int)) = true := by simp
  have h2 : decide ((n : Int) ≤ 131072) = true := by simp; omega
  have h3 : Wd.isP 8 = true := by decide
  have h4 : decide (0 ≤ (8 : Int) + n) = true := by simp; omega
  have h5 : decide ((8 : Int) + n ≤ 4611686018427387904) = true := by simp; omega
  rw [h1, h2, h3, h4, h5]
  simp only [Bool.and_self, if_true]
  omega

/-- A put was made: it stands in new memory. -/
def NewIs (m : Pm) (w : World) (e : Ending) (w' : World) : Prop :=
  ∃ g, e = .returned (.pointer (some ⟨g, 0, none⟩)) ∧ PmAt w' (fun k => w.heap.size ≤ k ∧ k < w'.heap.size) g m ∧ Below w.heap.size w w'

/-- The put that is made. -/
def Pm.new (B Z typ : Int) (f : Nat → Nat) (L : Nat) : Pm :=
  if ¬ Rg.right B Z ∨ typ < 1 then .dead 0 0 else if Z < 8 * (L : Int) then .dead Z 4 else .live ⟨B.toNat, Z.toNat, typ, f, L, 0, 0, 0, false, .ask, 0⟩

theorem new_dead (w W : World) (hb : Below w.heap.size w W) (B Z er : Int) : NewIs (.dead Z er) w (.returned (.pointer (some ⟨W.heap.size, 0, none⟩))) (W.alloc (.cells (PxCells B Z er) 91)) :=
  ⟨W.heap.size, rfl, ⟨⟨hb.size, by simp⟩, B, Go.Deep.blk_alloc_new _ _⟩, hb.alloc hb.size _⟩

set_option maxRecDepth 100000 in
set_option maxHeartbeats 800000 in
theorem rpNewBad (B Z typ : Int) (hB : -9223372036854775808 ≤ B ∧ B ≤ 9223372036854775807) (hZ : -9223372036854775808 ≤ Z ∧ Z ≤ 9223372036854775807) (hbad : ¬ Rg.right B Z) (A : Option Addr) (L c : Nat) (w : World) :
    Calls Tryz.prog 16 #[.agg #[.int .i64 B, .int .i64 Z], .int .i32 typ, .slice A L c] w (NewIs (.dead 0 0) w) := by
  have hb0 := un_below w (.int .i64 B) (.int .i64 Z) 26
  have hx := Go.Deep.blk_alloc_new w (.cells #[.int .i64 B, .int .i64 Z] 26)
  have HBZ := Lib.hid (And.intro hB hZ)
  have HN := Lib.hid hbad
  clear hB hZ hbad
  go_enter Tryz.func16, Tryz.ntmps16
  go_upto_region 1 with (fail)
  generalize w.alloc (.cells #[.int .i64 B, .int .i64 Z] 26) = W at hb0 hx ⊢
  have x0 : W.cell? ⟨w.heap.size, 0, none⟩ = some (.int .i64 B) := by simp [World.cell?, hx]
  have x1 : W.cell? ⟨w.heap.size, 1, none⟩ = some (.int .i64 Z) := by simp [World.cell?, hx]
  clear hx
  go_wp2_with (go_at_call 27; refine (rpCheck B Z HBZ.out.1 HBZ.out.2 W).mono ?_; rintro e w2 ⟨rfl, hb⟩; rw [if_neg HN.out])
  go_ret
  exact new_dead w w2 (hb0.trans (hb.mono hb0.size)) 0 0 0

set_option maxRecDepth 100000 in
set_option maxHeartbeats 800000 in
theorem rpNewTyp (B Z typ : Int) (hB : -9223372036854775808 ≤ B ∧ B ≤ 9223372036854775807) (hZ : -9223372036854775808 ≤ Z ∧ Z ≤ 9223372036854775807) (hok : Rg.right B Z) (htyp : typ < 1) (A : Option Addr) (L c : Nat) (w : World) :
    Calls Tryz.prog 16 #[.agg #[.int .i64 B, .int .i64 Z], .int .i32 typ, .slice A L c] w (NewIs (.dead 0 0) w) := by
  have hb0 := un_below w (.int .i64 B) (.int .i64 Z) 26
  have hx := Go.Deep.blk_alloc_new w (.cells #[.int .i64 B, .int .i64 Z] 26)
  have HBZ := Lib.hid (And.intro hB hZ)
  have HN := Lib.hid hok
  have hd : decide (typ < 1) = true := by simpa using htyp
  clear hB hZ hok
  go_enter Tryz.func16, Tryz.ntmps16
  go_upto_region 1 with (fail)
  generalize w.alloc (.cells #[.int .i64 B, .int .i64 Z] 26) = W at hb0 hx ⊢
  have x0 : W.cell? ⟨w.heap.size, 0, none⟩ = some (.int .i64 B) := by simp [World.cell?, hx]
  have x1 : W.cell? ⟨w.heap.size, 1, none⟩ = some (.int .i64 Z) := by simp [World.cell?, hx]
  clear hx
  go_wp2_with (go_at_call 27; refine (rpCheck B Z HBZ.out.1 HBZ.out.2 W).mono ?_; rintro e w2 ⟨rfl, hb⟩; rw [if_pos HN.out])
  go_ret
  exact new_dead w w2 (hb0.trans (hb.mono hb0.size)) 0 0 0

set_option maxRecDepth 100000 in
set_option maxHeartbeats 800000 in
theorem rpNewLong (B Z typ : Int) (hB : -9223372036854775808 ≤ B ∧ B ≤ 9223372036854775807) (hZ : -9223372036854775808 ≤ Z ∧ Z ≤ 9223372036854775807) (hok : Rg.right B Z) (htyp : ¬ typ < 1) (A : Option Addr) (L c : Nat) (hlong : Z < 8 * (L : Int)) (w : World) :
    Calls Tryz.prog 16 #[.agg #[.int .i64 B, .int .i64 Z], .int .i32 typ, .slice A L c] w (NewIs (.dead Z 4) w) := by
  have hb0 := un_below w (.int .i64 B) (.int .i64 Z) 26
  have hx := Go.Deep.blk_alloc_new w (.cells #[.int .i64 B, .int .i64 Z] 26)
  have HBZ := Lib.hid (And.intro hB hZ)
  have HN := Lib.hid hok
  have hd : decide (typ < 1) = false := by simpa using htyp
  have hz0 : 64 ≤ Z := hok.2.1
  have hz1 : Z ≤ 8192 := hok.2.2.1
  have hdl : Z / 8 < (L : Int) := by omega
  have hdd : decide (Z / 8 < (L : Int)) = true := by simpa using hdl
  clear hB hZ hok htyp hlong
  go_enter Tryz.func16, Tryz.ntmps16
  go_upto_region 1 with (fail)
  generalize w.alloc (.cells #[.int .i64 B, .int .i64 Z] 26) = W at hb0 hx ⊢
  have x0 : W.cell? ⟨w.heap.size, 0, none⟩ = some (.int .i64 B) := by simp [World.cell?, hx]
  have x1 : W.cell? ⟨w.heap.size, 1, none⟩ = some (.int .i64 Z) := by simp [World.cell?, hx]
  have hlx := (Array.getElem?_eq_some_iff.1 hx).1
  clear hx
  go_wp2_with (go_at_call 27; refine (rpCheck B Z HBZ.out.1 HBZ.out.2 W).mono ?_; rintro e w2 ⟨rfl, hb⟩; rw [if_pos HN.out]; have y0 := (hb.cell (p := ⟨w.heap.size, 0, none⟩) hlx).trans x0; have y1 := (hb.cell (p := ⟨w.heap.size, 1, none⟩) hlx).trans x1)
  go_ret
  exact new_dead w w2 (hb0.trans (hb.mono hb0.size)) B Z 4

/-- The block of a put that is made. -/
theorem rp_made {w w4 W5 : World} {B Z typ : Int} {A4 : Option Addr} {L c4 base : Nat} {f : Nat → Nat}
    (hW5 : W5 = w4.alloc (.cells #[.int .i64 B, .int .i64 Z, .int .i32 typ, .slice A4 L c4, .int .i64 (8 * (((L : Int) + 15) / 8)), .int .i64 0, .int .i64 0, .int .i64 0, .int .u64 0, .int .u64 0, .slice none 0 0, .nilFunc, .int .i64 0, .int .i64 0, .int .i64 0, .bool false, .int .i64 0] 91))
    (hb : Below w.heap.size w w4) (hbase : w.heap.size ≤ base) (hr : Rg.right B Z) (ht : 1 ≤ typ) (ht2 : typ ≤ 2147483647) (hfew : 8 * (L : Int) ≤ Z) (hf : Mb.IsB f) (ho : Owns base w4 (.slice A4 L c4) (Mb.bl f 0 L)) :
    RpBare W5 (fun k => w.heap.size ≤ k ∧ k < W5.heap.size) w4.heap.size ⟨B.toNat, Z.toNat, typ, f, L, 0, 0, 0, false, .ask, 0⟩ (.slice A4 L c4) := by
  obtain ⟨h1, h2, h3, h4, h5, h6⟩ := hr
  have hB : ((B.toNat : Nat) : Int) = B := Int.toNat_of_nonneg h4
  have hZ : ((Z.toNat : Nat) : Int) = Z := Int.toNat_of_nonneg (by omega)
  have hsz : W5.heap.size = w4.heap.size + 1 := by rw [hW5]; simp
  have hbl : Below w4.heap.size w4 W5 := by rw [hW5]; exact (Below.refl _ _).alloc (Nat.le_refl _) _
  have ho5 := (BytesIn.of_own ho).lt.below hbl
  have hc : L ≤ c4 ∧ c4 ≤ 9223372036854775807 := by
    obtain ⟨_, e | ⟨g, cap, cur, e, _, _, e2, e3, _⟩⟩ := ho
    · obtain ⟨e1, e2⟩ := e
      injection e1 with _ e3 e4
      omega
    · injection e with _ e4 e5
      unfold maxLen at e3
      omega
  refine ⟨⟨Ac.zero, .slice none 0 0, ?_⟩, ⟨hb.size, by omega⟩, ⟨by rw [← h1, hZ], by simp only; omega, by simp only; omega, by simp only; omega, by simp only; omega, ht, ht2, by simp only; omega, hf, by simp only; omega, by simp only; omega, by simp only; omega⟩, ⟨A4, c4, rfl, hc.1, hc.2⟩, ho5.mono fun k hk _ => ⟨⟨by omega, by omega⟩, by omega⟩⟩
  unfold RpBlk
  rw [hW5, Go.Deep.blk_alloc_new]
  have hn : (8 * (((L + 15) / 8 : Nat) : Int)) = 8 * (((L : Int) + 15) / 8) := by omega
  simp only [RpCells, Rs.need, hB, hZ, hn, Ac.zero]
  rfl

set_option maxRecDepth 100000 in
set_option maxHeartbeats 800000 in
theorem rpNewOk (B Z typ : Int) (hB : -9223372036854775808 ≤ B ∧ B ≤ 9223372036854775807) (hZ : -9223372036854775808 ≤ Z ∧ Z ≤ 9223372036854775807) (hok : Rg.right B Z) (htyp : ¬ typ < 1) (htyp2 : typ ≤ 2147483647) (A : Option Addr) (L c : Nat) (hfew : ¬ Z < 8 * (L : Int)) (f : Nat → Nat) (hf : Mb.IsB f) (w : World) (hby : BytesAt w (.slice A L c) (Mb.bl f 0 L)) :
    Calls Tryz.prog 16 #[.agg #[.int .i64 B, .int .i64 Z], .int .i32 typ, .slice A L c] w (NewIs (.live ⟨B.toNat, Z.toNat, typ, f, L, 0, 0, 0, false, .ask, 0⟩) w) := by
  have hb0 := un_below w (.int .i64 B) (.int .i64 Z) 26
  have hx := Go.Deep.blk_alloc_new w (.cells #[.int .i64 B, .int .i64 Z] 26)
  have HBZ := Lib.hid (And.intro hB hZ)
  have HN := Lib.hid hok
  have HY := Lib.hid hby
  have hd : decide (typ < 1) = false := by simpa using htyp
  have hz0 : 64 ≤ Z := hok.2.1
  have hz1 : Z ≤ 8192 := hok.2.2.1
  have hdl : ¬ Z / 8 < (L : Int) := by omega
  have hdd : decide (Z / 8 < (L : Int)) = false := by simpa using hdl
  have HT := Lib.hid (And.intro htyp htyp2)
  have HFE := Lib.hid hfew
  clear hB hZ hok htyp hfew hby htyp2
  go_enter Tryz.func16, Tryz.ntmps16
  go_upto_region 1 with (fail)
  generalize w.alloc (.cells #[.int .i64 B, .int .i64 Z] 26) = W at hb0 hx ⊢
  have x0 : W.cell? ⟨w.heap.size, 0, none⟩ = some (.int .i64 B) := by simp [World.cell?, hx]
  have x1 : W.cell? ⟨w.heap.size, 1, none⟩ = some (.int .i64 Z) := by simp [World.cell?, hx]
  have hlx := (Array.getElem?_eq_some_iff.1 hx).1
  clear hx
  go_upto_region 5 with (go_at_call 27; refine (rpCheck B Z HBZ.out.1 HBZ.out.2 W).mono ?_; rintro e w2 ⟨rfl, hb⟩; rw [if_pos HN.out]; have y0 := (hb.cell (p := ⟨w.heap.size, 0, none⟩) hlx).trans x0; have y1 := (hb.cell (p := ⟨w.heap.size, 1, none⟩) hlx).trans x1)
  have hneed := rp_need_aux L (by omega)
  have HNE := Lib.hid hneed
  have HB2 := Lib.hid (hb0.trans (hb.mono hb0.size))
  have hl2 : w.heap.size < w2.heap.size := lt_of_cell y0
  clear hneed hb hdl hd hdd hz0 hz1 x0 x1 hlx hb0
  go_upto_region 6 with (go_at_call 39; refine (recordSize_any (L : Int) w2).mono ?_; rintro e w3 ⟨rfl, rfl⟩; rw [HNE.out])
  obtain ⟨wq, hwq⟩ : ∃ W, W = w2 := ⟨_, rfl⟩
  go_region_held3 (fun w' => w'.cell? ⟨w.heap.size, 0, none⟩ = some (.int .i64 B) ∧ w'.cell? ⟨w.heap.size, 1, none⟩ = some (.int .i64 Z)) (go_keep)
    (first | (go_at_call 40; refine (clone_sl A L c (Mb.bl f 0 L) w2.drew (HY.out.below HB2.out.drew) (by have := HFE.out; have := HN.out.2.2.1; omega)).mono ?_; rintro e w4 ⟨A4, c4, rfl, ho4, hb4⟩; have z0 := (hb4.cell (p := ⟨w.heap.size, 0, none⟩) (lt_of_cell y0)).trans y0; have z1 := (hb4.cell (p := ⟨w.heap.size, 1, none⟩) (lt_of_cell y0)).trans y1))
  all_goals
    have hq := HN.out
    obtain ⟨W5, hW5⟩ : ∃ W5, W5 = w4.alloc (.cells #[.int .i64 B, .int .i64 Z, .int .i32 typ, .slice A4 L c4, .int .i64 (8 * (((L : Int) + 15) / 8)), .int .i64 0, .int .i64 0, .int .i64 0, .int .u64 0, .int .u64 0, .slice none 0 0, .nilFunc, .int .i64 0, .int .i64 0, .int .i64 0, .bool false, .int .i64 0] 91) := ⟨_, rfl⟩
    have hmade := rp_made (w := w) hW5 (HB2.out.drew.trans (hb4.mono HB2.out.size)) HB2.out.size hq HT.out.1 HT.out.2 HFE.out hf ho4
    rw [← hW5]
    have HM := Lib.hid hmade
    have hbk : Below w.heap.size w W5 := by rw [hW5]; exact (HB2.out.drew.trans (hb4.mono HB2.out.size)).alloc (Nat.le_trans HB2.out.size hb4.size) _
    have HBK := Lib.hid hbk
    clear hW5 hmade hbk
    go_wp2_with (go_at_call 41; refine (rpBegin HM.out).mono ?_; intro e w6 hm; have HMM := Lib.hid hm; obtain ⟨rfl, _⟩ := hm)
    go_ret
    obtain ⟨_, F', hp, ht, hF'⟩ := HMM.out
    refine ⟨_, rfl, ?_, ht.below HBK.out HBK.out.size fun k hk => hk.1⟩
    refine PutAt.wide (F' := fun k => w.heap.size ≤ k ∧ k < w6.heap.size) hp fun k hk => ?_
    · show w.heap.size ≤ k ∧ k < w6.heap.size
      rcases hF' k hk with e | e
      · exact ⟨e.1, Nat.lt_of_lt_of_le e.2 ht.size⟩
      · exact ⟨Nat.le_trans HBK.out.size e.1, e.2⟩

/-- A put is made, of whatever ring, type and bytes. -/
theorem rpNew (B Z typ : Int) (hB : -9223372036854775808 ≤ B ∧ B ≤ 9223372036854775807) (hZ : -9223372036854775808 ≤ Z ∧ Z ≤ 9223372036854775807) (htyp : typ ≤ 2147483647) (A : Option Addr) (L c : Nat) (f : Nat → Nat) (hf : Mb.IsB f) (w : World) (hby : BytesAt w (.slice A L c) (Mb.bl f 0 L)) :
    Calls Tryz.prog 16 #[.agg #[.int .i64 B, .int .i64 Z], .int .i32 typ, .slice A L c] w (NewIs (Pm.new B Z typ f L) w) := by
  unfold Pm.new
  by_cases h1 : Rg.right B Z
  · by_cases h2 : typ < 1
    · rw [if_pos (.inr h2)]
      exact rpNewTyp B Z typ hB hZ h1 h2 A L c w
    · rw [if_neg (fun h => h.elim (fun h => h h1) h2)]
      by_cases h3 : Z < 8 * (L : Int)
      · rw [if_pos h3]
        exact rpNewLong B Z typ hB hZ h1 h2 A L c h3 w
      · rw [if_neg h3]
        exact rpNewOk B Z typ hB hZ h1 h2 htyp A L c h3 f hf w hby
  · rw [if_pos (.inl h1)]
    exact rpNewBad B Z typ hB hZ h1 A L c w
end Go.Proofs.YtbhhegikfadpiaaGreat
namespace Go.Proofs.YtbhhegikfadpiaaGreat
open Go.RowKit

set_option maxHeartbeats 1000000 in
theorem fxStepsTake {w : World} {F : Nat → Prop} {g : Nat} {s : Fs} (h : FixAt w F g s) (hF : ∀ k, F k → k < w.heap.size) (x : An) (hx : x.V < 18446744073709551616) (A : Option Addr) (l c : Nat) :
    Calls Tryz.prog 34 #[.pointer (some ⟨g, 2, none⟩), .agg #[.int .u64 x.V, .bool x.D, .slice A l c]] w (FxMoved F g (s.take x) w) := by
  obtain ⟨a, th, hblk, hFg, hok, hpk, hth, hnx⟩ := h
  have hgl := hblk.lt
  have hbare : ∀ W, Below w.heap.size w W → FxBare (seven W g 2 Ac.zero (.slice none 0 0) .nilFunc) F g s := fun W hW => ⟨⟨Ac.zero, fx_seven (hblk.below hW) _ _ _⟩, hFg, hok⟩
  have hkeep : ∀ W, Below w.heap.size w W → ∀ k, F k → k ≠ g → (seven W g 2 Ac.zero (.slice none 0 0) .nilFunc).heap[k]? = w.heap[k]? := fun W hW k hk hkg =>
    ((seven_touch1 W g 2 Ac.zero (.slice none 0 0) .nilFunc).block k (Nat.lt_of_lt_of_le (hF k hk) hW.size) hkg).trans (hW.block k (hF k hk))
  have hTF : ∀ W, Below w.heap.size w W → Touch (fun k => k = g) w (seven W g 2 Ac.zero (.slice none 0 0) .nilFunc) := fun W hW => (Touch.of_below hW).trans (seven_touch1 W g 2 _ _ _)
  have fin : ∀ {k : FuncId} {caps : Array Value} (s' : Fs) (hthv : th = .func (.func k) #[] caps) (args : Array Value) (ha : (#[] : Array Value).push (.agg #[.int .u64 x.V, .bool x.D, .slice A l c]) ++ caps = args) (he : ∀ w, (callFunc k args).run Tryz.prog w = .ok (.enter k args) w)
      (H : ∀ W, Below w.heap.size w W → Calls Tryz.prog k args (seven W g 2 Ac.zero (.slice none 0 0) .nilFunc) (FxMoved F g s' (seven W g 2 Ac.zero (.slice none 0 0) .nilFunc))),
      Calls Tryz.prog 34 #[.pointer (some ⟨g, 2, none⟩), .agg #[.int .u64 x.V, .bool x.D, .slice A l c]] w (FxMoved F g s' w) := by
    intro k caps s' hthv args ha he H
    subst hthv
    refine (stTakeYes hblk.st x.V x.D A l c (Q := fun w' => FxMoved F g s' w (.returned (.tuple #[])) w') args ha he fun W hW => (H W hW).mono fun e w' hm => ?_).mono ?_
    · have h2 := hm.afterT (hTF W hW)
      obtain ⟨rfl, _⟩ := hm
      exact ⟨rfl, h2⟩
    · rintro e w' ⟨rfl, hm⟩
      exact hm
  have moved : ∀ {s' : Fs} {W W2 : World} {e : Ending} {w' : World}, Below W.heap.size W W2 → FxMoved F g s' W2 e w' → e = .returned (.tuple #[]) ∧ FxMoved F g s' W (.returned (.tuple #[])) w' := by
    intro s' W W2 e w' hb hm
    have h2 := hm.afterT (Touch.of_below hb)
    obtain ⟨rfl, _⟩ := hm
    exact ⟨rfl, h2⟩
  have back : ∀ {s' : Fs} {W : World} {e : Ending} {w' : World}, (e = .returned (.tuple #[]) ∧ FxMoved F g s' W (.returned (.tuple #[])) w') → FxMoved F g s' W e w' := by
    rintro s' W e w' ⟨rfl, h⟩
    exact h
  have capt : ∀ {W W2 : World} {b : Nat} {v : Value}, Below w.heap.size w W → Below (seven W g 2 Ac.zero (.slice none 0 0) .nilFunc).heap.size (seven W g 2 Ac.zero (.slice none 0 0) .nilFunc) W2 → Capt w F g b v → Capt W2 F g b v := fun hW hW2 hc =>
    (hc.keep (hkeep _ hW)).keep fun k hk _ => hW2.block k (by rw [seven_size]; exact Nat.lt_of_lt_of_le (hF k hk) hW.size)
  unfold FThen at hth
  unfold Fs.PhOk at hpk
  unfold Fs.take
  cases hph : s.ph with
  | head =>
    rw [hph] at hth
    obtain ⟨b, e, hb⟩ := hth
    exact fin _ e _ (by simp) (fun w => by simp [go_sem]) fun W hW => fxBegin1 (hbare W hW) (hb.keep (hkeep W hW)) x.V x.D A l c hx
  | tail d =>
    rw [hph] at hth
    obtain ⟨b, b2, e, hb, hb2⟩ := hth
    refine fin _ e _ (by simp; rfl) (fun w => by simp [go_sem]) fun W hW => ?_
    by_cases hv : x.V = d
    · simp only [if_pos hv]
      exact fxBegin11Yes (hbare W hW) (hb.keep (hkeep W hW)) (hb2.keep (hkeep W hW)) x.V x.D A l c hv
    · simp only [if_neg hv]
      exact fxBegin11No (hbare W hW) (hb.keep (hkeep W hW)) (hb2.keep (hkeep W hW)) x.V x.D A l c hv
  | hdr =>
    rw [hph] at hth
    obtain ⟨b, e, hb⟩ := hth
    exact fin _ e _ (by simp) (fun w => by simp [go_sem]) fun W hW => fxSpan1 (hbare W hW) (hb.keep (hkeep W hW)) x.V x.D A l c
  | up q =>
    rw [hph] at hth hpk
    obtain ⟨b, on, e, hb, b1, b2, b3, e2, h1, h2, h3⟩ := hth
    subst e2
    refine fin _ e _ (by simp; rfl) (fun w => by simp [go_sem]) fun W hW => ?_
    by_cases hv : x.V % 4294967296 = 0
    · simp only [if_pos hv]
      refine (fxLook1 (Q := fun w' => FxMoved F g (s.ahead (q + 8)) (seven W g 2 Ac.zero (.slice none 0 0) .nilFunc) (.returned (.tuple #[])) w') (hb.keep (hkeep W hW)).2.2 x.V x.D A l c true (by simp; omega) _ (by simp) (fun w => by simp [go_sem]) fun W2 hW2 => (fxAhead1Yes ((hbare W hW).below hW2) hpk (capt hW hW2 h1) (capt hW hW2 h2) (capt hW hW2 h3)).mono fun _ _ hm => moved hW2 hm).mono fun _ _ hm => back hm
    · simp only [if_neg hv]
      refine (fxLook1 (Q := fun w' => FxMoved F g (({ s with m := q } : Fs).back q) (seven W g 2 Ac.zero (.slice none 0 0) .nilFunc) (.returned (.tuple #[])) w') (hb.keep (hkeep W hW)).2.2 x.V x.D A l c false (by simp; omega) _ (by simp) (fun w => by simp [go_sem]) fun W2 hW2 => (fxAhead1No ((hbare W hW).below hW2) hpk (capt hW hW2 h1) (capt hW hW2 h2) (capt hW hW2 h3)).mono fun _ _ hm => moved hW2 hm).mono fun _ _ hm => back hm
  | down q =>
    rw [hph] at hth hpk
    obtain ⟨b, on, e, hb, b1, b2, e2, h1, h2⟩ := hth
    subst e2
    refine fin _ e _ (by simp; rfl) (fun w => by simp [go_sem]) fun W hW => ?_
    by_cases hv : x.V % 4294967296 = 0
    · simp only [if_pos hv]
      refine (fxLook1 (Q := fun w' => FxMoved F g (s.back q) (seven W g 2 Ac.zero (.slice none 0 0) .nilFunc) (.returned (.tuple #[])) w') (hb.keep (hkeep W hW)).2.2 x.V x.D A l c true (by simp; omega) _ (by simp) (fun w => by simp [go_sem]) fun W2 hW2 => (fxBack1Yes ((hbare W hW).below hW2) hpk (capt hW hW2 h1) (capt hW hW2 h2)).mono fun _ _ hm => moved hW2 hm).mono fun _ _ hm => back hm
    · simp only [if_neg hv]
      refine (fxLook1 (Q := fun w' => FxMoved F g { s with ph := .fin } (seven W g 2 Ac.zero (.slice none 0 0) .nilFunc) (.returned (.tuple #[])) w') (hb.keep (hkeep W hW)).2.2 x.V x.D A l c false (by simp; omega) _ (by simp) (fun w => by simp [go_sem]) fun W2 hW2 => (fxBack1No ((hbare W hW).below hW2) b1 b2).mono fun _ _ hm => moved hW2 hm).mono fun _ _ hm => back hm
  | padd n =>
    rw [hph] at hth hpk
    obtain ⟨b, b2, e, hb, hb2⟩ := hth
    exact fin _ e _ (by simp) (fun w => by simp [go_sem]) fun W hW => fxPad1 (hbare W hW) hpk (hb.keep (hkeep W hW)) (hb2.keep (hkeep W hW)) x.V x.D A l c
  | fin =>
    rw [hph] at hth
    have e : th = .nilFunc := hth
    subst e
    refine (stTakeNo hblk.c8 x.V x.D A l c).mono ?_
    rintro e w' ⟨rfl, hb⟩
    refine ⟨rfl, F, ⟨a, _, hblk.below hb, hFg, hok, ?_, ?_, fun b hb' => ?_⟩, Touch.of_below hb, fun k hk => .inl hk⟩
    · unfold Fs.PhOk; rw [hph]; trivial
    · unfold FThen; rw [hph]
    · unfold Fs.next at hb'; rw [hph] at hb'; cases hb'

/-- A fix: one that goes on, or one that never began. -/
inductive Fm where
  | live (s : Fs) | dead
namespace Fm
def next : Fm → Option Ac
  | .live s => s.next
  | .dead => none
def take : Fm → An → Fm
  | .live s, x => .live (s.take x)
  | .dead, _ => .dead
def busy : Fm → Bool
  | .live s => s.next.isSome
  | .dead => false
def size : Fm → Int
  | .live s => s.Z
  | .dead => 0
def fixed : Fm → Int
  | .live s => s.n
  | .dead => 0
/-- How it ended: bytes, an error. -/
def result (m : Fm) : Int × Int := if m.size = 0 then (0, 1) else if m.busy = true then (0, 10) else (m.fixed, 0)
/-- The one that is made. -/
def new (B Z : Int) : Fm := if Rg.right B Z then .live ⟨B.toNat, Z.toNat, 0, 0, 0, 0, .head⟩ else .dead
end Fm

/-- A fix stands in the blocks F, its own block is g. -/
def FmAt (w : World) (F : Nat → Prop) (g : Nat) : Fm → Prop
  | .live s => FixAt w F g s
  | .dead => F g ∧ FxBlk w g ⟨0, 0, 0, 0, 0, 0, .fin⟩ Ac.zero (.slice none 0 0) .nilFunc
/-- What a call on a fix leaves. -/
def FmMoved (F : Nat → Prop) (g : Nat) (m : Fm) (w : World) (e : Ending) (w' : World) : Prop :=
  e = .returned (.tuple #[]) ∧ ∃ F', FmAt w' F' g m ∧ Touch (fun k => k = g) w w' ∧ ∀ k, F' k → F k ∨ (w.heap.size ≤ k ∧ k < w'.heap.size)

theorem FmAt.keep {w w' : World} {F : Nat → Prop} {g : Nat} {m : Fm} (h : FmAt w F g m) (hb : ∀ k, F k → w'.heap[k]? = w.heap[k]?) : FmAt w' F g m := by
  cases m with
  | live s =>
    obtain ⟨a, th, h1, h2, h3, h4, h5, h6⟩ := h
    exact ⟨a, th, h1.of_block (hb g h2), h2, h3, h4, h5.keep (fun k hk _ => hb k hk) fun _ hk => hk, h6⟩
  | dead => exact ⟨h.1, h.2.of_block (hb g h.1)⟩
theorem FmAt.wide {w : World} {F F' : Nat → Prop} {g : Nat} {m : Fm} (h : FmAt w F g m) (hF : ∀ k, F k → F' k) : FmAt w F' g m := by
  cases m with
  | live s =>
    obtain ⟨a, th, h1, h2, h3, h4, h5, h6⟩ := h
    exact ⟨a, th, h1, hF g h2, h3, h4, h5.keep (fun k _ _ => rfl) hF, h6⟩
  | dead => exact ⟨hF g h.1, h.2⟩
theorem FmAt.own {w : World} {F : Nat → Prop} {g : Nat} {m : Fm} (h : FmAt w F g m) : F g := by
  cases m with
  | live s =>
    obtain ⟨a, th, h1, h2, _⟩ := h
    exact h2
  | dead => exact h.1

/-- Something goes on where, and only where, there is a next access. -/
theorem FThen.is {w : World} {F : Nat → Prop} {g : Nat} {s : Fs} {th : Value} (h : FThen w F g s th) : (s.next = none ∧ th = .nilFunc) ∨ (s.next ≠ none ∧ ∃ k rc caps, th = .func (.func k) rc caps) := by
  unfold FThen at h
  unfold Fs.next
  cases hph : s.ph with
  | fin => rw [hph] at h; exact .inl ⟨rfl, h⟩
  | head => rw [hph] at h; obtain ⟨_, e, _⟩ := h; exact .inr ⟨by simp, _, _, _, e⟩
  | tail d => rw [hph] at h; obtain ⟨_, _, e, _⟩ := h; exact .inr ⟨by simp, _, _, _, e⟩
  | hdr => rw [hph] at h; obtain ⟨_, e, _⟩ := h; exact .inr ⟨by simp, _, _, _, e⟩
  | up q => rw [hph] at h; obtain ⟨_, _, e, _⟩ := h; exact .inr ⟨by simp, _, _, _, e⟩
  | down q => rw [hph] at h; obtain ⟨_, _, e, _⟩ := h; exact .inr ⟨by simp, _, _, _, e⟩
  | padd n => rw [hph] at h; obtain ⟨_, _, e, _⟩ := h; exact .inr ⟨by simp, _, _, _, e⟩

set_option maxRecDepth 100000 in
set_option maxHeartbeats 800000 in
theorem fixTakeNil (V : Nat) (D : Bool) (A : Option Addr) (l c : Nat) (w : World) :
    Calls Tryz.prog 12 #[.pointer none, .agg #[.int .u64 V, .bool D, .slice A l c]] w (Made (.tuple #[]) w) := by
  have HW := Lib.hid ((Below.refl w.heap.size w).alloc (Nat.le_refl _) (.cells #[.int .u64 V, .bool D, .slice A l c] 33))
  go_enter Tryz.func12, Tryz.ntmps12
  go_upto_region 1 with (fail)
  generalize w.alloc (.cells #[.int .u64 V, .bool D, .slice A l c] 33) = W at HW ⊢
  go_wp2
  go_end0
  exact ⟨rfl, HW.out⟩

set_option maxRecDepth 100000 in
set_option maxHeartbeats 800000 in
theorem fixTake {w : World} {F : Nat → Prop} {g : Nat} {m : Fm} (h : FmAt w F g m) (hF : ∀ k, F k → k < w.heap.size) (x : An) (hx : x.V < 18446744073709551616) (A : Option Addr) (l c : Nat) :
    Calls Tryz.prog 12 #[.pointer (some ⟨g, 0, none⟩), .agg #[.int .u64 x.V, .bool x.D, .slice A l c]] w (FmMoved F g (m.take x) w) := by
  have hb0 := (Below.refl w.heap.size w).alloc (Nat.le_refl _) (.cells #[.int .u64 x.V, .bool x.D, .slice A l c] 33)
  obtain ⟨x0, x1, x2⟩ := rp_ans_box w x.V x.D A l c
  have HW := Lib.hid hb0
  have HC : Hid (∀ W, Below w.heap.size w W → Calls Tryz.prog 34 #[.pointer (some ⟨g, 2, none⟩), .agg #[.int .u64 x.V, .bool x.D, .slice A l c]] W (FmMoved F g (m.take x) W)) := Lib.hid fun W hW => by
    have hk := h.keep fun k hk => hW.block k (hF k hk)
    cases m with
    | live s => exact (fxStepsTake hk (fun k hk => Nat.lt_of_lt_of_le (hF k hk) hW.size) x hx A l c).mono fun e w' hm => hm
    | dead =>
      refine (stTakeNo hk.2.c8 x.V x.D A l c).mono ?_
      rintro e w' ⟨rfl, hb⟩
      exact ⟨rfl, F, ⟨hk.1, hk.2.below hb⟩, Touch.of_below hb, fun k hk => .inl hk⟩
  have hng : ¬ w.heap.size = g := fun e => Nat.lt_irrefl _ (e ▸ hF _ h.own)
  clear h hF hb0
  go_enter Tryz.func12, Tryz.ntmps12
  go_upto_region 1 with (fail)
  generalize w.alloc (.cells #[.int .u64 x.V, .bool x.D, .slice A l c] 33) = W at HW x0 x1 x2 ⊢
  go_upto_region 2 with (fail)
  go_region_held3 (fun w' => w'.cell? ⟨w.heap.size, 0, none⟩ = some (.int .u64 x.V) ∧ w'.cell? ⟨w.heap.size, 1, none⟩ = some (.bool x.D) ∧ w'.cell? ⟨w.heap.size, 2, none⟩ = some (.slice A l c)) (go_keep)
    (first | (go_at_call 34; refine (HC.out W.drew HW.out.drew).mono ?_; intro e w3 hm; have HM := Lib.hid hm; obtain ⟨rfl, F', hp, ht, hF'⟩ := hm; have y0 := (ht.cell (p := ⟨w.heap.size, 0, none⟩) (lt_of_cell x0) hng).trans x0; have y1 := (ht.cell (p := ⟨w.heap.size, 1, none⟩) (lt_of_cell x0) hng).trans x1; have y2 := (ht.cell (p := ⟨w.heap.size, 2, none⟩) (lt_of_cell x0) hng).trans x2))
  all_goals
    go_wp2
    go_end0
    exact ⟨rfl, F', hp, (Touch.of_below HW.out.drew).trans ht, fun k hk => (hF' k hk).imp id fun h => ⟨Nat.le_trans HW.out.size h.1, h.2⟩⟩

set_option maxRecDepth 100000 in
set_option maxHeartbeats 800000 in
theorem fixNextNil (w : World) : Calls Tryz.prog 9 #[.pointer none] w (NextTold none w) := by
  have HA := AccNew.made w
  have HW := Lib.hid ((Below.refl w.heap.size w).alloc (Nat.le_refl _) (.cells #[.int .i64 0, .int .i64 0, .int .i64 0, .int .u64 0, .int .u64 0, .slice none 0 0] 37))
  go_enter Tryz.func9, Tryz.ntmps9
  go_upto_region 1 with (fail)
  generalize w.alloc (.cells #[.int .i64 0, .int .i64 0, .int .i64 0, .int .u64 0, .int .u64 0, .slice none 0 0] 37) = W at HA HW ⊢
  obtain ⟨a0, a1, a2, a3, a4, a5, f0, f1, f2, f3, f4, f5, hbk⟩ := HA
  go_wp2
  refine bodyPost_ret (v := .tuple #[.agg #[.int .i64 0, .int .i64 0, .int .i64 0, .int .u64 0, .int .u64 0, .slice none 0 0], .bool false]) (by simp [results, Tryz.results9, go_sem, a0, a1, a2, a3, a4, a5]) rfl ?_
  exact ⟨six_below HW.out (Nat.le_refl _) _ _ _ _ _ _, rfl⟩

theorem Fm.fine {w : World} {F : Nat → Prop} {g : Nat} {m : Fm} (h : FmAt w F g m) {a : Ac} (ha : m.next = some a) : a.Fine := by
  cases m with
  | dead => cases ha
  | live s =>
    obtain ⟨a0, th, h1, h2, ok, h4, h5, h6⟩ := h
    have okr := ok.rg
    have z1 := okr.z1
    have b1 := okr.b1
    have jn_lt : ∀ x y : Int, (Hd.jn x y).toNat < 18446744073709551616 := fun x y => by have := Hd.jn_bounds x y; omega
    have num : ∀ k : Int, 0 ≤ k → k ≤ 16 → -9223372036854775808 ≤ Rg.num s.B s.Z k ∧ Rg.num s.B s.Z k ≤ 9223372036854775807 := fun k _ _ => by unfold Rg.num; omega
    have spot : ∀ v : Int, 0 ≤ Rg.spot s.B s.Z v ∧ Rg.spot s.B s.Z v ≤ 140000 := fun v => by have := okr.place_in v; unfold Rg.spot; omega
    have mk : ∀ (K P N : Int) (V U : Nat), (0 ≤ K ∧ K ≤ 8) → (-9223372036854775808 ≤ P ∧ P ≤ 9223372036854775807) → (0 ≤ N ∧ N ≤ 8) → V < 18446744073709551616 → U < 18446744073709551616 → Ac.Fine ⟨K, P, N, V, U, []⟩ := fun K P N V U h1 h2 h3 h4 h5 => ⟨h4, h5, ⟨by show _ ≤ K; omega, by show K ≤ _; omega⟩, h2, ⟨by show _ ≤ N; omega, by show N ≤ _; omega⟩, Bys.nil, by show (0 : Nat) ≤ _; omega⟩
    have ha' : s.next = some a := ha
    unfold Fs.next at ha'
    cases hph : s.ph with
    | fin => rw [hph] at ha'; cases ha'
    | head => rw [hph] at ha'; injection ha' with e; subst e; exact mk _ _ _ _ _ (by omega) (num _ (by omega) (by omega)) (by omega) (by omega) (by omega)
    | tail d => rw [hph] at ha'; injection ha' with e; subst e; exact mk _ _ _ _ _ (by omega) (num _ (by omega) (by omega)) (by omega) (by omega) (by omega)
    | hdr => rw [hph] at ha'; injection ha' with e; subst e; have := spot s.a; exact mk _ _ _ _ _ (by omega) (by omega) (by omega) (by omega) (by omega)
    | up q => rw [hph] at ha'; injection ha' with e; subst e; have := spot q; exact mk _ _ _ _ _ (by omega) (by omega) (by omega) (by omega) (by omega)
    | down q => rw [hph] at ha'; injection ha' with e; subst e; have := spot q; exact mk _ _ _ _ _ (by omega) (by omega) (by omega) (by omega) (by omega)
    | padd n => rw [hph] at ha'; injection ha' with e; subst e; have := spot s.a; exact mk _ _ _ _ _ (by omega) (by omega) (by omega) (jn_lt _ _) (by omega)

theorem Fs.next_bs {s : Fs} {b : Ac} (h : s.next = some b) : b.bs = [] := by
  unfold Fs.next at h
  cases hph : s.ph <;> (rw [hph] at h; first | (cases h; done) | (injection h with e; subst e; rfl))

set_option maxRecDepth 100000 in
set_option maxHeartbeats 800000 in
theorem fixNext {w : World} {F : Nat → Prop} {g : Nat} {m : Fm} (h : FmAt w F g m) (hF : ∀ k, F k → k < w.heap.size) :
    Calls Tryz.prog 9 #[.pointer (some ⟨g, 0, none⟩)] w (NextTold m.next w) := by
  have HA := Lib.hid (AccNew.made w)
  have HW := Lib.hid ((Below.refl w.heap.size w).alloc (Nat.le_refl _) (.cells #[.int .i64 0, .int .i64 0, .int .i64 0, .int .u64 0, .int .u64 0, .slice none 0 0] 37))
  have HC : Hid (∀ W, Below w.heap.size w W → Calls Tryz.prog 29 #[.pointer (some ⟨g, 2, none⟩)] W (NextTold m.next W)) := Lib.hid fun W hW => by
    have hk := h.keep fun k hk => hW.block k (hF k hk)
    have hfine := fun a (ha : m.next = some a) => Fm.fine hk ha
    cases m with
    | live s =>
      obtain ⟨a, th, h1, h2, h3, h4, h5, h6⟩ := hk
      show Calls _ _ _ _ (NextTold s.next W)
      rcases h5.is with ⟨e1, e2⟩ | ⟨e1, k, rc, caps, e2⟩
      · rw [e1]
        have := h1.c8
        rw [e2] at this
        exact stNextNo this
      · cases hn : s.next with
        | none => exact absurd hn e1
        | some b =>
          have e3 := h6 b hn
          subst e3
          subst e2
          exact stNextYes h1.st (by rw [Fs.next_bs hn]; exact BytesAt.nil W) (hfine a hn).few
    | dead => exact stNextNo hk.2.c8
  generalize m.next = o at HC ⊢
  clear h hF
  go_enter Tryz.func9, Tryz.ntmps9
  go_upto_region 1 with (fail)
  generalize w.alloc (.cells #[.int .i64 0, .int .i64 0, .int .i64 0, .int .u64 0, .int .u64 0, .slice none 0 0] 37) = W at HA HW ⊢
  cases o with
  | none =>
    go_wp2_with (go_at_call 29; refine (HC.out W HW.out).mono ?_; rintro e w2 ⟨hb, rfl⟩; obtain ⟨a0, a1, a2, a3, a4, a5, f0, f1, f2, f3, f4, f5, hbk⟩ := HA.out.later hb)
    refine bodyPost_ret (v := .tuple #[.agg #[.int .i64 0, .int .i64 0, .int .i64 0, .int .u64 0, .int .u64 0, .slice none 0 0], .bool false]) (by simp [results, Tryz.results9, go_sem, a0, a1, a2, a3, a4, a5]) rfl ?_
    exact ⟨six_below (HW.out.trans (hb.mono HW.out.size)) (Nat.le_refl _) _ _ _ _ _ _, rfl⟩
  | some a =>
    go_wp2_with (go_at_call 29; refine (HC.out W HW.out).mono ?_; rintro e w2 ⟨hb, A, l, c, rfl, ho⟩; obtain ⟨a0, a1, a2, a3, a4, a5, f0, f1, f2, f3, f4, f5, hbk⟩ := HA.out.later hb; have HO := Lib.hid ho)
    refine bodyPost_ret (v := .tuple #[.agg #[.int .i64 a.K, .int .i64 a.P, .int .i64 a.N, .int .u64 a.V, .int .u64 a.U, .slice A l c], .bool true]) (by simp [results, Tryz.results9, go_sem, a0, a1, a2, a3, a4, a5]) rfl ?_
    exact ⟨six_below (HW.out.trans (hb.mono HW.out.size)) (Nat.le_refl _) _ _ _ _ _ _, A, l, c, rfl, (six_own HO.out (Array.getElem?_eq_some_iff.1 HA.out.blk).1 _ _ _ _ _ _).down HW.out.size⟩

set_option maxRecDepth 100000 in
theorem fixResultNil (w : World) : Calls Tryz.prog 22 #[.pointer none] w (fun e w' => e = .returned (.tuple #[.int .i64 0, .int .i64 1]) ∧ w = w') := by
  go_enter Tryz.func22, Tryz.ntmps22
  go_wp2
  refine bodyPost_ret (v := .tuple #[.int .i64 0, .int .i64 1]) (by simp [results, Tryz.results22, go_sem]) rfl ?_
  exact ⟨rfl, rfl⟩

set_option maxRecDepth 100000 in
set_option maxHeartbeats 800000 in
theorem fixResult {w : World} {F : Nat → Prop} {g : Nat} {m : Fm} (h : FmAt w F g m) : Calls Tryz.prog 22 #[.pointer (some ⟨g, 0, none⟩)] w (fun e w' => e = .returned (.tuple #[.int .i64 m.result.1, .int .i64 m.result.2]) ∧ w = w') := by
  have hc : w.cell? ⟨g, 1, none⟩ = some (.int .i64 m.size) ∧ w.cell? ⟨g, 12, none⟩ = some (.int .i32 m.fixed) ∧ (-8192 ≤ m.fixed ∧ m.fixed ≤ 8192) ∧
      Calls Tryz.prog 45 #[.pointer (some ⟨g, 2, none⟩)] w (fun e w' => e = .returned (.bool m.busy) ∧ w = w') := by
    cases m with
    | live s =>
      obtain ⟨a, th, h1, _, h3, _, h5, _⟩ := h
      refine ⟨h1.c1, h1.c12, h3.n0, ?_⟩
      have h8 := h1.c8
      rcases h5.is with ⟨e1, e2⟩ | ⟨e1, k, rc, caps, e2⟩
      · rw [e2] at h8
        have hb : (Fm.live s).busy = false := by show s.next.isSome = false; rw [e1]; rfl
        rw [hb]
        exact stBusyNo h8
      · rw [e2] at h8
        have hb : (Fm.live s).busy = true := by
          show s.next.isSome = true
          cases hn : s.next with
          | none => exact absurd hn e1
          | some b => rfl
        rw [hb]
        exact stBusyYes k rc caps h8
    | dead => exact ⟨h.2.c1, h.2.c12, by simp [Fm.fixed], stBusyNo h.2.c8⟩
  obtain ⟨c1, c12, hn, hB⟩ := hc
  unfold Fm.result
  generalize m.size = Z at c1 ⊢
  generalize m.fixed = n at c12 hn ⊢
  generalize m.busy = bs at hB ⊢
  have HB := Lib.hid hB
  have e1 : IntKind.i64.wrap n = n := IntWalk.i64_in _ (by omega)
  clear h hB hn
  by_cases hz : Z = 0
  · subst hz
    rw [if_pos rfl]
    go_enter Tryz.func22, Tryz.ntmps22
    go_wp2
    refine bodyPost_ret (v := .tuple #[.int .i64 0, .int .i64 1]) (by simp [results, Tryz.results22, go_sem]) rfl ?_
    exact ⟨rfl, rfl⟩
  · rw [if_neg hz]
    have hd : decide (Z = 0) = false := by simpa using hz
    cases bs with
    | true =>
      rw [if_pos rfl]
      go_enter Tryz.func22, Tryz.ntmps22
      go_wp2_with (go_at_call 45; refine HB.out.mono ?_; rintro e w2 ⟨rfl, rfl⟩)
      refine bodyPost_ret (v := .tuple #[.int .i64 0, .int .i64 10]) (by simp [results, Tryz.results22, go_sem]) rfl ?_
      exact ⟨rfl, rfl⟩
    | false =>
      rw [if_neg (by decide)]
      go_enter Tryz.func22, Tryz.ntmps22
      go_wp2_with (go_at_call 45; refine HB.out.mono ?_; rintro e w2 ⟨rfl, rfl⟩)
      refine bodyPost_ret (v := .tuple #[.int .i64 n, .int .i64 0]) (by simp [results, Tryz.results22, go_sem]) rfl ?_
      exact ⟨rfl, rfl⟩

/-- A fix was made: it stands in new memory. -/
def FNewIs (m : Fm) (w : World) (e : Ending) (w' : World) : Prop :=
  ∃ g, e = .returned (.pointer (some ⟨g, 0, none⟩)) ∧ FmAt w' (fun k => w.heap.size ≤ k ∧ k < w'.heap.size) g m ∧ Below w.heap.size w w'

set_option maxRecDepth 100000 in
set_option maxHeartbeats 800000 in
theorem fxNewBad (B Z : Int) (hB : -9223372036854775808 ≤ B ∧ B ≤ 9223372036854775807) (hZ : -9223372036854775808 ≤ Z ∧ Z ≤ 9223372036854775807) (hbad : ¬ Rg.right B Z) (w : World) :
    Calls Tryz.prog 8 #[.agg #[.int .i64 B, .int .i64 Z]] w (FNewIs .dead w) := by
  have hb0 := un_below w (.int .i64 B) (.int .i64 Z) 26
  have hx := Go.Deep.blk_alloc_new w (.cells #[.int .i64 B, .int .i64 Z] 26)
  have HBZ := Lib.hid (And.intro hB hZ)
  have HN := Lib.hid hbad
  clear hB hZ hbad
  go_enter Tryz.func8, Tryz.ntmps8
  go_upto_region 1 with (fail)
  generalize w.alloc (.cells #[.int .i64 B, .int .i64 Z] 26) = W at hb0 hx ⊢
  have x0 : W.cell? ⟨w.heap.size, 0, none⟩ = some (.int .i64 B) := by simp [World.cell?, hx]
  have x1 : W.cell? ⟨w.heap.size, 1, none⟩ = some (.int .i64 Z) := by simp [World.cell?, hx]
  clear hx
  go_wp2_with (go_at_call 27; refine (rpCheck B Z HBZ.out.1 HBZ.out.2 W).mono ?_; rintro e w2 ⟨rfl, hb⟩; rw [if_neg HN.out])
  go_ret
  have hw2 := hb0.trans (hb.mono hb0.size)
  exact ⟨w2.heap.size, rfl, ⟨⟨hw2.size, by simp⟩, Go.Deep.blk_alloc_new _ _⟩, hw2.alloc hw2.size _⟩

/-- The block of a fix that is made. -/
theorem fx_made {w w4 W5 : World} {B Z : Int} (hW5 : W5 = w4.alloc (.cells #[.int .i64 B, .int .i64 Z, .int .i64 0, .int .i64 0, .int .i64 0, .int .u64 0, .int .u64 0, .slice none 0 0, .nilFunc, .int .i64 0, .int .i64 0, .int .i64 0, .int .i32 0] 78))
    (hb : Below w.heap.size w w4) (hr : Rg.right B Z) : FxBare W5 (fun k => w.heap.size ≤ k ∧ k < W5.heap.size) w4.heap.size ⟨B.toNat, Z.toNat, 0, 0, 0, 0, .head⟩ := by
  obtain ⟨h1, h2, h3, h4, h5, h6⟩ := hr
  have hB : ((B.toNat : Nat) : Int) = B := Int.toNat_of_nonneg h4
  have hZ : ((Z.toNat : Nat) : Int) = Z := Int.toNat_of_nonneg (by omega)
  have hsz : W5.heap.size = w4.heap.size + 1 := by rw [hW5]; simp
  refine ⟨⟨Ac.zero, ?_⟩, ⟨hb.size, by omega⟩, ⟨⟨by rw [← h1, hZ], by simp only; omega, by simp only; omega, by simp only; omega, by simp only; omega⟩, by simp only; omega, by simp only; omega, by simp only; omega, by simp only; omega⟩⟩
  unfold FxBlk
  rw [hW5, Go.Deep.blk_alloc_new]
  simp only [FxCells, hB, hZ, Ac.zero]
  rfl

set_option maxRecDepth 100000 in
set_option maxHeartbeats 800000 in
theorem fxNewOk (B Z : Int) (hB : -9223372036854775808 ≤ B ∧ B ≤ 9223372036854775807) (hZ : -9223372036854775808 ≤ Z ∧ Z ≤ 9223372036854775807) (hok : Rg.right B Z) (w : World) :
    Calls Tryz.prog 8 #[.agg #[.int .i64 B, .int .i64 Z]] w (FNewIs (.live ⟨B.toNat, Z.toNat, 0, 0, 0, 0, .head⟩) w) := by
  have hb0 := un_below w (.int .i64 B) (.int .i64 Z) 26
  have hx := Go.Deep.blk_alloc_new w (.cells #[.int .i64 B, .int .i64 Z] 26)
  have HBZ := Lib.hid (And.intro hB hZ)
  have HN := Lib.hid hok
  clear hB hZ hok
  go_enter Tryz.func8, Tryz.ntmps8
  go_upto_region 1 with (fail)
  generalize w.alloc (.cells #[.int .i64 B, .int .i64 Z] 26) = W at hb0 hx ⊢
  have x0 : W.cell? ⟨w.heap.size, 0, none⟩ = some (.int .i64 B) := by simp [World.cell?, hx]
  have x1 : W.cell? ⟨w.heap.size, 1, none⟩ = some (.int .i64 Z) := by simp [World.cell?, hx]
  have hlx := (Array.getElem?_eq_some_iff.1 hx).1
  clear hx
  go_upto_region 4 with (go_at_call 27; refine (rpCheck B Z HBZ.out.1 HBZ.out.2 W).mono ?_; rintro e w2 ⟨rfl, hb⟩; rw [if_pos HN.out]; have y0 := (hb.cell (p := ⟨w.heap.size, 0, none⟩) hlx).trans x0; have y1 := (hb.cell (p := ⟨w.heap.size, 1, none⟩) hlx).trans x1)
  have hw2 := hb0.trans (hb.mono hb0.size)
  obtain ⟨W5, hW5⟩ : ∃ W5, W5 = w2.alloc (.cells #[.int .i64 B, .int .i64 Z, .int .i64 0, .int .i64 0, .int .i64 0, .int .u64 0, .int .u64 0, .slice none 0 0, .nilFunc, .int .i64 0, .int .i64 0, .int .i64 0, .int .i32 0] 78) := ⟨_, rfl⟩
  have hmade := fx_made (w := w) hW5 hw2 HN.out
  have hbk : Below w.heap.size w W5 := by rw [hW5]; exact hw2.alloc hw2.size _
  rw [← hW5]
  have HM := Lib.hid (fxBegin hmade)
  have HBK := Lib.hid hbk
  have hgw := hw2.size
  clear hW5 hmade hbk hb0 hb y0 y1 hw2 hlx x0 x1
  go_wp2_with (go_at_call 28; refine HM.out.mono ?_; intro e w6 hm; have HMM := Lib.hid hm; obtain ⟨rfl, _⟩ := hm)
  go_ret
  obtain ⟨_, F', hp, ht, hF'⟩ := HMM.out
  refine ⟨_, rfl, ?_, ht.below HBK.out HBK.out.size fun k hk => by have e : k = w2.heap.size := hk; rw [e]; exact hgw⟩
  refine FmAt.wide (m := .live _) hp fun k hk => ?_
  rcases hF' k hk with e | e
  · exact ⟨e.1, Nat.lt_of_lt_of_le e.2 ht.size⟩
  · exact ⟨Nat.le_trans HBK.out.size e.1, e.2⟩

theorem fxNew (B Z : Int) (hB : -9223372036854775808 ≤ B ∧ B ≤ 9223372036854775807) (hZ : -9223372036854775808 ≤ Z ∧ Z ≤ 9223372036854775807) (w : World) :
    Calls Tryz.prog 8 #[.agg #[.int .i64 B, .int .i64 Z]] w (FNewIs (Fm.new B Z) w) := by
  unfold Fm.new
  by_cases h1 : Rg.right B Z
  · rw [if_pos h1]
    exact fxNewOk B Z hB hZ h1 w
  · rw [if_neg h1]
    exact fxNewBad B Z hB hZ h1 w
end Go.Proofs.YtbhhegikfadpiaaGreat
