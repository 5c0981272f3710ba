/-
  Layer 8's get, walked: a record's header was told that is too long.
  Layer 8's get, walked: a record's header was told that is padding's.
  Layer 8's get, walked: a record's header was told that is a message's.
  Layer 8's get, walked: a record's header was told.
  Layer 8's get, walked: a record's header was answered.
  Layer 8's get, walked: an answer is taken.
  Layer 7's put is made.
  Layer 8's get from outside: what it takes; what it does next; how it ended.
  Layer 8's get from outside: what it does next.
  Layer 8's get from outside: how it ended.
  Layer 8's get is made.
  Layer 8's get: what it read is short, as long as each answer's bytes are few.
  Layer 6's machines, as far as this seat reaches them: what each does next, what it does with an answer, where it stands in memory.
  Layer 6's next: a machine's next access, asked through the interface, its bytes in new memory.
-/
import Derived.Test.YtikcnioooihncaaGreatP06
import Derived.Test.YtikcnioooihncaaGreatP03
import Derived.Test.YtikcnioooihncaaGreatP05
namespace Go.Proofs.YtikcnioooihncaaGreat
open Go.RowKit

set_option maxRecDepth 100000 in
set_option maxHeartbeats 1600000 in
theorem gtTellOdd2 {w : World} {F M : Nat → Prop} {g : Nat} {s : Gs} {mv : Value} (h : GtBare w F g s M mv) (hF : ∀ k, F k → k < w.heap.size) {l typ : Int} (hl : 1 ≤ l ∧ l ≤ 2147483647) (h8 : ¬ l < 8) (hlt : s.left < (Gs.size l : Int)) :
    Calls Tryz.prog 92 #[.pointer (some ⟨g, 0, none⟩), .int .i32 l, .int .i32 typ] w (GtMoved F g ({ s with er := 13 } : Gs).drain w) := by
  have HH := Lib.hid h
  have HFL := Lib.hid hF
  obtain ⟨a0, av, hblk⟩ := h.blk
  have hgl := hblk.lt
  have HB := Lib.hid hblk
  obtain ⟨WW, hWW⟩ : ∃ WW, WW = (w.alloc (.cells #[.pointer (some ⟨g, 0, none⟩)] 27)).alloc (.cells #[.int .i32 typ] 21) := ⟨_, rfl⟩
  obtain ⟨hb0, x0, x1, hsz⟩ := gt_box2 w (.pointer (some ⟨g, 0, none⟩)) (.int .i32 typ) _ _ WW hWW
  have HW := Lib.hid hb0
  obtain ⟨S, hS⟩ : ∃ S, S = Gs.size l := ⟨_, rfl⟩
  have hal : Wd.al l 8 = (S : Int) := by rw [hS]; exact gt_al hl.1 hl.2
  have HSS := Lib.hid hS
  clear hS
  have hd : decide (l < 1) = false := decide_eq_false (by omega)
  have hc1 : IntKind.i64.wrap l = l := IntWalk.i64_in _ (by omega)
  have hd8 : decide (l < 8) = false := decide_eq_false h8
  obtain ⟨lf, hlf⟩ : ∃ lf, lf = s.left := ⟨_, rfl⟩
  have hd9 : decide (lf < (S : Int)) = true := decide_eq_true (by rw [hlf, HSS.out]; exact hlt)
  have HLF := Lib.hid hlf
  have HLT := Lib.hid hlt
  clear hlf hlt
  clear h hF hb0 hblk
  go_enter Tryz.func92, Tryz.ntmps92
  go_upto_region 1 with (fail)
  rw [← hWW]
  clear hWW
  go_upto_region 5 with (go_at_call 105; refine (align_any l 8 _ (by omega) (by omega)).mono ?_; rw [hal]; rintro e wq ⟨rfl, rfl⟩)
  have hb1 := (Below.refl WW.heap.size WW).alloc (Nat.le_refl _) (.cells #[.int .i64 (S : Int)] 2)
  have x2 := rp_box WW (.int .i64 (S : Int)) 2
  have k0 := (hb1.cell (p := ⟨w.heap.size, 0, none⟩) (lt_of_cell x0)).trans x0
  have k1 := (hb1.cell (p := ⟨w.heap.size + 1, 0, none⟩) (lt_of_cell x1)).trans x1
  generalize WW.alloc (.cells #[.int .i64 (S : Int)] 2) = W at hb1 x2 k0 k1 ⊢
  have HX := Lib.hid (HW.out.trans (hb1.mono HW.out.size))
  rw [hsz] at x2
  have hl0 := lt_of_cell k0
  have hl2 := lt_of_cell x2
  have hl1 := lt_of_cell k1
  go_region_held3 (fun w' => w'.cell? ⟨w.heap.size, 0, none⟩ = some (.pointer (some ⟨g, 0, none⟩)) ∧ w'.cell? ⟨w.heap.size + 2, 0, none⟩ = some (.int .i64 (S : Int))) (go_keep)
    (first
      | (go_at_call 88; refine (gtLeft (HB.out.below HX.out.drew) HH.out.ok).mono ?_; rw [← HLF.out]; rintro e x5 ⟨rfl, hq1⟩; have hb5 := below_drew hq1; have k05 := (hb5.cell (p := ⟨w.heap.size, 0, none⟩) hl0).trans k0; have k25 := (hb5.cell (p := ⟨w.heap.size + 2, 0, none⟩) hl2).trans x2))
  all_goals
    have k15 := (hb5.cell (p := ⟨w.heap.size + 1, 0, none⟩) hl1).trans k1
    have hb2 := HX.out.trans (hb5.mono HX.out.size)
    have HB2 := Lib.hid hb2
    have hga : ¬ g = w.heap.size := by omega
    clear k0 k1 x0 x1 x2 hb5 hb1
    have c13 := (hb2.cell (p := ⟨g, 13, none⟩) hgl).trans HB.out.c13
    have f13 := (HB.out.below hb2).free 13
    have hF2 : Hid (GtBare (x5.setCell ⟨g, 13, none⟩ (.int .i64 13)) F g { s with er := 13 } M mv) := Lib.hid ((HH.out.below hb2).fault 13)
    have hT2 : Hid (Touch F w (x5.setCell ⟨g, 13, none⟩ (.int .i64 13))) := Lib.hid ((Touch.of_below hb2).trans (((Touch.refl (fun k => k = g) _).setCell (p := ⟨g, 13, none⟩) rfl _).mono fun k e => by have e : k = g := e; rw [e]; exact HH.out.own))
    have j1 := (World.cell?_setCell_far x5 ⟨g, 13, none⟩ ⟨w.heap.size, 0, none⟩ (.int .i64 13) hga).trans k05
    clear hb2
    go_upto_region 7 with (fail)
    generalize x5.setCell ⟨g, 13, none⟩ (.int .i64 13) = W2 at hF2 hT2 j1 ⊢
    go_wp2_with fail
    refine (gtDrain hF2.out fun k hk => Nat.lt_of_lt_of_le (HFL.out k hk) hT2.out.size).mono ?_
    intro e w3 hm
    have hm2 := hm.afterT hT2.out
    obtain ⟨rfl, _⟩ := hm
    have HM := Lib.hid hm2
    clear hm2
    go_wp2
    go_end0
    exact HM.out
end Go.Proofs.YtikcnioooihncaaGreat
namespace Go.Proofs.YtikcnioooihncaaGreat
open Go.RowKit

set_option maxRecDepth 100000 in
set_option maxHeartbeats 1600000 in
theorem gtTellPad {w : World} {F M : Nat → Prop} {g : Nat} {s : Gs} {mv : Value} (h : GtBare w F g s M mv) (hF : ∀ k, F k → k < w.heap.size) {l typ : Int} (hl : 1 ≤ l ∧ l ≤ 2147483647) (h8 : ¬ l < 8) (hlt : ¬ s.left < (Gs.size l : Int)) (ht : typ = -1) :
    Calls Tryz.prog 92 #[.pointer (some ⟨g, 0, none⟩), .int .i32 l, .int .i32 typ] w (GtMoved F g (s.pass (Gs.size l)) w) := by
  have HH := Lib.hid h
  have HFL := Lib.hid hF
  obtain ⟨a0, av, hblk⟩ := h.blk
  have hgl := hblk.lt
  have HB := Lib.hid hblk
  obtain ⟨WW, hWW⟩ : ∃ WW, WW = (w.alloc (.cells #[.pointer (some ⟨g, 0, none⟩)] 27)).alloc (.cells #[.int .i32 typ] 21) := ⟨_, rfl⟩
  obtain ⟨hb0, x0, x1, hsz⟩ := gt_box2 w (.pointer (some ⟨g, 0, none⟩)) (.int .i32 typ) _ _ WW hWW
  have HW := Lib.hid hb0
  obtain ⟨S, hS⟩ : ∃ S, S = Gs.size l := ⟨_, rfl⟩
  have hal : Wd.al l 8 = (S : Int) := by rw [hS]; exact gt_al hl.1 hl.2
  have HSS := Lib.hid hS
  clear hS
  have hd : decide (l < 1) = false := decide_eq_false (by omega)
  have hc1 : IntKind.i64.wrap l = l := IntWalk.i64_in _ (by omega)
  have hd8 : decide (l < 8) = false := decide_eq_false h8
  obtain ⟨lf, hlf⟩ : ∃ lf, lf = s.left := ⟨_, rfl⟩
  have hd9 : decide (lf < (S : Int)) = false := decide_eq_false (by rw [hlf, HSS.out]; exact hlt)
  have HLF := Lib.hid hlf
  have HLT := Lib.hid hlt
  clear hlf hlt
  have hdt : (typ == -1) = true := by simpa using ht
  clear ht
  clear h hF hb0 hblk
  go_enter Tryz.func92, Tryz.ntmps92
  go_upto_region 1 with (fail)
  rw [← hWW]
  clear hWW
  go_upto_region 5 with (go_at_call 105; refine (align_any l 8 _ (by omega) (by omega)).mono ?_; rw [hal]; rintro e wq ⟨rfl, rfl⟩)
  have hb1 := (Below.refl WW.heap.size WW).alloc (Nat.le_refl _) (.cells #[.int .i64 (S : Int)] 2)
  have x2 := rp_box WW (.int .i64 (S : Int)) 2
  have k0 := (hb1.cell (p := ⟨w.heap.size, 0, none⟩) (lt_of_cell x0)).trans x0
  have k1 := (hb1.cell (p := ⟨w.heap.size + 1, 0, none⟩) (lt_of_cell x1)).trans x1
  generalize WW.alloc (.cells #[.int .i64 (S : Int)] 2) = W at hb1 x2 k0 k1 ⊢
  have HX := Lib.hid (HW.out.trans (hb1.mono HW.out.size))
  rw [hsz] at x2
  have hl0 := lt_of_cell k0
  have hl2 := lt_of_cell x2
  have hl1 := lt_of_cell k1
  go_region_held3 (fun w' => w'.cell? ⟨w.heap.size, 0, none⟩ = some (.pointer (some ⟨g, 0, none⟩)) ∧ w'.cell? ⟨w.heap.size + 2, 0, none⟩ = some (.int .i64 (S : Int))) (go_keep)
    (first
      | (go_at_call 88; refine (gtLeft (HB.out.below HX.out.drew) HH.out.ok).mono ?_; rw [← HLF.out]; rintro e x5 ⟨rfl, hq1⟩; have hb5 := below_drew hq1; have k05 := (hb5.cell (p := ⟨w.heap.size, 0, none⟩) hl0).trans k0; have k25 := (hb5.cell (p := ⟨w.heap.size + 2, 0, none⟩) hl2).trans x2))
  all_goals
    have k15 := (hb5.cell (p := ⟨w.heap.size + 1, 0, none⟩) hl1).trans k1
    have hb2 := HX.out.trans (hb5.mono HX.out.size)
    have HB2 := Lib.hid hb2
    have hga : ¬ g = w.heap.size := by omega
    clear k0 k1 x0 x1 x2 hb5 hb1
    clear hb2
    have HDN := Lib.hid (show ((s.dn + S : Nat) : Int) ≤ (s.Z : Int) - Rg.place s.Z s.h by have h1 := HLT.out; have h2 := HSS.out; unfold Gs.left at h1; omega)
    go_wp2_with fail
    refine (gtPass (sz := S) ⟨(HH.out.below HB2.out).blk, HH.out.own, ⟨HH.out.ok.rg, HDN.out, HH.out.ok.m0, HH.out.ok.h0, Nat.le_trans HH.out.ok.few (Nat.le_add_right _ _)⟩, (HH.out.below HB2.out).msgs, (HH.out.below HB2.out).in_⟩ fun k hk => Nat.lt_of_lt_of_le (HFL.out k hk) HB2.out.size).mono ?_
    intro e w3 hm
    have hm2 := hm.after HB2.out
    obtain ⟨rfl, _⟩ := hm
    have HM := Lib.hid hm2
    clear hm2
    go_wp2
    go_end0
    rw [← HSS.out]
    exact HM.out
end Go.Proofs.YtikcnioooihncaaGreat
namespace Go.Proofs.YtikcnioooihncaaGreat
open Go.RowKit

set_option maxRecDepth 100000 in
set_option maxHeartbeats 1600000 in
theorem gtTellMsg {w : World} {F M : Nat → Prop} {g : Nat} {s : Gs} {mv : Value} (h : GtBare w F g s M mv) (hF : ∀ k, F k → k < w.heap.size) {l typ : Int} (hl : 1 ≤ l ∧ l ≤ 2147483647) (h8 : ¬ l < 8) (hlt : ¬ s.left < (Gs.size l : Int)) (ht : ¬ typ = -1) :
    Calls Tryz.prog 92 #[.pointer (some ⟨g, 0, none⟩), .int .i32 l, .int .i32 typ] w (GtMoved F g (s.reads typ (Gs.size l) (l - 8).toNat 0 []) w) := by
  have HH := Lib.hid h
  have HFL := Lib.hid hF
  obtain ⟨a0, av, hblk⟩ := h.blk
  have hgl := hblk.lt
  have HB := Lib.hid hblk
  obtain ⟨WW, hWW⟩ : ∃ WW, WW = (w.alloc (.cells #[.pointer (some ⟨g, 0, none⟩)] 27)).alloc (.cells #[.int .i32 typ] 21) := ⟨_, rfl⟩
  obtain ⟨hb0, x0, x1, hsz⟩ := gt_box2 w (.pointer (some ⟨g, 0, none⟩)) (.int .i32 typ) _ _ WW hWW
  have HW := Lib.hid hb0
  obtain ⟨S, hS⟩ : ∃ S, S = Gs.size l := ⟨_, rfl⟩
  have hal : Wd.al l 8 = (S : Int) := by rw [hS]; exact gt_al hl.1 hl.2
  have HSS := Lib.hid hS
  clear hS
  have hd : decide (l < 1) = false := decide_eq_false (by omega)
  have hc1 : IntKind.i64.wrap l = l := IntWalk.i64_in _ (by omega)
  have hd8 : decide (l < 8) = false := decide_eq_false h8
  obtain ⟨lf, hlf⟩ : ∃ lf, lf = s.left := ⟨_, rfl⟩
  have hd9 : decide (lf < (S : Int)) = false := decide_eq_false (by rw [hlf, HSS.out]; exact hlt)
  have HLF := Lib.hid hlf
  have HLT := Lib.hid hlt
  clear hlf hlt
  have hdt : (typ == -1) = false := by simpa using ht
  have HL := Lib.hid (And.intro hl h8)
  clear ht
  clear h hF hb0 hblk
  go_enter Tryz.func92, Tryz.ntmps92
  go_upto_region 1 with (fail)
  rw [← hWW]
  clear hWW
  go_upto_region 5 with (go_at_call 105; refine (align_any l 8 _ (by omega) (by omega)).mono ?_; rw [hal]; rintro e wq ⟨rfl, rfl⟩)
  have hb1 := (Below.refl WW.heap.size WW).alloc (Nat.le_refl _) (.cells #[.int .i64 (S : Int)] 2)
  have x2 := rp_box WW (.int .i64 (S : Int)) 2
  have k0 := (hb1.cell (p := ⟨w.heap.size, 0, none⟩) (lt_of_cell x0)).trans x0
  have k1 := (hb1.cell (p := ⟨w.heap.size + 1, 0, none⟩) (lt_of_cell x1)).trans x1
  generalize WW.alloc (.cells #[.int .i64 (S : Int)] 2) = W at hb1 x2 k0 k1 ⊢
  have HX := Lib.hid (HW.out.trans (hb1.mono HW.out.size))
  rw [hsz] at x2
  have hl0 := lt_of_cell k0
  have hl2 := lt_of_cell x2
  have hl1 := lt_of_cell k1
  go_region_held3 (fun w' => w'.cell? ⟨w.heap.size, 0, none⟩ = some (.pointer (some ⟨g, 0, none⟩)) ∧ w'.cell? ⟨w.heap.size + 2, 0, none⟩ = some (.int .i64 (S : Int))) (go_keep)
    (first
      | (go_at_call 88; refine (gtLeft (HB.out.below HX.out.drew) HH.out.ok).mono ?_; rw [← HLF.out]; rintro e x5 ⟨rfl, hq1⟩; have hb5 := below_drew hq1; have k05 := (hb5.cell (p := ⟨w.heap.size, 0, none⟩) hl0).trans k0; have k25 := (hb5.cell (p := ⟨w.heap.size + 2, 0, none⟩) hl2).trans x2))
  all_goals
    have k15 := (hb5.cell (p := ⟨w.heap.size + 1, 0, none⟩) hl1).trans k1
    have hb2 := HX.out.trans (hb5.mono HX.out.size)
    have HB2 := Lib.hid hb2
    have hga : ¬ g = w.heap.size := by omega
    clear k0 k1 x0 x1 x2 hb5 hb1
    clear hb2
    have HN := Lib.hid (show (l - 8).toNat + 8 ≤ S ∧ (S : Int) ≤ s.left ∧ 1 ≤ S by have h1 := HLT.out; have h2 := HSS.out; have h3 := HL.out; unfold Gs.size at h1 h2; omega)
    obtain ⟨n, hn⟩ : ∃ n : Nat, (n : Int) = l - 8 := ⟨(l - 8).toNat, by omega⟩
    have hnn : (l - 8).toNat = n := by omega
    have HNN := Lib.hid hnn
    have e8 : IntKind.i64.wrap (l - 8) = (n : Int) := by rw [IntWalk.i64_in _ (by omega), hn]
    have e9 : wrap64 (l - 8) = (n : Int) := by unfold wrap64; omega
    have nM : ∀ k, w.heap.size ≤ k → ¬ M k := fun k hk hm => by have := (HH.out.in_ k hm).2.2; omega
    have g0 : w.heap.size < x5.heap.size := lt_of_cell k05
    have g1 : w.heap.size + 1 < x5.heap.size := lt_of_cell k15
    have g2 : w.heap.size + 2 < x5.heap.size := lt_of_cell k25
    have HRD := Lib.hid (gtReadM (F := fun k => F k ∨ (w.heap.size ≤ k ∧ k < x5.heap.size)) ((HH.out.below HB2.out).wide fun k hk => .inl hk) (fun k hk => hk.elim (fun hk => Nat.lt_of_lt_of_le (HFL.out k hk) HB2.out.size) fun hk => hk.2) (typ := typ) (sz := S) (n := n) (a := w.heap.size) (b := w.heap.size + 1) (c := w.heap.size + 2) ⟨⟨.inr ⟨Nat.le_refl _, g0⟩, nM _ (Nat.le_refl _)⟩, by omega, k05⟩ ⟨⟨.inr ⟨by omega, g1⟩, nM _ (by omega)⟩, by omega, k15⟩ ⟨⟨.inr ⟨by omega, g2⟩, nM _ (by omega)⟩, by omega, k25⟩ (by rw [← HNN.out]; exact HN.out))
    clear hn hnn nM g0 g1 g2
    go_wp2_with fail
    refine HRD.out.mono ?_
    intro e w3 hm
    have hm2 := hm.around (Touch.of_below HB2.out) fun k hk => hk
    obtain ⟨rfl, _⟩ := hm
    have HM := Lib.hid hm2
    clear hm2
    go_wp2
    go_end0
    rw [← HSS.out, HNN.out]
    exact HM.out
end Go.Proofs.YtikcnioooihncaaGreat
namespace Go.Proofs.YtikcnioooihncaaGreat
open Go.RowKit

theorem gtTell {w : World} {F M : Nat → Prop} {g : Nat} {s : Gs} {mv : Value} (h : GtBare w F g s M mv) (hF : ∀ k, F k → k < w.heap.size) {l typ : Int} (hl : l ≤ 2147483647) :
    Calls Tryz.prog 92 #[.pointer (some ⟨g, 0, none⟩), .int .i32 l, .int .i32 typ] w (GtMoved F g (s.tell l typ) w) := by
  unfold Gs.tell
  by_cases h1 : l < 1
  · rw [if_pos h1]; exact gtTellNone h hF h1
  · rw [if_neg h1]
    by_cases h8 : l < 8
    · rw [if_pos (.inl h8)]; exact gtTellOdd1 h hF ⟨by omega, hl⟩ h8
    · by_cases hlt : s.left < (Gs.size l : Int)
      · rw [if_pos (.inr hlt)]; exact gtTellOdd2 h hF ⟨by omega, hl⟩ h8 hlt
      · rw [if_neg (by rintro (e | e) <;> contradiction)]
        by_cases ht : typ = -1
        · rw [if_pos ht]; exact gtTellPad h hF ⟨by omega, hl⟩ h8 hlt ht
        · rw [if_neg ht]
          have hm := gtTellMsg h hF ⟨by omega, hl⟩ h8 hlt ht
          unfold Gs.reads at hm
          by_cases he : l = 8
          · rw [if_pos he]
            rw [if_pos (by omega)] at hm
            exact hm
          · rw [if_neg he]
            rw [if_neg (by omega)] at hm
            exact hm

set_option maxRecDepth 100000 in
set_option maxHeartbeats 800000 in
/-- The head was told. -/
theorem gtBegin1 {w : World} {F M : Nat → Prop} {g : Nat} {s : Gs} {mv : Value} (h : GtBare w F g s M mv) (hF : ∀ k, F k → k < w.heap.size) (hd0 : s.dn = 0) {a : Nat} (ha : Capt w (fun k => F k ∧ ¬ M k) g a (.pointer (some ⟨g, 0, none⟩))) (V : Nat) (D : Bool) (A : Option Addr) (L cp : Nat) :
    Calls Tryz.prog 57 #[.agg #[.int .u64 V, .bool D, .slice A L cp], .pointer (some ⟨a, 0, none⟩)] w (GtMoved F g ({ s with h := Rs.wr V } : Gs).looks w) := by
  obtain ⟨a0, av, hblk⟩ := h.blk
  have hgl := hblk.lt
  have hb0 := (Below.refl w.heap.size w).alloc (Nat.le_refl _) (.cells #[.int .u64 V, .bool D, .slice A L cp] 25)
  have hx := Go.Deep.blk_alloc_new w (.cells #[.int .u64 V, .bool D, .slice A L cp] 25)
  have hk := (hb0.cell (p := ⟨a, 0, none⟩) (lt_of_cell ha.2.2)).trans ha.2.2
  have HH := Lib.hid h
  have HFL := Lib.hid hF
  have HW := Lib.hid hb0
  have hga : ¬ g = a := fun e => ha.2.1 e.symm
  have c10 := (hb0.cell (p := ⟨g, 10, none⟩) hgl).trans hblk.c10
  have f10 := (hblk.below hb0).free 10
  have HB := Lib.hid (hblk.below hb0)
  have HD := Lib.hid hd0
  have hm0 : s.ms.length ≤ s.dn := h.ok.few
  have HM0 := Lib.hid hm0
  obtain ⟨H, hH⟩ : ∃ H, H = Rs.wr (V : Int) := ⟨_, rfl⟩
  have e1 : IntKind.i64.wrap (V : Int) = H := by rw [hH]; exact IntWalk.i64_left _
  have e2 : wrap64 (V : Int) = H := by rw [hH]; rfl
  have HHE := Lib.hid hH
  clear h hF hb0 ha hblk hd0 hm0 hH
  go_enter Tryz.func57, Tryz.ntmps57
  go_upto_region 1 with (fail)
  generalize w.alloc (.cells #[.int .u64 V, .bool D, .slice A L cp] 25) = W at hx hk HW c10 f10 HB ⊢
  have x0 : W.cell? ⟨w.heap.size, 0, none⟩ = some (.int .u64 V) := by simp [World.cell?, hx]
  clear hx
  have k2 := (World.cell?_setCell_far W ⟨g, 10, none⟩ ⟨a, 0, none⟩ (.int .i64 H) hga).trans hk
  have HBare : Hid (GtBare (W.setCell ⟨g, 10, none⟩ (.int .i64 H)) F g { s with h := H } M mv) := Lib.hid (by
    have hb := HH.out.below HW.out
    have hT := (Touch.refl (fun k => k = g) W).setCell (p := ⟨g, 10, none⟩) rfl (.int .i64 H)
    have hpl := HH.out.ok.rg.place_in H
    refine ⟨⟨a0, av, HB.out.set 10 _ (gt_setH s H _ _ _ _)⟩, hb.own, ⟨HH.out.ok.rg, ?_, HH.out.ok.m0, by show -9223372036854775808 ≤ H ∧ H ≤ _; rw [HHE.out]; exact Rs.wr_in _, HM0.out⟩, hb.msgs.keep hT.size fun k hk => hT.block k (hb.in_ k hk).2.2 (hb.in_ k hk).2.1, fun k hk => ⟨(hb.in_ k hk).1, (hb.in_ k hk).2.1, Nat.lt_of_lt_of_le (hb.in_ k hk).2.2 hT.size⟩⟩
    show (s.dn : Int) ≤ (s.Z : Int) - Rg.place s.Z H
    rw [HD.out]
    omega)
  have HT : Hid (Touch F w (W.setCell ⟨g, 10, none⟩ (.int .i64 H))) := Lib.hid ((Touch.of_below HW.out).trans (((Touch.refl (fun k => k = g) W).setCell (p := ⟨g, 10, none⟩) rfl _).mono fun k e => by have e : k = g := e; rw [e]; exact HH.out.own))
  go_upto_region 2 with (fail)
  generalize W.setCell ⟨g, 10, none⟩ (.int .i64 H) = W2 at k2 HBare HT ⊢
  go_wp2_with fail
  refine (gtLook HBare.out fun k hk => Nat.lt_of_lt_of_le (HFL.out k hk) HT.out.size).mono ?_
  intro e w3 hm
  have hm2 := hm.afterT HT.out
  obtain ⟨rfl, _⟩ := hm
  have HM := Lib.hid hm2
  clear hm2
  go_wp2
  go_end0
  rw [← HHE.out]
  exact HM.out
end Go.Proofs.YtikcnioooihncaaGreat
namespace Go.Proofs.YtikcnioooihncaaGreat
open Go.RowKit

set_option maxRecDepth 100000 in
set_option maxHeartbeats 800000 in
theorem gtLook1 {w : World} {F M : Nat → Prop} {g : Nat} {s : Gs} {mv : Value} (h : GtBare w F g s M mv) (hF : ∀ k, F k → k < w.heap.size) {a : Nat} (ha : Capt w (fun k => F k ∧ ¬ M k) g a (.pointer (some ⟨g, 0, none⟩))) (V : Nat) (D : Bool) (A : Option Addr) (L cp : Nat) :
    Calls Tryz.prog 91 #[.agg #[.int .u64 V, .bool D, .slice A L cp], .pointer (some ⟨a, 0, none⟩)] w (GtMoved F g (s.tell (Hd.s32 V) (Hd.s32 (V / 4294967296))) w) := by
  have hb0 := (Below.refl w.heap.size w).alloc (Nat.le_refl _) (.cells #[.int .u64 V, .bool D, .slice A L cp] 25)
  have hx := Go.Deep.blk_alloc_new w (.cells #[.int .u64 V, .bool D, .slice A L cp] 25)
  have hk := (hb0.cell (p := ⟨a, 0, none⟩) (lt_of_cell ha.2.2)).trans ha.2.2
  have HW := Lib.hid hb0
  obtain ⟨l, hl⟩ : ∃ l, l = Hd.s32 (V : Int) := ⟨_, rfl⟩
  obtain ⟨typ, hty⟩ : ∃ typ, typ = Hd.s32 ((V : Int) / 4294967296) := ⟨_, rfl⟩
  have hb := Hd.s32_bounds (V : Int)
  rw [← hl] at hb
  have HT := Lib.hid (fun (X : World) (hX : Below w.heap.size w X) => gtTell (typ := typ) (h.below hX) (fun k hk => Nat.lt_of_lt_of_le (hF k hk) hX.size) hb.2)
  have HE := Lib.hid (And.intro hl hty)
  rw [← hl, ← hty]
  clear h hF hb0 ha hl hty hb
  go_enter Tryz.func91, Tryz.ntmps91
  go_upto_region 1 with (fail)
  generalize w.alloc (.cells #[.int .u64 V, .bool D, .slice A L cp] 25) = W at hx hk HW ⊢
  have x0 : W.cell? ⟨w.heap.size, 0, none⟩ = some (.int .u64 V) := by simp [World.cell?, hx]
  clear hx
  go_region_with
    (first
      | (go_at_call 93; refine (split_any V _).mono ?_; rw [← HE.out.1, ← HE.out.2]; rintro e w2 ⟨rfl, rfl⟩)
      | (go_at_call 92; refine (HT.out _ (HW.out.drew)).mono ?_; intro e w3 hm; have hm2 := hm.after HW.out.drew; have HM := Lib.hid hm2; obtain ⟨rfl, _⟩ := hm; clear hm2))
  all_goals
    go_wp2
    go_end0
    exact HM.out
end Go.Proofs.YtikcnioooihncaaGreat
namespace Go.Proofs.YtikcnioooihncaaGreat
open Go.RowKit

/-- A byte is none of a get's cells. -/
theorem gt_noByte {w : World} {g : Nat} {s : Gs} {a : Ac} {A A2 : Option Addr} {l l2 c c2 : Nat} {k : FuncId} {rc caps : Array Value} (h : GtBlk w g s a (.slice A2 l2 c2) (.func (.func k) rc caps) (.slice A l c)) (i : Nat) (v : Int) : w.cell? ⟨g, i, none⟩ ≠ some (.int .u8 v) := by
  intro e
  have h' : w.heap[g]? = some (.cells (GtCells s a (.slice A2 l2 c2) (.func (.func k) rc caps) (.slice A l c)) 73 (0, 0)) := h
  simp only [World.cell?, h'] at e
  rcases Nat.lt_or_ge i 14 with hi | hi
  · rcases (by omega : i = 0 ∨ i = 1 ∨ i = 2 ∨ i = 3 ∨ i = 4 ∨ i = 5 ∨ i = 6 ∨ i = 7 ∨ i = 8 ∨ i = 9 ∨ i = 10 ∨ i = 11 ∨ i = 12 ∨ i = 13) with h | h | h | h | h | h | h | h | h | h | h | h | h | h <;> (subst h; simp [GtCells] at e)
  · have : (GtCells s a (.slice A2 l2 c2) (.func (.func k) rc caps) (.slice A l c))[i]? = none := by
      rw [Array.getElem?_eq_none]
      simp [GtCells]
      exact hi
    simp [this] at e

theorem gt_bytes {w w' : World} {g : Nat} {s : Gs} {a : Ac} {A A2 : Option Addr} {l l2 c c2 : Nat} {k : FuncId} {rc caps : Array Value} (h : GtBlk w g s a (.slice A2 l2 c2) (.func (.func k) rc caps) (.slice A l c)) {v : Value} {xs : List Int} (hv : BytesAt w v xs) (ht : Touch (fun k => k = g) w w') : BytesAt w' v xs := by
  obtain ⟨A', c', e, hh⟩ := hv
  refine ⟨A', c', e, fun hp => ?_⟩
  obtain ⟨b, off, e1, hb, hcs⟩ := hh hp
  have hbg : b ≠ g := fun e => by
    subst e
    exact gt_noByte h _ _ (hcs 0 hp)
  exact ⟨b, off, e1, Nat.lt_of_lt_of_le hb ht.size, fun i hi => (World.cell?_of_block (w := w) (a := ⟨b, off + i, none⟩) (ht.block b hb hbg)).trans (hcs i hi)⟩

/-- What was read, and comes now, is no more than a list of bytes may be. -/
def Gs.Fits (s : Gs) (n : Nat) : Prop := ∀ typ sz m d ys, s.ph = .read typ sz m d ys → ys.length + n ≤ 1073741824

set_option maxHeartbeats 1000000 in
theorem gtStepsTake {w : World} {F : Nat → Prop} {g : Nat} {s : Gs} (h : GetAt w F g s) (hF : ∀ k, F k → k < w.heap.size) (x : An) (A : Option Addr) (l c : Nat) (hB : BytesAt w (.slice A l c) x.bs) (hfit : s.Fits x.bs.length) :
    Calls Tryz.prog 27 #[.pointer (some ⟨g, 3, none⟩), .agg #[.int .u64 x.V, .bool x.D, .slice A l c]] w (GtMoved F g (s.take x) w) := by
  obtain ⟨M, a, av, th, mv, hblk, hFg, hok, hpk, hth, hms, hin, hnx⟩ := h
  have hgl := hblk.lt
  obtain ⟨Am, cm, hmv⟩ := hms.slice
  have hkeep : ∀ W, Below w.heap.size w W → ∀ k, F k → k ≠ g → (seven W g 3 Ac.zero (.slice none 0 0) .nilFunc).heap[k]? = w.heap[k]? := fun W hW k hk hkg =>
    ((seven_touch1 W g 3 Ac.zero (.slice none 0 0) .nilFunc).block k (Nat.lt_of_lt_of_le (hF k hk) hW.size) hkg).trans (hW.block k (hF k hk))
  have hkeepM : ∀ W, Below w.heap.size w W → ∀ k, (F k ∧ ¬ M k) → k ≠ g → (seven W g 3 Ac.zero (.slice none 0 0) .nilFunc).heap[k]? = w.heap[k]? := fun W hW k hk hkg => hkeep W hW k hk.1 hkg
  have hsz : ∀ W, Below w.heap.size w W → w.heap.size ≤ (seven W g 3 Ac.zero (.slice none 0 0) .nilFunc).heap.size := fun W hW => Nat.le_trans hW.size (seven_touch1 W g 3 Ac.zero (.slice none 0 0) .nilFunc).size
  have hFW : ∀ W, Below w.heap.size w W → ∀ k, F k → k < (seven W g 3 Ac.zero (.slice none 0 0) .nilFunc).heap.size := fun W hW k hk => Nat.lt_of_lt_of_le (hF k hk) (hsz W hW)
  have hbare : ∀ W, Below w.heap.size w W → GtBare (seven W g 3 Ac.zero (.slice none 0 0) .nilFunc) F g s M mv := fun W hW =>
    ⟨⟨_, _, gt_seven (hblk.below hW) _ _ _⟩, hFg, hok, hms.keep (hsz W hW) fun k hk => hkeep W hW k (hin k hk).1 (hin k hk).2, fun k hk => ⟨(hin k hk).1, (hin k hk).2, hFW W hW k (hin k hk).1⟩⟩
  have hTF : ∀ W, Below w.heap.size w W → Touch F w (seven W g 3 Ac.zero (.slice none 0 0) .nilFunc) := fun W hW => (Touch.of_below hW).trans ((seven_touch1 W g 3 _ _ _).mono fun k hk => by have e : k = g := hk; rw [e]; exact hFg)
  have fin : ∀ {k : FuncId} {caps : Array Value} (s' : Gs) (hthv : th = .func (.func k) #[] caps) (args : Array Value) (ha : (#[] : Array Value).push (.agg #[.int .u64 x.V, .bool x.D, .slice A l c]) ++ caps = args) (he : ∀ w, (callFunc k args).run Tryz.prog w = .ok (.enter k args) w)
      (H : ∀ W, Below w.heap.size w W → Calls Tryz.prog k args (seven W g 3 Ac.zero (.slice none 0 0) .nilFunc) (GtMoved F g s' (seven W g 3 Ac.zero (.slice none 0 0) .nilFunc))),
      Calls Tryz.prog 27 #[.pointer (some ⟨g, 3, none⟩), .agg #[.int .u64 x.V, .bool x.D, .slice A l c]] w (GtMoved F g s' w) := by
    intro k caps s' hthv args ha he H
    subst hthv
    refine (stTakeYes hblk.st x.V x.D A l c (Q := fun w' => GtMoved F g s' w (.returned (.tuple #[])) w') args ha he fun W hW => (H W hW).mono fun e w' hm => ?_).mono ?_
    · have h2 := hm.afterT (hTF W hW)
      obtain ⟨rfl, _⟩ := hm
      exact ⟨rfl, h2⟩
    · rintro e w' ⟨rfl, hm⟩
      exact hm
  have hzs : ∀ W, Below w.heap.size w W → (∃ k rc caps, th = .func (.func k) rc caps) → (∃ A2 l2 c2, av = .slice A2 l2 c2) → BytesAt (seven W g 3 Ac.zero (.slice none 0 0) .nilFunc) (.slice A l c) x.bs := by
    rintro W hW ⟨k, rc, caps, e1⟩ ⟨A2, l2, c2, e2⟩
    have hb := hblk.below hW
    rw [e1, e2, hmv] at hb
    exact gt_bytes hb (hB.below hW) (seven_touch1 W g 3 _ _ _)
  have hav : ∀ b, s.next = some b → ∃ A2 l2 c2, av = .slice A2 l2 c2 := fun b hb => by
    obtain ⟨_, A2, c2, e, _⟩ := hnx b hb
    exact ⟨A2, _, c2, e⟩
  unfold GThen at hth
  unfold Gs.PhOk at hpk
  unfold Gs.Fits at hfit
  have hnext : ∀ b, s.next = some b → s.next = some b := fun _ h => h
  unfold Gs.next at hnext
  unfold Gs.take
  cases hph : s.ph with
  | head =>
    rw [hph] at hth hpk
    obtain ⟨b, e, hb⟩ := hth
    exact fin _ e _ (by simp) (fun w => by simp [go_sem]) fun W hW => gtBegin1 (hbare W hW) (hFW W hW) hpk (hb.keep (hkeepM W hW)) x.V x.D A l c
  | look =>
    rw [hph] at hth
    obtain ⟨b, e, hb⟩ := hth
    exact fin _ e _ (by simp) (fun w => by simp [go_sem]) fun W hW => gtLook1 (hbare W hW) (hFW W hW) (hb.keep (hkeepM W hW)) x.V x.D A l c
  | read typ sz n d ys =>
    rw [hph] at hth hpk
    obtain ⟨em, es, eo, er, ec, gc, base, top, v, on, e, h1, h2, h3, h4, h5, h6, h7, h8⟩ := hth
    refine fin _ e _ (by simp; rfl) (fun w => by simp [go_sem]) fun W hW => ?_
    have hz := hzs W hW ⟨_, _, _, e⟩ (hav ⟨5, s.at_ + 8 + (d : Nat), (Cy.nx (n - d) : Nat), 0, 0, []⟩ (by unfold Gs.next; rw [hph]))
    exact gtReads1 (hbare W hW) (hFW W hW) (h1.keep (hkeepM W hW)) (h2.keep (hkeepM W hW)) (h3.keep (hkeepM W hW)) (h4.keep (hkeepM W hW)) (h5.keep (hkeepM W hW)) (h6.keep (fun k hk hkg => hkeepM W hW k hk.1 hkg) fun k hk => hk)
      (h7.keep (hsz W hW) (fun k k1 k2 => hkeepM W hW k (h8 k (.inl ⟨k1, k2⟩)).1 (h8 k (.inl ⟨k1, k2⟩)).2.1) fun k k1 => hkeepM W hW k (h8 k (.inr k1)).1 (h8 k (.inr k1)).2.1) hpk.1 ⟨hpk.2.1, hpk.2.2.1, hpk.2.2.2⟩ h8 x.V x.D A l c hz (hfit _ _ _ _ _ hph)
  | zero d =>
    rw [hph] at hth hpk
    obtain ⟨em, es, eo, a1, gc, base, top, v, e, h1, h2, h3, h4, h5, h6⟩ := hth
    refine fin _ e _ (by simp; rfl) (fun w => by simp [go_sem]) fun W hW => ?_
    have hz := hzs W hW ⟨_, _, _, e⟩ (hav ⟨6, Rg.spot s.B s.Z s.h + (d : Nat), (Cy.nx (s.dn - d) : Nat), 0, 0, Mb.bl (fun _ => 0) d (Cy.nx (s.dn - d))⟩ (by unfold Gs.next; rw [hph]))
    exact gtZeros1 (hbare W hW) (hFW W hW) (h1.keep (hkeepM W hW)) (h2.keep (hkeepM W hW)) (h3.keep (hkeepM W hW)) (h4.keep (hkeepM W hW))
      (h5.keep (hsz W hW) (fun k k1 k2 => hkeepM W hW k (h6 k (.inl ⟨k1, k2⟩)).1 (h6 k (.inl ⟨k1, k2⟩)).2.1) fun k k1 => hkeepM W hW k (h6 k (.inr k1)).1 (h6 k (.inr k1)).2.1) h6 hpk x.V x.D A l c hz
  | set =>
    rw [hph] at hth
    refine fin _ hth _ (by simp) (fun w => by simp [go_sem]) fun W hW => (gtDrain11 x.V x.D A l c _).mono ?_
    rintro e w' ⟨rfl, hb⟩
    exact gt_done (((hbare W hW).below hb).withPh .fin) (Touch.of_below hb) rfl
  | fin =>
    rw [hph] at hth
    have e : th = .nilFunc := hth
    subst e
    refine (stTakeNo hblk.c9 x.V x.D A l c).mono ?_
    rintro e w' ⟨rfl, hb⟩
    exact gt_done (s := s) (M := M) (mv := mv) ⟨⟨a, av, hblk.below hb⟩, hFg, hok, hms.keep hb.size fun k hk => hb.block k (hF k (hin k hk).1), fun k hk => ⟨(hin k hk).1, (hin k hk).2, Nat.lt_of_lt_of_le (hF k (hin k hk).1) hb.size⟩⟩ (Touch.of_below hb) hph
end Go.Proofs.YtikcnioooihncaaGreat
namespace Go.Proofs.YtikcnioooihncaaGreat
open Go.RowKit

/-- May a ring be? -/
def Rg.right (B Z : Int) : Prop := Wd.isP Z = true ∧ 64 ≤ Z ∧ Z ≤ 8192 ∧ 0 ≤ B ∧ B ≤ 131072 - Z - 32 ∧ B % 8 = 0
instance (B Z : Int) : Decidable (Rg.right B Z) := by unfold Rg.right; infer_instance

set_option maxRecDepth 100000 in
set_option maxHeartbeats 800000 in
theorem rpCheck (B Z : Int) (hB : -9223372036854775808 ≤ B ∧ B ≤ 9223372036854775807) (hZ : -9223372036854775808 ≤ Z ∧ Z ≤ 9223372036854775807) (w : World) :
    Calls Tryz.prog 23 #[.agg #[.int .i64 B, .int .i64 Z]] w (Made (.int .i64 (if Rg.right B Z then 0 else 1)) w) := by
  have hb0 := un_below w (.int .i64 B) (.int .i64 Z) 38
  have hx := Go.Deep.blk_alloc_new w (.cells #[.int .i64 B, .int .i64 Z] 38)
  obtain ⟨q, hq⟩ : ∃ q : Int, q = (if Rg.right B Z then 0 else 1) := ⟨_, rfl⟩
  rw [← hq]
  have HQ := Lib.hid hq
  clear hq
  go_enter Tryz.func23, Tryz.ntmps23
  go_upto_region 1 with (fail)
  generalize w.alloc (.cells #[.int .i64 B, .int .i64 Z] 38) = W at hb0 hx ⊢
  have x0 : W.cell? ⟨w.heap.size, 0, none⟩ = some (.int .i64 B) := by simp [World.cell?, hx]
  have x1 : W.cell? ⟨w.heap.size, 1, none⟩ = some (.int .i64 Z) := by simp [World.cell?, hx]
  clear hx
  cases hp : Wd.isP Z with
  | false =>
    have HP := Lib.hid hp
    clear hp
    go_wp2_with (go_at_call 51; refine (isPower_any Z _ (by omega) (by omega)).mono ?_; rintro e w2 ⟨rfl, rfl⟩; rw [HP.out])
    all_goals
      go_ret
      refine ⟨?_, hb0⟩
      rw [HQ.out, if_neg (fun h => by have := h.1; rw [HP.out] at this; cases this)]
      rfl
  | true =>
    have HP := Lib.hid hp
    clear hp
    go_wp2_with (go_at_call 51; refine (isPower_any Z _ (by omega) (by omega)).mono ?_; rintro e w2 ⟨rfl, rfl⟩; rw [HP.out])
    all_goals
      go_ret
      refine ⟨?_, hb0⟩
      rw [HQ.out]
      simp only [bne_eq_false_iff_eq, bne_iff_ne, ne_eq] at *
      first
        | (rw [if_pos ⟨HP.out, by omega, by omega, by omega, by omega, by omega⟩]; rfl)
        | (rw [if_neg (fun ⟨_, _, _, _, _, _⟩ => by omega)]; rfl)

theorem rp_need_aux (n : Nat) (h : n ≤ 131072) : sz (n : Int) 8 8 = 8 * (((n + 15) / 8 : Nat) : Int) := by
  unfold sz szOk Wd.al Wd.alOk
  have h1 : decide (0 ≤ (n : Int)) = true := by simp
  have h2 : decide ((n : Int) ≤ 131072) = true := by simp; omega
  have h3 : Wd.isP 8 = true := by decide
  have h4 : decide (0 ≤ (8 : Int) + n) = true := by simp; omega
  have h5 : decide ((8 : Int) + n ≤ 4611686018427387904) = true := by simp; omega
  rw [h1, h2, h3, h4, h5]
  simp only [Bool.and_self, if_true]
  omega

/-- A put was made: it stands in new memory. -/
def NewIs (m : Pm) (w : World) (e : Ending) (w' : World) : Prop :=
  ∃ g, e = .returned (.pointer (some ⟨g, 0, none⟩)) ∧ PmAt w' (fun k => w.heap.size ≤ k ∧ k < w'.heap.size) g m ∧ Below w.heap.size w w'

/-- The put that is made. -/
def Pm.new (B Z typ : Int) (f : Nat → Nat) (L : Nat) : Pm :=
  if ¬ Rg.right B Z ∨ typ < 1 then .dead 0 0 else if Z < 8 * (L : Int) then .dead Z 4 else .live ⟨B.toNat, Z.toNat, typ, f, L, 0, 0, 0, false, .ask, 0⟩

theorem new_dead (w W : World) (hb : Below w.heap.size w W) (B Z er : Int) : NewIs (.dead Z er) w (.returned (.pointer (some ⟨W.heap.size, 0, none⟩))) (W.alloc (.cells (PxCells B Z er) 99)) :=
  ⟨W.heap.size, rfl, ⟨⟨hb.size, by simp⟩, B, Go.Deep.blk_alloc_new _ _⟩, hb.alloc hb.size _⟩

set_option maxRecDepth 100000 in
set_option maxHeartbeats 800000 in
theorem rpNewBad (B Z typ : Int) (hB : -9223372036854775808 ≤ B ∧ B ≤ 9223372036854775807) (hZ : -9223372036854775808 ≤ Z ∧ Z ≤ 9223372036854775807) (hbad : ¬ Rg.right B Z) (A : Option Addr) (L c : Nat) (w : World) :
    Calls Tryz.prog 20 #[.agg #[.int .i64 B, .int .i64 Z], .int .i32 typ, .slice A L c] w (NewIs (.dead 0 0) w) := by
  have hb0 := un_below w (.int .i64 B) (.int .i64 Z) 38
  have hx := Go.Deep.blk_alloc_new w (.cells #[.int .i64 B, .int .i64 Z] 38)
  have HBZ := Lib.hid (And.intro hB hZ)
  have HN := Lib.hid hbad
  clear hB hZ hbad
  go_enter Tryz.func20, Tryz.ntmps20
  go_upto_region 1 with (fail)
  generalize w.alloc (.cells #[.int .i64 B, .int .i64 Z] 38) = W at hb0 hx ⊢
  have x0 : W.cell? ⟨w.heap.size, 0, none⟩ = some (.int .i64 B) := by simp [World.cell?, hx]
  have x1 : W.cell? ⟨w.heap.size, 1, none⟩ = some (.int .i64 Z) := by simp [World.cell?, hx]
  clear hx
  go_wp2_with (go_at_call 23; refine (rpCheck B Z HBZ.out.1 HBZ.out.2 W).mono ?_; rintro e w2 ⟨rfl, hb⟩; rw [if_neg HN.out])
  go_ret
  exact new_dead w w2 (hb0.trans (hb.mono hb0.size)) 0 0 0

set_option maxRecDepth 100000 in
set_option maxHeartbeats 800000 in
theorem rpNewTyp (B Z typ : Int) (hB : -9223372036854775808 ≤ B ∧ B ≤ 9223372036854775807) (hZ : -9223372036854775808 ≤ Z ∧ Z ≤ 9223372036854775807) (hok : Rg.right B Z) (htyp : typ < 1) (A : Option Addr) (L c : Nat) (w : World) :
    Calls Tryz.prog 20 #[.agg #[.int .i64 B, .int .i64 Z], .int .i32 typ, .slice A L c] w (NewIs (.dead 0 0) w) := by
  have hb0 := un_below w (.int .i64 B) (.int .i64 Z) 38
  have hx := Go.Deep.blk_alloc_new w (.cells #[.int .i64 B, .int .i64 Z] 38)
  have HBZ := Lib.hid (And.intro hB hZ)
  have HN := Lib.hid hok
  have hd : decide (typ < 1) = true := by simpa using htyp
  clear hB hZ hok
  go_enter Tryz.func20, Tryz.ntmps20
  go_upto_region 1 with (fail)
  generalize w.alloc (.cells #[.int .i64 B, .int .i64 Z] 38) = W at hb0 hx ⊢
  have x0 : W.cell? ⟨w.heap.size, 0, none⟩ = some (.int .i64 B) := by simp [World.cell?, hx]
  have x1 : W.cell? ⟨w.heap.size, 1, none⟩ = some (.int .i64 Z) := by simp [World.cell?, hx]
  clear hx
  go_wp2_with (go_at_call 23; refine (rpCheck B Z HBZ.out.1 HBZ.out.2 W).mono ?_; rintro e w2 ⟨rfl, hb⟩; rw [if_pos HN.out])
  go_ret
  exact new_dead w w2 (hb0.trans (hb.mono hb0.size)) 0 0 0

set_option maxRecDepth 100000 in
set_option maxHeartbeats 800000 in
theorem rpNewLong (B Z typ : Int) (hB : -9223372036854775808 ≤ B ∧ B ≤ 9223372036854775807) (hZ : -9223372036854775808 ≤ Z ∧ Z ≤ 9223372036854775807) (hok : Rg.right B Z) (htyp : ¬ typ < 1) (A : Option Addr) (L c : Nat) (hlong : Z < 8 * (L : Int)) (w : World) :
    Calls Tryz.prog 20 #[.agg #[.int .i64 B, .int .i64 Z], .int .i32 typ, .slice A L c] w (NewIs (.dead Z 4) w) := by
  have hb0 := un_below w (.int .i64 B) (.int .i64 Z) 38
  have hx := Go.Deep.blk_alloc_new w (.cells #[.int .i64 B, .int .i64 Z] 38)
  have HBZ := Lib.hid (And.intro hB hZ)
  have HN := Lib.hid hok
  have hd : decide (typ < 1) = false := by simpa using htyp
  have hz0 : 64 ≤ Z := hok.2.1
  have hz1 : Z ≤ 8192 := hok.2.2.1
  have hdl : Z / 8 < (L : Int) := by omega
  have hdd : decide (Z / 8 < (L : Int)) = true := by simpa using hdl
  clear hB hZ hok htyp hlong
  go_enter Tryz.func20, Tryz.ntmps20
  go_upto_region 1 with (fail)
  generalize w.alloc (.cells #[.int .i64 B, .int .i64 Z] 38) = W at hb0 hx ⊢
  have x0 : W.cell? ⟨w.heap.size, 0, none⟩ = some (.int .i64 B) := by simp [World.cell?, hx]
  have x1 : W.cell? ⟨w.heap.size, 1, none⟩ = some (.int .i64 Z) := by simp [World.cell?, hx]
  have hlx := (Array.getElem?_eq_some_iff.1 hx).1
  clear hx
  go_wp2_with (go_at_call 23; refine (rpCheck B Z HBZ.out.1 HBZ.out.2 W).mono ?_; rintro e w2 ⟨rfl, hb⟩; rw [if_pos HN.out]; have y0 := (hb.cell (p := ⟨w.heap.size, 0, none⟩) hlx).trans x0; have y1 := (hb.cell (p := ⟨w.heap.size, 1, none⟩) hlx).trans x1)
  go_ret
  exact new_dead w w2 (hb0.trans (hb.mono hb0.size)) B Z 4

/-- The block of a put that is made. -/
theorem rp_made {w w4 W5 : World} {B Z typ : Int} {A4 : Option Addr} {L c4 base : Nat} {f : Nat → Nat}
    (hW5 : W5 = w4.alloc (.cells #[.int .i64 B, .int .i64 Z, .int .i32 typ, .slice A4 L c4, .int .i64 (8 * (((L : Int) + 15) / 8)), .int .i64 0, .int .i64 0, .int .i64 0, .int .u64 0, .int .u64 0, .slice none 0 0, .nilFunc, .int .i64 0, .int .i64 0, .int .i64 0, .bool false, .int .i64 0] 99))
    (hb : Below w.heap.size w w4) (hbase : w.heap.size ≤ base) (hr : Rg.right B Z) (ht : 1 ≤ typ) (ht2 : typ ≤ 2147483647) (hfew : 8 * (L : Int) ≤ Z) (hf : Mb.IsB f) (ho : Owns base w4 (.slice A4 L c4) (Mb.bl f 0 L)) :
    RpBare W5 (fun k => w.heap.size ≤ k ∧ k < W5.heap.size) w4.heap.size ⟨B.toNat, Z.toNat, typ, f, L, 0, 0, 0, false, .ask, 0⟩ (.slice A4 L c4) := by
  obtain ⟨h1, h2, h3, h4, h5, h6⟩ := hr
  have hB : ((B.toNat : Nat) : Int) = B := Int.toNat_of_nonneg h4
  have hZ : ((Z.toNat : Nat) : Int) = Z := Int.toNat_of_nonneg (by omega)
  have hsz : W5.heap.size = w4.heap.size + 1 := by rw [hW5]; simp
  have hbl : Below w4.heap.size w4 W5 := by rw [hW5]; exact (Below.refl _ _).alloc (Nat.le_refl _) _
  have ho5 := (BytesIn.of_own ho).lt.below hbl
  have hc : L ≤ c4 ∧ c4 ≤ 9223372036854775807 := by
    obtain ⟨_, e | ⟨g, cap, cur, e, _, _, e2, e3, _⟩⟩ := ho
    · obtain ⟨e1, e2⟩ := e
      injection e1 with _ e3 e4
      omega
    · injection e with _ e4 e5
      unfold maxLen at e3
      omega
  refine ⟨⟨Ac.zero, .slice none 0 0, ?_⟩, ⟨hb.size, by omega⟩, ⟨by rw [← h1, hZ], by simp only; omega, by simp only; omega, by simp only; omega, by simp only; omega, ht, ht2, by simp only; omega, hf, by simp only; omega, by simp only; omega, by simp only; omega⟩, ⟨A4, c4, rfl, hc.1, hc.2⟩, ho5.mono fun k hk _ => ⟨⟨by omega, by omega⟩, by omega⟩⟩
  unfold RpBlk
  rw [hW5, Go.Deep.blk_alloc_new]
  have hn : (8 * (((L + 15) / 8 : Nat) : Int)) = 8 * (((L : Int) + 15) / 8) := by omega
  simp only [RpCells, Rs.need, hB, hZ, hn, Ac.zero]
  rfl

set_option maxRecDepth 100000 in
set_option maxHeartbeats 800000 in
theorem rpNewOk (B Z typ : Int) (hB : -9223372036854775808 ≤ B ∧ B ≤ 9223372036854775807) (hZ : -9223372036854775808 ≤ Z ∧ Z ≤ 9223372036854775807) (hok : Rg.right B Z) (htyp : ¬ typ < 1) (htyp2 : typ ≤ 2147483647) (A : Option Addr) (L c : Nat) (hfew : ¬ Z < 8 * (L : Int)) (f : Nat → Nat) (hf : Mb.IsB f) (w : World) (hby : BytesAt w (.slice A L c) (Mb.bl f 0 L)) :
    Calls Tryz.prog 20 #[.agg #[.int .i64 B, .int .i64 Z], .int .i32 typ, .slice A L c] w (NewIs (.live ⟨B.toNat, Z.toNat, typ, f, L, 0, 0, 0, false, .ask, 0⟩) w) := by
  have hb0 := un_below w (.int .i64 B) (.int .i64 Z) 38
  have hx := Go.Deep.blk_alloc_new w (.cells #[.int .i64 B, .int .i64 Z] 38)
  have HBZ := Lib.hid (And.intro hB hZ)
  have HN := Lib.hid hok
  have HY := Lib.hid hby
  have hd : decide (typ < 1) = false := by simpa using htyp
  have hz0 : 64 ≤ Z := hok.2.1
  have hz1 : Z ≤ 8192 := hok.2.2.1
  have hdl : ¬ Z / 8 < (L : Int) := by omega
  have hdd : decide (Z / 8 < (L : Int)) = false := by simpa using hdl
  have HT := Lib.hid (And.intro htyp htyp2)
  have HFE := Lib.hid hfew
  clear hB hZ hok htyp hfew hby htyp2
  go_enter Tryz.func20, Tryz.ntmps20
  go_upto_region 1 with (fail)
  generalize w.alloc (.cells #[.int .i64 B, .int .i64 Z] 38) = W at hb0 hx ⊢
  have x0 : W.cell? ⟨w.heap.size, 0, none⟩ = some (.int .i64 B) := by simp [World.cell?, hx]
  have x1 : W.cell? ⟨w.heap.size, 1, none⟩ = some (.int .i64 Z) := by simp [World.cell?, hx]
  have hlx := (Array.getElem?_eq_some_iff.1 hx).1
  clear hx
  go_upto_region 5 with (go_at_call 23; refine (rpCheck B Z HBZ.out.1 HBZ.out.2 W).mono ?_; rintro e w2 ⟨rfl, hb⟩; rw [if_pos HN.out]; have y0 := (hb.cell (p := ⟨w.heap.size, 0, none⟩) hlx).trans x0; have y1 := (hb.cell (p := ⟨w.heap.size, 1, none⟩) hlx).trans x1)
  have hneed := rp_need_aux L (by omega)
  have HNE := Lib.hid hneed
  have HB2 := Lib.hid (hb0.trans (hb.mono hb0.size))
  have hl2 : w.heap.size < w2.heap.size := lt_of_cell y0
  clear hneed hb hdl hd hdd hz0 hz1 x0 x1 hlx hb0
  go_upto_region 6 with (go_at_call 45; refine (recordSize_any (L : Int) w2).mono ?_; rintro e w3 ⟨rfl, rfl⟩; rw [HNE.out])
  obtain ⟨wq, hwq⟩ : ∃ W, W = w2 := ⟨_, rfl⟩
  go_region_held3 (fun w' => w'.cell? ⟨w.heap.size, 0, none⟩ = some (.int .i64 B) ∧ w'.cell? ⟨w.heap.size, 1, none⟩ = some (.int .i64 Z)) (go_keep)
    (first | (go_at_call 46; refine (clone_sl A L c (Mb.bl f 0 L) w2.drew (HY.out.below HB2.out.drew) (by have := HFE.out; have := HN.out.2.2.1; omega)).mono ?_; rintro e w4 ⟨A4, c4, rfl, ho4, hb4⟩; have z0 := (hb4.cell (p := ⟨w.heap.size, 0, none⟩) (lt_of_cell y0)).trans y0; have z1 := (hb4.cell (p := ⟨w.heap.size, 1, none⟩) (lt_of_cell y0)).trans y1))
  all_goals
    have hq := HN.out
    obtain ⟨W5, hW5⟩ : ∃ W5, W5 = w4.alloc (.cells #[.int .i64 B, .int .i64 Z, .int .i32 typ, .slice A4 L c4, .int .i64 (8 * (((L : Int) + 15) / 8)), .int .i64 0, .int .i64 0, .int .i64 0, .int .u64 0, .int .u64 0, .slice none 0 0, .nilFunc, .int .i64 0, .int .i64 0, .int .i64 0, .bool false, .int .i64 0] 99) := ⟨_, rfl⟩
    have hmade := rp_made (w := w) hW5 (HB2.out.drew.trans (hb4.mono HB2.out.size)) HB2.out.size hq HT.out.1 HT.out.2 HFE.out hf ho4
    rw [← hW5]
    have HM := Lib.hid hmade
    have hbk : Below w.heap.size w W5 := by rw [hW5]; exact (HB2.out.drew.trans (hb4.mono HB2.out.size)).alloc (Nat.le_trans HB2.out.size hb4.size) _
    have HBK := Lib.hid hbk
    clear hW5 hmade hbk
    go_wp2_with (go_at_call 47; refine (rpBegin HM.out).mono ?_; intro e w6 hm; have HMM := Lib.hid hm; obtain ⟨rfl, _⟩ := hm)
    go_ret
    obtain ⟨_, F', hp, ht, hF'⟩ := HMM.out
    refine ⟨_, rfl, ?_, ht.below HBK.out HBK.out.size fun k hk => hk.1⟩
    refine PutAt.wide (F' := fun k => w.heap.size ≤ k ∧ k < w6.heap.size) hp fun k hk => ?_
    · show w.heap.size ≤ k ∧ k < w6.heap.size
      rcases hF' k hk with e | e
      · exact ⟨e.1, Nat.lt_of_lt_of_le e.2 ht.size⟩
      · exact ⟨Nat.le_trans HBK.out.size e.1, e.2⟩

/-- A put is made, of whatever ring, type and bytes. -/
theorem rpNew (B Z typ : Int) (hB : -9223372036854775808 ≤ B ∧ B ≤ 9223372036854775807) (hZ : -9223372036854775808 ≤ Z ∧ Z ≤ 9223372036854775807) (htyp : typ ≤ 2147483647) (A : Option Addr) (L c : Nat) (f : Nat → Nat) (hf : Mb.IsB f) (w : World) (hby : BytesAt w (.slice A L c) (Mb.bl f 0 L)) :
    Calls Tryz.prog 20 #[.agg #[.int .i64 B, .int .i64 Z], .int .i32 typ, .slice A L c] w (NewIs (Pm.new B Z typ f L) w) := by
  unfold Pm.new
  by_cases h1 : Rg.right B Z
  · by_cases h2 : typ < 1
    · rw [if_pos (.inr h2)]
      exact rpNewTyp B Z typ hB hZ h1 h2 A L c w
    · rw [if_neg (fun h => h.elim (fun h => h h1) h2)]
      by_cases h3 : Z < 8 * (L : Int)
      · rw [if_pos h3]
        exact rpNewLong B Z typ hB hZ h1 h2 A L c h3 w
      · rw [if_neg h3]
        exact rpNewOk B Z typ hB hZ h1 h2 htyp A L c h3 f hf w hby
  · rw [if_pos (.inl h1)]
    exact rpNewBad B Z typ hB hZ h1 A L c w
end Go.Proofs.YtikcnioooihncaaGreat
namespace Go.Proofs.YtikcnioooihncaaGreat
open Go.RowKit

/-- A get: one that goes on, or one that never began. -/
inductive Gm where
  | live (s : Gs) | dead
namespace Gm
def next : Gm → Option Ac
  | .live s => s.next
  | .dead => none
def take : Gm → An → Gm
  | .live s, x => .live (s.take x)
  | .dead, _ => .dead
def busy : Gm → Bool
  | .live s => s.next.isSome
  | .dead => false
def size : Gm → Int
  | .live s => s.Z
  | .dead => 0
def fault : Gm → Int
  | .live s => s.er
  | .dead => 0
def done : Gm → Int
  | .live s => s.dn
  | .dead => 0
def told : Gm → List (Int × List Int)
  | .live s => s.ms
  | .dead => []
def Fits : Gm → Nat → Prop
  | .live s, n => s.Fits n
  | .dead, _ => True
/-- How it ended: bytes, an error. -/
def result (m : Gm) : Int × Int := if m.size = 0 then (0, 1) else if m.busy = true then (0, 10) else if m.fault = 0 then (m.done, 0) else (0, m.fault)
/-- The one that is made. -/
def new (B Z most : Int) : Gm := if Rg.right B Z ∧ 1 ≤ most then .live ⟨B.toNat, Z.toNat, most, 0, 0, [], 0, .head⟩ else .dead
end Gm

/-- A get stands in the blocks F, its own block is g. -/
def GmAt (w : World) (F : Nat → Prop) (g : Nat) : Gm → Prop
  | .live s => GetAt w F g s
  | .dead => F g ∧ GtBlk w g ⟨0, 0, 0, 0, 0, [], 0, .fin⟩ Ac.zero (.slice none 0 0) .nilFunc (.slice none 0 0)
/-- What a call on a get leaves. -/
def GmMoved (F : Nat → Prop) (g : Nat) (m : Gm) (w : World) (e : Ending) (w' : World) : Prop :=
  e = .returned (.tuple #[]) ∧ ∃ F', GmAt w' F' g m ∧ Touch F w w' ∧ ∀ k, F' k → F k ∨ (w.heap.size ≤ k ∧ k < w'.heap.size)

theorem GThen.keep {w w' : World} {F F' : Nat → Prop} {g : Nat} {s : Gs} {th mv : Value} (h : GThen w F g s th mv) (hs : w.heap.size ≤ w'.heap.size) (hb : ∀ k, F k → k ≠ g → w'.heap[k]? = w.heap[k]?) (hF : ∀ k, F k → F' k) : GThen w' F' g s th mv := by
  unfold GThen at h ⊢
  cases hph : s.ph with
  | head => rw [hph] at h; obtain ⟨a, e, h1⟩ := h; exact ⟨a, e, (h1.keep hb).mono hF⟩
  | look => rw [hph] at h; obtain ⟨a, e, h1⟩ := h; exact ⟨a, e, (h1.keep hb).mono hF⟩
  | read typ sz n d ys =>
    rw [hph] at h
    obtain ⟨em, es, eo, er, ec, gc, base, top, v, on, e, h1, h2, h3, h4, h5, h6, h7, h8⟩ := h
    exact ⟨em, es, eo, er, ec, gc, base, top, v, on, e, (h1.keep hb).mono hF, (h2.keep hb).mono hF, (h3.keep hb).mono hF, (h4.keep hb).mono hF, (h5.keep hb).mono hF, h6.keep (fun k hk hkg => hb k hk.1 hkg) fun k hk => ⟨hF k hk.1, hk.2⟩,
      h7.keep hs (fun k k1 k2 => hb k (h8 k (.inl ⟨k1, k2⟩)).1 (h8 k (.inl ⟨k1, k2⟩)).2.1) fun k k1 => hb k (h8 k (.inr k1)).1 (h8 k (.inr k1)).2.1, fun k hk => ⟨hF k (h8 k hk).1, (h8 k hk).2⟩⟩
  | zero d =>
    rw [hph] at h
    obtain ⟨em, es, eo, a, gc, base, top, v, e, h1, h2, h3, h4, h5, h6⟩ := h
    exact ⟨em, es, eo, a, gc, base, top, v, e, (h1.keep hb).mono hF, (h2.keep hb).mono hF, (h3.keep hb).mono hF, (h4.keep hb).mono hF,
      h5.keep hs (fun k k1 k2 => hb k (h6 k (.inl ⟨k1, k2⟩)).1 (h6 k (.inl ⟨k1, k2⟩)).2.1) fun k k1 => hb k (h6 k (.inr k1)).1 (h6 k (.inr k1)).2.1, fun k hk => ⟨hF k (h6 k hk).1, (h6 k hk).2⟩⟩
  | set => rw [hph] at h; exact h
  | fin => rw [hph] at h; exact h

theorem GmAt.keep {w w' : World} {F : Nat → Prop} {g : Nat} {m : Gm} (h : GmAt w F g m) (hs : w.heap.size ≤ w'.heap.size) (hb : ∀ k, F k → w'.heap[k]? = w.heap[k]?) : GmAt w' F g m := by
  cases m with
  | live s =>
    obtain ⟨M, a, av, th, mv, h1, h2, h3, h4, h5, h6, h7, h8⟩ := h
    exact ⟨M, a, av, th, mv, h1.of_block (hb g h2), h2, h3, h4, h5.keep hs (fun k hk _ => hb k hk.1) fun _ hk => hk, h6.keep hs fun k hk => hb k (h7 k hk).1, h7, fun b hb' => ⟨(h8 b hb').1, (h8 b hb').2.keep hs fun k hk _ => hb k hk.1⟩⟩
  | dead => exact ⟨h.1, h.2.of_block (hb g h.1)⟩
theorem GmAt.own {w : World} {F : Nat → Prop} {g : Nat} {m : Gm} (h : GmAt w F g m) : F g := by
  cases m with
  | live s =>
    obtain ⟨M, a, av, th, mv, h1, h2, _⟩ := h
    exact h2
  | dead => exact h.1

/-- Something goes on where, and only where, there is a next access. -/
theorem GThen.is {w : World} {F : Nat → Prop} {g : Nat} {s : Gs} {th mv : Value} (h : GThen w F g s th mv) : (s.next = none ∧ th = .nilFunc) ∨ (s.next ≠ none ∧ ∃ k rc caps, th = .func (.func k) rc caps) := by
  unfold GThen at h
  unfold Gs.next
  cases hph : s.ph with
  | fin => rw [hph] at h; exact .inl ⟨rfl, h⟩
  | set => rw [hph] at h; exact .inr ⟨by simp, _, _, _, h⟩
  | head => rw [hph] at h; obtain ⟨_, e, _⟩ := h; exact .inr ⟨by simp, _, _, _, e⟩
  | look => rw [hph] at h; obtain ⟨_, e, _⟩ := h; exact .inr ⟨by simp, _, _, _, e⟩
  | read typ sz n d ys => rw [hph] at h; obtain ⟨_, _, _, _, _, _, _, _, _, _, e, _⟩ := h; exact .inr ⟨by simp, _, _, _, e⟩
  | zero d => rw [hph] at h; obtain ⟨_, _, _, _, _, _, _, _, e, _⟩ := h; exact .inr ⟨by simp, _, _, _, e⟩

set_option maxRecDepth 100000 in
set_option maxHeartbeats 800000 in
theorem getTakeNil (V : Nat) (D : Bool) (A : Option Addr) (l c : Nat) (w : World) :
    Calls Tryz.prog 8 #[.pointer none, .agg #[.int .u64 V, .bool D, .slice A l c]] w (Made (.tuple #[]) w) := by
  have HW := Lib.hid ((Below.refl w.heap.size w).alloc (Nat.le_refl _) (.cells #[.int .u64 V, .bool D, .slice A l c] 25))
  go_enter Tryz.func8, Tryz.ntmps8
  go_upto_region 1 with (fail)
  generalize w.alloc (.cells #[.int .u64 V, .bool D, .slice A l c] 25) = W at HW ⊢
  go_wp2
  go_end0
  exact ⟨rfl, HW.out⟩

set_option maxRecDepth 100000 in
set_option maxHeartbeats 800000 in
theorem getTake {w : World} {F : Nat → Prop} {g : Nat} {m : Gm} (h : GmAt w F g m) (hF : ∀ k, F k → k < w.heap.size) (x : An) (A : Option Addr) (l c : Nat) (hB : BytesAt w (.slice A l c) x.bs) (hfit : m.Fits x.bs.length) :
    Calls Tryz.prog 8 #[.pointer (some ⟨g, 0, none⟩), .agg #[.int .u64 x.V, .bool x.D, .slice A l c]] w (GmMoved F g (m.take x) w) := by
  have hb0 := (Below.refl w.heap.size w).alloc (Nat.le_refl _) (.cells #[.int .u64 x.V, .bool x.D, .slice A l c] 25)
  obtain ⟨x0, x1, x2⟩ := rp_ans_box w x.V x.D A l c
  have HW := Lib.hid hb0
  have HC : Hid (∀ W, Below w.heap.size w W → Calls Tryz.prog 27 #[.pointer (some ⟨g, 3, none⟩), .agg #[.int .u64 x.V, .bool x.D, .slice A l c]] W (GmMoved F g (m.take x) W)) := Lib.hid fun W hW => by
    have hk := h.keep hW.size fun k hk => hW.block k (hF k hk)
    cases m with
    | live s => exact (gtStepsTake hk (fun k hk => Nat.lt_of_lt_of_le (hF k hk) hW.size) x A l c (hB.below hW) hfit).mono fun e w' hm => hm
    | dead =>
      refine (stTakeNo hk.2.c9 x.V x.D A l c).mono ?_
      rintro e w' ⟨rfl, hb⟩
      exact ⟨rfl, F, ⟨hk.1, hk.2.below hb⟩, Touch.of_below hb, fun k hk => .inl hk⟩
  have hng : ¬ F w.heap.size := fun e => Nat.lt_irrefl _ (hF _ e)
  clear h hF hb0 hB hfit
  go_enter Tryz.func8, Tryz.ntmps8
  go_upto_region 1 with (fail)
  generalize w.alloc (.cells #[.int .u64 x.V, .bool x.D, .slice A l c] 25) = W at HW x0 x1 x2 ⊢
  go_upto_region 2 with (fail)
  go_region_held3 (fun w' => w'.cell? ⟨w.heap.size, 0, none⟩ = some (.int .u64 x.V) ∧ w'.cell? ⟨w.heap.size, 1, none⟩ = some (.bool x.D) ∧ w'.cell? ⟨w.heap.size, 2, none⟩ = some (.slice A l c)) (go_keep)
    (first | (go_at_call 27; refine (HC.out W.drew HW.out.drew).mono ?_; intro e w3 hm; have HM := Lib.hid hm; obtain ⟨rfl, F', hp, ht, hF'⟩ := hm; have y0 := (ht.cell (p := ⟨w.heap.size, 0, none⟩) (lt_of_cell x0) hng).trans x0; have y1 := (ht.cell (p := ⟨w.heap.size, 1, none⟩) (lt_of_cell x0) hng).trans x1; have y2 := (ht.cell (p := ⟨w.heap.size, 2, none⟩) (lt_of_cell x0) hng).trans x2))
  all_goals
    go_wp2
    go_end0
    exact ⟨rfl, F', hp, (Touch.of_below HW.out.drew).trans ht, fun k hk => (hF' k hk).imp id fun h => ⟨Nat.le_trans HW.out.size h.1, h.2⟩⟩

set_option maxRecDepth 100000 in
set_option maxHeartbeats 800000 in
theorem getNextNil (w : World) : Calls Tryz.prog 9 #[.pointer none] w (NextTold none w) := by
  have HA := AccNew.made w
  have HW := Lib.hid ((Below.refl w.heap.size w).alloc (Nat.le_refl _) (.cells #[.int .i64 0, .int .i64 0, .int .i64 0, .int .u64 0, .int .u64 0, .slice none 0 0] 30))
  go_enter Tryz.func9, Tryz.ntmps9
  go_upto_region 1 with (fail)
  generalize w.alloc (.cells #[.int .i64 0, .int .i64 0, .int .i64 0, .int .u64 0, .int .u64 0, .slice none 0 0] 30) = W at HA HW ⊢
  obtain ⟨a0, a1, a2, a3, a4, a5, f0, f1, f2, f3, f4, f5, hbk⟩ := HA
  go_wp2
  refine bodyPost_ret (v := .tuple #[.agg #[.int .i64 0, .int .i64 0, .int .i64 0, .int .u64 0, .int .u64 0, .slice none 0 0], .bool false]) (by simp [results, Tryz.results9, go_sem, a0, a1, a2, a3, a4, a5]) rfl ?_
  exact ⟨six_below HW.out (Nat.le_refl _) _ _ _ _ _ _, rfl⟩

set_option maxRecDepth 100000 in
theorem getResultNil (w : World) : Calls Tryz.prog 10 #[.pointer none] w (fun e w' => e = .returned (.tuple #[.int .i64 0, .int .i64 1]) ∧ w = w') := by
  go_enter Tryz.func10, Tryz.ntmps10
  go_wp2
  refine bodyPost_ret (v := .tuple #[.int .i64 0, .int .i64 1]) (by simp [results, Tryz.results10, go_sem]) rfl ?_
  exact ⟨rfl, rfl⟩
end Go.Proofs.YtikcnioooihncaaGreat
namespace Go.Proofs.YtikcnioooihncaaGreat
open Go.RowKit

theorem Gm.fine {w : World} {F : Nat → Prop} {g : Nat} {m : Gm} (h : GmAt w F g m) {a : Ac} (ha : m.next = some a) : a.Fine := by
  cases m with
  | dead => cases ha
  | live s =>
    obtain ⟨M, a0, av, th, mv, h1, h2, ok, h4, h5, _⟩ := h
    have okr := ok.rg
    have z1 := okr.z1
    have b1 := okr.b1
    have dn := ok.dn0
    have hpl := okr.place_in s.h
    have num : ∀ k : Int, 0 ≤ k → k ≤ 16 → -9223372036854775808 ≤ Rg.num s.B s.Z k ∧ Rg.num s.B s.Z k ≤ 9223372036854775807 := fun k _ _ => by unfold Rg.num; omega
    have spot : 0 ≤ Rg.spot s.B s.Z s.h ∧ Rg.spot s.B s.Z s.h ≤ 140000 := by unfold Rg.spot; omega
    have hat : 0 ≤ s.at_ ∧ s.at_ ≤ 150000 := by unfold Gs.at_; omega
    have mk : ∀ (K P N : Int) (V U : Nat), (0 ≤ K ∧ K ≤ 8) → (-9223372036854775808 ≤ P ∧ P ≤ 9223372036854775807) → (0 ≤ N ∧ N ≤ 8) → V < 18446744073709551616 → U < 18446744073709551616 → Ac.Fine ⟨K, P, N, V, U, []⟩ := fun K P N V U h1 h2 h3 h4 h5 => ⟨h4, h5, ⟨by show _ ≤ K; omega, by show K ≤ _; omega⟩, h2, ⟨by show _ ≤ N; omega, by show N ≤ _; omega⟩, Bys.nil, by show (0 : Nat) ≤ _; omega⟩
    have un : ∀ x : Int, Rs.un x < 18446744073709551616 := fun x => by unfold Rs.un; omega
    have ha' : s.next = some a := ha
    unfold Gs.next at ha'
    unfold Gs.PhOk at h4
    cases hph : s.ph with
    | fin => rw [hph] at ha'; cases ha'
    | head => rw [hph] at ha'; injection ha' with e; subst e; exact mk _ _ _ _ _ (by omega) (num _ (by omega) (by omega)) (by omega) (by omega) (by omega)
    | look => rw [hph] at ha'; injection ha' with e; subst e; exact mk _ _ _ _ _ (by omega) (by omega) (by omega) (by omega) (by omega)
    | set => rw [hph] at ha'; injection ha' with e; subst e; exact mk _ _ _ _ _ (by omega) (num _ (by omega) (by omega)) (by omega) (un _) (by omega)
    | read typ sz n d ys =>
      rw [hph] at ha' h4
      have hn := Cy.nx_le (n - d)
      obtain ⟨k1, k2, k3, k4⟩ := h4
      unfold Gs.left at k3
      injection ha' with e
      subst e
      exact mk _ _ _ _ _ (by omega) (by omega) (by omega) (by omega) (by omega)
    | zero d =>
      rw [hph] at ha' h4
      have hn := Cy.nx_le (s.dn - d)
      have hd : d < s.dn := h4
      injection ha' with e
      subst e
      refine ⟨by show (0 : Nat) < _; omega, by show (0 : Nat) < _; omega, ⟨by show _ ≤ (6 : Int); omega, by show (6 : Int) ≤ _; omega⟩, ⟨by show _ ≤ Rg.spot s.B s.Z s.h + (d : Int); omega, by show Rg.spot s.B s.Z s.h + (d : Int) ≤ _; omega⟩, ⟨by show _ ≤ ((Cy.nx (s.dn - d) : Nat) : Int); omega, by show ((Cy.nx (s.dn - d) : Nat) : Int) ≤ _; omega⟩, Bys.bl (m := fun _ => 0) Mb.zero_isB d (Cy.nx (s.dn - d)), ?_⟩
      show (Mb.bl (fun _ => 0) d (Cy.nx (s.dn - d))).length ≤ _
      rw [Mb.bl_length]
      omega

set_option maxRecDepth 100000 in
set_option maxHeartbeats 800000 in
theorem getNext {w : World} {F : Nat → Prop} {g : Nat} {m : Gm} (h : GmAt w F g m) (hF : ∀ k, F k → k < w.heap.size) :
    Calls Tryz.prog 9 #[.pointer (some ⟨g, 0, none⟩)] w (NextTold m.next w) := by
  have HA := Lib.hid (AccNew.made w)
  have HW := Lib.hid ((Below.refl w.heap.size w).alloc (Nat.le_refl _) (.cells #[.int .i64 0, .int .i64 0, .int .i64 0, .int .u64 0, .int .u64 0, .slice none 0 0] 30))
  have HC : Hid (∀ W, Below w.heap.size w W → Calls Tryz.prog 28 #[.pointer (some ⟨g, 3, none⟩)] W (NextTold m.next W)) := Lib.hid fun W hW => by
    have hk := h.keep hW.size fun k hk => hW.block k (hF k hk)
    have hfine := fun a (ha : m.next = some a) => Gm.fine hk ha
    cases m with
    | live s =>
      obtain ⟨M, a, av, th, mv, h1, h2, h3, h4, h5, _, _, h6⟩ := hk
      show Calls _ _ _ _ (NextTold s.next W)
      rcases h5.is with ⟨e1, e2⟩ | ⟨e1, k, rc, caps, e2⟩
      · rw [e1]
        have := h1.c9
        rw [e2] at this
        exact stNextNo this
      · cases hn : s.next with
        | none => exact absurd hn e1
        | some b =>
          obtain ⟨e3, hbi⟩ := h6 b hn
          subst e3
          subst e2
          obtain ⟨Av, cv, eav, hbv⟩ := hbi
          subst eav
          exact stNextYes h1.st (BytesIn.bytes ⟨Av, cv, rfl, hbv⟩) (hfine a hn).few
    | dead => exact stNextNo hk.2.c9
  generalize m.next = o at HC ⊢
  clear h hF
  go_enter Tryz.func9, Tryz.ntmps9
  go_upto_region 1 with (fail)
  generalize w.alloc (.cells #[.int .i64 0, .int .i64 0, .int .i64 0, .int .u64 0, .int .u64 0, .slice none 0 0] 30) = W at HA HW ⊢
  cases o with
  | none =>
    go_wp2_with (go_at_call 28; refine (HC.out W HW.out).mono ?_; rintro e w2 ⟨hb, rfl⟩; obtain ⟨a0, a1, a2, a3, a4, a5, f0, f1, f2, f3, f4, f5, hbk⟩ := HA.out.later hb)
    refine bodyPost_ret (v := .tuple #[.agg #[.int .i64 0, .int .i64 0, .int .i64 0, .int .u64 0, .int .u64 0, .slice none 0 0], .bool false]) (by simp [results, Tryz.results9, go_sem, a0, a1, a2, a3, a4, a5]) rfl ?_
    exact ⟨six_below (HW.out.trans (hb.mono HW.out.size)) (Nat.le_refl _) _ _ _ _ _ _, rfl⟩
  | some a =>
    go_wp2_with (go_at_call 28; refine (HC.out W HW.out).mono ?_; rintro e w2 ⟨hb, A, l, c, rfl, ho⟩; obtain ⟨a0, a1, a2, a3, a4, a5, f0, f1, f2, f3, f4, f5, hbk⟩ := HA.out.later hb; have HO := Lib.hid ho)
    refine bodyPost_ret (v := .tuple #[.agg #[.int .i64 a.K, .int .i64 a.P, .int .i64 a.N, .int .u64 a.V, .int .u64 a.U, .slice A l c], .bool true]) (by simp [results, Tryz.results9, go_sem, a0, a1, a2, a3, a4, a5]) rfl ?_
    exact ⟨six_below (HW.out.trans (hb.mono HW.out.size)) (Nat.le_refl _) _ _ _ _ _ _, A, l, c, rfl, (six_own HO.out (Array.getElem?_eq_some_iff.1 HA.out.blk).1 _ _ _ _ _ _).down HW.out.size⟩
end Go.Proofs.YtikcnioooihncaaGreat
namespace Go.Proofs.YtikcnioooihncaaGreat
open Go.RowKit

set_option maxRecDepth 100000 in
set_option maxHeartbeats 800000 in
theorem getResult {w : World} {F : Nat → Prop} {g : Nat} {m : Gm} (h : GmAt w F g m) : Calls Tryz.prog 10 #[.pointer (some ⟨g, 0, none⟩)] w (fun e w' => e = .returned (.tuple #[.int .i64 m.result.1, .int .i64 m.result.2]) ∧ ∃ j, w' = w.drewN j) := by
  have hc : w.cell? ⟨g, 1, none⟩ = some (.int .i64 m.size) ∧ w.cell? ⟨g, 11, none⟩ = some (.int .i64 m.done) ∧ w.cell? ⟨g, 13, none⟩ = some (.int .i64 m.fault) ∧
      Calls Tryz.prog 29 #[.pointer (some ⟨g, 3, none⟩)] w (fun e w' => e = .returned (.bool m.busy) ∧ w = w') := by
    cases m with
    | live s =>
      obtain ⟨M, a, av, th, mv, h1, _, _, _, h7, _⟩ := h
      refine ⟨h1.c1, h1.c11, h1.c13, ?_⟩
      rcases h7.is with ⟨e1, e2⟩ | ⟨e1, k, rc, caps, e2⟩
      · have h11 := h1.c9
        rw [e2] at h11
        have hb : (Gm.live s).busy = false := by show s.next.isSome = false; rw [e1]; rfl
        rw [hb]
        exact stBusyNo h11
      · have h11 := h1.c9
        rw [e2] at h11
        have hb : (Gm.live s).busy = true := by
          show s.next.isSome = true
          cases hn : s.next with
          | none => exact absurd hn e1
          | some b => rfl
        rw [hb]
        exact stBusyYes k rc caps h11
    | dead => exact ⟨h.2.c1, h.2.c11, h.2.c13, stBusyNo h.2.c9⟩
  obtain ⟨c1, c14, c16, hB⟩ := hc
  unfold Gm.result
  generalize m.size = Z at c1 ⊢
  generalize m.done = p at c14 ⊢
  generalize m.fault = er at c16 ⊢
  generalize m.busy = bs at hB ⊢
  have HB := Lib.hid hB
  clear h hB
  by_cases hz : Z = 0
  · subst hz
    rw [if_pos rfl]
    go_enter Tryz.func10, Tryz.ntmps10
    go_wp2
    refine bodyPost_ret (v := .tuple #[.int .i64 0, .int .i64 1]) (by simp [results, Tryz.results10, go_sem]) rfl ?_
    exact ⟨rfl, 0, rfl⟩
  · rw [if_neg hz]
    have hd : decide (Z = 0) = false := by simpa using hz
    cases bs with
    | true =>
      rw [if_pos rfl]
      go_enter Tryz.func10, Tryz.ntmps10
      go_wp2_with (go_at_call 29; refine HB.out.mono ?_; rintro e w2 ⟨rfl, rfl⟩)
      refine bodyPost_ret (v := .tuple #[.int .i64 0, .int .i64 10]) (by simp [results, Tryz.results10, go_sem]) rfl ?_
      exact ⟨rfl, 0, rfl⟩
    | false =>
      rw [if_neg (by decide)]
      by_cases he : er = 0
      · subst he
        rw [if_pos rfl]
        go_enter Tryz.func10, Tryz.ntmps10
        go_wp2_with (go_at_call 29; refine HB.out.mono ?_; rintro e w2 ⟨rfl, rfl⟩)
        refine bodyPost_ret (v := .tuple #[.int .i64 p, .int .i64 0]) (by simp [results, Tryz.results10, go_sem]) rfl ?_
        exact ⟨rfl, 0, rfl⟩
      · rw [if_neg he]
        have hd2 : decide (er = 0) = false := by simpa using he
        go_enter Tryz.func10, Tryz.ntmps10
        go_upto_region 6 with (go_at_call 29; refine HB.out.mono ?_; rintro e w2 ⟨rfl, rfl⟩)
        go_quiet (fail)
        go_wp2
        refine bodyPost_ret (v := .tuple #[.int .i64 0, .int .i64 er]) (by simp [results, Tryz.results10, go_sem]) rfl ?_
        exact ⟨rfl, _, rfl⟩
end Go.Proofs.YtikcnioooihncaaGreat
namespace Go.Proofs.YtikcnioooihncaaGreat
open Go.RowKit

theorem GmAt.wide {w : World} {F F' : Nat → Prop} {g : Nat} {m : Gm} (h : GmAt w F g m) (hF : ∀ k, F k → F' k) : GmAt w F' g m := by
  cases m with
  | live s =>
    obtain ⟨M, a, av, th, mv, h1, h2, h3, h4, h5, h6, h7, h8⟩ := h
    exact ⟨M, a, av, th, mv, h1, hF g h2, h3, h4, h5.keep (Nat.le_refl _) (fun k _ _ => rfl) fun k hk => ⟨hF k hk.1, hk.2⟩, h6, fun k hk => ⟨hF k (h7 k hk).1, (h7 k hk).2⟩, fun b hb' => ⟨(h8 b hb').1, (h8 b hb').2.mono fun k hk _ => ⟨hF k hk.1, hk.2⟩⟩⟩
  | dead => exact ⟨hF g h.1, h.2⟩

/-- The call made a get in new memory. -/
def GNewIs (m : Gm) (w : World) (e : Ending) (w' : World) : Prop :=
  ∃ g, e = .returned (.pointer (some ⟨g, 0, none⟩)) ∧ GmAt w' (fun k => w.heap.size ≤ k ∧ k < w'.heap.size) g m ∧ Below w.heap.size w w'

set_option maxRecDepth 100000 in
set_option maxHeartbeats 800000 in
theorem gtNewBad (B Z most : Int) (hB : -9223372036854775808 ≤ B ∧ B ≤ 9223372036854775807) (hZ : -9223372036854775808 ≤ Z ∧ Z ≤ 9223372036854775807) (hbad : ¬ Rg.right B Z) (w : World) :
    Calls Tryz.prog 11 #[.agg #[.int .i64 B, .int .i64 Z], .int .i64 most] w (GNewIs .dead w) := by
  have hb0 := un_below w (.int .i64 B) (.int .i64 Z) 38
  have hx := Go.Deep.blk_alloc_new w (.cells #[.int .i64 B, .int .i64 Z] 38)
  have HBZ := Lib.hid (And.intro hB hZ)
  have HN := Lib.hid hbad
  clear hB hZ hbad
  go_enter Tryz.func11, Tryz.ntmps11
  go_upto_region 1 with (fail)
  generalize w.alloc (.cells #[.int .i64 B, .int .i64 Z] 38) = W at hb0 hx ⊢
  have x0 : W.cell? ⟨w.heap.size, 0, none⟩ = some (.int .i64 B) := by simp [World.cell?, hx]
  have x1 : W.cell? ⟨w.heap.size, 1, none⟩ = some (.int .i64 Z) := by simp [World.cell?, hx]
  clear hx
  go_wp2_with (go_at_call 23; refine (rpCheck B Z HBZ.out.1 HBZ.out.2 W).mono ?_; rintro e w2 ⟨rfl, hb⟩; rw [if_neg HN.out])
  go_ret
  have hw2 := hb0.trans (hb.mono hb0.size)
  exact ⟨w2.heap.size, rfl, ⟨⟨hw2.size, by simp⟩, Go.Deep.blk_alloc_new _ _⟩, hw2.alloc hw2.size _⟩

set_option maxRecDepth 100000 in
set_option maxHeartbeats 800000 in
theorem gtNewFew (B Z most : Int) (hB : -9223372036854775808 ≤ B ∧ B ≤ 9223372036854775807) (hZ : -9223372036854775808 ≤ Z ∧ Z ≤ 9223372036854775807) (hok : Rg.right B Z) (hm : most < 1) (w : World) :
    Calls Tryz.prog 11 #[.agg #[.int .i64 B, .int .i64 Z], .int .i64 most] w (GNewIs .dead w) := by
  have hb0 := un_below w (.int .i64 B) (.int .i64 Z) 38
  have hx := Go.Deep.blk_alloc_new w (.cells #[.int .i64 B, .int .i64 Z] 38)
  have HBZ := Lib.hid (And.intro hB hZ)
  have HN := Lib.hid hok
  have hd : decide (most < 1) = true := decide_eq_true hm
  clear hB hZ hok
  go_enter Tryz.func11, Tryz.ntmps11
  go_upto_region 1 with (fail)
  generalize w.alloc (.cells #[.int .i64 B, .int .i64 Z] 38) = W at hb0 hx ⊢
  have x0 : W.cell? ⟨w.heap.size, 0, none⟩ = some (.int .i64 B) := by simp [World.cell?, hx]
  have x1 : W.cell? ⟨w.heap.size, 1, none⟩ = some (.int .i64 Z) := by simp [World.cell?, hx]
  clear hx
  go_wp2_with (go_at_call 23; refine (rpCheck B Z HBZ.out.1 HBZ.out.2 W).mono ?_; rintro e w2 ⟨rfl, hb⟩; rw [if_pos HN.out])
  go_ret
  have hw2 := hb0.trans (hb.mono hb0.size)
  exact ⟨w2.heap.size, rfl, ⟨⟨hw2.size, by simp⟩, Go.Deep.blk_alloc_new _ _⟩, hw2.alloc hw2.size _⟩

theorem gt_made {w w4 W5 : World} {B Z most : Int} (hW5 : W5 = w4.alloc (.cells #[.int .i64 B, .int .i64 Z, .int .i64 most, .int .i64 0, .int .i64 0, .int .i64 0, .int .u64 0, .int .u64 0, .slice none 0 0, .nilFunc, .int .i64 0, .int .i64 0, .slice none 0 0, .int .i64 0] 73))
    (hb : Below w.heap.size w w4) (hr : Rg.right B Z) (hm : 1 ≤ most ∧ most ≤ 9223372036854775807) : GtBare W5 (fun k => w.heap.size ≤ k ∧ k < W5.heap.size) w4.heap.size ⟨B.toNat, Z.toNat, most, 0, 0, [], 0, .head⟩ (fun _ => False) (.slice none 0 0) := by
  obtain ⟨h1, h2, h3, h4, h5, h6⟩ := hr
  have hB : ((B.toNat : Nat) : Int) = B := Int.toNat_of_nonneg h4
  have hZ : ((Z.toNat : Nat) : Int) = Z := Int.toNat_of_nonneg (by omega)
  have hsz : W5.heap.size = w4.heap.size + 1 := by rw [hW5]; simp
  have okr : Rg.Ok B.toNat Z.toNat := ⟨by rw [← h1, hZ], by omega, by omega, by omega, by omega⟩
  have hpl := okr.place_in 0
  refine ⟨⟨Ac.zero, .slice none 0 0, ?_⟩, ⟨hb.size, by omega⟩, ⟨okr, ?_, hm, by simp only; omega, by simp⟩, ⟨[], rfl, ⟨rfl, .inl ⟨rfl, rfl⟩⟩, fun k hk => (by cases hk), fun i hi => absurd hi (Nat.not_lt_zero _)⟩, fun k hk => False.elim hk⟩
  · unfold GtBlk
    rw [hW5, Go.Deep.blk_alloc_new]
    simp only [GtCells, hB, hZ, Ac.zero]
    rfl
  · show ((0 : Nat) : Int) ≤ ((Z.toNat : Nat) : Int) - Rg.place Z.toNat 0
    omega

set_option maxRecDepth 100000 in
set_option maxHeartbeats 800000 in
theorem gtNewOk (B Z most : Int) (hB : -9223372036854775808 ≤ B ∧ B ≤ 9223372036854775807) (hZ : -9223372036854775808 ≤ Z ∧ Z ≤ 9223372036854775807) (hok : Rg.right B Z) (hm : 1 ≤ most ∧ most ≤ 9223372036854775807) (w : World) :
    Calls Tryz.prog 11 #[.agg #[.int .i64 B, .int .i64 Z], .int .i64 most] w (GNewIs (.live ⟨B.toNat, Z.toNat, most, 0, 0, [], 0, .head⟩) w) := by
  have hb0 := un_below w (.int .i64 B) (.int .i64 Z) 38
  have hx := Go.Deep.blk_alloc_new w (.cells #[.int .i64 B, .int .i64 Z] 38)
  have HBZ := Lib.hid (And.intro hB hZ)
  have HN := Lib.hid hok
  have HMO := Lib.hid hm
  have hd : decide (most < 1) = false := decide_eq_false (by omega)
  clear hB hZ hok hm
  go_enter Tryz.func11, Tryz.ntmps11
  go_upto_region 1 with (fail)
  generalize w.alloc (.cells #[.int .i64 B, .int .i64 Z] 38) = W at hb0 hx ⊢
  have x0 : W.cell? ⟨w.heap.size, 0, none⟩ = some (.int .i64 B) := by simp [World.cell?, hx]
  have x1 : W.cell? ⟨w.heap.size, 1, none⟩ = some (.int .i64 Z) := by simp [World.cell?, hx]
  have hlx := (Array.getElem?_eq_some_iff.1 hx).1
  clear hx
  go_upto_region 4 with (go_at_call 23; refine (rpCheck B Z HBZ.out.1 HBZ.out.2 W).mono ?_; rintro e w2 ⟨rfl, hb⟩; rw [if_pos HN.out]; have y0 := (hb.cell (p := ⟨w.heap.size, 0, none⟩) hlx).trans x0; have y1 := (hb.cell (p := ⟨w.heap.size, 1, none⟩) hlx).trans x1)
  have hw2 := hb0.trans (hb.mono hb0.size)
  obtain ⟨W5, hW5⟩ : ∃ W5, W5 = w2.alloc (.cells #[.int .i64 B, .int .i64 Z, .int .i64 most, .int .i64 0, .int .i64 0, .int .i64 0, .int .u64 0, .int .u64 0, .slice none 0 0, .nilFunc, .int .i64 0, .int .i64 0, .slice none 0 0, .int .i64 0] 73) := ⟨_, rfl⟩
  have hmade := gt_made (w := w) hW5 hw2 HN.out HMO.out
  have hbk : Below w.heap.size w W5 := by rw [hW5]; exact hw2.alloc hw2.size _
  rw [← hW5]
  have HM := Lib.hid (gtBegin hmade rfl)
  have HBK := Lib.hid hbk
  have hgw := hw2.size
  clear hW5 hmade hbk hb0 hb y0 y1 hw2 hlx x0 x1
  go_wp2_with (go_at_call 30; refine HM.out.mono ?_; intro e w6 hm; have HMM := Lib.hid hm; obtain ⟨rfl, _⟩ := hm)
  go_ret
  obtain ⟨_, F', hp, ht, hF'⟩ := HMM.out
  refine ⟨_, rfl, ?_, ht.below HBK.out HBK.out.size fun k hk => hk.1⟩
  refine GmAt.wide (m := .live _) hp fun k hk => ?_
  rcases hF' k hk with e | e
  · exact ⟨e.1, Nat.lt_of_lt_of_le e.2 ht.size⟩
  · exact ⟨Nat.le_trans HBK.out.size e.1, e.2⟩

theorem gtNew (B Z most : Int) (hB : -9223372036854775808 ≤ B ∧ B ≤ 9223372036854775807) (hZ : -9223372036854775808 ≤ Z ∧ Z ≤ 9223372036854775807) (hm : most ≤ 9223372036854775807) (w : World) :
    Calls Tryz.prog 11 #[.agg #[.int .i64 B, .int .i64 Z], .int .i64 most] w (GNewIs (Gm.new B Z most) w) := by
  unfold Gm.new
  by_cases h1 : Rg.right B Z
  · by_cases h2 : 1 ≤ most
    · rw [if_pos ⟨h1, h2⟩]
      exact gtNewOk B Z most hB hZ h1 ⟨h2, hm⟩ w
    · rw [if_neg fun e => h2 e.2]
      exact gtNewFew B Z most hB hZ h1 (by omega) w
  · rw [if_neg fun e => h1 e.1]
    exact gtNewBad B Z most hB hZ h1 w
end Go.Proofs.YtikcnioooihncaaGreat
namespace Go.Proofs.YtikcnioooihncaaGreat
open Go.RowKit

/-- What is being read has no more than eight bytes a step. -/
def Gs.Short (s : Gs) : Prop := ∀ typ sz n d ys, s.ph = .read typ sz n d ys → ys.length ≤ 8 * d
/-- Nothing is being read, or nothing was read yet. -/
def Gh.Fresh (ph : Gh) : Prop := ∀ typ sz n d ys, ph = .read typ sz n d ys → ys = []

theorem Gs.Short.of_fresh {s : Gs} (h : s.ph.Fresh) : s.Short := fun typ sz n d ys e => by rw [h typ sz n d ys e]; exact Nat.zero_le _
theorem Gs.drain_fresh (s : Gs) : s.drain.ph.Fresh := fun typ sz n d ys e => by
  unfold Gs.drain at e
  split at e <;> cases e
theorem Gs.looks_fresh (s : Gs) : s.looks.ph.Fresh := fun typ sz n d ys e => by
  unfold Gs.looks at e
  split at e
  · exact s.drain_fresh typ sz n d ys e
  · cases e
theorem Gs.tell_fresh (s : Gs) (l typ : Int) : (s.tell l typ).ph.Fresh := fun typ' sz n d ys e => by
  unfold Gs.tell at e
  split at e
  · exact Gs.drain_fresh _ typ' sz n d ys e
  · split at e
    · exact Gs.drain_fresh _ typ' sz n d ys e
    · split at e
      · exact Gs.looks_fresh _ typ' sz n d ys e
      · split at e
        · exact Gs.looks_fresh _ typ' sz n d ys e
        · injection e with _ _ _ _ e
          exact e.symm
theorem Gs.Short.take {s : Gs} (h : s.Short) {x : An} (hx : x.bs.length ≤ 8) (hp : s.PhOk) : (s.take x).Short := by
  unfold Gs.take
  unfold Gs.PhOk at hp
  cases hph : s.ph with
  | head => exact Gs.Short.of_fresh (Gs.looks_fresh _)
  | look => exact Gs.Short.of_fresh (Gs.tell_fresh _ _ _)
  | read typ sz n d ys =>
    rw [hph] at hp
    have hd := h typ sz n d ys hph
    have hn := Cy.nx_pos (r := n - d) (by omega)
    by_cases hq : d + Cy.nx (n - d) = n
    · simp only [if_pos hq]
      exact Gs.Short.of_fresh (Gs.looks_fresh _)
    · simp only [if_neg hq]
      intro typ' sz' n' d' ys' e
      injection e with _ _ _ e1 e2
      subst e1 e2
      rw [List.length_append]
      omega
  | zero d =>
    by_cases hq : d + Cy.nx (s.dn - d) = s.dn
    · simp only [if_pos hq]
      exact fun _ _ _ _ _ e => by cases e
    · simp only [if_neg hq]
      exact fun _ _ _ _ _ e => by cases e
  | set => exact fun _ _ _ _ _ e => by cases e
  | fin => exact fun _ _ _ _ _ e => by rw [hph] at e; cases e

/-- The same of a get, live or dead. -/
def Gm.Short : Gm → Prop
  | .live s => s.Short
  | .dead => True
theorem Gm.Short.take {w : World} {F : Nat → Prop} {g : Nat} {m : Gm} (hs : m.Short) (h : GmAt w F g m) {x : An} (hx : x.bs.length ≤ 8) : (m.take x).Short := by
  cases m with
  | dead => trivial
  | live s =>
    obtain ⟨M, a, av, th, mv, h1, h2, h3, h4, _⟩ := h
    exact Gs.Short.take hs hx h4
theorem Gm.short_fits {w : World} {F : Nat → Prop} {g : Nat} {m : Gm} (h : GmAt w F g m) (hs : m.Short) {n : Nat} (hx : n ≤ 8) : m.Fits n := by
  cases m with
  | dead => trivial
  | live s =>
    obtain ⟨M, a, av, th, mv, h1, h2, h3, h4, _⟩ := h
    intro typ sz n' d ys e
    have hd := hs typ sz n' d ys e
    unfold Gs.PhOk at h4
    rw [e] at h4
    obtain ⟨k1, k2, k3, k4⟩ := h4
    have z1 := h3.rg.z1
    have hpl := h3.rg.place_in s.h
    unfold Gs.left at k3
    omega
theorem Gm.new_short (B Z most : Int) : (Gm.new B Z most).Short := by
  unfold Gm.new
  split
  · exact fun _ _ _ _ _ e => by cases e
  · trivial
end Go.Proofs.YtikcnioooihncaaGreat
namespace Go.Proofs.YtikcnioooihncaaGreat
open Go.RowKit

/-- A machine: none, a copy, or what else this seat reaches. -/
inductive Mc where
  | none
  | copy (kd : Kd) (d r : Nat) (ys : List Int)
  | put (m : Pm)
  | get (m : Gm)

/-- What a copy writes are bytes. -/
def Kd.Okay : Kd → Prop
  | .wr _ f => Mb.IsB f
  | _ => True

theorem Kd.bytes_bys {kd : Kd} (h : kd.Okay) (d c : Nat) : Bys (kd.bytes d c) := by
  cases kd with
  | wr a f => exact Bys.bl h d c
  | ze a => exact Bys.bl (m := fun _ => 0) Mb.zero_isB d c
  | rd a => exact Bys.nil

theorem Kd.bytes_few (kd : Kd) (d c : Nat) : (kd.bytes d c).length ≤ c := by
  cases kd with
  | wr a f => exact Nat.le_of_eq (Mb.bl_length _ _ _)
  | ze a => simp [Kd.bytes, Mb.bl]
  | rd a => exact Nat.zero_le _

namespace Mc
/-- The next access. -/
def next : Mc → Option Ac
  | .none => .none
  | .copy kd d r _ => if r = 0 then .none else some ⟨kd.kind, kd.place + d, Cy.nx r, 0, 0, kd.bytes d (Cy.nx r)⟩
  | .put m => m.next
  | .get m => m.next
/-- An answer is taken. -/
def take : Mc → An → Mc
  | .none, _ => .none
  | .copy kd d r ys, x => if r = 0 then .copy kd d r ys else .copy kd (d + Cy.nx r) (r - Cy.nx r) (ys ++ if kd.reads then x.bs else [])
  | .put m, x => .put (m.take x)
  | .get m, x => .get (m.take x)
/-- The clock is told. -/
def tick (s : Mc) (_ : Int) : Mc := s
theorem next_copy (kd : Kd) (d r : Nat) (ys : List Int) : (Mc.copy kd d r ys).next = if r = 0 then .none else some ⟨kd.kind, kd.place + d, Cy.nx r, 0, 0, kd.bytes d (Cy.nx r)⟩ := rfl
theorem take_copy (kd : Kd) (d r : Nat) (ys : List Int) (x : An) : (Mc.copy kd d r ys).take x = if r = 0 then .copy kd d r ys else .copy kd (d + Cy.nx r) (r - Cy.nx r) (ys ++ if kd.reads then x.bs else []) := rfl
end Mc

/-- A machine stands in the blocks F; x is the interface's value. -/
def MRep (w : World) (F : Nat → Prop) (x : Value) : Mc → Prop
  | .none => x = .nilIface
  | .copy kd d r ys => ∃ base top g v, x = .iface 179 (.pointer (some ⟨g, 0, none⟩)) ∧ Cp w base top g kd d r v ys ∧ (∀ k, base ≤ k → k < top → F k) ∧ (∀ k, v.ownBlock = some k → F k) ∧ kd.Okay ∧ ys.length ≤ 8 * d
  | .put m => ∃ g, x = .iface 58 (.pointer (some ⟨g, 0, none⟩)) ∧ PmAt w F g m
  | .get m => ∃ g, x = .iface 27 (.pointer (some ⟨g, 0, none⟩)) ∧ GmAt w F g m ∧ m.Short

namespace MRep
variable {w w' : World} {F F' : Nat → Prop} {x : Value} {s : Mc}
theorem keep (h : MRep w F x s) (hs : w.heap.size ≤ w'.heap.size) (hb : ∀ k, F k → w'.heap[k]? = w.heap[k]?) : MRep w' F x s := by
  cases s with
  | none => exact h
  | copy kd d r ys =>
    obtain ⟨base, top, g, v, e, hc, h1, h2, h3, h4⟩ := h
    exact ⟨base, top, g, v, e, hc.keep hs (fun k a b => hb k (h1 k a b)) (fun k hk => hb k (h2 k hk)), h1, h2, h3, h4⟩
  | put m =>
    obtain ⟨g, e, h1⟩ := h
    exact ⟨g, e, h1.keep hs hb⟩
  | get m =>
    obtain ⟨g, e, h1, h2⟩ := h
    exact ⟨g, e, h1.keep hs hb, h2⟩
theorem mono (h : MRep w F x s) (hF : ∀ k, F k → F' k) : MRep w F' x s := by
  cases s with
  | none => exact h
  | copy kd d r ys =>
    obtain ⟨base, top, g, v, e, hc, h1, h2, h3, h4⟩ := h
    exact ⟨base, top, g, v, e, hc, fun k a b => hF k (h1 k a b), fun k hk => hF k (h2 k hk), h3, h4⟩
  | put m =>
    obtain ⟨g, e, h1⟩ := h
    exact ⟨g, e, h1.wide hF⟩
  | get m =>
    obtain ⟨g, e, h1, h2⟩ := h
    exact ⟨g, e, h1.wide hF, h2⟩
/-- No machine, or an interface's value. -/
theorem shape (h : MRep w F x s) : (x = .nilIface ∧ s = .none) ∨ ∃ T y, x = .iface T y := by
  cases s with
  | none => exact .inl ⟨h, rfl⟩
  | copy kd d r ys =>
    obtain ⟨_, _, _, _, e, _⟩ := h
    exact .inr ⟨_, _, e⟩
  | put m =>
    obtain ⟨_, e, _⟩ := h
    exact .inr ⟨_, _, e⟩
  | get m =>
    obtain ⟨_, e, _⟩ := h
    exact .inr ⟨_, _, e⟩
/-- What a machine asks for is an access. -/
theorem fine (h : MRep w F x s) {a : Ac} (ha : s.next = some a) : a.Fine := by
  cases s with
  | none => cases ha
  | copy kd d r ys =>
    obtain ⟨base, top, g, v, e, hc, h1, h2, h3, h4⟩ := h
    rw [Mc.next_copy] at ha
    by_cases hr : r = 0
    · rw [if_pos hr] at ha; cases ha
    · rw [if_neg hr] at ha
      injection ha with ha
      subst ha
      have hn := Cy.nx_le r
      have hf := hc.few
      have hp := hc.near
      have hb := kd.bytes_few d (Cy.nx r)
      refine ⟨by show (0:Nat) < _; decide, by show (0:Nat) < _; decide, ?_, ?_, ?_, Kd.bytes_bys h3 _ _, ?_⟩
      · show _ ≤ kd.kind ∧ kd.kind ≤ _
        cases kd <;> (simp [Kd.kind])
      · show _ ≤ kd.place + (d : Int) ∧ kd.place + (d : Int) ≤ _
        omega
      · show _ ≤ ((Cy.nx r : Nat) : Int) ∧ ((Cy.nx r : Nat) : Int) ≤ _
        omega
      · show (kd.bytes d (Cy.nx r)).length ≤ _
        omega
  | put m =>
    obtain ⟨g, _, h1⟩ := h
    exact Pm.fine h1 ha
  | get m =>
    obtain ⟨g, _, h1, _⟩ := h
    exact Gm.fine h1 ha
end MRep

theorem method_next_put0 (n : Nat) (g : Nat) (w : World) : (method (n + 100) 58 (.pointer (some ⟨g, 0, none⟩)) "Next").run Tryz.prog w = .ok (49, .pointer (some ⟨g, 0, none⟩)) w := by kernel_rfl

theorem method_next_put (g F : Nat) (w : World) (h : 100 ≤ F) : (method F 58 (.pointer (some ⟨g, 0, none⟩)) "Next").run Tryz.prog w = .ok (49, .pointer (some ⟨g, 0, none⟩)) w := by
  obtain ⟨n, rfl⟩ : ∃ n, F = n + 100 := ⟨F - 100, by omega⟩
  exact method_next_put0 n g w

theorem method_take_put0 (n : Nat) (g : Nat) (w : World) : (method (n + 100) 58 (.pointer (some ⟨g, 0, none⟩)) "Take").run Tryz.prog w = .ok (22, .pointer (some ⟨g, 0, none⟩)) w := by kernel_rfl

theorem method_take_put (g F : Nat) (w : World) (h : 100 ≤ F) : (method F 58 (.pointer (some ⟨g, 0, none⟩)) "Take").run Tryz.prog w = .ok (22, .pointer (some ⟨g, 0, none⟩)) w := by
  obtain ⟨n, rfl⟩ : ∃ n, F = n + 100 := ⟨F - 100, by omega⟩
  exact method_take_put0 n g w

theorem method_next_get0 (n : Nat) (g : Nat) (w : World) : (method (n + 100) 27 (.pointer (some ⟨g, 0, none⟩)) "Next").run Tryz.prog w = .ok (9, .pointer (some ⟨g, 0, none⟩)) w := by kernel_rfl

theorem method_next_get (g F : Nat) (w : World) (h : 100 ≤ F) : (method F 27 (.pointer (some ⟨g, 0, none⟩)) "Next").run Tryz.prog w = .ok (9, .pointer (some ⟨g, 0, none⟩)) w := by
  obtain ⟨n, rfl⟩ : ∃ n, F = n + 100 := ⟨F - 100, by omega⟩
  exact method_next_get0 n g w

theorem method_take_get0 (n : Nat) (g : Nat) (w : World) : (method (n + 100) 27 (.pointer (some ⟨g, 0, none⟩)) "Take").run Tryz.prog w = .ok (8, .pointer (some ⟨g, 0, none⟩)) w := by kernel_rfl

theorem method_take_get (g F : Nat) (w : World) (h : 100 ≤ F) : (method F 27 (.pointer (some ⟨g, 0, none⟩)) "Take").run Tryz.prog w = .ok (8, .pointer (some ⟨g, 0, none⟩)) w := by
  obtain ⟨n, rfl⟩ : ∃ n, F = n + 100 := ⟨F - 100, by omega⟩
  exact method_take_get0 n g w

/-- The two blocks that a closure hands its results in. -/
def Pair (a b k : Nat) : Prop := k = a ∨ k = b

/-- What a machine wants stands in block pa; whether it wants anything in block po. -/
def Asked (o : Option Ac) (pa po : Nat) (w w' : World) : Prop :=
  Touch (Pair pa po) w w' ∧ match o with
  | none => w'.heap[pa]? = some (.cells #[.int .i64 0, .int .i64 0, .int .i64 0, .int .u64 0, .int .u64 0, .slice none 0 0] 30 (0, 0)) ∧ w'.heap[po]? = some (.cells #[.bool false] 4 (0, 0))
  | some a => ∃ A l c, w'.heap[pa]? = some (.cells #[.int .i64 a.K, .int .i64 a.P, .int .i64 a.N, .int .u64 a.V, .int .u64 a.U, .slice A l c] 30 (0, 0)) ∧ w'.heap[po]? = some (.cells #[.bool true] 4 (0, 0)) ∧
      BytesAt w' (.slice A l c) a.bs

/-- A new place for whether. -/
structure BoolNew (b : Nat) (W : World) : Prop where
  c0 : W.cell? ⟨b, 0, none⟩ = some (.bool false)
  f0 : W.frozen? ⟨b, 0, none⟩ = false
  blk : W.heap[b]? = some (.cells #[.bool false] 4 (0, 0))
theorem BoolNew.of_blk {b : Nat} {W : World} (h : W.heap[b]? = some (.cells #[.bool false] 4 (0, 0))) : BoolNew b W := by
  refine ⟨?_, ?_, h⟩
  · simp [World.cell?, h]
  · simp [World.frozen?, h]

/-- An access and a truth, stored in two places. -/
theorem seven_blocks {W : World} {pa po : Nat} (hne : pa ≠ po) (ha : W.heap[pa]? = some (.cells #[.int .i64 0, .int .i64 0, .int .i64 0, .int .u64 0, .int .u64 0, .slice none 0 0] 30 (0, 0))) (ho : W.heap[po]? = some (.cells #[.bool false] 4 (0, 0))) (u0 u1 u2 u3 u4 u5 u6 : Value) :
    ((six W pa u0 u1 u2 u3 u4 u5).setCell ⟨po, 0, none⟩ u6).heap[pa]? = some (.cells #[u0, u1, u2, u3, u4, u5] 30 (0, 0)) ∧ ((six W pa u0 u1 u2 u3 u4 u5).setCell ⟨po, 0, none⟩ u6).heap[po]? = some (.cells #[u6] 4 (0, 0)) := by
  refine ⟨?_, ?_⟩
  · rw [Below.heap_setCell _ _ _ _ hne]
    simp [six, World.setCell, Array.getElem?_modify, ha]
  · have h6 : (six W pa u0 u1 u2 u3 u4 u5).heap[po]? = W.heap[po]? := by
      unfold six
      rw [Below.heap_setCell _ _ _ _ hne.symm, Below.heap_setCell _ _ _ _ hne.symm, Below.heap_setCell _ _ _ _ hne.symm, Below.heap_setCell _ _ _ _ hne.symm, Below.heap_setCell _ _ _ _ hne.symm, Below.heap_setCell _ _ _ _ hne.symm]
    have h7 := h6.trans ho
    simp [World.setCell, Array.getElem?_modify, h7]

theorem seven_touch {w W : World} {pa po : Nat} (h : Touch (Pair pa po) w W) (u0 u1 u2 u3 u4 u5 u6 : Value) : Touch (Pair pa po) w ((six W pa u0 u1 u2 u3 u4 u5).setCell ⟨po, 0, none⟩ u6) :=
  ((((((h.setCell (p := ⟨pa, 0, none⟩) (.inl rfl) u0).setCell (p := ⟨pa, 1, none⟩) (.inl rfl) u1).setCell (p := ⟨pa, 2, none⟩) (.inl rfl) u2).setCell (p := ⟨pa, 3, none⟩) (.inl rfl) u3).setCell (p := ⟨pa, 4, none⟩) (.inl rfl) u4).setCell (p := ⟨pa, 5, none⟩) (.inl rfl) u5).setCell (p := ⟨po, 0, none⟩) (.inr rfl) u6

set_option maxRecDepth 100000 in
set_option maxHeartbeats 400000 in
theorem nextIn_told {w : World} {T : TypeId} {y : Value} {fid : FuncId} {q : Option Ac} (hme : ∀ n w, 100 ≤ n → (method n T y "Next").run Tryz.prog w = .ok (fid, y) w) (hent : ∀ w, (callFunc fid #[y]).run Tryz.prog w = .ok (.enter fid #[y]) w) (hc : Calls Tryz.prog fid #[y] w (NextTold q w)) (pm pa po : Nat)
    (hm : w.cell? ⟨pm, 0, none⟩ = some (.iface T y)) (ha : AccNew pa w) (ho : BoolNew po w) (hne : pa ≠ po) :
    Calls Tryz.prog 114 #[.pointer (some ⟨pm, 0, none⟩), .pointer (some ⟨pa, 0, none⟩), .pointer (some ⟨po, 0, none⟩)] w fun e w' => e = .returned (.tuple #[]) ∧ Asked q pa po w w' := by
  have HC := Lib.hid hc
  have HA := Lib.hid ha
  have HO := Lib.hid ho
  clear hc ha ho
  have hpa := (Array.getElem?_eq_some_iff.1 HA.out.blk).1
  have hpo := (Array.getElem?_eq_some_iff.1 HO.out.blk).1
  go_enter Tryz.func114, Tryz.ntmps114
  go_wp2_with fail
  refine HC.out.mono ?_
  cases q with
  | none =>
    rintro e w1 ⟨hb, rfl⟩
    have hoN := BoolNew.of_blk ((hb.block po hpo).trans HO.out.blk)
    obtain ⟨a0, a1, a2, a3, a4, a5, f0, f1, f2, f3, f4, f5, ab⟩ := HA.out.later hb
    obtain ⟨o0, z0, ob⟩ := hoN
    have HH := Lib.hid (And.intro ab ob)
    clear ab ob
    go_wp2_with fail
    go_end0
    have h7 := seven_blocks hne HH.out.1 HH.out.2
    exact ⟨rfl, seven_touch (Touch.of_below hb) _ _ _ _ _ _ _, (h7 _ _ _ _ _ _ _).1, (h7 _ _ _ _ _ _ _).2⟩
  | some a =>
    rintro e w1 ⟨hb, A, l, cp, rfl, how⟩
    have hoN := BoolNew.of_blk ((hb.block po hpo).trans HO.out.blk)
    obtain ⟨a0, a1, a2, a3, a4, a5, f0, f1, f2, f3, f4, f5, ab⟩ := HA.out.later hb
    obtain ⟨o0, z0, ob⟩ := hoN
    have HH := Lib.hid (And.intro ab ob)
    have HOW := Lib.hid how
    clear how ab ob
    go_wp2_with fail
    go_end0
    have h7 := seven_blocks hne HH.out.1 HH.out.2
    refine ⟨rfl, seven_touch (Touch.of_below hb) _ _ _ _ _ _ _, A, l, cp, (h7 _ _ _ _ _ _ _).1, (h7 _ _ _ _ _ _ _).2, ?_⟩
    exact ((six_own HOW.out hpa _ _ _ _ _ _).setCell (p := ⟨po, 0, none⟩) hpo _).bytes

theorem cp_nextTold {kd : Kd} {w : World} {base top g d r : Nat} {v : Value} {ys : List Int} (h : Cp w base top g kd d r v ys) : Calls Tryz.prog 180 #[.pointer (some ⟨g, 0, none⟩)] w (NextTold (Mc.copy kd d r ys).next w) := by
  rw [Mc.next_copy]
  by_cases hr : r = 0
  · subst hr
    rw [if_pos rfl]
    refine (next_no h).mono ?_
    rintro e w' ⟨rfl, hb⟩
    exact ⟨hb, rfl⟩
  · rw [if_neg hr]
    refine (next_any h (by omega)).mono ?_
    rintro e w' ⟨A, l, c, rfl, ho, hb⟩
    exact ⟨hb, A, l, c, rfl, ho⟩

/-- A machine's own Next: which function, and what it tells. -/
theorem mrep_next {w : World} {F : Nat → Prop} {T : TypeId} {y : Value} {s : Mc} (h : MRep w F (.iface T y) s) (hlt : ∀ k, F k → k < w.heap.size) :
    ∃ fid, (∀ n w, 100 ≤ n → (method n T y "Next").run Tryz.prog w = .ok (fid, y) w) ∧ (∀ w, (callFunc fid #[y]).run Tryz.prog w = .ok (.enter fid #[y]) w) ∧ Calls Tryz.prog fid #[y] w (NextTold s.next w) := by
  cases s with
  | none => cases h
  | copy kd d r ys =>
    obtain ⟨base, top, g, v, e, hc, h1, h2, h3, h4⟩ := h
    injection e with e1 e2
    subst e1 e2
    exact ⟨_, method_next_at g, fun w => by simp [go_sem], cp_nextTold hc⟩
  | put m =>
    obtain ⟨g, e, hp⟩ := h
    injection e with e1 e2
    subst e1 e2
    exact ⟨_, method_next_put g, fun w => by simp [go_sem], putNext hp hlt⟩
  | get m =>
    obtain ⟨g, e, hp, _⟩ := h
    injection e with e1 e2
    subst e1 e2
    exact ⟨_, method_next_get g, fun w => by simp [go_sem], getNext hp hlt⟩

/-- What a machine wants, asked through the interface. -/
theorem nextIn_any {w : World} {F : Nat → Prop} {T : TypeId} {y : Value} {s : Mc} (h : MRep w F (.iface T y) s) (hlt : ∀ k, F k → k < w.heap.size) (pm pa po : Nat) (hm : w.cell? ⟨pm, 0, none⟩ = some (.iface T y)) (ha : AccNew pa w) (ho : BoolNew po w) (hne : pa ≠ po) :
    Calls Tryz.prog 114 #[.pointer (some ⟨pm, 0, none⟩), .pointer (some ⟨pa, 0, none⟩), .pointer (some ⟨po, 0, none⟩)] w fun e w' => e = .returned (.tuple #[]) ∧ Asked s.next pa po w w' := by
  obtain ⟨fid, hme, hent, hc⟩ := mrep_next h hlt
  exact nextIn_told hme hent hc pm pa po hm ha ho hne

/-- A machine took something: it stands in its blocks, and in new ones. -/
def Moved (F : Nat → Prop) (x : Value) (s : Mc) (w : World) (w' : World) : Prop :=
  ∃ F', MRep w' F' x s ∧ Touch F w w' ∧ (∀ k, F' k → F k ∨ (w.heap.size ≤ k ∧ k < w'.heap.size))

theorem Moved.of_below {F : Nat → Prop} {x : Value} {s : Mc} {w w' : World} (h : MRep w F x s) (hlt : ∀ k, F k → k < w.heap.size) (hb : Below w.heap.size w w') : Moved F x s w w' :=
  ⟨F, h.keep hb.size fun k hk => hb.block k (hlt k hk), Touch.of_below hb, fun _ hk => .inl hk⟩

/-- A copy takes an answer. -/
theorem takeIn_copy {kd : Kd} {d r : Nat} {ys : List Int} {w : World} {F : Nat → Prop} {g : Nat} (h : MRep w F (.iface 179 (.pointer (some ⟨g, 0, none⟩))) (.copy kd d r ys)) (hlt : ∀ k, F k → k < w.heap.size) (x : An) (hx : x.Fine) (A : Option Addr) (l c : Nat) (hB : BytesAt w (.slice A l c) x.bs) :
    Calls Tryz.prog 181 #[.pointer (some ⟨g, 0, none⟩), .agg #[.int .u64 x.V, .bool x.D, .slice A l c]] w fun e w' => e = .returned (.tuple #[]) ∧ Moved F (.iface 179 (.pointer (some ⟨g, 0, none⟩))) ((Mc.copy kd d r ys).take x) w w' := by
  obtain ⟨base, top, g', v, e, hc, h1, h2, h3, h4⟩ := h
  injection e with e1 e2
  injection e2 with e3
  injection e3 with e4
  injection e4 with e5
  subst e5
  rw [Mc.take_copy]
  by_cases hr : r = 0
  · subst hr
    refine (take_no hc x.V x.D A l c).mono ?_
    rintro e w' ⟨rfl, hb⟩
    exact ⟨rfl, Moved.of_below (s := .copy kd d 0 ys) ⟨base, top, g, v, rfl, hc, h1, h2, h3, h4⟩ hlt hb⟩
  · rw [if_neg hr]
    have hd := hc.few
    have hxl := hx.few
    refine (take_any hc (by omega) x.V x.D A l c hB (by omega)).mono ?_
    rintro e w' ⟨v', rfl, hc', ht, hl⟩
    have hnp := Cy.nx_pos (r := r) (by omega)
    have hT : Touch F w w' := ht.mono fun k hk => by
      rcases hk with hk | hk
      · subst hk; exact h1 _ hc.above hc.under
      · exact h2 k hk
    refine ⟨rfl, fun k => F k ∨ (w.heap.size ≤ k ∧ k < w'.heap.size), ⟨base, top, g, v', rfl, hc', fun k a b => .inl (h1 k a b), fun k hk => ?_, h3, ?_⟩, hT, fun k hk => hk⟩
    · rcases hl k hk with e | e
      · exact .inl (h2 k e)
      · exact .inr ⟨e, (hc'.own.ge hk).2⟩
    · rw [List.length_append]
      split
      · omega
      · simp; omega

/-- A machine's own Take: which function, and what it leaves. -/
theorem mrep_take {w : World} {F : Nat → Prop} {T : TypeId} {y : Value} {s : Mc} (h : MRep w F (.iface T y) s) (hlt : ∀ k, F k → k < w.heap.size) (x : An) (hx : x.Fine) (A : Option Addr) (l c : Nat) (hB : BytesAt w (.slice A l c) x.bs) :
    ∃ fid, (∀ n w, 100 ≤ n → (method n T y "Take").run Tryz.prog w = .ok (fid, y) w) ∧ (∀ w, (callFunc fid #[y, .agg #[.int .u64 x.V, .bool x.D, .slice A l c]]).run Tryz.prog w = .ok (.enter fid #[y, .agg #[.int .u64 x.V, .bool x.D, .slice A l c]]) w) ∧
      Calls Tryz.prog fid #[y, .agg #[.int .u64 x.V, .bool x.D, .slice A l c]] w fun e w' => e = .returned (.tuple #[]) ∧ Moved F (.iface T y) (s.take x) w w' := by
  cases s with
  | none => cases h
  | copy kd d r ys =>
    have h0 := h
    obtain ⟨base, top, g, v, e, hc, h1, h2, h3, h4⟩ := h
    injection e with e1 e2
    subst e1 e2
    exact ⟨_, method_take_at g, fun w => by simp [go_sem], takeIn_copy h0 hlt x hx A l c hB⟩
  | put m =>
    obtain ⟨g, e, hp⟩ := h
    injection e with e1 e2
    subst e1 e2
    refine ⟨_, method_take_put g, fun w => by simp [go_sem], (putTake hp hlt x hx.v A l c hB).mono ?_⟩
    rintro e w' ⟨rfl, F', h1, h2, h3⟩
    exact ⟨rfl, F', ⟨g, rfl, h1⟩, h2, h3⟩
  | get m =>
    obtain ⟨g, e, hp, hsh⟩ := h
    injection e with e1 e2
    subst e1 e2
    refine ⟨_, method_take_get g, fun w => by simp [go_sem], (getTake hp hlt x A l c hB (Gm.short_fits hp hsh hx.few)).mono ?_⟩
    rintro e w' ⟨rfl, F', h1, h2, h3⟩
    exact ⟨rfl, F', ⟨g, rfl, h1, hsh.take hp hx.few⟩, h2, h3⟩
end Go.Proofs.YtikcnioooihncaaGreat
namespace Go.Proofs.YtikcnioooihncaaGreat
open Go.RowKit

theorem pair_below {w W W' : World} {B a b : Nat} (h : Below B w W) (ht : Touch (Pair a b) W W') (hB : B ≤ W.heap.size) (ha : B ≤ a) (hb : B ≤ b) : Below B w W' := ht.below h hB fun k hk => by rcases hk with rfl | rfl <;> assumption

theorem clone_none (w : World) : Calls Tryz.prog 46 #[.slice none 0 0] w fun e w' => e = .returned (.slice none 0 0) ∧ w = w' := by
  have heq := fun (w : World) (a : Option Addr) => Lib.run_eql_slice_nil (P := Tryz.prog) w 23 5 a 0 0 0 0 Tryz.underlying23
  go_enter Tryz.func46, Tryz.ntmps46
  go_wp2
  go_ret
  exact ⟨rfl, rfl⟩

set_option maxRecDepth 100000 in
set_option maxHeartbeats 400000 in
theorem next_nilIface (w : World) : Calls Tryz.prog 86 #[.nilIface] w (NextTold none w) := by
  have HW := (((Below.refl w.heap.size w).alloc (Nat.le_refl _) (.cells #[.nilIface] 113)).alloc (by simp) (.cells #[.int .i64 0, .int .i64 0, .int .i64 0, .int .u64 0, .int .u64 0, .slice none 0 0] 30)).alloc (by simp; omega) (.cells #[.bool false] 4)
  have hA := Go.Deep.blk_alloc_new (w.alloc (.cells #[.nilIface] 113)) (.cells #[.int .i64 0, .int .i64 0, .int .i64 0, .int .u64 0, .int .u64 0, .slice none 0 0] 30)
  have hA2 := (Below.heap_alloc _ (.cells #[.bool false] 4) _ (by simp)).trans hA
  have e1 : (w.alloc (.cells #[.nilIface] 113)).heap.size = w.heap.size + 1 := by simp
  rw [e1] at hA2
  have HA := AccNew.of_blk hA2
  have hO := Go.Deep.blk_alloc_new ((w.alloc (.cells #[.nilIface] 113)).alloc (.cells #[.int .i64 0, .int .i64 0, .int .i64 0, .int .u64 0, .int .u64 0, .slice none 0 0] 30)) (.cells #[.bool false] 4)
  have e2 : ((w.alloc (.cells #[.nilIface] 113)).alloc (.cells #[.int .i64 0, .int .i64 0, .int .i64 0, .int .u64 0, .int .u64 0, .slice none 0 0] 30)).heap.size = w.heap.size + 1 + 1 := by simp
  rw [e2] at hO
  have HO := BoolNew.of_blk hO
  clear hA hA2 e1 hO e2
  go_enter Tryz.func86, Tryz.ntmps86
  go_wp2_with fail
  generalize ((w.alloc (.cells #[.nilIface] 113)).alloc (.cells #[.int .i64 0, .int .i64 0, .int .i64 0, .int .u64 0, .int .u64 0, .slice none 0 0] 30)).alloc (.cells #[.bool false] 4) = W at HW HA HO ⊢
  obtain ⟨a0, a1, a2, a3, a4, a5, f0, f1, f2, f3, f4, f5, ab⟩ := HA
  obtain ⟨o0, z0, ob⟩ := HO
  refine bodyPost_ret (v := .tuple #[.agg #[.int .i64 0, .int .i64 0, .int .i64 0, .int .u64 0, .int .u64 0, .slice none 0 0], .bool false]) (by simp [results, Tryz.results86, go_sem, a0, a1, a2, a3, a4, a5, o0]) rfl ?_
  exact ⟨HW, rfl⟩

/-- The machine's box, the place for an access, the place for whether. -/
theorem next_boxes (w : World) (x : Value) (W : World) (hW : W = ((w.alloc (.cells #[x] 113)).alloc (.cells #[.int .i64 0, .int .i64 0, .int .i64 0, .int .u64 0, .int .u64 0, .slice none 0 0] 30)).alloc (.cells #[.bool false] 4)) :
    Below w.heap.size w W ∧ W.cell? ⟨w.heap.size, 0, none⟩ = some x ∧ AccNew (w.heap.size + 1) W ∧ BoolNew (w.heap.size + 1 + 1) W := by
  subst hW
  have HW := (((Below.refl w.heap.size w).alloc (Nat.le_refl _) (.cells #[x] 113)).alloc (by simp) (.cells #[.int .i64 0, .int .i64 0, .int .i64 0, .int .u64 0, .int .u64 0, .slice none 0 0] 30)).alloc (by simp; omega) (.cells #[.bool false] 4)
  have hX := Go.Deep.blk_alloc_new w (.cells #[x] 113)
  have hX2 := (Below.heap_alloc _ (.cells #[.bool false] 4) _ (by simp; omega)).trans ((Below.heap_alloc _ (.cells #[.int .i64 0, .int .i64 0, .int .i64 0, .int .u64 0, .int .u64 0, .slice none 0 0] 30) _ (by simp)).trans hX)
  have hA := Go.Deep.blk_alloc_new (w.alloc (.cells #[x] 113)) (.cells #[.int .i64 0, .int .i64 0, .int .i64 0, .int .u64 0, .int .u64 0, .slice none 0 0] 30)
  have hA2 := (Below.heap_alloc _ (.cells #[.bool false] 4) _ (by simp)).trans hA
  have e1 : (w.alloc (.cells #[x] 113)).heap.size = w.heap.size + 1 := by simp
  rw [e1] at hA2
  have hO := Go.Deep.blk_alloc_new ((w.alloc (.cells #[x] 113)).alloc (.cells #[.int .i64 0, .int .i64 0, .int .i64 0, .int .u64 0, .int .u64 0, .slice none 0 0] 30)) (.cells #[.bool false] 4)
  have e2 : ((w.alloc (.cells #[x] 113)).alloc (.cells #[.int .i64 0, .int .i64 0, .int .i64 0, .int .u64 0, .int .u64 0, .slice none 0 0] 30)).heap.size = w.heap.size + 1 + 1 := by simp
  rw [e2] at hO
  exact ⟨HW, by simp [World.cell?, hX2], AccNew.of_blk hA2, BoolNew.of_blk hO⟩

theorem enter_next (caps : Array Value) (w : World) : (callFunc 114 caps).run Tryz.prog w = .ok (.enter 114 caps) w := by
  simp [go_sem]

set_option maxRecDepth 100000 in
set_option maxHeartbeats 400000 in
theorem next_some {w : World} {F : Nat → Prop} {T : TypeId} {y : Value} {s : Mc} {a : Ac} (h : MRep w F (.iface T y) s) (hlt : ∀ k, F k → k < w.heap.size) (ha : s.next = some a) :
    Calls Tryz.prog 86 #[.iface T y] w (NextTold (some a) w) := by
  have hmf : ∀ (fn : Fn) (first cap : Array Value) (w : World), (Instr.makeFunc fn first cap).run Tryz.prog w = .ok (.func fn first cap) w := fun _ _ _ _ => rfl
  have HH := Lib.hid h
  have HL := Lib.hid hlt
  have HFI := Lib.hid (h.fine ha)
  have HN := Lib.hid ha
  clear h hlt ha
  obtain ⟨WW, hWW⟩ : ∃ WW, WW = ((w.alloc (.cells #[.iface T y] 113)).alloc (.cells #[.int .i64 0, .int .i64 0, .int .i64 0, .int .u64 0, .int .u64 0, .slice none 0 0] 30)).alloc (.cells #[.bool false] 4) := ⟨_, rfl⟩
  have HB := Lib.hid (next_boxes w (.iface T y) WW hWW)
  go_enter Tryz.func86, Tryz.ntmps86
  go_wp2_with fail
  rw [← hWW]
  clear hWW
  obtain ⟨hb0, hx0, hA0, hO0⟩ := HB.out
  refine (caught_any _ _ WW (enter_next _) (nextIn_any (HH.out.keep hb0.size fun k hk => hb0.block k (HL.out k hk)) (fun k hk => Nat.lt_of_lt_of_le (HL.out k hk) hb0.size) w.heap.size (w.heap.size + 1) (w.heap.size + 1 + 1) hx0 hA0 hO0 (by omega))).mono ?_
  rintro e w1 ⟨rfl, ht, hm⟩
  rw [HN.out] at hm
  obtain ⟨A, l, c, hp, ho, hby⟩ := hm
  have hB1 := pair_below hb0 ht hb0.size (by omega) (by omega)
  have hl : a.bs.length = l := by obtain ⟨_, _, e, _⟩ := hby; injection e with _ e _; exact e.symm
  have hlf := HFI.out.few
  have hc5 : w1.cell? ⟨w.heap.size + 1, 5, none⟩ = some (.slice A l c) := by simp [World.cell?, hp]
  have HP := Lib.hid (And.intro hp (And.intro ho hby))
  have hs1 := (Array.getElem?_eq_some_iff.1 hp).1
  have hs2 := (Array.getElem?_eq_some_iff.1 ho).1
  clear hp ho hby hb0 hx0 hA0 hO0 ht
  go_wp2_with fail
  refine (clone_sl A l c a.bs w1 HP.out.2.2 (by omega)).mono ?_
  rintro e w2 ⟨A2, c2, rfl, ho2, hb2⟩
  have hq1 := (hb2.block _ hs1).trans HP.out.1
  have hq2 := (hb2.block _ hs2).trans HP.out.2.1
  have hz5 : w2.frozen? ⟨w.heap.size + 1, 5, none⟩ = false := by simp [World.frozen?, hq1]
  have hc52 : w2.cell? ⟨w.heap.size + 1, 5, none⟩ = some (.slice A l c) := by simp [World.cell?, hq1]
  have HO2 := Lib.hid ho2
  have hq3 := blkS (i := 5) hq1 (.slice A2 l c2)
  have hq4 := blkF (i := 5) (g' := w.heap.size + 1) hq2 (by omega) (.slice A2 l c2)
  go_wp2_with fail
  have hB3 : Below w.heap.size w (w2.setCell ⟨w.heap.size + 1, 5, none⟩ (.slice A2 l c2)) := (hB1.trans (hb2.mono hB1.size)).setCell (Nat.le_succ _) _
  have HO3 := Lib.hid (HO2.out.setCell (p := ⟨w.heap.size + 1, 5, none⟩) (by show w.heap.size + 1 < w1.heap.size; omega) (.slice A2 l c2))
  generalize w2.setCell ⟨w.heap.size + 1, 5, none⟩ (.slice A2 l c2) = W3 at hq3 hq4 hB3 HO3 ⊢
  have hq5 : W3.heap[w.heap.size + 1]? = some (.cells #[.int .i64 a.K, .int .i64 a.P, .int .i64 a.N, .int .u64 a.V, .int .u64 a.U, .slice A2 l c2] 30 (0, 0)) := hq3
  have HACC := Lib.hid hq5
  have a0 : W3.cell? ⟨w.heap.size + 1, 0, none⟩ = some (.int .i64 a.K) := by simp [World.cell?, hq5]
  have a1 : W3.cell? ⟨w.heap.size + 1, 1, none⟩ = some (.int .i64 a.P) := by simp [World.cell?, hq5]
  have a2 : W3.cell? ⟨w.heap.size + 1, 2, none⟩ = some (.int .i64 a.N) := by simp [World.cell?, hq5]
  have a3 : W3.cell? ⟨w.heap.size + 1, 3, none⟩ = some (.int .u64 a.V) := by simp [World.cell?, hq5]
  have a4 : W3.cell? ⟨w.heap.size + 1, 4, none⟩ = some (.int .u64 a.U) := by simp [World.cell?, hq5]
  have a5 : W3.cell? ⟨w.heap.size + 1, 5, none⟩ = some (.slice A2 l c2) := by simp [World.cell?, hq5]
  have f0 : W3.frozen? ⟨w.heap.size + 1, 0, none⟩ = false := by simp [World.frozen?, hq5]
  have f1 : W3.frozen? ⟨w.heap.size + 1, 1, none⟩ = false := by simp [World.frozen?, hq5]
  have f2 : W3.frozen? ⟨w.heap.size + 1, 2, none⟩ = false := by simp [World.frozen?, hq5]
  have f3 : W3.frozen? ⟨w.heap.size + 1, 3, none⟩ = false := by simp [World.frozen?, hq5]
  have f4 : W3.frozen? ⟨w.heap.size + 1, 4, none⟩ = false := by simp [World.frozen?, hq5]
  have f5 : W3.frozen? ⟨w.heap.size + 1, 5, none⟩ = false := by simp [World.frozen?, hq5]
  have o0 : W3.cell? ⟨w.heap.size + 1 + 1, 0, none⟩ = some (.bool true) := by simp [World.cell?, hq4]
  have z0 : W3.frozen? ⟨w.heap.size + 1 + 1, 0, none⟩ = false := by simp [World.frozen?, hq4]
  clear hq1 hq2 hq3 hq4 hq5 hz5 hb2 HO2 ho2 hc5 hB1 hc52
  go_region
  all_goals go_wp2
  refine bodyPost_ret (v := .tuple #[.agg #[.int .i64 a.K, .int .i64 a.P, .int .i64 a.N, .int .u64 a.V, .int .u64 a.U, .slice A2 l c2], .bool true]) (by simp [results, Tryz.results86, go_sem, a0, a1, a2, a3, a4, a5, o0]) rfl ?_
  refine ⟨?_, A2, l, c2, rfl, ?_⟩
  · exact (seven_touch (pa := w.heap.size + 1) (po := w.heap.size + 1 + 1) (w := W3) (Touch.refl _ _) (.int .i64 a.K) (.int .i64 a.P) (.int .i64 a.N) (.int .u64 a.V) (.int .u64 a.U) (.slice A2 l c2) (.bool true)).drew.below hB3 hB3.size (fun k hk => by rcases hk with rfl | rfl <;> omega)
  · exact (((six_own HO3.out (b := w.heap.size + 1) hs1 _ _ _ _ _ _).setCell (p := ⟨w.heap.size + 1 + 1, 0, none⟩) hs2 _).drew).down (by omega)


set_option maxRecDepth 100000 in
set_option maxHeartbeats 400000 in
theorem next_end {w : World} {F : Nat → Prop} {T : TypeId} {y : Value} {s : Mc} (h : MRep w F (.iface T y) s) (hlt : ∀ k, F k → k < w.heap.size) (ha : s.next = none) :
    Calls Tryz.prog 86 #[.iface T y] w (NextTold none w) := by
  have hmf : ∀ (fn : Fn) (first cap : Array Value) (w : World), (Instr.makeFunc fn first cap).run Tryz.prog w = .ok (.func fn first cap) w := fun _ _ _ _ => rfl
  have HH := Lib.hid h
  have HL := Lib.hid hlt
  have HN := Lib.hid ha
  clear h hlt ha
  obtain ⟨WW, hWW⟩ : ∃ WW, WW = ((w.alloc (.cells #[.iface T y] 113)).alloc (.cells #[.int .i64 0, .int .i64 0, .int .i64 0, .int .u64 0, .int .u64 0, .slice none 0 0] 30)).alloc (.cells #[.bool false] 4) := ⟨_, rfl⟩
  have HB := Lib.hid (next_boxes w (.iface T y) WW hWW)
  go_enter Tryz.func86, Tryz.ntmps86
  go_wp2_with fail
  rw [← hWW]
  clear hWW
  obtain ⟨hb0, hx0, hA0, hO0⟩ := HB.out
  refine (caught_any _ _ WW (enter_next _) (nextIn_any (HH.out.keep hb0.size fun k hk => hb0.block k (HL.out k hk)) (fun k hk => Nat.lt_of_lt_of_le (HL.out k hk) hb0.size) w.heap.size (w.heap.size + 1) (w.heap.size + 1 + 1) hx0 hA0 hO0 (by omega))).mono ?_
  rintro e w1 ⟨rfl, ht, hm⟩
  rw [HN.out] at hm
  obtain ⟨hp, ho⟩ := hm
  have hB1 := pair_below hb0 ht hb0.size (by omega) (by omega)
  have hc5 : w1.cell? ⟨w.heap.size + 1, 5, none⟩ = some (.slice none 0 0) := by simp [World.cell?, hp]
  have HP := Lib.hid (And.intro hp ho)
  have hs1 := (Array.getElem?_eq_some_iff.1 hp).1
  have hs2 := (Array.getElem?_eq_some_iff.1 ho).1
  clear hp ho hb0 hx0 hA0 hO0 ht
  go_wp2_with fail
  refine (clone_none w1).mono ?_
  rintro e w1 ⟨rfl, rfl⟩
  have hq1 := HP.out.1
  have hq2 := HP.out.2
  have hz5 : w1.frozen? ⟨w.heap.size + 1, 5, none⟩ = false := by simp [World.frozen?, hq1]
  have hq3 := blkS (i := 5) hq1 (.slice none 0 0)
  have hq4 := blkF (i := 5) (g' := w.heap.size + 1) hq2 (by omega) (.slice none 0 0)
  go_wp2_with fail
  have hB3 : Below w.heap.size w (w1.setCell ⟨w.heap.size + 1, 5, none⟩ (.slice none 0 0)) := hB1.setCell (Nat.le_succ _) _
  generalize w1.setCell ⟨w.heap.size + 1, 5, none⟩ (.slice none 0 0) = W3 at hq3 hq4 hB3 ⊢
  have hq5 : W3.heap[w.heap.size + 1]? = some (.cells #[.int .i64 0, .int .i64 0, .int .i64 0, .int .u64 0, .int .u64 0, .slice none 0 0] 30 (0, 0)) := hq3
  have HACC := Lib.hid hq5
  have a0 : W3.cell? ⟨w.heap.size + 1, 0, none⟩ = some (.int .i64 0) := by simp [World.cell?, hq5]
  have a1 : W3.cell? ⟨w.heap.size + 1, 1, none⟩ = some (.int .i64 0) := by simp [World.cell?, hq5]
  have a2 : W3.cell? ⟨w.heap.size + 1, 2, none⟩ = some (.int .i64 0) := by simp [World.cell?, hq5]
  have a3 : W3.cell? ⟨w.heap.size + 1, 3, none⟩ = some (.int .u64 0) := by simp [World.cell?, hq5]
  have a4 : W3.cell? ⟨w.heap.size + 1, 4, none⟩ = some (.int .u64 0) := by simp [World.cell?, hq5]
  have a5 : W3.cell? ⟨w.heap.size + 1, 5, none⟩ = some (.slice none 0 0) := by simp [World.cell?, hq5]
  have f0 : W3.frozen? ⟨w.heap.size + 1, 0, none⟩ = false := by simp [World.frozen?, hq5]
  have f1 : W3.frozen? ⟨w.heap.size + 1, 1, none⟩ = false := by simp [World.frozen?, hq5]
  have f2 : W3.frozen? ⟨w.heap.size + 1, 2, none⟩ = false := by simp [World.frozen?, hq5]
  have f3 : W3.frozen? ⟨w.heap.size + 1, 3, none⟩ = false := by simp [World.frozen?, hq5]
  have f4 : W3.frozen? ⟨w.heap.size + 1, 4, none⟩ = false := by simp [World.frozen?, hq5]
  have f5 : W3.frozen? ⟨w.heap.size + 1, 5, none⟩ = false := by simp [World.frozen?, hq5]
  have o0 : W3.cell? ⟨w.heap.size + 1 + 1, 0, none⟩ = some (.bool false) := by simp [World.cell?, hq4]
  have z0 : W3.frozen? ⟨w.heap.size + 1 + 1, 0, none⟩ = false := by simp [World.frozen?, hq4]
  clear hq1 hq2 hq3 hq4 hq5 hz5 hc5 hB1
  go_region
  all_goals go_wp2
  refine bodyPost_ret (v := .tuple #[.agg #[.int .i64 0, .int .i64 0, .int .i64 0, .int .u64 0, .int .u64 0, .slice none 0 0], .bool false]) (by simp [results, Tryz.results86, go_sem, a0, a1, a2, a3, a4, a5, o0]) rfl ?_
  refine ⟨?_, rfl⟩
  · exact (seven_touch (pa := w.heap.size + 1) (po := w.heap.size + 1 + 1) (w := W3) (Touch.refl _ _) (.int .i64 0) (.int .i64 0) (.int .i64 0) (.int .u64 0) (.int .u64 0) (.slice none 0 0) (.bool false)).drew.below hB3 hB3.size (fun k hk => by rcases hk with rfl | rfl <;> omega)

/-- What a machine wants next. -/
theorem next_told {w : World} {F : Nat → Prop} {x : Value} {s : Mc} (h : MRep w F x s) (hlt : ∀ k, F k → k < w.heap.size) : Calls Tryz.prog 86 #[x] w (NextTold s.next w) := by
  rcases h.shape with ⟨rfl, rfl⟩ | ⟨T, y, rfl⟩
  · exact next_nilIface w
  · cases ha : s.next with
    | none => exact next_end h hlt ha
    | some a => exact next_some h hlt ha
end Go.Proofs.YtikcnioooihncaaGreat
