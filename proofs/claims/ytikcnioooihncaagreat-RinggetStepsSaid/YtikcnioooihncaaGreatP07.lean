/-
  Layer 7's put from outside, walked: Take, Next, Result, At.
  Layer 7's put is made.
  Layer 8's get from outside: what it takes; what it does next; how it ended.
  Layer 8's get from outside: what it does next.
  Layer 8's get from outside: how it ended.
  Layer 8's get is made.
  Layer 8's get: what it read is short, as long as each answer's bytes are few.
  Messages in memory: a slice that reads as messages; a row of them whose first are copied.
  Arguments opened: an answer by value, a slice of answers.
  The tape of the plain answers (layer 5): an access told, or wanted; walked.
  The tape of the plain answers (layer 5): bytes written, walked.
-/
import Derived.Test.YtikcnioooihncaaGreatP06
import Derived.Test.YtikcnioooihncaaGreatP03
import Derived.Laws.IdiomCopy
import Derived.Lib.LazyBuf
import Derived.Deep.Slices
import Derived.Test.YtikcnioooihncaaGreatP02
import Derived.Test.YtikcnioooihncaaGreatP01
import Derived.Deep.QuietTactic
import Derived.BigQuiet
import Derived.BigRegion
namespace Go.Proofs.YtikcnioooihncaaGreat
open Go.RowKit

namespace PxCells
variable {w : World} {g : Nat} {B Z er : Int}
theorem st (h : w.heap[g]? = some (.cells (PxCells B Z er) 99 (0, 0))) : w.cell? ⟨g, 11, none⟩ = some .nilFunc := by simp [World.cell?, h, PxCells]
end PxCells

theorem rp_ans_box (w : World) (V : Nat) (D : Bool) (A : Option Addr) (l c : Nat) :
    (w.alloc (.cells #[.int .u64 V, .bool D, .slice A l c] 25)).cell? ⟨w.heap.size, 0, none⟩ = some (.int .u64 V) ∧
    (w.alloc (.cells #[.int .u64 V, .bool D, .slice A l c] 25)).cell? ⟨w.heap.size, 1, none⟩ = some (.bool D) ∧
    (w.alloc (.cells #[.int .u64 V, .bool D, .slice A l c] 25)).cell? ⟨w.heap.size, 2, none⟩ = some (.slice A l c) := by
  have h := Go.Deep.blk_alloc_new w (.cells #[.int .u64 V, .bool D, .slice A l c] 25)
  refine ⟨?_, ?_, ?_⟩ <;> (unfold World.cell?; simp only [h]; rfl)

set_option maxRecDepth 100000 in
set_option maxHeartbeats 800000 in
theorem putTakeNil (V : Nat) (D : Bool) (A : Option Addr) (l c : Nat) (w : World) :
    Calls Tryz.prog 22 #[.pointer none, .agg #[.int .u64 V, .bool D, .slice A l c]] w (Made (.tuple #[]) w) := by
  have HW := Lib.hid ((Below.refl w.heap.size w).alloc (Nat.le_refl _) (.cells #[.int .u64 V, .bool D, .slice A l c] 25))
  go_enter Tryz.func22, Tryz.ntmps22
  go_upto_region 1 with (fail)
  generalize w.alloc (.cells #[.int .u64 V, .bool D, .slice A l c] 25) = W at HW ⊢
  go_wp2
  go_end0
  exact ⟨rfl, HW.out⟩

set_option maxRecDepth 100000 in
set_option maxHeartbeats 800000 in
theorem putTake {w : World} {F : Nat → Prop} {g : Nat} {m : Pm} (h : PmAt w F g m) (hF : ∀ k, F k → k < w.heap.size) (x : An) (hx : x.V < 18446744073709551616) (A : Option Addr) (l c : Nat) (hB : BytesAt w (.slice A l c) x.bs) :
    Calls Tryz.prog 22 #[.pointer (some ⟨g, 0, none⟩), .agg #[.int .u64 x.V, .bool x.D, .slice A l c]] w (PmMoved F g (m.take x) w) := by
  have hb0 := (Below.refl w.heap.size w).alloc (Nat.le_refl _) (.cells #[.int .u64 x.V, .bool x.D, .slice A l c] 25)
  obtain ⟨x0, x1, x2⟩ := rp_ans_box w x.V x.D A l c
  have HW := Lib.hid hb0
  have HC : Hid (∀ W, Below w.heap.size w W → Calls Tryz.prog 27 #[.pointer (some ⟨g, 5, none⟩), .agg #[.int .u64 x.V, .bool x.D, .slice A l c]] W (PmMoved F g (m.take x) W)) := Lib.hid fun W hW => by
    have hk := h.keep hW.size fun k hk => hW.block k (hF k hk)
    cases m with
    | live s => exact (rpStepsTake hk (fun k hk => Nat.lt_of_lt_of_le (hF k hk) hW.size) x hx A l c (hB.below hW)).mono fun e w' hm => hm
    | dead Z er =>
      obtain ⟨h1, B, h2⟩ := hk
      refine (stTakeNo (PxCells.st h2) x.V x.D A l c).mono ?_
      rintro e w' ⟨rfl, hb⟩
      exact ⟨rfl, F, ⟨h1, B, (hb.block g (Nat.lt_of_lt_of_le (hF g h1) hW.size)).trans h2⟩, Touch.of_below hb, fun k hk => .inl hk⟩
  have hnF : ¬ F w.heap.size := fun e => Nat.lt_irrefl _ (hF _ e)
  clear h hF hB hb0
  go_enter Tryz.func22, Tryz.ntmps22
  go_upto_region 1 with (fail)
  generalize w.alloc (.cells #[.int .u64 x.V, .bool x.D, .slice A l c] 25) = W at HW x0 x1 x2 ⊢
  go_upto_region 2 with (fail)
  go_region_held3 (fun w' => w'.cell? ⟨w.heap.size, 0, none⟩ = some (.int .u64 x.V) ∧ w'.cell? ⟨w.heap.size, 1, none⟩ = some (.bool x.D) ∧ w'.cell? ⟨w.heap.size, 2, none⟩ = some (.slice A l c)) (go_keep)
    (first | (go_at_call 27; refine (HC.out W.drew HW.out.drew).mono ?_; intro e w3 hm; have HM := Lib.hid hm; obtain ⟨rfl, F', hp, ht, hF'⟩ := hm; have y0 := (ht.cell (p := ⟨w.heap.size, 0, none⟩) (lt_of_cell x0) hnF).trans x0; have y1 := (ht.cell (p := ⟨w.heap.size, 1, none⟩) (lt_of_cell x0) hnF).trans x1; have y2 := (ht.cell (p := ⟨w.heap.size, 2, none⟩) (lt_of_cell x0) hnF).trans x2))
  all_goals
    go_wp2
    go_end0
    exact ⟨rfl, F', hp, (Touch.of_below HW.out.drew).trans ht, fun k hk => (hF' k hk).imp id fun h => ⟨Nat.le_trans HW.out.size h.1, h.2⟩⟩

set_option maxRecDepth 100000 in
set_option maxHeartbeats 800000 in
theorem putNextNil (w : World) : Calls Tryz.prog 49 #[.pointer none] w (NextTold none w) := by
  have HA := AccNew.made w
  have HW := Lib.hid ((Below.refl w.heap.size w).alloc (Nat.le_refl _) (.cells #[.int .i64 0, .int .i64 0, .int .i64 0, .int .u64 0, .int .u64 0, .slice none 0 0] 30))
  go_enter Tryz.func49, Tryz.ntmps49
  go_upto_region 1 with (fail)
  generalize w.alloc (.cells #[.int .i64 0, .int .i64 0, .int .i64 0, .int .u64 0, .int .u64 0, .slice none 0 0] 30) = W at HA HW ⊢
  obtain ⟨a0, a1, a2, a3, a4, a5, f0, f1, f2, f3, f4, f5, hbk⟩ := HA
  go_wp2
  refine bodyPost_ret (v := .tuple #[.agg #[.int .i64 0, .int .i64 0, .int .i64 0, .int .u64 0, .int .u64 0, .slice none 0 0], .bool false]) (by simp [results, Tryz.results49, go_sem, a0, a1, a2, a3, a4, a5]) rfl ?_
  exact ⟨six_below HW.out (Nat.le_refl _) _ _ _ _ _ _, rfl⟩

theorem Pm.fine {w : World} {F : Nat → Prop} {g : Nat} {m : Pm} (h : PmAt w F g m) {a : Ac} (ha : m.next = some a) : a.Fine := by
  cases m with
  | dead Z er => cases ha
  | live s =>
    obtain ⟨A, L, c, a0, av, th, h1, h2, ok, h4, h5, h6, h7, h8⟩ := h
    obtain ⟨hp0, hz0, hz1, hb0, hb1, ht0, ht1, hfew, hB, hh, htl, hps⟩ := ok
    have okr : Rg.Ok s.B s.Z := ⟨hp0, hz0, hz1, hb0, hb1⟩
    have un_lt : ∀ y : Int, Rs.un y < 18446744073709551616 := fun y => by unfold Rs.un; omega
    have jn_lt : ∀ x y : Int, (Hd.jn x y).toNat < 18446744073709551616 := fun x y => by have := Hd.jn_bounds x y; omega
    have num : ∀ k : Int, 0 ≤ k → k ≤ 16 → -9223372036854775808 ≤ s.num k ∧ s.num k ≤ 9223372036854775807 := fun k _ _ => by unfold Rs.num Rg.num; omega
    have spot : ∀ v : Int, 0 ≤ s.spot v ∧ s.spot v ≤ 140000 := fun v => by have := okr.place_in v; unfold Rs.spot Rg.spot; omega
    have mk : ∀ (K P N : Int) (V U : Nat), (0 ≤ K ∧ K ≤ 8) → (-9223372036854775808 ≤ P ∧ P ≤ 9223372036854775807) → (0 ≤ N ∧ N ≤ 8) → V < 18446744073709551616 → U < 18446744073709551616 → Ac.Fine ⟨K, P, N, V, U, []⟩ := fun K P N V U h1 h2 h3 h4 h5 => ⟨h4, h5, ⟨by show _ ≤ K; omega, by show K ≤ _; omega⟩, h2, ⟨by show _ ≤ N; omega, by show N ≤ _; omega⟩, Bys.nil, by show (0 : Nat) ≤ _; omega⟩
    have ha' : s.next = some a := ha
    unfold Rs.next at ha'
    unfold ThenIs at h7
    cases hph : s.ph with
    | fin => rw [hph] at ha'; cases ha'
    | ask => rw [hph] at ha'; injection ha' with e; subst e; exact mk _ _ _ _ _ (by omega) (num _ (by omega) (by omega)) (by omega) (by omega) (by omega)
    | tail => rw [hph] at ha'; injection ha' with e; subst e; exact mk _ _ _ _ _ (by omega) (num _ (by omega) (by omega)) (by omega) (by omega) (by omega)
    | head1 => rw [hph] at ha'; injection ha' with e; subst e; exact mk _ _ _ _ _ (by omega) (num _ (by omega) (by omega)) (by omega) (by omega) (by omega)
    | head2 gap => rw [hph] at ha'; injection ha' with e; subst e; exact mk _ _ _ _ _ (by omega) (num _ (by omega) (by omega)) (by omega) (by omega) (by omega)
    | copy1 => rw [hph] at ha'; injection ha' with e; subst e; exact mk _ _ _ _ _ (by omega) (num _ (by omega) (by omega)) (by omega) (un_lt _) (by omega)
    | copy2 gap => rw [hph] at ha'; injection ha' with e; subst e; exact mk _ _ _ _ _ (by omega) (num _ (by omega) (by omega)) (by omega) (un_lt _) (by omega)
    | cas pad => rw [hph] at ha'; injection ha' with e; subst e; exact mk _ _ _ _ _ (by omega) (num _ (by omega) (by omega)) (by omega) (un_lt _) (un_lt _)
    | padd pad => rw [hph] at ha'; injection ha' with e; subst e; have := spot s.t; exact mk _ _ _ _ _ (by omega) (by omega) (by omega) (jn_lt _ _) (by omega)
    | hdr => rw [hph] at ha'; injection ha' with e; subst e; have := spot s.p; exact mk _ _ _ _ _ (by omega) (by omega) (by omega) (jn_lt _ _) (by omega)
    | len => rw [hph] at ha'; injection ha' with e; subst e; have := spot s.p; exact mk _ _ _ _ _ (by omega) (by omega) (by omega) (by omega) (by omega)
    | byt d =>
      rw [hph] at ha' h7
      obtain ⟨_, _, _, _, _, _, _, _, _, _, _, _, _, _, _, _, _, hdl⟩ := h7
      injection ha' with e
      subst e
      have := spot s.p
      have hn := Cy.nx_le (s.L - d)
      refine ⟨by show (0 : Nat) < _; omega, by show (0 : Nat) < _; omega, ⟨by show _ ≤ (6 : Int); omega, by show (6 : Int) ≤ _; omega⟩, ?_, ?_, Bys.bl hB _ _, ?_⟩
      · show _ ≤ s.spot s.p + 8 + (d : Int) ∧ s.spot s.p + 8 + (d : Int) ≤ _
        omega
      · show _ ≤ ((Cy.nx (s.L - d) : Nat) : Int) ∧ ((Cy.nx (s.L - d) : Nat) : Int) ≤ _
        omega
      · show (Mb.bl s.f d (Cy.nx (s.L - d))).length ≤ _
        rw [Mb.bl_length]
        omega

set_option maxRecDepth 100000 in
set_option maxHeartbeats 800000 in
theorem putNext {w : World} {F : Nat → Prop} {g : Nat} {m : Pm} (h : PmAt w F g m) (hF : ∀ k, F k → k < w.heap.size) :
    Calls Tryz.prog 49 #[.pointer (some ⟨g, 0, none⟩)] w (NextTold m.next w) := by
  have HA := Lib.hid (AccNew.made w)
  have HW := Lib.hid ((Below.refl w.heap.size w).alloc (Nat.le_refl _) (.cells #[.int .i64 0, .int .i64 0, .int .i64 0, .int .u64 0, .int .u64 0, .slice none 0 0] 30))
  have HC : Hid (∀ W, Below w.heap.size w W → Calls Tryz.prog 28 #[.pointer (some ⟨g, 5, none⟩)] W (NextTold m.next W)) := Lib.hid fun W hW => by
    have hk := h.keep hW.size fun k hk => hW.block k (hF k hk)
    have hfine := fun a (ha : m.next = some a) => Pm.fine hk ha
    cases m with
    | live s =>
      obtain ⟨A, L, c, a, av, th, h1, h2, h3, h4, h5, h6, h7, h8⟩ := hk
      show Calls _ _ _ _ (NextTold s.next W)
      rcases PutAt.thenIs h7 with ⟨e1, e2⟩ | ⟨e1, k, rc, caps, e2⟩
      · rw [e1]
        have := h1.c11
        rw [e2] at this
        exact stNextNo this
      · cases hn : s.next with
        | none => exact absurd hn e1
        | some b =>
          obtain ⟨rfl, hb⟩ := h8 b hn
          have hby := hb.bytes
          obtain ⟨A2, c2, hav, _⟩ := hb
          subst hav e2
          exact stNextYes h1.st hby (hfine a hn).few
    | dead Z er =>
      obtain ⟨_, B, h2⟩ := hk
      exact stNextNo (PxCells.st h2)
  generalize m.next = o at HC ⊢
  clear h hF
  go_enter Tryz.func49, Tryz.ntmps49
  go_upto_region 1 with (fail)
  generalize w.alloc (.cells #[.int .i64 0, .int .i64 0, .int .i64 0, .int .u64 0, .int .u64 0, .slice none 0 0] 30) = W at HA HW ⊢
  cases o with
  | none =>
    go_wp2_with (go_at_call 28; refine (HC.out W HW.out).mono ?_; rintro e w2 ⟨hb, rfl⟩; obtain ⟨a0, a1, a2, a3, a4, a5, f0, f1, f2, f3, f4, f5, hbk⟩ := HA.out.later hb)
    refine bodyPost_ret (v := .tuple #[.agg #[.int .i64 0, .int .i64 0, .int .i64 0, .int .u64 0, .int .u64 0, .slice none 0 0], .bool false]) (by simp [results, Tryz.results49, go_sem, a0, a1, a2, a3, a4, a5]) rfl ?_
    exact ⟨six_below (HW.out.trans (hb.mono HW.out.size)) (Nat.le_refl _) _ _ _ _ _ _, rfl⟩
  | some a =>
    go_wp2_with (go_at_call 28; refine (HC.out W HW.out).mono ?_; rintro e w2 ⟨hb, A, l, c, rfl, ho⟩; obtain ⟨a0, a1, a2, a3, a4, a5, f0, f1, f2, f3, f4, f5, hbk⟩ := HA.out.later hb; have HO := Lib.hid ho)
    refine bodyPost_ret (v := .tuple #[.agg #[.int .i64 a.K, .int .i64 a.P, .int .i64 a.N, .int .u64 a.V, .int .u64 a.U, .slice A l c], .bool true]) (by simp [results, Tryz.results49, go_sem, a0, a1, a2, a3, a4, a5]) rfl ?_
    exact ⟨six_below (HW.out.trans (hb.mono HW.out.size)) (Nat.le_refl _) _ _ _ _ _ _, A, l, c, rfl, (six_own HO.out (Array.getElem?_eq_some_iff.1 HA.out.blk).1 _ _ _ _ _ _).down HW.out.size⟩

set_option maxRecDepth 100000 in
theorem putAtNil (w : World) : Calls Tryz.prog 50 #[.pointer none] w (fun e w' => e = .returned (.tuple #[.int .i64 0, .bool false]) ∧ w = w') := by
  go_enter Tryz.func50, Tryz.ntmps50
  go_wp2
  refine bodyPost_ret (v := .tuple #[.int .i64 0, .bool false]) (by simp [results, Tryz.results50, go_sem]) rfl ?_
  exact ⟨rfl, rfl⟩

set_option maxRecDepth 100000 in
theorem putAt {w : World} {F : Nat → Prop} {g : Nat} {m : Pm} (h : PmAt w F g m) : Calls Tryz.prog 50 #[.pointer (some ⟨g, 0, none⟩)] w (fun e w' => e = .returned (.tuple #[.int .i64 m.pos, .bool m.has]) ∧ ∃ j, w' = w.drewN j) := by
  have hc : w.cell? ⟨g, 14, none⟩ = some (.int .i64 m.pos) ∧ w.cell? ⟨g, 15, none⟩ = some (.bool m.has) := by
    cases m with
    | live s =>
      obtain ⟨A, L, c, a, av, th, h1, _⟩ := h
      exact ⟨h1.c14, h1.c15⟩
    | dead Z er =>
      obtain ⟨_, B, h2⟩ := h
      exact ⟨by simp [World.cell?, h2, PxCells, Pm.pos], by simp [World.cell?, h2, PxCells, Pm.has]⟩
  obtain ⟨c14, c15⟩ := hc
  generalize m.pos = p at c14 ⊢
  generalize m.has = b at c15 ⊢
  clear h
  go_enter Tryz.func50, Tryz.ntmps50
  go_upto_region 3 with (fail)
  go_quiet (fail)
  go_wp2
  refine bodyPost_ret (v := .tuple #[.int .i64 p, .bool b]) (by simp [results, Tryz.results50, go_sem]) rfl ?_
  exact ⟨rfl, _, rfl⟩

set_option maxRecDepth 100000 in
theorem putResultNil (w : World) : Calls Tryz.prog 44 #[.pointer none] w (fun e w' => e = .returned (.tuple #[.int .i64 0, .int .i64 1]) ∧ w = w') := by
  go_enter Tryz.func44, Tryz.ntmps44
  go_wp2
  refine bodyPost_ret (v := .tuple #[.int .i64 0, .int .i64 1]) (by simp [results, Tryz.results44, go_sem]) rfl ?_
  exact ⟨rfl, rfl⟩

set_option maxRecDepth 100000 in
set_option maxHeartbeats 800000 in
theorem putResult {w : World} {F : Nat → Prop} {g : Nat} {m : Pm} (h : PmAt w F g m) : Calls Tryz.prog 44 #[.pointer (some ⟨g, 0, none⟩)] w (fun e w' => e = .returned (.tuple #[.int .i64 m.result.1, .int .i64 m.result.2]) ∧ ∃ j, w' = w.drewN j) := by
  have hc : w.cell? ⟨g, 1, none⟩ = some (.int .i64 m.size) ∧ w.cell? ⟨g, 14, none⟩ = some (.int .i64 m.pos) ∧ w.cell? ⟨g, 16, none⟩ = some (.int .i64 m.fault) ∧
      Calls Tryz.prog 29 #[.pointer (some ⟨g, 5, none⟩)] w (fun e w' => e = .returned (.bool m.busy) ∧ w = w') := by
    cases m with
    | live s =>
      obtain ⟨A, L, c, a, av, th, h1, _, _, _, _, _, h7, _⟩ := h
      refine ⟨h1.c1, h1.c14, h1.c16, ?_⟩
      rcases PutAt.thenIs h7 with ⟨e1, e2⟩ | ⟨e1, k, rc, caps, e2⟩
      · have h11 := h1.c11
        rw [e2] at h11
        have hb : (Pm.live s).busy = false := by show s.next.isSome = false; rw [e1]; rfl
        rw [hb]
        exact stBusyNo h11
      · have h11 := h1.c11
        rw [e2] at h11
        have hb : (Pm.live s).busy = true := by
          show s.next.isSome = true
          cases hn : s.next with
          | none => exact absurd hn e1
          | some b => rfl
        rw [hb]
        exact stBusyYes k rc caps h11
    | dead Z er =>
      obtain ⟨_, B, h2⟩ := h
      exact ⟨by simp [World.cell?, h2, PxCells, Pm.size], by simp [World.cell?, h2, PxCells, Pm.pos], by simp [World.cell?, h2, PxCells, Pm.fault], stBusyNo (PxCells.st h2)⟩
  obtain ⟨c1, c14, c16, hB⟩ := hc
  unfold Pm.result
  generalize m.size = Z at c1 ⊢
  generalize m.pos = p at c14 ⊢
  generalize m.fault = er at c16 ⊢
  generalize m.busy = bs at hB ⊢
  have HB := Lib.hid hB
  clear h hB
  by_cases hz : Z = 0
  · subst hz
    rw [if_pos rfl]
    go_enter Tryz.func44, Tryz.ntmps44
    go_wp2
    refine bodyPost_ret (v := .tuple #[.int .i64 0, .int .i64 1]) (by simp [results, Tryz.results44, go_sem]) rfl ?_
    exact ⟨rfl, 0, rfl⟩
  · rw [if_neg hz]
    have hd : decide (Z = 0) = false := by simpa using hz
    cases bs with
    | true =>
      rw [if_pos rfl]
      go_enter Tryz.func44, Tryz.ntmps44
      go_wp2_with (go_at_call 29; refine HB.out.mono ?_; rintro e w2 ⟨rfl, rfl⟩)
      refine bodyPost_ret (v := .tuple #[.int .i64 0, .int .i64 10]) (by simp [results, Tryz.results44, go_sem]) rfl ?_
      exact ⟨rfl, 0, rfl⟩
    | false =>
      rw [if_neg (by decide)]
      by_cases he : er = 0
      · subst he
        rw [if_pos rfl]
        go_enter Tryz.func44, Tryz.ntmps44
        go_wp2_with (go_at_call 29; refine HB.out.mono ?_; rintro e w2 ⟨rfl, rfl⟩)
        refine bodyPost_ret (v := .tuple #[.int .i64 p, .int .i64 0]) (by simp [results, Tryz.results44, go_sem]) rfl ?_
        exact ⟨rfl, 0, rfl⟩
      · rw [if_neg he]
        have hd2 : decide (er = 0) = false := by simpa using he
        go_enter Tryz.func44, Tryz.ntmps44
        go_upto_region 6 with (go_at_call 29; refine HB.out.mono ?_; rintro e w2 ⟨rfl, rfl⟩)
        go_quiet (fail)
        go_wp2
        refine bodyPost_ret (v := .tuple #[.int .i64 0, .int .i64 er]) (by simp [results, Tryz.results44, go_sem]) rfl ?_
        exact ⟨rfl, _, rfl⟩
end Go.Proofs.YtikcnioooihncaaGreat
namespace Go.Proofs.YtikcnioooihncaaGreat
open Go.RowKit

/-- May a ring be? -/
def Rg.right (B Z : Int) : Prop := Wd.isP Z = true ∧ 64 ≤ Z ∧ Z ≤ 8192 ∧ 0 ≤ B ∧ B ≤ 131072 - Z - 32 ∧ B % 8 = 0
instance (B Z : Int) : Decidable (Rg.right B Z) := by unfold Rg.right; infer_instance

set_option maxRecDepth 100000 in
set_option maxHeartbeats 800000 in
theorem rpCheck (B Z : Int) (hB : -9223372036854775808 ≤ B ∧ B ≤ 9223372036854775807) (hZ : -9223372036854775808 ≤ Z ∧ Z ≤ 9223372036854775807) (w : World) :
    Calls Tryz.prog 23 #[.agg #[.int .i64 B, .int .i64 Z]] w (Made (.int .i64 (if Rg.right B Z then 0 else 1)) w) := by
  have hb0 := un_below w (.int .i64 B) (.int .i64 Z) 38
  have hx := Go.Deep.blk_alloc_new w (.cells #[.int .i64 B, .int .i64 Z] 38)
  obtain ⟨q, hq⟩ : ∃ q : Int, q = (if Rg.right B Z then 0 else 1) := ⟨_, rfl⟩
  rw [← hq]
  have HQ := Lib.hid hq
  clear hq
  go_enter Tryz.func23, Tryz.ntmps23
  go_upto_region 1 with (fail)
  generalize w.alloc (.cells #[.int .i64 B, .int .i64 Z] 38) = W at hb0 hx ⊢
  have x0 : W.cell? ⟨w.heap.size, 0, none⟩ = some (.int .i64 B) := by simp [World.cell?, hx]
  have x1 : W.cell? ⟨w.heap.size, 1, none⟩ = some (.int .i64 Z) := by simp [World.cell?, hx]
  clear hx
  cases hp : Wd.isP Z with
  | false =>
    have HP := Lib.hid hp
    clear hp
    go_wp2_with (go_at_call 51; refine (isPower_any Z _ (by omega) (by omega)).mono ?_; rintro e w2 ⟨rfl, rfl⟩; rw [HP.out])
    all_goals
      go_ret
      refine ⟨?_, hb0⟩
      rw [HQ.out, if_neg (fun h => by have := h.1; rw [HP.out] at this; cases this)]
      rfl
  | true =>
    have HP := Lib.hid hp
    clear hp
    go_wp2_with (go_at_call 51; refine (isPower_any Z _ (by omega) (by omega)).mono ?_; rintro e w2 ⟨rfl, rfl⟩; rw [HP.out])
    all_goals
      go_ret
      refine ⟨?_, hb0⟩
      rw [HQ.out]
      simp only [bne_eq_false_iff_eq, bne_iff_ne, ne_eq] at *
      first
        | (rw [if_pos ⟨HP.out, by omega, by omega, by omega, by omega, by omega⟩]; rfl)
        | (rw [if_neg (fun ⟨_, _, _, _, _, _⟩ => by omega)]; rfl)

theorem rp_need_aux (n : Nat) (h : n ≤ 131072) : sz (n : Int) 8 8 = 8 * (((n + 15) / 8 : Nat) : Int) := by
  unfold sz szOk Wd.al Wd.alOk
  have h1 : decide (0 ≤ (n : Int)) = true := by simp
  have h2 : decide ((n : Int) ≤ 131072) = true := by simp; omega
  have h3 : Wd.isP 8 = true := by decide
  have h4 : decide (0 ≤ (8 : Int) + n) = true := by simp; omega
  have h5 : decide ((8 : Int) + n ≤ 4611686018427387904) = true := by simp; omega
  rw [h1, h2, h3, h4, h5]
  simp only [Bool.and_self, if_true]
  omega

/-- A put was made: it stands in new memory. -/
def NewIs (m : Pm) (w : World) (e : Ending) (w' : World) : Prop :=
  ∃ g, e = .returned (.pointer (some ⟨g, 0, none⟩)) ∧ PmAt w' (fun k => w.heap.size ≤ k ∧ k < w'.heap.size) g m ∧ Below w.heap.size w w'

/-- The put that is made. -/
def Pm.new (B Z typ : Int) (f : Nat → Nat) (L : Nat) : Pm :=
  if ¬ Rg.right B Z ∨ typ < 1 then .dead 0 0 else if Z < 8 * (L : Int) then .dead Z 4 else .live ⟨B.toNat, Z.toNat, typ, f, L, 0, 0, 0, false, .ask, 0⟩

theorem new_dead (w W : World) (hb : Below w.heap.size w W) (B Z er : Int) : NewIs (.dead Z er) w (.returned (.pointer (some ⟨W.heap.size, 0, none⟩))) (W.alloc (.cells (PxCells B Z er) 99)) :=
  ⟨W.heap.size, rfl, ⟨⟨hb.size, by simp⟩, B, Go.Deep.blk_alloc_new _ _⟩, hb.alloc hb.size _⟩

set_option maxRecDepth 100000 in
set_option maxHeartbeats 800000 in
theorem rpNewBad (B Z typ : Int) (hB : -9223372036854775808 ≤ B ∧ B ≤ 9223372036854775807) (hZ : -9223372036854775808 ≤ Z ∧ Z ≤ 9223372036854775807) (hbad : ¬ Rg.right B Z) (A : Option Addr) (L c : Nat) (w : World) :
    Calls Tryz.prog 20 #[.agg #[.int .i64 B, .int .i64 Z], .int .i32 typ, .slice A L c] w (NewIs (.dead 0 0) w) := by
  have hb0 := un_below w (.int .i64 B) (.int .i64 Z) 38
  have hx := Go.Deep.blk_alloc_new w (.cells #[.int .i64 B, .int .i64 Z] 38)
  have HBZ := Lib.hid (And.intro hB hZ)
  have HN := Lib.hid hbad
  clear hB hZ hbad
  go_enter Tryz.func20, Tryz.ntmps20
  go_upto_region 1 with (fail)
  generalize w.alloc (.cells #[.int .i64 B, .int .i64 Z] 38) = W at hb0 hx ⊢
  have x0 : W.cell? ⟨w.heap.size, 0, none⟩ = some (.int .i64 B) := by simp [World.cell?, hx]
  have x1 : W.cell? ⟨w.heap.size, 1, none⟩ = some (.int .i64 Z) := by simp [World.cell?, hx]
  clear hx
  go_wp2_with (go_at_call 23; refine (rpCheck B Z HBZ.out.1 HBZ.out.2 W).mono ?_; rintro e w2 ⟨rfl, hb⟩; rw [if_neg HN.out])
  go_ret
  exact new_dead w w2 (hb0.trans (hb.mono hb0.size)) 0 0 0

set_option maxRecDepth 100000 in
set_option maxHeartbeats 800000 in
theorem rpNewTyp (B Z typ : Int) (hB : -9223372036854775808 ≤ B ∧ B ≤ 9223372036854775807) (hZ : -9223372036854775808 ≤ Z ∧ Z ≤ 9223372036854775807) (hok : Rg.right B Z) (htyp : typ < 1) (A : Option Addr) (L c : Nat) (w : World) :
    Calls Tryz.prog 20 #[.agg #[.int .i64 B, .int .i64 Z], .int .i32 typ, .slice A L c] w (NewIs (.dead 0 0) w) := by
  have hb0 := un_below w (.int .i64 B) (.int .i64 Z) 38
  have hx := Go.Deep.blk_alloc_new w (.cells #[.int .i64 B, .int .i64 Z] 38)
  have HBZ := Lib.hid (And.intro hB hZ)
  have HN := Lib.hid hok
  have hd : decide (typ < 1) = true := by simpa using htyp
  clear hB hZ hok
  go_enter Tryz.func20, Tryz.ntmps20
  go_upto_region 1 with (fail)
  generalize w.alloc (.cells #[.int .i64 B, .int .i64 Z] 38) = W at hb0 hx ⊢
  have x0 : W.cell? ⟨w.heap.size, 0, none⟩ = some (.int .i64 B) := by simp [World.cell?, hx]
  have x1 : W.cell? ⟨w.heap.size, 1, none⟩ = some (.int .i64 Z) := by simp [World.cell?, hx]
  clear hx
  go_wp2_with (go_at_call 23; refine (rpCheck B Z HBZ.out.1 HBZ.out.2 W).mono ?_; rintro e w2 ⟨rfl, hb⟩; rw [if_pos HN.out])
  go_ret
  exact new_dead w w2 (hb0.trans (hb.mono hb0.size)) 0 0 0

set_option maxRecDepth 100000 in
set_option maxHeartbeats 800000 in
theorem rpNewLong (B Z typ : Int) (hB : -9223372036854775808 ≤ B ∧ B ≤ 9223372036854775807) (hZ : -9223372036854775808 ≤ Z ∧ Z ≤ 9223372036854775807) (hok : Rg.right B Z) (htyp : ¬ typ < 1) (A : Option Addr) (L c : Nat) (hlong : Z < 8 * (L : Int)) (w : World) :
    Calls Tryz.prog 20 #[.agg #[.int .i64 B, .int .i64 Z], .int .i32 typ, .slice A L c] w (NewIs (.dead Z 4) w) := by
  have hb0 := un_below w (.int .i64 B) (.int .i64 Z) 38
  have hx := Go.Deep.blk_alloc_new w (.cells #[.int .i64 B, .int .i64 Z] 38)
  have HBZ := Lib.hid (And.intro hB hZ)
  have HN := Lib.hid hok
  have hd : decide (typ < 1) = false := by simpa using htyp
  have hz0 : 64 ≤ Z := hok.2.1
  have hz1 : Z ≤ 8192 := hok.2.2.1
  have hdl : Z / 8 < (L : Int) := by omega
  have hdd : decide (Z / 8 < (L : Int)) = true := by simpa using hdl
  clear hB hZ hok htyp hlong
  go_enter Tryz.func20, Tryz.ntmps20
  go_upto_region 1 with (fail)
  generalize w.alloc (.cells #[.int .i64 B, .int .i64 Z] 38) = W at hb0 hx ⊢
  have x0 : W.cell? ⟨w.heap.size, 0, none⟩ = some (.int .i64 B) := by simp [World.cell?, hx]
  have x1 : W.cell? ⟨w.heap.size, 1, none⟩ = some (.int .i64 Z) := by simp [World.cell?, hx]
  have hlx := (Array.getElem?_eq_some_iff.1 hx).1
  clear hx
  go_wp2_with (go_at_call 23; refine (rpCheck B Z HBZ.out.1 HBZ.out.2 W).mono ?_; rintro e w2 ⟨rfl, hb⟩; rw [if_pos HN.out]; have y0 := (hb.cell (p := ⟨w.heap.size, 0, none⟩) hlx).trans x0; have y1 := (hb.cell (p := ⟨w.heap.size, 1, none⟩) hlx).trans x1)
  go_ret
  exact new_dead w w2 (hb0.trans (hb.mono hb0.size)) B Z 4

/-- The block of a put that is made. -/
theorem rp_made {w w4 W5 : World} {B Z typ : Int} {A4 : Option Addr} {L c4 base : Nat} {f : Nat → Nat}
    (hW5 : W5 = w4.alloc (.cells #[.int .i64 B, .int .i64 Z, .int .i32 typ, .slice A4 L c4, .int .i64 (8 * (((L : Int) + 15) / 8)), .int .i64 0, .int .i64 0, .int .i64 0, .int .u64 0, .int .u64 0, .slice none 0 0, .nilFunc, .int .i64 0, .int .i64 0, .int .i64 0, .bool false, .int .i64 0] 99))
    (hb : Below w.heap.size w w4) (hbase : w.heap.size ≤ base) (hr : Rg.right B Z) (ht : 1 ≤ typ) (ht2 : typ ≤ 2147483647) (hfew : 8 * (L : Int) ≤ Z) (hf : Mb.IsB f) (ho : Owns base w4 (.slice A4 L c4) (Mb.bl f 0 L)) :
    RpBare W5 (fun k => w.heap.size ≤ k ∧ k < W5.heap.size) w4.heap.size ⟨B.toNat, Z.toNat, typ, f, L, 0, 0, 0, false, .ask, 0⟩ (.slice A4 L c4) := by
  obtain ⟨h1, h2, h3, h4, h5, h6⟩ := hr
  have hB : ((B.toNat : Nat) : Int) = B := Int.toNat_of_nonneg h4
  have hZ : ((Z.toNat : Nat) : Int) = Z := Int.toNat_of_nonneg (by omega)
  have hsz : W5.heap.size = w4.heap.size + 1 := by rw [hW5]; simp
  have hbl : Below w4.heap.size w4 W5 := by rw [hW5]; exact (Below.refl _ _).alloc (Nat.le_refl _) _
  have ho5 := (BytesIn.of_own ho).lt.below hbl
  have hc : L ≤ c4 ∧ c4 ≤ 9223372036854775807 := by
    obtain ⟨_, e | ⟨g, cap, cur, e, _, _, e2, e3, _⟩⟩ := ho
    · obtain ⟨e1, e2⟩ := e
      injection e1 with _ e3 e4
      omega
    · injection e with _ e4 e5
      unfold maxLen at e3
      omega
  refine ⟨⟨Ac.zero, .slice none 0 0, ?_⟩, ⟨hb.size, by omega⟩, ⟨by rw [← h1, hZ], by simp only; omega, by simp only; omega, by simp only; omega, by simp only; omega, ht, ht2, by simp only; omega, hf, by simp only; omega, by simp only; omega, by simp only; omega⟩, ⟨A4, c4, rfl, hc.1, hc.2⟩, ho5.mono fun k hk _ => ⟨⟨by omega, by omega⟩, by omega⟩⟩
  unfold RpBlk
  rw [hW5, Go.Deep.blk_alloc_new]
  have hn : (8 * (((L + 15) / 8 : Nat) : Int)) = 8 * (((L : Int) + 15) / 8) := by omega
  simp only [RpCells, Rs.need, hB, hZ, hn, Ac.zero]
  rfl

set_option maxRecDepth 100000 in
set_option maxHeartbeats 800000 in
theorem rpNewOk (B Z typ : Int) (hB : -9223372036854775808 ≤ B ∧ B ≤ 9223372036854775807) (hZ : -9223372036854775808 ≤ Z ∧ Z ≤ 9223372036854775807) (hok : Rg.right B Z) (htyp : ¬ typ < 1) (htyp2 : typ ≤ 2147483647) (A : Option Addr) (L c : Nat) (hfew : ¬ Z < 8 * (L : Int)) (f : Nat → Nat) (hf : Mb.IsB f) (w : World) (hby : BytesAt w (.slice A L c) (Mb.bl f 0 L)) :
    Calls Tryz.prog 20 #[.agg #[.int .i64 B, .int .i64 Z], .int .i32 typ, .slice A L c] w (NewIs (.live ⟨B.toNat, Z.toNat, typ, f, L, 0, 0, 0, false, .ask, 0⟩) w) := by
  have hb0 := un_below w (.int .i64 B) (.int .i64 Z) 38
  have hx := Go.Deep.blk_alloc_new w (.cells #[.int .i64 B, .int .i64 Z] 38)
  have HBZ := Lib.hid (And.intro hB hZ)
  have HN := Lib.hid hok
  have HY := Lib.hid hby
  have hd : decide (typ < 1) = false := by simpa using htyp
  have hz0 : 64 ≤ Z := hok.2.1
  have hz1 : Z ≤ 8192 := hok.2.2.1
  have hdl : ¬ Z / 8 < (L : Int) := by omega
  have hdd : decide (Z / 8 < (L : Int)) = false := by simpa using hdl
  have HT := Lib.hid (And.intro htyp htyp2)
  have HFE := Lib.hid hfew
  clear hB hZ hok htyp hfew hby htyp2
  go_enter Tryz.func20, Tryz.ntmps20
  go_upto_region 1 with (fail)
  generalize w.alloc (.cells #[.int .i64 B, .int .i64 Z] 38) = W at hb0 hx ⊢
  have x0 : W.cell? ⟨w.heap.size, 0, none⟩ = some (.int .i64 B) := by simp [World.cell?, hx]
  have x1 : W.cell? ⟨w.heap.size, 1, none⟩ = some (.int .i64 Z) := by simp [World.cell?, hx]
  have hlx := (Array.getElem?_eq_some_iff.1 hx).1
  clear hx
  go_upto_region 5 with (go_at_call 23; refine (rpCheck B Z HBZ.out.1 HBZ.out.2 W).mono ?_; rintro e w2 ⟨rfl, hb⟩; rw [if_pos HN.out]; have y0 := (hb.cell (p := ⟨w.heap.size, 0, none⟩) hlx).trans x0; have y1 := (hb.cell (p := ⟨w.heap.size, 1, none⟩) hlx).trans x1)
  have hneed := rp_need_aux L (by omega)
  have HNE := Lib.hid hneed
  have HB2 := Lib.hid (hb0.trans (hb.mono hb0.size))
  have hl2 : w.heap.size < w2.heap.size := lt_of_cell y0
  clear hneed hb hdl hd hdd hz0 hz1 x0 x1 hlx hb0
  go_upto_region 6 with (go_at_call 45; refine (recordSize_any (L : Int) w2).mono ?_; rintro e w3 ⟨rfl, rfl⟩; rw [HNE.out])
  obtain ⟨wq, hwq⟩ : ∃ W, W = w2 := ⟨_, rfl⟩
  go_region_held3 (fun w' => w'.cell? ⟨w.heap.size, 0, none⟩ = some (.int .i64 B) ∧ w'.cell? ⟨w.heap.size, 1, none⟩ = some (.int .i64 Z)) (go_keep)
    (first | (go_at_call 46; refine (clone_sl A L c (Mb.bl f 0 L) w2.drew (HY.out.below HB2.out.drew) (by have := HFE.out; have := HN.out.2.2.1; omega)).mono ?_; rintro e w4 ⟨A4, c4, rfl, ho4, hb4⟩; have z0 := (hb4.cell (p := ⟨w.heap.size, 0, none⟩) (lt_of_cell y0)).trans y0; have z1 := (hb4.cell (p := ⟨w.heap.size, 1, none⟩) (lt_of_cell y0)).trans y1))
  all_goals
    have hq := HN.out
    obtain ⟨W5, hW5⟩ : ∃ W5, W5 = w4.alloc (.cells #[.int .i64 B, .int .i64 Z, .int .i32 typ, .slice A4 L c4, .int .i64 (8 * (((L : Int) + 15) / 8)), .int .i64 0, .int .i64 0, .int .i64 0, .int .u64 0, .int .u64 0, .slice none 0 0, .nilFunc, .int .i64 0, .int .i64 0, .int .i64 0, .bool false, .int .i64 0] 99) := ⟨_, rfl⟩
    have hmade := rp_made (w := w) hW5 (HB2.out.drew.trans (hb4.mono HB2.out.size)) HB2.out.size hq HT.out.1 HT.out.2 HFE.out hf ho4
    rw [← hW5]
    have HM := Lib.hid hmade
    have hbk : Below w.heap.size w W5 := by rw [hW5]; exact (HB2.out.drew.trans (hb4.mono HB2.out.size)).alloc (Nat.le_trans HB2.out.size hb4.size) _
    have HBK := Lib.hid hbk
    clear hW5 hmade hbk
    go_wp2_with (go_at_call 47; refine (rpBegin HM.out).mono ?_; intro e w6 hm; have HMM := Lib.hid hm; obtain ⟨rfl, _⟩ := hm)
    go_ret
    obtain ⟨_, F', hp, ht, hF'⟩ := HMM.out
    refine ⟨_, rfl, ?_, ht.below HBK.out HBK.out.size fun k hk => hk.1⟩
    refine PutAt.wide (F' := fun k => w.heap.size ≤ k ∧ k < w6.heap.size) hp fun k hk => ?_
    · show w.heap.size ≤ k ∧ k < w6.heap.size
      rcases hF' k hk with e | e
      · exact ⟨e.1, Nat.lt_of_lt_of_le e.2 ht.size⟩
      · exact ⟨Nat.le_trans HBK.out.size e.1, e.2⟩

/-- A put is made, of whatever ring, type and bytes. -/
theorem rpNew (B Z typ : Int) (hB : -9223372036854775808 ≤ B ∧ B ≤ 9223372036854775807) (hZ : -9223372036854775808 ≤ Z ∧ Z ≤ 9223372036854775807) (htyp : typ ≤ 2147483647) (A : Option Addr) (L c : Nat) (f : Nat → Nat) (hf : Mb.IsB f) (w : World) (hby : BytesAt w (.slice A L c) (Mb.bl f 0 L)) :
    Calls Tryz.prog 20 #[.agg #[.int .i64 B, .int .i64 Z], .int .i32 typ, .slice A L c] w (NewIs (Pm.new B Z typ f L) w) := by
  unfold Pm.new
  by_cases h1 : Rg.right B Z
  · by_cases h2 : typ < 1
    · rw [if_pos (.inr h2)]
      exact rpNewTyp B Z typ hB hZ h1 h2 A L c w
    · rw [if_neg (fun h => h.elim (fun h => h h1) h2)]
      by_cases h3 : Z < 8 * (L : Int)
      · rw [if_pos h3]
        exact rpNewLong B Z typ hB hZ h1 h2 A L c h3 w
      · rw [if_neg h3]
        exact rpNewOk B Z typ hB hZ h1 h2 htyp A L c h3 f hf w hby
  · rw [if_pos (.inl h1)]
    exact rpNewBad B Z typ hB hZ h1 A L c w
end Go.Proofs.YtikcnioooihncaaGreat
namespace Go.Proofs.YtikcnioooihncaaGreat
open Go.RowKit

/-- A get: one that goes on, or one that never began. -/
inductive Gm where
  | live (s : Gs) | dead
namespace Gm
def next : Gm → Option Ac
  | .live s => s.next
  | .dead => none
def take : Gm → An → Gm
  | .live s, x => .live (s.take x)
  | .dead, _ => .dead
def busy : Gm → Bool
  | .live s => s.next.isSome
  | .dead => false
def size : Gm → Int
  | .live s => s.Z
  | .dead => 0
def fault : Gm → Int
  | .live s => s.er
  | .dead => 0
def done : Gm → Int
  | .live s => s.dn
  | .dead => 0
def told : Gm → List (Int × List Int)
  | .live s => s.ms
  | .dead => []
def Fits : Gm → Nat → Prop
  | .live s, n => s.Fits n
  | .dead, _ => True
/-- How it ended: bytes, an error. -/
def result (m : Gm) : Int × Int := if m.size = 0 then (0, 1) else if m.busy = true then (0, 10) else if m.fault = 0 then (m.done, 0) else (0, m.fault)
/-- The one that is made. -/
def new (B Z most : Int) : Gm := if Rg.right B Z ∧ 1 ≤ most then .live ⟨B.toNat, Z.toNat, most, 0, 0, [], 0, .head⟩ else .dead
end Gm

/-- A get stands in the blocks F, its own block is g. -/
def GmAt (w : World) (F : Nat → Prop) (g : Nat) : Gm → Prop
  | .live s => GetAt w F g s
  | .dead => F g ∧ GtBlk w g ⟨0, 0, 0, 0, 0, [], 0, .fin⟩ Ac.zero (.slice none 0 0) .nilFunc (.slice none 0 0)
/-- What a call on a get leaves. -/
def GmMoved (F : Nat → Prop) (g : Nat) (m : Gm) (w : World) (e : Ending) (w' : World) : Prop :=
  e = .returned (.tuple #[]) ∧ ∃ F', GmAt w' F' g m ∧ Touch F w w' ∧ ∀ k, F' k → F k ∨ (w.heap.size ≤ k ∧ k < w'.heap.size)

theorem GThen.keep {w w' : World} {F F' : Nat → Prop} {g : Nat} {s : Gs} {th mv : Value} (h : GThen w F g s th mv) (hs : w.heap.size ≤ w'.heap.size) (hb : ∀ k, F k → k ≠ g → w'.heap[k]? = w.heap[k]?) (hF : ∀ k, F k → F' k) : GThen w' F' g s th mv := by
  unfold GThen at h ⊢
  cases hph : s.ph with
  | head => rw [hph] at h; obtain ⟨a, e, h1⟩ := h; exact ⟨a, e, (h1.keep hb).mono hF⟩
  | look => rw [hph] at h; obtain ⟨a, e, h1⟩ := h; exact ⟨a, e, (h1.keep hb).mono hF⟩
  | read typ sz n d ys =>
    rw [hph] at h
    obtain ⟨em, es, eo, er, ec, gc, base, top, v, on, e, h1, h2, h3, h4, h5, h6, h7, h8⟩ := h
    exact ⟨em, es, eo, er, ec, gc, base, top, v, on, e, (h1.keep hb).mono hF, (h2.keep hb).mono hF, (h3.keep hb).mono hF, (h4.keep hb).mono hF, (h5.keep hb).mono hF, h6.keep (fun k hk hkg => hb k hk.1 hkg) fun k hk => ⟨hF k hk.1, hk.2⟩,
      h7.keep hs (fun k k1 k2 => hb k (h8 k (.inl ⟨k1, k2⟩)).1 (h8 k (.inl ⟨k1, k2⟩)).2.1) fun k k1 => hb k (h8 k (.inr k1)).1 (h8 k (.inr k1)).2.1, fun k hk => ⟨hF k (h8 k hk).1, (h8 k hk).2⟩⟩
  | zero d =>
    rw [hph] at h
    obtain ⟨em, es, eo, a, gc, base, top, v, e, h1, h2, h3, h4, h5, h6⟩ := h
    exact ⟨em, es, eo, a, gc, base, top, v, e, (h1.keep hb).mono hF, (h2.keep hb).mono hF, (h3.keep hb).mono hF, (h4.keep hb).mono hF,
      h5.keep hs (fun k k1 k2 => hb k (h6 k (.inl ⟨k1, k2⟩)).1 (h6 k (.inl ⟨k1, k2⟩)).2.1) fun k k1 => hb k (h6 k (.inr k1)).1 (h6 k (.inr k1)).2.1, fun k hk => ⟨hF k (h6 k hk).1, (h6 k hk).2⟩⟩
  | set => rw [hph] at h; exact h
  | fin => rw [hph] at h; exact h

theorem GmAt.keep {w w' : World} {F : Nat → Prop} {g : Nat} {m : Gm} (h : GmAt w F g m) (hs : w.heap.size ≤ w'.heap.size) (hb : ∀ k, F k → w'.heap[k]? = w.heap[k]?) : GmAt w' F g m := by
  cases m with
  | live s =>
    obtain ⟨M, a, av, th, mv, h1, h2, h3, h4, h5, h6, h7, h8⟩ := h
    exact ⟨M, a, av, th, mv, h1.of_block (hb g h2), h2, h3, h4, h5.keep hs (fun k hk _ => hb k hk.1) fun _ hk => hk, h6.keep hs fun k hk => hb k (h7 k hk).1, h7, fun b hb' => ⟨(h8 b hb').1, (h8 b hb').2.keep hs fun k hk _ => hb k hk.1⟩⟩
  | dead => exact ⟨h.1, h.2.of_block (hb g h.1)⟩
theorem GmAt.own {w : World} {F : Nat → Prop} {g : Nat} {m : Gm} (h : GmAt w F g m) : F g := by
  cases m with
  | live s =>
    obtain ⟨M, a, av, th, mv, h1, h2, _⟩ := h
    exact h2
  | dead => exact h.1

/-- Something goes on where, and only where, there is a next access. -/
theorem GThen.is {w : World} {F : Nat → Prop} {g : Nat} {s : Gs} {th mv : Value} (h : GThen w F g s th mv) : (s.next = none ∧ th = .nilFunc) ∨ (s.next ≠ none ∧ ∃ k rc caps, th = .func (.func k) rc caps) := by
  unfold GThen at h
  unfold Gs.next
  cases hph : s.ph with
  | fin => rw [hph] at h; exact .inl ⟨rfl, h⟩
  | set => rw [hph] at h; exact .inr ⟨by simp, _, _, _, h⟩
  | head => rw [hph] at h; obtain ⟨_, e, _⟩ := h; exact .inr ⟨by simp, _, _, _, e⟩
  | look => rw [hph] at h; obtain ⟨_, e, _⟩ := h; exact .inr ⟨by simp, _, _, _, e⟩
  | read typ sz n d ys => rw [hph] at h; obtain ⟨_, _, _, _, _, _, _, _, _, _, e, _⟩ := h; exact .inr ⟨by simp, _, _, _, e⟩
  | zero d => rw [hph] at h; obtain ⟨_, _, _, _, _, _, _, _, e, _⟩ := h; exact .inr ⟨by simp, _, _, _, e⟩

set_option maxRecDepth 100000 in
set_option maxHeartbeats 800000 in
theorem getTakeNil (V : Nat) (D : Bool) (A : Option Addr) (l c : Nat) (w : World) :
    Calls Tryz.prog 8 #[.pointer none, .agg #[.int .u64 V, .bool D, .slice A l c]] w (Made (.tuple #[]) w) := by
  have HW := Lib.hid ((Below.refl w.heap.size w).alloc (Nat.le_refl _) (.cells #[.int .u64 V, .bool D, .slice A l c] 25))
  go_enter Tryz.func8, Tryz.ntmps8
  go_upto_region 1 with (fail)
  generalize w.alloc (.cells #[.int .u64 V, .bool D, .slice A l c] 25) = W at HW ⊢
  go_wp2
  go_end0
  exact ⟨rfl, HW.out⟩

set_option maxRecDepth 100000 in
set_option maxHeartbeats 800000 in
theorem getTake {w : World} {F : Nat → Prop} {g : Nat} {m : Gm} (h : GmAt w F g m) (hF : ∀ k, F k → k < w.heap.size) (x : An) (A : Option Addr) (l c : Nat) (hB : BytesAt w (.slice A l c) x.bs) (hfit : m.Fits x.bs.length) :
    Calls Tryz.prog 8 #[.pointer (some ⟨g, 0, none⟩), .agg #[.int .u64 x.V, .bool x.D, .slice A l c]] w (GmMoved F g (m.take x) w) := by
  have hb0 := (Below.refl w.heap.size w).alloc (Nat.le_refl _) (.cells #[.int .u64 x.V, .bool x.D, .slice A l c] 25)
  obtain ⟨x0, x1, x2⟩ := rp_ans_box w x.V x.D A l c
  have HW := Lib.hid hb0
  have HC : Hid (∀ W, Below w.heap.size w W → Calls Tryz.prog 27 #[.pointer (some ⟨g, 3, none⟩), .agg #[.int .u64 x.V, .bool x.D, .slice A l c]] W (GmMoved F g (m.take x) W)) := Lib.hid fun W hW => by
    have hk := h.keep hW.size fun k hk => hW.block k (hF k hk)
    cases m with
    | live s => exact (gtStepsTake hk (fun k hk => Nat.lt_of_lt_of_le (hF k hk) hW.size) x A l c (hB.below hW) hfit).mono fun e w' hm => hm
    | dead =>
      refine (stTakeNo hk.2.c9 x.V x.D A l c).mono ?_
      rintro e w' ⟨rfl, hb⟩
      exact ⟨rfl, F, ⟨hk.1, hk.2.below hb⟩, Touch.of_below hb, fun k hk => .inl hk⟩
  have hng : ¬ F w.heap.size := fun e => Nat.lt_irrefl _ (hF _ e)
  clear h hF hb0 hB hfit
  go_enter Tryz.func8, Tryz.ntmps8
  go_upto_region 1 with (fail)
  generalize w.alloc (.cells #[.int .u64 x.V, .bool x.D, .slice A l c] 25) = W at HW x0 x1 x2 ⊢
  go_upto_region 2 with (fail)
  go_region_held3 (fun w' => w'.cell? ⟨w.heap.size, 0, none⟩ = some (.int .u64 x.V) ∧ w'.cell? ⟨w.heap.size, 1, none⟩ = some (.bool x.D) ∧ w'.cell? ⟨w.heap.size, 2, none⟩ = some (.slice A l c)) (go_keep)
    (first | (go_at_call 27; refine (HC.out W.drew HW.out.drew).mono ?_; intro e w3 hm; have HM := Lib.hid hm; obtain ⟨rfl, F', hp, ht, hF'⟩ := hm; have y0 := (ht.cell (p := ⟨w.heap.size, 0, none⟩) (lt_of_cell x0) hng).trans x0; have y1 := (ht.cell (p := ⟨w.heap.size, 1, none⟩) (lt_of_cell x0) hng).trans x1; have y2 := (ht.cell (p := ⟨w.heap.size, 2, none⟩) (lt_of_cell x0) hng).trans x2))
  all_goals
    go_wp2
    go_end0
    exact ⟨rfl, F', hp, (Touch.of_below HW.out.drew).trans ht, fun k hk => (hF' k hk).imp id fun h => ⟨Nat.le_trans HW.out.size h.1, h.2⟩⟩

set_option maxRecDepth 100000 in
set_option maxHeartbeats 800000 in
theorem getNextNil (w : World) : Calls Tryz.prog 9 #[.pointer none] w (NextTold none w) := by
  have HA := AccNew.made w
  have HW := Lib.hid ((Below.refl w.heap.size w).alloc (Nat.le_refl _) (.cells #[.int .i64 0, .int .i64 0, .int .i64 0, .int .u64 0, .int .u64 0, .slice none 0 0] 30))
  go_enter Tryz.func9, Tryz.ntmps9
  go_upto_region 1 with (fail)
  generalize w.alloc (.cells #[.int .i64 0, .int .i64 0, .int .i64 0, .int .u64 0, .int .u64 0, .slice none 0 0] 30) = W at HA HW ⊢
  obtain ⟨a0, a1, a2, a3, a4, a5, f0, f1, f2, f3, f4, f5, hbk⟩ := HA
  go_wp2
  refine bodyPost_ret (v := .tuple #[.agg #[.int .i64 0, .int .i64 0, .int .i64 0, .int .u64 0, .int .u64 0, .slice none 0 0], .bool false]) (by simp [results, Tryz.results9, go_sem, a0, a1, a2, a3, a4, a5]) rfl ?_
  exact ⟨six_below HW.out (Nat.le_refl _) _ _ _ _ _ _, rfl⟩

set_option maxRecDepth 100000 in
theorem getResultNil (w : World) : Calls Tryz.prog 10 #[.pointer none] w (fun e w' => e = .returned (.tuple #[.int .i64 0, .int .i64 1]) ∧ w = w') := by
  go_enter Tryz.func10, Tryz.ntmps10
  go_wp2
  refine bodyPost_ret (v := .tuple #[.int .i64 0, .int .i64 1]) (by simp [results, Tryz.results10, go_sem]) rfl ?_
  exact ⟨rfl, rfl⟩
end Go.Proofs.YtikcnioooihncaaGreat
namespace Go.Proofs.YtikcnioooihncaaGreat
open Go.RowKit

theorem Gm.fine {w : World} {F : Nat → Prop} {g : Nat} {m : Gm} (h : GmAt w F g m) {a : Ac} (ha : m.next = some a) : a.Fine := by
  cases m with
  | dead => cases ha
  | live s =>
    obtain ⟨M, a0, av, th, mv, h1, h2, ok, h4, h5, _⟩ := h
    have okr := ok.rg
    have z1 := okr.z1
    have b1 := okr.b1
    have dn := ok.dn0
    have hpl := okr.place_in s.h
    have num : ∀ k : Int, 0 ≤ k → k ≤ 16 → -9223372036854775808 ≤ Rg.num s.B s.Z k ∧ Rg.num s.B s.Z k ≤ 9223372036854775807 := fun k _ _ => by unfold Rg.num; omega
    have spot : 0 ≤ Rg.spot s.B s.Z s.h ∧ Rg.spot s.B s.Z s.h ≤ 140000 := by unfold Rg.spot; omega
    have hat : 0 ≤ s.at_ ∧ s.at_ ≤ 150000 := by unfold Gs.at_; omega
    have mk : ∀ (K P N : Int) (V U : Nat), (0 ≤ K ∧ K ≤ 8) → (-9223372036854775808 ≤ P ∧ P ≤ 9223372036854775807) → (0 ≤ N ∧ N ≤ 8) → V < 18446744073709551616 → U < 18446744073709551616 → Ac.Fine ⟨K, P, N, V, U, []⟩ := fun K P N V U h1 h2 h3 h4 h5 => ⟨h4, h5, ⟨by show _ ≤ K; omega, by show K ≤ _; omega⟩, h2, ⟨by show _ ≤ N; omega, by show N ≤ _; omega⟩, Bys.nil, by show (0 : Nat) ≤ _; omega⟩
    have un : ∀ x : Int, Rs.un x < 18446744073709551616 := fun x => by unfold Rs.un; omega
    have ha' : s.next = some a := ha
    unfold Gs.next at ha'
    unfold Gs.PhOk at h4
    cases hph : s.ph with
    | fin => rw [hph] at ha'; cases ha'
    | head => rw [hph] at ha'; injection ha' with e; subst e; exact mk _ _ _ _ _ (by omega) (num _ (by omega) (by omega)) (by omega) (by omega) (by omega)
    | look => rw [hph] at ha'; injection ha' with e; subst e; exact mk _ _ _ _ _ (by omega) (by omega) (by omega) (by omega) (by omega)
    | set => rw [hph] at ha'; injection ha' with e; subst e; exact mk _ _ _ _ _ (by omega) (num _ (by omega) (by omega)) (by omega) (un _) (by omega)
    | read typ sz n d ys =>
      rw [hph] at ha' h4
      have hn := Cy.nx_le (n - d)
      obtain ⟨k1, k2, k3, k4⟩ := h4
      unfold Gs.left at k3
      injection ha' with e
      subst e
      exact mk _ _ _ _ _ (by omega) (by omega) (by omega) (by omega) (by omega)
    | zero d =>
      rw [hph] at ha' h4
      have hn := Cy.nx_le (s.dn - d)
      have hd : d < s.dn := h4
      injection ha' with e
      subst e
      refine ⟨by show (0 : Nat) < _; omega, by show (0 : Nat) < _; omega, ⟨by show _ ≤ (6 : Int); omega, by show (6 : Int) ≤ _; omega⟩, ⟨by show _ ≤ Rg.spot s.B s.Z s.h + (d : Int); omega, by show Rg.spot s.B s.Z s.h + (d : Int) ≤ _; omega⟩, ⟨by show _ ≤ ((Cy.nx (s.dn - d) : Nat) : Int); omega, by show ((Cy.nx (s.dn - d) : Nat) : Int) ≤ _; omega⟩, Bys.bl (m := fun _ => 0) Mb.zero_isB d (Cy.nx (s.dn - d)), ?_⟩
      show (Mb.bl (fun _ => 0) d (Cy.nx (s.dn - d))).length ≤ _
      rw [Mb.bl_length]
      omega

set_option maxRecDepth 100000 in
set_option maxHeartbeats 800000 in
theorem getNext {w : World} {F : Nat → Prop} {g : Nat} {m : Gm} (h : GmAt w F g m) (hF : ∀ k, F k → k < w.heap.size) :
    Calls Tryz.prog 9 #[.pointer (some ⟨g, 0, none⟩)] w (NextTold m.next w) := by
  have HA := Lib.hid (AccNew.made w)
  have HW := Lib.hid ((Below.refl w.heap.size w).alloc (Nat.le_refl _) (.cells #[.int .i64 0, .int .i64 0, .int .i64 0, .int .u64 0, .int .u64 0, .slice none 0 0] 30))
  have HC : Hid (∀ W, Below w.heap.size w W → Calls Tryz.prog 28 #[.pointer (some ⟨g, 3, none⟩)] W (NextTold m.next W)) := Lib.hid fun W hW => by
    have hk := h.keep hW.size fun k hk => hW.block k (hF k hk)
    have hfine := fun a (ha : m.next = some a) => Gm.fine hk ha
    cases m with
    | live s =>
      obtain ⟨M, a, av, th, mv, h1, h2, h3, h4, h5, _, _, h6⟩ := hk
      show Calls _ _ _ _ (NextTold s.next W)
      rcases h5.is with ⟨e1, e2⟩ | ⟨e1, k, rc, caps, e2⟩
      · rw [e1]
        have := h1.c9
        rw [e2] at this
        exact stNextNo this
      · cases hn : s.next with
        | none => exact absurd hn e1
        | some b =>
          obtain ⟨e3, hbi⟩ := h6 b hn
          subst e3
          subst e2
          obtain ⟨Av, cv, eav, hbv⟩ := hbi
          subst eav
          exact stNextYes h1.st (BytesIn.bytes ⟨Av, cv, rfl, hbv⟩) (hfine a hn).few
    | dead => exact stNextNo hk.2.c9
  generalize m.next = o at HC ⊢
  clear h hF
  go_enter Tryz.func9, Tryz.ntmps9
  go_upto_region 1 with (fail)
  generalize w.alloc (.cells #[.int .i64 0, .int .i64 0, .int .i64 0, .int .u64 0, .int .u64 0, .slice none 0 0] 30) = W at HA HW ⊢
  cases o with
  | none =>
    go_wp2_with (go_at_call 28; refine (HC.out W HW.out).mono ?_; rintro e w2 ⟨hb, rfl⟩; obtain ⟨a0, a1, a2, a3, a4, a5, f0, f1, f2, f3, f4, f5, hbk⟩ := HA.out.later hb)
    refine bodyPost_ret (v := .tuple #[.agg #[.int .i64 0, .int .i64 0, .int .i64 0, .int .u64 0, .int .u64 0, .slice none 0 0], .bool false]) (by simp [results, Tryz.results9, go_sem, a0, a1, a2, a3, a4, a5]) rfl ?_
    exact ⟨six_below (HW.out.trans (hb.mono HW.out.size)) (Nat.le_refl _) _ _ _ _ _ _, rfl⟩
  | some a =>
    go_wp2_with (go_at_call 28; refine (HC.out W HW.out).mono ?_; rintro e w2 ⟨hb, A, l, c, rfl, ho⟩; obtain ⟨a0, a1, a2, a3, a4, a5, f0, f1, f2, f3, f4, f5, hbk⟩ := HA.out.later hb; have HO := Lib.hid ho)
    refine bodyPost_ret (v := .tuple #[.agg #[.int .i64 a.K, .int .i64 a.P, .int .i64 a.N, .int .u64 a.V, .int .u64 a.U, .slice A l c], .bool true]) (by simp [results, Tryz.results9, go_sem, a0, a1, a2, a3, a4, a5]) rfl ?_
    exact ⟨six_below (HW.out.trans (hb.mono HW.out.size)) (Nat.le_refl _) _ _ _ _ _ _, A, l, c, rfl, (six_own HO.out (Array.getElem?_eq_some_iff.1 HA.out.blk).1 _ _ _ _ _ _).down HW.out.size⟩
end Go.Proofs.YtikcnioooihncaaGreat
namespace Go.Proofs.YtikcnioooihncaaGreat
open Go.RowKit

set_option maxRecDepth 100000 in
set_option maxHeartbeats 800000 in
theorem getResult {w : World} {F : Nat → Prop} {g : Nat} {m : Gm} (h : GmAt w F g m) : Calls Tryz.prog 10 #[.pointer (some ⟨g, 0, none⟩)] w (fun e w' => e = .returned (.tuple #[.int .i64 m.result.1, .int .i64 m.result.2]) ∧ ∃ j, w' = w.drewN j) := by
  have hc : w.cell? ⟨g, 1, none⟩ = some (.int .i64 m.size) ∧ w.cell? ⟨g, 11, none⟩ = some (.int .i64 m.done) ∧ w.cell? ⟨g, 13, none⟩ = some (.int .i64 m.fault) ∧
      Calls Tryz.prog 29 #[.pointer (some ⟨g, 3, none⟩)] w (fun e w' => e = .returned (.bool m.busy) ∧ w = w') := by
    cases m with
    | live s =>
      obtain ⟨M, a, av, th, mv, h1, _, _, _, h7, _⟩ := h
      refine ⟨h1.c1, h1.c11, h1.c13, ?_⟩
      rcases h7.is with ⟨e1, e2⟩ | ⟨e1, k, rc, caps, e2⟩
      · have h11 := h1.c9
        rw [e2] at h11
        have hb : (Gm.live s).busy = false := by show s.next.isSome = false; rw [e1]; rfl
        rw [hb]
        exact stBusyNo h11
      · have h11 := h1.c9
        rw [e2] at h11
        have hb : (Gm.live s).busy = true := by
          show s.next.isSome = true
          cases hn : s.next with
          | none => exact absurd hn e1
          | some b => rfl
        rw [hb]
        exact stBusyYes k rc caps h11
    | dead => exact ⟨h.2.c1, h.2.c11, h.2.c13, stBusyNo h.2.c9⟩
  obtain ⟨c1, c14, c16, hB⟩ := hc
  unfold Gm.result
  generalize m.size = Z at c1 ⊢
  generalize m.done = p at c14 ⊢
  generalize m.fault = er at c16 ⊢
  generalize m.busy = bs at hB ⊢
  have HB := Lib.hid hB
  clear h hB
  by_cases hz : Z = 0
  · subst hz
    rw [if_pos rfl]
    go_enter Tryz.func10, Tryz.ntmps10
    go_wp2
    refine bodyPost_ret (v := .tuple #[.int .i64 0, .int .i64 1]) (by simp [results, Tryz.results10, go_sem]) rfl ?_
    exact ⟨rfl, 0, rfl⟩
  · rw [if_neg hz]
    have hd : decide (Z = 0) = false := by simpa using hz
    cases bs with
    | true =>
      rw [if_pos rfl]
      go_enter Tryz.func10, Tryz.ntmps10
      go_wp2_with (go_at_call 29; refine HB.out.mono ?_; rintro e w2 ⟨rfl, rfl⟩)
      refine bodyPost_ret (v := .tuple #[.int .i64 0, .int .i64 10]) (by simp [results, Tryz.results10, go_sem]) rfl ?_
      exact ⟨rfl, 0, rfl⟩
    | false =>
      rw [if_neg (by decide)]
      by_cases he : er = 0
      · subst he
        rw [if_pos rfl]
        go_enter Tryz.func10, Tryz.ntmps10
        go_wp2_with (go_at_call 29; refine HB.out.mono ?_; rintro e w2 ⟨rfl, rfl⟩)
        refine bodyPost_ret (v := .tuple #[.int .i64 p, .int .i64 0]) (by simp [results, Tryz.results10, go_sem]) rfl ?_
        exact ⟨rfl, 0, rfl⟩
      · rw [if_neg he]
        have hd2 : decide (er = 0) = false := by simpa using he
        go_enter Tryz.func10, Tryz.ntmps10
        go_upto_region 6 with (go_at_call 29; refine HB.out.mono ?_; rintro e w2 ⟨rfl, rfl⟩)
        go_quiet (fail)
        go_wp2
        refine bodyPost_ret (v := .tuple #[.int .i64 0, .int .i64 er]) (by simp [results, Tryz.results10, go_sem]) rfl ?_
        exact ⟨rfl, _, rfl⟩
end Go.Proofs.YtikcnioooihncaaGreat
namespace Go.Proofs.YtikcnioooihncaaGreat
open Go.RowKit

theorem GmAt.wide {w : World} {F F' : Nat → Prop} {g : Nat} {m : Gm} (h : GmAt w F g m) (hF : ∀ k, F k → F' k) : GmAt w F' g m := by
  cases m with
  | live s =>
    obtain ⟨M, a, av, th, mv, h1, h2, h3, h4, h5, h6, h7, h8⟩ := h
    exact ⟨M, a, av, th, mv, h1, hF g h2, h3, h4, h5.keep (Nat.le_refl _) (fun k _ _ => rfl) fun k hk => ⟨hF k hk.1, hk.2⟩, h6, fun k hk => ⟨hF k (h7 k hk).1, (h7 k hk).2⟩, fun b hb' => ⟨(h8 b hb').1, (h8 b hb').2.mono fun k hk _ => ⟨hF k hk.1, hk.2⟩⟩⟩
  | dead => exact ⟨hF g h.1, h.2⟩

/-- The call made a get in new memory. -/
def GNewIs (m : Gm) (w : World) (e : Ending) (w' : World) : Prop :=
  ∃ g, e = .returned (.pointer (some ⟨g, 0, none⟩)) ∧ GmAt w' (fun k => w.heap.size ≤ k ∧ k < w'.heap.size) g m ∧ Below w.heap.size w w'

set_option maxRecDepth 100000 in
set_option maxHeartbeats 800000 in
theorem gtNewBad (B Z most : Int) (hB : -9223372036854775808 ≤ B ∧ B ≤ 9223372036854775807) (hZ : -9223372036854775808 ≤ Z ∧ Z ≤ 9223372036854775807) (hbad : ¬ Rg.right B Z) (w : World) :
    Calls Tryz.prog 11 #[.agg #[.int .i64 B, .int .i64 Z], .int .i64 most] w (GNewIs .dead w) := by
  have hb0 := un_below w (.int .i64 B) (.int .i64 Z) 38
  have hx := Go.Deep.blk_alloc_new w (.cells #[.int .i64 B, .int .i64 Z] 38)
  have HBZ := Lib.hid (And.intro hB hZ)
  have HN := Lib.hid hbad
  clear hB hZ hbad
  go_enter Tryz.func11, Tryz.ntmps11
  go_upto_region 1 with (fail)
  generalize w.alloc (.cells #[.int .i64 B, .int .i64 Z] 38) = W at hb0 hx ⊢
  have x0 : W.cell? ⟨w.heap.size, 0, none⟩ = some (.int .i64 B) := by simp [World.cell?, hx]
  have x1 : W.cell? ⟨w.heap.size, 1, none⟩ = some (.int .i64 Z) := by simp [World.cell?, hx]
  clear hx
  go_wp2_with (go_at_call 23; refine (rpCheck B Z HBZ.out.1 HBZ.out.2 W).mono ?_; rintro e w2 ⟨rfl, hb⟩; rw [if_neg HN.out])
  go_ret
  have hw2 := hb0.trans (hb.mono hb0.size)
  exact ⟨w2.heap.size, rfl, ⟨⟨hw2.size, by simp⟩, Go.Deep.blk_alloc_new _ _⟩, hw2.alloc hw2.size _⟩

set_option maxRecDepth 100000 in
set_option maxHeartbeats 800000 in
theorem gtNewFew (B Z most : Int) (hB : -9223372036854775808 ≤ B ∧ B ≤ 9223372036854775807) (hZ : -9223372036854775808 ≤ Z ∧ Z ≤ 9223372036854775807) (hok : Rg.right B Z) (hm : most < 1) (w : World) :
    Calls Tryz.prog 11 #[.agg #[.int .i64 B, .int .i64 Z], .int .i64 most] w (GNewIs .dead w) := by
  have hb0 := un_below w (.int .i64 B) (.int .i64 Z) 38
  have hx := Go.Deep.blk_alloc_new w (.cells #[.int .i64 B, .int .i64 Z] 38)
  have HBZ := Lib.hid (And.intro hB hZ)
  have HN := Lib.hid hok
  have hd : decide (most < 1) = true := decide_eq_true hm
  clear hB hZ hok
  go_enter Tryz.func11, Tryz.ntmps11
  go_upto_region 1 with (fail)
  generalize w.alloc (.cells #[.int .i64 B, .int .i64 Z] 38) = W at hb0 hx ⊢
  have x0 : W.cell? ⟨w.heap.size, 0, none⟩ = some (.int .i64 B) := by simp [World.cell?, hx]
  have x1 : W.cell? ⟨w.heap.size, 1, none⟩ = some (.int .i64 Z) := by simp [World.cell?, hx]
  clear hx
  go_wp2_with (go_at_call 23; refine (rpCheck B Z HBZ.out.1 HBZ.out.2 W).mono ?_; rintro e w2 ⟨rfl, hb⟩; rw [if_pos HN.out])
  go_ret
  have hw2 := hb0.trans (hb.mono hb0.size)
  exact ⟨w2.heap.size, rfl, ⟨⟨hw2.size, by simp⟩, Go.Deep.blk_alloc_new _ _⟩, hw2.alloc hw2.size _⟩

theorem gt_made {w w4 W5 : World} {B Z most : Int} (hW5 : W5 = w4.alloc (.cells #[.int .i64 B, .int .i64 Z, .int .i64 most, .int .i64 0, .int .i64 0, .int .i64 0, .int .u64 0, .int .u64 0, .slice none 0 0, .nilFunc, .int .i64 0, .int .i64 0, .slice none 0 0, .int .i64 0] 73))
    (hb : Below w.heap.size w w4) (hr : Rg.right B Z) (hm : 1 ≤ most ∧ most ≤ 9223372036854775807) : GtBare W5 (fun k => w.heap.size ≤ k ∧ k < W5.heap.size) w4.heap.size ⟨B.toNat, Z.toNat, most, 0, 0, [], 0, .head⟩ (fun _ => False) (.slice none 0 0) := by
  obtain ⟨h1, h2, h3, h4, h5, h6⟩ := hr
  have hB : ((B.toNat : Nat) : Int) = B := Int.toNat_of_nonneg h4
  have hZ : ((Z.toNat : Nat) : Int) = Z := Int.toNat_of_nonneg (by omega)
  have hsz : W5.heap.size = w4.heap.size + 1 := by rw [hW5]; simp
  have okr : Rg.Ok B.toNat Z.toNat := ⟨by rw [← h1, hZ], by omega, by omega, by omega, by omega⟩
  have hpl := okr.place_in 0
  refine ⟨⟨Ac.zero, .slice none 0 0, ?_⟩, ⟨hb.size, by omega⟩, ⟨okr, ?_, hm, by simp only; omega, by simp⟩, ⟨[], rfl, ⟨rfl, .inl ⟨rfl, rfl⟩⟩, fun k hk => (by cases hk), fun i hi => absurd hi (Nat.not_lt_zero _)⟩, fun k hk => False.elim hk⟩
  · unfold GtBlk
    rw [hW5, Go.Deep.blk_alloc_new]
    simp only [GtCells, hB, hZ, Ac.zero]
    rfl
  · show ((0 : Nat) : Int) ≤ ((Z.toNat : Nat) : Int) - Rg.place Z.toNat 0
    omega

set_option maxRecDepth 100000 in
set_option maxHeartbeats 800000 in
theorem gtNewOk (B Z most : Int) (hB : -9223372036854775808 ≤ B ∧ B ≤ 9223372036854775807) (hZ : -9223372036854775808 ≤ Z ∧ Z ≤ 9223372036854775807) (hok : Rg.right B Z) (hm : 1 ≤ most ∧ most ≤ 9223372036854775807) (w : World) :
    Calls Tryz.prog 11 #[.agg #[.int .i64 B, .int .i64 Z], .int .i64 most] w (GNewIs (.live ⟨B.toNat, Z.toNat, most, 0, 0, [], 0, .head⟩) w) := by
  have hb0 := un_below w (.int .i64 B) (.int .i64 Z) 38
  have hx := Go.Deep.blk_alloc_new w (.cells #[.int .i64 B, .int .i64 Z] 38)
  have HBZ := Lib.hid (And.intro hB hZ)
  have HN := Lib.hid hok
  have HMO := Lib.hid hm
  have hd : decide (most < 1) = false := decide_eq_false (by omega)
  clear hB hZ hok hm
  go_enter Tryz.func11, Tryz.ntmps11
  go_upto_region 1 with (fail)
  generalize w.alloc (.cells #[.int .i64 B, .int .i64 Z] 38) = W at hb0 hx ⊢
  have x0 : W.cell? ⟨w.heap.size, 0, none⟩ = some (.int .i64 B) := by simp [World.cell?, hx]
  have x1 : W.cell? ⟨w.heap.size, 1, none⟩ = some (.int .i64 Z) := by simp [World.cell?, hx]
  have hlx := (Array.getElem?_eq_some_iff.1 hx).1
  clear hx
  go_upto_region 4 with (go_at_call 23; refine (rpCheck B Z HBZ.out.1 HBZ.out.2 W).mono ?_; rintro e w2 ⟨rfl, hb⟩; rw [if_pos HN.out]; have y0 := (hb.cell (p := ⟨w.heap.size, 0, none⟩) hlx).trans x0; have y1 := (hb.cell (p := ⟨w.heap.size, 1, none⟩) hlx).trans x1)
  have hw2 := hb0.trans (hb.mono hb0.size)
  obtain ⟨W5, hW5⟩ : ∃ W5, W5 = w2.alloc (.cells #[.int .i64 B, .int .i64 Z, .int .i64 most, .int .i64 0, .int .i64 0, .int .i64 0, .int .u64 0, .int .u64 0, .slice none 0 0, .nilFunc, .int .i64 0, .int .i64 0, .slice none 0 0, .int .i64 0] 73) := ⟨_, rfl⟩
  have hmade := gt_made (w := w) hW5 hw2 HN.out HMO.out
  have hbk : Below w.heap.size w W5 := by rw [hW5]; exact hw2.alloc hw2.size _
  rw [← hW5]
  have HM := Lib.hid (gtBegin hmade rfl)
  have HBK := Lib.hid hbk
  have hgw := hw2.size
  clear hW5 hmade hbk hb0 hb y0 y1 hw2 hlx x0 x1
  go_wp2_with (go_at_call 30; refine HM.out.mono ?_; intro e w6 hm; have HMM := Lib.hid hm; obtain ⟨rfl, _⟩ := hm)
  go_ret
  obtain ⟨_, F', hp, ht, hF'⟩ := HMM.out
  refine ⟨_, rfl, ?_, ht.below HBK.out HBK.out.size fun k hk => hk.1⟩
  refine GmAt.wide (m := .live _) hp fun k hk => ?_
  rcases hF' k hk with e | e
  · exact ⟨e.1, Nat.lt_of_lt_of_le e.2 ht.size⟩
  · exact ⟨Nat.le_trans HBK.out.size e.1, e.2⟩

theorem gtNew (B Z most : Int) (hB : -9223372036854775808 ≤ B ∧ B ≤ 9223372036854775807) (hZ : -9223372036854775808 ≤ Z ∧ Z ≤ 9223372036854775807) (hm : most ≤ 9223372036854775807) (w : World) :
    Calls Tryz.prog 11 #[.agg #[.int .i64 B, .int .i64 Z], .int .i64 most] w (GNewIs (Gm.new B Z most) w) := by
  unfold Gm.new
  by_cases h1 : Rg.right B Z
  · by_cases h2 : 1 ≤ most
    · rw [if_pos ⟨h1, h2⟩]
      exact gtNewOk B Z most hB hZ h1 ⟨h2, hm⟩ w
    · rw [if_neg fun e => h2 e.2]
      exact gtNewFew B Z most hB hZ h1 (by omega) w
  · rw [if_neg fun e => h1 e.1]
    exact gtNewBad B Z most hB hZ h1 w
end Go.Proofs.YtikcnioooihncaaGreat
namespace Go.Proofs.YtikcnioooihncaaGreat
open Go.RowKit

/-- What is being read has no more than eight bytes a step. -/
def Gs.Short (s : Gs) : Prop := ∀ typ sz n d ys, s.ph = .read typ sz n d ys → ys.length ≤ 8 * d
/-- Nothing is being read, or nothing was read yet. -/
def Gh.Fresh (ph : Gh) : Prop := ∀ typ sz n d ys, ph = .read typ sz n d ys → ys = []

theorem Gs.Short.of_fresh {s : Gs} (h : s.ph.Fresh) : s.Short := fun typ sz n d ys e => by rw [h typ sz n d ys e]; exact Nat.zero_le _
theorem Gs.drain_fresh (s : Gs) : s.drain.ph.Fresh := fun typ sz n d ys e => by
  unfold Gs.drain at e
  split at e <;> cases e
theorem Gs.looks_fresh (s : Gs) : s.looks.ph.Fresh := fun typ sz n d ys e => by
  unfold Gs.looks at e
  split at e
  · exact s.drain_fresh typ sz n d ys e
  · cases e
theorem Gs.tell_fresh (s : Gs) (l typ : Int) : (s.tell l typ).ph.Fresh := fun typ' sz n d ys e => by
  unfold Gs.tell at e
  split at e
  · exact Gs.drain_fresh _ typ' sz n d ys e
  · split at e
    · exact Gs.drain_fresh _ typ' sz n d ys e
    · split at e
      · exact Gs.looks_fresh _ typ' sz n d ys e
      · split at e
        · exact Gs.looks_fresh _ typ' sz n d ys e
        · injection e with _ _ _ _ e
          exact e.symm
theorem Gs.Short.take {s : Gs} (h : s.Short) {x : An} (hx : x.bs.length ≤ 8) (hp : s.PhOk) : (s.take x).Short := by
  unfold Gs.take
  unfold Gs.PhOk at hp
  cases hph : s.ph with
  | head => exact Gs.Short.of_fresh (Gs.looks_fresh _)
  | look => exact Gs.Short.of_fresh (Gs.tell_fresh _ _ _)
  | read typ sz n d ys =>
    rw [hph] at hp
    have hd := h typ sz n d ys hph
    have hn := Cy.nx_pos (r := n - d) (by omega)
    by_cases hq : d + Cy.nx (n - d) = n
    · simp only [if_pos hq]
      exact Gs.Short.of_fresh (Gs.looks_fresh _)
    · simp only [if_neg hq]
      intro typ' sz' n' d' ys' e
      injection e with _ _ _ e1 e2
      subst e1 e2
      rw [List.length_append]
      omega
  | zero d =>
    by_cases hq : d + Cy.nx (s.dn - d) = s.dn
    · simp only [if_pos hq]
      exact fun _ _ _ _ _ e => by cases e
    · simp only [if_neg hq]
      exact fun _ _ _ _ _ e => by cases e
  | set => exact fun _ _ _ _ _ e => by cases e
  | fin => exact fun _ _ _ _ _ e => by rw [hph] at e; cases e

/-- The same of a get, live or dead. -/
def Gm.Short : Gm → Prop
  | .live s => s.Short
  | .dead => True
theorem Gm.Short.take {w : World} {F : Nat → Prop} {g : Nat} {m : Gm} (hs : m.Short) (h : GmAt w F g m) {x : An} (hx : x.bs.length ≤ 8) : (m.take x).Short := by
  cases m with
  | dead => trivial
  | live s =>
    obtain ⟨M, a, av, th, mv, h1, h2, h3, h4, _⟩ := h
    exact Gs.Short.take hs hx h4
theorem Gm.short_fits {w : World} {F : Nat → Prop} {g : Nat} {m : Gm} (h : GmAt w F g m) (hs : m.Short) {n : Nat} (hx : n ≤ 8) : m.Fits n := by
  cases m with
  | dead => trivial
  | live s =>
    obtain ⟨M, a, av, th, mv, h1, h2, h3, h4, _⟩ := h
    intro typ sz n' d ys e
    have hd := hs typ sz n' d ys e
    unfold Gs.PhOk at h4
    rw [e] at h4
    obtain ⟨k1, k2, k3, k4⟩ := h4
    have z1 := h3.rg.z1
    have hpl := h3.rg.place_in s.h
    unfold Gs.left at k3
    omega
theorem Gm.new_short (B Z most : Int) : (Gm.new B Z most).Short := by
  unfold Gm.new
  split
  · exact fun _ _ _ _ _ e => by cases e
  · trivial
end Go.Proofs.YtikcnioooihncaaGreat
namespace Go.Proofs.YtikcnioooihncaaGreat
open Go.RowKit

/-- A slice that reads as messages, in blocks that K names. -/
def MgsAt (K : Nat → Prop) (w : World) (v : Value) (ms : List (Int × List Int)) : Prop :=
  ∃ A c, v = .slice A ms.length c ∧ ms.length ≤ c ∧ c ≤ 9223372036854775807 ∧ (0 < ms.length → ∃ b, A = some ⟨b, 0, none⟩ ∧ K b ∧ b < w.heap.size ∧
    ∀ i t, ms[i]? = some t → ∃ d, w.cell? ⟨b, i * 2, none⟩ = some (.int .i32 t.1) ∧ w.cell? ⟨b, i * 2 + 1, none⟩ = some d ∧ BytesIn K w d t.2)

theorem msCells_at (l : List (Int × Value)) : ∀ (i : Nat) (t : Int × Value), l[i]? = some t → (msCells l)[i * 2]? = some (.int .i32 t.1) ∧ (msCells l)[i * 2 + 1]? = some t.2 := by
  induction l with
  | nil => intro i t h; simp at h
  | cons x l ih =>
    intro i t h
    obtain ⟨t0, v0⟩ := x
    cases i with
    | zero =>
      rw [List.getElem?_cons_zero] at h
      injection h with h
      subst h
      exact ⟨rfl, rfl⟩
    | succ i =>
      rw [List.getElem?_cons_succ] at h
      have := ih i t h
      show (Value.int .i32 t0 :: v0 :: msCells l)[(i + 1) * 2]? = _ ∧ (Value.int .i32 t0 :: v0 :: msCells l)[(i + 1) * 2 + 1]? = _
      rw [show (i + 1) * 2 = i * 2 + 1 + 1 by omega]
      simpa using this

theorem msCells_len (l : List (Int × Value)) : (msCells l).length = l.length * 2 := by
  induction l with
  | nil => rfl
  | cons x l ih =>
    obtain ⟨t0, v0⟩ := x
    show (Value.int .i32 t0 :: v0 :: msCells l).length = _
    rw [List.length_cons, List.length_cons, ih, List.length_cons]
    omega

namespace MgsAt
variable {K K' : Nat → Prop} {w w' : World} {v : Value} {ms : List (Int × List Int)}
theorem keep (h : MgsAt K w v ms) (hs : w.heap.size ≤ w'.heap.size) (hb : ∀ k, K k → k < w.heap.size → w'.heap[k]? = w.heap[k]?) : MgsAt K w' v ms := by
  obtain ⟨A, c, hv, h1, h2, h3⟩ := h
  refine ⟨A, c, hv, h1, h2, fun hp => ?_⟩
  obtain ⟨b, e, hk, hl, hr⟩ := h3 hp
  refine ⟨b, e, hk, Nat.lt_of_lt_of_le hl hs, fun i t hi => ?_⟩
  obtain ⟨d, h4, h5, h6⟩ := hr i t hi
  exact ⟨d, (World.cell?_of_block (w := w) (a := ⟨b, i * 2, none⟩) (hb b hk hl)).trans h4, (World.cell?_of_block (w := w) (a := ⟨b, i * 2 + 1, none⟩) (hb b hk hl)).trans h5, h6.keep hs hb⟩
theorem below (h : MgsAt K w v ms) (hb : Below w.heap.size w w') : MgsAt K w' v ms := h.keep hb.size fun k _ hl => hb.block k hl
theorem touch {S : Nat → Prop} (h : MgsAt K w v ms) (ht : Touch S w w') (hn : ∀ k, K k → k < w.heap.size → ¬ S k) : MgsAt K w' v ms := h.keep ht.size fun k hk hl => ht.block k hl (hn k hk hl)
theorem mono (h : MgsAt K w v ms) (hK : ∀ k, K k → k < w.heap.size → K' k) : MgsAt K' w v ms := by
  obtain ⟨A, c, hv, h1, h2, h3⟩ := h
  refine ⟨A, c, hv, h1, h2, fun hp => ?_⟩
  obtain ⟨b, e, hk, hl, hr⟩ := h3 hp
  refine ⟨b, e, hK b hk hl, hl, fun i t hi => ?_⟩
  obtain ⟨d, h4, h5, h6⟩ := hr i t hi
  exact ⟨d, h4, h5, h6.mono hK⟩
theorem none (K : Nat → Prop) (w : World) : MgsAt K w (.slice Option.none 0 0) [] := ⟨Option.none, 0, rfl, Nat.le_refl _, by decide, fun h => absurd h (by simp)⟩
end MgsAt

/-- A row of its own reads as messages. -/
theorem MsAt.read {K : Nat → Prop} {w : World} {mv : Value} {ms : List (Int × List Int)} (h : MsAt K w mv ms) : MgsAt K w mv ms := by
  obtain ⟨vs, h1, h2, h3, h4⟩ := h
  have h0 := h2
  rcases h2.2 with ⟨hv, hn⟩ | ⟨g, cap, cur, hv, _, h5, h6, h7, _⟩
  · have hms : ms = [] := List.eq_nil_of_length_eq_zero hn
    subst hms
    rw [hv]
    exact MgsAt.none K w
  · refine ⟨some ⟨g, 0, none⟩, cap, hv, h6, by unfold maxLen at h7; omega, fun _ => ⟨g, rfl, h3 g (by rw [hv]; rfl), (Array.getElem?_eq_some_iff.1 h5).1, fun i t hi => ?_⟩⟩
    have hil : i < ms.length := (List.getElem?_eq_some_iff.1 hi).1
    have hiv : i < vs.length := by omega
    have hit : ms[i] = t := (List.getElem?_eq_some_iff.1 hi).2
    have hz : ((ms.map Prod.fst).zip vs)[i]? = some (t.1, vs[i]) := by
      rw [List.getElem?_eq_getElem (by simp; omega), List.getElem_zip, List.getElem_map, hit]
    obtain ⟨e1, e2⟩ := msCells_at _ i _ hz
    have add : ∀ j, (⟨g, 0, none⟩ : Addr).add j = ⟨g, j, none⟩ := fun j => by unfold Addr.add; split <;> simp_all
    have c1 := h0.cells (g := g) (by rw [hv]; rfl) _ _ e1
    have c2 := h0.cells (g := g) (by rw [hv]; rfl) _ _ e2
    rw [add] at c1 c2
    refine ⟨vs[i], c1, c2, ?_⟩
    have := (h4 i hil hiv).mono (K' := K) fun k hk _ => hk.1
    rw [hit] at this
    exact this

/-- Cells stored in one block turn no other. -/
theorem mgSet_far (w : World) (b : Nat) : ∀ (vs : List Value) (o : Nat) {k : Nat}, k ≠ b → (w.setCells b o vs).heap[k]? = w.heap[k]? := by
  intro vs
  induction vs generalizing w with
  | nil => intro o k _; rfl
  | cons v r ih =>
    intro o k hk
    show ((w.setCell ⟨b, o, none⟩ v).setCells b (o + 1) r).heap[k]? = _
    rw [ih _ _ hk, Below.heap_setCell _ _ _ _ hk]
theorem mgSet_size (w : World) (b : Nat) : ∀ (vs : List Value) (o : Nat), (w.setCells b o vs).heap.size = w.heap.size := by
  intro vs
  induction vs generalizing w with
  | nil => intro o; rfl
  | cons v r ih =>
    intro o
    show ((w.setCell ⟨b, o, none⟩ v).setCells b (o + 1) r).heap.size = _
    rw [ih]
    simp [World.setCell]

/-- The zeros of new messages. -/
def zmg (j : Nat) : Value := ([.int .i32 0, .slice none 0 0] : List Value).getD (j % 2) undef
/-- A copy: a message, its bytes' slice. -/
abbrev Mx := (Int × List Int) × Value
def mxCells (qs : List Mx) : List Value := msCells (qs.map fun q => (q.1.1, q.2))
/-- A row of messages whose first are copied. -/
def mrowF (qs : List Mx) (j : Nat) : Value := (mxCells qs).getD j (zmg j)

theorem mrowF_nil (j : Nat) : mrowF [] j = zmg j := by simp [mrowF, mxCells, msCells]
theorem mrowF_next (qs : List Mx) (t : Int) (ys : List Int) (v : Value) (j : Nat) : mrowF (qs ++ [((t, ys), v)]) j = if qs.length * 2 ≤ j ∧ j < qs.length * 2 + ([.int .i32 t, v] : List Value).length then ([.int .i32 t, v] : List Value)[j - qs.length * 2]?.getD default else mrowF qs j := by
  unfold mrowF
  have hl : (mxCells qs).length = qs.length * 2 := by unfold mxCells; rw [msCells_len, List.length_map]
  have he : mxCells (qs ++ [((t, ys), v)]) = mxCells qs ++ [.int .i32 t, v] := by
    unfold mxCells
    rw [List.map_append, List.map_cons, List.map_nil, msCells_app]
  rw [he]
  by_cases h1 : j < qs.length * 2
  · rw [if_neg (by omega), List.getD_eq_getElem?_getD, List.getD_eq_getElem?_getD, List.getElem?_append_left (by omega)]
  · by_cases h2 : j < qs.length * 2 + ([.int .i32 t, v] : List Value).length
    · rw [if_pos ⟨by omega, h2⟩, List.getD_eq_getElem?_getD, List.getElem?_append_right (by omega), hl]
      have h3 : j - qs.length * 2 < ([.int .i32 t, v] : List Value).length := by omega
      rw [List.getElem?_eq_getElem h3]
      rfl
    · rw [if_neg (by omega), List.getD_eq_getElem?_getD, List.getD_eq_getElem?_getD, List.getElem?_eq_none (by rw [List.length_append]; omega), List.getElem?_eq_none (by omega)]

theorem make_mgs (n : Nat) (hn : n ≤ 1000001) (W : World) :
    (Instr.makeSlice 39 (.int .i64 (n : Int)) (.int .i64 (n : Int))).run Tryz.prog W = .ok (.slice (some ⟨W.heap.size, 0, none⟩) n n) (W.alloc (.cells (madeCells #[.int .i32 0, .slice none 0 0] (n * 2)) 69)) := by
  obtain ⟨i, hi, hz, hs, hby⟩ := info_parts infoMsg
  have hr := run_make (P := Tryz.prog) W 39 69 i (.agg #[.int .i32 0, .slice none 0 0]) Tryz.underlying39 hi hz .i64 .i64 (n : Int) (n : Int) (by omega) (Int.le_refl _) (by rw [hby]; omega) (by omega)
  rw [hs] at hr
  simpa [Value.cells] using hr

theorem made_mgs (w : World) (n : Nat) : (w.alloc (.cells (madeCells #[.int .i32 0, .slice none 0 0] (n * 2)) 69)).rowIs w.heap.size 69 (n * 2) (mrowF []) :=
  ⟨_, Go.Deep.blk_alloc_new _ _, size_madeCells _ _, fun i hi => by
    rw [mrowF_nil]
    unfold zmg madeCells
    have hm : i % 2 < 2 := Nat.mod_lt _ (by decide)
    simp [hi, hm, List.getD]⟩

/-- Messages were told, in new memory. -/
def MsgsTold (ms : List (Int × List Int)) (w : World) (e : Ending) (w' : World) : Prop :=
  ∃ v, e = .returned v ∧ MgsAt (fun k => w.heap.size ≤ k) w' v ms ∧ Below w.heap.size w w'

theorem mg_take {α : Type} {l : List α} {i : Nat} {t : α} (h : l[i]? = some t) : l.take (i + 1) = l.take i ++ [t] := by
  rw [List.take_add_one, h]; rfl
end Go.Proofs.YtikcnioooihncaaGreat
namespace Go.Proofs.YtikcnioooihncaaGreat
open Go.ChangeShapes Go.WideShapes Go.ChangeAt Go.RowKit Go.Deep

/-- An answer: its number, whether it stored, where its bytes stand, and which they are. -/
structure Ans where
  V : Nat
  D : Bool
  A : Option Addr
  L : Nat
  cap : Nat
  f : Nat → Nat

namespace Ans
/-- Its slice. -/
def sl (x : Ans) : Value := .slice x.A x.L x.cap
/-- Its bytes. -/
def bs (x : Ans) : List Int := Mb.bl x.f 0 x.L
/-- It reads so in w. -/
structure Is (x : Ans) (w : World) : Prop where
  num : x.V < 18446744073709551616
  isB : Mb.IsB x.f
  bytes : BytesAt w (.slice x.A x.L x.cap) (Mb.bl x.f 0 x.L)
  room : x.L ≤ x.cap
  few : x.cap ≤ 9223372036854775807
end Ans

theorem answerOne : Tryz.prog.cellsOf 25 = 3 := by kernel_rfl

set_option maxRecDepth 100000 in
theorem answer_cells {H : Type} {enc : TypeId × Value → H} {W : World} {fuel : Nat} {cs : List Value} {x : DataW H × List MemPlace} (hsz : cs.length = 3)
    (h : DataW.trod enc Tryz.prog W 0 (fun _ => true) true fuel 25 cs = some x) :
    ∃ y : Ans, cs = [.int .u64 y.V, .bool y.D, y.sl] ∧ y.Is W := by
  match cs, hsz with
  | [v0, v1, v2], _ =>
    obtain ⟨xs, n, _, _, _, hlen, hg⟩ := DataW.trod_struct Tryz.underlying25 h
    have g0 := hg 0 _ rfl
    have g1 := hg 1 _ rfl
    have g2 := hg 2 _ rfl
    have cU : Tryz.prog.cellsOf 22 = 1 := by kernel_rfl
    have cD : Tryz.prog.cellsOf 4 = 1 := by kernel_rfl
    have cB : Tryz.prog.cellsOf 23 = 1 := by kernel_rfl
    match xs, hlen with
    | [y0, y1, y2], _ =>
      simp [cU, cD, cB] at g0 g1 g2
      obtain ⟨V, e0, _, w0⟩ := DataW.trod_int Tryz.underlying22 g0
      obtain ⟨D, e1, _⟩ := DataW.trod_bool Tryz.underlying4 g1
      obtain ⟨A, L, cap, f, e2, h1, h2, h3, h4⟩ := bytes_cell g2
      simp only [List.cons.injEq, and_true] at e0 e1 e2
      subst e0 e1 e2
      have b0 := u64_wide w0
      obtain ⟨V, rfl⟩ := Int.eq_ofNat_of_zero_le b0.1
      exact ⟨⟨V, D, A, L, cap, f⟩, rfl, by show V < 18446744073709551616; omega, h1, h2, h3, h4⟩

set_option maxRecDepth 100000 in
theorem open_answer {H : Type} {enc : TypeId × Value → H} {W : World} {base : Nat} {v : Value} {d : DataW H} {ps : List MemPlace}
    (hv : Value.okWide Tryz.prog W .any base 25 v) (h : DataW.Trod enc Tryz.prog W 0 (fun _ => true) true 25 v d ps) :
    ∃ y : Ans, v = .agg #[.int .u64 y.V, .bool y.D, .slice y.A y.L y.cap] ∧ y.Is W := by
  obtain ⟨cs, rfl, hsz⟩ := okWide_struct Tryz.underlying25 hv
  obtain ⟨l⟩ := cs
  rw [answerOne] at hsz
  obtain ⟨fuel, hf⟩ := h
  obtain ⟨y, hy, hi⟩ := answer_cells (by simpa [Value.cells] using hsz) hf
  refine ⟨y, ?_, hi⟩
  simp [Value.cells] at hy
  rw [hy]
  rfl

/-- A slice of n answers that reads as T. -/
def ToldAt (W : World) (A : Option Addr) (n : Nat) (T : Nat → Ans) : Prop :=
  0 < n → ∃ b off, A = some ⟨b, off, none⟩ ∧ b < W.heap.size ∧ ∀ i, i < n → W.cell? ⟨b, off + i * 3, none⟩ = some (.int .u64 (T i).V) ∧ W.cell? ⟨b, off + i * 3 + 1, none⟩ = some (.bool (T i).D) ∧ W.cell? ⟨b, off + i * 3 + 2, none⟩ = some (.slice (T i).A (T i).L (T i).cap) ∧ (T i).Is W

set_option maxRecDepth 100000 in
theorem open_answers {H : Type} {enc : TypeId × Value → H} {W : World} {base : Nat} {v : Value} {d : DataW H} {ps : List MemPlace}
    (hv : Value.okWide Tryz.prog W .any base 42 v) (h : DataW.Trod enc Tryz.prog W 0 (fun _ => true) true 42 v d ps) :
    ∃ (A : Option Addr) (L cap : Nat) (T : Nat → Ans), v = .slice A L cap ∧ ToldAt W A L T ∧ L ≤ cap ∧ cap ≤ 9223372036854775807 := by
  obtain ⟨a0, len0, cap0, rfl⟩ := okWide_slice Tryz.underlying42 hv
  obtain ⟨fuel, hf⟩ := h
  rcases open_slice Tryz.underlying42 hf with ⟨hcs, _⟩ | ⟨a, len, cap, m, n, D, Pl, hcs, hb, hl, hm, hmm, _, hi⟩
  · simp [Value.cells] at hcs
    obtain ⟨rfl, rfl, rfl⟩ := hcs
    exact ⟨none, 0, 0, fun _ => ⟨0, false, none, 0, 0, fun _ => 0⟩, rfl, fun h => absurd h (Nat.lt_irrefl 0), Nat.le_refl _, by decide⟩
  · simp [Value.cells] at hcs
    obtain ⟨rfl, rfl, rfl⟩ := hcs
    simp only [if_true] at hmm
    rw [answerOne] at hi
    have hx : ∀ i, i < m → ∃ y : Ans, (∀ j : Nat, j < 3 → W.cell? ((a.add (i * 3)).add j) = ([.int .u64 y.V, .bool y.D, y.sl] : List Value)[j]?) ∧ y.Is W := by
      intro i him
      obtain ⟨cs', hc, ht'⟩ := hi i him
      obtain ⟨_, hcl, hat⟩ := World.cells?_some hc
      obtain ⟨y, hy, his⟩ := answer_cells hcl ht'
      subst hy
      exact ⟨y, hat, his⟩
    have hT : ∃ T : Nat → Ans, ∀ i, i < m → (∀ j : Nat, j < 3 → W.cell? ((a.add (i * 3)).add j) = ([.int .u64 (T i).V, .bool (T i).D, (T i).sl] : List Value)[j]?) ∧ (T i).Is W := by
      refine ⟨fun i => if h : i < m then Classical.choose (hx i h) else ⟨0, false, none, 0, 0, fun _ => 0⟩, fun i him => ?_⟩
      simp only [dif_pos him]
      exact Classical.choose_spec (hx i him)
    obtain ⟨T, hT⟩ := hT
    refine ⟨some a, _, _, T, rfl, fun hp => ?_, hl, by unfold maxLen at hm; omega⟩
    obtain ⟨b, off, spot⟩ := a
    have h00 := (hT 0 (by omega)).1 0 (by decide)
    have hspot : spot = none := by simpa [Addr.add] using World.cell?_spot h00
    subst hspot
    refine ⟨b, off, rfl, ?_, fun i him => ?_⟩
    · rcases Nat.lt_or_ge b W.heap.size with hlt | hge
      · exact hlt
      · simp [World.cell?, Addr.add, Array.getElem?_eq_none hge] at h00
    · obtain ⟨hc, his⟩ := hT i (by omega)
      have e : ∀ j, ((⟨b, off, none⟩ : Addr).add (i * 3)).add j = ⟨b, off + i * 3 + j, none⟩ := fun j => by
        unfold Addr.add
        split <;> split <;> simp_all
      have c0 := hc 0 (by decide)
      have c1 := hc 1 (by decide)
      have c2 := hc 2 (by decide)
      rw [e] at c0 c1 c2
      exact ⟨c0, c1, c2, his⟩

theorem Ans.Is.below {x : Ans} {w w' : World} (h : x.Is w) (hb : Below w.heap.size w w') : x.Is w' := ⟨h.num, h.isB, h.bytes.below hb, h.room, h.few⟩

theorem ToldAt.below {W W' : World} {A : Option Addr} {n : Nat} {T : Nat → Ans} (h : ToldAt W A n T) (hb : Below W.heap.size W W') : ToldAt W' A n T := by
  intro hp
  obtain ⟨b, off, e, hlt, hc⟩ := h hp
  refine ⟨b, off, e, Nat.lt_of_lt_of_le hlt hb.size, fun i hi => ?_⟩
  obtain ⟨c0, c1, c2, his⟩ := hc i hi
  have k := fun j => hb.cell (p := ⟨b, j, none⟩) hlt
  exact ⟨(k _).trans c0, (k _).trans c1, (k _).trans c2, his.below hb⟩
end Go.Proofs.YtikcnioooihncaaGreat
namespace Go.Proofs.YtikcnioooihncaaGreat
open Go.RowKit

/-- A tape stands at block p: n answers, j of them taken; what it wants. -/
structure Tp (w : World) (p : Nat) (A : Option Addr) (cap n j : Nat) (K P N V U : Int) (s : Value) (e : Bool) : Prop where
  blk : w.heap[p]? = some (.cells #[.slice A n cap, .int .i64 j, .int .i64 K, .int .i64 P, .int .i64 N, .int .u64 V, .int .u64 U, s, .bool e] 77 (0, 0))

namespace Tp
variable {w w' : World} {p cap n j : Nat} {A : Option Addr} {K P N V U : Int} {s : Value} {e : Bool}
theorem lt (h : Tp w p A cap n j K P N V U s e) : p < w.heap.size := (Array.getElem?_eq_some_iff.1 h.blk).1
theorem of_block (h : Tp w p A cap n j K P N V U s e) (hb : w'.heap[p]? = w.heap[p]?) : Tp w' p A cap n j K P N V U s e := ⟨hb.trans h.blk⟩
theorem below (h : Tp w p A cap n j K P N V U s e) (hb : Below w.heap.size w w') : Tp w' p A cap n j K P N V U s e := h.of_block (hb.block p h.lt)
theorem c0 (h : Tp w p A cap n j K P N V U s e) : w.cell? ⟨p, 0, none⟩ = some (.slice A n cap) := by simp [World.cell?, h.blk]
theorem c1 (h : Tp w p A cap n j K P N V U s e) : w.cell? ⟨p, 1, none⟩ = some (.int .i64 j) := by simp [World.cell?, h.blk]
theorem c2 (h : Tp w p A cap n j K P N V U s e) : w.cell? ⟨p, 2, none⟩ = some (.int .i64 K) := by simp [World.cell?, h.blk]
theorem c3 (h : Tp w p A cap n j K P N V U s e) : w.cell? ⟨p, 3, none⟩ = some (.int .i64 P) := by simp [World.cell?, h.blk]
theorem c4 (h : Tp w p A cap n j K P N V U s e) : w.cell? ⟨p, 4, none⟩ = some (.int .i64 N) := by simp [World.cell?, h.blk]
theorem c5 (h : Tp w p A cap n j K P N V U s e) : w.cell? ⟨p, 5, none⟩ = some (.int .u64 V) := by simp [World.cell?, h.blk]
theorem c6 (h : Tp w p A cap n j K P N V U s e) : w.cell? ⟨p, 6, none⟩ = some (.int .u64 U) := by simp [World.cell?, h.blk]
theorem c7 (h : Tp w p A cap n j K P N V U s e) : w.cell? ⟨p, 7, none⟩ = some s := by simp [World.cell?, h.blk]
theorem c8 (h : Tp w p A cap n j K P N V U s e) : w.cell? ⟨p, 8, none⟩ = some (.bool e) := by simp [World.cell?, h.blk]
theorem free (h : Tp w p A cap n j K P N V U s e) (i : Nat) : w.frozen? ⟨p, i, none⟩ = false := by simp [World.frozen?, h.blk]
end Tp

/-- The one block p. -/
def One (p k : Nat) : Prop := k = p

/-- A tape that knows no more: it wants the access. -/
def Wants (p : Nat) (A : Option Addr) (cap n j : Nat) (K P N V U : Int) (s : Value) (w : World) (e : Ending) (w' : World) : Prop :=
  e = .returned (.tuple #[.agg #[.int .u64 0, .bool false, .slice none 0 0], .bool false]) ∧ Tp w' p A cap n j K P N V U s true ∧ Touch (One p) w w'

/-- A tape that tells the next answer. -/
def Tells (x : Ans) (p : Nat) (A : Option Addr) (cap n j : Nat) (K P N V U : Int) (s : Value) (w : World) (e : Ending) (w' : World) : Prop :=
  e = .returned (.tuple #[.agg #[.int .u64 x.V, .bool x.D, .slice x.A x.L x.cap], .bool true]) ∧ Tp w' p A cap n (j + 1) K P N V U s false ∧ Touch (One p) w w'

theorem blk_set {w : World} {g i : Nat} {cs : Array Value} {t : TypeId} (h : w.heap[g]? = some (.cells cs t (0, 0))) (u : Value) : (w.setCell ⟨g, i, none⟩ u).heap[g]? = some (.cells (cs.setIfInBounds i u) t (0, 0)) := by
  simp [World.setCell, Array.getElem?_modify, h]

theorem blk_far {w : World} {g g' i : Nat} {o : Obj} (h : w.heap[g]? = some o) (hn : g ≠ g') (u : Value) : (w.setCell ⟨g', i, none⟩ u).heap[g]? = some o := (Below.heap_setCell w ⟨g', i, none⟩ u g hn).trans h

set_option maxRecDepth 100000 in
set_option maxHeartbeats 1000000 in
theorem tapeDo_wants {w : World} {p cap n : Nat} {A B : Option Addr} {K0 P0 N0 V0 U0 : Int} {A0 : Option Addr} {L0 c0 : Nat} (h : Tp w p A cap n n K0 P0 N0 V0 U0 (.slice A0 L0 c0) false) (K P N V U : Int) (L c : Nat) :
    Calls Tryz.prog 94 #[.pointer (some ⟨p, 0, none⟩), .agg #[.int .i64 K, .int .i64 P, .int .i64 N, .int .u64 V, .int .u64 U, .slice B L c]] w (Wants p A cap n n K P N V U (.slice B L c) w) := by
  have hlt := h.lt
  have HW := ((Below.refl w.heap.size w).alloc (Nat.le_refl _) (.cells #[.int .i64 K, .int .i64 P, .int .i64 N, .int .u64 V, .int .u64 U, .slice B L c] 30)).alloc (by simp) (.cells #[.int .u64 0, .bool false, .slice none 0 0] 25)
  have hX := (Below.heap_alloc _ (.cells #[.int .u64 0, .bool false, .slice none 0 0] 25) w.heap.size (by simp)).trans (Go.Deep.blk_alloc_new w (.cells #[.int .i64 K, .int .i64 P, .int .i64 N, .int .u64 V, .int .u64 U, .slice B L c] 30))
  have hR := Go.Deep.blk_alloc_new (w.alloc (.cells #[.int .i64 K, .int .i64 P, .int .i64 N, .int .u64 V, .int .u64 U, .slice B L c] 30)) (.cells #[.int .u64 0, .bool false, .slice none 0 0] 25)
  have e1 : (w.alloc (.cells #[.int .i64 K, .int .i64 P, .int .i64 N, .int .u64 V, .int .u64 U, .slice B L c] 30)).heap.size = w.heap.size + 1 := by simp
  rw [e1] at hR
  have HT := h.below HW
  have hc8 := h.c8
  clear h e1
  go_enter Tryz.func94, Tryz.ntmps94
  go_wp2_with fail
  clear hc8
  generalize (w.alloc (.cells #[.int .i64 K, .int .i64 P, .int .i64 N, .int .u64 V, .int .u64 U, .slice B L c] 30)).alloc (.cells #[.int .u64 0, .bool false, .slice none 0 0] 25) = W at HW hX hR HT ⊢
  have t0 := HT.c0
  have t1 := HT.c1
  have t2 := HT.c2
  have t3 := HT.c3
  have t4 := HT.c4
  have t5 := HT.c5
  have t6 := HT.c6
  have t7 := HT.c7
  have t8 := HT.c8
  have z2 := HT.free 2
  have z3 := HT.free 3
  have z4 := HT.free 4
  have z5 := HT.free 5
  have z6 := HT.free 6
  have z7 := HT.free 7
  have z8 := HT.free 8
  have x0 : W.cell? ⟨w.heap.size, 0, none⟩ = some (.int .i64 K) := by simp [World.cell?, hX]
  have x1 : W.cell? ⟨w.heap.size, 1, none⟩ = some (.int .i64 P) := by simp [World.cell?, hX]
  have x2 : W.cell? ⟨w.heap.size, 2, none⟩ = some (.int .i64 N) := by simp [World.cell?, hX]
  have x3 : W.cell? ⟨w.heap.size, 3, none⟩ = some (.int .u64 V) := by simp [World.cell?, hX]
  have x4 : W.cell? ⟨w.heap.size, 4, none⟩ = some (.int .u64 U) := by simp [World.cell?, hX]
  have x5 : W.cell? ⟨w.heap.size, 5, none⟩ = some (.slice B L c) := by simp [World.cell?, hX]
  obtain ⟨a0, a1, a2, f0, f1, f2, _⟩ := AnsAt.of_blk hR
  have hne : p ≠ w.heap.size := by omega
  have hne1 : p ≠ w.heap.size + 1 := by omega
  have HH := Lib.hid (And.intro HT hR)
  clear HT hX hR
  go_quiet (fail)
  go_wp2
  refine bodyPost_ret (v := .tuple #[.agg #[.int .u64 0, .bool false, .slice none 0 0], .bool false]) (by simp [results, Tryz.results94, go_sem, a0, a1, a2]) rfl ?_
  refine ⟨rfl, ⟨?_⟩, ?_⟩
  · have h0 : (W.drewN nq).heap[p]? = some (.cells #[.slice A n cap, .int .i64 n, .int .i64 K0, .int .i64 P0, .int .i64 N0, .int .u64 V0, .int .u64 U0, .slice A0 L0 c0, .bool false] 77 (0, 0)) := HH.out.1.blk
    exact blk_far (blk_far (blk_far (blk_set (blk_set (blk_set (blk_set (blk_set (blk_set (blk_set h0 _) _) _) _) _) _) _) hne1 _) hne1 _) hne1 _
  · have h0 : Touch (One p) w (W.drewN nq) := (Touch.of_below HW).drewN nq
    have h1 := ((((((h0.setCell (p := ⟨p, 2, none⟩) rfl (.int .i64 K)).setCell (p := ⟨p, 3, none⟩) rfl (.int .i64 P)).setCell (p := ⟨p, 4, none⟩) rfl (.int .i64 N)).setCell (p := ⟨p, 5, none⟩) rfl (.int .u64 V)).setCell (p := ⟨p, 6, none⟩) rfl (.int .u64 U)).setCell (p := ⟨p, 7, none⟩) rfl (.slice B L c)).setCell (p := ⟨p, 8, none⟩) rfl (.bool true)
    exact ((h1.setNew (p := ⟨w.heap.size + 1, 0, none⟩) (Nat.le_succ _) _).setNew (p := ⟨w.heap.size + 1, 1, none⟩) (Nat.le_succ _) _).setNew (p := ⟨w.heap.size + 1, 2, none⟩) (Nat.le_succ _) _

set_option maxRecDepth 100000 in
set_option maxHeartbeats 1000000 in
theorem tapeDo_tells {w : World} {p cap n j : Nat} {A B : Option Addr} {K0 P0 N0 V0 U0 : Int} {A0 : Option Addr} {L0 c0 : Nat} (h : Tp w p A cap n j K0 P0 N0 V0 U0 (.slice A0 L0 c0) false) (hj : j < n) (hn : n ≤ cap) (hcap : cap ≤ 9223372036854775807)
    {T : Nat → Ans} (hT : ToldAt w A n T) (hA : 0 < n → ∀ a, A = some a → a.block ≠ p) (K P N V U : Int) (L c : Nat) :
    Calls Tryz.prog 94 #[.pointer (some ⟨p, 0, none⟩), .agg #[.int .i64 K, .int .i64 P, .int .i64 N, .int .u64 V, .int .u64 U, .slice B L c]] w (Tells (T j) p A cap n j K0 P0 N0 V0 U0 (.slice A0 L0 c0) w) := by
  have hlt := h.lt
  have HW := ((Below.refl w.heap.size w).alloc (Nat.le_refl _) (.cells #[.int .i64 K, .int .i64 P, .int .i64 N, .int .u64 V, .int .u64 U, .slice B L c] 30)).alloc (by simp) (.cells #[.int .u64 0, .bool false, .slice none 0 0] 25)
  have hR := Go.Deep.blk_alloc_new (w.alloc (.cells #[.int .i64 K, .int .i64 P, .int .i64 N, .int .u64 V, .int .u64 U, .slice B L c] 30)) (.cells #[.int .u64 0, .bool false, .slice none 0 0] 25)
  have e1 : (w.alloc (.cells #[.int .i64 K, .int .i64 P, .int .i64 N, .int .u64 V, .int .u64 U, .slice B L c] 30)).heap.size = w.heap.size + 1 := by simp
  rw [e1] at hR
  obtain ⟨tb, tz, rfl, htl, htc⟩ := hT (by omega)
  have htp : tb ≠ p := hA (by omega) _ rfl
  obtain ⟨y0, y1, y2, _⟩ := htc j hj
  have v0 := (HW.cell (p := ⟨tb, tz + j * 3, none⟩) htl).trans y0
  have v1 := (HW.cell (p := ⟨tb, tz + j * 3 + 1, none⟩) htl).trans y1
  have v2 := (HW.cell (p := ⟨tb, tz + j * 3 + 2, none⟩) htl).trans y2
  have htn : tb ≠ w.heap.size := by omega
  have htn1 : tb ≠ w.heap.size + 1 := by omega
  have HT := h.below HW
  have hc8 := h.c8
  generalize T j = x at v0 v1 v2 ⊢
  clear h e1 hT hA htc y0 y1 y2
  go_enter Tryz.func94, Tryz.ntmps94
  go_wp2_with fail
  clear hc8
  generalize (w.alloc (.cells #[.int .i64 K, .int .i64 P, .int .i64 N, .int .u64 V, .int .u64 U, .slice B L c] 30)).alloc (.cells #[.int .u64 0, .bool false, .slice none 0 0] 25) = W at HW hR HT v0 v1 v2 ⊢
  have t0 := HT.c0
  have t1 := HT.c1
  have z1 := HT.free 1
  obtain ⟨a0, a1, a2, f0, f1, f2, _⟩ := AnsAt.of_blk hR
  have hne : p ≠ w.heap.size := by omega
  have hne1 : p ≠ w.heap.size + 1 := by omega
  have HH := Lib.hid (And.intro HT hR)
  have hj1 : ¬ ((n : Int) ≤ (j : Int)) := by omega
  have hj2 : decide ((n : Int) ≤ (j : Int)) = false := by simpa using hj1
  have hj3 : decide (n ≤ j) = false := by simpa using hj
  clear HT hR
  go_quiet (fail)
  go_wp2_with fail
  have HT2 : Tp ((W.drewN nq).setCell ⟨p, 1, none⟩ (.int .i64 ((j : Int) + 1))) p (some ⟨tb, tz, none⟩) cap n (j + 1) K0 P0 N0 V0 U0 (.slice A0 L0 c0) false := by
    have h0 : (W.drewN nq).heap[p]? = _ := HH.out.1.blk
    exact ⟨blk_set h0 _⟩
  have HR2 : AnsAt (w.heap.size + 1) ((W.drewN nq).setCell ⟨p, 1, none⟩ (.int .i64 ((j : Int) + 1))) := by
    have h0 : (W.drewN nq).heap[w.heap.size + 1]? = _ := HH.out.2
    exact .of_blk (blk_far h0 (Ne.symm hne1) _)
  have HX2 : Touch (One p) w ((W.drewN nq).setCell ⟨p, 1, none⟩ (.int .i64 ((j : Int) + 1))) := ((Touch.of_below HW).drewN nq).setCell (p := ⟨p, 1, none⟩) (show One p p from rfl) _
  have hcf : ∀ i, ((W.drewN nq).setCell ⟨p, 1, none⟩ (.int .i64 ((j : Int) + 1))).cell? ⟨tb, i, none⟩ = W.cell? ⟨tb, i, none⟩ := fun i => World.cell?_setCell_other (W.drewN nq) ⟨p, 1, none⟩ ⟨tb, i, none⟩ _ (fun e => htp (by injection e with e1; exact e1.symm))
  have u0 := (hcf _).trans v0
  have u1 := (hcf _).trans v1
  have u2 := (hcf _).trans v2
  clear v0 v1 v2 t0 t1 z1 a0 a1 a2 f0 f1 f2 hcf hj1 hj2 hj3
  generalize (W.drewN nq).setCell ⟨p, 1, none⟩ (.int .i64 ((j : Int) + 1)) = W2 at u0 u1 u2 HT2 HR2 HX2 ⊢
  have t0 := HT2.c0
  have t1 := HT2.c1
  have t1' : W2.cell? ⟨p, 1, none⟩ = some (.int .i64 ((j : Int) + 1)) := t1
  clear t1
  obtain ⟨a0, a1, a2, f0, f1, f2, _⟩ := HR2
  have HT3 := Lib.hid HT2
  clear HT2
  have hj1 : (j : Int) < n := by omega
  go_region
  all_goals go_wp2
  all_goals
    refine bodyPost_ret (v := .tuple #[.agg #[.int .u64 x.V, .bool x.D, .slice x.A x.L x.cap], .bool true]) (by simp [results, Tryz.results94, go_sem, a0, a1, a2]) rfl ?_
    refine ⟨rfl, ⟨blk_far (blk_far (blk_far HT3.out.blk hne1 _) hne1 _) hne1 _⟩, ?_⟩
    exact (((HX2.setNew (p := ⟨w.heap.size + 1, 0, none⟩) (Nat.le_succ _) _).setNew (p := ⟨w.heap.size + 1, 1, none⟩) (Nat.le_succ _) _).setNew (p := ⟨w.heap.size + 1, 2, none⟩) (Nat.le_succ _) _).drew
end Go.Proofs.YtikcnioooihncaaGreat
namespace Go.Proofs.YtikcnioooihncaaGreat
open Go.RowKit

theorem refChunks_parts (n : Int) (w : World) : Calls Tryz.prog 96 #[.int .i64 n] w (MadeParts (Cy.cks (Cy.few n)) w) := by
  refine (refChunks_any n w).mono ?_
  rintro e w' ⟨v, rfl, ho, hb⟩
  rw [Cy.ckOf_few] at ho
  exact ⟨v, rfl, (Parts.of_own ho), hb⟩

/-- A byte's block is no tape's. -/
theorem Tp.byte_apart {w : World} {p cap n j : Nat} {A : Option Addr} {K P N V U : Int} {s : Value} {e : Bool} (h : Tp w p A cap n j K P N V U s e) (hs : ∀ x, s ≠ .int .u8 x) {b off : Nat} {x : Int} (hc : w.cell? ⟨b, off, none⟩ = some (.int .u8 x)) : b ≠ p := by
  rintro rfl
  have hb := h.blk
  simp [World.cell?, hb] at hc
  match off, hc with
  | 7, hc => simp at hc; exact hs _ hc
  | 0, hc | 1, hc | 2, hc | 3, hc | 4, hc | 5, hc | 6, hc | 8, hc => simp at hc
  | k + 9, hc => simp at hc

theorem BytesAt.one {w w' : World} {p cap n j : Nat} {A : Option Addr} {K P N V U : Int} {s : Value} {e : Bool} (h : Tp w p A cap n j K P N V U s e) (hs : ∀ x, s ≠ .int .u8 x) (ht : Touch (One p) w w') {v : Value} {xs : List Int} (hv : BytesAt w v xs) : BytesAt w' v xs := by
  obtain ⟨A2, c2, hv, hx⟩ := hv
  refine ⟨A2, c2, hv, fun hp => ?_⟩
  obtain ⟨b, off, e, hlt, hc⟩ := hx hp
  have hne : b ≠ p := h.byte_apart hs (hc 0 hp)
  exact ⟨b, off, e, Nat.lt_of_lt_of_le hlt ht.size, fun i hi => (ht.cell (p := ⟨b, off + i, none⟩) hlt hne).trans (hc i hi)⟩

theorem ToldAt.one {w w' : World} {p cap n j : Nat} {A : Option Addr} {K P N V U : Int} {s : Value} {e : Bool} (h : Tp w p A cap n j K P N V U s e) (hs : ∀ x, s ≠ .int .u8 x) (ht : Touch (One p) w w') {B : Option Addr} {m : Nat} {T : Nat → Ans} (hT : ToldAt w B m T)
    (hB : 0 < m → ∀ a, B = some a → a.block ≠ p) : ToldAt w' B m T := by
  intro hp
  obtain ⟨b, off, rfl, hlt, hc⟩ := hT hp
  have hne : b ≠ p := hB hp _ rfl
  refine ⟨b, off, rfl, Nat.lt_of_lt_of_le hlt ht.size, fun i hi => ?_⟩
  obtain ⟨c0, c1, c2, his⟩ := hc i hi
  have k := fun o => ht.cell (p := ⟨b, o, none⟩) hlt hne
  exact ⟨(k _).trans c0, (k _).trans c1, (k _).trans c2, ⟨his.num, his.isB, BytesAt.one h hs ht his.bytes, his.room, his.few⟩⟩

theorem cut_at (f : Nat → Nat) (a d n L : Nat) (h : d + n ≤ L) : ((Mb.bl f a L).drop d).take n = Mb.bl f (a + d) n := by
  have e : L = d + (n + (L - d - n)) := by omega
  rw [e, Mb.bl_append, Mb.bl_append, List.drop_left' (Mb.bl_length _ _ _), List.take_left' (by rw [Mb.bl_length])]

theorem bytesAt_none' (w : World) (A : Option Addr) (c : Nat) (f : Nat → Nat) (a : Nat) : BytesAt w (.slice A 0 c) (Mb.bl f a 0) := ⟨A, c, rfl, fun h => by simp [Mb.bl] at h⟩

/-- What a tape that was told i answers says of n bytes of f, written at 'at': the access that is wanted next, or none. -/
def SaidIn (p : Nat) (A : Option Addr) (cap i : Nat) (at_ : Int) (f : Nat → Nat) (n : Nat) (w : World) (e : Ending) (w' : World) : Prop :=
  ∃ b, e = .returned (.bool b) ∧ Touch (One p) w w' ∧
    ((8 * i < n ∧ ∃ B L c, Tp w' p A cap i i 6 (at_ + (8 * i : Nat)) (Cy.nx (n - 8 * i) : Nat) 0 0 (.slice B L c) true ∧ BytesAt w' (.slice B L c) (Mb.bl f (8 * i) (Cy.nx (n - 8 * i)))) ∨
     (n ≤ 8 * i ∧ ∃ j, Tp w' p A cap i j 0 0 0 0 0 (.slice none 0 0) false))

/-- The same; and the access' bytes lie in a block of K. -/
def SaidInK (K : Nat → Prop) (p : Nat) (A : Option Addr) (cap i : Nat) (at_ : Int) (f : Nat → Nat) (n : Nat) (w : World) (e : Ending) (w' : World) : Prop :=
  ∃ b, e = .returned (.bool b) ∧ Touch (One p) w w' ∧
    ((8 * i < n ∧ ∃ B L c, Tp w' p A cap i i 6 (at_ + (8 * i : Nat)) (Cy.nx (n - 8 * i) : Nat) 0 0 (.slice B L c) true ∧ BytesAt w' (.slice B L c) (Mb.bl f (8 * i) (Cy.nx (n - 8 * i))) ∧ ∀ a, B = some a → K a.block) ∨
     (n ≤ 8 * i ∧ ∃ j, Tp w' p A cap i j 0 0 0 0 0 (.slice none 0 0) false))

theorem SaidInK.said {K : Nat → Prop} {p : Nat} {A : Option Addr} {cap i : Nat} {at_ : Int} {f : Nat → Nat} {n : Nat} {w : World} {e : Ending} {w' : World} (h : SaidInK K p A cap i at_ f n w e w') : SaidIn p A cap i at_ f n w e w' := by
  obtain ⟨b, h1, h2, h3⟩ := h
  refine ⟨b, h1, h2, ?_⟩
  rcases h3 with ⟨h4, B, L, c, h5, h6, _⟩ | h3
  · exact .inl ⟨h4, B, L, c, h5, h6⟩
  · exact .inr h3

set_option maxRecDepth 100000 in
set_option maxHeartbeats 2000000 in
theorem tapeIn_lies {K : Nat → Prop} {w : World} {p cap i : Nat} {A : Option Addr} (h : Tp w p A cap i 0 0 0 0 0 0 (.slice none 0 0) false) (hi : i ≤ cap) (hcap : cap ≤ 9223372036854775807) {T : Nat → Ans} (hT : ToldAt w A i T) (hA : 0 < i → ∀ a, A = some a → a.block ≠ p)
    (at_ : Int) (hat0 : -4611686018427387904 ≤ at_) (hat1 : at_ ≤ 4611686018427387904) (B : Option Addr) (n cp : Nat) (f : Nat → Nat) (hB : BytesAt w (.slice B n cp) (Mb.bl f 0 n)) (hn : n ≤ 131072) (hcp : n ≤ cp) (hcp2 : cp ≤ 9223372036854775807) (hBK : 0 < n → ∀ a, B = some a → K a.block) :
    Calls Tryz.prog 84 #[.pointer (some ⟨p, 0, none⟩), .int .i64 at_, .slice B n cp] w (SaidInK K p A cap i at_ f n w) := by
  have hlt := h.lt
  have HT := Lib.hid h
  have HTo := Lib.hid hT
  have HA := Lib.hid hA
  have HB := Lib.hid hB
  have HBK := Lib.hid hBK
  clear h hT hA hB hBK
  go_enter Tryz.func84, Tryz.ntmps84
  go_wp2_with fail
  refine (refChunks_parts n w).mono ?_
  rintro e w1 ⟨v1, rfl, ⟨A1, c1, rfl, p1, p2, p3⟩, hb1⟩
  rw [Cy.few_nat hn] at p1 p3 ⊢
  have hlen := Cy.cks_length n
  generalize hm : (Cy.cks n).length = m at p1 p3 hlen ⊢
  have HT1 := Lib.hid (HT.out.below hb1)
  have HTo1 := Lib.hid (HTo.out.below hb1)
  have HB1 := Lib.hid (HB.out.below hb1)
  have HP3 := Lib.hid p3
  have hs1 := hb1.size
  have hw1 := Lib.hid hb1
  have HM := Lib.hid hm
  have hm1 : m ≤ 16384 := by omega
  have HL := Lib.hid hlen
  clear p3 hb1 hm hlen
  go_wp2_with fail
  go_loopw [1, 2, 15] (fun a b t wr => ∃ (k : Nat) (A' : Option Addr) (cp' : Nat), t = .int .i64 k ∧ a = .int .i64 (at_ + (Cy.at_ n k : Nat)) ∧ b = .slice A' (n - Cy.at_ n k) cp' ∧ n - Cy.at_ n k ≤ cp' ∧ cp' ≤ 9223372036854775807 ∧ BytesAt wr b (Mb.bl f (Cy.at_ n k) (n - Cy.at_ n k)) ∧ k ≤ m ∧ k ≤ i ∧ (0 < n → ∀ a, A' = some a → K a.block) ∧
      Tp wr p A cap i k 0 0 0 0 0 (.slice none 0 0) false ∧ Touch (One p) w1 wr) (fun _ _ t _ => m - (intOf t).toNat)
  case atStart => 
    refine ⟨0, B, cp, rfl, by rw [Cy.at_zero]; simp, by rw [Cy.at_zero]; rfl, by omega, hcp2, ?_, by omega, by omega, HBK.out, HT1.out, Touch.refl _ _⟩
    rw [Cy.at_zero]; exact HB1.out
  case round =>
    obtain ⟨k, A', cp', rfl, rfl, rfl, hq1, hq2, hbk, hkm, hki, hkk, htk, htt⟩ := hrel
    have HKK := Lib.hid hkk
    clear hkk
    by_cases hlt : k < m
    · have hk8 : 8 * k < n := by have := HL.out; omega
      have hd := Cy.at_here hk8
      have hnx := Cy.at_next hk8
      rw [hd] at hnx hq1 hbk ⊢
      have hc0 := Cy.nx_pos (r := n - 8 * k) (by omega)
      have hc1 := Cy.nx_le (n - 8 * k)
      obtain ⟨cb, co, rfl, ⟨hcb, _⟩, hcl, hcell⟩ := HP3.out (by omega)
      have hcp : cb ≠ p := by omega
      have hck := (htt.cell (p := ⟨cb, co + k, none⟩) hcl hcp).trans (hcell k hlt)
      rw [← HM.out] at hlt
      have hgd := Cy.cks_getD n k hk8
      rw [hgd] at hck
      rw [HM.out] at hlt
      generalize hcq : Cy.nx (n - 8 * k) = c at hc0 hc1 hck hnx hgd
      generalize hrq : n - 8 * k = r at hc1 hq1 hbk hcq ⊢
      have HCQ := Lib.hid (And.intro hcq hrq)
      have HNX := Lib.hid hnx
      have hrn : r ≤ 131072 := by omega
      have HK8 := Lib.hid hk8
      obtain ⟨gb, ob, rfl⟩ : ∃ gb ob, A' = some ⟨gb, ob, none⟩ := by
        obtain ⟨A2, c2, hv, hx⟩ := hbk
        obtain ⟨gb, ob, e, _⟩ := hx (by rw [Mb.bl_length]; omega)
        injection hv with e1 _ _
        exact ⟨gb, ob, e1.trans e⟩
      have HGB : Hid (K gb) := Lib.hid (HKK.out (by omega) _ rfl)
      have HBK := Lib.hid hbk
      have HTK := Lib.hid htk
      have HTT := Lib.hid htt
      have htold := Lib.hid (HTo1.out.one HT1.out (by intro x e; cases e) htt HA.out)
      have hg1 : (k : Int) < m := by omega
      have hg2 : (0 : Int) ≤ c := by omega
      have hg3 : (c : Int) ≤ r := by omega
      have hg4 : (r : Int) ≤ cp' := by omega
      have hk13 : k ≤ 16384 := by omega
      have hg5 : IntKind.i64.wrap (at_ + ((8 * k : Nat) : Int) + (c : Int)) = at_ + ((8 * k : Nat) : Int) + c := IntWalk.i64_in _ (by omega)
      have hq3 : -4611686018427387904 ≤ at_ + ((8 * k : Nat) : Int) := by omega
      have hq4 : at_ + ((8 * k : Nat) : Int) ≤ 4611686018427518976 := by omega
      generalize hqq : at_ + ((8 * k : Nat) : Int) = q at hg5 hq3 hq4 ⊢
      have HQ := Lib.hid hqq
      have hn1 : n - Cy.at_ n (k + 1) = r - c := by rw [hnx]; omega
      have HN1 := Lib.hid hn1
      clear hcell hgd hcq hrq hd hnx hbk htk htt hk8 hqq hn1
      by_cases hki2 : k < i
      · have hrel2 : ∀ (w2 : World) (A2 : Option Addr) (cp2 : Nat), (A2 = some ⟨gb, ob + c, none⟩ ∨ r = c) → r - c ≤ cp2 → Tp w2 p A cap i (k + 1) 0 0 0 0 0 (.slice none 0 0) false → Touch (One p) wr w2 →
            BytesAt w2 (.slice A2 (r - c) cp2) (Mb.bl f (Cy.at_ n (k + 1)) (n - Cy.at_ n (k + 1))) := by
          intro w2 A2 cp2 hA2 _ _ ht2
          rw [HN1.out, HNX.out]
          rcases hA2 with rfl | hrc
          · have := (BytesAt.one HTK.out (by intro x e; cases e) ht2 HBK.out).cut c (r - c) cp2 (by rw [Mb.bl_length]; omega)
            rw [cut_at f (8 * k) c (r - c) r (by omega)] at this
            exact this
          · have : r - c = 0 := by omega
            rw [this]
            exact bytesAt_none' _ _ _ _ _
        have HREL := Lib.hid hrel2
        clear hrel2
        by_cases hcc : cp' = c
        · subst hcc
          have hrc : r = cp' := by omega
          have HRC := Lib.hid hrc
          clear hrc
          go_wp2_with fail
          refine (tapeDo_tells HTK.out hki2 hi hcap htold.out HA.out 6 q cp' 0 0 cp' cp').mono ?_
          rintro e w2 ⟨rfl, htk2, htt2⟩
          go_wp2
          go_roundw
          case rel =>
            refine ⟨k + 1, some ⟨gb, ob, none⟩, 0, by go_num, by rw [HNX.out, ← HQ.out]; congr 1; omega, by rw [HN1.out]; congr 1; have := HRC.out; omega, by rw [HN1.out]; have := HRC.out; omega, by omega, ?_, by omega, by omega, (fun _ a ha => by cases ha; exact HGB.out), htk2.below ((Below.refl _ _).alloc (Nat.le_refl _) _), (HTT.out.trans htt2).alloc _⟩
            have e0 : r - cp' = 0 := by have := HRC.out; omega
            have h0 := HREL.out _ (some ⟨gb, ob, none⟩) 0 (.inr HRC.out) (by omega) (htk2.below ((Below.refl _ _).alloc (Nat.le_refl _) (.cells #[.int .u64 (T k).V, .bool (T k).D, .slice (T k).A (T k).L (T k).cap] 25))) (htt2.alloc _)
            rw [e0] at h0
            exact h0
          case measure => simp [intOf]; omega
        · go_wp2_with fail
          refine (tapeDo_tells HTK.out hki2 hi hcap htold.out HA.out 6 q c 0 0 c cp').mono ?_
          rintro e w2 ⟨rfl, htk2, htt2⟩
          go_wp2
          go_roundw
          case rel =>
            refine ⟨k + 1, some ⟨gb, ob + c, none⟩, cp' - c, by go_num, by rw [HNX.out, ← HQ.out]; congr 1; omega, by rw [HN1.out], by rw [HN1.out]; omega, by omega, ?_, by omega, by omega, (fun _ a ha => by cases ha; exact HGB.out), htk2.below ((Below.refl _ _).alloc (Nat.le_refl _) _), (HTT.out.trans htt2).alloc _⟩
            exact HREL.out _ _ _ (.inl rfl) (by omega) (htk2.below ((Below.refl _ _).alloc (Nat.le_refl _) _)) (htt2.alloc _)
          case measure => simp [intOf]; omega
      · obtain rfl : k = i := by omega
        go_wp2_with fail
        refine (tapeDo_wants HTK.out 6 q c 0 0 c cp').mono ?_
        rintro e w2 ⟨rfl, htk2, htt2⟩
        go_wp2
        go_ret
        refine ⟨false, rfl, ((Touch.of_below hw1.out).trans (HTT.out.trans htt2)).alloc _, .inl ⟨HK8.out, some ⟨gb, ob, none⟩, c, cp', ?_, ?_, fun a ha => by cases ha; exact HGB.out⟩⟩
        · rw [HQ.out, HCQ.out.2, HCQ.out.1]
          exact htk2.below ((Below.refl _ _).alloc (Nat.le_refl _) _)
        · rw [HCQ.out.2, HCQ.out.1]
          have := ((BytesAt.one HTK.out (by intro x e; cases e) htt2 HBK.out).alloc (.cells #[.int .u64 0, .bool false, .slice none 0 0] 25)).cut 0 c cp' (by rw [Mb.bl_length]; omega)
          rw [cut_at f (8 * k) 0 c r (by omega)] at this
          exact this
    · have hkm2 : k = m := by omega
      have hkn : n ≤ 8 * k := by have := HL.out; omega
      have HKN := Lib.hid hkn
      have hg1 : (m : Int) ≤ k := by omega
      have HTK := Lib.hid htk
      have HTT := Lib.hid htt
      clear htk htt hkm2 hkn
      go_wp2
      go_ret
      exact ⟨true, rfl, (Touch.of_below hw1.out).trans HTT.out, .inr ⟨by have := HKN.out; omega, k, HTK.out⟩⟩

theorem tapeIn_any {w : World} {p cap i : Nat} {A : Option Addr} (h : Tp w p A cap i 0 0 0 0 0 0 (.slice none 0 0) false) (hi : i ≤ cap) (hcap : cap ≤ 9223372036854775807) {T : Nat → Ans} (hT : ToldAt w A i T) (hA : 0 < i → ∀ a, A = some a → a.block ≠ p)
    (at_ : Int) (hat0 : -4611686018427387904 ≤ at_) (hat1 : at_ ≤ 4611686018427387904) (B : Option Addr) (n cp : Nat) (f : Nat → Nat) (hB : BytesAt w (.slice B n cp) (Mb.bl f 0 n)) (hn : n ≤ 131072) (hcp : n ≤ cp) (hcp2 : cp ≤ 9223372036854775807) :
    Calls Tryz.prog 84 #[.pointer (some ⟨p, 0, none⟩), .int .i64 at_, .slice B n cp] w (SaidIn p A cap i at_ f n w) :=
  (tapeIn_lies (K := fun _ => True) h hi hcap hT hA at_ hat0 hat1 B n cp f hB hn hcp hcp2 (fun _ _ _ => trivial)).mono fun _ _ hs => hs.said
end Go.Proofs.YtikcnioooihncaaGreat
