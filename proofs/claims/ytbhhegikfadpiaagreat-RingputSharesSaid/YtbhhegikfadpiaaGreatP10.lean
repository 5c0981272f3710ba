/-
  The document's put over a tape, and the machine that was told the same, held against each other (layer 7).
  Layer 6's small calls, walked: whether there is an actor, whether a pick may be, the clock, who is dead, who is at its end, silence.
  Layer 6's check of a pick, walked.
  Layer 6's ticks, walked: a machine is told the clock if it is one that is told; all that live are.
-/
import Derived.Test.YtbhhegikfadpiaaGreatP09
import Derived.Test.YtbhhegikfadpiaaGreatP07
import Derived.Deep.QuietTactic
import Derived.BigQuiet
import Derived.Deep.RegionHeld3
import Derived.LoopTactic
import Derived.Stop.Asserts
namespace Go.Proofs.YtbhhegikfadpiaaGreat
open Go.RowKit

theorem putSays_dead {p cap i : Nat} {A : Option Addr} {m : Pm} {Z er : Int} {w w' : World} (hm : m = .dead Z er) (er' : Int) (he : er' = if Z = 0 then 1 else er) (hne : er' ≠ 0) (ht : Touch (One p) w w') (htp : Tp w' p A cap i 0 0 0 0 0 0 (.slice none 0 0) false) :
    PutSays p A cap i m w (.returned (.tuple #[.int .i64 0, .bool false, .int .i64 er'])) w' := by
  subst hm
  refine ⟨0, false, er', rfl, ht, rfl, ?_, fun h => absurd h hne, Ac.zero, none, 0, 0, 0, htp, BytesAt.nil _, rfl⟩
  unfold Pm.result
  show er' = (if Z = 0 then ((0 : Int), (1 : Int)) else if false = true then (0, 10) else if er = 0 then (0, 0) else (0, er)).2
  by_cases hz : Z = 0
  · rw [he, if_pos hz, if_pos hz]
  · rw [he, if_neg hz] at hne
    rw [he, if_neg hz, if_neg hz, if_neg (by decide), if_neg hne]

set_option maxRecDepth 100000 in
set_option maxHeartbeats 1000000 in
theorem refPut_dead (B Z typ : Int) (hB : -9223372036854775808 ≤ B ∧ B ≤ 9223372036854775807) (hZ : -9223372036854775808 ≤ Z ∧ Z ≤ 9223372036854775807) (Ab : Option Addr) (L c : Nat) (f : Nat → Nat) (p cap i : Nat) (A : Option Addr) (w : World) (ht : Tp w p A cap i 0 0 0 0 0 0 (.slice none 0 0) false)
    (T : Nat → Ans) (hbad : ¬ Rg.right B Z ∨ typ < 1 ∨ Z < 8 * (L : Int)) :
    Calls Tryz.prog 42 #[.pointer (some ⟨p, 0, none⟩), .agg #[.int .i64 B, .int .i64 Z], .int .i32 typ, .slice Ab L c] w (PutSays p A cap i ((Pm.new B Z typ f L).at T i) w) := by
  have hb0 := un_below w (.int .i64 B) (.int .i64 Z) 26
  have hx := Go.Deep.blk_alloc_new w (.cells #[.int .i64 B, .int .i64 Z] 26)
  have HBZ := Lib.hid (And.intro hB hZ)
  have HTP := Lib.hid (ht.below hb0)
  obtain ⟨m, hm⟩ : ∃ m : Pm, m = (Pm.new B Z typ f L).at T i := ⟨_, rfl⟩
  rw [← hm]
  have HM := Lib.hid hm
  clear hB hZ ht hm
  by_cases h1 : Rg.right B Z
  · have HOK := Lib.hid h1
    have hz0 : 64 ≤ Z := h1.2.1
    have hz1 : Z ≤ 8192 := h1.2.2.1
    have HR := Lib.hid (decide_eq_true h1)
    clear h1
    by_cases h2 : typ < 1
    · have HT := Lib.hid h2
      have hdt : decide (typ < 1) = true := by simpa using h2
      clear h2 hbad
      go_enter Tryz.func42, Tryz.ntmps42
      go_upto_region 1 with (fail)
      generalize w.alloc (.cells #[.int .i64 B, .int .i64 Z] 26) = W at hb0 hx HTP ⊢
      have x0 : W.cell? ⟨w.heap.size, 0, none⟩ = some (.int .i64 B) := by simp [World.cell?, hx]
      have x1 : W.cell? ⟨w.heap.size, 1, none⟩ = some (.int .i64 Z) := by simp [World.cell?, hx]
      clear hx
      go_wp2_with (go_at_call 62; refine (refRight_any B Z HBZ.out.1 HBZ.out.2 W).mono ?_; rintro e w1 ⟨rfl, hb1⟩; rw [HR.out])
      refine bodyPost_ret (v := .tuple #[.int .i64 0, .bool false, .int .i64 1]) (by simp [results, Tryz.results42, go_sem]) rfl ?_
      exact putSays_dead (Z := 0) (er := 0) (by rw [HM.out]; exact Pm.at_dead (by unfold Pm.new; rw [if_pos (.inr HT.out)]) i) 1 rfl (by decide) ((Touch.of_below hb0).trans (Touch.of_below hb1)) (HTP.out.below hb1)
    · have HT := Lib.hid h2
      have hdt : decide (typ < 1) = false := by simpa using h2
      have h3 : Z < 8 * (L : Int) := by
        rcases hbad with h | h | h
        · exact absurd HOK.out h
        · exact absurd h h2
        · exact h
      have HL := Lib.hid h3
      have hdl : Z / 8 < (L : Int) := by omega
      have hdd : decide (Z / 8 < (L : Int)) = true := by simpa using hdl
      clear h2 hbad h3
      go_enter Tryz.func42, Tryz.ntmps42
      go_upto_region 1 with (fail)
      generalize w.alloc (.cells #[.int .i64 B, .int .i64 Z] 26) = W at hb0 hx HTP ⊢
      have x0 : W.cell? ⟨w.heap.size, 0, none⟩ = some (.int .i64 B) := by simp [World.cell?, hx]
      have x1 : W.cell? ⟨w.heap.size, 1, none⟩ = some (.int .i64 Z) := by simp [World.cell?, hx]
      have hlx := (Array.getElem?_eq_some_iff.1 hx).1
      clear hx
      go_wp2_with (go_at_call 62; refine (refRight_any B Z HBZ.out.1 HBZ.out.2 W).mono ?_; rintro e w1 ⟨rfl, hb1⟩; rw [HR.out]; have y0 := (hb1.cell (p := ⟨w.heap.size, 0, none⟩) hlx).trans x0; have y1 := (hb1.cell (p := ⟨w.heap.size, 1, none⟩) hlx).trans x1)
      refine bodyPost_ret (v := .tuple #[.int .i64 0, .bool false, .int .i64 4]) (by simp [results, Tryz.results42, go_sem]) rfl ?_
      exact putSays_dead (Z := Z) (er := 4) (by rw [HM.out]; exact Pm.at_dead (by unfold Pm.new; rw [if_neg (fun h => h.elim (fun h => h HOK.out) (fun h => by have := HT.out; omega)), if_pos HL.out]) i) 4 (by rw [if_neg (by omega)]) (by decide) ((Touch.of_below hb0).trans (Touch.of_below hb1)) (HTP.out.below hb1)
  · have HR := Lib.hid (decide_eq_false h1)
    have HN := Lib.hid h1
    clear h1 hbad
    go_enter Tryz.func42, Tryz.ntmps42
    go_upto_region 1 with (fail)
    generalize w.alloc (.cells #[.int .i64 B, .int .i64 Z] 26) = W at hb0 hx HTP ⊢
    have x0 : W.cell? ⟨w.heap.size, 0, none⟩ = some (.int .i64 B) := by simp [World.cell?, hx]
    have x1 : W.cell? ⟨w.heap.size, 1, none⟩ = some (.int .i64 Z) := by simp [World.cell?, hx]
    clear hx
    go_wp2_with (go_at_call 62; refine (refRight_any B Z HBZ.out.1 HBZ.out.2 W).mono ?_; rintro e w1 ⟨rfl, hb1⟩; rw [HR.out])
    refine bodyPost_ret (v := .tuple #[.int .i64 0, .bool false, .int .i64 1]) (by simp [results, Tryz.results42, go_sem]) rfl ?_
    exact putSays_dead (Z := 0) (er := 0) (by rw [HM.out]; exact Pm.at_dead (by unfold Pm.new; rw [if_pos (.inl HN.out)]) i) 1 rfl (by decide) ((Touch.of_below hb0).trans (Touch.of_below hb1)) (HTP.out.below hb1)

/-- The document's put, of whatever ring, type and bytes, on a tape that was told i answers. -/
theorem refPut_any (B Z typ : Int) (hB : -9223372036854775808 ≤ B ∧ B ≤ 9223372036854775807) (hZ : -9223372036854775808 ≤ Z ∧ Z ≤ 9223372036854775807) (htyp2 : typ ≤ 2147483647) (Ab : Option Addr) (L c : Nat) (hLc : L ≤ c) (hc : c ≤ 9223372036854775807) (f : Nat → Nat) (hf : Mb.IsB f)
    (p cap i : Nat) (A : Option Addr) (hi : i ≤ cap) (hcap : cap ≤ 9223372036854775807) (T : Nat → Ans) (hA : 0 < i → ∀ a, A = some a → a.block ≠ p) (w : World) (hby : BytesAt w (.slice Ab L c) (Mb.bl f 0 L)) (hT : ToldAt w A i T) (ht : Tp w p A cap i 0 0 0 0 0 0 (.slice none 0 0) false) :
    Calls Tryz.prog 42 #[.pointer (some ⟨p, 0, none⟩), .agg #[.int .i64 B, .int .i64 Z], .int .i32 typ, .slice Ab L c] w (PutSays p A cap i ((Pm.new B Z typ f L).at T i) w) := by
  by_cases hbad : ¬ Rg.right B Z ∨ typ < 1 ∨ Z < 8 * (L : Int)
  · exact refPut_dead B Z typ hB hZ Ab L c f p cap i A w ht T hbad
  · have h1 : Rg.right B Z := Classical.byContradiction fun h => hbad (.inl h)
    have h2 : ¬ typ < 1 := fun h => hbad (.inr (.inl h))
    have h3 : ¬ Z < 8 * (L : Int) := fun h => hbad (.inr (.inr h))
    have hb : ((B.toNat : Nat) : Int) = B := Int.toNat_of_nonneg h1.2.2.2.1
    have hz : ((Z.toNat : Nat) : Int) = Z := Int.toNat_of_nonneg (by have := h1.2.1; omega)
    have hm : Pm.new B Z typ f L = .live ⟨B.toNat, Z.toNat, typ, f, L, 0, 0, 0, false, .ask, 0⟩ := by
      unfold Pm.new
      rw [if_neg (fun h => h.elim (fun h => h h1) h2), if_neg h3]
    have := refPut_live B.toNat Z.toNat typ (by rw [hb]; exact hB) (by rw [hz]; exact hZ) (by rw [hb, hz]; exact h1) h2 htyp2 Ab L c (by rw [hz]; exact h3) hLc hc f hf p cap i A hi hcap T hA w hby hT ht _ hm
    rw [hb, hz] at this
    exact this

theorem putNextU {w : World} {F : Nat → Prop} {g : Nat} {m : Pm} (h : PmAt w F g m) (hF : ∀ k, F k → k < w.heap.size) {a : Ac} (ha : a = m.next.getD Ac.zero) :
    Calls Tryz.prog 17 #[.pointer (some ⟨g, 0, none⟩)] w (fun e w' => ∃ A l c, e = .returned (.tuple #[.agg #[.int .i64 a.K, .int .i64 a.P, .int .i64 a.N, .int .u64 a.V, .int .u64 a.U, .slice A l c], .bool m.busy]) ∧ BytesAt w' (.slice A l c) a.bs ∧ Below w.heap.size w w') := by
  have hb : m.busy = m.next.isSome := by cases m <;> rfl
  refine (putNext h hF).mono ?_
  subst ha
  rw [hb]
  cases m.next with
  | none =>
    rintro e w' ⟨hb, rfl⟩
    exact ⟨none, 0, 0, rfl, BytesAt.nil _, hb⟩
  | some a =>
    rintro e w' ⟨hb, A, l, c, rfl, ho⟩
    exact ⟨A, l, c, rfl, ho.bytes, hb⟩

theorem Pm.result_pos (m : Pm) : (m.result.2 = 0 → m.result.1 = m.pos) ∧ (m.result.2 ≠ 0 → m.result.1 = 0) := by
  unfold Pm.result
  split
  · exact ⟨(fun h => by cases h), fun _ => rfl⟩
  · split
    · exact ⟨(fun h => by cases h), fun _ => rfl⟩
    · split
      · exact ⟨fun _ => rfl, fun h => absurd rfl h⟩
      · rename_i h
        exact ⟨fun h2 => absurd h2 h, fun _ => rfl⟩

set_option linter.unusedSimpArgs false in
set_option maxRecDepth 100000 in
set_option maxHeartbeats 2000000 in
theorem same7_any (B Z typ : Int) (hB : -9223372036854775808 ≤ B ∧ B ≤ 9223372036854775807) (hZ : -9223372036854775808 ≤ Z ∧ Z ≤ 9223372036854775807) (htyp2 : typ ≤ 2147483647) (Ab : Option Addr) (L c : Nat) (hLc : L ≤ c) (hc : c ≤ 9223372036854775807) (f : Nat → Nat) (hf : Mb.IsB f)
    (cap i : Nat) (A : Option Addr) (hi : i ≤ cap) (hcap : cap ≤ 9223372036854775807) (T : Nat → Ans) (w : World) (hby : BytesAt w (.slice Ab L c) (Mb.bl f 0 L)) (hT : ToldAt w A i T) {F : Nat → Prop} {g : Nat} (hp : PmAt w F g ((Pm.new B Z typ f L).at T i)) (hF : ∀ k, F k → k < w.heap.size) :
    Calls Tryz.prog 19 #[.pointer (some ⟨g, 0, none⟩), .slice A i cap, .agg #[.int .i64 B, .int .i64 Z], .int .i32 typ, .slice Ab L c] w (TrueBelow w) := by
  obtain ⟨m, hm⟩ : ∃ m : Pm, m = (Pm.new B Z typ f L).at T i := ⟨_, rfl⟩
  rw [← hm] at hp
  obtain ⟨W, hW⟩ : ∃ W, W = (w.alloc (.cells #[.int .i64 B, .int .i64 Z] 26)).alloc (.cells #[.slice A i cap, .int .i64 0, .int .i64 0, .int .i64 0, .int .i64 0, .int .u64 0, .int .u64 0, .slice none 0 0, .bool false] 84) := ⟨_, rfl⟩
  have hbW : Below w.heap.size w W := by rw [hW]; exact (un_below w (.int .i64 B) (.int .i64 Z) 26).alloc (un_below w (.int .i64 B) (.int .i64 Z) 26).size _
  have htp : Tp W (w.heap.size + 1) A cap i 0 0 0 0 0 0 (.slice none 0 0) false := ⟨by
    rw [hW]
    have := Go.Deep.blk_alloc_new (w.alloc (.cells #[.int .i64 B, .int .i64 Z] 26)) (.cells #[.slice A i cap, .int .i64 0, .int .i64 0, .int .i64 0, .int .i64 0, .int .u64 0, .int .u64 0, .slice none 0 0, .bool false] 84)
    rw [show (w.alloc (.cells #[.int .i64 B, .int .i64 Z] 26)).heap.size = w.heap.size + 1 by simp] at this
    exact this⟩
  have hA : 0 < i → ∀ a, A = some a → a.block ≠ w.heap.size + 1 := fun h0 a ha e => by
    obtain ⟨b, off, e2, hlt, _⟩ := hT h0
    rw [ha] at e2
    injection e2 with e2
    rw [e2] at e
    simp only at e
    omega
  have HPUT := Lib.hid (refPut_any B Z typ hB hZ htyp2 Ab L c hLc hc f hf (w.heap.size + 1) cap i A hi hcap T hA W (hby.below hbW) (hT.below hbW) htp)
  rw [← hm] at HPUT
  have HPW := Lib.hid (hp.keep hbW.size fun k hk => hbW.block k (hF k hk))
  have HFW := Lib.hid hF
  have HBW := Lib.hid hbW
  clear hB hZ htyp2 hLc hc hf hi hcap hby hT hp hF hbW htp hA hm
  go_enter Tryz.func19, Tryz.ntmps19
  go_wp2_with fail
  rw [← hW]
  clear hW
  refine HPUT.out.mono ?_
  rintro e w3 ⟨pos, hs, er, rfl, hto, h1, h2, h3, a, Bs, ls, cs, j, htq, hbq, ha⟩
  have HT3 := Lib.hid hto
  have hlow : Below w.heap.size w w3 := hto.below HBW.out HBW.out.size fun k hk => by have e : k = w.heap.size + 1 := hk; omega
  have HL3 := Lib.hid hlow
  have HP3 := Lib.hid (HPW.out.keep hto.size fun k hk => hto.block k (Nat.lt_of_lt_of_le (HFW.out k hk) HBW.out.size) fun e => by have := HFW.out k hk; have e : k = w.heap.size + 1 := e; omega)
  have HQ := Lib.hid (And.intro htq hbq)
  have HS := Lib.hid (And.intro h1 (And.intro h2 h3))
  have HAA := Lib.hid ha
  clear hto hlow htq hbq h1 h2 h3 ha HPUT HPW
  go_wp2_with fail
  refine (putNextU HP3.out (fun k hk => Nat.lt_of_lt_of_le (HFW.out k hk) HL3.out.size) HAA.out).mono ?_
  rintro e w4 ⟨An, ln, cn, rfl, hbn, hb4⟩
  have HN4 := Lib.hid hbn
  have HB4 := Lib.hid hb4
  clear hbn hb4
  go_wp2_with fail
  have hx5 := Go.Deep.blk_alloc_new w4 (.cells #[.int .i64 a.K, .int .i64 a.P, .int .i64 a.N, .int .u64 a.V, .int .u64 a.U, .slice An ln cn] 37)
  have hb5 := (Below.refl w4.heap.size w4).alloc (Nat.le_refl _) (.cells #[.int .i64 a.K, .int .i64 a.P, .int .i64 a.N, .int .u64 a.V, .int .u64 a.U, .slice An ln cn] 37)
  generalize w4.alloc (.cells #[.int .i64 a.K, .int .i64 a.P, .int .i64 a.N, .int .u64 a.V, .int .u64 a.U, .slice An ln cn] 37) = w5 at hx5 hb5 ⊢
  have hb35 := HB4.out.trans (hb5.mono HB4.out.size)
  have HP5 := Lib.hid (HP3.out.keep hb35.size fun k hk => hb35.block k (Nat.lt_of_lt_of_le (HFW.out k hk) HL3.out.size))
  have HX5 := Lib.hid hx5
  have HQ5 := Lib.hid (HQ.out.1.below hb35)
  have HB5 := Lib.hid (And.intro (HN4.out.below hb5) (HQ.out.2.below hb35))
  have HL5 := Lib.hid (HL3.out.trans (hb35.mono HL3.out.size))
  have hlx5 := (Array.getElem?_eq_some_iff.1 hx5).1
  clear hx5 hb5 hb35 HP3 HQ HN4 HB4 HL3 HT3
  refine (putAt HP5.out).mono ?_
  rintro e w6 ⟨rfl, j6, rfl⟩
  have hd6 := drewN_below w5 j6
  have HP6 := Lib.hid (HP5.out.keep hd6.size fun k hk => hd6.block k (Nat.lt_of_lt_of_le (HFW.out k hk) HL5.out.size))
  have HD6 := Lib.hid hd6
  clear hd6
  go_wp2_with fail
  refine (putResult HP6.out).mono ?_
  rintro e w7 ⟨rfl, j7, rfl⟩
  have hd7 := HD6.out.trans ((drewN_below (w5.drewN j6) j7).mono HD6.out.size)
  have HL7 := Lib.hid (HL5.out.trans (hd7.mono HL5.out.size))
  have htape := HQ5.out.below hd7
  have hxb := (hd7.block _ hlx5).trans HX5.out
  have HS1 := Lib.hid (HB5.out.1.below hd7)
  have HS2 := Lib.hid (HB5.out.2.below hd7)
  obtain ⟨h1, h2, h3⟩ := HS.out
  obtain ⟨p1, p2⟩ := m.result_pos
  rw [← h2] at p1 p2 ⊢
  clear HP5 HP6 HX5 HQ5 HB5 HL5 HD6 HS hd7 HAA
  generalize (w5.drewN j6).drewN j7 = w8 at htape hxb HS1 HS2 HL7 ⊢
  have d0 : w8.cell? ⟨w4.heap.size, 0, none⟩ = some (.int .i64 a.K) := by simp [World.cell?, hxb]
  have d1 : w8.cell? ⟨w4.heap.size, 1, none⟩ = some (.int .i64 a.P) := by simp [World.cell?, hxb]
  have d2 : w8.cell? ⟨w4.heap.size, 2, none⟩ = some (.int .i64 a.N) := by simp [World.cell?, hxb]
  have d3 : w8.cell? ⟨w4.heap.size, 3, none⟩ = some (.int .u64 a.V) := by simp [World.cell?, hxb]
  have d4 : w8.cell? ⟨w4.heap.size, 4, none⟩ = some (.int .u64 a.U) := by simp [World.cell?, hxb]
  have d5 : w8.cell? ⟨w4.heap.size, 5, none⟩ = some (.slice An ln cn) := by simp [World.cell?, hxb]
  have t2 := htape.c2
  have t3 := htape.c3
  have t4 := htape.c4
  have t5 := htape.c5
  have t6 := htape.c6
  have t7 := htape.c7
  have t8 := htape.c8
  subst h1
  generalize m.has = mh at *
  generalize m.busy = mb at *
  generalize m.result.1 = r1 at *
  generalize m.pos = mp at *
  clear htape hxb h2
  by_cases he : er = 0
  · have hp1 := p1 he
    have hp3 := h3 he
    subst he hp1 hp3
    go_wp2_with fail
    go_region_held3 (fun w' => w'.cell? ⟨w.heap.size + 1, 8, none⟩ = some (.bool mb) ∧ w'.cell? ⟨w.heap.size + 1, 2, none⟩ = some (.int .i64 a.K) ∧ w'.cell? ⟨w.heap.size + 1, 3, none⟩ = some (.int .i64 a.P) ∧ w'.cell? ⟨w.heap.size + 1, 4, none⟩ = some (.int .i64 a.N) ∧ w'.cell? ⟨w.heap.size + 1, 5, none⟩ = some (.int .u64 (a.V : Int)) ∧ w'.cell? ⟨w.heap.size + 1, 6, none⟩ = some (.int .u64 (a.U : Int)) ∧ w'.cell? ⟨w.heap.size + 1, 7, none⟩ = some (.slice Bs ls cs) ∧ w'.cell? ⟨w4.heap.size, 0, none⟩ = some (.int .i64 a.K) ∧ w'.cell? ⟨w4.heap.size, 1, none⟩ = some (.int .i64 a.P) ∧ w'.cell? ⟨w4.heap.size, 2, none⟩ = some (.int .i64 a.N) ∧ w'.cell? ⟨w4.heap.size, 3, none⟩ = some (.int .u64 a.V) ∧ w'.cell? ⟨w4.heap.size, 4, none⟩ = some (.int .u64 a.U) ∧ w'.cell? ⟨w4.heap.size, 5, none⟩ = some (.slice An ln cn)) (go_keep)
      (first | (go_at_call 36; refine (same_any a.K a.P a.N (a.V : Int) (a.U : Int) An Bs ln ls cn cs a.bs w8.drew (HS1.out.below (Below.refl w8.heap.size w8).drew) (HS2.out.below (Below.refl w8.heap.size w8).drew)).mono ?_; rintro e w9 ⟨rfl, hb9⟩; have hb9d := below_drew hb9; have kt8 := (hb9d.cell (p := ⟨w.heap.size + 1, 8, none⟩) (lt_of_cell t8)).trans t8; have kt2 := (hb9d.cell (p := ⟨w.heap.size + 1, 2, none⟩) (lt_of_cell t2)).trans t2; have kt3 := (hb9d.cell (p := ⟨w.heap.size + 1, 3, none⟩) (lt_of_cell t3)).trans t3; have kt4 := (hb9d.cell (p := ⟨w.heap.size + 1, 4, none⟩) (lt_of_cell t4)).trans t4; have kt5 := (hb9d.cell (p := ⟨w.heap.size + 1, 5, none⟩) (lt_of_cell t5)).trans t5; have kt6 := (hb9d.cell (p := ⟨w.heap.size + 1, 6, none⟩) (lt_of_cell t6)).trans t6; have kt7 := (hb9d.cell (p := ⟨w.heap.size + 1, 7, none⟩) (lt_of_cell t7)).trans t7; have kd0 := (hb9d.cell (p := ⟨w4.heap.size, 0, none⟩) (lt_of_cell d0)).trans d0; have kd1 := (hb9d.cell (p := ⟨w4.heap.size, 1, none⟩) (lt_of_cell d1)).trans d1; have kd2 := (hb9d.cell (p := ⟨w4.heap.size, 2, none⟩) (lt_of_cell d2)).trans d2; have kd3 := (hb9d.cell (p := ⟨w4.heap.size, 3, none⟩) (lt_of_cell d3)).trans d3; have kd4 := (hb9d.cell (p := ⟨w4.heap.size, 4, none⟩) (lt_of_cell d4)).trans d4; have kd5 := (hb9d.cell (p := ⟨w4.heap.size, 5, none⟩) (lt_of_cell d5)).trans d5))
    all_goals
      go_wp2
      go_ret
      exact ⟨rfl, HL7.out.trans (hb9d.mono HL7.out.size)⟩
  · have hp2 := p2 he
    subst hp2
    go_wp2_with fail
    refine wp_region_noPanic ?_
    refine wp_region_held_drew (S := fun w' => w'.cell? ⟨w.heap.size + 1, 8, none⟩ = some (.bool mb) ∧ w'.cell? ⟨w.heap.size + 1, 2, none⟩ = some (.int .i64 a.K) ∧ w'.cell? ⟨w.heap.size + 1, 3, none⟩ = some (.int .i64 a.P) ∧ w'.cell? ⟨w.heap.size + 1, 4, none⟩ = some (.int .i64 a.N) ∧ w'.cell? ⟨w.heap.size + 1, 5, none⟩ = some (.int .u64 (a.V : Int)) ∧ w'.cell? ⟨w.heap.size + 1, 6, none⟩ = some (.int .u64 (a.U : Int)) ∧ w'.cell? ⟨w.heap.size + 1, 7, none⟩ = some (.slice Bs ls cs) ∧ w'.cell? ⟨w4.heap.size, 0, none⟩ = some (.int .i64 a.K) ∧ w'.cell? ⟨w4.heap.size, 1, none⟩ = some (.int .i64 a.P) ∧ w'.cell? ⟨w4.heap.size, 2, none⟩ = some (.int .i64 a.N) ∧ w'.cell? ⟨w4.heap.size, 3, none⟩ = some (.int .u64 a.V) ∧ w'.cell? ⟨w4.heap.size, 4, none⟩ = some (.int .u64 a.U) ∧ w'.cell? ⟨w4.heap.size, 5, none⟩ = some (.slice An ln cn)) (by kernel_rfl) ?_ (fun hHeld => ?_)
    · (try dsimp only); go_keep
    refine wpAnyH_take (i := 0) (oi := _) (v := ?_) rfl (by kernel_rfl) (by kernel_rfl) (by kernel_rfl) (fun _ _ _ h => h) (Or.inl ⟨by rfl, ?_⟩) (by assumption) ?_
    rotate_left
    · (intro w hSw; (try dsimp only at hSw); go_simp; try (with_reducible rfl))
    try simp only [Act.put, Array.reduceGetElem, List.setIfInBounds_toArray, List.set_cons_zero, List.set_cons_succ]
    refine wpAnyH_take (i := 1) (oi := _) (v := ?_) rfl (by kernel_rfl) (by kernel_rfl) (by kernel_rfl) (fun _ _ _ h => h) (Or.inl ⟨by rfl, ?_⟩) (by assumption) ?_
    rotate_left
    · (intro w hSw; (try dsimp only at hSw); go_simp; try (with_reducible rfl))
    try simp only [Act.put, Array.reduceGetElem, List.setIfInBounds_toArray, List.set_cons_zero, List.set_cons_succ]
    refine wpAnyH_take (i := 2) (oi := _) (v := ?_) rfl (by kernel_rfl) (by kernel_rfl) (by kernel_rfl) (fun _ _ _ h => h) (Or.inl ⟨by rfl, ?_⟩) (by assumption) ?_
    rotate_left
    · (intro w hSw; (try dsimp only at hSw); go_simp; try (with_reducible rfl))
    try simp only [Act.put, Array.reduceGetElem, List.setIfInBounds_toArray, List.set_cons_zero, List.set_cons_succ]
    refine wpAnyH_take (i := 3) (oi := _) (v := ?_) rfl (by kernel_rfl) (by kernel_rfl) (by kernel_rfl) (fun _ _ _ h => h) (Or.inl ⟨by rfl, ?_⟩) (by assumption) ?_
    rotate_left
    · (intro w hSw; (try dsimp only at hSw); go_simp; try (with_reducible rfl))
    try simp only [Act.put, Array.reduceGetElem, List.setIfInBounds_toArray, List.set_cons_zero, List.set_cons_succ]
    refine wpAnyH_take (i := 4) (oi := _) (v := ?_) rfl (by kernel_rfl) (by kernel_rfl) (by kernel_rfl) (fun _ _ _ h => h) (Or.inl ⟨by rfl, ?_⟩) (by assumption) ?_
    rotate_left
    · (intro w hSw; (try dsimp only at hSw); go_simp; try (with_reducible rfl))
    try simp only [Act.put, Array.reduceGetElem, List.setIfInBounds_toArray, List.set_cons_zero, List.set_cons_succ]
    refine wpAnyH_take (i := 5) (oi := _) (v := ?_) rfl (by kernel_rfl) (by kernel_rfl) (by kernel_rfl) (fun _ _ _ h => h) (Or.inl ⟨by rfl, ?_⟩) (by assumption) ?_
    rotate_left
    · (intro w hSw; (try dsimp only at hSw); go_simp; try (with_reducible rfl))
    try simp only [Act.put, Array.reduceGetElem, List.setIfInBounds_toArray, List.set_cons_zero, List.set_cons_succ]
    refine wpAnyH_take (i := 6) (oi := _) (v := ?_) rfl (by kernel_rfl) (by kernel_rfl) (by kernel_rfl) (fun _ _ _ h => h) (Or.inl ⟨by rfl, ?_⟩) (by assumption) ?_
    rotate_left
    · (intro w hSw; (try dsimp only at hSw); go_simp; try (with_reducible rfl))
    try simp only [Act.put, Array.reduceGetElem, List.setIfInBounds_toArray, List.set_cons_zero, List.set_cons_succ]
    refine wpAnyH_take (i := 7) (oi := _) (v := ?_) rfl (by kernel_rfl) (by kernel_rfl) (by kernel_rfl) (fun _ _ _ h => h) (Or.inl ⟨by rfl, ?_⟩) (by assumption) ?_
    rotate_left
    · (intro w hSw; (try dsimp only at hSw); go_simp; try (with_reducible rfl))
    try simp only [Act.put, Array.reduceGetElem, List.setIfInBounds_toArray, List.set_cons_zero, List.set_cons_succ]
    refine wpAnyH_take (i := 8) (oi := _) (v := ?_) rfl (by kernel_rfl) (by kernel_rfl) (by kernel_rfl) (fun _ _ _ h => h) (Or.inl ⟨by rfl, ?_⟩) (by assumption) ?_
    rotate_left
    · (intro w hSw; (try dsimp only at hSw); go_simp; try (with_reducible rfl))
    try simp only [Act.put, Array.reduceGetElem, List.setIfInBounds_toArray, List.set_cons_zero, List.set_cons_succ]
    refine wpAnyH_take (i := 9) (oi := _) (v := ?_) rfl (by kernel_rfl) (by kernel_rfl) (by kernel_rfl) (fun _ _ _ h => h) (Or.inl ⟨by rfl, ?_⟩) (by assumption) ?_
    rotate_left
    · (intro w hSw; (try dsimp only at hSw); go_simp; try (with_reducible rfl))
    try simp only [Act.put, Array.reduceGetElem, List.setIfInBounds_toArray, List.set_cons_zero, List.set_cons_succ]
    refine wpAnyH_take (i := 10) (oi := _) (v := ?_) rfl (by kernel_rfl) (by kernel_rfl) (by kernel_rfl) (fun _ _ _ h => h) (Or.inl ⟨by rfl, ?_⟩) (by assumption) ?_
    rotate_left
    · (intro w hSw; (try dsimp only at hSw); go_simp; try (with_reducible rfl))
    try simp only [Act.put, Array.reduceGetElem, List.setIfInBounds_toArray, List.set_cons_zero, List.set_cons_succ]
    refine wpAnyH_take (i := 11) (oi := _) (v := ?_) rfl (by kernel_rfl) (by kernel_rfl) (by kernel_rfl) (fun _ _ _ h => h) (Or.inl ⟨by rfl, ?_⟩) (by assumption) ?_
    rotate_left
    · (intro w hSw; (try dsimp only at hSw); go_simp; try (with_reducible rfl))
    try simp only [Act.put, Array.reduceGetElem, List.setIfInBounds_toArray, List.set_cons_zero, List.set_cons_succ]
    refine wpAnyH_ready (rs := [12]) (by kernel_rfl) (by simp) ?_
    refine AllReadyH.cons (o := _) rfl (fun K9 hK => ?_) ?_
    rotate_left
    · exact AllReadyH.nil
    go_simp
    refine (same_any a.K a.P a.N (a.V : Int) (a.U : Int) An Bs ln ls cn cs a.bs w8.drew (HS1.out.below (Below.refl w8.heap.size w8).drew) (HS2.out.below (Below.refl w8.heap.size w8).drew)).mono ?_
    rintro e w9 ⟨rfl, hb9⟩
    have hb9d := below_drew hb9
    have kt8 := (hb9d.cell (p := ⟨w.heap.size + 1, 8, none⟩) (lt_of_cell t8)).trans t8
    have kt2 := (hb9d.cell (p := ⟨w.heap.size + 1, 2, none⟩) (lt_of_cell t2)).trans t2
    have kt3 := (hb9d.cell (p := ⟨w.heap.size + 1, 3, none⟩) (lt_of_cell t3)).trans t3
    have kt4 := (hb9d.cell (p := ⟨w.heap.size + 1, 4, none⟩) (lt_of_cell t4)).trans t4
    have kt5 := (hb9d.cell (p := ⟨w.heap.size + 1, 5, none⟩) (lt_of_cell t5)).trans t5
    have kt6 := (hb9d.cell (p := ⟨w.heap.size + 1, 6, none⟩) (lt_of_cell t6)).trans t6
    have kt7 := (hb9d.cell (p := ⟨w.heap.size + 1, 7, none⟩) (lt_of_cell t7)).trans t7
    have kd0 := (hb9d.cell (p := ⟨w4.heap.size, 0, none⟩) (lt_of_cell d0)).trans d0
    have kd1 := (hb9d.cell (p := ⟨w4.heap.size, 1, none⟩) (lt_of_cell d1)).trans d1
    have kd2 := (hb9d.cell (p := ⟨w4.heap.size, 2, none⟩) (lt_of_cell d2)).trans d2
    have kd3 := (hb9d.cell (p := ⟨w4.heap.size, 3, none⟩) (lt_of_cell d3)).trans d3
    have kd4 := (hb9d.cell (p := ⟨w4.heap.size, 4, none⟩) (lt_of_cell d4)).trans d4
    have kd5 := (hb9d.cell (p := ⟨w4.heap.size, 5, none⟩) (lt_of_cell d5)).trans d5
    refine hK.out _ _ ?_ (fun hHeld => ?_)
    · (try dsimp only); go_keep
    clear hK K9
    try simp only [Act.put, Array.reduceGetElem, List.setIfInBounds_toArray, List.set_cons_zero, List.set_cons_succ]
    refine wpAnyH_take (i := 13) (oi := _) (v := ?_) rfl (by kernel_rfl) (by kernel_rfl) (by kernel_rfl) (fun _ _ _ h => h) (Or.inl ⟨by rfl, ?_⟩) (by assumption) ?_
    rotate_left
    · (intro w hSw; (try dsimp only at hSw); go_simp; try (with_reducible rfl))
    try simp only [Act.put, Array.reduceGetElem, List.setIfInBounds_toArray, List.set_cons_zero, List.set_cons_succ]
    refine wpAnyH_take (i := 14) (oi := _) (v := ?_) rfl (by kernel_rfl) (by kernel_rfl) (by kernel_rfl) (fun _ _ _ h => h) (Or.inl ⟨by rfl, ?_⟩) (by assumption) ?_
    rotate_left
    · (intro w hSw; (try dsimp only at hSw); go_simp; try (with_reducible rfl))
    try simp only [Act.put, Array.reduceGetElem, List.setIfInBounds_toArray, List.set_cons_zero, List.set_cons_succ]
    refine wpAnyH_take (i := 15) (oi := _) (v := ?_) rfl (by kernel_rfl) (by kernel_rfl) (by kernel_rfl) (fun _ _ _ h => h) (Or.inl ⟨by rfl, ?_⟩) (by assumption) ?_
    rotate_left
    · (intro w hSw; (try dsimp only at hSw); go_simp; try (with_reducible rfl))
    try simp only [Act.put, Array.reduceGetElem, List.setIfInBounds_toArray, List.set_cons_zero, List.set_cons_succ]
    refine wpAnyH_take (i := 16) (oi := _) (v := ?_) rfl (by kernel_rfl) (by kernel_rfl) (by kernel_rfl) (fun _ _ _ h => h) (Or.inl ⟨by rfl, ?_⟩) (by assumption) ?_
    rotate_left
    · (intro w hSw; (try dsimp only at hSw); go_simp; try (with_reducible rfl))
    try simp only [Act.put, Array.reduceGetElem, List.setIfInBounds_toArray, List.set_cons_zero, List.set_cons_succ]
    refine wpAnyH_take (i := 17) (oi := _) (v := ?_) rfl (by kernel_rfl) (by kernel_rfl) (by kernel_rfl) (fun _ _ _ h => h) (Or.inl ⟨by rfl, ?_⟩) (by assumption) ?_
    rotate_left
    · (intro w hSw; (try dsimp only at hSw); go_simp; try (with_reducible rfl))
    try simp only [Act.put, Array.reduceGetElem, List.setIfInBounds_toArray, List.set_cons_zero, List.set_cons_succ]
    refine wpAnyH_take (i := 18) (oi := _) (v := ?_) rfl (by kernel_rfl) (by kernel_rfl) (by kernel_rfl) (fun _ _ _ h => h) (Or.inl ⟨by rfl, ?_⟩) (by assumption) ?_
    rotate_left
    · (intro w hSw; (try dsimp only at hSw); go_simp; try (with_reducible rfl))
    try simp only [Act.put, Array.reduceGetElem, List.setIfInBounds_toArray, List.set_cons_zero, List.set_cons_succ]
    refine wpAnyH_take (i := 19) (oi := _) (v := ?_) rfl (by kernel_rfl) (by kernel_rfl) (by kernel_rfl) (fun _ _ _ h => h) (Or.inl ⟨by rfl, ?_⟩) (by assumption) ?_
    rotate_left
    · (intro w hSw; (try dsimp only at hSw); go_simp; try (with_reducible rfl))
    try simp only [Act.put, Array.reduceGetElem, List.setIfInBounds_toArray, List.set_cons_zero, List.set_cons_succ]
    refine wpAnyH_take (i := 20) (oi := _) (v := ?_) rfl (by kernel_rfl) (by kernel_rfl) (by kernel_rfl) (fun _ _ _ h => h) (Or.inl ⟨by rfl, ?_⟩) (by assumption) ?_
    rotate_left
    · (intro w hSw; (try dsimp only at hSw); go_simp; try (with_reducible rfl))
    try simp only [Act.put, Array.reduceGetElem, List.setIfInBounds_toArray, List.set_cons_zero, List.set_cons_succ]
    refine wpAnyH_take (i := 21) (oi := _) (v := ?_) rfl (by kernel_rfl) (by kernel_rfl) (by kernel_rfl) (fun _ _ _ h => h) (Or.inl ⟨by rfl, ?_⟩) (by assumption) ?_
    rotate_left
    · (intro w hSw; (try dsimp only at hSw); go_simp; try (with_reducible rfl))
    try simp only [Act.put, Array.reduceGetElem, List.setIfInBounds_toArray, List.set_cons_zero, List.set_cons_succ]
    refine wpAnyH_take (i := 22) (oi := _) (v := ?_) rfl (by kernel_rfl) (by kernel_rfl) (by kernel_rfl) (fun _ _ _ h => h) (Or.inl ⟨by rfl, ?_⟩) (by assumption) ?_
    rotate_left
    · (intro w hSw; (try dsimp only at hSw); go_simp; try (with_reducible rfl))
    try simp only [Act.put, Array.reduceGetElem, List.setIfInBounds_toArray, List.set_cons_zero, List.set_cons_succ]
    refine wpAnyH_take (i := 23) (oi := _) (v := ?_) rfl (by kernel_rfl) (by kernel_rfl) (by kernel_rfl) (fun _ _ _ h => h) (Or.inl ⟨by rfl, ?_⟩) (by assumption) ?_
    rotate_left
    · (intro w hSw; (try dsimp only at hSw); go_simp; try (with_reducible rfl))
    try simp only [Act.put, Array.reduceGetElem, List.setIfInBounds_toArray, List.set_cons_zero, List.set_cons_succ]
    refine wpAnyH_take (i := 24) (oi := _) (v := ?_) rfl (by kernel_rfl) (by kernel_rfl) (by kernel_rfl) (fun _ _ _ h => h) (Or.inl ⟨by rfl, ?_⟩) (by assumption) ?_
    rotate_left
    · (intro w hSw; (try dsimp only at hSw); go_simp; try (with_reducible rfl))
    try simp only [Act.put, Array.reduceGetElem, List.setIfInBounds_toArray, List.set_cons_zero, List.set_cons_succ]
    refine wpAnyH_take (i := 25) (oi := _) (v := ?_) rfl (by kernel_rfl) (by kernel_rfl) (by kernel_rfl) (fun _ _ _ h => h) (Or.inl ⟨by rfl, ?_⟩) (by assumption) ?_
    rotate_left
    · (intro w hSw; (try dsimp only at hSw); go_simp; try (with_reducible rfl))
    try simp only [Act.put, Array.reduceGetElem, List.setIfInBounds_toArray, List.set_cons_zero, List.set_cons_succ]
    refine wpAnyH_take (i := 26) (oi := _) (v := ?_) rfl (by kernel_rfl) (by kernel_rfl) (by kernel_rfl) (fun _ _ _ h => h) (Or.inl ⟨by rfl, ?_⟩) (by assumption) ?_
    rotate_left
    · (intro w hSw; (try dsimp only at hSw); go_simp; try (with_reducible rfl))
    try simp only [Act.put, Array.reduceGetElem, List.setIfInBounds_toArray, List.set_cons_zero, List.set_cons_succ]
    refine wpAnyH_take (i := 27) (oi := _) (v := ?_) rfl (by kernel_rfl) (by kernel_rfl) (by kernel_rfl) (fun _ _ _ h => h) (Or.inl ⟨by rfl, ?_⟩) (by assumption) ?_
    rotate_left
    · (intro w hSw; (try dsimp only at hSw); go_simp; try (with_reducible rfl))
    try simp only [Act.put, Array.reduceGetElem, List.setIfInBounds_toArray, List.set_cons_zero, List.set_cons_succ]
    refine wpAnyH_take (i := 28) (oi := _) (v := ?_) rfl (by kernel_rfl) (by kernel_rfl) (by kernel_rfl) (fun _ _ _ h => h) (Or.inl ⟨by rfl, ?_⟩) (by assumption) ?_
    rotate_left
    · (intro w hSw; (try dsimp only at hSw); go_simp; try (with_reducible rfl))
    try simp only [Act.put, Array.reduceGetElem, List.setIfInBounds_toArray, List.set_cons_zero, List.set_cons_succ]
    refine wpAnyH_take (i := 29) (oi := _) (v := ?_) rfl (by kernel_rfl) (by kernel_rfl) (by kernel_rfl) (fun _ _ _ h => h) (Or.inl ⟨by rfl, ?_⟩) (by assumption) ?_
    rotate_left
    · (intro w hSw; (try dsimp only at hSw); go_simp; try (with_reducible rfl))
    try simp only [Act.put, Array.reduceGetElem, List.setIfInBounds_toArray, List.set_cons_zero, List.set_cons_succ]
    refine wpAnyH_take (i := 30) (oi := _) (v := ?_) rfl (by kernel_rfl) (by kernel_rfl) (by kernel_rfl) (fun _ _ _ h => h) (Or.inl ⟨by rfl, ?_⟩) (by assumption) ?_
    rotate_left
    · (intro w hSw; (try dsimp only at hSw); go_simp; try (with_reducible rfl))
    try simp only [Act.put, Array.reduceGetElem, List.setIfInBounds_toArray, List.set_cons_zero, List.set_cons_succ]
    refine wpAnyH_take (i := 31) (oi := _) (v := ?_) rfl (by kernel_rfl) (by kernel_rfl) (by kernel_rfl) (fun _ _ _ h => h) (Or.inl ⟨by rfl, ?_⟩) (by assumption) ?_
    rotate_left
    · (intro w hSw; (try dsimp only at hSw); go_simp; try (with_reducible rfl))
    try simp only [Act.put, Array.reduceGetElem, List.setIfInBounds_toArray, List.set_cons_zero, List.set_cons_succ]
    try simp only [hd2]
    refine wpAnyH_take (i := 32) (oi := _) (v := ?_) rfl (by kernel_rfl) (by kernel_rfl) (by kernel_rfl) (fun _ _ _ h => h) (Or.inl ⟨by rfl, ?_⟩) (by assumption) ?_
    rotate_left
    · (intro w hSw; (try dsimp only at hSw); go_simp; try (with_reducible rfl))
    try simp only [Act.put, Array.reduceGetElem, List.setIfInBounds_toArray, List.set_cons_zero, List.set_cons_succ]
    refine wpAnyH_take (i := 33) (oi := _) (v := undef) rfl (by kernel_rfl) (by kernel_rfl) (by kernel_rfl) (fun _ _ _ h => h) (Or.inr ⟨by rfl, rfl⟩) (by assumption) ?_
    try simp only [Act.put, Array.reduceGetElem, List.setIfInBounds_toArray, List.set_cons_zero, List.set_cons_succ]
    refine wpAnyH_take (i := 34) (oi := _) (v := undef) rfl (by kernel_rfl) (by kernel_rfl) (by kernel_rfl) (fun _ _ _ h => h) (Or.inr ⟨by rfl, rfl⟩) (by assumption) ?_
    try simp only [Act.put, Array.reduceGetElem, List.setIfInBounds_toArray, List.set_cons_zero, List.set_cons_succ]
    refine wpAnyH_take (i := 35) (oi := _) (v := undef) rfl (by kernel_rfl) (by kernel_rfl) (by kernel_rfl) (fun _ _ _ h => h) (Or.inr ⟨by rfl, rfl⟩) (by assumption) ?_
    try simp only [Act.put, Array.reduceGetElem, List.setIfInBounds_toArray, List.set_cons_zero, List.set_cons_succ]
    refine wpAnyH_take (i := 36) (oi := _) (v := ?_) rfl (by kernel_rfl) (by kernel_rfl) (by kernel_rfl) (fun _ _ _ h => h) (Or.inl ⟨by rfl, ?_⟩) (by assumption) ?_
    rotate_left
    · (intro w hSw; (try dsimp only at hSw); go_simp; try (with_reducible rfl))
    try simp only [Act.put, Array.reduceGetElem, List.setIfInBounds_toArray, List.set_cons_zero, List.set_cons_succ]
    refine wpAnyH_take (i := 37) (oi := _) (v := ?_) rfl (by kernel_rfl) (by kernel_rfl) (by kernel_rfl) (fun _ _ _ h => h) (Or.inl ⟨by rfl, ?_⟩) (by assumption) ?_
    rotate_left
    · (intro w hSw; (try dsimp only at hSw); go_simp; try (with_reducible rfl))
    try simp only [Act.put, Array.reduceGetElem, List.setIfInBounds_toArray, List.set_cons_zero, List.set_cons_succ]
    refine wpAnyH_take (i := 38) (oi := _) (v := ?_) rfl (by kernel_rfl) (by kernel_rfl) (by kernel_rfl) (fun _ _ _ h => h) (Or.inl ⟨by rfl, ?_⟩) (by assumption) ?_
    rotate_left
    · (intro w hSw; (try dsimp only at hSw); go_simp; try (with_reducible rfl))
    try simp only [Act.put, Array.reduceGetElem, List.setIfInBounds_toArray, List.set_cons_zero, List.set_cons_succ]
    refine wpAnyH_done (by kernel_rfl) ?_ _
    refine NoPanic.normal ?_
    go_wp2
    go_ret
    exact ⟨rfl, HL7.out.trans (hb9d.mono HL7.out.size)⟩
end Go.Proofs.YtbhhegikfadpiaaGreat
namespace Go.Proofs.YtbhhegikfadpiaaGreat
open Go.RowKit

/-- Is there such an actor? -/
def hasB (na : Nat) (i : Int) : Bool := decide (0 ≤ i) && decide (i < (na : Int))
theorem hasB_yes {na : Nat} {i : Int} (h : hasB na i = true) : 0 ≤ i ∧ i < (na : Int) := by simpa [hasB] using h
theorem hasB_no {na : Nat} {i : Int} (h : hasB na i = false) : i < 0 ∨ (na : Int) ≤ i := by
  simp [hasB] at h
  omega


/-- Is there such an actor, and is it dead? -/
def St.deadB (st : St) (i : Int) : Bool := hasB st.na i && st.dead i.toNat

/-- Is there such an actor, and is it at its end? -/
def St.endB (st : St) (i : Int) : Bool := hasB st.na i && (st.ms i.toNat).next.isNone

end Go.Proofs.YtbhhegikfadpiaaGreat
namespace Go.Proofs.YtbhhegikfadpiaaGreat
open Go.RowKit

/-- The error of a pick, ahead of what its access may meet. -/
def St.chk (st : St) (p : Pk) : Int :=
  if p.K = 0 ∨ p.K = 1 then (if hasB st.na p.A = true then (if st.dead p.A.toNat = true then 11 else 0) else 2)
  else if p.K = 2 ∧ 0 ≤ p.N ∧ p.N ≤ 1099511627776 then 0 else 1

theorem cell_one {W : World} {b : Nat} {T : TypeId} {u0 u1 u2 : Value} (h : W.heap[b]? = some (.cells #[u0, u1, u2] T (0, 0))) : W.cell? ⟨b, 1, none⟩ = some u1 := by simp [World.cell?, h]

/-- What a step or a kill of an actor answers: it was killed, or not. -/
def deadErr (d : Bool) : Int := bif d then 11 else 0

end Go.Proofs.YtbhhegikfadpiaaGreat
namespace Go.Proofs.YtbhhegikfadpiaaGreat
open Go.RowKit

/-- The first i actors were told the clock c. -/
def St.ticks (st : St) (c : Int) (i : Nat) : St := { st with clock := c, ms := fun j => if j < i ∧ st.dead j = false then (st.ms j).tick c else st.ms j }

theorem St.ticks_zero (st : St) (c : Int) : { st with clock := c } = st.ticks c 0 := by
  unfold St.ticks
  congr 1

theorem St.ticks_dead (st : St) (c : Int) (i : Nat) (hd : st.dead i = true) : st.ticks c i = st.ticks c (i + 1) := by
  unfold St.ticks
  congr 1
  funext j
  by_cases e : j = i
  · subst e
    rw [if_neg (fun h => by omega), if_neg (fun h => by rw [hd] at h; cases h.2)]
  · by_cases h : j < i ∧ st.dead j = false
    · rw [if_pos h, if_pos ⟨by omega, h.2⟩]
    · rw [if_neg h, if_neg (fun h2 => h ⟨by omega, h2.2⟩)]

theorem St.ticks_next (st : St) (c : Int) (i : Nat) (hd : st.dead i = false) : { st.ticks c i with ms := upd (st.ticks c i).ms i (((st.ticks c i).ms i).tick c) } = st.ticks c (i + 1) := by
  have e : upd (st.ticks c i).ms i (((st.ticks c i).ms i).tick c) = (st.ticks c (i + 1)).ms := by
    funext j
    show upd (fun j => if j < i ∧ st.dead j = false then (st.ms j).tick c else st.ms j) i ((if i < i ∧ st.dead i = false then (st.ms i).tick c else st.ms i).tick c) j = if j < i + 1 ∧ st.dead j = false then (st.ms j).tick c else st.ms j
    by_cases e : j = i
    · subst e
      rw [upd_same, if_neg (fun h => by omega), if_pos ⟨by omega, hd⟩]
    · rw [upd_other _ _ _ e]
      by_cases h : j < i ∧ st.dead j = false
      · rw [if_pos h, if_pos ⟨by omega, h.2⟩]
      · rw [if_neg h, if_neg (fun h2 => h ⟨by omega, h2.2⟩)]
  rw [e]
  rfl

/-- What a call did, and what one behind it did. -/
theorem own_trans {o o1 o2 : Nat → Pt} {w w1 w2 : World} (ht : Touch (Own o) w w1) (ho : ∀ k, k < w.heap.size → o1 k = o k) (ht2 : Touch (Own o1) w1 w2) (ho2 : ∀ k, k < w1.heap.size → o2 k = o1 k) :
    Touch (Own o) w w2 ∧ ∀ k, k < w.heap.size → o2 k = o k :=
  ⟨⟨ht2.os.trans ht.os, ht2.tape.trans ht.tape, ht2.output.trans ht.output, Nat.le_trans ht.size ht2.size, fun k hk hn => (ht2.block k (Nat.lt_of_lt_of_le hk ht.size) (fun h => hn (by unfold Own at h ⊢; rw [ho k hk] at h; exact h))).trans (ht.block k hk hn)⟩,
    fun k hk => (ho2 k (Nat.lt_of_lt_of_le hk ht.size)).trans (ho k hk)⟩

theorem moved_cell {F : Nat → Prop} {x : Value} {s : Mc} {w w' : World} (h : Moved F x s w w') {p : Addr} (hp : p.block < w.heap.size) (hn : ¬ F p.block) : w'.cell? p = w.cell? p := by
  obtain ⟨_, _, ht, _⟩ := h
  exact ht.cell hp hn

theorem cell_box {W : World} {b : Nat} {T : TypeId} {u0 u1 : Value} (h : W.heap[b]? = some (.cells #[u0, u1] T (0, 0))) : W.cell? ⟨b, 0, none⟩ = some u0 := by simp [World.cell?, h]

end Go.Proofs.YtbhhegikfadpiaaGreat
