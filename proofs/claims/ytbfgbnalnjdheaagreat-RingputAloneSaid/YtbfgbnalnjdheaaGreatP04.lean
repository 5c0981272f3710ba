/-
  The steps follow a copy: its next access is asked for; at its end something else goes on.
  A slice that reads as bytes, and lies in blocks that K names; no function of the program is walked here.
  Layer 5's In, Zero, Out and Bytes, walked.
  Layer 7's put in memory: its block, the closure that goes on from its answer, and what that captured.
  Layer 7's put, walked: it begins, it tries, it claims.
  Layer 7's put, walked: it waits for room, and chooses.
  Layer 7's put, walked: what goes on from an answer.
  Layer 7's put, walked: what goes on where room was waited for.
  Layer 7's put, walked: the message's writing begins.
  Layer 7's put, walked: behind the padding's header the message is written; behind the length nothing goes on.
-/
import Derived.Test.YtbfgbnalnjdheaaGreatP03
import Derived.Test.YtbfgbnalnjdheaaGreatP02
import Derived.Test.YtbfgbnalnjdheaaGreatP01
import Derived.Deep.RegionHeld3
import Derived.Laws.EntriesVeiled
import Derived.Deep.CutRange
import Derived.Deep.DeepCutAuto
namespace Go.Proofs.YtbfgbnalnjdheaaGreat
open Go.RowKit

theorem rp_box (w : World) (v : Value) (T : TypeId) : (w.alloc (.cells #[v] T)).cell? ⟨w.heap.size, 0, none⟩ = some v := by
  have h := Go.Deep.blk_alloc_new w (.cells #[v] T)
  unfold World.cell?
  simp only [h]
  rfl

theorem rp_boxes (w : World) (v0 v1 v2 : Value) (T0 T1 T2 : TypeId) (WW : World) (hWW : WW = ((w.alloc (.cells #[v0] T0)).alloc (.cells #[v1] T1)).alloc (.cells #[v2] T2)) :
    Below w.heap.size w WW ∧ WW.cell? ⟨w.heap.size, 0, none⟩ = some v0 ∧ WW.cell? ⟨w.heap.size + 1, 0, none⟩ = some v1 ∧ WW.cell? ⟨w.heap.size + 2, 0, none⟩ = some v2 ∧ WW.heap.size = w.heap.size + 3 := by
  have b1 := (Below.refl w.heap.size w).alloc (Nat.le_refl _) (.cells #[v0] T0)
  have x1 := rp_box w v0 T0
  have s1 : (w.alloc (.cells #[v0] T0)).heap.size = w.heap.size + 1 := by simp
  generalize w.alloc (.cells #[v0] T0) = W1 at *
  have b2 := (Below.refl W1.heap.size W1).alloc (Nat.le_refl _) (.cells #[v1] T1)
  have x2 := rp_box W1 v1 T1
  have s2 : (W1.alloc (.cells #[v1] T1)).heap.size = W1.heap.size + 1 := by simp
  have y1 := (b2.cell (p := ⟨w.heap.size, 0, none⟩) (by show w.heap.size < _; omega)).trans x1
  generalize W1.alloc (.cells #[v1] T1) = W2 at *
  have b3 := (Below.refl W2.heap.size W2).alloc (Nat.le_refl _) (.cells #[v2] T2)
  have x3 := rp_box W2 v2 T2
  have s3 : (W2.alloc (.cells #[v2] T2)).heap.size = W2.heap.size + 1 := by simp
  have z1 := (b3.cell (p := ⟨w.heap.size, 0, none⟩) (by show w.heap.size < _; omega)).trans y1
  have z2 := (b3.cell (p := ⟨W1.heap.size, 0, none⟩) (by show W1.heap.size < _; omega)).trans x2
  rw [s1] at z2
  rw [s2, s1] at x3
  subst hWW
  exact ⟨(b1.trans (b2.mono (by omega))).trans (b3.mono (by omega)), z1, z2, x3, by omega⟩

set_option maxRecDepth 100000 in
set_option maxHeartbeats 1600000 in
theorem stFollowNo {w : World} {base top gc d : Nat} {kd : Kd} {v : Value} {ys : List Int} (h : Cp w base top gc kd d 0 v ys) (g o : Nat) {k : FuncId} {rc caps : Array Value} {Q : World → Prop}
    (args : Array Value) (hargs : rc ++ caps = args) (hent : ∀ w, (callFunc k args).run Tryz.prog w = .ok (.enter k args) w)
    (H : ∀ W, Below w.heap.size w W → Calls Tryz.prog k args W fun e w' => e = .returned (.tuple #[]) ∧ Q w') :
    Calls Tryz.prog 114 #[.pointer (some ⟨g, o, none⟩), .iface 168 (.pointer (some ⟨gc, 0, none⟩)), .func (.func k) rc caps] w fun e w' => e = .returned (.tuple #[]) ∧ Q w' := by
  obtain ⟨WW, hWW⟩ : ∃ WW, WW = ((w.alloc (.cells #[.pointer (some ⟨g, o, none⟩)] 117)).alloc (.cells #[.iface 168 (.pointer (some ⟨gc, 0, none⟩))] 170)).alloc (.cells #[.func (.func k) rc caps] 1) := ⟨_, rfl⟩
  obtain ⟨hw3, x0, x1, x2, hsz⟩ := rp_boxes w (.pointer (some ⟨g, o, none⟩)) (.iface 168 (.pointer (some ⟨gc, 0, none⟩))) (.func (.func k) rc caps) _ _ _ WW hWW
  have HC := Lib.hid (h.below hw3)
  have HW := Lib.hid hw3
  have HH := Lib.hid H
  have hme := method_next_at gc
  clear h hw3 H
  go_enter Tryz.func114, Tryz.ntmps114
  go_upto_region 1 with (fail)
  rw [← hWW]
  clear hWW
  have hent' : ∀ w, (callFunc k (rc ++ caps)).run Tryz.prog w = .ok (.enter k args) w := fun w => by rw [hargs]; exact hent w
  go_wp2_with (go_at_call 145; refine (next_no HC.out).mono ?_; rintro e w1 ⟨rfl, hb⟩; have y2 := (hb.cell (p := ⟨w.heap.size + 1 + 1, 0, none⟩) (show w.heap.size + 1 + 1 < WW.heap.size by omega)).trans x2; have z2 := fun q => (World.cell?_alloc_lt w1 q ⟨w.heap.size + 1 + 1, 0, none⟩ (lt_of_cell y2)).trans y2)
  refine (HH.out _ (HW.out.trans ((hb.alloc hb.size _).mono HW.out.size))).mono ?_
  rintro e w2 ⟨rfl, hq⟩
  go_wp2_with fail
  refine bodyPost_ret (v := .tuple #[]) (by simp [results, Tryz.results114, go_sem]) rfl ?_
  exact ⟨rfl, hq⟩

/-- A copy's next access was asked for; the steps, the copy and what goes on stand in boxes. -/
def StFollows (g o gc : Nat) (kon : FuncId) (rc caps : Array Value) (a : Ac) (w : World) (e : Ending) (w' : World) : Prop :=
  e = .returned (.tuple #[]) ∧ ∃ W A l c, Below w.heap.size w W ∧ Owns (w.heap.size + 3) W (.slice A l c) a.bs ∧
    W.cell? ⟨w.heap.size, 0, none⟩ = some (.pointer (some ⟨g, o, none⟩)) ∧ W.cell? ⟨w.heap.size + 1, 0, none⟩ = some (.iface 168 (.pointer (some ⟨gc, 0, none⟩))) ∧ W.cell? ⟨w.heap.size + 2, 0, none⟩ = some (.func (.func kon) rc caps) ∧
    w' = seven W g o a (.slice A l c) (.func (.func 119) #[] #[.pointer (some ⟨w.heap.size + 1, 0, none⟩), .pointer (some ⟨w.heap.size, 0, none⟩), .pointer (some ⟨w.heap.size + 2, 0, none⟩)])

set_option maxRecDepth 100000 in
set_option maxHeartbeats 1600000 in
theorem stFollowYes {w : World} {base top gc d r : Nat} {kd : Kd} {v : Value} {ys : List Int} (h : Cp w base top gc kd d r v ys) (hr : 0 < r) {g o : Nat} {a0 : Ac} {av th : Value} (hs : StAt w g o a0 av th) (kon : FuncId) (rc caps : Array Value) :
    Calls Tryz.prog 114 #[.pointer (some ⟨g, o, none⟩), .iface 168 (.pointer (some ⟨gc, 0, none⟩)), .func (.func kon) rc caps] w (StFollows g o gc kon rc caps ⟨kd.kind, kd.place + d, (Cy.nx r : Nat), 0, 0, kd.bytes d (Cy.nx r)⟩ w) := by
  obtain ⟨WW, hWW⟩ : ∃ WW, WW = ((w.alloc (.cells #[.pointer (some ⟨g, o, none⟩)] 117)).alloc (.cells #[.iface 168 (.pointer (some ⟨gc, 0, none⟩))] 170)).alloc (.cells #[.func (.func kon) rc caps] 1) := ⟨_, rfl⟩
  obtain ⟨hw3, x0, x1, x2, hsz⟩ := rp_boxes w (.pointer (some ⟨g, o, none⟩)) (.iface 168 (.pointer (some ⟨gc, 0, none⟩))) (.func (.func kon) rc caps) _ _ _ WW hWW
  have HC := Lib.hid (h.below hw3)
  have HS := Lib.hid (hs.below hw3)
  have HW := Lib.hid hw3
  have hme := method_next_at gc
  generalize hK : kd.kind = K
  generalize hP : kd.place + (d : Int) = P
  generalize hN : ((Cy.nx r : Nat) : Int) = N
  generalize hB : kd.bytes d (Cy.nx r) = b
  have HN := Lib.hid (next_as HC.out hr hK hP hN hB)
  clear hK hP hN hB h hs hw3 hr
  go_enter Tryz.func114, Tryz.ntmps114
  go_upto_region 1 with (fail)
  rw [← hWW]
  clear hWW
  have hl0 : w.heap.size < WW.heap.size := by omega
  have hl1 : w.heap.size + 1 < WW.heap.size := by omega
  have hl2 : w.heap.size + 1 + 1 < WW.heap.size := by omega
  have hmf : ∀ (fn : Fn) (first cap : Array Value) (w : World), (Instr.makeFunc fn first cap).run Tryz.prog w = .ok (.func fn first cap) w := fun _ _ _ _ => rfl
  go_upto_region 4 with (go_at_call 145; refine HN.out.mono ?_; rintro e w1 ⟨A, l, c, rfl, ho, hb⟩)
  have hx := Go.Deep.blk_alloc_new w1 (.cells #[.int .i64 K, .int .i64 P, .int .i64 N, .int .u64 0, .int .u64 0, .slice A l c] 58)
  have hb2 := hb.alloc hb.size (.cells #[.int .i64 K, .int .i64 P, .int .i64 N, .int .u64 0, .int .u64 0, .slice A l c] 58)
  have ho2 := ho.alloc (.cells #[.int .i64 K, .int .i64 P, .int .i64 N, .int .u64 0, .int .u64 0, .slice A l c] 58)
  have y0 := (hb2.cell (p := ⟨w.heap.size, 0, none⟩) hl0).trans x0
  have y1 := (hb2.cell (p := ⟨w.heap.size + 1, 0, none⟩) hl1).trans x1
  have y2 := (hb2.cell (p := ⟨w.heap.size + 1 + 1, 0, none⟩) hl2).trans x2
  have HO := Lib.hid ho2
  have HS2 := Lib.hid (HS.out.below hb2)
  have HB2 := Lib.hid hb2
  generalize w1.alloc (.cells #[.int .i64 K, .int .i64 P, .int .i64 N, .int .u64 0, .int .u64 0, .slice A l c] 58) = W2 at hx y0 y1 y2 HO HS2 HB2 ⊢
  have d0 : W2.cell? ⟨w1.heap.size, 0, none⟩ = some (.int .i64 K) := by simp [World.cell?, hx]
  have d1 : W2.cell? ⟨w1.heap.size, 1, none⟩ = some (.int .i64 P) := by simp [World.cell?, hx]
  have d2 : W2.cell? ⟨w1.heap.size, 2, none⟩ = some (.int .i64 N) := by simp [World.cell?, hx]
  have d3 : W2.cell? ⟨w1.heap.size, 3, none⟩ = some (.int .u64 0) := by simp [World.cell?, hx]
  have d4 : W2.cell? ⟨w1.heap.size, 4, none⟩ = some (.int .u64 0) := by simp [World.cell?, hx]
  have d5 : W2.cell? ⟨w1.heap.size, 5, none⟩ = some (.slice A l c) := by simp [World.cell?, hx]
  clear hx hb hb2 ho ho2 x0 x1 x2
  go_wp2_with fail
  refine (stDo HS2.out ⟨K, P, N, 0, 0, b⟩ A l c 119 #[] #[.pointer (some ⟨w.heap.size + 1, 0, none⟩), .pointer (some ⟨w.heap.size, 0, none⟩), .pointer (some ⟨w.heap.size + 1 + 1, 0, none⟩)]).mono ?_
  rintro e w4 ⟨rfl, W4, hb4, rfl⟩
  have z0 := (hb4.cell (p := ⟨w.heap.size, 0, none⟩) (lt_of_cell y0)).trans y0
  have z1 := (hb4.cell (p := ⟨w.heap.size + 1, 0, none⟩) (lt_of_cell y1)).trans y1
  have z2 := (hb4.cell (p := ⟨w.heap.size + 1 + 1, 0, none⟩) (lt_of_cell y2)).trans y2
  have hO4 := HO.out.below hb4
  have hB4 := HW.out.trans ((HB2.out.trans (hb4.mono HB2.out.size)).mono HW.out.size)
  go_wp2_with fail
  go_end0
  exact ⟨rfl, W4, A, l, c, hB4, by rw [← hsz]; exact hO4, z0, z1, z2, rfl⟩

set_option maxRecDepth 100000 in
set_option maxHeartbeats 1600000 in
/-- The copy's access was answered: the copy takes the answer, and is followed further. -/
theorem stFollow1 {w : World} {base top gc d r : Nat} {kd : Kd} {v : Value} {ys zs : List Int} (h : Cp w base top gc kd d r v ys) (hr : 0 < r) {g o em es eo : Nat} {kon : FuncId} {rc caps : Array Value}
    (hm : w.cell? ⟨em, 0, none⟩ = some (.iface 168 (.pointer (some ⟨gc, 0, none⟩)))) (hs : w.cell? ⟨es, 0, none⟩ = some (.pointer (some ⟨g, o, none⟩))) (ho : w.cell? ⟨eo, 0, none⟩ = some (.func (.func kon) rc caps))
    (hnm : ¬ Mine gc v em) (hns : ¬ Mine gc v es) (hno : ¬ Mine gc v eo)
    (V : Nat) (D : Bool) (A : Option Addr) (L cp : Nat) (hz : BytesAt w (.slice A L cp) zs) (hl : kd.reads = true → ys.length + zs.length ≤ 1073741824) {Q : World → Prop}
    (H : ∀ W v', Cp W base top gc kd (d + Cy.nx r) (r - Cy.nx r) v' (ys ++ if kd.reads then zs else []) → Touch (Mine gc v) w W → Lies v v' w →
      Calls Tryz.prog 114 #[.pointer (some ⟨g, o, none⟩), .iface 168 (.pointer (some ⟨gc, 0, none⟩)), .func (.func kon) rc caps] W fun e w' => e = .returned (.tuple #[]) ∧ Q w') :
    Calls Tryz.prog 119 #[.agg #[.int .u64 V, .bool D, .slice A L cp], .pointer (some ⟨em, 0, none⟩), .pointer (some ⟨es, 0, none⟩), .pointer (some ⟨eo, 0, none⟩)] w fun e w' => e = .returned (.tuple #[]) ∧ Q w' := by
  have hb0 := (Below.refl w.heap.size w).alloc (Nat.le_refl _) (.cells #[.int .u64 V, .bool D, .slice A L cp] 50)
  have hx := Go.Deep.blk_alloc_new w (.cells #[.int .u64 V, .bool D, .slice A L cp] 50)
  have m1 := (hb0.cell (p := ⟨em, 0, none⟩) (lt_of_cell hm)).trans hm
  have s1 := (hb0.cell (p := ⟨es, 0, none⟩) (lt_of_cell hs)).trans hs
  have o1 := (hb0.cell (p := ⟨eo, 0, none⟩) (lt_of_cell ho)).trans ho
  have HC := Lib.hid (h.below hb0)
  have HZ := Lib.hid (hz.below hb0)
  have HW := Lib.hid hb0
  have HR := Lib.hid hr
  have HL := Lib.hid hl
  have HH := Lib.hid H
  have HN := Lib.hid (And.intro hnm (And.intro hns hno))
  have hme := method_take_at gc
  clear h hb0 hm hs ho hz hr hl H hnm hns hno
  go_enter Tryz.func119, Tryz.ntmps119
  go_upto_region 1 with (fail)
  generalize w.alloc (.cells #[.int .u64 V, .bool D, .slice A L cp] 50) = W at hx HC HZ HW m1 s1 o1 ⊢
  have x0 : W.cell? ⟨w.heap.size, 0, none⟩ = some (.int .u64 V) := by simp [World.cell?, hx]
  have x1 : W.cell? ⟨w.heap.size, 1, none⟩ = some (.bool D) := by simp [World.cell?, hx]
  have x2 : W.cell? ⟨w.heap.size, 2, none⟩ = some (.slice A L cp) := by simp [World.cell?, hx]
  clear hx
  go_upto_region 2 with (go_at_call 146; refine (take_gen HC.out HR.out V D A L cp HZ.out HL.out).mono ?_; rintro e w2 ⟨v', rfl, hc2, ht2, hl2⟩)
  have m2 := (ht2.cell (p := ⟨em, 0, none⟩) (lt_of_cell m1) HN.out.1).trans m1
  have s2 := (ht2.cell (p := ⟨es, 0, none⟩) (lt_of_cell s1) HN.out.2.1).trans s1
  have o2 := (ht2.cell (p := ⟨eo, 0, none⟩) (lt_of_cell o1) HN.out.2.2).trans o1
  have HQ := Lib.hid (HH.out w2 v' hc2 ((Touch.of_below HW.out).trans ht2) fun k hk => (hl2 k hk).imp id fun hk => Nat.le_trans HW.out.size hk)
  clear hc2 ht2 hl2
  go_wp2_with fail
  refine HQ.out.mono ?_
  rintro e w3 ⟨rfl, hq⟩
  go_wp2_with fail
  go_end0
  exact ⟨rfl, hq⟩
end Go.Proofs.YtbfgbnalnjdheaaGreat
namespace Go.Proofs.YtbfgbnalnjdheaaGreat
open Go.RowKit

/-- The slice value v reads as the bytes xs, which lie in a block that K names (an empty one may lie anywhere). -/
def BytesIn (K : Nat → Prop) (w : World) (v : Value) (xs : List Int) : Prop :=
  ∃ A cap, v = .slice A xs.length cap ∧ (0 < xs.length → ∃ b off, A = some ⟨b, off, none⟩ ∧ K b ∧ b < w.heap.size ∧ ∀ i, i < xs.length → w.cell? ⟨b, off + i, none⟩ = some (.int .u8 (xs.getD i 0)))

namespace BytesIn
variable {K K' : Nat → Prop} {w w' : World} {v : Value} {xs : List Int}
theorem bytes (h : BytesIn K w v xs) : BytesAt w v xs := by
  obtain ⟨A, c, hv, h⟩ := h
  exact ⟨A, c, hv, fun hp => by obtain ⟨b, off, e, _, h3, h4⟩ := h hp; exact ⟨b, off, e, h3, h4⟩⟩
theorem none (K : Nat → Prop) (w : World) : BytesIn K w (.slice none 0 0) [] := ⟨Option.none, 0, rfl, fun h => absurd h (by simp)⟩
theorem empty (h : BytesAt w v []) (K : Nat → Prop) : BytesIn K w v [] := by
  obtain ⟨A, c, hv, _⟩ := h
  exact ⟨A, c, hv, fun h => absurd h (by simp)⟩
theorem mono (h : BytesIn K w v xs) (hK : ∀ k, K k → k < w.heap.size → K' k) : BytesIn K' w v xs := by
  obtain ⟨A, c, hv, h⟩ := h
  exact ⟨A, c, hv, fun hp => by obtain ⟨b, off, e, h2, h3, h4⟩ := h hp; exact ⟨b, off, e, hK b h2 h3, h3, h4⟩⟩
theorem keep (h : BytesIn K w v xs) (hs : w.heap.size ≤ w'.heap.size) (hb : ∀ k, K k → k < w.heap.size → w'.heap[k]? = w.heap[k]?) : BytesIn K w' v xs := by
  obtain ⟨A, c, hv, h⟩ := h
  refine ⟨A, c, hv, fun hp => ?_⟩
  obtain ⟨b, off, e, h2, h3, h4⟩ := h hp
  exact ⟨b, off, e, h2, Nat.lt_of_lt_of_le h3 hs, fun i hi => (World.cell?_of_block (w := w) (a := ⟨b, off + i, Option.none⟩) (hb b h2 h3)).trans (h4 i hi)⟩
theorem below (h : BytesIn K w v xs) (hb : Below w.heap.size w w') : BytesIn K w' v xs := h.keep hb.size fun k _ hk => hb.block k hk
theorem touch {S : Nat → Prop} (h : BytesIn K w v xs) (ht : Touch S w w') (hn : ∀ k, K k → ¬ S k) : BytesIn K w' v xs := h.keep ht.size fun k hk hl => ht.block k hl (hn k hk)
theorem of_at (h : BytesAt w v xs) : BytesIn (fun _ => True) w v xs := by
  obtain ⟨A, c, hv, h⟩ := h
  exact ⟨A, c, hv, fun hp => by obtain ⟨b, off, e, h3, h4⟩ := h hp; exact ⟨b, off, e, trivial, h3, h4⟩⟩
theorem lt (h : BytesIn K w v xs) : BytesIn (fun k => K k ∧ k < w.heap.size) w v xs := h.mono fun _ h1 h2 => ⟨h1, h2⟩
theorem of_own {base : Nat} (h : Owns base w v xs) : BytesIn (fun k => base ≤ k) w v xs := by
  by_cases hp : 0 < xs.length
  · obtain ⟨g, cap, hv, _⟩ := h.form hp
    have hge := World.ownsRow.lt h g (by rw [hv]; rfl)
    have hc := h.bytes
    rw [hv] at hc
    obtain ⟨A, c, e, hc⟩ := hc
    obtain ⟨b, off, e1, h3, h4⟩ := hc hp
    have e2 := e1
    injection e with e _ _
    rw [← e] at e1
    injection e1 with e1
    injection e1 with e5 e6
    subst e5 e6
    refine ⟨some ⟨g, 0, Option.none⟩, cap, hv, fun _ => ⟨g, 0, rfl, hge.1, h3, h4⟩⟩
  · have hx : xs = [] := List.eq_nil_of_length_eq_zero (by omega)
    subst hx
    exact empty h.bytes _
theorem length (h : BytesIn K w v xs) : ∃ A c, v = .slice A xs.length c := by
  obtain ⟨A, c, hv, _⟩ := h
  exact ⟨A, c, hv⟩
end BytesIn
end Go.Proofs.YtbfgbnalnjdheaaGreat
namespace Go.Proofs.YtbfgbnalnjdheaaGreat
open Go.RowKit

theorem chunks_parts (n : Int) (w : World) : Calls Tryz.prog 123 #[.int .i64 n] w (MadeParts (Cy.cks (Cy.few n)) w) := by
  refine (chunks_any n w).mono ?_
  rintro e w' ⟨v, rfl, ho, hb⟩
  rw [Cy.ckOf_few] at ho
  exact ⟨v, rfl, (Parts.of_own ho), hb⟩

/-- A machine that writes was made at block g: its parts lie below it. -/
def MadeMach (fn : Value) (n : Nat) (w : World) (e : Ending) (w' : World) : Prop :=
  ∃ g cv, e = .returned (.pointer (some ⟨g, 0, none⟩)) ∧ w'.heap[g]? = some (.cells #[cv, .int .i64 0, fn, .func (.func 124) #[] #[], .slice none 0 0] 175 (0, 0)) ∧
    w.heap.size ≤ g ∧ g + 1 = w'.heap.size ∧ Parts (fun k => w.heap.size ≤ k ∧ k < g) w' cv (Cy.cks n) ∧ Below w.heap.size w w'

set_option maxRecDepth 100000 in
set_option maxHeartbeats 400000 in
theorem writing_any (n : Int) (k : FuncId) (caps : Array Value) (w : World) :
    Calls Tryz.prog 120 #[.int .i64 n, .func (.func k) #[] caps] w (MadeMach (.func (.func k) #[] caps) (Cy.few n) w) := by
  go_enter Tryz.func120, Tryz.ntmps120
  go_wp2_with (go_at_call 123; refine (chunks_parts n _).mono ?_; rintro e w1 ⟨v1, rfl, ⟨A1, c1, rfl, h1, h2, h3⟩, hb1⟩)
  go_ret
  refine ⟨w1.heap.size, .slice A1 (Cy.cks (Cy.few n)).length c1, rfl, Go.Deep.blk_alloc_new _ _, hb1.size, by simp, ?_, hb1.alloc hb1.size _⟩
  refine Parts.of_blocks (w := w1) ⟨A1, c1, rfl, h1, h2, fun hp => ?_⟩ (by simp) fun k hk => Below.heap_alloc _ _ _ hk.2
  obtain ⟨b, off, e, hK, h4⟩ := h3 hp
  exact ⟨b, off, e, hK, h4⟩

/-- A machine was made: it copied nothing so far, n bytes are left. -/
def MadeCp (kd : Kd) (n : Nat) (w : World) (e : Ending) (w' : World) : Prop :=
  ∃ g, e = .returned (.pointer (some ⟨g, 0, none⟩)) ∧ Cp w' w.heap.size w'.heap.size g kd 0 n (.slice none 0 0) [] ∧ Below w.heap.size w w'

theorem cp_made {kd : Kd} {w w1 w2 : World} {n g : Nat} {cv nx th : Value} (hnear : -4611686018427387904 ≤ kd.place ∧ kd.place ≤ 4611686018427387904) (hn : n ≤ 131072) (HW : Below w.heap.size w w1) (hbl : Below w1.heap.size w1 w2)
    (hg : w2.heap[g]? = some (.cells #[cv, .int .i64 0, nx, th, .slice none 0 0] 175 (0, 0))) (h1 : w1.heap.size ≤ g) (h2 : g + 1 = w2.heap.size) (hp : Parts (fun k => w1.heap.size ≤ k ∧ k < g) w2 cv (Cy.cks n))
    (hb : 0 < n → Body w2 w.heap.size w2.heap.size g n kd nx th) : MadeCp kd n w (.returned (.pointer (some ⟨g, 0, none⟩))) w2 := by
  have hs := HW.size
  refine ⟨g, rfl, ⟨by omega, by omega, Nat.le_refl _, by omega, hnear, ⟨cv, nx, th, hg, hp.mono fun k hk => ⟨by omega, by omega, by omega⟩, fun hn => ?_⟩, World.ownsRow_nil _ _ _ _⟩, HW.trans (hbl.mono hs)⟩
  rw [Nat.zero_add] at hn ⊢
  exact hb hn


set_option maxRecDepth 100000 in
set_option maxHeartbeats 400000 in
theorem in_any (at_ : Int) (A : Option Addr) (L cap : Nat) (f : Nat → Nat) (w : World) (hnear : -4611686018427387904 ≤ at_ ∧ at_ ≤ 4611686018427387904) (hB : BytesAt w (.slice A L cap) (Mb.bl f 0 L)) (hL : L ≤ 131072) :
    Calls Tryz.prog 115 #[.int .i64 at_, .slice A L cap] w (MadeCp (.wr at_ f) L w) := by
  have hmf : ∀ (fn : Fn) (first cap : Array Value) (w : World), (Instr.makeFunc fn first cap).run Tryz.prog w = .ok (.func fn first cap) w := fun _ _ _ _ => rfl
  have HW := (Below.refl w.heap.size w).alloc (Nat.le_refl _) (.cells #[.int .i64 at_] 3)
  have HX := Go.Deep.blk_alloc_new w (.cells #[.int .i64 at_] 3)
  have HB := Lib.hid (hB.below HW)
  have HN := Lib.hid hnear
  clear hnear hB
  go_enter Tryz.func115, Tryz.ntmps115
  go_wp2_with fail
  generalize w.alloc (.cells #[.int .i64 at_] 3) = W at HW HX HB ⊢
  have HXX := Lib.hid HX
  have hxl := (Array.getElem?_eq_some_iff.1 HX).1
  clear HX
  refine (clone_sl A L cap _ W HB.out (by omega)).mono ?_
  rintro e w1 ⟨A1, c1, rfl, ho1, hb1⟩
  have HO1 := Lib.hid ho1
  clear ho1
  have HK := Go.Deep.blk_alloc_new w1 (.cells #[.slice A1 L c1] 30)
  have HW2 := HW.trans ((hb1.alloc hb1.size (.cells #[.slice A1 L c1] 30)).mono HW.size)
  go_wp2_with fail
  refine (writing_any L 121 #[.pointer (some ⟨w.heap.size, 0, none⟩), .pointer (some ⟨w1.heap.size, 0, none⟩)] _).mono ?_
  rintro e w2 ⟨g, cv, rfl, hg, h1, h2, hp, hb⟩
  have HH := Lib.hid (And.intro hg hp)
  clear hg hp
  go_wp2
  go_ret
  have hbW1 : Below w1.heap.size w1 w2 := ((Below.refl _ w1).alloc (Nat.le_refl _) _).after hb
  have hs1 := hb1.size
  have hs2 : w1.heap.size + 1 ≤ g := by simpa using h1
  rw [Cy.few_nat hL] at HH
  refine cp_made HN.out hL HW2 hb HH.out.1 h1 h2 HH.out.2 fun hpos => ?_
  obtain ⟨gk, kc, hv, hk1, hk2, hk3, hk4, _⟩ := HO1.out.form (by rw [Mb.bl_length]; exact hpos)
  rw [Mb.bl_length] at hv hk1
  injection hv with e1 _ e3
  subst e1 e3
  have hbt := HO1.out.bytes.below hbW1
  refine ⟨w.heap.size, w1.heap.size, gk, c1, rfl, rfl, ⟨Nat.le_refl _, by omega, by omega⟩, ⟨by omega, by omega, by omega⟩, ⟨by omega, by omega, by omega⟩, ?_, ?_, hbt, hk1, hk2⟩
  · have := ((hbW1.block w.heap.size (by omega)).trans (hb1.block w.heap.size hxl)).trans HXX.out
    simp [World.cell?, this]
  · have := (hb.block w1.heap.size (by simp)).trans HK
    simp [World.cell?, this]



end Go.Proofs.YtbfgbnalnjdheaaGreat
namespace Go.Proofs.YtbfgbnalnjdheaaGreat
open Go.RowKit

/-- A captured variable's block: one of F, not the put's own. -/
def Capt (w : World) (F : Nat → Prop) (g a : Nat) (v : Value) : Prop := F a ∧ a ≠ g ∧ w.cell? ⟨a, 0, none⟩ = some v

/-- What goes on where there is room: a choice, or a claim behind padding. -/
def OnIs (w : World) (F : Nat → Prop) (g : Nat) : Option Int → Value → Prop
  | none, v => v = .func (.func 77) #[.pointer (some ⟨g, 0, none⟩)] #[]
  | some gap, v => ∃ a b, v = .func (.func 99) #[] #[.pointer (some ⟨a, 0, none⟩), .pointer (some ⟨b, 0, none⟩)] ∧ Capt w F g a (.pointer (some ⟨g, 0, none⟩)) ∧ Capt w F g b (.int .i64 gap)

/-- The question whether there is room: at the tail, or at the beginning. -/
def roomOf (g : Nat) : Option Int → Value
  | none => .func (.func 76) #[.pointer (some ⟨g, 0, none⟩)] #[]
  | some _ => .func (.func 98) #[.pointer (some ⟨g, 0, none⟩)] #[]

/-- The three that the message's writing captured. -/
def Three (w : World) (F : Nat → Prop) (g : Nat) (s : Rs) (a b c : Nat) : Prop :=
  Capt w F g a (.pointer (some ⟨g, 0, none⟩)) ∧ Capt w F g b (.int .i64 (s.spot s.p)) ∧ Capt w F g c (.int .i32 (8 + (s.L : Int)))

/-- What goes on from the next answer. -/
def ThenIs (w : World) (F : Nat → Prop) (g : Nat) (s : Rs) (dv th : Value) : Prop :=
  match s.ph with
  | .ask => ∃ a, th = .func (.func 50) #[] #[.pointer (some ⟨a, 0, none⟩)] ∧ Capt w F g a (.pointer (some ⟨g, 0, none⟩))
  | .tail => ∃ a, th = .func (.func 74) #[] #[.pointer (some ⟨a, 0, none⟩)] ∧ Capt w F g a (.pointer (some ⟨g, 0, none⟩))
  | .head1 => ∃ a b c on, th = .func (.func 93) #[] #[.pointer (some ⟨a, 0, none⟩), .pointer (some ⟨b, 0, none⟩), .pointer (some ⟨c, 0, none⟩)] ∧ Capt w F g a (.pointer (some ⟨g, 0, none⟩)) ∧ Capt w F g b (roomOf g none) ∧ Capt w F g c on ∧ OnIs w F g none on
  | .head2 gap => ∃ a b c on, th = .func (.func 93) #[] #[.pointer (some ⟨a, 0, none⟩), .pointer (some ⟨b, 0, none⟩), .pointer (some ⟨c, 0, none⟩)] ∧ Capt w F g a (.pointer (some ⟨g, 0, none⟩)) ∧ Capt w F g b (roomOf g (some gap)) ∧ Capt w F g c on ∧ OnIs w F g (some gap) on
  | .copy1 => ∃ c on, th = .func (.func 95) #[] #[.pointer (some ⟨c, 0, none⟩)] ∧ Capt w F g c on ∧ OnIs w F g none on
  | .copy2 gap => ∃ c on, th = .func (.func 95) #[] #[.pointer (some ⟨c, 0, none⟩)] ∧ Capt w F g c on ∧ OnIs w F g (some gap) on
  | .cas pad => ∃ a b, th = .func (.func 108) #[] #[.pointer (some ⟨a, 0, none⟩), .pointer (some ⟨b, 0, none⟩)] ∧ Capt w F g a (.pointer (some ⟨g, 0, none⟩)) ∧ Capt w F g b (.int .i64 pad)
  | .padd _ => ∃ a, th = .func (.func 112) #[] #[.pointer (some ⟨a, 0, none⟩)] ∧ Capt w F g a (.pointer (some ⟨g, 0, none⟩))
  | .hdr => ∃ a b c, th = .func (.func 113) #[] #[.pointer (some ⟨a, 0, none⟩), .pointer (some ⟨b, 0, none⟩), .pointer (some ⟨c, 0, none⟩)] ∧ Three w F g s a b c
  | .byt d => ∃ em es eo a b c gc base top v, th = .func (.func 119) #[] #[.pointer (some ⟨em, 0, none⟩), .pointer (some ⟨es, 0, none⟩), .pointer (some ⟨eo, 0, none⟩)] ∧
      Capt w F g em (.iface 168 (.pointer (some ⟨gc, 0, none⟩))) ∧ Capt w F g es (.pointer (some ⟨g, 5, none⟩)) ∧ Capt w F g eo (.func (.func 116) #[] #[.pointer (some ⟨a, 0, none⟩), .pointer (some ⟨b, 0, none⟩), .pointer (some ⟨c, 0, none⟩)]) ∧ Three w F g s a b c ∧
      Cp w base top gc (.wr (s.spot s.p + 8) s.f) d (s.L - d) v [] ∧ (∀ k, (base ≤ k ∧ k < top) ∨ v.ownBlock = some k → F k ∧ k ≠ g ∧ k ≠ em ∧ k ≠ es ∧ k ≠ eo ∧ k ≠ a ∧ k ≠ b ∧ k ≠ c ∧ dv.ownBlock ≠ some k) ∧ d < s.L
  | .len => th = .func (.func 117) #[] #[]
  | .fin => th = .nilFunc

/-- A put stands in the blocks F, its own block is g. -/
def PutAt (w : World) (F : Nat → Prop) (g : Nat) (s : Rs) : Prop :=
  ∃ A L c a av th, RpBlk w g s (.slice A L c) a av th ∧ F g ∧ s.Ok ∧ BytesIn (fun k => F k ∧ k ≠ g) w (.slice A L c) (Mb.bl s.f 0 s.L) ∧ L ≤ c ∧ c ≤ 9223372036854775807 ∧ ThenIs w F g s (.slice A L c) th ∧
    (∀ b, s.next = some b → a = b ∧ BytesIn (fun k => F k ∧ k ≠ g) w av b.bs)

namespace Capt
variable {w w' : World} {F F' : Nat → Prop} {g a : Nat} {v : Value}
theorem keep (h : Capt w F g a v) (hb : ∀ k, F k → k ≠ g → w'.heap[k]? = w.heap[k]?) : Capt w' F g a v := ⟨h.1, h.2.1, (World.cell?_of_block (w := w) (a := ⟨a, 0, none⟩) (hb a h.1 h.2.1)).trans h.2.2⟩
theorem mono (h : Capt w F g a v) (hF : ∀ k, F k → F' k) : Capt w F' g a v := ⟨hF a h.1, h.2⟩
end Capt

/-- Bytes that are some lie in their slice's own block. -/
theorem BytesIn.ownK {K : Nat → Prop} {w : World} {v : Value} {xs : List Int} (h : BytesIn K w v xs) : BytesIn (fun k => K k ∧ 0 < xs.length ∧ v.ownBlock = some k) w v xs := by
  obtain ⟨A, c, hv, h⟩ := h
  refine ⟨A, c, hv, fun hp => ?_⟩
  obtain ⟨b, off, e, h1, h2, h3⟩ := h hp
  exact ⟨b, off, e, ⟨h1, hp, by rw [hv, e]; rfl⟩, h2, h3⟩

/-- What a call on a put leaves: the put at s, in the same blocks or in new ones; nothing else was turned. -/
def RpMoved (F : Nat → Prop) (g : Nat) (s : Rs) (w : World) (e : Ending) (w' : World) : Prop :=
  e = .returned (.tuple #[]) ∧ ∃ F', PutAt w' F' g s ∧ Touch F w w' ∧ ∀ k, F' k → F k ∨ (w.heap.size ≤ k ∧ k < w'.heap.size)

/-- A put between two accesses: its block, its bytes; nothing goes on. -/
structure RpBare (w : World) (F : Nat → Prop) (g : Nat) (s : Rs) (dv : Value) : Prop where
  blk : ∃ a av, RpBlk w g s dv a av .nilFunc
  own : F g
  ok : s.Ok
  dat : ∃ A c, dv = .slice A s.L c ∧ s.L ≤ c ∧ c ≤ 9223372036854775807
  txt : BytesIn (fun k => F k ∧ k ≠ g) w dv (Mb.bl s.f 0 s.L)

theorem RpBare.below {w w' : World} {F : Nat → Prop} {g : Nat} {s : Rs} {dv : Value} (h : RpBare w F g s dv) (hb : Below w.heap.size w w') : RpBare w' F g s dv := by
  obtain ⟨a, av, hk⟩ := h.blk
  exact ⟨⟨a, av, hk.below hb⟩, h.own, h.ok, h.dat, h.txt.below hb⟩

/-- The claim's end: the state is at its new phase; nothing of it but that has turned. -/
theorem rp_askedS {w w0 : World} {F : Nat → Prop} {g : Nat} {s s' : Rs} {dv : Value} (h : RpBare w0 F g s dv) (hfields : s' = { s with ph := s'.ph }) {b : Ac} {av th : Value} {e : Ending} {w' : World}
    (hw : Below w0.heap.size w0 w) (hnext : s'.next = some b) (ha : RpAsked g s dv b av th w e w') (hbs : BytesIn (fun k => (F k ∨ (w0.heap.size ≤ k ∧ k < w.heap.size)) ∧ k ≠ g) w av b.bs)
    (hth : ∀ w2, w.heap.size ≤ w2.heap.size → (∀ k, k ≠ g → k < w.heap.size → w2.heap[k]? = w.heap[k]?) → ThenIs w2 (fun k => F k ∨ (w0.heap.size ≤ k ∧ k < w.heap.size)) g s' dv th) : RpMoved F g s' w0 e w' := by
  obtain ⟨he, hblk, ht⟩ := ha
  obtain ⟨A, c, hdv, hl, hc⟩ := h.dat
  obtain ⟨a0, av0, hb0⟩ := h.blk
  have hgl := hb0.lt
  have hL : s'.L = s.L := by rw [hfields]
  have hf : s'.f = s.f := by rw [hfields]
  have hblk' : RpBlk w' g s' dv b av th := by
    have hc : RpCells s' dv b av th = RpCells s dv b av th := by rw [hfields]; rfl
    unfold RpBlk at hblk ⊢
    rw [hc]
    exact hblk
  have hok : s'.Ok := by
    have h2 := h.ok
    rw [hfields]
    exact ⟨h2.pow, h2.z0, h2.z1, h2.b0, h2.b1, h2.t0, h2.t1, h2.few, h2.isB, h2.h0, h2.tl, h2.ps⟩
  have hkeep : ∀ k, k ≠ g → k < w.heap.size → w'.heap[k]? = w.heap[k]? := fun k hk hlt => ht.block k hlt fun e => hk e
  subst hdv
  refine ⟨he, fun k => F k ∨ (w0.heap.size ≤ k ∧ k < w.heap.size), ⟨A, s.L, c, b, av, th, hblk', .inl h.own, hok, ?_, hl, hc, hth w' ht.size hkeep, fun b' hb' => ?_⟩, ?_, fun k hk => ?_⟩
  · rw [hL, hf]
    exact (((h.txt.below hw).keep ht.size fun k hk hlt => hkeep k hk.2 hlt).mono fun k hk _ => ⟨.inl hk.1, hk.2⟩)
  · rw [hnext] at hb'
    injection hb' with hb'
    subst hb'
    exact ⟨rfl, hbs.keep ht.size fun k hk hlt => hkeep k hk.2 hlt⟩
  · exact (Touch.of_below hw).trans (ht.mono fun k hk => by have e : k = g := hk; rw [e]; exact h.own)
  · rcases hk with hk | hk
    · exact .inl hk
    · exact .inr ⟨hk.1, Nat.lt_of_lt_of_le hk.2 ht.size⟩

theorem rp_asked {w w0 : World} {F : Nat → Prop} {g : Nat} {s s' : Rs} {dv : Value} (h : RpBare w0 F g s dv) (hfields : s' = { s with ph := s'.ph }) {b : Ac} {av th : Value} {e : Ending} {w' : World}
    (hw : Below w0.heap.size w0 w) (hnext : s'.next = some b) (ha : RpAsked g s dv b av th w e w') (hbs : BytesIn (fun k => (F k ∨ (w0.heap.size ≤ k ∧ k < w.heap.size)) ∧ k ≠ g) w av b.bs)
    (hth : ∀ w2, (∀ k, k ≠ g → k < w.heap.size → w2.heap[k]? = w.heap[k]?) → ThenIs w2 (fun k => F k ∨ (w0.heap.size ≤ k ∧ k < w.heap.size)) g s' dv th) : RpMoved F g s' w0 e w' := rp_askedS h hfields hw hnext ha hbs fun w2 _ hk => hth w2 hk

/-- What a call on a put leaves that turned nothing but the put's own block. -/
def RpMovedG (F : Nat → Prop) (g : Nat) (s : Rs) (w : World) (e : Ending) (w' : World) : Prop := RpMoved F g s w e w' ∧ Touch (fun k => k = g) w w' ∧ w'.cell? ⟨g, 3, none⟩ = w.cell? ⟨g, 3, none⟩
end Go.Proofs.YtbfgbnalnjdheaaGreat
namespace Go.Proofs.YtbfgbnalnjdheaaGreat
open Go.RowKit

set_option maxRecDepth 100000 in
set_option maxHeartbeats 800000 in
theorem rpTry {w : World} {F : Nat → Prop} {g : Nat} {s : Rs} {dv : Value} (h : RpBare w F g s dv) :
    Calls Tryz.prog 51 #[.pointer (some ⟨g, 0, none⟩)] w (RpMoved F g { s with ph := .tail } w) := by
  obtain ⟨a, av, hblk⟩ := h.blk
  have hgl := hblk.lt
  have HH := Lib.hid h
  have HB := Lib.hid hblk
  have hb0 := (Below.refl w.heap.size w).alloc (Nat.le_refl _) (.cells #[.pointer (some ⟨g, 0, none⟩)] 31)
  have hbox := rp_box w (.pointer (some ⟨g, 0, none⟩)) 31
  have hsz : (w.alloc (.cells #[.pointer (some ⟨g, 0, none⟩)] 31)).heap.size = w.heap.size + 1 := by simp
  have c0 := (hb0.cell (p := ⟨g, 0, none⟩) hgl).trans hblk.c0
  have c1 := (hb0.cell (p := ⟨g, 1, none⟩) hgl).trans hblk.c1
  have HW := Lib.hid hb0
  clear h hblk hb0
  go_enter Tryz.func51, Tryz.ntmps51
  go_upto_region 1 with (fail)
  generalize w.alloc (.cells #[.pointer (some ⟨g, 0, none⟩)] 31) = W at hbox HW hsz c0 c1 ⊢
  have hga : ¬ w.heap.size = g := by omega
  have hla : w.heap.size < W.heap.size := by omega
  have hgW : g < W.heap.size := by omega
  clear hsz
  go_region_held3 (fun w' => w'.cell? ⟨w.heap.size, 0, none⟩ = some (.pointer (some ⟨g, 0, none⟩)) ∧ w'.cell? ⟨g, 0, none⟩ = some (.int .i64 s.B) ∧ w'.cell? ⟨g, 1, none⟩ = some (.int .i64 s.Z)) (go_keep)
    (first
      | (go_at_call 47; refine (rpDo (HB.out.below hbl) ⟨1, s.num 0, 8, 0, 0, []⟩ none 0 0 74 #[] #[.pointer (some ⟨w.heap.size, 0, none⟩)]).mono ?_; intro e wd has; have HAS := Lib.hid has; obtain ⟨rfl, hblkd, htd⟩ := has; have kd := (htd.cell (p := ⟨w.heap.size, 0, none⟩) (lt_of_cell k2) hga).trans k2; have o0d := hblkd.c0; have o1d := hblkd.c1; clear hblkd)
      | (go_at_call 48; refine (stLoad (s.num 0) _).mono ?_; rintro e x2 ⟨rfl, hq2⟩; have hb2 := hb1.trans (hq2.mono hb1.size); have k2 := (hb2.cell (p := ⟨w.heap.size, 0, none⟩) hla).trans hbox; have o02 := (hb2.cell (p := ⟨g, 0, none⟩) hgW).trans c0; have o12 := (hb2.cell (p := ⟨g, 1, none⟩) hgW).trans c1; have hbl := HW.out.trans (hb2.mono HW.out.size))
      | (go_at_call 73; refine (rpTailC HH.out.ok _).mono ?_; rintro e x1 ⟨rfl, hq1⟩; have hb1 := below_drew hq1; have k1 := (hb1.cell (p := ⟨w.heap.size, 0, none⟩) hla).trans hbox; have o01 := (hb1.cell (p := ⟨g, 0, none⟩) hgW).trans c0; have o11 := (hb1.cell (p := ⟨g, 1, none⟩) hgW).trans c1))
  all_goals
    go_wp2
    go_end0
    refine rp_asked (s' := { s with ph := .tail }) HH.out rfl hbl rfl HAS.out (BytesIn.none _ _) fun w2 hk => ?_
    have hl3 : w.heap.size < x2.heap.size := lt_of_cell k2
    exact ⟨w.heap.size, rfl, .inr ⟨Nat.le_refl _, hl3⟩, hga, (World.cell?_of_block (w := x2) (a := ⟨w.heap.size, 0, none⟩) (hk _ hga hl3)).trans k2⟩

set_option maxRecDepth 100000 in
set_option maxHeartbeats 800000 in
theorem rpBegin {w : World} {F : Nat → Prop} {g : Nat} {s : Rs} {dv : Value} (h : RpBare w F g s dv) :
    Calls Tryz.prog 25 #[.pointer (some ⟨g, 0, none⟩)] w (RpMoved F g { s with ph := .ask } w) := by
  obtain ⟨a, av, hblk⟩ := h.blk
  have hgl := hblk.lt
  have HH := Lib.hid h
  have HB := Lib.hid hblk
  have hb0 := (Below.refl w.heap.size w).alloc (Nat.le_refl _) (.cells #[.pointer (some ⟨g, 0, none⟩)] 31)
  have hbox := rp_box w (.pointer (some ⟨g, 0, none⟩)) 31
  have hsz : (w.alloc (.cells #[.pointer (some ⟨g, 0, none⟩)] 31)).heap.size = w.heap.size + 1 := by simp
  have c0 := (hb0.cell (p := ⟨g, 0, none⟩) hgl).trans hblk.c0
  have c1 := (hb0.cell (p := ⟨g, 1, none⟩) hgl).trans hblk.c1
  have HW := Lib.hid hb0
  clear h hblk hb0
  go_enter Tryz.func25, Tryz.ntmps25
  go_upto_region 1 with (fail)
  generalize w.alloc (.cells #[.pointer (some ⟨g, 0, none⟩)] 31) = W at hbox HW hsz c0 c1 ⊢
  have hga : ¬ w.heap.size = g := by omega
  have hla : w.heap.size < W.heap.size := by omega
  have hgW : g < W.heap.size := by omega
  clear hsz
  go_region_held3 (fun w' => w'.cell? ⟨w.heap.size, 0, none⟩ = some (.pointer (some ⟨g, 0, none⟩)) ∧ w'.cell? ⟨g, 0, none⟩ = some (.int .i64 s.B) ∧ w'.cell? ⟨g, 1, none⟩ = some (.int .i64 s.Z)) (go_keep)
    (first
      | (go_at_call 47; refine (rpDo (HB.out.below hbl) ⟨1, s.num 8, 8, 0, 0, []⟩ none 0 0 50 #[] #[.pointer (some ⟨w.heap.size, 0, none⟩)]).mono ?_; intro e wd has; have HAS := Lib.hid has; obtain ⟨rfl, hblkd, htd⟩ := has; have kd := (htd.cell (p := ⟨w.heap.size, 0, none⟩) (lt_of_cell k2) hga).trans k2; have o0d := hblkd.c0; have o1d := hblkd.c1; clear hblkd)
      | (go_at_call 48; refine (stLoad (s.num 8) _).mono ?_; rintro e x2 ⟨rfl, hq2⟩; have hb2 := hb1.trans (hq2.mono hb1.size); have k2 := (hb2.cell (p := ⟨w.heap.size, 0, none⟩) hla).trans hbox; have o02 := (hb2.cell (p := ⟨g, 0, none⟩) hgW).trans c0; have o12 := (hb2.cell (p := ⟨g, 1, none⟩) hgW).trans c1; have hbl := HW.out.trans (hb2.mono HW.out.size))
      | (go_at_call 49; refine (rpCopyC HH.out.ok _).mono ?_; rintro e x1 ⟨rfl, hq1⟩; have hb1 := below_drew hq1; have k1 := (hb1.cell (p := ⟨w.heap.size, 0, none⟩) hla).trans hbox; have o01 := (hb1.cell (p := ⟨g, 0, none⟩) hgW).trans c0; have o11 := (hb1.cell (p := ⟨g, 1, none⟩) hgW).trans c1))
  all_goals
    go_wp2
    go_end0
    refine rp_asked (s' := { s with ph := .ask }) HH.out rfl hbl rfl HAS.out (BytesIn.none _ _) fun w2 hk => ?_
    have hl3 : w.heap.size < x2.heap.size := lt_of_cell k2
    exact ⟨w.heap.size, rfl, .inr ⟨Nat.le_refl _, hl3⟩, hga, (World.cell?_of_block (w := x2) (a := ⟨w.heap.size, 0, none⟩) (hk _ hga hl3)).trans k2⟩

set_option maxRecDepth 100000 in
set_option maxHeartbeats 800000 in
theorem rpClaim {w : World} {F : Nat → Prop} {g : Nat} {s : Rs} {dv : Value} (h : RpBare w F g s dv) (pad : Int) :
    Calls Tryz.prog 97 #[.pointer (some ⟨g, 0, none⟩), .int .i64 pad] w (RpMoved F g { s with ph := .cas pad } w) := by
  obtain ⟨a, av, hblk⟩ := h.blk
  have hgl := hblk.lt
  have HH := Lib.hid h
  have HB := Lib.hid hblk
  have hb0 := (Below.refl w.heap.size w).alloc (Nat.le_refl _) (.cells #[.pointer (some ⟨g, 0, none⟩)] 31)
  have hbox0 := rp_box w (.pointer (some ⟨g, 0, none⟩)) 31
  have hsz : (w.alloc (.cells #[.pointer (some ⟨g, 0, none⟩)] 31)).heap.size = w.heap.size + 1 := by simp
  have hbox1 := rp_box (w.alloc (.cells #[.pointer (some ⟨g, 0, none⟩)] 31)) (.int .i64 pad) 2
  have hb1 := (Below.refl (w.alloc (.cells #[.pointer (some ⟨g, 0, none⟩)] 31)).heap.size (w.alloc (.cells #[.pointer (some ⟨g, 0, none⟩)] 31))).alloc (Nat.le_refl _) (.cells #[.int .i64 pad] 2)
  have hbox := (hb1.cell (p := ⟨w.heap.size, 0, none⟩) (by show w.heap.size < _; omega)).trans hbox0
  have hsz1 : ((w.alloc (.cells #[.pointer (some ⟨g, 0, none⟩)] 31)).alloc (.cells #[.int .i64 pad] 2)).heap.size = w.heap.size + 2 := by simp
  have HW := Lib.hid (hb0.trans (hb1.mono (by omega)))
  rw [hsz] at hbox1
  clear h hblk hb0 hb1 hbox0 hsz
  go_enter Tryz.func97, Tryz.ntmps97
  go_upto_region 1 with (fail)
  generalize (w.alloc (.cells #[.pointer (some ⟨g, 0, none⟩)] 31)).alloc (.cells #[.int .i64 pad] 2) = W at hbox hbox1 HW hsz1 ⊢
  have hga : ¬ w.heap.size = g := by omega
  have hgb : ¬ w.heap.size + 1 = g := by omega
  have hla : w.heap.size < W.heap.size := by omega
  have hlb : w.heap.size + 1 < W.heap.size := by omega
  clear hsz1
  go_region_held3 (fun w' => w'.cell? ⟨w.heap.size, 0, none⟩ = some (.pointer (some ⟨g, 0, none⟩)) ∧ w'.cell? ⟨w.heap.size + 1, 0, none⟩ = some (.int .i64 pad)) (go_keep)
    (first
      | (go_at_call 47; refine (rpDo (HB.out.below hbl) ⟨4, s.num 0, 8, Rs.un s.t, Rs.un (Rs.wr (Rs.wr (s.t + s.need) + pad)), []⟩ none 0 0 108 #[] #[.pointer (some ⟨w.heap.size, 0, none⟩), .pointer (some ⟨w.heap.size + 1, 0, none⟩)]).mono ?_; intro e wd has; have HAS := Lib.hid has; obtain ⟨rfl, hblkd, htd⟩ := has; have kd := (htd.cell (p := ⟨w.heap.size, 0, none⟩) (lt_of_cell k1) hga).trans k1; have md := (htd.cell (p := ⟨w.heap.size + 1, 0, none⟩) (lt_of_cell m1) hgb).trans m1; clear hblkd)
      | (go_at_call 107; refine (rpAdvance (HB.out.below HW.out.drew) HH.out.ok pad).mono ?_; rintro e x1 ⟨rfl, hq1⟩; have hb1 := below_drew hq1; have k1 := (hb1.cell (p := ⟨w.heap.size, 0, none⟩) hla).trans hbox; have m1 := (hb1.cell (p := ⟨w.heap.size + 1, 0, none⟩) hlb).trans hbox1; have hbl := HW.out.trans (hb1.mono HW.out.size)))
  all_goals
    go_wp2
    go_end0
    refine rp_asked (s' := { s with ph := .cas pad }) HH.out rfl hbl rfl HAS.out (BytesIn.none _ _) fun w2 hk => ?_
    have hl3 : w.heap.size < x1.heap.size := lt_of_cell k1
    have hm3 : w.heap.size + 1 < x1.heap.size := lt_of_cell m1
    exact ⟨w.heap.size, w.heap.size + 1, rfl, ⟨.inr ⟨Nat.le_refl _, hl3⟩, hga, (World.cell?_of_block (w := x1) (a := ⟨w.heap.size, 0, none⟩) (hk _ hga hl3)).trans k1⟩, .inr ⟨Nat.le_succ _, hm3⟩, hgb, (World.cell?_of_block (w := x1) (a := ⟨w.heap.size + 1, 0, none⟩) (hk _ hgb hm3)).trans m1⟩
end Go.Proofs.YtbfgbnalnjdheaaGreat
namespace Go.Proofs.YtbfgbnalnjdheaaGreat
open Go.RowKit

theorem RpMoved.after {F : Nat → Prop} {g : Nat} {s : Rs} {w W : World} {e : Ending} {w' : World} (h : RpMoved F g s W e w') (hb : Below w.heap.size w W) : RpMoved F g s w e w' := by
  obtain ⟨he, F', hp, ht, hF⟩ := h
  exact ⟨he, F', hp, (Touch.of_below hb).trans ht, fun k hk => (hF k hk).imp id fun h => ⟨Nat.le_trans hb.size h.1, h.2⟩⟩

theorem Capt.below {w w' : World} {F : Nat → Prop} {g a : Nat} {v : Value} (h : Capt w F g a v) (hb : Below w.heap.size w w') : Capt w' F g a v := ⟨h.1, h.2.1, (hb.cell (p := ⟨a, 0, none⟩) (lt_of_cell h.2.2)).trans h.2.2⟩

theorem da_size (w : World) (q : Obj) : (w.alloc q).drew.heap.size = w.heap.size + 1 := by show (w.alloc q).heap.size = _; simp
theorem da_below (w : World) (q : Obj) : Below w.heap.size w (w.alloc q).drew := ((Below.refl w.heap.size w).alloc (Nat.le_refl _) q).drew
theorem rp_free (w : World) (v : Value) (T : TypeId) : (w.alloc (.cells #[v] T)).frozen? ⟨w.heap.size, 0, none⟩ = false := by
  have h := Go.Deep.blk_alloc_new w (.cells #[v] T)
  unfold World.frozen?
  simp only [h]
  rfl

set_option maxRecDepth 100000 in
theorem rpChooseOn {w : World} {F : Nat → Prop} {g : Nat} {s : Rs} {dv : Value} (h : RpBare w F g s dv) (gap : Int) {a b : Nat} (ha : w.cell? ⟨a, 0, none⟩ = some (.pointer (some ⟨g, 0, none⟩))) (hb : w.cell? ⟨b, 0, none⟩ = some (.int .i64 gap)) :
    Calls Tryz.prog 99 #[.pointer (some ⟨a, 0, none⟩), .pointer (some ⟨b, 0, none⟩)] w (RpMoved F g { s with ph := .cas gap } w) := by
  have HC := Lib.hid (rpClaim h gap)
  clear h
  go_enter Tryz.func99, Tryz.ntmps99
  go_wp2_with (go_at_call 97; refine HC.out.mono ?_; intro e w2 hm; have HM := Lib.hid hm; obtain ⟨rfl, _⟩ := hm)
  go_end0
  exact HM.out

set_option maxRecDepth 100000 in
set_option maxHeartbeats 1000000 in
/-- Waiting for room at the ring's beginning. -/
theorem rpAwaitGap {w : World} {F : Nat → Prop} {g : Nat} {s : Rs} {dv : Value} (h : RpBare w F g s dv) (hF : ∀ k, F k → k < w.heap.size) (gap : Int) {a b : Nat} (ha : Capt w F g a (.pointer (some ⟨g, 0, none⟩))) (hb' : Capt w F g b (.int .i64 gap)) :
    Calls Tryz.prog 75 #[.pointer (some ⟨g, 0, none⟩), .func (.func 98) #[.pointer (some ⟨g, 0, none⟩)] #[], .func (.func 99) #[] #[.pointer (some ⟨a, 0, none⟩), .pointer (some ⟨b, 0, none⟩)]] w (RpMoved F g (if s.ahead = true then { s with ph := .cas gap } else { s with ph := .head2 gap }) w) := by
  obtain ⟨a0, av, hblk⟩ := h.blk
  have hgl := hblk.lt
  have HH := Lib.hid h
  have HB := Lib.hid hblk
  obtain ⟨WW, hWW⟩ : ∃ WW, WW = ((w.alloc (.cells #[.pointer (some ⟨g, 0, none⟩)] 31)).alloc (.cells #[.func (.func 98) #[.pointer (some ⟨g, 0, none⟩)] #[]] 23)).alloc (.cells #[.func (.func 99) #[] #[.pointer (some ⟨a, 0, none⟩), .pointer (some ⟨b, 0, none⟩)]] 1) := ⟨_, rfl⟩
  obtain ⟨hw3, x0, x1, x2, hsz⟩ := rp_boxes w (.pointer (some ⟨g, 0, none⟩)) (.func (.func 98) #[.pointer (some ⟨g, 0, none⟩)] #[]) (.func (.func 99) #[] #[.pointer (some ⟨a, 0, none⟩), .pointer (some ⟨b, 0, none⟩)]) _ _ _ WW hWW
  have HW := Lib.hid hw3
  obtain ⟨s', hs'⟩ : ∃ s' : Rs, s' = (if s.ahead = true then { s with ph := .cas gap } else { s with ph := .head2 gap }) := ⟨_, rfl⟩
  rw [← hs']
  have HSS := Lib.hid hs'
  clear hs'
  have HA := Lib.hid (And.intro ha hb')
  have HFL := Lib.hid hF
  clear hF
  clear h hblk hw3 ha hb'
  go_enter Tryz.func75, Tryz.ntmps75
  go_upto_region 1 with (fail)
  rw [← hWW]
  clear hWW
  have hga : ¬ w.heap.size = g := by omega
  have hgb : ¬ w.heap.size + 1 = g := by omega
  have hgc : ¬ w.heap.size + 2 = g := by omega
  have hl0 : w.heap.size < WW.heap.size := by omega
  have hl1 : w.heap.size + 1 < WW.heap.size := by omega
  have hl2 : w.heap.size + 2 < WW.heap.size := by omega
  clear hsz
  cases hf : s.ahead with
  | true =>
    have HF := Lib.hid hf
    clear hf
    go_wp2_with (first
      | (go_at_call 99; refine (rpChooseOn (HH.out.below hb2) gap (HA.out.1.below hb2).2.2 (HA.out.2.below hb2).2.2).mono ?_; intro e w3 hm; have HM := Lib.hid hm; obtain ⟨rfl, _⟩ := hm)
      | (go_at_call 98; refine (rpAhead (HB.out.below HW.out) HH.out.ok).mono ?_; rintro e w2 ⟨rfl, hb⟩; rw [HF.out]; have hb2 := HW.out.trans (hb.mono HW.out.size); have k0 := (hb.cell (p := ⟨w.heap.size, 0, none⟩) hl0).trans x0; have k2 := (hb.cell (p := ⟨w.heap.size + 2, 0, none⟩) hl2).trans x2))
    go_end0
    have hss := HSS.out
    rw [if_pos HF.out] at hss
    rw [hss]
    exact HM.out.after hb2
  | false =>
    have HF := Lib.hid hf
    clear hf
    go_upto_region 3 with (go_at_call 98; refine (rpAhead (HB.out.below HW.out) HH.out.ok).mono ?_; rintro e w2 ⟨rfl, hb⟩; rw [HF.out])
    have hb2 := HW.out.trans (hb.mono HW.out.size)
    have y0 := (hb.cell (p := ⟨w.heap.size, 0, none⟩) hl0).trans x0
    have y1 := (hb.cell (p := ⟨w.heap.size + 1, 0, none⟩) hl1).trans x1
    have y2 := (hb.cell (p := ⟨w.heap.size + 2, 0, none⟩) hl2).trans x2
    have hs2 := hb.size
    have HB2 := Lib.hid hb2
    clear hb hb2 x0 x1 x2
    have hl0 : w.heap.size < w2.heap.size := by omega
    have hl1 : w.heap.size + 1 < w2.heap.size := by omega
    have hl2 : w.heap.size + 2 < w2.heap.size := by omega
    have c0 := (HB2.out.cell (p := ⟨g, 0, none⟩) hgl).trans HB.out.c0
    have c1 := (HB2.out.cell (p := ⟨g, 1, none⟩) hgl).trans HB.out.c1
    have hgW : g < w2.heap.size := Nat.lt_of_lt_of_le hgl HB2.out.size
    go_region_held3 (fun w' => w'.cell? ⟨w.heap.size, 0, none⟩ = some (.pointer (some ⟨g, 0, none⟩)) ∧ w'.cell? ⟨w.heap.size + 1, 0, none⟩ = some (.func (.func 98) #[.pointer (some ⟨g, 0, none⟩)] #[]) ∧ w'.cell? ⟨w.heap.size + 2, 0, none⟩ = some (.func (.func 99) #[] #[.pointer (some ⟨a, 0, none⟩), .pointer (some ⟨b, 0, none⟩)]) ∧ w'.cell? ⟨g, 0, none⟩ = some (.int .i64 s.B) ∧ w'.cell? ⟨g, 1, none⟩ = some (.int .i64 s.Z)) (go_keep)
      (first
        | (go_at_call 47; refine (rpDo (HB.out.below hbl) ⟨1, s.num 16, 8, 0, 0, []⟩ none 0 0 93 #[] #[.pointer (some ⟨w.heap.size, 0, none⟩), .pointer (some ⟨w.heap.size + 1, 0, none⟩), .pointer (some ⟨w.heap.size + 2, 0, none⟩)]).mono ?_; intro e wd has; have HAS := Lib.hid has; obtain ⟨rfl, hblkd, htd⟩ := has; have kd := (htd.cell (p := ⟨w.heap.size, 0, none⟩) (lt_of_cell k2) hga).trans k2; have md := (htd.cell (p := ⟨w.heap.size + 1, 0, none⟩) (lt_of_cell m2) hgb).trans m2; have nd := (htd.cell (p := ⟨w.heap.size + 2, 0, none⟩) (lt_of_cell n2) hgc).trans n2; have o0d := hblkd.c0; have o1d := hblkd.c1; clear hblkd)
        | (go_at_call 48; refine (stLoad (s.num 16) _).mono ?_; rintro e x2 ⟨rfl, hq2⟩; have hb2 := hb1.trans (hq2.mono hb1.size); have k2 := (hb2.cell (p := ⟨w.heap.size, 0, none⟩) hl0).trans y0; have m2 := (hb2.cell (p := ⟨w.heap.size + 1, 0, none⟩) hl1).trans y1; have n2 := (hb2.cell (p := ⟨w.heap.size + 2, 0, none⟩) hl2).trans y2; have o02 := (hb2.cell (p := ⟨g, 0, none⟩) hgW).trans c0; have o12 := (hb2.cell (p := ⟨g, 1, none⟩) hgW).trans c1; have hbl := HB2.out.trans (hb2.mono HB2.out.size))
        | (go_at_call 92; refine (rpHeadC HH.out.ok _).mono ?_; rintro e x1 ⟨rfl, hq1⟩; have hb1 := below_drew hq1; have k1 := (hb1.cell (p := ⟨w.heap.size, 0, none⟩) hl0).trans y0; have m1 := (hb1.cell (p := ⟨w.heap.size + 1, 0, none⟩) hl1).trans y1; have n1 := (hb1.cell (p := ⟨w.heap.size + 2, 0, none⟩) hl2).trans y2; have o01 := (hb1.cell (p := ⟨g, 0, none⟩) hgW).trans c0; have o11 := (hb1.cell (p := ⟨g, 1, none⟩) hgW).trans c1))
    all_goals
      go_wp2
      go_end0
      have hss := HSS.out
      rw [if_neg (by rw [HF.out]; decide)] at hss
      rw [hss]
      refine rp_asked (s' := { s with ph := .head2 gap }) HH.out rfl hbl rfl HAS.out (BytesIn.none _ _) fun w5 hk => ?_
      have hl3 : w.heap.size < x2.heap.size := lt_of_cell k2
      have hm3 : w.heap.size + 1 < x2.heap.size := lt_of_cell m2
      have hn3 : w.heap.size + 2 < x2.heap.size := lt_of_cell n2
      refine ⟨w.heap.size, w.heap.size + 1, w.heap.size + 2, _, rfl, ⟨.inr ⟨Nat.le_refl _, hl3⟩, hga, (World.cell?_of_block (w := x2) (a := ⟨w.heap.size, 0, none⟩) (hk _ hga hl3)).trans k2⟩, ⟨.inr ⟨by omega, hm3⟩, hgb, (World.cell?_of_block (w := x2) (a := ⟨w.heap.size + 1, 0, none⟩) (hk _ hgb hm3)).trans m2⟩, ⟨.inr ⟨by omega, hn3⟩, hgc, (World.cell?_of_block (w := x2) (a := ⟨w.heap.size + 2, 0, none⟩) (hk _ hgc hn3)).trans n2⟩, ?_⟩
      have hk5 : ∀ k, F k → k ≠ g → w5.heap[k]? = x2.heap[k]? := fun k hk' hkg => hk k hkg (Nat.lt_of_lt_of_le (HFL.out k hk') hbl.size)
      exact ⟨a, b, rfl, ((HA.out.1.below hbl).keep fun k hk hkg => hk5 k hk hkg).mono fun k hk => .inl hk, ((HA.out.2.below hbl).keep fun k hk hkg => hk5 k hk hkg).mono fun k hk => .inl hk⟩

theorem RpBare.wide {w : World} {F F' : Nat → Prop} {g : Nat} {s : Rs} {dv : Value} (h : RpBare w F g s dv) (hF : ∀ k, F k → F' k) : RpBare w F' g s dv := ⟨h.blk, hF g h.own, h.ok, h.dat, h.txt.mono fun k hk _ => ⟨hF k hk.1, hk.2⟩⟩
theorem RpMoved.narrow {F F2 : Nat → Prop} {g : Nat} {s : Rs} {w W : World} {e : Ending} {w' : World} (h : RpMoved F2 g s W e w') (hb : Below w.heap.size w W) (hF : ∀ k, F2 k → F k ∨ (w.heap.size ≤ k ∧ k < W.heap.size)) : RpMoved F g s w e w' := by
  obtain ⟨he, F', hp, ht, hF'⟩ := h
  refine ⟨he, F', hp, ⟨ht.os.trans hb.os, ht.tape.trans hb.tape, ht.output.trans hb.output, Nat.le_trans hb.size ht.size, fun k hk hn => (ht.block k (Nat.lt_of_lt_of_le hk hb.size) fun e => ?_).trans (hb.block k hk)⟩, fun k hk => ?_⟩
  · rcases hF k e with e | e
    · exact hn e
    · omega
  · rcases hF' k hk with e | e
    · exact (hF k e).imp id fun e => ⟨e.1, Nat.lt_of_lt_of_le e.2 ht.size⟩
    · exact .inr ⟨Nat.le_trans hb.size e.1, e.2⟩

theorem RpBare.lt {w : World} {F : Nat → Prop} {g : Nat} {s : Rs} {dv : Value} (h : RpBare w F g s dv) : g < w.heap.size := by
  obtain ⟨a, av, hk⟩ := h.blk
  exact hk.lt

set_option maxRecDepth 100000 in
set_option maxHeartbeats 1000000 in
theorem rpChoose {w : World} {F : Nat → Prop} {g : Nat} {s : Rs} {dv : Value} (h : RpBare w F g s dv) (hF : ∀ k, F k → k < w.heap.size) :
    Calls Tryz.prog 77 #[.pointer (some ⟨g, 0, none⟩)] w (RpMoved F g s.choose w) := by
  obtain ⟨a0, av, hblk⟩ := h.blk
  have hgl := hblk.lt
  have HH := Lib.hid h
  have hb0 := (Below.refl w.heap.size w).alloc (Nat.le_refl _) (.cells #[.pointer (some ⟨g, 0, none⟩)] 31)
  have hbox := rp_box w (.pointer (some ⟨g, 0, none⟩)) 31
  have hsz : (w.alloc (.cells #[.pointer (some ⟨g, 0, none⟩)] 31)).heap.size = w.heap.size + 1 := by simp
  have HB := Lib.hid (hblk.below hb0)
  have HW := Lib.hid hb0
  obtain ⟨s', hs'⟩ : ∃ s' : Rs, s' = s.choose := ⟨_, rfl⟩
  rw [← hs']
  have HSS := Lib.hid hs'
  have HFL := Lib.hid hF
  have hz := h.ok.place_in s.t
  have hz1 := h.ok.z1
  have he1 : IntKind.i64.wrap ((s.Z : Int) - s.place s.t) = s.gap := IntWalk.i64_in _ (by omega)
  have HE := Lib.hid he1
  clear hs' h hblk hb0 hF hz hz1 he1
  go_enter Tryz.func77, Tryz.ntmps77
  go_upto_region 1 with (fail)
  generalize w.alloc (.cells #[.pointer (some ⟨g, 0, none⟩)] 31) = W at hbox HW hsz HB ⊢
  have hga : ¬ w.heap.size = g := by omega
  have hgW : g < W.heap.size := by omega
  have hla : w.heap.size < W.heap.size := by omega
  clear hsz
  have c0 := HB.out.c0
  have c1 := HB.out.c1
  have c6 := HB.out.c13
  have y0 := World.new_ne W ⟨w.heap.size, 0, none⟩ hbox
  have y1 := World.new_ne W ⟨g, 1, none⟩ c1
  have y6 := World.new_ne W ⟨g, 13, none⟩ c6
  have yz := World.new_ne W ⟨g, 0, none⟩ c0
  have hee : IntKind.i64.wrap ((s.Z : Int) - s.place s.t) = s.gap := HE.out
  go_cut [2] (fun v wx => ∃ b, v = .pointer (some ⟨b, 0, none⟩) ∧ Below W.heap.size W wx ∧ W.heap.size ≤ b ∧ wx.cell? ⟨b, 0, none⟩ = some (.int .i64 s.gap))
  case first =>
    go_region_held3 (fun w' => w'.cell? ⟨w.heap.size, 0, none⟩ = some (.pointer (some ⟨g, 0, none⟩)) ∧ w'.cell? ⟨g, 0, none⟩ = some (.int .i64 s.B) ∧ w'.cell? ⟨g, 1, none⟩ = some (.int .i64 s.Z) ∧ w'.cell? ⟨g, 13, none⟩ = some (.int .i64 s.t)) (go_keep)
      (first
        | (go_at_call 96; refine (rpPlaceC HH.out.ok s.t (W.alloc (.cells #[.int .i64 0] 2)).drew).mono ?_; rintro e w2 ⟨rfl, hb⟩; have hb2 : Below W.heap.size W w2 := (da_below W _).trans (hb.mono (by rw [da_size]; omega)); have hnb := (hb.cell (p := ⟨W.heap.size, 0, none⟩) (by rw [da_size]; show W.heap.size < _; omega)).trans (show (W.alloc (.cells #[.int .i64 0] 2)).drew.cell? ⟨W.heap.size, 0, none⟩ = some (.int .i64 0) from rp_box W _ _); have hnf : w2.frozen? ⟨W.heap.size, 0, none⟩ = false := (hb.frozen (p := ⟨W.heap.size, 0, none⟩) (by rw [da_size]; show W.heap.size < _; omega)).trans (show (W.alloc (.cells #[.int .i64 0] 2)).drew.frozen? ⟨W.heap.size, 0, none⟩ = false from rp_free W _ _); have k0 := (hb2.cell (p := ⟨w.heap.size, 0, none⟩) hla).trans hbox; have k1 := (hb2.cell (p := ⟨g, 1, none⟩) hgW).trans c1; have kz := (hb2.cell (p := ⟨g, 0, none⟩) hgW).trans c0; have k6 := (hb2.cell (p := ⟨g, 13, none⟩) hgW).trans c6)
        | (go_at_call 96; refine (rpPlaceC HH.out.ok s.t W.drew).mono ?_; rintro e w2 ⟨rfl, hb⟩; have hb2 := below_drew hb; have k0 := (hb2.cell (p := ⟨w.heap.size, 0, none⟩) hla).trans hbox; have k1 := (hb2.cell (p := ⟨g, 1, none⟩) hgW).trans c1; have kz := (hb2.cell (p := ⟨g, 0, none⟩) hgW).trans c0; have k6 := (hb2.cell (p := ⟨g, 13, none⟩) hgW).trans c6))
    all_goals (go_wp2_with fail; go_meet)
    · exact ⟨_, rfl, hb2.alloc hb2.size _, hb2.size, rp_box w2 _ _⟩
    · exact ⟨_, rfl, hb2.setCell (Nat.le_refl _) _, Nat.le_refl _, World.cell?_setCell_same _ _ _ hnb⟩
  case rest =>
    obtain ⟨b, rfl, hbc, hbge, hgap⟩ := hcut
    have hbW := HW.out.trans (hbc.mono HW.out.size)
    have k0 := (hbc.cell (p := ⟨w.heap.size, 0, none⟩) hla).trans hbox
    have HB2 := Lib.hid (HB.out.below hbc)
    have k4 := HB2.out.c4
    have HBW := Lib.hid hbW
    have HS2 := Lib.hid hbc.size
    clear c0 c1 c6 y0 y1 y6 yz hbox hbc hbW
    go_upto_region 2 with (fail)
    obtain ⟨wq, rfl⟩ : ∃ W, W = wc := ⟨_, rfl⟩
    have hbl : b < wq.heap.size := lt_of_cell hgap
    by_cases hfit : s.need ≤ s.gap
    · have HFI := Lib.hid hfit
      have hdec : decide (s.need ≤ s.gap) = true := by simpa using hfit
      go_quiet (fail)
      have hbd : Below w.heap.size w (wq.drewN nq) := HBW.out.trans ((drewN_below wq nq).mono HBW.out.size)
      have HC := Lib.hid ((rpClaim (HH.out.below hbd) 0))
      have HBD := Lib.hid hbd
      clear hbd hdec
      go_wp2_with (go_at_call 97; refine HC.out.mono ?_; intro e w3 hm; have HM := Lib.hid hm; obtain ⟨rfl, _⟩ := hm)
      go_end0
      have hss := HSS.out
      unfold Rs.choose at hss
      rw [if_pos HFI.out] at hss
      rw [hss]
      exact HM.out.after HBD.out
    · have HFI := Lib.hid hfit
      have hdec : decide (s.need ≤ s.gap) = false := by simpa using hfit
      go_quiet (fail)
      have hbd : Below w.heap.size w (wq.drewN nq) := HBW.out.trans ((drewN_below wq nq).mono HBW.out.size)
      have HC := Lib.hid (rpAwaitGap ((HH.out.below hbd).wide (F' := fun k => F k ∨ (w.heap.size ≤ k ∧ k < wq.heap.size)) fun k hk => .inl hk) (fun k hk => by
          rcases hk with hk | hk
          · exact Nat.lt_of_lt_of_le (HFL.out k hk) hbd.size
          · exact hk.2) s.gap (a := w.heap.size) (b := b) ⟨.inr ⟨Nat.le_refl _, lt_of_cell k0⟩, hga, k0⟩ ⟨.inr ⟨by have := HW.out.size; omega, hbl⟩, by have := HH.out.lt; have := HW.out.size; omega, hgap⟩)
      have HBD := Lib.hid hbd
      clear hbd hdec
      go_wp2_with (go_at_call 75; refine HC.out.mono ?_; intro e w3 hm; have HM := Lib.hid hm; obtain ⟨rfl, _⟩ := hm)
      go_end0
      have hss := HSS.out
      unfold Rs.choose at hss
      rw [if_neg (by have := HFI.out; omega)] at hss
      rw [hss]
      exact HM.out.narrow HBD.out fun k hk => hk

set_option maxRecDepth 100000 in
set_option maxHeartbeats 1000000 in
/-- Waiting for room at the tail. -/
theorem rpAwaitTail {w : World} {F : Nat → Prop} {g : Nat} {s : Rs} {dv : Value} (h : RpBare w F g s dv) (hF : ∀ k, F k → k < w.heap.size) :
    Calls Tryz.prog 75 #[.pointer (some ⟨g, 0, none⟩), .func (.func 76) #[.pointer (some ⟨g, 0, none⟩)] #[], .func (.func 77) #[.pointer (some ⟨g, 0, none⟩)] #[]] w (RpMoved F g (if s.fits = true then s.choose else { s with ph := .head1 }) w) := by
  obtain ⟨a0, av, hblk⟩ := h.blk
  have hgl := hblk.lt
  have HH := Lib.hid h
  have HB := Lib.hid hblk
  obtain ⟨WW, hWW⟩ : ∃ WW, WW = ((w.alloc (.cells #[.pointer (some ⟨g, 0, none⟩)] 31)).alloc (.cells #[.func (.func 76) #[.pointer (some ⟨g, 0, none⟩)] #[]] 23)).alloc (.cells #[.func (.func 77) #[.pointer (some ⟨g, 0, none⟩)] #[]] 1) := ⟨_, rfl⟩
  obtain ⟨hw3, x0, x1, x2, hsz⟩ := rp_boxes w (.pointer (some ⟨g, 0, none⟩)) (.func (.func 76) #[.pointer (some ⟨g, 0, none⟩)] #[]) (.func (.func 77) #[.pointer (some ⟨g, 0, none⟩)] #[]) _ _ _ WW hWW
  have HW := Lib.hid hw3
  obtain ⟨s', hs'⟩ : ∃ s' : Rs, s' = (if s.fits = true then s.choose else { s with ph := .head1 }) := ⟨_, rfl⟩
  rw [← hs']
  have HSS := Lib.hid hs'
  clear hs'
  have HFL := Lib.hid hF
  clear h hblk hw3 hF
  go_enter Tryz.func75, Tryz.ntmps75
  go_upto_region 1 with (fail)
  rw [← hWW]
  clear hWW
  have hga : ¬ w.heap.size = g := by omega
  have hgb : ¬ w.heap.size + 1 = g := by omega
  have hgc : ¬ w.heap.size + 2 = g := by omega
  have hl0 : w.heap.size < WW.heap.size := by omega
  have hl1 : w.heap.size + 1 < WW.heap.size := by omega
  have hl2 : w.heap.size + 2 < WW.heap.size := by omega
  clear hsz
  cases hf : s.fits with
  | true =>
    have HF := Lib.hid hf
    clear hf
    go_wp2_with (first
      | (go_at_call 77; refine (rpChoose (HH.out.below hb2) (fun k hk => Nat.lt_of_lt_of_le (HFL.out k hk) hb2.size)).mono ?_; intro e w3 hm; have HM := Lib.hid hm; obtain ⟨rfl, _⟩ := hm)
      | (go_at_call 76; refine (rpFits (HB.out.below HW.out)).mono ?_; rintro e w2 ⟨rfl, hb⟩; rw [HF.out]; have hb2 := HW.out.trans (hb.mono HW.out.size); have k0 := (hb.cell (p := ⟨w.heap.size, 0, none⟩) hl0).trans x0; have k2 := (hb.cell (p := ⟨w.heap.size + 2, 0, none⟩) hl2).trans x2))
    go_end0
    have hss := HSS.out
    rw [if_pos HF.out] at hss
    rw [hss]
    exact HM.out.after hb2
  | false =>
    have HF := Lib.hid hf
    clear hf
    go_upto_region 3 with (go_at_call 76; refine (rpFits (HB.out.below HW.out)).mono ?_; rintro e w2 ⟨rfl, hb⟩; rw [HF.out])
    have hb2 := HW.out.trans (hb.mono HW.out.size)
    have y0 := (hb.cell (p := ⟨w.heap.size, 0, none⟩) hl0).trans x0
    have y1 := (hb.cell (p := ⟨w.heap.size + 1, 0, none⟩) hl1).trans x1
    have y2 := (hb.cell (p := ⟨w.heap.size + 2, 0, none⟩) hl2).trans x2
    have hs2 := hb.size
    have HB2 := Lib.hid hb2
    clear hb hb2 x0 x1 x2
    have hl0 : w.heap.size < w2.heap.size := by omega
    have hl1 : w.heap.size + 1 < w2.heap.size := by omega
    have hl2 : w.heap.size + 2 < w2.heap.size := by omega
    have c0 := (HB2.out.cell (p := ⟨g, 0, none⟩) hgl).trans HB.out.c0
    have c1 := (HB2.out.cell (p := ⟨g, 1, none⟩) hgl).trans HB.out.c1
    have hgW : g < w2.heap.size := Nat.lt_of_lt_of_le hgl HB2.out.size
    go_region_held3 (fun w' => w'.cell? ⟨w.heap.size, 0, none⟩ = some (.pointer (some ⟨g, 0, none⟩)) ∧ w'.cell? ⟨w.heap.size + 1, 0, none⟩ = some (.func (.func 76) #[.pointer (some ⟨g, 0, none⟩)] #[]) ∧ w'.cell? ⟨w.heap.size + 2, 0, none⟩ = some (.func (.func 77) #[.pointer (some ⟨g, 0, none⟩)] #[]) ∧ w'.cell? ⟨g, 0, none⟩ = some (.int .i64 s.B) ∧ w'.cell? ⟨g, 1, none⟩ = some (.int .i64 s.Z)) (go_keep)
      (first
        | (go_at_call 47; refine (rpDo (HB.out.below hbl) ⟨1, s.num 16, 8, 0, 0, []⟩ none 0 0 93 #[] #[.pointer (some ⟨w.heap.size, 0, none⟩), .pointer (some ⟨w.heap.size + 1, 0, none⟩), .pointer (some ⟨w.heap.size + 2, 0, none⟩)]).mono ?_; intro e wd has; have HAS := Lib.hid has; obtain ⟨rfl, hblkd, htd⟩ := has; have kd := (htd.cell (p := ⟨w.heap.size, 0, none⟩) (lt_of_cell k2) hga).trans k2; have md := (htd.cell (p := ⟨w.heap.size + 1, 0, none⟩) (lt_of_cell m2) hgb).trans m2; have nd := (htd.cell (p := ⟨w.heap.size + 2, 0, none⟩) (lt_of_cell n2) hgc).trans n2; have o0d := hblkd.c0; have o1d := hblkd.c1; clear hblkd)
        | (go_at_call 48; refine (stLoad (s.num 16) _).mono ?_; rintro e x2 ⟨rfl, hq2⟩; have hb2 := hb1.trans (hq2.mono hb1.size); have k2 := (hb2.cell (p := ⟨w.heap.size, 0, none⟩) hl0).trans y0; have m2 := (hb2.cell (p := ⟨w.heap.size + 1, 0, none⟩) hl1).trans y1; have n2 := (hb2.cell (p := ⟨w.heap.size + 2, 0, none⟩) hl2).trans y2; have o02 := (hb2.cell (p := ⟨g, 0, none⟩) hgW).trans c0; have o12 := (hb2.cell (p := ⟨g, 1, none⟩) hgW).trans c1; have hbl := HB2.out.trans (hb2.mono HB2.out.size))
        | (go_at_call 92; refine (rpHeadC HH.out.ok _).mono ?_; rintro e x1 ⟨rfl, hq1⟩; have hb1 := below_drew hq1; have k1 := (hb1.cell (p := ⟨w.heap.size, 0, none⟩) hl0).trans y0; have m1 := (hb1.cell (p := ⟨w.heap.size + 1, 0, none⟩) hl1).trans y1; have n1 := (hb1.cell (p := ⟨w.heap.size + 2, 0, none⟩) hl2).trans y2; have o01 := (hb1.cell (p := ⟨g, 0, none⟩) hgW).trans c0; have o11 := (hb1.cell (p := ⟨g, 1, none⟩) hgW).trans c1))
    all_goals
      go_wp2
      go_end0
      have hss := HSS.out
      rw [if_neg (by rw [HF.out]; decide)] at hss
      rw [hss]
      refine rp_asked (s' := { s with ph := .head1 }) HH.out rfl hbl rfl HAS.out (BytesIn.none _ _) fun w5 hk => ?_
      have hl3 : w.heap.size < x2.heap.size := lt_of_cell k2
      have hm3 : w.heap.size + 1 < x2.heap.size := lt_of_cell m2
      have hn3 : w.heap.size + 2 < x2.heap.size := lt_of_cell n2
      refine ⟨w.heap.size, w.heap.size + 1, w.heap.size + 2, _, rfl, ⟨.inr ⟨Nat.le_refl _, hl3⟩, hga, (World.cell?_of_block (w := x2) (a := ⟨w.heap.size, 0, none⟩) (hk _ hga hl3)).trans k2⟩, ⟨.inr ⟨by omega, hm3⟩, hgb, (World.cell?_of_block (w := x2) (a := ⟨w.heap.size + 1, 0, none⟩) (hk _ hgb hm3)).trans m2⟩, ⟨.inr ⟨by omega, hn3⟩, hgc, (World.cell?_of_block (w := x2) (a := ⟨w.heap.size + 2, 0, none⟩) (hk _ hgc hn3)).trans n2⟩, ?_⟩
      exact rfl
end Go.Proofs.YtbfgbnalnjdheaaGreat
namespace Go.Proofs.YtbfgbnalnjdheaaGreat
open Go.RowKit

theorem RpMoved.afterT {F : Nat → Prop} {g : Nat} {s : Rs} {w W : World} {e : Ending} {w' : World} (h : RpMoved F g s W e w') (ht : Touch F w W) : RpMoved F g s w e w' := by
  obtain ⟨he, F', hp, ht2, hF⟩ := h
  exact ⟨he, F', hp, ht.trans ht2, fun k hk => (hF k hk).imp id fun h => ⟨Nat.le_trans ht.size h.1, h.2⟩⟩

/-- A field of the put's own is stored. -/
theorem RpBare.store {w : World} {F : Nat → Prop} {g : Nat} {s s' : Rs} {dv : Value} (h : RpBare w F g s dv) (i : Nat) (v : Value) (hc : ∀ a av, (RpCells s dv a av .nilFunc).setIfInBounds i v = RpCells s' dv a av .nilFunc) (hok : s'.Ok) (hL : s'.L = s.L) (hf : s'.f = s.f) :
    RpBare (w.setCell ⟨g, i, none⟩ v) F g s' dv := by
  obtain ⟨a, av, hk⟩ := h.blk
  have hk' : w.heap[g]? = some (.cells (RpCells s dv a av .nilFunc) 78 (0, 0)) := hk
  refine ⟨⟨a, av, ?_⟩, h.own, hok, by rw [hL]; exact h.dat, ?_⟩
  · have := blkS (i := i) hk' v
    rw [hc] at this
    exact this
  · rw [hL, hf]
    exact h.txt.keep (by simp [World.setCell]) fun k hk _ => Below.heap_setCell _ _ _ _ hk.2

theorem rp_setH (s : Rs) (v : Int) (dv : Value) (a : Ac) (av th : Value) : (RpCells s dv a av th).setIfInBounds 12 (.int .i64 v) = RpCells { s with h := v } dv a av th := by simp [RpCells, Rs.need]
theorem rp_setT (s : Rs) (v : Int) (dv : Value) (a : Ac) (av th : Value) : (RpCells s dv a av th).setIfInBounds 13 (.int .i64 v) = RpCells { s with t := v } dv a av th := by simp [RpCells, Rs.need]

theorem Rs.Ok.withH {s : Rs} (ok : s.Ok) (v : Int) (ph : Ph) : ({ s with h := Rs.wr v, ph := ph } : Rs).Ok := ⟨ok.pow, ok.z0, ok.z1, ok.b0, ok.b1, ok.t0, ok.t1, ok.few, ok.isB, Rs.wr_in v, ok.tl, ok.ps⟩
theorem Rs.Ok.withT {s : Rs} (ok : s.Ok) (v : Int) : ({ s with t := Rs.wr v } : Rs).Ok := ⟨ok.pow, ok.z0, ok.z1, ok.b0, ok.b1, ok.t0, ok.t1, ok.few, ok.isB, ok.h0, Rs.wr_in v, ok.ps⟩

set_option maxRecDepth 100000 in
set_option maxHeartbeats 800000 in
theorem rpBegin1 {w : World} {F : Nat → Prop} {g : Nat} {s : Rs} {dv : Value} (h : RpBare w F g s dv) {a : Nat} (ha : w.cell? ⟨a, 0, none⟩ = some (.pointer (some ⟨g, 0, none⟩))) (hag : a ≠ g) (V : Nat) (D : Bool) (A : Option Addr) (L c : Nat) :
    Calls Tryz.prog 50 #[.agg #[.int .u64 V, .bool D, .slice A L c], .pointer (some ⟨a, 0, none⟩)] w (RpMoved F g { s with h := Rs.wr V, ph := .tail } w) := by
  have hb0 := (Below.refl w.heap.size w).alloc (Nat.le_refl _) (.cells #[.int .u64 V, .bool D, .slice A L c] 50)
  have hx := Go.Deep.blk_alloc_new w (.cells #[.int .u64 V, .bool D, .slice A L c] 50)
  have HH := Lib.hid (h.below hb0)
  have hal := lt_of_cell ha
  have ha1 := (hb0.cell (p := ⟨a, 0, none⟩) hal).trans ha
  have HW := Lib.hid hb0
  have hgl := h.lt
  clear h hb0 ha
  go_enter Tryz.func50, Tryz.ntmps50
  go_upto_region 1 with (fail)
  generalize w.alloc (.cells #[.int .u64 V, .bool D, .slice A L c] 50) = W at hx HH HW ha1 ⊢
  have x0 : W.cell? ⟨w.heap.size, 0, none⟩ = some (.int .u64 V) := by simp [World.cell?, hx]
  obtain ⟨b0, bv, hblk⟩ := HH.out.blk
  have c12 := hblk.c12
  have f12 := hblk.free 12
  clear hblk hx
  go_upto_region 2 with (fail)
  have HS := Lib.hid (HH.out.store (s' := { s with h := Rs.wr V }) 12 (.int .i64 (Rs.wr V)) (fun _ _ => rp_setH _ _ _ _ _ _) (HH.out.ok.withH V s.ph) rfl rfl)
  have HT : Hid (Touch F w (W.setCell ⟨g, 12, none⟩ (.int .i64 (Rs.wr V)))) := Lib.hid ((Touch.of_below HW.out).setCell (p := ⟨g, 12, none⟩) HH.out.own _)
  have ha2 : (W.setCell ⟨g, 12, none⟩ (.int .i64 (Rs.wr V))).cell? ⟨a, 0, none⟩ = some (.pointer (some ⟨g, 0, none⟩)) := (World.cell?_setCell_far _ _ _ _ (fun e => hag e.symm)).trans ha1
  unfold Rs.wr at HS HT ha2
  clear c12 f12 x0 ha1
  generalize W.setCell ⟨g, 12, none⟩ (.int .i64 (wrap64 (V : Int))) = W2 at HS HT ha2 ⊢
  go_wp2_with (go_at_call 51; refine (rpTry HS.out).mono ?_; intro e w3 hm; have HM := Lib.hid hm; obtain ⟨rfl, _⟩ := hm)
  go_end0
  exact HM.out.afterT HT.out

set_option maxRecDepth 100000 in
set_option maxHeartbeats 800000 in
theorem rpTry1 {w : World} {F : Nat → Prop} {g : Nat} {s : Rs} {dv : Value} (h : RpBare w F g s dv) (hF : ∀ k, F k → k < w.heap.size) {a : Nat} (ha : w.cell? ⟨a, 0, none⟩ = some (.pointer (some ⟨g, 0, none⟩))) (hag : a ≠ g) (V : Nat) (D : Bool) (A : Option Addr) (L c : Nat) :
    Calls Tryz.prog 74 #[.agg #[.int .u64 V, .bool D, .slice A L c], .pointer (some ⟨a, 0, none⟩)] w (RpMoved F g (if ({ s with t := Rs.wr V } : Rs).fits = true then ({ s with t := Rs.wr V } : Rs).choose else { ({ s with t := Rs.wr V } : Rs) with ph := .head1 }) w) := by
  have hb0 := (Below.refl w.heap.size w).alloc (Nat.le_refl _) (.cells #[.int .u64 V, .bool D, .slice A L c] 50)
  have hx := Go.Deep.blk_alloc_new w (.cells #[.int .u64 V, .bool D, .slice A L c] 50)
  have HH := Lib.hid (h.below hb0)
  have hal := lt_of_cell ha
  have ha1 := (hb0.cell (p := ⟨a, 0, none⟩) hal).trans ha
  have HW := Lib.hid hb0
  have hgl := h.lt
  have HFL := Lib.hid hF
  obtain ⟨s1, hs1⟩ : ∃ s1 : Rs, s1 = { s with t := Rs.wr V } := ⟨_, rfl⟩
  rw [← hs1]
  have HS1 := Lib.hid hs1
  obtain ⟨s', hs'⟩ : ∃ s' : Rs, s' = (if s1.fits = true then s1.choose else { s1 with ph := .head1 }) := ⟨_, rfl⟩
  rw [← hs']
  have HSS := Lib.hid hs'
  clear hs'
  clear h hb0 ha hF hs1
  go_enter Tryz.func74, Tryz.ntmps74
  go_upto_region 1 with (fail)
  generalize w.alloc (.cells #[.int .u64 V, .bool D, .slice A L c] 50) = W at hx HH HW ha1 ⊢
  have x0 : W.cell? ⟨w.heap.size, 0, none⟩ = some (.int .u64 V) := by simp [World.cell?, hx]
  obtain ⟨b0, bv, hblk⟩ := HH.out.blk
  have c13 := hblk.c13
  have f13 := hblk.free 13
  clear hblk hx
  go_upto_region 2 with (fail)
  have HS := Lib.hid (HH.out.store (s' := { s with t := Rs.wr V }) 13 (.int .i64 (Rs.wr V)) (fun _ _ => rp_setT _ _ _ _ _ _) (HH.out.ok.withT V) rfl rfl)
  have HT : Hid (Touch F w (W.setCell ⟨g, 13, none⟩ (.int .i64 (Rs.wr V)))) := Lib.hid ((Touch.of_below HW.out).setCell (p := ⟨g, 13, none⟩) HH.out.own _)
  have ha2 : (W.setCell ⟨g, 13, none⟩ (.int .i64 (Rs.wr V))).cell? ⟨a, 0, none⟩ = some (.pointer (some ⟨g, 0, none⟩)) := (World.cell?_setCell_far _ _ _ _ (fun e => hag e.symm)).trans ha1
  have hlW := HT.out.size
  rw [← HS1.out] at HS
  unfold Rs.wr at HT ha2
  clear c13 f13 x0 ha1
  unfold Rs.wr at HS hlW
  generalize W.setCell ⟨g, 13, none⟩ (.int .i64 (wrap64 (V : Int))) = W2 at HS HT ha2 hlW ⊢
  have HC := Lib.hid (rpAwaitTail HS.out fun k hk => Nat.lt_of_lt_of_le (HFL.out k hk) hlW)
  go_wp2_with (go_at_call 75; refine HC.out.mono ?_; intro e w3 hm; have HM := Lib.hid hm; obtain ⟨rfl, _⟩ := hm)
  go_end0
  rw [HSS.out]
  exact HM.out.afterT HT.out
end Go.Proofs.YtbfgbnalnjdheaaGreat
namespace Go.Proofs.YtbfgbnalnjdheaaGreat
open Go.RowKit

theorem Rs.un_wr {V : Nat} (h : V < 18446744073709551616) : Rs.un (Rs.wr (V : Int)) = V := by
  unfold Rs.un Rs.wr wrap64
  omega

theorem rp_setE (s : Rs) (v : Int) (dv : Value) (a : Ac) (av th : Value) : (RpCells s dv a av th).setIfInBounds 16 (.int .i64 v) = RpCells { s with er := v, ph := .fin } dv a av th := by simp [RpCells, Rs.need]
theorem rp_ph (s : Rs) (ph : Ph) (dv : Value) (a : Ac) (av th : Value) : RpCells { s with ph := ph } dv a av th = RpCells s dv a av th := rfl
theorem Rs.Ok.withE {s : Rs} (ok : s.Ok) (v : Int) (ph : Ph) : ({ s with er := v, ph := ph } : Rs).Ok := ⟨ok.pow, ok.z0, ok.z1, ok.b0, ok.b1, ok.t0, ok.t1, ok.few, ok.isB, ok.h0, ok.tl, ok.ps⟩

theorem rp_done {w0 w : World} {F : Nat → Prop} {g : Nat} {s : Rs} {dv : Value} (h : RpBare w F g s dv) (hph : s.ph = .fin) (ht : Touch F w0 w) : RpMoved F g s w0 (.returned (.tuple #[])) w := by
  obtain ⟨a, av, hk⟩ := h.blk
  obtain ⟨A, c, hdv, hl, hc⟩ := h.dat
  subst hdv
  refine ⟨rfl, F, ⟨A, s.L, c, a, av, .nilFunc, hk, h.own, h.ok, h.txt, hl, hc, ?_, fun b hb => ?_⟩, ht, fun k hk => .inl hk⟩
  · unfold ThenIs
    rw [hph]
  · unfold Rs.next at hb
    rw [hph] at hb
    cases hb

theorem OnIs.keep {w w' : World} {F F' : Nat → Prop} {g : Nat} {o : Option Int} {v : Value} (h : OnIs w F g o v) (hb : ∀ k, F k → k ≠ g → w'.heap[k]? = w.heap[k]?) (hF : ∀ k, F k → F' k) : OnIs w' F' g o v := by
  cases o with
  | none => exact h
  | some gap =>
    obtain ⟨a, b, e, h1, h2⟩ := h
    exact ⟨a, b, e, (h1.keep hb).mono hF, (h2.keep hb).mono hF⟩

set_option maxRecDepth 100000 in
set_option maxHeartbeats 1000000 in
/-- The head was told, and there is room at the tail now, or none at all. -/
theorem rpAwait1Tail {w : World} {F : Nat → Prop} {g : Nat} {s : Rs} {dv : Value} (h : RpBare w F g s dv) (hF : ∀ k, F k → k < w.heap.size) {a b c : Nat} {on : Value} (ha : Capt w F g a (.pointer (some ⟨g, 0, none⟩))) (hb : Capt w F g b (.func (.func 76) #[.pointer (some ⟨g, 0, none⟩)] #[])) (hc : Capt w F g c on) (hon : OnIs w F g (none) on)
    (V : Nat) (hV : V < 18446744073709551616) (D : Bool) (A : Option Addr) (L cp : Nat) :
    Calls Tryz.prog 93 #[.agg #[.int .u64 V, .bool D, .slice A L cp], .pointer (some ⟨a, 0, none⟩), .pointer (some ⟨b, 0, none⟩), .pointer (some ⟨c, 0, none⟩)] w
      (RpMoved F g (if ({ s with h := Rs.wr V } : Rs).fits = true then { ({ s with h := Rs.wr V } : Rs) with ph := .copy1 } else { ({ s with h := Rs.wr V } : Rs) with er := 5, ph := .fin }) w) := by
  have hb0 := (Below.refl w.heap.size w).alloc (Nat.le_refl _) (.cells #[.int .u64 V, .bool D, .slice A L cp] 50)
  have hx := Go.Deep.blk_alloc_new w (.cells #[.int .u64 V, .bool D, .slice A L cp] 50)
  have HH := Lib.hid (h.below hb0)
  have hal := lt_of_cell ha.2.2
  have hbl := lt_of_cell hb.2.2
  have hag := ha.2.1
  have hbg := hb.2.1
  have ha1 := (hb0.cell (p := ⟨a, 0, none⟩) hal).trans ha.2.2
  have hb1 := (hb0.cell (p := ⟨b, 0, none⟩) hbl).trans hb.2.2
  have HC := Lib.hid (And.intro hc hon)
  have HW := Lib.hid hb0
  have hgl := h.lt
  have HFL := Lib.hid hF
  have HU := Lib.hid (Rs.un_wr hV)
  obtain ⟨s1, hs1⟩ : ∃ s1 : Rs, s1 = { s with h := Rs.wr V } := ⟨_, rfl⟩
  rw [← hs1]
  have HS1 := Lib.hid hs1
  obtain ⟨s', hs'⟩ : ∃ s' : Rs, s' = (if s1.fits = true then { s1 with ph := .copy1 } else { s1 with er := 5, ph := .fin }) := ⟨_, rfl⟩
  rw [← hs']
  have HSS := Lib.hid hs'
  clear h hb0 ha hb hc hon hF hs1 hs' hV
  go_enter Tryz.func93, Tryz.ntmps93
  go_upto_region 1 with (fail)
  generalize w.alloc (.cells #[.int .u64 V, .bool D, .slice A L cp] 50) = W at hx HH HW ha1 hb1 ⊢
  have hlx := (Array.getElem?_eq_some_iff.1 hx).1
  have x0 : W.cell? ⟨w.heap.size, 0, none⟩ = some (.int .u64 V) := by simp [World.cell?, hx]
  obtain ⟨b0, bv, hblk⟩ := HH.out.blk
  have c12 := hblk.c12
  have f12 := hblk.free 12
  have hgx : g ≠ w.heap.size := by omega
  clear hblk hx
  go_upto_region 2 with (fail)
  have HS := Lib.hid (HH.out.store (s' := { s with h := Rs.wr V }) 12 (.int .i64 (Rs.wr V)) (fun _ _ => rp_setH _ _ _ _ _ _) (HH.out.ok.withH V s.ph) rfl rfl)
  have HT : Hid (Touch F w (W.setCell ⟨g, 12, none⟩ (.int .i64 (Rs.wr V)))) := Lib.hid ((Touch.of_below HW.out).setCell (p := ⟨g, 12, none⟩) HH.out.own _)
  have HTg : Hid (Touch (fun k => k = g) w (W.setCell ⟨g, 12, none⟩ (.int .i64 (Rs.wr V)))) := Lib.hid ((Touch.of_below (S := fun k => k = g) HW.out).setCell (p := ⟨g, 12, none⟩) (show g = g from rfl) _)
  have ha2 : (W.setCell ⟨g, 12, none⟩ (.int .i64 (Rs.wr V))).cell? ⟨a, 0, none⟩ = some (.pointer (some ⟨g, 0, none⟩)) := (World.cell?_setCell_far _ _ _ _ (fun e => hag e.symm)).trans ha1
  have hb2 : (W.setCell ⟨g, 12, none⟩ (.int .i64 (Rs.wr V))).cell? ⟨b, 0, none⟩ = some (.func (.func 76) #[.pointer (some ⟨g, 0, none⟩)] #[]) := (World.cell?_setCell_far _ _ _ _ (fun e => hbg e.symm)).trans hb1
  have hx2 : (W.setCell ⟨g, 12, none⟩ (.int .i64 (Rs.wr V))).cell? ⟨w.heap.size, 0, none⟩ = some (.int .u64 V) := (World.cell?_setCell_far _ _ _ _ hgx).trans x0
  rw [← HS1.out] at HS
  unfold Rs.wr at HS HT HTg ha2 hb2 hx2
  clear c12 f12 x0 ha1 hb1
  generalize W.setCell ⟨g, 12, none⟩ (.int .i64 (wrap64 (V : Int))) = W2 at HS HT HTg ha2 hb2 hx2 ⊢
  have hs2 := HT.out.size
  have hal2 : a < W2.heap.size := lt_of_cell ha2
  have hxl2 : w.heap.size < W2.heap.size := lt_of_cell hx2
  obtain ⟨b0, bv, hblk⟩ := HS.out.blk
  have HB := Lib.hid hblk
  have hgl2 := hblk.lt
  clear hblk
  cases hf : s1.fits with
  | false =>
    have HF := Lib.hid hf
    clear hf
    go_upto_region 3 with (go_at_call 76; refine (rpFits HB.out).mono ?_; rintro e w3 ⟨rfl, hb3⟩; rw [HF.out])
    have k0 := (hb3.cell (p := ⟨a, 0, none⟩) hal2).trans ha2
    have HS3 := Lib.hid (HS.out.below hb3)
    have HT3 := Lib.hid (HT.out.trans (Touch.of_below hb3))
    obtain ⟨b1, bw, hblk⟩ := HS3.out.blk
    have c16 := hblk.c16
    have f16 := hblk.free 16
    clear hblk hb3
    go_wp2
    go_end0
    have hss := HSS.out
    rw [if_neg (by rw [HF.out]; decide)] at hss
    rw [hss]
    exact rp_done (HS3.out.store (s' := { s1 with er := 5, ph := .fin }) 16 (.int .i64 5) (fun _ _ => rp_setE _ _ _ _ _ _) (HS3.out.ok.withE 5 .fin) rfl rfl) rfl (HT3.out.setCell (p := ⟨g, 16, none⟩) HS3.out.own _)
  | true =>
    have HF := Lib.hid hf
    clear hf
    go_upto_region 4 with (go_at_call 76; refine (rpFits HB.out).mono ?_; rintro e w3 ⟨rfl, hb3⟩; rw [HF.out])
    have k0 := (hb3.cell (p := ⟨a, 0, none⟩) hal2).trans ha2
    have kx := (hb3.cell (p := ⟨w.heap.size, 0, none⟩) hxl2).trans hx2
    have HS3 := Lib.hid (HS.out.below hb3)
    have HB3 := Lib.hid (HB.out.below hb3)
    have hs3 := hb3.size
    have HT3 := Lib.hid (HT.out.trans (Touch.of_below hb3))
    have HTG3 := Lib.hid (HTg.out.trans (Touch.of_below hb3))
    have hal3 : a < w3.heap.size := lt_of_cell k0
    have hxl3 : w.heap.size < w3.heap.size := lt_of_cell kx
    have hgl3 : g < w3.heap.size := by omega
    clear hb3
    have c0 := HB3.out.c0
    have c1 := HB3.out.c1
    go_region_held3 (fun w' => w'.cell? ⟨a, 0, none⟩ = some (.pointer (some ⟨g, 0, none⟩)) ∧ w'.cell? ⟨w.heap.size, 0, none⟩ = some (.int .u64 V) ∧ w'.cell? ⟨g, 0, none⟩ = some (.int .i64 s1.B) ∧ w'.cell? ⟨g, 1, none⟩ = some (.int .i64 s1.Z)) (go_keep)
      (first
        | (go_at_call 47; refine (rpDo (HB3.out.below hb2) ⟨2, s1.num 8, 8, V, 0, []⟩ none 0 0 95 #[] #[.pointer (some ⟨c, 0, none⟩)]).mono ?_; intro e wd has; have HAS := Lib.hid has; obtain ⟨rfl, hblkd, htd⟩ := has; have kd := (htd.cell (p := ⟨a, 0, none⟩) (lt_of_cell k2) hag).trans k2; have md := (htd.cell (p := ⟨w.heap.size, 0, none⟩) (lt_of_cell m2) (fun e => hgx (show g = w.heap.size from e.symm))).trans m2; have o0d := hblkd.c0; have o1d := hblkd.c1; clear hblkd)
        | (go_at_call 94; refine (stSet (s1.num 8) V _).mono ?_; rintro e x2 ⟨rfl, hq2⟩; have hb2 := hb1.trans (hq2.mono hb1.size); have k2 := (hb2.cell (p := ⟨a, 0, none⟩) hal3).trans k0; have m2 := (hb2.cell (p := ⟨w.heap.size, 0, none⟩) hxl3).trans kx; have o02 := (hb2.cell (p := ⟨g, 0, none⟩) hgl3).trans c0; have o12 := (hb2.cell (p := ⟨g, 1, none⟩) hgl3).trans c1)
        | (go_at_call 49; refine (rpCopyC HS3.out.ok _).mono ?_; rintro e x1 ⟨rfl, hq1⟩; have hb1 := below_drew hq1; have k1 := (hb1.cell (p := ⟨a, 0, none⟩) hal3).trans k0; have m1 := (hb1.cell (p := ⟨w.heap.size, 0, none⟩) hxl3).trans kx; have o01 := (hb1.cell (p := ⟨g, 0, none⟩) hgl3).trans c0; have o11 := (hb1.cell (p := ⟨g, 1, none⟩) hgl3).trans c1))
    all_goals
      go_wp2
      go_end0
      have hss := HSS.out
      rw [if_pos HF.out] at hss
      rw [hss]
      refine RpMoved.afterT (W := w3) (rp_asked (s' := { s1 with ph := .copy1 }) HS3.out rfl hb2 ?_ HAS.out (BytesIn.none _ _) fun w9 hk => ?_) HT3.out
      · have hun : Rs.un s1.h = V := by rw [HS1.out]; exact HU.out
        show some (⟨2, s1.num 8, 8, Rs.un s1.h, 0, []⟩ : Ac) = _
        rw [hun]
      · have hk9 : ∀ k, F k → k ≠ g → w9.heap[k]? = w.heap[k]? := fun k hk' hkg => (hk k hkg (by have := HFL.out k hk'; have := hb2.size; omega)).trans ((hb2.block k (by have := HFL.out k hk'; omega)).trans (HTG3.out.block k (HFL.out k hk') hkg))
        refine ⟨c, on, rfl, (HC.out.1.keep hk9).mono fun k hk => .inl hk, ?_⟩
        exact OnIs.keep HC.out.2 hk9 fun k hk => .inl hk

set_option maxRecDepth 100000 in
set_option maxHeartbeats 1000000 in
/-- The head was told, and there is room at the ring's beginning now, or none at all. -/
theorem rpAwait1Gap {w : World} {F : Nat → Prop} {g : Nat} {s : Rs} {dv : Value} (h : RpBare w F g s dv) (hF : ∀ k, F k → k < w.heap.size) (gap : Int) {a b c : Nat} {on : Value} (ha : Capt w F g a (.pointer (some ⟨g, 0, none⟩))) (hb : Capt w F g b (.func (.func 98) #[.pointer (some ⟨g, 0, none⟩)] #[])) (hc : Capt w F g c on) (hon : OnIs w F g (some gap) on)
    (V : Nat) (hV : V < 18446744073709551616) (D : Bool) (A : Option Addr) (L cp : Nat) :
    Calls Tryz.prog 93 #[.agg #[.int .u64 V, .bool D, .slice A L cp], .pointer (some ⟨a, 0, none⟩), .pointer (some ⟨b, 0, none⟩), .pointer (some ⟨c, 0, none⟩)] w
      (RpMoved F g (if ({ s with h := Rs.wr V } : Rs).ahead = true then { ({ s with h := Rs.wr V } : Rs) with ph := .copy2 gap } else { ({ s with h := Rs.wr V } : Rs) with er := 5, ph := .fin }) w) := by
  have hb0 := (Below.refl w.heap.size w).alloc (Nat.le_refl _) (.cells #[.int .u64 V, .bool D, .slice A L cp] 50)
  have hx := Go.Deep.blk_alloc_new w (.cells #[.int .u64 V, .bool D, .slice A L cp] 50)
  have HH := Lib.hid (h.below hb0)
  have hal := lt_of_cell ha.2.2
  have hbl := lt_of_cell hb.2.2
  have hag := ha.2.1
  have hbg := hb.2.1
  have ha1 := (hb0.cell (p := ⟨a, 0, none⟩) hal).trans ha.2.2
  have hb1 := (hb0.cell (p := ⟨b, 0, none⟩) hbl).trans hb.2.2
  have HC := Lib.hid (And.intro hc hon)
  have HW := Lib.hid hb0
  have hgl := h.lt
  have HFL := Lib.hid hF
  have HU := Lib.hid (Rs.un_wr hV)
  obtain ⟨s1, hs1⟩ : ∃ s1 : Rs, s1 = { s with h := Rs.wr V } := ⟨_, rfl⟩
  rw [← hs1]
  have HS1 := Lib.hid hs1
  obtain ⟨s', hs'⟩ : ∃ s' : Rs, s' = (if s1.ahead = true then { s1 with ph := .copy2 gap } else { s1 with er := 5, ph := .fin }) := ⟨_, rfl⟩
  rw [← hs']
  have HSS := Lib.hid hs'
  clear h hb0 ha hb hc hon hF hs1 hs' hV
  go_enter Tryz.func93, Tryz.ntmps93
  go_upto_region 1 with (fail)
  generalize w.alloc (.cells #[.int .u64 V, .bool D, .slice A L cp] 50) = W at hx HH HW ha1 hb1 ⊢
  have hlx := (Array.getElem?_eq_some_iff.1 hx).1
  have x0 : W.cell? ⟨w.heap.size, 0, none⟩ = some (.int .u64 V) := by simp [World.cell?, hx]
  obtain ⟨b0, bv, hblk⟩ := HH.out.blk
  have c12 := hblk.c12
  have f12 := hblk.free 12
  have hgx : g ≠ w.heap.size := by omega
  clear hblk hx
  go_upto_region 2 with (fail)
  have HS := Lib.hid (HH.out.store (s' := { s with h := Rs.wr V }) 12 (.int .i64 (Rs.wr V)) (fun _ _ => rp_setH _ _ _ _ _ _) (HH.out.ok.withH V s.ph) rfl rfl)
  have HT : Hid (Touch F w (W.setCell ⟨g, 12, none⟩ (.int .i64 (Rs.wr V)))) := Lib.hid ((Touch.of_below HW.out).setCell (p := ⟨g, 12, none⟩) HH.out.own _)
  have HTg : Hid (Touch (fun k => k = g) w (W.setCell ⟨g, 12, none⟩ (.int .i64 (Rs.wr V)))) := Lib.hid ((Touch.of_below (S := fun k => k = g) HW.out).setCell (p := ⟨g, 12, none⟩) (show g = g from rfl) _)
  have ha2 : (W.setCell ⟨g, 12, none⟩ (.int .i64 (Rs.wr V))).cell? ⟨a, 0, none⟩ = some (.pointer (some ⟨g, 0, none⟩)) := (World.cell?_setCell_far _ _ _ _ (fun e => hag e.symm)).trans ha1
  have hb2 : (W.setCell ⟨g, 12, none⟩ (.int .i64 (Rs.wr V))).cell? ⟨b, 0, none⟩ = some (.func (.func 98) #[.pointer (some ⟨g, 0, none⟩)] #[]) := (World.cell?_setCell_far _ _ _ _ (fun e => hbg e.symm)).trans hb1
  have hx2 : (W.setCell ⟨g, 12, none⟩ (.int .i64 (Rs.wr V))).cell? ⟨w.heap.size, 0, none⟩ = some (.int .u64 V) := (World.cell?_setCell_far _ _ _ _ hgx).trans x0
  rw [← HS1.out] at HS
  unfold Rs.wr at HS HT HTg ha2 hb2 hx2
  clear c12 f12 x0 ha1 hb1
  generalize W.setCell ⟨g, 12, none⟩ (.int .i64 (wrap64 (V : Int))) = W2 at HS HT HTg ha2 hb2 hx2 ⊢
  have hs2 := HT.out.size
  have hal2 : a < W2.heap.size := lt_of_cell ha2
  have hxl2 : w.heap.size < W2.heap.size := lt_of_cell hx2
  obtain ⟨b0, bv, hblk⟩ := HS.out.blk
  have HB := Lib.hid hblk
  have hgl2 := hblk.lt
  clear hblk
  cases hf : s1.ahead with
  | false =>
    have HF := Lib.hid hf
    clear hf
    go_upto_region 3 with (go_at_call 98; refine (rpAhead HB.out HS.out.ok).mono ?_; rintro e w3 ⟨rfl, hb3⟩; rw [HF.out])
    have k0 := (hb3.cell (p := ⟨a, 0, none⟩) hal2).trans ha2
    have HS3 := Lib.hid (HS.out.below hb3)
    have HT3 := Lib.hid (HT.out.trans (Touch.of_below hb3))
    obtain ⟨b1, bw, hblk⟩ := HS3.out.blk
    have c16 := hblk.c16
    have f16 := hblk.free 16
    clear hblk hb3
    go_wp2
    go_end0
    have hss := HSS.out
    rw [if_neg (by rw [HF.out]; decide)] at hss
    rw [hss]
    exact rp_done (HS3.out.store (s' := { s1 with er := 5, ph := .fin }) 16 (.int .i64 5) (fun _ _ => rp_setE _ _ _ _ _ _) (HS3.out.ok.withE 5 .fin) rfl rfl) rfl (HT3.out.setCell (p := ⟨g, 16, none⟩) HS3.out.own _)
  | true =>
    have HF := Lib.hid hf
    clear hf
    go_upto_region 4 with (go_at_call 98; refine (rpAhead HB.out HS.out.ok).mono ?_; rintro e w3 ⟨rfl, hb3⟩; rw [HF.out])
    have k0 := (hb3.cell (p := ⟨a, 0, none⟩) hal2).trans ha2
    have kx := (hb3.cell (p := ⟨w.heap.size, 0, none⟩) hxl2).trans hx2
    have HS3 := Lib.hid (HS.out.below hb3)
    have HB3 := Lib.hid (HB.out.below hb3)
    have hs3 := hb3.size
    have HT3 := Lib.hid (HT.out.trans (Touch.of_below hb3))
    have HTG3 := Lib.hid (HTg.out.trans (Touch.of_below hb3))
    have hal3 : a < w3.heap.size := lt_of_cell k0
    have hxl3 : w.heap.size < w3.heap.size := lt_of_cell kx
    have hgl3 : g < w3.heap.size := by omega
    clear hb3
    have c0 := HB3.out.c0
    have c1 := HB3.out.c1
    go_region_held3 (fun w' => w'.cell? ⟨a, 0, none⟩ = some (.pointer (some ⟨g, 0, none⟩)) ∧ w'.cell? ⟨w.heap.size, 0, none⟩ = some (.int .u64 V) ∧ w'.cell? ⟨g, 0, none⟩ = some (.int .i64 s1.B) ∧ w'.cell? ⟨g, 1, none⟩ = some (.int .i64 s1.Z)) (go_keep)
      (first
        | (go_at_call 47; refine (rpDo (HB3.out.below hb2) ⟨2, s1.num 8, 8, V, 0, []⟩ none 0 0 95 #[] #[.pointer (some ⟨c, 0, none⟩)]).mono ?_; intro e wd has; have HAS := Lib.hid has; obtain ⟨rfl, hblkd, htd⟩ := has; have kd := (htd.cell (p := ⟨a, 0, none⟩) (lt_of_cell k2) hag).trans k2; have md := (htd.cell (p := ⟨w.heap.size, 0, none⟩) (lt_of_cell m2) (fun e => hgx (show g = w.heap.size from e.symm))).trans m2; have o0d := hblkd.c0; have o1d := hblkd.c1; clear hblkd)
        | (go_at_call 94; refine (stSet (s1.num 8) V _).mono ?_; rintro e x2 ⟨rfl, hq2⟩; have hb2 := hb1.trans (hq2.mono hb1.size); have k2 := (hb2.cell (p := ⟨a, 0, none⟩) hal3).trans k0; have m2 := (hb2.cell (p := ⟨w.heap.size, 0, none⟩) hxl3).trans kx; have o02 := (hb2.cell (p := ⟨g, 0, none⟩) hgl3).trans c0; have o12 := (hb2.cell (p := ⟨g, 1, none⟩) hgl3).trans c1)
        | (go_at_call 49; refine (rpCopyC HS3.out.ok _).mono ?_; rintro e x1 ⟨rfl, hq1⟩; have hb1 := below_drew hq1; have k1 := (hb1.cell (p := ⟨a, 0, none⟩) hal3).trans k0; have m1 := (hb1.cell (p := ⟨w.heap.size, 0, none⟩) hxl3).trans kx; have o01 := (hb1.cell (p := ⟨g, 0, none⟩) hgl3).trans c0; have o11 := (hb1.cell (p := ⟨g, 1, none⟩) hgl3).trans c1))
    all_goals
      go_wp2
      go_end0
      have hss := HSS.out
      rw [if_pos HF.out] at hss
      rw [hss]
      refine RpMoved.afterT (W := w3) (rp_asked (s' := { s1 with ph := .copy2 gap }) HS3.out rfl hb2 ?_ HAS.out (BytesIn.none _ _) fun w9 hk => ?_) HT3.out
      · have hun : Rs.un s1.h = V := by rw [HS1.out]; exact HU.out
        show some (⟨2, s1.num 8, 8, Rs.un s1.h, 0, []⟩ : Ac) = _
        rw [hun]
      · have hk9 : ∀ k, F k → k ≠ g → w9.heap[k]? = w.heap[k]? := fun k hk' hkg => (hk k hkg (by have := HFL.out k hk'; have := hb2.size; omega)).trans ((hb2.block k (by have := HFL.out k hk'; omega)).trans (HTG3.out.block k (HFL.out k hk') hkg))
        refine ⟨c, on, rfl, (HC.out.1.keep hk9).mono fun k hk => .inl hk, ?_⟩
        exact OnIs.keep HC.out.2 hk9 fun k hk => .inl hk

set_option maxRecDepth 100000 in
set_option maxHeartbeats 800000 in
/-- The head's copy was stored: a choice. -/
theorem rpAwait11Tail {w : World} {F : Nat → Prop} {g : Nat} {s : Rs} {dv : Value} (h : RpBare w F g s dv) (hF : ∀ k, F k → k < w.heap.size) {c : Nat} {on : Value} (hc : Capt w F g c on) (hon : OnIs w F g none on) (V : Nat) (D : Bool) (A : Option Addr) (L cp : Nat) :
    Calls Tryz.prog 95 #[.agg #[.int .u64 V, .bool D, .slice A L cp], .pointer (some ⟨c, 0, none⟩)] w (RpMoved F g s.choose w) := by
  have hon' : on = .func (.func 77) #[.pointer (some ⟨g, 0, none⟩)] #[] := hon
  subst hon'
  have hb0 := (Below.refl w.heap.size w).alloc (Nat.le_refl _) (.cells #[.int .u64 V, .bool D, .slice A L cp] 50)
  have hc1 := (hb0.cell (p := ⟨c, 0, none⟩) (lt_of_cell hc.2.2)).trans hc.2.2
  have HC := Lib.hid ((rpChoose (h.below hb0) fun k hk => Nat.lt_of_lt_of_le (hF k hk) hb0.size))
  have HW := Lib.hid hb0
  clear h hb0 hc hon hF
  go_enter Tryz.func95, Tryz.ntmps95
  go_upto_region 1 with (fail)
  generalize w.alloc (.cells #[.int .u64 V, .bool D, .slice A L cp] 50) = W at HC HW hc1 ⊢
  go_wp2_with (go_at_call 77; refine HC.out.mono ?_; intro e w3 hm; have HM := Lib.hid hm; obtain ⟨rfl, _⟩ := hm)
  go_end0
  exact HM.out.after HW.out

set_option maxRecDepth 100000 in
set_option maxHeartbeats 800000 in
/-- The head's copy was stored: the claim behind padding. -/
theorem rpAwait11Gap {w : World} {F : Nat → Prop} {g : Nat} {s : Rs} {dv : Value} (h : RpBare w F g s dv) (gap : Int) {c : Nat} {on : Value} (hc : Capt w F g c on) (hon : OnIs w F g (some gap) on) (V : Nat) (D : Bool) (A : Option Addr) (L cp : Nat) :
    Calls Tryz.prog 95 #[.agg #[.int .u64 V, .bool D, .slice A L cp], .pointer (some ⟨c, 0, none⟩)] w (RpMoved F g { s with ph := .cas gap } w) := by
  obtain ⟨a, b, hon', ha, hb⟩ := hon
  subst hon'
  have hb0 := (Below.refl w.heap.size w).alloc (Nat.le_refl _) (.cells #[.int .u64 V, .bool D, .slice A L cp] 50)
  have hc1 := (hb0.cell (p := ⟨c, 0, none⟩) (lt_of_cell hc.2.2)).trans hc.2.2
  have HC := Lib.hid (rpChooseOn (h.below hb0) gap (ha.below hb0).2.2 (hb.below hb0).2.2)
  have HW := Lib.hid hb0
  clear h hb0 hc ha hb
  go_enter Tryz.func95, Tryz.ntmps95
  go_upto_region 1 with (fail)
  generalize w.alloc (.cells #[.int .u64 V, .bool D, .slice A L cp] 50) = W at HC HW hc1 ⊢
  go_wp2_with (go_at_call 99; refine HC.out.mono ?_; intro e w3 hm; have HM := Lib.hid hm; obtain ⟨rfl, _⟩ := hm)
  go_end0
  exact HM.out.after HW.out
end Go.Proofs.YtbfgbnalnjdheaaGreat
namespace Go.Proofs.YtbfgbnalnjdheaaGreat
open Go.RowKit

theorem daa_size (w : World) (q q' : Obj) : ((w.alloc q).alloc q').drew.heap.size = w.heap.size + 2 := by show ((w.alloc q).alloc q').heap.size = _; simp
theorem daa_blk (w : World) (q q' : Obj) : ((w.alloc q).alloc q').drew.heap[w.heap.size + 1]? = some q' := by
  have := Go.Deep.blk_alloc_new (w.alloc q) q'
  rw [show (w.alloc q).heap.size = w.heap.size + 1 by simp] at this
  exact this
theorem daa_below (w : World) (q q' : Obj) : Below w.heap.size w ((w.alloc q).alloc q').drew := (((Below.refl w.heap.size w).alloc (Nat.le_refl _) q).alloc (by simp) q').drew
theorem rp_boxed {w0 w2 : World} {n : Nat} {o : Value} {t : Nat} (hb : Below w0.heap.size w0 w2) (hq : w0.heap[n]? = some (.cells #[o] t)) : w2.cell? ⟨n, 0, none⟩ = some o ∧ w2.frozen? ⟨n, 0, none⟩ = false := by
  have hq' := (hb.block n ((Array.getElem?_eq_some_iff.1 hq).1)).trans hq
  exact ⟨by simp [World.cell?, hq'], by simp [World.frozen?, hq']⟩
theorem rp_over {w2 : World} {n : Nat} {o : Value} (q : Obj) (hc : w2.cell? ⟨n, 0, none⟩ = some o) (hz : w2.frozen? ⟨n, 0, none⟩ = false) : (w2.alloc q).cell? ⟨n, 0, none⟩ = some o ∧ (w2.alloc q).frozen? ⟨n, 0, none⟩ = false :=
  have hl : n < w2.heap.size := lt_of_cell hc
  ⟨(((Below.refl w2.heap.size w2).alloc (Nat.le_refl _) q).cell (p := ⟨n, 0, none⟩) hl).trans hc, (((Below.refl w2.heap.size w2).alloc (Nat.le_refl _) q).frozen (p := ⟨n, 0, none⟩) hl).trans hz⟩
theorem rp_two (w : World) (x : Value) (t : Nat) (q : Obj) : ((w.alloc (.cells #[x] t)).alloc q).cell? ⟨w.heap.size, 0, none⟩ = some x := (World.cell?_alloc_lt _ _ _ (by simp)).trans (rp_box w x t)
theorem rp_two' (w : World) (x : Value) (t : Nat) (q : Obj) : ((w.alloc q).alloc (.cells #[x] t)).cell? ⟨w.heap.size + 1, 0, none⟩ = some x := by
  have := rp_box (w.alloc q) x t
  rw [show (w.alloc q).heap.size = w.heap.size + 1 by simp] at this
  exact this
theorem rp_cast (x : Int) (h : 0 ≤ x) : ∃ V : Nat, x = (V : Int) ∧ x.toNat = V := ⟨x.toNat, (Int.toNat_of_nonneg h).symm, rfl⟩
theorem rp_lt_of {w : World} {k : Nat} {o : Obj} (h : w.heap[k]? = some o) : k < w.heap.size := (Array.getElem?_eq_some_iff.1 h).1

set_option maxRecDepth 100000 in
set_option maxHeartbeats 2000000 in
theorem rpWrite {w : World} {F : Nat → Prop} {g : Nat} {s : Rs} {dv : Value} (h : RpBare w F g s dv) :
    Calls Tryz.prog 109 #[.pointer (some ⟨g, 0, none⟩)] w (RpMoved F g { s with ph := .hdr } w) := by
  obtain ⟨a0, av, hblk⟩ := h.blk
  have hgl := hblk.lt
  have HH := Lib.hid h
  have hb0 := (Below.refl w.heap.size w).alloc (Nat.le_refl _) (.cells #[.pointer (some ⟨g, 0, none⟩)] 31)
  have hbox := rp_box w (.pointer (some ⟨g, 0, none⟩)) 31
  have hsz : (w.alloc (.cells #[.pointer (some ⟨g, 0, none⟩)] 31)).heap.size = w.heap.size + 1 := by simp
  have HB := Lib.hid (hblk.below hb0)
  have HW := Lib.hid hb0
  have hfew := h.ok.few
  have hz1 := h.ok.z1
  have he1 : IntKind.i64.wrap (8 + (s.L : Int)) = 8 + s.L := IntWalk.i64_in _ (by omega)
  have he2 : IntKind.i32.wrap (8 + (s.L : Int)) = 8 + s.L := by rw [Hd.s32_wrap]; unfold Hd.s32; omega
  have he3 : IntKind.i32.wrap (-(8 + (s.L : Int))) = -(8 + s.L) := by rw [Hd.s32_wrap]; unfold Hd.s32; omega
  obtain ⟨V, hV, hVn⟩ : ∃ V : Nat, Hd.jn (-(8 + (s.L : Int))) s.typ = (V : Int) ∧ (Hd.jn (-(8 + (s.L : Int))) s.typ).toNat = V := rp_cast _ (Hd.jn_bounds _ _).1
  obtain ⟨Ad, cd, hdv, _, _⟩ := h.dat
  subst hdv
  clear h hblk hb0 hfew hz1
  go_enter Tryz.func109, Tryz.ntmps109
  go_upto_region 1 with (fail)
  generalize w.alloc (.cells #[.pointer (some ⟨g, 0, none⟩)] 31) = W at hbox HW hsz HB ⊢
  have hga : ¬ w.heap.size = g := by omega
  have hgW : g < W.heap.size := by omega
  have hla : w.heap.size < W.heap.size := by omega
  clear hsz
  have c7 := HB.out.c14
  have c0 := HB.out.c0
  have c1 := HB.out.c1
  have c3 := HB.out.c3
  have y0 := World.new_ne W ⟨w.heap.size, 0, none⟩ hbox
  have y7 := World.new_ne W ⟨g, 14, none⟩ c7
  have yz := World.new_ne W ⟨g, 0, none⟩ c0
  have yo := World.new_ne W ⟨g, 1, none⟩ c1
  have y3 := World.new_ne W ⟨g, 3, none⟩ c3
  have z0 : ¬ W.heap.size + 1 = w.heap.size := by omega
  have z7 : ¬ W.heap.size + 1 = g := by omega
  go_cut [2, 3] (fun v u wx => ∃ bA bL, v = .pointer (some ⟨bA, 0, none⟩) ∧ u = .pointer (some ⟨bL, 0, none⟩) ∧ Below W.heap.size W wx ∧ W.heap.size ≤ bA ∧ W.heap.size ≤ bL ∧ wx.cell? ⟨bA, 0, none⟩ = some (.int .i64 (s.spot s.p)) ∧ wx.cell? ⟨bL, 0, none⟩ = some (.int .i32 (8 + (s.L : Int))))
  case first =>
    go_region_held3 (fun w' => w'.cell? ⟨w.heap.size, 0, none⟩ = some (.pointer (some ⟨g, 0, none⟩)) ∧ w'.cell? ⟨g, 14, none⟩ = some (.int .i64 s.p) ∧ w'.cell? ⟨g, 0, none⟩ = some (.int .i64 s.B) ∧ w'.cell? ⟨g, 1, none⟩ = some (.int .i64 s.Z) ∧ w'.cell? ⟨g, 3, none⟩ = some (.slice Ad s.L cd)) (go_keep)
      (first
        | (go_at_call 111; refine (rpAtC HH.out.ok s.p (((W.alloc (.cells #[.int .i64 0] 3)).alloc (.cells #[.int .i32 0] 21)).drew)).mono ?_; rintro e w2 ⟨rfl, hb⟩; have hbq : Below W.heap.size W (((W.alloc (.cells #[.int .i64 0] 3)).alloc (.cells #[.int .i32 0] 21)).drew) := daa_below W (.cells #[.int .i64 0] 3) (.cells #[.int .i32 0] 21); have hb2 : Below W.heap.size W w2 := hbq.trans (hb.mono hbq.size); obtain ⟨hc0, hz0⟩ := rp_boxed (n := W.heap.size) (o := .int .i64 0) (t := 3) hb ((Below.heap_alloc (W.alloc (.cells #[.int .i64 0] 3)) (.cells #[.int .i32 0] 21) W.heap.size (by simp)).trans (Go.Deep.blk_alloc_new W _)); obtain ⟨hc1, hz1⟩ := rp_boxed (n := (W.heap.size + 1)) (o := .int .i32 0) (t := 21) hb (daa_blk W _ _); have k0 := (hb2.cell (p := ⟨w.heap.size, 0, none⟩) hla).trans hbox; have k7 := (hb2.cell (p := ⟨g, 14, none⟩) hgW).trans c7; have kz := (hb2.cell (p := ⟨g, 0, none⟩) hgW).trans c0; have ko := (hb2.cell (p := ⟨g, 1, none⟩) hgW).trans c1; have k3 := (hb2.cell (p := ⟨g, 3, none⟩) hgW).trans c3; have yy0 := World.new_ne w2 ⟨w.heap.size, 0, none⟩ k0; have yy7 := World.new_ne w2 ⟨g, 14, none⟩ k7; have yyz := World.new_ne w2 ⟨g, 0, none⟩ kz; have yyo := World.new_ne w2 ⟨g, 1, none⟩ ko; have yy3 := World.new_ne w2 ⟨g, 3, none⟩ k3; have yc0 := World.new_ne w2 ⟨W.heap.size, 0, none⟩ hc0; have yc1 := World.new_ne w2 ⟨(W.heap.size + 1), 0, none⟩ hc1)
        | (go_at_call 111; refine (rpAtC HH.out.ok s.p (((W.alloc (.cells #[.int .i32 0] 21)).alloc (.cells #[.int .i64 0] 3)).drew)).mono ?_; rintro e w2 ⟨rfl, hb⟩; have hbq : Below W.heap.size W (((W.alloc (.cells #[.int .i32 0] 21)).alloc (.cells #[.int .i64 0] 3)).drew) := daa_below W (.cells #[.int .i32 0] 21) (.cells #[.int .i64 0] 3); have hb2 : Below W.heap.size W w2 := hbq.trans (hb.mono hbq.size); obtain ⟨hc0, hz0⟩ := rp_boxed (n := W.heap.size) (o := .int .i32 0) (t := 21) hb ((Below.heap_alloc (W.alloc (.cells #[.int .i32 0] 21)) (.cells #[.int .i64 0] 3) W.heap.size (by simp)).trans (Go.Deep.blk_alloc_new W _)); obtain ⟨hc1, hz1⟩ := rp_boxed (n := (W.heap.size + 1)) (o := .int .i64 0) (t := 3) hb (daa_blk W _ _); have k0 := (hb2.cell (p := ⟨w.heap.size, 0, none⟩) hla).trans hbox; have k7 := (hb2.cell (p := ⟨g, 14, none⟩) hgW).trans c7; have kz := (hb2.cell (p := ⟨g, 0, none⟩) hgW).trans c0; have ko := (hb2.cell (p := ⟨g, 1, none⟩) hgW).trans c1; have k3 := (hb2.cell (p := ⟨g, 3, none⟩) hgW).trans c3; have yy0 := World.new_ne w2 ⟨w.heap.size, 0, none⟩ k0; have yy7 := World.new_ne w2 ⟨g, 14, none⟩ k7; have yyz := World.new_ne w2 ⟨g, 0, none⟩ kz; have yyo := World.new_ne w2 ⟨g, 1, none⟩ ko; have yy3 := World.new_ne w2 ⟨g, 3, none⟩ k3; have yc0 := World.new_ne w2 ⟨W.heap.size, 0, none⟩ hc0; have yc1 := World.new_ne w2 ⟨(W.heap.size + 1), 0, none⟩ hc1)
        | (go_at_call 111; refine (rpAtC HH.out.ok s.p ((W.alloc (.cells #[.int .i64 0] 3)).drew)).mono ?_; rintro e w2 ⟨rfl, hb⟩; have hbq : Below W.heap.size W ((W.alloc (.cells #[.int .i64 0] 3)).drew) := da_below W (.cells #[.int .i64 0] 3); have hb2 : Below W.heap.size W w2 := hbq.trans (hb.mono hbq.size); obtain ⟨hc0, hz0⟩ := rp_boxed (n := W.heap.size) (o := .int .i64 0) (t := 3) hb (Go.Deep.blk_alloc_new W _); have k0 := (hb2.cell (p := ⟨w.heap.size, 0, none⟩) hla).trans hbox; have k7 := (hb2.cell (p := ⟨g, 14, none⟩) hgW).trans c7; have kz := (hb2.cell (p := ⟨g, 0, none⟩) hgW).trans c0; have ko := (hb2.cell (p := ⟨g, 1, none⟩) hgW).trans c1; have k3 := (hb2.cell (p := ⟨g, 3, none⟩) hgW).trans c3; have yy0 := World.new_ne w2 ⟨w.heap.size, 0, none⟩ k0; have yy7 := World.new_ne w2 ⟨g, 14, none⟩ k7; have yyz := World.new_ne w2 ⟨g, 0, none⟩ kz; have yyo := World.new_ne w2 ⟨g, 1, none⟩ ko; have yy3 := World.new_ne w2 ⟨g, 3, none⟩ k3; have yc0 := World.new_ne w2 ⟨W.heap.size, 0, none⟩ hc0; have hv0 := fun q => (rp_over q hc0 hz0).1; have hf0 := fun q => (rp_over q hc0 hz0).2)
        | (go_at_call 111; refine (rpAtC HH.out.ok s.p ((W.alloc (.cells #[.int .i32 0] 21)).drew)).mono ?_; rintro e w2 ⟨rfl, hb⟩; have hbq : Below W.heap.size W ((W.alloc (.cells #[.int .i32 0] 21)).drew) := da_below W (.cells #[.int .i32 0] 21); have hb2 : Below W.heap.size W w2 := hbq.trans (hb.mono hbq.size); obtain ⟨hc0, hz0⟩ := rp_boxed (n := W.heap.size) (o := .int .i32 0) (t := 21) hb (Go.Deep.blk_alloc_new W _); have k0 := (hb2.cell (p := ⟨w.heap.size, 0, none⟩) hla).trans hbox; have k7 := (hb2.cell (p := ⟨g, 14, none⟩) hgW).trans c7; have kz := (hb2.cell (p := ⟨g, 0, none⟩) hgW).trans c0; have ko := (hb2.cell (p := ⟨g, 1, none⟩) hgW).trans c1; have k3 := (hb2.cell (p := ⟨g, 3, none⟩) hgW).trans c3; have yy0 := World.new_ne w2 ⟨w.heap.size, 0, none⟩ k0; have yy7 := World.new_ne w2 ⟨g, 14, none⟩ k7; have yyz := World.new_ne w2 ⟨g, 0, none⟩ kz; have yyo := World.new_ne w2 ⟨g, 1, none⟩ ko; have yy3 := World.new_ne w2 ⟨g, 3, none⟩ k3; have yc0 := World.new_ne w2 ⟨W.heap.size, 0, none⟩ hc0; have hv0 := fun q => (rp_over q hc0 hz0).1; have hf0 := fun q => (rp_over q hc0 hz0).2)
        | (go_at_call 111; refine (rpAtC HH.out.ok s.p (W.drew)).mono ?_; rintro e w2 ⟨rfl, hb⟩; have hbq : Below W.heap.size W (W.drew) := (Below.refl _ W).drew; have hb2 : Below W.heap.size W w2 := hbq.trans (hb.mono hbq.size); have k0 := (hb2.cell (p := ⟨w.heap.size, 0, none⟩) hla).trans hbox; have k7 := (hb2.cell (p := ⟨g, 14, none⟩) hgW).trans c7; have kz := (hb2.cell (p := ⟨g, 0, none⟩) hgW).trans c0; have ko := (hb2.cell (p := ⟨g, 1, none⟩) hgW).trans c1; have k3 := (hb2.cell (p := ⟨g, 3, none⟩) hgW).trans c3; have yy0 := World.new_ne w2 ⟨w.heap.size, 0, none⟩ k0; have yy7 := World.new_ne w2 ⟨g, 14, none⟩ k7; have yyz := World.new_ne w2 ⟨g, 0, none⟩ kz; have yyo := World.new_ne w2 ⟨g, 1, none⟩ ko; have yy3 := World.new_ne w2 ⟨g, 3, none⟩ k3)
)
    all_goals (go_wp2_with fail; go_meet)
    · exact ⟨_, _, rfl, rfl, (hb2.alloc hb2.size _).alloc (by have := hb2.size; simp; omega) _, hb2.size, Nat.le_succ_of_le hb2.size, rp_two w2 _ _ _, rp_two' w2 _ _ _⟩
    · exact ⟨_, _, rfl, rfl, (hb2.alloc hb2.size _).alloc (by have := hb2.size; simp; omega) _, Nat.le_succ_of_le hb2.size, hb2.size, rp_two' w2 _ _ _, rp_two w2 _ _ _⟩
    · exact ⟨_, _, rfl, rfl, ((hb2.alloc hb2.size _).setCell (Nat.le_refl _) _).setCell hb2.size _, Nat.le_refl _, hb2.size, (World.cell?_setCell_far _ _ _ _ yc0).trans (World.cell?_setCell_same _ _ _ (hv0 _)), World.cell?_setCell_same _ _ _ ((World.cell?_setCell_far _ _ _ _ yc0.symm).trans (rp_box w2 _ _))⟩
    · exact ⟨_, _, rfl, rfl, (hb2.setCell (Nat.le_refl _) _).setCell (Nat.le_succ _) _, Nat.le_refl _, Nat.le_succ _, (World.cell?_setCell_far _ _ _ _ (Nat.succ_ne_self _)).trans (World.cell?_setCell_same _ _ _ hc0), World.cell?_setCell_same _ _ _ ((World.cell?_setCell_far _ _ _ _ (Nat.succ_ne_self _).symm).trans hc1)⟩
    · exact ⟨_, _, rfl, rfl, (hb2.alloc hb2.size _).setCell (Nat.le_refl _) _, hb2.size, Nat.le_refl _, (World.cell?_setCell_far _ _ _ _ yc0.symm).trans (rp_box w2 _ _), World.cell?_setCell_same _ _ _ (hv0 _)⟩
    · exact ⟨_, _, rfl, rfl, (hb2.setCell (Nat.le_succ _) _).setCell (Nat.le_refl _) _, Nat.le_succ _, Nat.le_refl _, (World.cell?_setCell_far _ _ _ _ (Nat.succ_ne_self _).symm).trans (World.cell?_setCell_same _ _ _ hc1), World.cell?_setCell_same _ _ _ ((World.cell?_setCell_far _ _ _ _ (Nat.succ_ne_self _)).trans hc0)⟩
  case rest =>
    obtain ⟨bA, bL, rfl, rfl, hbc, hA, hL, hca, hcl⟩ := hcut
    have hbW := HW.out.trans (hbc.mono HW.out.size)
    have k0 := (hbc.cell (p := ⟨w.heap.size, 0, none⟩) hla).trans hbox
    have HB2 := Lib.hid (HB.out.below hbc)
    have k2 := HB2.out.c2
    have HBW := Lib.hid hbW
    have hAg : ¬ bA = g := by omega
    have hLg : ¬ bL = g := by omega
    have hwA : w.heap.size ≤ bA := by omega
    have hwL : w.heap.size ≤ bL := by omega
    have hla' : w.heap.size < wc.heap.size := lt_of_cell k0
    have hbA : bA < wc.heap.size := lt_of_cell hca
    have hbL : bL < wc.heap.size := lt_of_cell hcl
    have hgc : g < wc.heap.size := lt_of_cell k2
    clear c7 c3 c0 c1 y0 y7 y3 yz yo z0 z7 hbox hbc hbW he1 he2 HB HW hla hgW hA hL
    go_upto_region 2 with (fail)
    go_region_held3 (fun w' => w'.cell? ⟨w.heap.size, 0, none⟩ = some (.pointer (some ⟨g, 0, none⟩)) ∧ w'.cell? ⟨bA, 0, none⟩ = some (.int .i64 (s.spot s.p)) ∧ w'.cell? ⟨bL, 0, none⟩ = some (.int .i32 (8 + (s.L : Int))) ∧ w'.cell? ⟨g, 2, none⟩ = some (.int .i32 s.typ)) (go_keep)
      (first
        | (go_at_call 47; refine (rpDo (HB2.out.below hb1) ⟨2, s.spot s.p, 8, V, 0, []⟩ none 0 0 113 #[] #[.pointer (some ⟨w.heap.size, 0, none⟩), .pointer (some ⟨bA, 0, none⟩), .pointer (some ⟨bL, 0, none⟩)]).mono ?_; intro e wd has; have HAS := Lib.hid has; obtain ⟨rfl, hblkd, htd⟩ := has; have kd := (htd.cell (p := ⟨w.heap.size, 0, none⟩) (lt_of_cell k1) hga).trans k1; have ad := (htd.cell (p := ⟨bA, 0, none⟩) (lt_of_cell a1) hAg).trans a1; have ld := (htd.cell (p := ⟨bL, 0, none⟩) (lt_of_cell l1) hLg).trans l1; have o2d := hblkd.c2; clear hblkd)
        | (go_at_call 110; refine (record_any (-(8 + (s.L : Int))) s.typ _).mono ?_; rintro e w' ⟨rfl, rfl⟩; rw [hV])
        | (go_at_call 94; refine (stSet (s.spot s.p) V _).mono ?_; rintro e x1 ⟨rfl, hq1⟩; have hb1 := below_drew hq1; have k1 := (hb1.cell (p := ⟨w.heap.size, 0, none⟩) hla').trans k0; have a1 := (hb1.cell (p := ⟨bA, 0, none⟩) hbA).trans hca; have l1 := (hb1.cell (p := ⟨bL, 0, none⟩) hbL).trans hcl; have o21 := (hb1.cell (p := ⟨g, 2, none⟩) hgc).trans k2; have hbl := HBW.out.trans (hb1.mono HBW.out.size)))
    all_goals
      go_wp2
      go_end0
      refine rp_asked (s' := { s with ph := .hdr }) HH.out rfl hbl (show some (⟨2, s.spot s.p, 8, (Hd.jn (-(8 + (s.L : Int))) s.typ).toNat, 0, []⟩ : Ac) = _ by rw [hVn]) HAS.out (BytesIn.none _ _) fun w2 hk => ?_
      have hl3 : w.heap.size < x1.heap.size := lt_of_cell k1
      have hm3 : bA < x1.heap.size := lt_of_cell a1
      have hn3 : bL < x1.heap.size := lt_of_cell l1
      exact ⟨w.heap.size, bA, bL, rfl, ⟨.inr ⟨Nat.le_refl _, hl3⟩, hga, (World.cell?_of_block (w := x1) (a := ⟨w.heap.size, 0, none⟩) (hk _ hga hl3)).trans k1⟩, ⟨.inr ⟨hwA, hm3⟩, hAg, (World.cell?_of_block (w := x1) (a := ⟨bA, 0, none⟩) (hk _ hAg hm3)).trans a1⟩, ⟨.inr ⟨hwL, hn3⟩, hLg, (World.cell?_of_block (w := x1) (a := ⟨bL, 0, none⟩) (hk _ hLg hn3)).trans l1⟩⟩
end Go.Proofs.YtbfgbnalnjdheaaGreat
namespace Go.Proofs.YtbfgbnalnjdheaaGreat
open Go.RowKit

theorem Rs.Ok.withPh {s : Rs} (ok : s.Ok) (ph : Ph) : ({ s with ph := ph } : Rs).Ok := ⟨ok.pow, ok.z0, ok.z1, ok.b0, ok.b1, ok.t0, ok.t1, ok.few, ok.isB, ok.h0, ok.tl, ok.ps⟩
theorem RpBare.withPh {w : World} {F : Nat → Prop} {g : Nat} {s : Rs} {dv : Value} (h : RpBare w F g s dv) (ph : Ph) : RpBare w F g { s with ph := ph } dv := by
  obtain ⟨a, av, hk⟩ := h.blk
  exact ⟨⟨a, av, hk⟩, h.own, h.ok.withPh ph, h.dat, h.txt⟩

set_option maxRecDepth 100000 in
set_option maxHeartbeats 800000 in
/-- The padding's header was stored: the message's writing begins. -/
theorem rpClaim11 {w : World} {F : Nat → Prop} {g : Nat} {s : Rs} {dv : Value} (h : RpBare w F g s dv) {a : Nat} (ha : Capt w F g a (.pointer (some ⟨g, 0, none⟩))) (V : Nat) (D : Bool) (A : Option Addr) (L cp : Nat) :
    Calls Tryz.prog 112 #[.agg #[.int .u64 V, .bool D, .slice A L cp], .pointer (some ⟨a, 0, none⟩)] w (RpMoved F g { s with ph := .hdr } w) := by
  have hb0 := (Below.refl w.heap.size w).alloc (Nat.le_refl _) (.cells #[.int .u64 V, .bool D, .slice A L cp] 50)
  have hc1 := (hb0.cell (p := ⟨a, 0, none⟩) (lt_of_cell ha.2.2)).trans ha.2.2
  have HC := Lib.hid (rpWrite (h.below hb0))
  have HW := Lib.hid hb0
  clear h hb0 ha
  go_enter Tryz.func112, Tryz.ntmps112
  go_upto_region 1 with (fail)
  generalize w.alloc (.cells #[.int .u64 V, .bool D, .slice A L cp] 50) = W at HC HW hc1 ⊢
  go_wp2_with (go_at_call 109; refine HC.out.mono ?_; intro e w3 hm; have HM := Lib.hid hm; obtain ⟨rfl, _⟩ := hm)
  go_end0
  exact HM.out.after HW.out

set_option maxRecDepth 100000 in
set_option maxHeartbeats 800000 in
/-- The length was stored: the message is whole. -/
theorem rpWrite111 {w : World} {F : Nat → Prop} {g : Nat} {s : Rs} {dv : Value} (h : RpBare w F g s dv) (V : Nat) (D : Bool) (A : Option Addr) (L cp : Nat) :
    Calls Tryz.prog 117 #[.agg #[.int .u64 V, .bool D, .slice A L cp]] w (RpMoved F g { s with ph := .fin } w) := by
  have hb0 := (Below.refl w.heap.size w).alloc (Nat.le_refl _) (.cells #[.int .u64 V, .bool D, .slice A L cp] 50)
  have HH := Lib.hid h
  have HW := Lib.hid hb0
  clear h hb0
  go_enter Tryz.func117, Tryz.ntmps117
  go_wp2
  go_end0
  exact rp_done ((HH.out.below HW.out).withPh .fin) rfl (Touch.of_below HW.out)
end Go.Proofs.YtbfgbnalnjdheaaGreat
