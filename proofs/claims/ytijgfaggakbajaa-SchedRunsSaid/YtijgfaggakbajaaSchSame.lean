/-
  Whether two lists of events are one (layer 6's plain answer), walked for two that are.
-/
import Derived.Test.YtijgfaggakbajaaSchCalls
import Derived.Test.YtijgfaggakbajaaSameAcc
import Derived.Deep.RegionHeld3
namespace Go.Proofs.Ytijgfaggakbajaa
open Go.RowKit

set_option maxRecDepth 100000 in
set_option maxHeartbeats 1000000 in
theorem same_ans (V : Int) (D : Bool) (A B : Option Addr) (L M cp cq : Nat) (xs : List Int) (w : World) (ha : BytesAt w (.slice A L cp) xs) (hb : BytesAt w (.slice B M cq) xs) :
    Calls Try.prog 34 #[.agg #[.int .u64 V, .bool D, .slice A L cp], .agg #[.int .u64 V, .bool D, .slice B M cq]] w (TrueBelow w) := by
  have HW := ((Below.refl w.heap.size w).alloc (Nat.le_refl _) (.cells #[.int .u64 V, .bool D, .slice A L cp] 49)).alloc (by simp) (.cells #[.int .u64 V, .bool D, .slice B M cq] 49)
  have h1 := (ha.below HW).conv
  have h2 := (hb.below HW).conv
  go_enter Try.func34, Try.ntmps34
  go_wp2
  go_ret
  exact ⟨rfl, HW⟩

/-- The cells of two equal events. -/
theorem two_cells {w : World} {b1 b2 i : Nat} {x : Ev} {A1 A2 A3 A4 : Option Addr} {l1 l2 l3 l4 q1 q2 q3 q4 : Nat} {ts1 ts2 : List Tx} (h1 : EvRow w b1 ts1) (h2 : EvRow w b2 ts2) (e1 : ts1[i]? = some ⟨x, .slice A1 l1 q1, .slice A2 l2 q2⟩) (e2 : ts2[i]? = some ⟨x, .slice A3 l3 q3, .slice A4 l4 q4⟩) :
    w.cell? ⟨b1, i * 12, none⟩ = some (.int .i64 x.pk.K) ∧ w.cell? ⟨b1, i * 12 + 1, none⟩ = some (.int .i64 x.pk.A) ∧ w.cell? ⟨b1, i * 12 + 2, none⟩ = some (.int .i64 x.pk.N) ∧ w.cell? ⟨b1, i * 12 + 3, none⟩ = some (.int .i64 x.ac.K) ∧ w.cell? ⟨b1, i * 12 + 4, none⟩ = some (.int .i64 x.ac.P) ∧ w.cell? ⟨b1, i * 12 + 5, none⟩ = some (.int .i64 x.ac.N) ∧ w.cell? ⟨b1, i * 12 + 6, none⟩ = some (.int .u64 x.ac.V) ∧ w.cell? ⟨b1, i * 12 + 7, none⟩ = some (.int .u64 x.ac.U) ∧ w.cell? ⟨b1, i * 12 + 8, none⟩ = some (.slice A1 l1 q1) ∧ w.cell? ⟨b1, i * 12 + 9, none⟩ = some (.int .u64 x.an.V) ∧ w.cell? ⟨b1, i * 12 + 10, none⟩ = some (.bool x.an.D) ∧ w.cell? ⟨b1, i * 12 + 11, none⟩ = some (.slice A2 l2 q2) ∧ w.cell? ⟨b2, i * 12, none⟩ = some (.int .i64 x.pk.K) ∧ w.cell? ⟨b2, i * 12 + 1, none⟩ = some (.int .i64 x.pk.A) ∧ w.cell? ⟨b2, i * 12 + 2, none⟩ = some (.int .i64 x.pk.N) ∧ w.cell? ⟨b2, i * 12 + 3, none⟩ = some (.int .i64 x.ac.K) ∧ w.cell? ⟨b2, i * 12 + 4, none⟩ = some (.int .i64 x.ac.P) ∧ w.cell? ⟨b2, i * 12 + 5, none⟩ = some (.int .i64 x.ac.N) ∧ w.cell? ⟨b2, i * 12 + 6, none⟩ = some (.int .u64 x.ac.V) ∧ w.cell? ⟨b2, i * 12 + 7, none⟩ = some (.int .u64 x.ac.U) ∧ w.cell? ⟨b2, i * 12 + 8, none⟩ = some (.slice A3 l3 q3) ∧ w.cell? ⟨b2, i * 12 + 9, none⟩ = some (.int .u64 x.an.V) ∧ w.cell? ⟨b2, i * 12 + 10, none⟩ = some (.bool x.an.D) ∧ w.cell? ⟨b2, i * 12 + 11, none⟩ = some (.slice A4 l4 q4) :=
  ⟨h1 i _ e1 0 _ rfl, h1 i _ e1 1 _ rfl, h1 i _ e1 2 _ rfl, h1 i _ e1 3 _ rfl, h1 i _ e1 4 _ rfl, h1 i _ e1 5 _ rfl, h1 i _ e1 6 _ rfl, h1 i _ e1 7 _ rfl, h1 i _ e1 8 _ rfl, h1 i _ e1 9 _ rfl, h1 i _ e1 10 _ rfl, h1 i _ e1 11 _ rfl, h2 i _ e2 0 _ rfl, h2 i _ e2 1 _ rfl, h2 i _ e2 2 _ rfl, h2 i _ e2 3 _ rfl, h2 i _ e2 4 _ rfl, h2 i _ e2 5 _ rfl, h2 i _ e2 6 _ rfl, h2 i _ e2 7 _ rfl, h2 i _ e2 8 _ rfl, h2 i _ e2 9 _ rfl, h2 i _ e2 10 _ rfl, h2 i _ e2 11 _ rfl⟩

/-- .. as they stand further on. -/
theorem two_move {w w' : World} {b1 b2 i : Nat} {x : Ev} {A1 A2 A3 A4 : Option Addr} {l1 l2 l3 l4 q1 q2 q3 q4 : Nat} (hb : Below w.heap.size w w') (h1 : b1 < w.heap.size) (h2 : b2 < w.heap.size) (h : w.cell? ⟨b1, i * 12, none⟩ = some (.int .i64 x.pk.K) ∧ w.cell? ⟨b1, i * 12 + 1, none⟩ = some (.int .i64 x.pk.A) ∧ w.cell? ⟨b1, i * 12 + 2, none⟩ = some (.int .i64 x.pk.N) ∧ w.cell? ⟨b1, i * 12 + 3, none⟩ = some (.int .i64 x.ac.K) ∧ w.cell? ⟨b1, i * 12 + 4, none⟩ = some (.int .i64 x.ac.P) ∧ w.cell? ⟨b1, i * 12 + 5, none⟩ = some (.int .i64 x.ac.N) ∧ w.cell? ⟨b1, i * 12 + 6, none⟩ = some (.int .u64 x.ac.V) ∧ w.cell? ⟨b1, i * 12 + 7, none⟩ = some (.int .u64 x.ac.U) ∧ w.cell? ⟨b1, i * 12 + 8, none⟩ = some (.slice A1 l1 q1) ∧ w.cell? ⟨b1, i * 12 + 9, none⟩ = some (.int .u64 x.an.V) ∧ w.cell? ⟨b1, i * 12 + 10, none⟩ = some (.bool x.an.D) ∧ w.cell? ⟨b1, i * 12 + 11, none⟩ = some (.slice A2 l2 q2) ∧ w.cell? ⟨b2, i * 12, none⟩ = some (.int .i64 x.pk.K) ∧ w.cell? ⟨b2, i * 12 + 1, none⟩ = some (.int .i64 x.pk.A) ∧ w.cell? ⟨b2, i * 12 + 2, none⟩ = some (.int .i64 x.pk.N) ∧ w.cell? ⟨b2, i * 12 + 3, none⟩ = some (.int .i64 x.ac.K) ∧ w.cell? ⟨b2, i * 12 + 4, none⟩ = some (.int .i64 x.ac.P) ∧ w.cell? ⟨b2, i * 12 + 5, none⟩ = some (.int .i64 x.ac.N) ∧ w.cell? ⟨b2, i * 12 + 6, none⟩ = some (.int .u64 x.ac.V) ∧ w.cell? ⟨b2, i * 12 + 7, none⟩ = some (.int .u64 x.ac.U) ∧ w.cell? ⟨b2, i * 12 + 8, none⟩ = some (.slice A3 l3 q3) ∧ w.cell? ⟨b2, i * 12 + 9, none⟩ = some (.int .u64 x.an.V) ∧ w.cell? ⟨b2, i * 12 + 10, none⟩ = some (.bool x.an.D) ∧ w.cell? ⟨b2, i * 12 + 11, none⟩ = some (.slice A4 l4 q4)) :
    w'.cell? ⟨b1, i * 12, none⟩ = some (.int .i64 x.pk.K) ∧ w'.cell? ⟨b1, i * 12 + 1, none⟩ = some (.int .i64 x.pk.A) ∧ w'.cell? ⟨b1, i * 12 + 2, none⟩ = some (.int .i64 x.pk.N) ∧ w'.cell? ⟨b1, i * 12 + 3, none⟩ = some (.int .i64 x.ac.K) ∧ w'.cell? ⟨b1, i * 12 + 4, none⟩ = some (.int .i64 x.ac.P) ∧ w'.cell? ⟨b1, i * 12 + 5, none⟩ = some (.int .i64 x.ac.N) ∧ w'.cell? ⟨b1, i * 12 + 6, none⟩ = some (.int .u64 x.ac.V) ∧ w'.cell? ⟨b1, i * 12 + 7, none⟩ = some (.int .u64 x.ac.U) ∧ w'.cell? ⟨b1, i * 12 + 8, none⟩ = some (.slice A1 l1 q1) ∧ w'.cell? ⟨b1, i * 12 + 9, none⟩ = some (.int .u64 x.an.V) ∧ w'.cell? ⟨b1, i * 12 + 10, none⟩ = some (.bool x.an.D) ∧ w'.cell? ⟨b1, i * 12 + 11, none⟩ = some (.slice A2 l2 q2) ∧ w'.cell? ⟨b2, i * 12, none⟩ = some (.int .i64 x.pk.K) ∧ w'.cell? ⟨b2, i * 12 + 1, none⟩ = some (.int .i64 x.pk.A) ∧ w'.cell? ⟨b2, i * 12 + 2, none⟩ = some (.int .i64 x.pk.N) ∧ w'.cell? ⟨b2, i * 12 + 3, none⟩ = some (.int .i64 x.ac.K) ∧ w'.cell? ⟨b2, i * 12 + 4, none⟩ = some (.int .i64 x.ac.P) ∧ w'.cell? ⟨b2, i * 12 + 5, none⟩ = some (.int .i64 x.ac.N) ∧ w'.cell? ⟨b2, i * 12 + 6, none⟩ = some (.int .u64 x.ac.V) ∧ w'.cell? ⟨b2, i * 12 + 7, none⟩ = some (.int .u64 x.ac.U) ∧ w'.cell? ⟨b2, i * 12 + 8, none⟩ = some (.slice A3 l3 q3) ∧ w'.cell? ⟨b2, i * 12 + 9, none⟩ = some (.int .u64 x.an.V) ∧ w'.cell? ⟨b2, i * 12 + 10, none⟩ = some (.bool x.an.D) ∧ w'.cell? ⟨b2, i * 12 + 11, none⟩ = some (.slice A4 l4 q4) := by
  have k1 := fun j => hb.cell (p := ⟨b1, j, none⟩) h1
  have k2 := fun j => hb.cell (p := ⟨b2, j, none⟩) h2
  simp only [k1, k2]
  exact h

set_option maxRecDepth 100000 in
set_option maxHeartbeats 4000000 in
theorem evs_same {w : World} {K1 K2 : Nat → Prop} {v1 v2 : Value} {ts1 ts2 : List Tx} (h1 : EvsAt K1 w v1 ts1) (h2 : EvsAt K2 w v2 ts2) (he : ts1.map Tx.e = ts2.map Tx.e) : Calls Try.prog 13 #[v1, v2] w (TrueBelow w) := by
  obtain ⟨⟨A, c, rfl, hc1, hc2, hp1⟩, tx1⟩ := h1
  obtain ⟨⟨B, d, rfl, hd1, hd2, hp2⟩, tx2⟩ := h2
  have hlen : ts2.length = ts1.length := by have := congrArg List.length he; simpa using this.symm
  rw [hlen] at hd1 hp2 ⊢
  have H := Lib.hid (And.intro hp1 (And.intro hp2 (And.intro tx1 (And.intro tx2 (And.intro he hlen)))))
  clear hp1 hp2 tx1 tx2 he hlen
  go_enter Try.func13, Try.ntmps13
  go_wp2
  go_loopw [13] (fun t13 wr => ∃ i : Nat, t13 = .int .i64 i ∧ i ≤ ts1.length ∧ Below w.heap.size w wr) (fun t13 _ => ts1.length - (intOf t13).toNat)
  case atStart => exact ⟨0, rfl, Nat.zero_le _, Below.refl _ _⟩
  case round =>
    obtain ⟨i, rfl, hi, hbw⟩ := hrel
    have HB := Lib.hid hbw
    have hsz := hbw.size
    clear hbw
    by_cases hlt : i < ts1.length
    · obtain ⟨b1, rfl, _, hl1, hr1⟩ := H.out.1 (by omega)
      obtain ⟨b2, rfl, _, hl2, hr2⟩ := H.out.2.1 (by omega)
      have e1 : ts1[i]? = some ts1[i] := List.getElem?_eq_getElem hlt
      have hlt2 : i < ts2.length := by rw [H.out.2.2.2.2.2]; exact hlt
      have e2 : ts2[i]? = some ts2[i] := List.getElem?_eq_getElem hlt2
      obtain ⟨y1, y2⟩ := H.out.2.2.1 _ (List.getElem_mem hlt)
      obtain ⟨z1, z2⟩ := H.out.2.2.2.1 _ (List.getElem_mem hlt2)
      have ex : ts2[i].e = ts1[i].e := by
        have := congrArg (fun l => l[i]?) H.out.2.2.2.2.1
        simp only [List.getElem?_map, e1, e2, Option.map_some, Option.some.injEq] at this
        exact this.symm
      generalize ts1[i] = t1 at e1 y1 y2 ex
      generalize ts2[i] = t2 at e2 z1 z2 ex
      obtain ⟨x, s1, s2⟩ := t1
      obtain ⟨x2, s3, s4⟩ := t2
      have ex : x = x2 := Eq.symm ex
      subst ex
      obtain ⟨A1, q1, f1⟩ := y1.length
      obtain ⟨A2, q2, f2⟩ := y2.length
      obtain ⟨A3, q3, f3⟩ := z1.length
      obtain ⟨A4, q4, f4⟩ := z2.length
      replace f1 : s1 = .slice A1 x.ac.bs.length q1 := f1
      replace f2 : s2 = .slice A2 x.an.bs.length q2 := f2
      replace f3 : s3 = .slice A3 x.ac.bs.length q3 := f3
      replace f4 : s4 = .slice A4 x.an.bs.length q4 := f4
      subst f1 f2 f3 f4
      have hbw := HB.out
      have k := two_cells (w := wr) (fun j t hj m u hu => (hbw.cell (p := ⟨b1, j * 12 + m, none⟩) hl1).trans (hr1 j t hj m u hu)) (fun j t hj m u hu => (hbw.cell (p := ⟨b2, j * 12 + m, none⟩) hl2).trans (hr2 j t hj m u hu)) e1 e2
      have HX := Lib.hid (And.intro (y1.bytes.below hbw) (And.intro (y2.bytes.below hbw) (And.intro (z1.bytes.below hbw) (z2.bytes.below hbw))))
      have hl1 : b1 < wr.heap.size := by omega
      have hl2 : b2 < wr.heap.size := by omega
      clear hr1 hr2 e1 e2 y1 y2 z1 z2 hbw hlt2
      obtain ⟨k0, k1, k2, k3, k4, k5, k6, k7, k8, k9, k10, k11, k12, k13, k14, k15, k16, k17, k18, k19, k20, k21, k22, k23⟩ := k
      go_upto_region 6 with (fail)
      go_region_held3 (fun w' => w'.cell? ⟨b1, i * 12, none⟩ = some (.int .i64 x.pk.K) ∧ w'.cell? ⟨b1, i * 12 + 1, none⟩ = some (.int .i64 x.pk.A) ∧ w'.cell? ⟨b1, i * 12 + 2, none⟩ = some (.int .i64 x.pk.N) ∧ w'.cell? ⟨b1, i * 12 + 3, none⟩ = some (.int .i64 x.ac.K) ∧ w'.cell? ⟨b1, i * 12 + 4, none⟩ = some (.int .i64 x.ac.P) ∧ w'.cell? ⟨b1, i * 12 + 5, none⟩ = some (.int .i64 x.ac.N) ∧ w'.cell? ⟨b1, i * 12 + 6, none⟩ = some (.int .u64 x.ac.V) ∧ w'.cell? ⟨b1, i * 12 + 7, none⟩ = some (.int .u64 x.ac.U) ∧ w'.cell? ⟨b1, i * 12 + 8, none⟩ = some (.slice A1 x.ac.bs.length q1) ∧ w'.cell? ⟨b1, i * 12 + 9, none⟩ = some (.int .u64 x.an.V) ∧ w'.cell? ⟨b1, i * 12 + 10, none⟩ = some (.bool x.an.D) ∧ w'.cell? ⟨b1, i * 12 + 11, none⟩ = some (.slice A2 x.an.bs.length q2) ∧ w'.cell? ⟨b2, i * 12, none⟩ = some (.int .i64 x.pk.K) ∧ w'.cell? ⟨b2, i * 12 + 1, none⟩ = some (.int .i64 x.pk.A) ∧ w'.cell? ⟨b2, i * 12 + 2, none⟩ = some (.int .i64 x.pk.N) ∧ w'.cell? ⟨b2, i * 12 + 3, none⟩ = some (.int .i64 x.ac.K) ∧ w'.cell? ⟨b2, i * 12 + 4, none⟩ = some (.int .i64 x.ac.P) ∧ w'.cell? ⟨b2, i * 12 + 5, none⟩ = some (.int .i64 x.ac.N) ∧ w'.cell? ⟨b2, i * 12 + 6, none⟩ = some (.int .u64 x.ac.V) ∧ w'.cell? ⟨b2, i * 12 + 7, none⟩ = some (.int .u64 x.ac.U) ∧ w'.cell? ⟨b2, i * 12 + 8, none⟩ = some (.slice A3 x.ac.bs.length q3) ∧ w'.cell? ⟨b2, i * 12 + 9, none⟩ = some (.int .u64 x.an.V) ∧ w'.cell? ⟨b2, i * 12 + 10, none⟩ = some (.bool x.an.D) ∧ w'.cell? ⟨b2, i * 12 + 11, none⟩ = some (.slice A4 x.an.bs.length q4)) (first | exact ⟨k0, k1, k2, k3, k4, k5, k6, k7, k8, k9, k10, k11, k12, k13, k14, k15, k16, k17, k18, k19, k20, k21, k22, k23⟩ | exact ⟨m0, m1, m2, m3, m4, m5, m6, m7, m8, m9, m10, m11, m12, m13, m14, m15, m16, m17, m18, m19, m20, m21, m22, m23⟩ | exact ⟨n0, n1, n2, n3, n4, n5, n6, n7, n8, n9, n10, n11, n12, n13, n14, n15, n16, n17, n18, n19, n20, n21, n22, n23⟩)
        (first
          | (go_at_call 33; go_loud (refine (same_any x.ac.K x.ac.P x.ac.N x.ac.V x.ac.U A1 A3 _ _ q1 q3 x.ac.bs _ (HX.out.1.below (Below.refl _ _).drew) (HX.out.2.2.1.below (Below.refl _ _).drew)).mono ?_); rintro e w7 ⟨rfl, hb7⟩; go_loud (obtain ⟨m0, m1, m2, m3, m4, m5, m6, m7, m8, m9, m10, m11, m12, m13, m14, m15, m16, m17, m18, m19, m20, m21, m22, m23⟩ := two_move hb7 hl1 hl2 ⟨k0, k1, k2, k3, k4, k5, k6, k7, k8, k9, k10, k11, k12, k13, k14, k15, k16, k17, k18, k19, k20, k21, k22, k23⟩); have hl3 := Nat.lt_of_lt_of_le hl1 hb7.size; have hl4 := Nat.lt_of_lt_of_le hl2 hb7.size)
          | (go_at_call 34; refine (same_ans x.an.V x.an.D A2 A4 _ _ q2 q4 x.an.bs _ ((HX.out.2.1.below (Below.refl _ _).drew).below hb7) ((HX.out.2.2.2.below (Below.refl _ _).drew).below hb7)).mono ?_; rintro e w8 ⟨rfl, hb8⟩; obtain ⟨n0, n1, n2, n3, n4, n5, n6, n7, n8, n9, n10, n11, n12, n13, n14, n15, n16, n17, n18, n19, n20, n21, n22, n23⟩ := two_move hb8 hl3 hl4 ⟨m0, m1, m2, m3, m4, m5, m6, m7, m8, m9, m10, m11, m12, m13, m14, m15, m16, m17, m18, m19, m20, m21, m22, m23⟩))
      have hb9 : Below wr.heap.size wr w8 := (((Below.refl wr.heap.size wr).drew).trans hb7).trans (hb8.mono hb7.size)
      go_wp2
      exact ⟨⟨i + 1, rfl, hlt, HB.out.trans (hb9.mono hsz)⟩, by simp only [intOf]; omega⟩
    · obtain rfl : i = ts1.length := by omega
      go_wp2
      go_ret
      exact ⟨rfl, HB.out⟩
end Go.Proofs.Ytijgfaggakbajaa
