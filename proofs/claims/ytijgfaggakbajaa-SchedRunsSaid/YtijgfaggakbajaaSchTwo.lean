/-
  Layer 6's statements: two schedulers side by side; bytes that are written over.
-/
import Derived.Test.YtijgfaggakbajaaSchFacts
namespace Go.Proofs.Ytijgfaggakbajaa
open Go.RowKit

theorem start_two {w0 w2 w3 w4 w5 : World} {g1 h1 g2 h2 n c4 c6 : Nat} {oA oB : Nat → Pt} {js : Nat → Jb} {A4 A6 : Option Addr} {V5 V7 : Value} {xs Bs ys Cs : Nat → Value} (B1 : Buf w2 g1 h1 (fun _ => 0) 32 0) (e1 : w0.heap.size ≤ g1) (e2 : w0.heap.size ≤ h1) (hb2 : Below w0.heap.size w0 w2)
    (B2 : Buf w3 g2 h2 (fun _ => 0) 32 0) (e3 : w2.heap.size ≤ g2) (e4 : w2.heap.size ≤ h2) (hb3 : Below w2.heap.size w2 w3) (hA : MadeTo w3 w4 oA js n (.slice A4 n c4) V5 xs Bs) (hB : MadeTo w4 w5 oB js n (.slice A6 n c6) V7 ys Cs) (hn : n ≤ 6) :
    Calls Try.prog 10 #[.pointer (some ⟨g1, 0, none⟩), .slice A4 n c4] w5 fun e w6 => ∃ gw ga ax, e = .returned (.pointer (some ⟨gw, 0, none⟩)) ∧
      Calls Try.prog 10 #[.pointer (some ⟨g2, 0, none⟩), .slice A6 n c6] w6 fun e w7 => ∃ oV gw2 ga2 ax2 oW, e = .returned (.pointer (some ⟨gw2, 0, none⟩)) ∧ Stood w0 w7 oV gw ga g1 h1 ax (St.made n (fun i => (js i).mc) (fun _ => 0) 32 0) ∧
        Stood w0 w7 oW gw2 ga2 g2 h2 ax2 (St.made n (fun i => (js i).mc) (fun _ => 0) 32 0) ∧ ∀ k, oW k ≠ .no → oV k = .no := by
  have s2 := hb2.size
  have s3 := hb3.size
  have s4 := hA.low.size
  have s5 := hB.low.size
  have l1 := B1.g_lt
  have l2 := B1.h_lt
  have l3 := B2.g_lt
  have l4 := B2.h_lt
  have hb03 := hb2.trans (hb3.mono s2)
  have hb04 := hb03.trans (hA.low.mono (by omega))
  refine (start_new (B1.below hb3) e1 e2 hb03 (hA.keep hB.low) hn).mono ?_
  rintro e w6 ⟨gw, ga, ax, oV, rfl, hV, hb6, hnV⟩
  refine ⟨gw, ga, ax, rfl, (start_new (B2.below hA.low) (by omega) (by omega) hb04 (hB.keep hb6) hn).mono ?_⟩
  rintro e w7 ⟨gw2, ga2, ax2, oW, rfl, hW, hb7, hnW⟩
  refine ⟨oV, gw2, ga2, ax2, oW, rfl, hV.below hb7, hW, fun k hk => ?_⟩
  have s6 := hb6.size
  obtain ⟨⟨tv, ts, hsV⟩, _, _⟩ := hV
  rcases Nat.lt_or_ge k w6.heap.size with hk6 | hk6
  · have hwhy : k = g2 ∨ k = h2 ∨ ∃ i, oB k = .ma i := by
      refine Classical.byContradiction fun e => hk (hnW k hk6 (fun h => e (.inl h)) (fun h => e (.inr (.inl h))) fun i hi => e (.inr (.inr ⟨i, hi⟩)))
    have hkb : k = g2 ∨ k = h2 ∨ (w4.heap.size ≤ k ∧ k < w5.heap.size) := by
      rcases hwhy with h | h | ⟨i, hi⟩
      · exact .inl h
      · exact .inr (.inl h)
      · exact .inr (.inr (hB.new k (by rw [hi]; simp)))
    refine hnV k (by omega) (by omega) (by omega) fun i hi => ?_
    have := hA.new k (by rw [hi]; simp)
    omega
  · exact hsV.new_no hk6

/-- One scheduler works; the other stands as it stood. -/
theorem Stood.aside {w0 w w' : World} {o1 o2 : Nat → Pt} {gw ga gb hb : Nat} {ax : Nat → Value} {st : St} (h : Stood w0 w o2 gw ga gb hb ax st) (ht : Touch (Own o1) w w') (hd : ∀ k, o2 k ≠ .no → o1 k = .no) (hl : Below w0.heap.size w0 w') : Stood w0 w' o2 gw ga gb hb ax st := by
  obtain ⟨⟨tv, ts, hs⟩, _, h2⟩ := h
  exact ⟨⟨tv, ts, hs.touch ht fun k hk e => e (hd k hk)⟩, hl, h2⟩

/-- An event's bytes stand in a block from B up to T, whatever they are. -/
def Soft (B T : Nat) (w : World) (t : Tx) : Prop :=
  ∃ A c, t.s1 = .slice A t.e.ac.bs.length c ∧ t.e.ac.bs.length ≤ c ∧ c ≤ 9223372036854775807 ∧ (0 < t.e.ac.bs.length → ∃ b, A = some ⟨b, 0, none⟩ ∧ B ≤ b ∧ b < T ∧ ∀ i, i < t.e.ac.bs.length → (∃ v : Int, w.cell? ⟨b, i, none⟩ = some (.int .u8 v)) ∧ w.frozen? ⟨b, i, none⟩ = false)

theorem Soft.of_own {B : Nat} {w : World} {t : Tx} (h : Owns B w t.s1 t.e.ac.bs) : Soft B w.heap.size w t := by
  have h0 := h
  rcases h.2 with ⟨hv, hn⟩ | ⟨g, cap, cur, hv, hB, hg, h1, h2, _⟩
  · exact ⟨none, 0, by rw [hv, hn], by omega, by decide, fun hp => by omega⟩
  · refine ⟨some ⟨g, 0, none⟩, cap, hv, h1, by unfold maxLen at h2; omega, fun _ => ⟨g, rfl, hB, (Array.getElem?_eq_some_iff.1 hg).1, fun i hi => ?_⟩⟩
    rw [hv] at h0
    refine ⟨⟨t.e.ac.bs[i], ?_⟩, World.ownsRow.frozenAt h0 i⟩
    rw [World.ownsRow.cellAt h0 i (by omega)]
    simp [hi]

theorem Soft.keep {B T : Nat} {w w' : World} {t : Tx} (h : Soft B T w t) (hb : ∀ k, B ≤ k → k < T → w'.heap[k]? = w.heap[k]?) : Soft B T w' t := by
  obtain ⟨A, c, e, e1, e2, h⟩ := h
  refine ⟨A, c, e, e1, e2, fun hp => ?_⟩
  obtain ⟨b, ea, h1, h2, h3⟩ := h hp
  refine ⟨b, ea, h1, h2, fun i hi => ?_⟩
  obtain ⟨⟨v, h4⟩, h5⟩ := h3 i hi
  exact ⟨⟨v, (World.cell?_of_block (w := w) (a := ⟨b, i, none⟩) (hb b h1 h2)).trans h4⟩, (World.frozen?_of_block (w := w) (a := ⟨b, i, none⟩) (hb b h1 h2)).trans h5⟩

/-- A byte is written over. -/
theorem Soft.set {B T : Nat} {w : World} {t : Tx} (h : Soft B T w t) (p : Addr) (u : Int) : Soft B T (w.setCell p (.int .u8 u)) t := by
  obtain ⟨A, c, e, e1, e2, h⟩ := h
  refine ⟨A, c, e, e1, e2, fun hp => ?_⟩
  obtain ⟨b, ea, h1, h2, h3⟩ := h hp
  refine ⟨b, ea, h1, h2, fun i hi => ?_⟩
  obtain ⟨⟨v, h4⟩, h5⟩ := h3 i hi
  refine ⟨?_, by rw [World.frozen?_setCell]; exact h5⟩
  by_cases hq : p = ⟨b, i, none⟩
  · subst hq
    exact ⟨u, World.cell?_setCell_same _ _ _ h4⟩
  · exact ⟨v, (World.cell?_setCell_other _ _ _ _ hq).trans h4⟩

/-- The trace tells the events of the picks that answered OK. -/
theorem St.pick_tr (st : St) (p : Pk) : (st.pick p).1.tr = if (st.pick p).2.1 = 0 then st.tr ++ [(st.pick p).2.2] else st.tr := by
  by_cases h0 : st.chk p = 0
  · by_cases h1 : p.K = 1
    · rw [St.pick_kill h0 h1]; exact (if_pos rfl).symm
    · by_cases h2 : p.K = 2
      · rw [St.pick_tick h0 h2]; exact (if_pos rfl).symm
      · have hk : p.K = 0 := by have := St.chk_kind h0; omega
        cases hn : (st.ms p.A.toNat).next with
        | none => rw [St.pick_end h0 hk hn]; exact (if_pos rfl).symm
        | some a =>
          by_cases he : a.err st.nw = 0
          · rw [St.pick_ok h0 hk hn he]; exact (if_pos rfl).symm
          · rw [St.pick_bad h0 hk hn he]; exact (if_neg he).symm
  · rw [St.pick_no h0]; exact (if_neg h0).symm

theorem St.runs_told (ps : List Pk) : ∀ (st : St) (es : List Ev), st.tr = es → (St.runs ps st es).1.tr = (St.runs ps st es).2 := by
  induction ps with
  | nil => exact fun _ _ h => h
  | cons p ps ih =>
    intro st es h
    refine ih _ _ ?_
    rw [St.pick_tr, h]
end Go.Proofs.Ytijgfaggakbajaa
