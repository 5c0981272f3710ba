/-
  Layer 6's statements: the scheduler of the machines that were made.
-/
import Derived.Test.YtijgfaggakbajaaSchFixed
import Derived.Test.YtijgfaggakbajaaSchMade
namespace Go.Proofs.Ytijgfaggakbajaa
open Go.RowKit

/-- A machine's block is the machine's, every other one nobody's. -/
def Pt.mach : Pt → Pt
  | .ma i => .ma i
  | _ => .no

theorem upto_get {α : Type} (xs : Nat → α) (n j : Nat) (hj : j < n) : (upto (fun i => [xs i]) n)[j]? = some (xs j) := by
  have e : upto (fun i => [xs i]) n = (List.range n).map xs := by
    unfold upto
    induction List.range n with
    | nil => rfl
    | cons a l ih => simp [ih]
  rw [e]
  simp [hj]

/-- The machines' row as New reads it. -/
theorem MadeTo.ms {w wr : World} {o : Nat → Pt} {js : Nat → Jb} {i c : Nat} {A : Option Addr} {V5 : Value} {xs Bs : Nat → Value} (h : MadeTo w wr o js i (.slice A i c) V5 xs Bs) : MsAt wr A i xs ∧ i ≤ c ∧ c ≤ 9223372036854775807 := by
  have hr := h.row
  rcases hr.2 with ⟨e, h0⟩ | ⟨g, cap, cur, e, _, hg, h1, h2, _, _⟩
  · subst h0
    cases e
    exact ⟨fun hp => absurd hp (Nat.lt_irrefl 0), Nat.le_refl _, by decide⟩
  · cases e
    refine ⟨fun _ => ⟨g, rfl, (Array.getElem?_eq_some_iff.1 hg).1, fun j hj => ?_⟩, h1, by unfold maxLen at h2; omega⟩
    rw [hr.cellAt j (by omega)]
    exact upto_get xs i j hj

set_option maxRecDepth 100000 in
theorem start_new {w0 w1 w2 : World} {g h n c4 nw : Nat} {o2 : Nat → Pt} {js : Nat → Jb} {A4 : Option Addr} {V5 : Value} {xs Bs : Nat → Value} (B : Buf w1 g h (fun _ => 0) nw 0) (h1 : w0.heap.size ≤ g) (h2 : w0.heap.size ≤ h) (hb1 : Below w0.heap.size w0 w1)
    (hm : MadeTo w1 w2 o2 js n (.slice A4 n c4) V5 xs Bs) (hn : n ≤ 6) :
    Calls Try.prog 10 #[.pointer (some ⟨g, 0, none⟩), .slice A4 n c4] w2 fun e w' => ∃ gw ga ax o', e = .returned (.pointer (some ⟨gw, 0, none⟩)) ∧ Stood w0 w' o' gw ga g h ax (St.made n (fun i => (js i).mc) (fun _ => 0) nw 0) ∧
      Below w2.heap.size w2 w' ∧ ∀ k, k < w2.heap.size → k ≠ g → k ≠ h → (∀ i, o2 k ≠ .ma i) → o' k = .no := by
  have s1 := hb1.size
  have s2 := hm.low.size
  have hgl := B.g_lt
  have hhl := B.h_lt
  obtain ⟨hms, hc1, hc2⟩ := hm.ms
  have hq : ∀ k, o2 k ≠ .no → w1.heap.size ≤ k ∧ k < w2.heap.size := hm.new
  refine (schedNew_any (B.below hm.low) A4 n c4 xs (fun i => (js i).mc) (by omega) hc1 hc2 hms (o := fun k => if k = g ∨ k = h then .bf else (o2 k).mach) (fun i hi => ?_) (if_pos (.inl rfl)) (if_pos (.inr rfl)) (fun k hk => ?_)).mono ?_
  · refine (hm.mach i hi).mono fun k hk => ?_
    have := (hq k (by rw [hk]; simp)).1
    show (if _ then _ else _) = _
    rw [if_neg (by omega), hk]
    rfl
  · by_cases e1 : k = g ∨ k = h
    · omega
    · rw [if_neg e1] at hk
      exact (hq k fun e => hk (by rw [e]; rfl)).2
  · rintro e w' ⟨gw, ga, o', rfl, _, hs, hbl, ho⟩
    refine ⟨gw, ga, _, o', rfl, ⟨⟨_, _, hs⟩, (hb1.trans (hm.low.mono s1)).trans (hbl.mono (by omega)), fun k hk => ?_⟩, hbl, fun k hk e1 e2 e3 => ?_⟩
    · rw [ho k (by omega)]
      show (if _ then _ else _) = _
      rw [if_neg (by omega)]
      have : o2 k = .no := Classical.byContradiction fun e => by have := (hq k e).1; omega
      rw [this]
      rfl
    · rw [ho k hk]
      show (if _ then _ else _) = _
      rw [if_neg (by omega)]
      cases he : o2 k with
      | ma i => exact absurd he (e3 i)
      | _ => rfl
end Go.Proofs.Ytijgfaggakbajaa
