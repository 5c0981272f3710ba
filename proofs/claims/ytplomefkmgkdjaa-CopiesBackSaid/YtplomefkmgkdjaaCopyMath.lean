/-
  Layer 5's plain facts: a copy's parts, one behind the other.
-/
import Derived.Test.YtplomefkmgkdjaaChunkFns
namespace Go.Proofs.Ytplomefkmgkdjaa
open Go.RowKit

namespace Cy
/-- The parts of n bytes; none of none. -/
def cks (n : Nat) : List Int := if n = 0 then [] else Wd.ck n
/-- The part that is next, of r bytes that are left. -/
def nx (r : Nat) : Nat := if r ≤ 8 then r else 8
/-- So many bytes are copied, of so many that were asked for. -/
def few (n : Int) : Nat := if 1 ≤ n ∧ n ≤ 131072 then n.toNat else 0

theorem cks_zero : cks 0 = [] := rfl
theorem nx_le (r : Nat) : nx r ≤ r ∧ nx r ≤ 8 := by unfold nx; split <;> omega
theorem nx_pos {r : Nat} (h : 0 < r) : 0 < nx r := by unfold nx; split <;> omega
theorem few_le (n : Int) : few n ≤ 131072 := by unfold few; split <;> omega
theorem few_nat {n : Nat} (h : n ≤ 131072) : few n = n := by
  unfold few
  by_cases h0 : 1 ≤ (n : Int)
  · rw [if_pos ⟨h0, by omega⟩]; simp
  · rw [if_neg (fun hh => h0 hh.1)]; omega

theorem ckOf_few (n : Int) : ckOf n = cks (few n) := by
  unfold ckOf few cks
  by_cases h : 1 ≤ n ∧ n ≤ 131072
  · rw [if_pos h, if_pos h, if_neg (by omega)]
  · rw [if_neg h, if_neg h, if_pos rfl]

theorem cks_step {r : Nat} (h : 0 < r) : cks r = ((nx r : Nat) : Int) :: cks (r - nx r) := by
  unfold cks nx
  rw [if_neg (by omega)]
  by_cases h8 : r ≤ 8
  · rw [if_pos h8, if_pos (by omega)]
    unfold Wd.ck
    have e : (r - 1) / 8 = 0 := by omega
    rw [e]
    simp
  · rw [if_neg h8, if_neg (by omega)]
    unfold Wd.ck
    obtain ⟨k, hk⟩ : ∃ k, (r - 1) / 8 = k + 1 := ⟨(r - 1) / 8 - 1, by omega⟩
    have hk2 : (r - 8 - 1) / 8 = k := by omega
    rw [hk, hk2, List.replicate_succ]
    simp only [List.cons_append, List.cons.injEq]
    refine ⟨by omega, ?_⟩
    congr 2
    omega

theorem cks_length (n : Nat) : (cks n).length = (n + 7) / 8 := by
  unfold cks
  split
  · subst_vars; rfl
  · rw [Wd.ck_length]; omega

theorem cks_getD (n j : Nat) (h : 8 * j < n) : (cks n).getD j 0 = ((nx (n - 8 * j) : Nat) : Int) := by
  induction j generalizing n with
  | zero => rw [cks_step (by omega)]; simp
  | succ j ih =>
    rw [cks_step (by omega)]
    have e : nx n = 8 := by unfold nx; rw [if_neg (by omega)]
    rw [List.getD_cons_succ, e, ih (n - 8) (by omega)]
    congr 2
    omega

/-- So many bytes were copied behind i parts. -/
def at_ (n i : Nat) : Nat := if 8 * i ≤ n then 8 * i else n
theorem at_zero (n : Nat) : at_ n 0 = 0 := by unfold at_; rw [if_pos (by omega)]
theorem at_le (n i : Nat) : at_ n i ≤ n := by unfold at_; split <;> omega
theorem at_next {n i : Nat} (h : 8 * i < n) : at_ n (i + 1) = at_ n i + nx (n - at_ n i) := by
  unfold at_ nx
  rw [if_pos (by omega : 8 * i ≤ n)]
  split <;> split <;> omega
theorem at_here {n i : Nat} (h : 8 * i < n) : at_ n i = 8 * i := by unfold at_; rw [if_pos (by omega)]
theorem at_end {n i : Nat} (h : n ≤ 8 * i) : at_ n i = n := by unfold at_; split <;> omega
end Cy

/-- The slice value v reads as the ints xs, which stand in a block of those that K names; there is room for them. -/
def Parts (K : Nat → Prop) (w : World) (v : Value) (xs : List Int) : Prop :=
  ∃ A cap, v = .slice A xs.length cap ∧ xs.length ≤ cap ∧ cap ≤ maxLen ∧ (0 < xs.length → ∃ b off, A = some ⟨b, off, none⟩ ∧ K b ∧ b < w.heap.size ∧ ∀ i, i < xs.length → w.cell? ⟨b, off + i, none⟩ = some (.int .i64 (xs.getD i 0)))

theorem Parts.of_blocks {K : Nat → Prop} {w w' : World} {v : Value} {xs : List Int} (h : Parts K w v xs) (hs : w.heap.size ≤ w'.heap.size) (hb : ∀ k, K k → w'.heap[k]? = w.heap[k]?) : Parts K w' v xs := by
  obtain ⟨A, cap, hv, h1, h2, h⟩ := h
  refine ⟨A, cap, hv, h1, h2, fun hp => ?_⟩
  obtain ⟨b, off, h1, hK, h3, h4⟩ := h hp
  exact ⟨b, off, h1, hK, by omega, fun i hi => (World.cell?_of_block (w := w) (a := ⟨b, off + i, none⟩) (hb b hK)).trans (h4 i hi)⟩

theorem Parts.mono {K L : Nat → Prop} {w : World} {v : Value} {xs : List Int} (h : Parts K w v xs) (hK : ∀ k, K k → L k) : Parts L w v xs := by
  obtain ⟨A, cap, hv, h1, h2, h⟩ := h
  refine ⟨A, cap, hv, h1, h2, fun hp => ?_⟩
  obtain ⟨b, off, h1, hk, h3⟩ := h hp
  exact ⟨b, off, h1, hK b hk, h3⟩

theorem Parts.nil (K : Nat → Prop) (w : World) : Parts K w (.slice none 0 0) [] := ⟨none, 0, rfl, Nat.le_refl _, by unfold maxLen; decide, fun h => absurd h (by simp)⟩

theorem Parts.of_own {w : World} {base : Nat} {v : Value} {xs : List Int} (h : w.ownsRow base 3 1 v xs.length (xs.map (Value.int .i64))) : Parts (fun k => base ≤ k ∧ k < w.heap.size) w v xs := by
  have hi := IntsAt.of_own h
  rcases h.2 with ⟨rfl, h0⟩ | ⟨g, cap, cur, rfl, hbase, hh, hnc, hm, _⟩
  · have hx : xs = [] := List.eq_nil_of_length_eq_zero h0
    subst hx
    exact Parts.nil _ w
  · refine ⟨_, cap, rfl, hnc, hm, fun hp => ?_⟩
    obtain ⟨A, cap', hv', hc⟩ := hi
    obtain ⟨b, off, e, hlt, hc2⟩ := hc hp
    injection hv' with e1 e2 e3
    subst e1
    exact ⟨b, off, e, ⟨by injection e with e; injection e with e5 e6; omega, hlt⟩, hlt, hc2⟩

/-- The call made the parts xs in a block of its own, and left alone what was there. -/
def MadeParts (xs : List Int) (w : World) (e : Ending) (w' : World) : Prop :=
  ∃ v, e = .returned v ∧ Parts (fun k => w.heap.size ≤ k ∧ k < w'.heap.size) w' v xs ∧ Below w.heap.size w w'
end Go.Proofs.Ytplomefkmgkdjaa
