/-
  The parts of a copy: layer 1's Chunks and its plain answer, walked; a slice that reads as a list of ints.
-/
import Derived.Test.YtijgfaggakbajaaBelowMem
import Derived.Deep.QuietTactic
import Derived.BigQuiet
namespace Go.Proofs.Ytijgfaggakbajaa
open Go.RowKit

namespace Wd
/-- The parts of n (at least 1): eights, and what is left, which is at least 1. -/
def ck (n : Nat) : List Int := List.replicate ((n - 1) / 8) 8 ++ [((n - 8 * ((n - 1) / 8) : Nat) : Int)]

theorem ck_length (n : Nat) : (ck n).length = (n - 1) / 8 + 1 := by simp [ck]

theorem ck_at (n i : Nat) (hn : 1 ≤ n) (hi : i < (ck n).length) : 1 ≤ (ck n).getD i 0 ∧ (ck n).getD i 0 ≤ 8 := by
  rw [ck_length] at hi
  have hm : (ck n).getD i 0 = if i < (n - 1) / 8 then 8 else ((n - 8 * ((n - 1) / 8) : Nat) : Int) := by
    unfold ck
    rw [List.getD_eq_getElem?_getD]
    by_cases h : i < (n - 1) / 8
    · rw [List.getElem?_append_left (by simpa using h), if_pos h]
      simp [h]
    · rw [List.getElem?_append_right (by simp; omega), if_neg h]
      have e : i - (List.replicate ((n - 1) / 8) (8 : Int)).length = 0 := by simp; omega
      rw [e]
      rfl
  rw [hm]
  split <;> omega

theorem sum_replicate (k : Nat) : (List.replicate k (8 : Int)).sum = 8 * k := by
  induction k with
  | zero => rfl
  | succ k ih => rw [List.replicate_succ, List.sum_cons, ih]; omega

theorem ck_sum (n : Nat) (hn : 1 ≤ n) : (ck n).sum = n := by
  unfold ck
  rw [List.sum_append, sum_replicate]
  simp
  omega

theorem take_sum (xs : List Int) (k : Nat) (h : k < xs.length) : (xs.take (k + 1)).sum = (xs.take k).sum + xs.getD k 0 := by
  rw [List.take_succ_eq_append_getElem h, List.sum_append]
  simp [List.getD, h]

theorem ck_take (n k : Nat) (hn : 1 ≤ n) (hk : k ≤ (ck n).length) : 0 ≤ ((ck n).take k).sum ∧ ((ck n).take k).sum ≤ 8 * k := by
  induction k with
  | zero => simp
  | succ k ih =>
    have h1 := ih (by omega)
    have h2 := ck_at n k hn (by omega)
    rw [take_sum _ _ (by omega)]
    omega
end Wd

/-- The slice value v reads as the ints xs. -/
def IntsAt (w : World) (v : Value) (xs : List Int) : Prop :=
  ∃ A cap, v = .slice A xs.length cap ∧ (0 < xs.length → ∃ b off, A = some ⟨b, off, none⟩ ∧ b < w.heap.size ∧ ∀ i, i < xs.length → w.cell? ⟨b, off + i, none⟩ = some (.int .i64 (xs.getD i 0)))

theorem IntsAt.nil (w : World) : IntsAt w (.slice none 0 0) [] := ⟨none, 0, rfl, fun h => absurd h (by simp)⟩

theorem IntsAt.below {w w' : World} {v : Value} {xs : List Int} (h : IntsAt w v xs) (hb : Below w.heap.size w w') : IntsAt w' v xs := by
  obtain ⟨A, cap, hv, h⟩ := h
  refine ⟨A, cap, hv, fun hp => ?_⟩
  obtain ⟨b, off, h1, h3, h4⟩ := h hp
  exact ⟨b, off, h1, Nat.lt_of_lt_of_le h3 hb.size, fun i hi => (hb.cell (p := ⟨b, off + i, none⟩) h3).trans (h4 i hi)⟩

theorem IntsAt.of_own {w : World} {base : Nat} {v : Value} {xs : List Int} (h : w.ownsRow base 3 1 v xs.length (xs.map (Value.int .i64))) : IntsAt w v xs := by
  rcases h.2 with ⟨rfl, h0⟩ | ⟨g, cap, cur, rfl, _, hh, hnc, _⟩
  · have hx : xs = [] := List.eq_nil_of_length_eq_zero h0
    subst hx
    exact IntsAt.nil w
  · refine ⟨_, cap, rfl, fun _ => ⟨g, 0, rfl, ?_, fun i hi => ?_⟩⟩
    · rcases Nat.lt_or_ge g w.heap.size with hlt | hge
      · exact hlt
      · rw [Array.getElem?_eq_none hge] at hh; cases hh
    · have hc := h.cells (g := g) rfl i (.int .i64 (xs.getD i 0)) (by simp [List.getElem?_eq_getElem hi, List.getD])
      have e : (⟨g, 0, none⟩ : Addr).add i = ⟨g, 0 + i, none⟩ := by unfold Addr.add; split <;> simp_all
      rw [e] at hc
      exact hc

/-- The call made the ints xs, and left alone what was there. -/
def MadeInts (xs : List Int) (w : World) (e : Ending) (w' : World) : Prop :=
  ∃ v, e = .returned v ∧ w'.ownsRow w.heap.size 3 1 v xs.length (xs.map (Value.int .i64)) ∧ Below w.heap.size w w'

theorem infoInt : (Try.prog.info? 3).map (fun i => (i.zero, i.size, i.bytes)) = some (some (.int .i64 0), 1, 8) := by kernel_rfl

theorem repl_snoc (k : Nat) : (List.replicate k (8 : Int)).map (Value.int .i64) ++ [Value.int .i64 8] = (List.replicate (k + 1) (8 : Int)).map (Value.int .i64) := by
  rw [List.replicate_succ']; simp

theorem repl_end (n : Nat) (k : Nat) (hn : 1 ≤ n) (hk : k = (n - 1) / 8) (x : Int) (hx : x = n - 8 * k) :
    (List.replicate k (8 : Int)).map (Value.int .i64) ++ [Value.int .i64 x] = (Wd.ck n).map (Value.int .i64) := by
  subst hk
  unfold Wd.ck
  rw [List.map_append]
  congr 1
  simp
  omega

theorem one_cell (w : World) (x : Value) (t : TypeId) : ∀ j u, [x][j]? = some u → (w.alloc (.cells #[x] t)).cell? ((⟨w.heap.size, 0, none⟩ : Addr).add j) = some u := by
  intro j u hj
  match j, hj with
  | 0, hj => simp at hj; subst hj; simp [Addr.add]

set_option maxRecDepth 100000 in
set_option maxHeartbeats 400000 in
theorem chunks_no (n : Int) (w : World) (h : n < 1 ∨ 131072 < n) :
    Calls Try.prog 49 #[.int .i64 n] w fun e w' => e = .returned (.slice none 0 0) ∧ w = w' := by
  rcases h with h | h
  · go_enter Try.func49, Try.ntmps49
    go_wp2
    go_ret
    exact ⟨rfl, rfl⟩
  · have h' : 1 ≤ n := by omega
    go_enter Try.func49, Try.ntmps49
    go_wp2
    go_ret
    exact ⟨rfl, rfl⟩

set_option maxRecDepth 100000 in
set_option maxHeartbeats 400000 in
theorem refChunks_no (n : Int) (w : World) (h : n < 1 ∨ 131072 < n) :
    Calls Try.prog 64 #[.int .i64 n] w fun e w' => e = .returned (.slice none 0 0) ∧ w = w' := by
  rcases h with h | h
  · have h1 : n ≤ 131072 := by omega
    have h2 : n ≤ 8 := by omega
    go_enter Try.func64, Try.ntmps64
    go_wp2
    refine wp_loop_rounds 1 ?_
    rw [rounds_succ]
    go_wp2
    go_ret
    exact ⟨rfl, rfl⟩
  · go_enter Try.func64, Try.ntmps64
    go_wp2
    go_ret
    exact ⟨rfl, rfl⟩

set_option maxRecDepth 100000 in
set_option maxHeartbeats 400000 in
theorem refChunks_yes (n : Nat) (w : World) (h1 : 1 ≤ n) (h2 : n ≤ 131072) :
    Calls Try.prog 64 #[.int .i64 n] w (MadeInts (Wd.ck n) w) := by
  obtain ⟨i0, hi, hz0, hz1, hz2⟩ := info_parts infoInt
  go_enter Try.func64, Try.ntmps64
  go_wp2
  go_loopw [0, 3] (fun x r wr => ∃ k : Nat, 8 * k < n ∧ x = .int .i64 ((n : Int) - 8 * k) ∧ Below w.heap.size w wr ∧ wr.ownsRow w.heap.size 3 1 r k ((List.replicate k (8 : Int)).map (Value.int .i64))) (fun x _ _ => (intOf x).toNat)
  case atStart => exact ⟨0, by omega, by first | rfl | (congr 1; omega), Below.refl _ _, World.ownsRow_nil _ _ _ _⟩
  case round =>
    obtain ⟨k, hk, rfl, hbel, hown⟩ := hrel
    have hsz := hbel.size
    by_cases hlt : 8 < n - 8 * k
    · have hlt' : (8 : Int) < (n : Int) - 8 * k := by omega
      go_wp2_with (at_builtin; refine wpList_append_own _ rfl (.tmp 10) (.tmp 11) 107 rfl w.heap.size 3 i0 (.int .i64 0) 1 8 Try.underlying107 hi hz0 hz1 hz2 rfl (by decide) _ _ _ rfl (hown.alloc _) ⟨wr.heap.size, 0, none⟩ 1 1 [.int .i64 8] rfl rfl (one_cell _ _ _) (by intro u hu; simp at hu; subst hu; rfl) (by unfold maxLen; omega) (by omega) (by simp; omega) ?_; intro v' w1 hown' hgrow _; have hown2 := hown'; rw [repl_snoc] at hown2; have hbel2 : Below w.heap.size w w1 := (hbel.alloc hsz _).grown hgrow (by simp; omega) (fun g hg => (hown.lt g hg).1); clear hown' hgrow hown hbel)
      go_roundw
      case rel => exact ⟨k + 1, by omega, by go_num, hbel2, hown2⟩
      case measure => simp [intOf]; omega
    · have hkn : k = (n - 1) / 8 := by omega
      have HK := Lib.hid hkn
      clear hkn
      have hlt' : (n : Int) - 8 * k ≤ 8 := by omega
      have hlt2 : 0 < (n : Int) - 8 * k := by omega
      go_wp2_with (at_builtin; refine wpList_append_own _ rfl (.tmp 15) (.tmp 17) 107 rfl w.heap.size 3 i0 (.int .i64 0) 1 8 Try.underlying107 hi hz0 hz1 hz2 rfl (by decide) _ _ _ rfl (hown.alloc _) ⟨wr.heap.size, 0, none⟩ 1 1 [.int .i64 ((n : Int) - 8 * k)] rfl rfl (one_cell _ _ _) (by intro u hu; simp at hu; subst hu; rfl) (by unfold maxLen; omega) (by omega) (by simp; omega) ?_; intro v' w1 hown' hgrow _; have hown2 := hown'; rw [repl_end n k h1 HK.out _ rfl] at hown2; have hbel2 : Below w.heap.size w w1 := (hbel.alloc hsz _).grown hgrow (by simp; omega) (fun g hg => (hown.lt g hg).1); clear hown' hgrow hown hbel)
      go_ret
      have hl : k + 1 = (Wd.ck n).length := by rw [Wd.ck_length, ← HK.out]
      rw [hl] at hown2
      exact ⟨_, rfl, hown2, hbel2⟩

set_option maxRecDepth 100000 in
set_option maxHeartbeats 400000 in
theorem chunks_yes (n : Nat) (w : World) (h1 : 1 ≤ n) (h2 : n ≤ 131072) :
    Calls Try.prog 49 #[.int .i64 n] w (MadeInts (Wd.ck n) w) := by
  obtain ⟨i0, hi, hz0, hz1, hz2⟩ := info_parts infoInt
  have hdv : (n : Int) / 8 + 1 = ((n / 8 + 1 : Nat) : Int) := by omega
  have HD := Lib.hid hdv
  clear hdv
  go_enter Try.func49, Try.ntmps49
  go_wp2_with (refine wpList_make_own _ rfl _ _ 107 rfl w.heap.size 3 i0 (.int .i64 0) 1 Try.underlying107 hi hz0 hz1 .i64 .i64 _ (n / 8 + 1) rfl rfl HD.out (by rw [hz2]; omega) (by unfold maxLen; omega) (Nat.le_refl _) ?_; intro w0 hown0 hg0)
  have hbel0 : Below w.heap.size w w0 := (Below.refl _ w).grown hg0 (Nat.le_refl _) (fun g hg => by cases hg)
  clear hg0
  go_loopw [3, 17] (fun r i wr => ∃ k : Nat, k ≤ n / 8 ∧ i = .int .i64 k ∧ Below w.heap.size w wr ∧ wr.ownsRow w.heap.size 3 1 r k ((List.replicate k (8 : Int)).map (Value.int .i64))) (fun _ i _ => n - (intOf i).toNat)
  case atStart => exact ⟨0, by omega, rfl, hbel0, hown0⟩
  case round =>
    obtain ⟨k, hk, rfl, hbel, hown⟩ := hrel
    clear hown0 hbel0
    have hsz := hbel.size
    by_cases hlt : k < n / 8
    · have hlt' : (k : Int) < (n : Int) / 8 := by omega
      go_wp2_with (at_builtin; refine wpList_append_own _ rfl (.tmp 19) (.tmp 20) 107 rfl w.heap.size 3 i0 (.int .i64 0) 1 8 Try.underlying107 hi hz0 hz1 hz2 rfl (by decide) _ _ _ rfl (hown.alloc _) ⟨wr.heap.size, 0, none⟩ 1 1 [.int .i64 8] rfl rfl (one_cell _ _ _) (by intro u hu; simp at hu; subst hu; rfl) (by unfold maxLen; omega) (by omega) (by simp; omega) ?_; intro v' w1 hown' hgrow _; have hown2 := hown'; rw [repl_snoc] at hown2; have hbel2 : Below w.heap.size w w1 := (hbel.alloc hsz _).grown hgrow (by simp; omega) (fun g hg => (hown.lt g hg).1); clear hown' hgrow hown hbel)
      go_roundw
      case rel => exact ⟨k + 1, by omega, by go_num, hbel2, hown2⟩
      case measure => simp [intOf]; omega
    · have hkn : k = n / 8 := by omega
      have HK := Lib.hid hkn
      clear hkn
      have hlt' : (n : Int) / 8 ≤ (k : Int) := by omega
      by_cases hr : 0 < n % 8
      · have hr' : 0 < (n : Int) % 8 := by omega
        go_wp2_with (at_builtin; refine wpList_append_own _ rfl (.tmp 27) (.tmp 29) 107 rfl w.heap.size 3 i0 (.int .i64 0) 1 8 Try.underlying107 hi hz0 hz1 hz2 rfl (by decide) _ _ _ rfl (hown.alloc _) ⟨wr.heap.size, 0, none⟩ 1 1 [.int .i64 ((n : Int) % 8)] rfl rfl (one_cell _ _ _) (by intro u hu; simp at hu; subst hu; rfl) (by unfold maxLen; omega) (by omega) (by simp; omega) ?_; intro v' w1 hown' hgrow _; have hown2 := hown'; rw [repl_end n k h1 (by have := HK.out; omega) _ (by have := HK.out; omega)] at hown2; have hbel2 : Below w.heap.size w w1 := (hbel.alloc hsz _).grown hgrow (by simp; omega) (fun g hg => (hown.lt g hg).1); clear hown' hgrow hown hbel)
        go_ret
        have hl : k + 1 = (Wd.ck n).length := by have := HK.out; rw [Wd.ck_length]; omega
        rw [hl] at hown2
        exact ⟨_, rfl, hown2, hbel2⟩
      · have hr' : (n : Int) % 8 ≤ 0 := by omega
        go_wp2
        go_ret
        have hk1 := HK.out
        obtain ⟨j, rfl⟩ : ∃ j, k = j + 1 := ⟨k - 1, by omega⟩
        rw [← repl_snoc, repl_end n j h1 (by omega) 8 (by omega)] at hown
        have hl : j + 1 = (Wd.ck n).length := by rw [Wd.ck_length]; omega
        rw [hl] at hown
        exact ⟨_, rfl, hown, hbel⟩

/-- What the statement needs of a call: the parts, or none. -/
def ckOf (n : Int) : List Int := if 1 ≤ n ∧ n ≤ 131072 then Wd.ck n.toNat else []

theorem chunks_any (n : Int) (w : World) : Calls Try.prog 49 #[.int .i64 n] w (MadeInts (ckOf n) w) := by
  unfold ckOf
  by_cases h : 1 ≤ n ∧ n ≤ 131072
  · rw [if_pos h]
    obtain ⟨k, rfl⟩ := Int.eq_ofNat_of_zero_le (by omega : 0 ≤ n)
    exact chunks_yes k w (by omega) (by omega)
  · rw [if_neg h]
    exact (chunks_no n w (by omega)).mono fun _ _ ⟨he, hw⟩ => ⟨_, he, World.ownsRow_nil _ _ _ _, by subst hw; exact Below.refl _ _⟩

theorem refChunks_any (n : Int) (w : World) : Calls Try.prog 64 #[.int .i64 n] w (MadeInts (ckOf n) w) := by
  unfold ckOf
  by_cases h : 1 ≤ n ∧ n ≤ 131072
  · rw [if_pos h]
    obtain ⟨k, rfl⟩ := Int.eq_ofNat_of_zero_le (by omega : 0 ≤ n)
    exact refChunks_yes k w (by omega) (by omega)
  · rw [if_neg h]
    exact (refChunks_no n w (by omega)).mono fun _ _ ⟨he, hw⟩ => ⟨_, he, World.ownsRow_nil _ _ _ _, by subst hw; exact Below.refl _ _⟩

/-- A call that made ints, in the walk's spelling: some of them, or none. -/
def SomeInts (xs : List Int) (w : World) (e : Ending) (w' : World) : Prop :=
  ∃ b off cap, e = .returned (.slice (some ⟨b, off, none⟩) xs.length cap) ∧ b < w'.heap.size ∧ (∀ i, i < xs.length → w'.cell? ⟨b, off + i, none⟩ = some (.int .i64 (xs.getD i 0))) ∧ Below w.heap.size w w'

theorem made_some {xs : List Int} {w w' : World} {e : Ending} (hp : 0 < xs.length) (h : MadeInts xs w e w') : SomeInts xs w e w' := by
  obtain ⟨v, he, ho, hb⟩ := h
  obtain ⟨A, cap, rfl, h⟩ := IntsAt.of_own ho
  obtain ⟨b, off, rfl, h1, h2⟩ := h hp
  exact ⟨b, off, cap, he, h1, h2, hb⟩
end Go.Proofs.Ytijgfaggakbajaa
