/-
  The fixed facts at the head of layer 2's statements, walked.
-/
import Derived.Test.YtinacnkddjelhaaMembufDo
namespace Go.Proofs.Ytinacnkddjelhaa
open Go.RowKit

/-- True, and what was there is as it was. -/
def TrueBelow (w : World) (e : Ending) (w' : World) : Prop := e = .returned (.bool true) ∧ Below w.heap.size w w'

theorem do_plain {w : World} {g h n : Nat} {m : Nat → Nat} {c : Int} (B : Buf w g h m n c) (K : Int) (a k v u : Nat) (hv : v < 18446744073709551616) (ok : chk (8 * (n : Int)) K a k 0 = 0) :
    Calls Try.prog 8 #[.pointer (some ⟨g, 0, none⟩), .agg #[.int .i64 K, .int .i64 a, .int .i64 k, .int .u64 v, .int .u64 u, .slice none 0 0]] w
      (Did (Mb.ansV m K a k) (Mb.ansD m K a k v) (Mb.ansB m K a k) g h (Mb.aft m K a k v u (fun _ => 0)) n (nxt c) w) :=
  do_ok B K a k v u Mb.zero_isB none 0 0 (Nat.le_refl _) (by decide) (bytesAt_none _ _ _ _) hv ok

theorem acc_one (w : World) (K P N V U : Int) (s : Value) : AccAt w.heap.size (w.alloc (.cells #[.int .i64 K, .int .i64 P, .int .i64 N, .int .u64 V, .int .u64 U, s] 25)) K P N V U s := by
  refine ⟨?_, ?_, ?_, ?_, ?_, ?_⟩
  all_goals go_simp

/-- .. told of one access: where the answer stands is said outright. -/
def Told3 (V : Nat) (D : Bool) (g h : Nat) (m : Nat → Nat) (n : Nat) (c : Int) (w : World) (e : Ending) (w' : World) : Prop :=
  ∃ A l cap, e = .returned (.tuple #[.agg #[.int .u64 V, .bool D, .slice A l cap], .int .i64 0]) ∧ Stored g h m n c w w'

theorem Did.told {V : Nat} {D : Bool} {xs : List Int} {g h : Nat} {m : Nat → Nat} {n : Nat} {c : Int} {w : World} {e : Ending} {w' : World} (hd : Did V D xs g h m n c w e w') : Told3 V D g h m n c w e w' := by
  obtain ⟨s, he, ⟨A, cap, hs, _⟩, hst⟩ := hd
  subst hs
  exact ⟨A, _, cap, he, hst⟩

theorem add_five {w : World} {g h : Nat} {m : Nat → Nat} {c : Int} (B : Buf w g h m 2 c) (x : Nat) (hx : Mb.nm m 0 8 = x) :
    Calls Try.prog 8 #[.pointer (some ⟨g, 0, none⟩), .agg #[.int .i64 3, .int .i64 0, .int .i64 8, .int .u64 5, .int .u64 0, .slice none 0 0]] w
      (Told3 x false g h (Mb.put m 0 8 (x + 5)) 2 (nxt c) w) := by
  refine Calls.mono (do_plain B 3 0 8 5 0 (by decide) (by decide)) fun e w' hd => ?_
  have h := hd.told
  simpa [Mb.ansV, Mb.ansD, Mb.aft, hx] using h

theorem load_odd {w : World} {g h : Nat} {m : Nat → Nat} {c : Int} (B : Buf w g h m 2 c) :
    Calls Try.prog 8 #[.pointer (some ⟨g, 0, none⟩), .agg #[.int .i64 1, .int .i64 4, .int .i64 8, .int .u64 0, .int .u64 0, .slice none 0 0]] w
      (Made (.tuple #[.agg #[.int .u64 0, .bool false, .slice none 0 0], .int .i64 3]) w) :=
  do_no B 1 4 8 0 0 none 0 0 (by decide)

theorem nm_zero (a n : Nat) : Mb.nm (fun _ => 0) a n = 0 := by
  induction n with
  | zero => rfl
  | succ n ih => show Mb.nm (fun _ => 0) a n + 0 * _ = 0; rw [ih, Nat.zero_mul]

set_option maxHeartbeats 1000000 in
theorem fixed_any (w : World) :
    Calls Try.prog 6 #[] w (TrueBelow w) := by
  go_enter Try.func6, Try.ntmps6
  go_wp2_with fail
  refine (new_yes 16 2 w (by decide) (by decide) (by decide) (by decide)).mono ?_
  rintro e w0 ⟨g, h, rfl, hB, hg, hh, hw0⟩
  have HB := Lib.hid (hB.alloc (.cells #[.int .i64 3, .int .i64 0, .int .i64 8, .int .u64 5, .int .u64 0, .slice none 0 0] 25))
  have hc := acc_one w0 3 0 8 5 0 (.slice none 0 0)
  have hz0 : (w0.alloc (.cells #[.int .i64 3, .int .i64 0, .int .i64 8, .int .u64 5, .int .u64 0, .slice none 0 0] 25)).heap.size = w0.heap.size + 1 := by simp
  have HW0 := (hw0.mono (Nat.le_refl _)).alloc hw0.size (.cells #[.int .i64 3, .int .i64 0, .int .i64 8, .int .u64 5, .int .u64 0, .slice none 0 0] 25)
  have hgl := hB.g_lt
  have hhl := hB.h_lt
  clear hB hw0
  go_wp2_with fail
  generalize w0.alloc (.cells #[.int .i64 3, .int .i64 0, .int .i64 8, .int .u64 5, .int .u64 0, .slice none 0 0] 25) = W0 at HB hc hz0 HW0 ⊢
  refine (add_five HB.out 0 (nm_zero 0 8)).mono ?_
  rintro e w1 ⟨A1, l1, cp1, rfl, hs1⟩
  have hc1 := hc.touch hs1.2 (by omega) (by omega)
  have HS1 := Lib.hid hs1
  have hz1 := hs1.2.size
  rw [hz0] at hz1
  have hl1 : w0.heap.size < w1.heap.size := by omega
  clear hs1 hz1
  obtain ⟨c0, c1, c2, c3, c4, c5⟩ := hc1
  go_wp2_with fail
  clear c0 c1 c2 c3 c4 c5
  have HB1 := HS1.out.1.alloc (.cells #[.int .u64 0, .bool false, .slice A1 l1 cp1] 32)
  have HT1 := HS1.out.2.alloc (.cells #[.int .u64 0, .bool false, .slice A1 l1 cp1] 32)
  have hx1 : (w1.alloc (.cells #[.int .u64 0, .bool false, .slice A1 l1 cp1] 32)).cell? ⟨w1.heap.size, 0, none⟩ = some (.int .u64 0) := by go_simp
  have hz1 : (w1.alloc (.cells #[.int .u64 0, .bool false, .slice A1 l1 cp1] 32)).heap.size = w1.heap.size + 1 := by simp
  generalize w1.alloc (.cells #[.int .u64 0, .bool false, .slice A1 l1 cp1] 32) = W1 at HB1 HT1 hx1 hz1 ⊢
  clear HS1
  refine (add_five HB1 5 (by rw [Mb.nm_put])).mono ?_
  rintro e w2 ⟨A2, l2, cp2, rfl, hs2⟩
  have hx2 : w2.cell? ⟨w1.heap.size, 0, none⟩ = some (.int .u64 0) := (hs2.2.cell (p := ⟨w1.heap.size, 0, none⟩) (by show w1.heap.size < _; omega) (by show ¬ Two g h w1.heap.size; unfold Two; omega)).trans hx1
  have hl2 : w1.heap.size < w2.heap.size := by have := hs2.2.size; omega
  have HB2 := hs2.1.alloc (.cells #[.int .u64 5, .bool false, .slice A2 l2 cp2] 32)
  have HT2 := (HT1.trans hs2.2).alloc (.cells #[.int .u64 5, .bool false, .slice A2 l2 cp2] 32)
  clear hs2 hx1 hz1
  go_wp2_with fail
  have hx3 : (w2.alloc (.cells #[.int .u64 5, .bool false, .slice A2 l2 cp2] 32)).cell? ⟨w1.heap.size, 0, none⟩ = some (.int .u64 0) := by go_simp
  have hy3 : (w2.alloc (.cells #[.int .u64 5, .bool false, .slice A2 l2 cp2] 32)).cell? ⟨w2.heap.size, 0, none⟩ = some (.int .u64 5) := by go_simp
  have hz3 : (w2.alloc (.cells #[.int .u64 5, .bool false, .slice A2 l2 cp2] 32)).heap.size = w2.heap.size + 1 := by simp
  generalize w2.alloc (.cells #[.int .u64 5, .bool false, .slice A2 l2 cp2] 32) = W2 at HB2 HT2 hx3 hy3 hz3 ⊢
  refine (load_odd HB2).mono ?_
  rintro e w3 ⟨rfl, hb3⟩
  have hx4 : w3.cell? ⟨w1.heap.size, 0, none⟩ = some (.int .u64 0) := (hb3.cell (p := ⟨w1.heap.size, 0, none⟩) (by show w1.heap.size < _; omega)).trans hx3
  have hy4 : w3.cell? ⟨w2.heap.size, 0, none⟩ = some (.int .u64 5) := (hb3.cell (p := ⟨w2.heap.size, 0, none⟩) (by show w2.heap.size < _; omega)).trans hy3
  have HB4 := HB2.below hb3
  have HT4 := HT2.trans (Touch.of_below hb3)
  have hl3 : w2.heap.size < w3.heap.size := by have := hb3.size; omega
  have hl4 : w1.heap.size < w3.heap.size := by omega
  clear hb3 hx3 hy3 hz3 hx2 HB2 HT2
  have hcount : nxt (nxt 0) = 2 := by decide +kernel
  rw [hcount] at HB4
  have hc4 := count_any (HB4.alloc (.cells #[.int .u64 0, .bool false, .slice none 0 0] 32))
  have hs4 := size_any (HB4.alloc (.cells #[.int .u64 0, .bool false, .slice none 0 0] 32))
  have HC4 := Lib.hid hc4
  have HS4 := Lib.hid hs4
  clear hc4 hs4 hcount
  go_wp2_with (first
    | (go_at_call 7; refine (new_no 9 _ (by decide) (by decide) (by decide)).mono ?_; rintro e w' ⟨rfl, rfl⟩)
    | (go_at_call 11; refine HC4.out.mono ?_; rintro e w' ⟨rfl, rfl⟩)
    | (go_at_call 10; refine HS4.out.mono ?_; rintro e w' ⟨rfl, rfl⟩))
  go_ret
  exact ⟨rfl, Touch.below HW0 (HT4.alloc _) (by omega) fun k hk => by rcases hk with rfl | rfl <;> omega⟩
end Go.Proofs.Ytinacnkddjelhaa
