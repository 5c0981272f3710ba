/-
  The statement on nil buffers (layer 2), walked.
-/
import Derived.Test.YtinacnkddjelhaaMembufFixed
namespace Go.Proofs.Ytinacnkddjelhaa
open Go.RowKit

/-- A call that answered a slice of no bytes. -/
theorem MadeBytes.none_ {w : World} {e : Ending} {w' : World} (h : MadeBytes [] w e w') : ∃ A cap, e = .returned (.slice A 0 cap) ∧ Below w.heap.size w w' := by
  obtain ⟨v, he, ⟨A, cap, hv, _⟩, hb⟩ := h
  exact ⟨A, cap, by rw [he, hv]; rfl, hb⟩

set_option maxHeartbeats 1000000 in
theorem nilLaw_any (w : World) (K P N : Int) (V U : Nat) (A : Option Addr) (L cap : Nat) (hL : L ≤ 9223372036854775807) :
    Calls Try.prog 5 #[.agg #[.int .i64 K, .int .i64 P, .int .i64 N, .int .u64 V, .int .u64 U, .slice A L cap]] w (TrueBelow w) := by
  have hr := chkNil_12 K P N L
  have hd := fun W => do_nil W K P N V U A L cap
  generalize chkNil K P N L = r at hr hd
  have HD := Lib.hid hd
  clear hd
  have hc := acc_one w K P N V U (.slice A L cap)
  have HW := (Below.refl w.heap.size w).alloc (Nat.le_refl _) (.cells #[.int .i64 K, .int .i64 P, .int .i64 N, .int .u64 V, .int .u64 U, .slice A L cap] 25)
  by_cases hlen : L ≤ 100
  · go_enter Try.func5, Try.ntmps5
    go_wp2_with fail
    generalize w.alloc (.cells #[.int .i64 K, .int .i64 P, .int .i64 N, .int .u64 V, .int .u64 U, .slice A L cap] 25) = W at hc HW ⊢
    refine (fixed_any W).mono ?_
    rintro e w1 ⟨rfl, hb1⟩
    have hc1 := hc.below hb1
    have HW1 := HW.trans (hb1.mono HW.size)
    clear hc hb1 HW
    obtain ⟨c0, c1, c2, c3, c4, c5⟩ := hc1
    rcases hr with rfl | rfl
    all_goals
      go_wp2_with fail
      refine (HD.out w1).mono ?_
      rintro e w2 ⟨rfl, hb2⟩
      have HW2 := HW1.trans (hb2.mono HW1.size)
      clear hb2 c0 c1 c2 c3 c4 c5
      go_wp2_with (first
        | (go_at_call 10; refine (size_nil _).mono ?_; rintro e w' ⟨rfl, rfl⟩)
        | (go_at_call 11; refine (count_nil _).mono ?_; rintro e w' ⟨rfl, rfl⟩)
        | (go_at_call 9; refine (allBytes_nil _).mono ?_; rintro e w3 hm; obtain ⟨A3, cp3, rfl, hb3⟩ := hm.none_))
      go_ret
      exact ⟨rfl, (HW2.alloc HW2.size _).trans (hb3.mono (by have := HW2.size; simp; omega))⟩
  · have hlen' : 100 < L := by omega
    clear hlen
    go_enter Try.func5, Try.ntmps5
    go_wp2_with fail
    generalize w.alloc (.cells #[.int .i64 K, .int .i64 P, .int .i64 N, .int .u64 V, .int .u64 U, .slice A L cap] 25) = W at hc HW ⊢
    refine (fixed_any W).mono ?_
    rintro e w1 ⟨rfl, hb1⟩
    have hc1 := hc.below hb1
    have HW1 := HW.trans (hb1.mono HW.size)
    clear hc hb1 HW
    obtain ⟨c0, c1, c2, c3, c4, c5⟩ := hc1
    go_wp2_with fail
    go_ret
    exact ⟨rfl, HW1⟩
end Go.Proofs.Ytinacnkddjelhaa
