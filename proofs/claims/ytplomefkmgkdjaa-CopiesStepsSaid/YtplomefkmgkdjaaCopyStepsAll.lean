/-
  The statement that each access of a copy is the document's (layer 5), whatever the arguments.
-/
import Derived.Test.YtplomefkmgkdjaaCopyStepsLong
namespace Go.Proofs.Ytplomefkmgkdjaa
open Go.RowKit

set_option maxRecDepth 100000 in
set_option maxHeartbeats 1000000 in
theorem stepsLaw_out (w : World) (k at_ n : Int) (B : Option Addr) (L cp : Nat) (A : Option Addr) (M cap : Nat) (hL : L ≤ 9223372036854775807) (hM : M ≤ 9223372036854775807)
    (h : 600 < L ∨ 90 < M ∨ (600 < n ∧ n ≤ 131072) ∨ 1099511627776 < at_ ∨ at_ < -1099511627776) :
    Calls Try.prog 3 #[.int .u8 k, .int .i64 at_, .int .i64 n, .slice B L cp, .slice A M cap] w (TrueBelow w) := by
  by_cases h1 : 600 < L
  · clear h
    go_enter Try.func3, Try.ntmps3
    go_wp2_with (go_at_call 6; refine (copiesFixed_any w).mono ?_; rintro e w1 ⟨rfl, hq1⟩)
    go_ret
    exact ⟨rfl, hq1⟩
  · have h1' : L ≤ 600 := by omega
    by_cases h2 : 90 < M
    · clear h h1
      go_enter Try.func3, Try.ntmps3
      go_wp2_with (go_at_call 6; refine (copiesFixed_any w).mono ?_; rintro e w1 ⟨rfl, hq1⟩)
      go_ret
      exact ⟨rfl, hq1⟩
    · have h2' : M ≤ 90 := by omega
      by_cases h3 : 600 < n ∧ n ≤ 131072
      · obtain ⟨h3, h4⟩ := h3
        clear h h1 h2
        go_enter Try.func3, Try.ntmps3
        go_wp2_with (go_at_call 6; refine (copiesFixed_any w).mono ?_; rintro e w1 ⟨rfl, hq1⟩)
        go_ret
        exact ⟨rfl, hq1⟩
      · by_cases h5 : n ≤ 600
        · by_cases h6 : 1099511627776 < at_
          · clear h h1 h2 h3
            go_enter Try.func3, Try.ntmps3
            go_wp2_with (go_at_call 6; refine (copiesFixed_any w).mono ?_; rintro e w1 ⟨rfl, hq1⟩)
            go_ret
            exact ⟨rfl, hq1⟩
          · have h6' : at_ ≤ 1099511627776 := by omega
            have h7 : at_ < -1099511627776 := by omega
            clear h h1 h2 h3 h6
            go_enter Try.func3, Try.ntmps3
            go_wp2_with (go_at_call 6; refine (copiesFixed_any w).mono ?_; rintro e w1 ⟨rfl, hq1⟩)
            go_ret
            exact ⟨rfl, hq1⟩
        · have h8 : 131072 < n := by omega
          have h9 : 600 < n := by omega
          by_cases h6 : 1099511627776 < at_
          · clear h h1 h2 h3 h5
            go_enter Try.func3, Try.ntmps3
            go_wp2_with (go_at_call 6; refine (copiesFixed_any w).mono ?_; rintro e w1 ⟨rfl, hq1⟩)
            go_ret
            exact ⟨rfl, hq1⟩
          · have h6' : at_ ≤ 1099511627776 := by omega
            have h7 : at_ < -1099511627776 := by omega
            clear h h1 h2 h3 h5 h6
            go_enter Try.func3, Try.ntmps3
            go_wp2_with (go_at_call 6; refine (copiesFixed_any w).mono ?_; rintro e w1 ⟨rfl, hq1⟩)
            go_ret
            exact ⟨rfl, hq1⟩

theorem stepsLaw_all (w : World) (k at_ n : Int) (B : Option Addr) (L cp : Nat) (f : Nat → Nat) (hB : BytesAt w (.slice B L cp) (Mb.bl f 0 L)) (hcp : L ≤ cp) (hcp2 : cp ≤ 9223372036854775807)
    (A : Option Addr) (M cap : Nat) (T : Nat → Ans) (hT : ToldAt w A M T) (hM : M ≤ cap) (hcap : cap ≤ 9223372036854775807) (hk : 0 ≤ k ∧ k ≤ 255) :
    Calls Try.prog 3 #[.int .u8 k, .int .i64 at_, .int .i64 n, .slice B L cp, .slice A M cap] w (TrueBelow w) := by
  by_cases h : 600 < L ∨ 90 < M ∨ (600 < n ∧ n ≤ 131072) ∨ 1099511627776 < at_ ∨ at_ < -1099511627776
  · exact stepsLaw_out w k at_ n B L cp A M cap (by omega) (by omega) h
  · by_cases hn : n ≤ 600
    · exact stepsLaw_maina w k at_ n B L cp f hB hcp hcp2 A M cap T hT hM hcap hk.1 hk.2 (by omega) (by omega) hn (by omega) (by omega)
    · exact stepsLaw_mainb w k at_ n B L cp f hB hcp hcp2 A M cap T hT hM hcap hk.1 hk.2 (by omega) (by omega) (by omega) (by omega) (by omega)
end Go.Proofs.Ytplomefkmgkdjaa
