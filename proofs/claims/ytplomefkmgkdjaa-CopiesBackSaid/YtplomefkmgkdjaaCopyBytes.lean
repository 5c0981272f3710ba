/-
  Layer 5's Bytes, walked; and whether two accesses are one (layer 2's plain answer).
-/
import Derived.Test.YtplomefkmgkdjaaCopyMach
namespace Go.Proofs.Ytplomefkmgkdjaa
open Go.RowKit

set_option maxRecDepth 100000 in
set_option maxHeartbeats 400000 in
theorem bytes_any {kd : Kd} {w : World} {base top g d r : Nat} {v : Value} {ys : List Int} (h : Cp w base top g kd d r v ys) (hl : ys.length ≤ 1073741824) :
    Calls Try.prog 11 #[.pointer (some ⟨g, 0, none⟩)] w (MadeSl ys.length ys w) := by
  obtain ⟨cv, nx, th, h1, _, _⟩ := h.head
  have hb := h.own.bytes
  obtain ⟨A, cap, rfl, _⟩ := h.own.bytes
  have hc : w.cell? ⟨g, 4, none⟩ = some (.slice A ys.length cap) := by simp [World.cell?, h1]
  have HB := Lib.hid hb
  clear h h1 hb
  go_enter Try.func11, Try.ntmps11
  go_wp2_with (go_at_call 22; refine (clone_sl A ys.length cap ys w HB.out hl).mono ?_; rintro e w1 ⟨A1, c1, rfl, ho1, hb1⟩)
  go_ret
  exact ⟨_, _, rfl, ho1, hb1⟩

set_option maxRecDepth 100000 in
set_option maxHeartbeats 400000 in
theorem bytes_nil (w : World) : Calls Try.prog 11 #[.pointer none] w (MadeSl 0 [] w) := by
  go_enter Try.func11, Try.ntmps11
  go_wp2
  go_ret
  exact ⟨_, _, rfl, World.ownsRow_nil _ _ _ _, Below.refl _ _⟩
end Go.Proofs.Ytplomefkmgkdjaa
