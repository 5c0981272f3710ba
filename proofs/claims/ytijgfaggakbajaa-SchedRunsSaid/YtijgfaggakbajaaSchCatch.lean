/-
  Layer 6's guard: a call whose panic would be caught; what is called returns.
-/
import Derived.Test.YtijgfaggakbajaaBytesMem
import Derived.Tactics2
import Derived.Defers
import Derived.Recover
namespace Go.Proofs.Ytijgfaggakbajaa
open Go.RowKit

set_option maxRecDepth 100000 in
theorem caught_idle (w : World) :
    CallsD Try.prog 69 #[] .returning w fun e u' w' => e = .returned (.tuple #[]) ∧ u' = .returning ∧ w' = w := by
  refine callsD_of_wpS Try.func69 rfl fun c₀ cs hu => ?_
  apply wpS_region
  cases c₀
  simp_all [wpOpsS, go_sem, recoverD, Try.ntmps69, bodyPostS, results, Try.results69]

set_option maxRecDepth 100000 in
theorem caught_any (k : FuncId) (caps : Array Value) (w : World) {Q : World → Prop} (hent : ∀ w, (callFunc k caps).run Try.prog w = .ok (.enter k caps) w)
    (h : Calls Try.prog k caps w fun e w' => e = .returned (.tuple #[]) ∧ Q w') :
    Calls Try.prog 53 #[.func (.func k) #[] caps] w fun e w' => e = .returned (.tuple #[]) ∧ Q w' := by
  have H := Lib.hid h
  have HE := Lib.hid hent
  clear h hent
  go_enter_defers Try.func53, Try.ntmps53
  go_wp2
  rw [HE.out w, Oper.upon_enter]
  refine H.out.mono ?_
  rintro e w1 ⟨rfl, hq⟩
  have HQ := Lib.hid hq
  clear hq
  go_wp2
  refine leaves_cons (f := 69) (args := #[]) (by simp) (by simp [go_sem]) ?_
  refine (caught_idle w1).mono ?_
  rintro e u' w2 ⟨rfl, rfl, rfl⟩
  exact ⟨_, results_none rfl _ _ _, rfl, HQ.out⟩
end Go.Proofs.Ytijgfaggakbajaa
