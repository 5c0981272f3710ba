/-
  Layer 6's plain facts of rows of picks: what stays, what is counted.
-/
import Derived.Test.YtijgfaggakbajaaSchStart
import Derived.Test.YtijgfaggakbajaaSchRun
namespace Go.Proofs.Ytijgfaggakbajaa
open Go.RowKit

theorem St.pick_na (st : St) (p : Pk) : (st.pick p).1.na = st.na ∧ (st.pick p).1.nw = st.nw := by
  by_cases h0 : st.chk p = 0
  · by_cases h1 : p.K = 1
    · rw [St.pick_kill h0 h1]; exact ⟨rfl, rfl⟩
    · by_cases h2 : p.K = 2
      · rw [St.pick_tick h0 h2]; exact ⟨rfl, rfl⟩
      · have hk : p.K = 0 := by have := St.chk_kind h0; omega
        cases hn : (st.ms p.A.toNat).next with
        | none => rw [St.pick_end h0 hk hn]; exact ⟨rfl, rfl⟩
        | some a =>
          by_cases he : a.err st.nw = 0
          · rw [St.pick_ok h0 hk hn he]; exact ⟨rfl, rfl⟩
          · rw [St.pick_bad h0 hk hn he]; exact ⟨rfl, rfl⟩
  · rw [St.pick_no h0]; exact ⟨rfl, rfl⟩

/-- What a pick counts: nothing; or one access, of a step of one that lives, that went well. -/
theorem St.pick_count (st : St) (p : Pk) : (st.pick p).1.c = st.c ∨ ((st.pick p).1.c = nxt st.c ∧ p.K = 0 ∧ st.deadB p.A = false ∧ (st.pick p).2.1 = 0) := by
  by_cases h0 : st.chk p = 0
  · by_cases h1 : p.K = 1
    · rw [St.pick_kill h0 h1]; exact .inl rfl
    · by_cases h2 : p.K = 2
      · rw [St.pick_tick h0 h2]; exact .inl rfl
      · have hk : p.K = 0 := by have := St.chk_kind h0; omega
        cases hn : (st.ms p.A.toNat).next with
        | none => rw [St.pick_end h0 hk hn]; exact .inl rfl
        | some a =>
          by_cases he : a.err st.nw = 0
          · obtain ⟨i, hi, _, hd⟩ := St.chk_actor h0 (.inl hk)
            rw [St.pick_ok h0 hk hn he]
            refine .inr ⟨rfl, hk, ?_, rfl⟩
            unfold St.deadB
            rw [hi, Int.toNat_natCast, hd, Bool.and_false]
          · rw [St.pick_bad h0 hk hn he]; exact .inl rfl
  · rw [St.pick_no h0]; exact .inl rfl

theorem St.runs_na (ps : List Pk) : ∀ (st : St) (es : List Ev), (St.runs ps st es).1.na = st.na := by
  induction ps with
  | nil => exact fun _ _ => rfl
  | cons p ps ih => exact fun st es => (ih _ _).trans (St.pick_na st p).1

theorem St.runs_tr (ps : List Pk) : ∀ (st : St) (es : List Ev), (St.runs ps st es).1.tr.length ≤ st.tr.length + ps.length := by
  induction ps with
  | nil => exact fun _ _ => Nat.le_refl _
  | cons p ps ih =>
    intro st es
    have h1 := ih (st.pick p).1 (if (st.pick p).2.1 = 0 then es ++ [(st.pick p).2.2] else es)
    have h2 := St.act_len st p
    show (St.runs ps _ _).1.tr.length ≤ _
    simp only [List.length_cons]
    omega

/-- One that is there and dead takes no step; one that isn't there neither. -/
theorem St.pick_dead (st : St) (k : Nat) (hk : k < st.na) (hd : st.dead k = true) : st.pick ⟨0, k, 0⟩ = (st, 11, Ev.zero) := by
  have hc : st.chk ⟨0, k, 0⟩ = 11 := by
    unfold St.chk
    rw [if_pos (.inl rfl), if_pos (show hasB st.na (k : Int) = true by simp [hasB]; omega), if_pos (by rw [Int.toNat_natCast]; exact hd)]
  rw [St.pick_no (by rw [hc]; decide), hc]
theorem St.pick_away (st : St) (i : Int) (hi : hasB st.na i = false) : st.pick ⟨0, i, 0⟩ = (st, 2, Ev.zero) := by
  have hc : st.chk ⟨0, i, 0⟩ = 2 := by
    unfold St.chk
    rw [if_pos (.inl rfl), if_neg (by simp [hi])]
  rw [St.pick_no (by rw [hc]; decide), hc]
end Go.Proofs.Ytijgfaggakbajaa
