/-
  The statement that a position's term and offset make it again, walked: it answers true and leaves alone what was there.
-/
import Derived.Test.YtgodagidkfflfaaPlaceLaws
namespace Go.Proofs.Ytgodagidkfflfaa
open Go.RowKit

/-- What a position tells that may be. -/
theorem told (i z : Int) (hz : Pl.isT z = true) (P : Int) (h0 : 0 ≤ P) (h1 : P < z * 2147483648) :
    Pl.inE P z = 0 ∧ Pl.pos (Pl.term P i z) i (Pl.offs P z) z = P ∧ Pl.posE (Pl.term P i z) i (Pl.offs P z) z = 0 ∧ Pl.cnt (Pl.term P i z) i = P / z := by
  have hb : Pl.inB P z = true := by unfold Pl.inB; rw [Pl.mx_of hz]; simp; omega
  have hq := Pl.pos_back (i := i) hb
  refine ⟨by unfold Pl.inE; rw [if_pos hb], hq.1, hq.2, ?_⟩
  have e : Pl.term P i z = Hd.s32 (i + P / z) := by unfold Pl.term; rw [if_pos hb]
  rw [e]
  exact Pl.cnt_term hz h0 h1

theorem tmod_in (p m : Int) (hm : 0 < m) : -m < p.tmod m ∧ p.tmod m < m := by
  have h1 := Int.lt_tmod_of_pos p hm
  have h2 := Int.tmod_lt_of_pos p hm
  omega

theorem neg_quo (t z : Int) (hz : 0 < z) (h : t < 0) (hb : -17592186044416 < t) : -t / z = wrap64 (-(t.tdiv z)) := by
  have e : -(t.tdiv z) = -t / z := by rw [← Int.neg_tdiv, Int.tdiv_eq_ediv_of_nonneg (by omega)]
  have h0 : 0 ≤ -t / z := Int.ediv_nonneg (by omega) (by omega)
  have h1 : -t / z ≤ -t := Int.ediv_le_self _ (by omega)
  rw [e]
  unfold wrap64
  omega

theorem third_next (x : Int) : (x % 3 != (x + 1) % 3) = true := by simp; omega
theorem ret_b {a b : Bool} (h : a = b) : Ending.returned (.bool a) = .returned (.bool b) := by rw [h]

set_option maxHeartbeats 4000000 in
theorem backLaw_any (i p b : Int) (w : World) (b0 : 0 ≤ b) :
    Calls Try.prog 4 #[.int .i32 i, .int .i64 p, .int .u8 b] w (TrueBelow w) := by
  have hb : b % 6 = 0 ∨ b % 6 = 1 ∨ b % 6 = 2 ∨ b % 6 = 3 ∨ b % 6 = 4 ∨ b % 6 = 5 := by omega
  have ht := fun m hm => tmod_in p m hm
  rcases hb with h | h | h | h | h | h
  · have hm : Hid (Pl.mx 256 = 549755813888) := Lib.hid (by decide +kernel)
    have H := Lib.hid (told i 256 (by decide +kernel))
    obtain ⟨r0, r1⟩ := ht 549755813888 (by omega)
    have HN := Lib.hid (fun h => neg_quo (p.tmod 549755813888) 256 (by omega) h (by omega))
    clear ht
    go_enter Try.func4, Try.ntmps4
    go_wp2_with (first
      | (go_at_call 6; refine (fixed_any _).mono ?_; rintro e w' ⟨rfl, rfl⟩)
      | (go_at_call 17; refine (maxPosition_any _ _ (by omega) (by omega)).mono ?_; rintro e w' ⟨rfl, rfl⟩; rw [hm.out])
      | (go_at_call 9; refine (term_any _ _ _ _ (by omega) (by omega)).mono ?_; rintro e w' ⟨rfl, rfl⟩; rw [(H.out _ (by omega) (by omega)).1])
      | (go_at_call 11; refine (offset_any _ _ _ (by omega) (by omega)).mono ?_; rintro e w' ⟨rfl, rfl⟩; rw [(H.out _ (by omega) (by omega)).1])
      | (go_at_call 7; refine (position_any _ _ _ _ _ (by omega) (by omega)).mono ?_; rintro e w' ⟨rfl, rfl⟩; rw [(H.out _ (by omega) (by omega)).2.1, (H.out _ (by omega) (by omega)).2.2.1])
      | (go_at_call 13; refine (count_any _ _ _).mono ?_; rintro e w' ⟨rfl, rfl⟩; rw [(H.out _ (by omega) (by omega)).2.2.2])
      | (go_at_call 19; refine (part_any _ _ (by omega) (by omega)).mono ?_; rintro e w' ⟨rfl, rfl⟩))
    all_goals
      first
      | exact absurd (HN.out ‹_›) ‹_›
      | (go_ret; exact ⟨ret_b (third_next _), Below.refl _ _⟩)
  · have hm : Hid (Pl.mx 512 = 1099511627776) := Lib.hid (by decide +kernel)
    have H := Lib.hid (told i 512 (by decide +kernel))
    obtain ⟨r0, r1⟩ := ht 1099511627776 (by omega)
    have HN := Lib.hid (fun h => neg_quo (p.tmod 1099511627776) 512 (by omega) h (by omega))
    clear ht
    go_enter Try.func4, Try.ntmps4
    go_wp2_with (first
      | (go_at_call 6; refine (fixed_any _).mono ?_; rintro e w' ⟨rfl, rfl⟩)
      | (go_at_call 17; refine (maxPosition_any _ _ (by omega) (by omega)).mono ?_; rintro e w' ⟨rfl, rfl⟩; rw [hm.out])
      | (go_at_call 9; refine (term_any _ _ _ _ (by omega) (by omega)).mono ?_; rintro e w' ⟨rfl, rfl⟩; rw [(H.out _ (by omega) (by omega)).1])
      | (go_at_call 11; refine (offset_any _ _ _ (by omega) (by omega)).mono ?_; rintro e w' ⟨rfl, rfl⟩; rw [(H.out _ (by omega) (by omega)).1])
      | (go_at_call 7; refine (position_any _ _ _ _ _ (by omega) (by omega)).mono ?_; rintro e w' ⟨rfl, rfl⟩; rw [(H.out _ (by omega) (by omega)).2.1, (H.out _ (by omega) (by omega)).2.2.1])
      | (go_at_call 13; refine (count_any _ _ _).mono ?_; rintro e w' ⟨rfl, rfl⟩; rw [(H.out _ (by omega) (by omega)).2.2.2])
      | (go_at_call 19; refine (part_any _ _ (by omega) (by omega)).mono ?_; rintro e w' ⟨rfl, rfl⟩))
    all_goals
      first
      | exact absurd (HN.out ‹_›) ‹_›
      | (go_ret; exact ⟨ret_b (third_next _), Below.refl _ _⟩)
  · have hm : Hid (Pl.mx 1024 = 2199023255552) := Lib.hid (by decide +kernel)
    have H := Lib.hid (told i 1024 (by decide +kernel))
    obtain ⟨r0, r1⟩ := ht 2199023255552 (by omega)
    have HN := Lib.hid (fun h => neg_quo (p.tmod 2199023255552) 1024 (by omega) h (by omega))
    clear ht
    go_enter Try.func4, Try.ntmps4
    go_wp2_with (first
      | (go_at_call 6; refine (fixed_any _).mono ?_; rintro e w' ⟨rfl, rfl⟩)
      | (go_at_call 17; refine (maxPosition_any _ _ (by omega) (by omega)).mono ?_; rintro e w' ⟨rfl, rfl⟩; rw [hm.out])
      | (go_at_call 9; refine (term_any _ _ _ _ (by omega) (by omega)).mono ?_; rintro e w' ⟨rfl, rfl⟩; rw [(H.out _ (by omega) (by omega)).1])
      | (go_at_call 11; refine (offset_any _ _ _ (by omega) (by omega)).mono ?_; rintro e w' ⟨rfl, rfl⟩; rw [(H.out _ (by omega) (by omega)).1])
      | (go_at_call 7; refine (position_any _ _ _ _ _ (by omega) (by omega)).mono ?_; rintro e w' ⟨rfl, rfl⟩; rw [(H.out _ (by omega) (by omega)).2.1, (H.out _ (by omega) (by omega)).2.2.1])
      | (go_at_call 13; refine (count_any _ _ _).mono ?_; rintro e w' ⟨rfl, rfl⟩; rw [(H.out _ (by omega) (by omega)).2.2.2])
      | (go_at_call 19; refine (part_any _ _ (by omega) (by omega)).mono ?_; rintro e w' ⟨rfl, rfl⟩))
    all_goals
      first
      | exact absurd (HN.out ‹_›) ‹_›
      | (go_ret; exact ⟨ret_b (third_next _), Below.refl _ _⟩)
  · have hm : Hid (Pl.mx 2048 = 4398046511104) := Lib.hid (by decide +kernel)
    have H := Lib.hid (told i 2048 (by decide +kernel))
    obtain ⟨r0, r1⟩ := ht 4398046511104 (by omega)
    have HN := Lib.hid (fun h => neg_quo (p.tmod 4398046511104) 2048 (by omega) h (by omega))
    clear ht
    go_enter Try.func4, Try.ntmps4
    go_wp2_with (first
      | (go_at_call 6; refine (fixed_any _).mono ?_; rintro e w' ⟨rfl, rfl⟩)
      | (go_at_call 17; refine (maxPosition_any _ _ (by omega) (by omega)).mono ?_; rintro e w' ⟨rfl, rfl⟩; rw [hm.out])
      | (go_at_call 9; refine (term_any _ _ _ _ (by omega) (by omega)).mono ?_; rintro e w' ⟨rfl, rfl⟩; rw [(H.out _ (by omega) (by omega)).1])
      | (go_at_call 11; refine (offset_any _ _ _ (by omega) (by omega)).mono ?_; rintro e w' ⟨rfl, rfl⟩; rw [(H.out _ (by omega) (by omega)).1])
      | (go_at_call 7; refine (position_any _ _ _ _ _ (by omega) (by omega)).mono ?_; rintro e w' ⟨rfl, rfl⟩; rw [(H.out _ (by omega) (by omega)).2.1, (H.out _ (by omega) (by omega)).2.2.1])
      | (go_at_call 13; refine (count_any _ _ _).mono ?_; rintro e w' ⟨rfl, rfl⟩; rw [(H.out _ (by omega) (by omega)).2.2.2])
      | (go_at_call 19; refine (part_any _ _ (by omega) (by omega)).mono ?_; rintro e w' ⟨rfl, rfl⟩))
    all_goals
      first
      | exact absurd (HN.out ‹_›) ‹_›
      | (go_ret; exact ⟨ret_b (third_next _), Below.refl _ _⟩)
  · have hm : Hid (Pl.mx 4096 = 8796093022208) := Lib.hid (by decide +kernel)
    have H := Lib.hid (told i 4096 (by decide +kernel))
    obtain ⟨r0, r1⟩ := ht 8796093022208 (by omega)
    have HN := Lib.hid (fun h => neg_quo (p.tmod 8796093022208) 4096 (by omega) h (by omega))
    clear ht
    go_enter Try.func4, Try.ntmps4
    go_wp2_with (first
      | (go_at_call 6; refine (fixed_any _).mono ?_; rintro e w' ⟨rfl, rfl⟩)
      | (go_at_call 17; refine (maxPosition_any _ _ (by omega) (by omega)).mono ?_; rintro e w' ⟨rfl, rfl⟩; rw [hm.out])
      | (go_at_call 9; refine (term_any _ _ _ _ (by omega) (by omega)).mono ?_; rintro e w' ⟨rfl, rfl⟩; rw [(H.out _ (by omega) (by omega)).1])
      | (go_at_call 11; refine (offset_any _ _ _ (by omega) (by omega)).mono ?_; rintro e w' ⟨rfl, rfl⟩; rw [(H.out _ (by omega) (by omega)).1])
      | (go_at_call 7; refine (position_any _ _ _ _ _ (by omega) (by omega)).mono ?_; rintro e w' ⟨rfl, rfl⟩; rw [(H.out _ (by omega) (by omega)).2.1, (H.out _ (by omega) (by omega)).2.2.1])
      | (go_at_call 13; refine (count_any _ _ _).mono ?_; rintro e w' ⟨rfl, rfl⟩; rw [(H.out _ (by omega) (by omega)).2.2.2])
      | (go_at_call 19; refine (part_any _ _ (by omega) (by omega)).mono ?_; rintro e w' ⟨rfl, rfl⟩))
    all_goals
      first
      | exact absurd (HN.out ‹_›) ‹_›
      | (go_ret; exact ⟨ret_b (third_next _), Below.refl _ _⟩)
  · have hm : Hid (Pl.mx 8192 = 17592186044416) := Lib.hid (by decide +kernel)
    have H := Lib.hid (told i 8192 (by decide +kernel))
    obtain ⟨r0, r1⟩ := ht 17592186044416 (by omega)
    have HN := Lib.hid (fun h => neg_quo (p.tmod 17592186044416) 8192 (by omega) h (by omega))
    clear ht
    go_enter Try.func4, Try.ntmps4
    go_wp2_with (first
      | (go_at_call 6; refine (fixed_any _).mono ?_; rintro e w' ⟨rfl, rfl⟩)
      | (go_at_call 17; refine (maxPosition_any _ _ (by omega) (by omega)).mono ?_; rintro e w' ⟨rfl, rfl⟩; rw [hm.out])
      | (go_at_call 9; refine (term_any _ _ _ _ (by omega) (by omega)).mono ?_; rintro e w' ⟨rfl, rfl⟩; rw [(H.out _ (by omega) (by omega)).1])
      | (go_at_call 11; refine (offset_any _ _ _ (by omega) (by omega)).mono ?_; rintro e w' ⟨rfl, rfl⟩; rw [(H.out _ (by omega) (by omega)).1])
      | (go_at_call 7; refine (position_any _ _ _ _ _ (by omega) (by omega)).mono ?_; rintro e w' ⟨rfl, rfl⟩; rw [(H.out _ (by omega) (by omega)).2.1, (H.out _ (by omega) (by omega)).2.2.1])
      | (go_at_call 13; refine (count_any _ _ _).mono ?_; rintro e w' ⟨rfl, rfl⟩; rw [(H.out _ (by omega) (by omega)).2.2.2])
      | (go_at_call 19; refine (part_any _ _ (by omega) (by omega)).mono ?_; rintro e w' ⟨rfl, rfl⟩))
    all_goals
      first
      | exact absurd (HN.out ‹_›) ‹_›
      | (go_ret; exact ⟨ret_b (third_next _), Below.refl _ _⟩)
end Go.Proofs.Ytgodagidkfflfaa
