/-
  The statement on bytes and numbers (layer 1), walked.
-/
import Derived.Test.YtjjckhoolimkiaaDoorWordFixed
namespace Go.Proofs.YtjjckhoolimkiaaDoor
open Go.RowKit

theorem bs_bytes8 (v : Int) (n : Nat) : Wd.Bytes8 (Wd.bs v n) := by
  intro x hx
  unfold Wd.bs at hx
  obtain ⟨i, _, rfl⟩ := List.mem_map.1 hx
  omega

theorem num_bs (v : Int) (n : Nat) : Wd.num (Wd.bs v n) = v % 2 ^ (n * 8) := by
  induction n with
  | zero => simp [Wd.bs, Wd.num]
  | succ n ih =>
    rw [bs_snoc, Wd.num_append, Wd.bs_length, ih]
    have e : ((2 : Int) ^ ((n + 1) * 8)) = 2 ^ (n * 8) * 256 := by rw [Nat.add_mul, Int.pow_add]; rfl
    have hp : (0 : Int) < 2 ^ (n * 8) := Int.pow_pos (by decide)
    rw [e]
    have h1 := Int.mul_ediv_add_emod v (2 ^ (n * 8))
    have h3 := Int.emod_nonneg v (by omega : (2 : Int) ^ (n * 8) ≠ 0)
    have h4 := Int.emod_lt_of_pos v hp
    have h5 := Int.mul_ediv_add_emod (v / 2 ^ (n * 8)) 256
    generalize (2 : Int) ^ (n * 8) = P at *
    generalize v / P = q at *
    generalize v % P = r at *
    have h10 : P * q = P * (256 * (q / 256)) + P * (q % 256) := by rw [← Int.mul_add, h5]
    have h6 : v = P * 256 * (q / 256) + (r + q % 256 * P) := by
      rw [Int.mul_assoc, Int.mul_comm (q % 256)]
      omega
    have h7 : 0 ≤ q % 256 ∧ q % 256 ≤ 255 := by omega
    have h8 : 0 ≤ q % 256 * P := Int.mul_nonneg h7.1 (by omega)
    have h9 : q % 256 * P ≤ 255 * P := Int.mul_le_mul_of_nonneg_right h7.2 (by omega)
    rw [h6, Int.mul_add_emod_self_left]
    exact (Int.emod_eq_of_lt (by omega) (by omega)).symm

/-- A call that makes bytes: what the law needs of it, in one of two ways. -/
def Conv (xs : List Int) (w : World) (e : Ending) (w' : World) : Prop :=
  ∃ x, e = .returned x ∧ (convert 32 9 x).run Tryd.prog w' = .ok (.string (strOfNums xs)) w' ∧ BytesAt w' x xs ∧ Below w.heap.size w w'

/-- The bytes of an answer: those asked for, or none. -/
def bsOf (v n : Int) : List Int := if 0 ≤ n ∧ n ≤ 8 then Wd.bs v n.toNat else []

theorem bytes_conv (v n : Int) (w : World) :
    Calls Tryd.prog 16 #[.int .u64 v, .int .i64 n] w (Conv (bsOf v n) w) := by
  unfold bsOf
  by_cases h : 0 ≤ n ∧ n ≤ 8
  · rw [if_pos h]
    obtain ⟨k, rfl⟩ := Int.eq_ofNat_of_zero_le h.1
    exact (bytes_yes v k w (by omega)).mono fun _ _ ⟨x, he, hx, hb⟩ => ⟨x, he, hx.conv, hx, hb⟩
  · rw [if_neg h]
    exact (bytes_no v n w (by omega)).mono fun _ _ ⟨he, hw⟩ => ⟨_, he, (BytesAt.nil _).conv, BytesAt.nil _, by subst hw; exact Below.refl _ _⟩

theorem refBytes_conv (v n : Int) (w : World) (hv : 0 ≤ v) (hv1 : v ≤ 18446744073709551615) :
    Calls Tryd.prog 17 #[.int .u64 v, .int .i64 n] w (Conv (bsOf v n) w) := by
  unfold bsOf
  by_cases h : 0 ≤ n ∧ n ≤ 8
  · rw [if_pos h]
    obtain ⟨k, rfl⟩ := Int.eq_ofNat_of_zero_le h.1
    exact (refBytes_yes v k w hv hv1 (by omega)).mono fun _ _ ⟨x, he, hx, hb⟩ => ⟨x, he, hx.conv, hx, hb⟩
  · rw [if_neg h]
    exact (refBytes_no v n w (by omega)).mono fun _ _ ⟨he, hw⟩ => ⟨_, he, (BytesAt.nil _).conv, BytesAt.nil _, by subst hw; exact Below.refl _ _⟩

theorem bsOf_8 (v : Int) : Wd.Bytes8 (bsOf v 8) := by
  unfold bsOf
  rw [if_pos (by omega)]
  exact bs_bytes8 _ _

theorem num_bsOf (v : Int) (hv : 0 ≤ v) (hv1 : v ≤ 18446744073709551615) : Wd.num ((bsOf v 8).take 8) = v := by
  unfold bsOf
  rw [if_pos (by omega), List.take_of_length_le (by rw [Wd.bs_length]; decide)]
  show Wd.num (Wd.bs v 8) = v
  rw [num_bs]
  exact Int.emod_eq_of_lt hv (by
    have : ((2 : Int) ^ (8 * 8)) = 18446744073709551616 := by decide
    omega)

set_option maxHeartbeats 1000000 in
theorem bytesLaw_any (v n : Int) (A : Option Addr) (cap : Nat) (xs : List Int) (w : World) (hT : TabAt 0 Lib.deBruijn64tab w) (hv : 0 ≤ v) (hv1 : v ≤ 18446744073709551615)
    (h8 : Wd.Bytes8 xs) (hx : BytesAt w (.slice A xs.length cap) xs) (hl : xs.length ≤ 9223372036854775807) :
    Calls Tryd.prog 5 #[.int .u64 v, .int .i64 n, .slice A xs.length cap] w (TrueBelow w) := by
  have H8 := Lib.hid h8
  have HV := Lib.hid (num_bsOf v hv hv1)
  clear h8
  by_cases hlen : xs.length ≤ 2000
  · go_enter Tryd.func5, Tryd.ntmps5
    go_wp2_with (go_at_call 7; refine (fixed_any _ hT).mono ?_; rintro e w' ⟨rfl, hb⟩; have hx' := hx.below hb)
    clear hx hT
    have hx1 := hx'.drew
    go_region_with (first
      | (go_at_call 17; refine (refBytes_conv _ _ _ hv hv1).mono ?_; rintro e w2 ⟨y, rfl, hd, hy, hb2⟩; have hc2 := (hz.below hb2).conv; have hx2 := (hx1.below hb1).below hb2)
      | (go_at_call 16; (with_reducible refine (bytes_conv v n _).mono ?_); rintro e w1 ⟨z, rfl, hc, hz, hb1⟩)
      | (go_at_call 16; (with_reducible refine (bytes_conv v 8 _).mono ?_); rintro e w3 ⟨z3, rfl, hc3, hz3, hb3⟩)
      | (go_at_call 18; (with_reducible refine (number_any _ _ _ H8.out hx2).mono ?_); rintro e w4 ⟨rfl, rfl⟩)
      | (go_at_call 19; (with_reducible refine (refNumber_any _ _ _ H8.out hx2).mono ?_); rintro e w4 ⟨rfl, rfl⟩)
      | (go_at_call 18; (with_reducible refine (number_any _ _ _ (bsOf_8 v) hz3).mono ?_); rintro e w4 ⟨rfl, rfl⟩; rw [HV.out]))
    all_goals
      go_wp2
      go_ret
      exact ⟨rfl, ((hb.drew.after hb1).after hb2).after hb3⟩
  · have hlen' : 2000 < xs.length := by omega
    clear hlen
    go_enter Tryd.func5, Tryd.ntmps5
    go_wp2_with (go_at_call 7; refine (fixed_any _ hT).mono ?_; rintro e w' ⟨rfl, hb⟩)
    go_ret
    exact ⟨rfl, hb⟩
end Go.Proofs.YtjjckhoolimkiaaDoor
