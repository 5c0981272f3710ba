/-
  Numbers of bytes (layer 1's Number), walked over any slice that reads as bytes.
-/
import Derived.Test.YtinacnkddjelhaaBytesAt
namespace Go.Proofs.Ytinacnkddjelhaa
open Go.RowKit

namespace Wd
/-- The number whose lowest byte stands first. -/
def num : List Int → Int
  | [] => 0
  | b :: r => b + 256 * num r
def Bytes8 (xs : List Int) : Prop := ∀ x, x ∈ xs → 0 ≤ x ∧ x ≤ 255

theorem Bytes8.at_ {xs : List Int} (h : Bytes8 xs) {i : Nat} (hi : i < xs.length) : 0 ≤ xs.getD i 0 ∧ xs.getD i 0 ≤ 255 := by
  have : xs.getD i 0 = xs[i] := by simp [List.getD, hi]
  rw [this]
  exact h _ (List.getElem_mem hi)

theorem num_append (l : List Int) (b : Int) : num (l ++ [b]) = num l + b * 2 ^ (l.length * 8) := by
  induction l with
  | nil => simp [num]
  | cons x r ih =>
    have e : ((2 : Int) ^ ((r.length + 1) * 8)) = 256 * 2 ^ (r.length * 8) := by
      rw [Nat.add_mul, Int.pow_add, Int.mul_comm]; rfl
    show x + 256 * num (r ++ [b]) = x + 256 * num r + b * 2 ^ ((r.length + 1) * 8)
    rw [ih, e, Int.mul_add, Int.mul_left_comm b 256, Int.add_assoc]

theorem num_bounds (l : List Int) (h : Bytes8 l) : 0 ≤ num l ∧ num l + 1 ≤ 2 ^ (l.length * 8) := by
  induction l with
  | nil => exact ⟨by decide, by decide⟩
  | cons x r ih =>
    have hx := h x (List.mem_cons_self ..)
    have hr := ih (fun y hy => h y (List.mem_cons_of_mem _ hy))
    have e : ((2 : Int) ^ ((r.length + 1) * 8)) = 256 * 2 ^ (r.length * 8) := by
      rw [Nat.add_mul, Int.pow_add, Int.mul_comm]; rfl
    show 0 ≤ x + 256 * num r ∧ x + 256 * num r + 1 ≤ 2 ^ ((r.length + 1) * 8)
    rw [e]
    omega

theorem take_snoc (xs : List Int) (k : Nat) (h : k < xs.length) : xs.take (k + 1) = xs.take k ++ [xs.getD k 0] := by
  rw [List.take_succ_eq_append_getElem h]
  simp [List.getD, h]

theorem take_bytes {xs : List Int} (h : Bytes8 xs) (k : Nat) : Bytes8 (xs.take k) := fun x hx => h x (List.mem_of_mem_take hx)

theorem drop_bytes {xs : List Int} (h : Bytes8 xs) (k : Nat) : Bytes8 (xs.drop k) := fun x hx => h x (List.mem_of_mem_drop hx)

theorem num_small (l : List Int) (h : Bytes8 l) (hl : l.length ≤ 8) : num l ≤ 18446744073709551615 := by
  have h1 := (num_bounds l h).2
  have h2 : 2 ^ (l.length * 8) ≤ 2 ^ 64 := Nat.pow_le_pow_right (by decide) (by omega)
  have h3 : ((2 : Int) ^ (l.length * 8)) = ((2 ^ (l.length * 8) : Nat) : Int) := by simp
  omega

theorem wrap_next (x b : Int) (hx : 0 ≤ x) (hb : 0 ≤ b) (hb1 : b ≤ 255) (h : b + 256 * x ≤ 18446744073709551615) :
    IntKind.u64.wrap (IntKind.u64.wrap (x * 256) + IntKind.u64.wrap b) = b + 256 * x := by
  rw [IntKind.wrap_u64, IntKind.wrap_u64, IntKind.wrap_u64]
  omega

theorem drop_num (xs : List Int) (k : Nat) (h : k < xs.length) : num (xs.drop k) = xs.getD k 0 + 256 * num (xs.drop (k + 1)) := by
  rw [List.drop_eq_getElem_cons h]
  simp [num, List.getD, h]

/-- The next byte laid over the number so far. -/
theorem or_step (x b : Int) (k : Nat) (hk : k < 8) (hx : 0 ≤ x) (hx1 : x + 1 ≤ 2 ^ (k * 8)) (hb : 0 ≤ b) (hb1 : b ≤ 255) :
    b * 2 ^ (k * 8) ≤ 18446744073709551615 ∧ 0 ≤ b * 2 ^ (k * 8) ∧ bits .or .u64 x (b * 2 ^ (k * 8)) = x + b * 2 ^ (k * 8) := by
  have hp : 2 ^ (k * 8) ≤ 2 ^ 56 := Nat.pow_le_pow_right (by decide) (by omega)
  have hpos : 0 < 2 ^ (k * 8) := Nat.two_pow_pos _
  obtain ⟨a, rfl⟩ := Int.eq_ofNat_of_zero_le hx
  obtain ⟨c, rfl⟩ := Int.eq_ofNat_of_zero_le hb
  have e : (c : Int) * 2 ^ (k * 8) = ((2 ^ (k * 8) * c : Nat) : Int) := by rw [Int.natCast_mul, Int.mul_comm]; simp
  have hle : 2 ^ (k * 8) * c ≤ 2 ^ 56 * 255 := Nat.mul_le_mul hp (by omega)
  have ha : a < 2 ^ (k * 8) := by
    have : ((a : Int) + 1) ≤ ((2 ^ (k * 8) : Nat) : Int) := by simpa using hx1
    omega
  rw [e]
  refine ⟨by omega, by omega, ?_⟩
  rw [u64_or_nat a _ (by omega) (by omega), Nat.or_comm, ← Nat.two_pow_add_eq_or_of_lt ha]
  omega
theorem wrap_shl (b : Int) (k : Nat) (hb : 0 ≤ b) (hb1 : b ≤ 255) (h0 : 0 ≤ b * 2 ^ (k * 8)) (h1 : b * 2 ^ (k * 8) ≤ 18446744073709551615) :
    IntKind.u64.wrap (IntKind.u64.wrap b * 2 ^ (k * 8)) = b * 2 ^ (k * 8) := by
  rw [IntKind.wrap_u64, IntKind.wrap_u64, Int.emod_eq_of_lt hb (by omega)]
  exact Int.emod_eq_of_lt h0 (by omega)
end Wd

set_option maxHeartbeats 400000 in
theorem number_zero (A : Option Addr) (cap : Nat) (w : World) :
    Calls Try.prog 35 #[.slice A 0 cap] w fun e w' => e = .returned (.int .u64 0) ∧ w = w' := by
  go_enter Try.func35, Try.ntmps35
  go_wp2
  refine wp_loop_rounds 1 ?_
  rw [rounds_succ]
  go_wp2
  go_ret
  exact ⟨rfl, rfl⟩

set_option maxHeartbeats 400000 in
theorem number_short (b off cap : Nat) (xs : List Int) (w : World) (h8 : Wd.Bytes8 xs) (hm : xs.length ≤ 8)
    (hc : ∀ i, i < xs.length → w.cell? ⟨b, off + i, none⟩ = some (.int .u8 (xs.getD i 0))) :
    Calls Try.prog 35 #[.slice (some ⟨b, off, none⟩) xs.length cap] w fun e w' => e = .returned (.int .u64 (Wd.num (xs.take 8))) ∧ w = w' := by
  go_enter Try.func35, Try.ntmps35
  go_wp2
  go_loop [3, 8] (fun v i => ∃ k : Nat, k ≤ xs.length ∧ i = .int .i64 k ∧ v = .int .u64 (Wd.num (xs.take k))) (fun _ i => xs.length - (intOf i).toNat)
  case atStart => exact ⟨0, by omega, rfl, rfl⟩
  case round =>
    obtain ⟨k, hk, rfl, rfl⟩ := hrel
    by_cases hlt : k < xs.length
    · have hcell := hc k (by omega)
      have hb := h8.at_ (show k < xs.length by omega)
      obtain ⟨hb0, hb1⟩ := hb
      have hl : (xs.take k).length = k := by rw [List.length_take]; omega
      have hn := Wd.num_bounds _ (Wd.take_bytes h8 k)
      rw [hl] at hn
      obtain ⟨ho1, ho2, ho3⟩ := Wd.or_step _ _ k (by omega) hn.1 hn.2 hb0 hb1
      have hstep : Wd.num (xs.take (k + 1)) = Wd.num (xs.take k) + xs.getD k 0 * 2 ^ (k * 8) := by
        rw [Wd.take_snoc xs k (by omega), Wd.num_append, hl]
      have H1 := Lib.hid ho3
      have H2 := Lib.hid hstep
      obtain ⟨hn0, hn1⟩ := hn
      have HN := Lib.hid hn1
      have H3 := Lib.hid ho1
      have H4 := Lib.hid ho2
      clear ho3 hstep hl hn1 ho1 ho2
      have hxl : k < xs.length := by omega
      have H5 := Lib.hid h8
      have H6 := Lib.hid hc
      clear h8 hc
      go_wp2
      go_round
      case rel =>
        refine ⟨k + 1, by omega, by go_num, ?_⟩
        rw [H2.out, ← H1.out]
        have e1 : xs.getD k 0 = xs[k] := by simp [List.getD, hxl]
        have e2 := Wd.wrap_shl (xs.getD k 0) k hb0 hb1 H4.out H3.out
        rw [e1] at e2 ⊢
        rw [e2]
      case measure => simp [intOf]; omega
    · have hkn : Wd.num (xs.take 8) = Wd.num (xs.take k) := by
        rw [List.take_of_length_le (show xs.length ≤ 8 by omega), List.take_of_length_le (show xs.length ≤ k by omega)]
      have HK := Lib.hid hkn
      clear hkn
      go_wp2
      go_ret
      exact ⟨by rw [HK.out]; rfl, rfl⟩

set_option maxHeartbeats 400000 in
theorem number_long (b off cap : Nat) (xs : List Int) (w : World) (h8 : Wd.Bytes8 xs) (hm : 8 < xs.length)
    (hc : ∀ i, i < xs.length → w.cell? ⟨b, off + i, none⟩ = some (.int .u8 (xs.getD i 0))) :
    Calls Try.prog 35 #[.slice (some ⟨b, off, none⟩) xs.length cap] w fun e w' => e = .returned (.int .u64 (Wd.num (xs.take 8))) ∧ w = w' := by
  go_enter Try.func35, Try.ntmps35
  go_wp2
  go_loop [3, 8] (fun v i => ∃ k : Nat, k ≤ 8 ∧ i = .int .i64 k ∧ v = .int .u64 (Wd.num (xs.take k))) (fun _ i => 8 - (intOf i).toNat)
  case atStart => exact ⟨0, by omega, rfl, rfl⟩
  case round =>
    obtain ⟨k, hk, rfl, rfl⟩ := hrel
    by_cases hlt : k < 8
    · have hcell := hc k (by omega)
      have hb := h8.at_ (show k < xs.length by omega)
      obtain ⟨hb0, hb1⟩ := hb
      have hl : (xs.take k).length = k := by rw [List.length_take]; omega
      have hn := Wd.num_bounds _ (Wd.take_bytes h8 k)
      rw [hl] at hn
      obtain ⟨ho1, ho2, ho3⟩ := Wd.or_step _ _ k (by omega) hn.1 hn.2 hb0 hb1
      have hstep : Wd.num (xs.take (k + 1)) = Wd.num (xs.take k) + xs.getD k 0 * 2 ^ (k * 8) := by
        rw [Wd.take_snoc xs k (by omega), Wd.num_append, hl]
      have H1 := Lib.hid ho3
      have H2 := Lib.hid hstep
      obtain ⟨hn0, hn1⟩ := hn
      have HN := Lib.hid hn1
      have H3 := Lib.hid ho1
      have H4 := Lib.hid ho2
      clear ho3 hstep hl hn1 ho1 ho2
      have hxl : k < xs.length := by omega
      have H5 := Lib.hid h8
      have H6 := Lib.hid hc
      clear h8 hc
      go_wp2
      go_round
      case rel =>
        refine ⟨k + 1, by omega, by go_num, ?_⟩
        rw [H2.out, ← H1.out]
        have e1 : xs.getD k 0 = xs[k] := by simp [List.getD, hxl]
        have e2 := Wd.wrap_shl (xs.getD k 0) k hb0 hb1 H4.out H3.out
        rw [e1] at e2 ⊢
        rw [e2]
      case measure => simp [intOf]; omega
    · have hkn : Wd.num (xs.take 8) = Wd.num (xs.take k) := by
        rw [show k = 8 by omega]
      have HK := Lib.hid hkn
      clear hkn
      go_wp2
      go_ret
      exact ⟨by rw [HK.out]; rfl, rfl⟩

/-- Number, over whatever slice that reads as bytes. -/
theorem number_any (v : Value) (xs : List Int) (w : World) (h8 : Wd.Bytes8 xs) (h : BytesAt w v xs) :
    Calls Try.prog 35 #[v] w fun e w' => e = .returned (.int .u64 (Wd.num (xs.take 8))) ∧ w = w' := by
  obtain ⟨A, cap, rfl, h⟩ := h
  by_cases hp : 0 < xs.length
  · obtain ⟨b, off, rfl, _, hc⟩ := h hp
    by_cases hl : xs.length ≤ 8
    · exact number_short b off cap xs w h8 hl hc
    · exact number_long b off cap xs w h8 (by omega) hc
  · have hx : xs = [] := List.eq_nil_of_length_eq_zero (by omega)
    subst hx
    exact number_zero A cap w

end Go.Proofs.Ytinacnkddjelhaa
