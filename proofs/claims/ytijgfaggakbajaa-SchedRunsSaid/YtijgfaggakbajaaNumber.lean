/-
  Numbers of bytes (layer 1's Number), walked over any slice that reads as bytes.
-/
import Derived.Test.YtijgfaggakbajaaBytesAt
import Derived.Test.YtijgfaggakbajaaNumMath
namespace Go.Proofs.Ytijgfaggakbajaa
open Go.RowKit

set_option maxHeartbeats 400000 in
theorem number_zero (A : Option Addr) (cap : Nat) (w : World) :
    Calls Try.prog 89 #[.slice A 0 cap] w fun e w' => e = .returned (.int .u64 0) ∧ w = w' := by
  go_enter Try.func89, Try.ntmps89
  go_wp2
  refine wp_loop_rounds 1 ?_
  rw [rounds_succ]
  go_wp2
  go_ret
  exact ⟨rfl, rfl⟩

set_option maxHeartbeats 400000 in
theorem number_short (b off cap : Nat) (xs : List Int) (w : World) (h8 : Wd.Bytes8 xs) (hm : xs.length ≤ 8)
    (hc : ∀ i, i < xs.length → w.cell? ⟨b, off + i, none⟩ = some (.int .u8 (xs.getD i 0))) :
    Calls Try.prog 89 #[.slice (some ⟨b, off, none⟩) xs.length cap] w fun e w' => e = .returned (.int .u64 (Wd.num (xs.take 8))) ∧ w = w' := by
  go_enter Try.func89, Try.ntmps89
  go_wp2
  go_loop [3, 8] (fun v i => ∃ k : Nat, k ≤ xs.length ∧ i = .int .i64 k ∧ v = .int .u64 (Wd.num (xs.take k))) (fun _ i => xs.length - (intOf i).toNat)
  case atStart => exact ⟨0, by omega, rfl, rfl⟩
  case round =>
    obtain ⟨k, hk, rfl, rfl⟩ := hrel
    by_cases hlt : k < xs.length
    · have hcell := hc k (by omega)
      have hb := h8.at_ (show k < xs.length by omega)
      obtain ⟨hb0, hb1⟩ := hb
      have hl : (xs.take k).length = k := by rw [List.length_take]; omega
      have hn := Wd.num_bounds _ (Wd.take_bytes h8 k)
      rw [hl] at hn
      obtain ⟨ho1, ho2, ho3⟩ := Wd.or_step _ _ k (by omega) hn.1 hn.2 hb0 hb1
      have hstep : Wd.num (xs.take (k + 1)) = Wd.num (xs.take k) + xs.getD k 0 * 2 ^ (k * 8) := by
        rw [Wd.take_snoc xs k (by omega), Wd.num_append, hl]
      have H1 := Lib.hid ho3
      have H2 := Lib.hid hstep
      obtain ⟨hn0, hn1⟩ := hn
      have HN := Lib.hid hn1
      have H3 := Lib.hid ho1
      have H4 := Lib.hid ho2
      clear ho3 hstep hl hn1 ho1 ho2
      have hxl : k < xs.length := by omega
      have H5 := Lib.hid h8
      have H6 := Lib.hid hc
      clear h8 hc
      go_wp2
      go_round
      case rel =>
        refine ⟨k + 1, by omega, by go_num, ?_⟩
        rw [H2.out, ← H1.out]
        have e1 : xs.getD k 0 = xs[k] := by simp [List.getD, hxl]
        have e2 := Wd.wrap_shl (xs.getD k 0) k hb0 hb1 H4.out H3.out
        rw [e1] at e2 ⊢
        rw [e2]
      case measure => simp [intOf]; omega
    · have hkn : Wd.num (xs.take 8) = Wd.num (xs.take k) := by
        rw [List.take_of_length_le (show xs.length ≤ 8 by omega), List.take_of_length_le (show xs.length ≤ k by omega)]
      have HK := Lib.hid hkn
      clear hkn
      go_wp2
      go_ret
      exact ⟨by rw [HK.out]; rfl, rfl⟩

set_option maxHeartbeats 400000 in
theorem number_long (b off cap : Nat) (xs : List Int) (w : World) (h8 : Wd.Bytes8 xs) (hm : 8 < xs.length)
    (hc : ∀ i, i < xs.length → w.cell? ⟨b, off + i, none⟩ = some (.int .u8 (xs.getD i 0))) :
    Calls Try.prog 89 #[.slice (some ⟨b, off, none⟩) xs.length cap] w fun e w' => e = .returned (.int .u64 (Wd.num (xs.take 8))) ∧ w = w' := by
  go_enter Try.func89, Try.ntmps89
  go_wp2
  go_loop [3, 8] (fun v i => ∃ k : Nat, k ≤ 8 ∧ i = .int .i64 k ∧ v = .int .u64 (Wd.num (xs.take k))) (fun _ i => 8 - (intOf i).toNat)
  case atStart => exact ⟨0, by omega, rfl, rfl⟩
  case round =>
    obtain ⟨k, hk, rfl, rfl⟩ := hrel
    by_cases hlt : k < 8
    · have hcell := hc k (by omega)
      have hb := h8.at_ (show k < xs.length by omega)
      obtain ⟨hb0, hb1⟩ := hb
      have hl : (xs.take k).length = k := by rw [List.length_take]; omega
      have hn := Wd.num_bounds _ (Wd.take_bytes h8 k)
      rw [hl] at hn
      obtain ⟨ho1, ho2, ho3⟩ := Wd.or_step _ _ k (by omega) hn.1 hn.2 hb0 hb1
      have hstep : Wd.num (xs.take (k + 1)) = Wd.num (xs.take k) + xs.getD k 0 * 2 ^ (k * 8) := by
        rw [Wd.take_snoc xs k (by omega), Wd.num_append, hl]
      have H1 := Lib.hid ho3
      have H2 := Lib.hid hstep
      obtain ⟨hn0, hn1⟩ := hn
      have HN := Lib.hid hn1
      have H3 := Lib.hid ho1
      have H4 := Lib.hid ho2
      clear ho3 hstep hl hn1 ho1 ho2
      have hxl : k < xs.length := by omega
      have H5 := Lib.hid h8
      have H6 := Lib.hid hc
      clear h8 hc
      go_wp2
      go_round
      case rel =>
        refine ⟨k + 1, by omega, by go_num, ?_⟩
        rw [H2.out, ← H1.out]
        have e1 : xs.getD k 0 = xs[k] := by simp [List.getD, hxl]
        have e2 := Wd.wrap_shl (xs.getD k 0) k hb0 hb1 H4.out H3.out
        rw [e1] at e2 ⊢
        rw [e2]
      case measure => simp [intOf]; omega
    · have hkn : Wd.num (xs.take 8) = Wd.num (xs.take k) := by
        rw [show k = 8 by omega]
      have HK := Lib.hid hkn
      clear hkn
      go_wp2
      go_ret
      exact ⟨by rw [HK.out]; rfl, rfl⟩

/-- Number, over whatever slice that reads as bytes. -/
theorem number_any (v : Value) (xs : List Int) (w : World) (h8 : Wd.Bytes8 xs) (h : BytesAt w v xs) :
    Calls Try.prog 89 #[v] w fun e w' => e = .returned (.int .u64 (Wd.num (xs.take 8))) ∧ w = w' := by
  obtain ⟨A, cap, rfl, h⟩ := h
  by_cases hp : 0 < xs.length
  · obtain ⟨b, off, rfl, _, hc⟩ := h hp
    by_cases hl : xs.length ≤ 8
    · exact number_short b off cap xs w h8 hl hc
    · exact number_long b off cap xs w h8 (by omega) hc
  · have hx : xs = [] := List.eq_nil_of_length_eq_zero (by omega)
    subst hx
    exact number_zero A cap w

end Go.Proofs.Ytijgfaggakbajaa
