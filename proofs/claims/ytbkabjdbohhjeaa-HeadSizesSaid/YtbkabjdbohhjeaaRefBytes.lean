/-
  The plain answer to layer 1's Bytes, walked.
-/
import Derived.Test.YtbkabjdbohhjeaaBytesMem
namespace Go.Proofs.Ytbkabjdbohhjeaa
open Go.RowKit

set_option maxHeartbeats 400000 in
theorem refBytes_no (v n : Int) (w : World) (h : n < 0 ∨ 8 < n) :
    Calls Try.prog 22 #[.int .u64 v, .int .i64 n] w fun e w' => e = .returned (.slice none 0 0) ∧ w = w' := by
  rcases h with h | h
  · go_enter Try.func22, Try.ntmps22
    go_wp2
    go_ret
    exact ⟨rfl, rfl⟩
  · have h' : 0 ≤ n := by omega
    go_enter Try.func22, Try.ntmps22
    go_wp2
    go_ret
    exact ⟨rfl, rfl⟩

theorem quo_u64 (x : Int) (h0 : 0 ≤ x) (h1 : x ≤ 18446744073709551615) : IntKind.u64.wrap (x.tdiv 256) = x / 256 := by
  rw [Int.tdiv_eq_ediv_of_nonneg h0, IntKind.wrap_u64]
  omega

theorem div_next (v : Int) (k : Nat) : v / 2 ^ (k * 8) / 256 = v / 2 ^ ((k + 1) * 8) := by
  have e : ((2 : Int) ^ ((k + 1) * 8)) = 2 ^ (k * 8) * 256 := by
    rw [Nat.add_mul, Int.pow_add]; rfl
  rw [e, Int.ediv_ediv_of_nonneg (Int.pow_nonneg (by decide))]

set_option maxHeartbeats 400000 in
theorem refBytes_own (v : Int) (n : Nat) (w : World) (hv : 0 ≤ v) (hv1 : v ≤ 18446744073709551615) (hn : n ≤ 8) :
    Calls Try.prog 22 #[.int .u64 v, .int .i64 n] w fun e w' => ∃ x, e = .returned x ∧ Owns w.heap.size w' x (Wd.bs v n) ∧ Below w.heap.size w w' := by
  obtain ⟨i0, hi, hz0, hz1, hz2⟩ := info_parts infoU8
  go_enter Try.func22, Try.ntmps22
  go_wp2
  go_loopw [0, 5, 6] (fun x r i wr => ∃ k : Nat, k ≤ n ∧ i = .int .i64 k ∧ x = .int .u64 (v / 2 ^ (k * 8)) ∧ Below w.heap.size w wr ∧ wr.ownsRow w.heap.size 5 1 r k ((Wd.bs v k).map (Value.int .u8))) (fun _ _ i _ => n - (intOf i).toNat)
  case atStart =>
    exact ⟨0, by omega, rfl, by simp, Below.refl _ _, World.ownsRow_nil _ _ _ _⟩
  case round =>
    obtain ⟨k, hk, rfl, rfl, hbel, hown⟩ := hrel
    by_cases hlt : k < n
    · have hpos : 0 ≤ v / 2 ^ (k * 8) := Int.ediv_nonneg hv (Int.pow_nonneg (by decide))
      have hsz := hbel.size
      go_wp2_with (at_builtin; refine wpList_append_own _ rfl _ _ 40 rfl w.heap.size 5 i0 (.int .u8 0) 1 1 Try.underlying40 hi hz0 hz1 hz2 rfl (by decide) _ _ _ rfl (hown.alloc _) ⟨wr.heap.size, 0, none⟩ 1 1 [.int .u8 (v / 2 ^ (k * 8) % 256)] rfl rfl ?c1 ?c2 ?c3 ?c4 ?c5 ?_)
      case c1 =>
        intro j u hj
        match j, hj with
        | 0, hj => simp at hj; subst hj; simp [Addr.add]
      case c2 => intro u hu; simp at hu; subst hu; rfl
      case c3 => unfold maxLen; omega
      case c4 => omega
      case c5 => simp; omega
      · intro v' w1 hown' hgrow _
        have hown2 : w1.ownsRow w.heap.size 5 1 v' (k + 1) ((Wd.bs v (k + 1)).map (Value.int .u8)) := by
          rw [bs_snoc, List.map_append]; exact hown'
        have hbel2 : Below w.heap.size w w1 := (hbel.alloc hsz _).grown hgrow (by simp; omega) (fun g hg => (hown.lt g hg).1)
        clear hown' hgrow hown hbel
        go_wp2
        go_roundw
        case rel => exact ⟨k + 1, by omega, by go_num, by rw [← div_next, quo_u64 _ hpos (by have := Int.ediv_le_self (2 ^ (k * 8)) hv; omega)], hbel2, hown2⟩
        case measure => simp [intOf]; omega
    · have hkn : k = n := by omega
      have HK := Lib.hid hkn
      clear hkn
      go_wp2
      go_ret
      have hkn := HK.out
      subst hkn
      exact ⟨_, rfl, by unfold Owns; rw [Wd.bs_length]; exact hown, hbel⟩

theorem refBytes_yes (v : Int) (n : Nat) (w : World) (hv : 0 ≤ v) (hv1 : v ≤ 18446744073709551615) (hn : n ≤ 8) :
    Calls Try.prog 22 #[.int .u64 v, .int .i64 n] w (MadeBytes (Wd.bs v n) w) :=
  (refBytes_own v n w hv hv1 hn).mono fun _ _ ⟨x, he, hx, hb⟩ => ⟨x, he, hx.bytes, hb⟩

end Go.Proofs.Ytbkabjdbohhjeaa
