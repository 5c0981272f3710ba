/-
  Layer 1's Bytes, walked: what is made lies above what was there.
-/
import Derived.Test.YtijgfaggakbajaaBytesMem
namespace Go.Proofs.Ytijgfaggakbajaa
open Go.RowKit

set_option maxHeartbeats 400000 in
theorem bytes_no (v n : Int) (w : World) (h : n < 0 ∨ 8 < n) :
    Calls Try.prog 62 #[.int .u64 v, .int .i64 n] w fun e w' => e = .returned (.slice none 0 0) ∧ w = w' := by
  rcases h with h | h
  · go_enter Try.func62, Try.ntmps62
    go_wp2
    go_ret
    exact ⟨rfl, rfl⟩
  · have h' : 0 ≤ n := by omega
    go_enter Try.func62, Try.ntmps62
    go_wp2
    go_ret
    exact ⟨rfl, rfl⟩

set_option maxHeartbeats 400000 in
theorem bytes_yes (v : Int) (n : Nat) (w : World) (hn : n ≤ 8) :
    Calls Try.prog 62 #[.int .u64 v, .int .i64 n] w (MadeBytes (Wd.bs v n) w) := by
  have hmk := fun W => run_make_row' (P := Try.prog) 26 5 (.int .u8 0) 1 Try.underlying26 infoU8 rfl .i64 .i64 n (by omega) (by omega) W
  go_enter Try.func62, Try.ntmps62
  go_wp2
  go_loopw [6, 16] (fun _ i wr => ∃ k : Nat, k ≤ n ∧ i = .int .i64 k ∧ Below w.heap.size w wr ∧ wr.rowIs w.heap.size 5 n (fun j => if j < k then .int .u8 (v / 2 ^ (j * 8) % 256) else .int .u8 0)) (fun _ i _ => n - (intOf i).toNat)
  case atStart =>
    refine ⟨0, by omega, rfl, (Below.refl _ _).alloc (Nat.le_refl _) _, ?_⟩
    exact (World.rowIs_made w (.int .u8 0) n 5).congr (fun j _ => by simp)
  case round =>
    obtain ⟨k, hk, rfl, hbel, hrow⟩ := hrel
    by_cases hlt : k < n
    · have hcell := hrow.cell hlt
      have hfr := hrow.frozen k
      go_wp2
      go_roundw
      case rel =>
        refine ⟨k + 1, by omega, by go_num, hbel.setCell (Nat.le_refl _) _, (hrow.set k _).congr fun j _ => ?_⟩
        by_cases hj : j = k
        · subst hj; simp
        · have : (j < k + 1) = (j < k) := by apply propext; omega
          simp only [hj, this, if_false]
      case measure => simp [intOf]; omega
    · have hkn : k = n := by omega
      have HK := Lib.hid hkn
      clear hkn
      go_wp2
      go_ret
      have hkn := HK.out
      exact ⟨_, rfl, ⟨some ⟨w.heap.size, 0, none⟩, n, by rw [Wd.bs_length]; rfl, fun _ => ⟨w.heap.size, 0, rfl, hrow.lt, fun i hi => by
        rw [Wd.bs_length] at hi
        rw [Nat.zero_add, hrow.cell hi, if_pos (by omega), Wd.bs_getD v n i hi]⟩⟩, hbel⟩

end Go.Proofs.Ytijgfaggakbajaa
