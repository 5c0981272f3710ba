/-
  Layer 2's reads and writes of one word's part: load, store; walked.
-/
import Derived.Test.YtijgfaggakbajaaMembufMem
namespace Go.Proofs.Ytijgfaggakbajaa
open Go.RowKit

/-- A call that answered a number, and drew at most. -/
def Told (k : IntKind) (x : Int) (w : World) (e : Ending) (w' : World) : Prop := e = .returned (.int k x) ∧ ∃ j, w' = w.drewN j

set_option maxHeartbeats 400000 in
theorem load_any {w : World} {g h n : Nat} {m : Nat → Nat} {c : Int} (B : Buf w g h m n c) (a k : Nat) (hk : a % 8 + k ≤ 8) (ha : a / 8 < n) :
    Calls Try.prog 63 #[.pointer (some ⟨g, 0, none⟩), .int .i64 a, .int .i64 k] w (Told .u64 (Mb.nm m a k : Nat) w) := by
  have hs := B.slice
  have hw := B.word ha
  have hx := Mb.wd_lt B.bytes (a / 8)
  have hf := B.few
  have HP := Lib.hid (Mb.part_nm B.bytes a k hk)
  have HB := Lib.hid B
  clear B
  go_enter Try.func63, Try.ntmps63
  go_wp2_with (first
    | (go_at_call 74; refine (load64 _ _ _ _ hw).mono ?_; rintro e w' ⟨rfl, rfl⟩)
    | (go_at_call 73; refine (part_any _ _ _ _ hx (by omega) (by omega)).mono ?_; rintro e w' ⟨rfl, j, rfl⟩; rw [HP.out]))
  go_ret
  exact ⟨rfl, _, rfl⟩

/-- What became of a world in which n bytes at a were stored: the buffer's bytes are others, all else is as it was. -/
def Stored (g h : Nat) (m : Nat → Nat) (n : Nat) (c : Int) (w w' : World) : Prop := Buf w' g h m n c ∧ Touch (Two g h) w w'

theorem Buf.stored {w : World} {g h n : Nat} {m : Nat → Nat} {c : Int} (B : Buf w g h m n c) (a k v : Nat) (hk : a % 8 + k ≤ 8) :
    Stored g h (Mb.put m a k v) n c w (w.setCell ⟨h, a / 8, none⟩ (.int .u64 (Mb.wd (Mb.put m a k v) (a / 8) : Nat))) :=
  ⟨B.setWord a k v hk, (Touch.refl _ w).setCell (.inr rfl) _⟩

set_option maxHeartbeats 400000 in
theorem store_whole {w : World} {g h n : Nat} {m : Nat → Nat} {c : Int} (B : Buf w g h m n c) (a v : Nat) (hk : a % 8 = 0) (ha : a / 8 < n) (hv : v < 18446744073709551616) :
    Calls Try.prog 78 #[.pointer (some ⟨g, 0, none⟩), .int .i64 a, .int .i64 8, .int .u64 v] w fun e w' => e = .returned (.tuple #[]) ∧ Stored g h (Mb.put m a 8 v) n c w w' := by
  have hs := B.slice
  have hw := B.word ha
  have hz := B.word_free (a / 8)
  have hf := B.few
  have HS := Lib.hid (B.stored a 8 v (by omega))
  have HP := Lib.hid (Mb.wd_put m a v hk hv)
  clear B hv hk
  go_enter Try.func78, Try.ntmps78
  go_wp2_with (first
    | (go_at_call 85; refine (store64 _ _ _ _ _ hw hz).mono ?_; rintro e w' ⟨rfl, rfl⟩))
  refine bodyPost_ret (results_none rfl _ _ _) rfl ⟨rfl, ?_⟩
  have hS := HS.out
  rw [HP.out] at hS
  exact hS

set_option maxHeartbeats 400000 in
theorem store_part {w : World} {g h n : Nat} {m : Nat → Nat} {c : Int} (B : Buf w g h m n c) (a k v : Nat) (hk8 : k < 8) (hk : a % 8 + k ≤ 8) (ha : a / 8 < n) :
    Calls Try.prog 78 #[.pointer (some ⟨g, 0, none⟩), .int .i64 a, .int .i64 k, .int .u64 v] w fun e w' => e = .returned (.tuple #[]) ∧ Stored g h (Mb.put m a k v) n c w w' := by
  have hs := B.slice
  have hw := B.word ha
  have hz := B.word_free (a / 8)
  have hf := B.few
  have hx := Mb.wd_lt B.bytes (a / 8)
  have HS := Lib.hid (B.stored a k v (by omega))
  have HP := Lib.hid (Mb.mix_wd B.bytes a k v hk)
  clear B
  go_enter Try.func78, Try.ntmps78
  go_wp2
  refine wp_loop_rounds 1 ?_
  rw [rounds_succ]
  go_wp2_with (first
    | (go_at_call 74; refine (load64 _ _ _ _ hw).mono ?_; rintro e w' ⟨rfl, rfl⟩)
    | (go_at_call 87; refine (mixed_any _ _ _ _ _ hx (by omega) hk).mono ?_; rintro e w' ⟨rfl, rfl⟩; rw [HP.out])
    | (go_at_call 86; refine (cas64 _ _ _ _ _ hw hz).mono ?_; rintro e w' ⟨rfl, rfl⟩))
  refine bodyPost_ret (results_none rfl _ _ _) rfl ⟨rfl, ?_⟩
  exact HS.out

/-- A store of n bytes, in whichever way. -/
theorem store_any {w : World} {g h n : Nat} {m : Nat → Nat} {c : Int} (B : Buf w g h m n c) (a k v : Nat) (hk : a % 8 + k ≤ 8) (ha : a / 8 < n) (hv : v < 18446744073709551616) :
    Calls Try.prog 78 #[.pointer (some ⟨g, 0, none⟩), .int .i64 a, .int .i64 k, .int .u64 v] w fun e w' => e = .returned (.tuple #[]) ∧ Stored g h (Mb.put m a k v) n c w w' := by
  by_cases h8 : k = 8
  · subst h8
    exact store_whole B a v (by omega) ha hv
  · exact store_part B a k v (by omega) hk ha
end Go.Proofs.Ytijgfaggakbajaa
