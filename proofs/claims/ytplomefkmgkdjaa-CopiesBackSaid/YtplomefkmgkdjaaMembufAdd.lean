/-
  Layer 2's access by its kind, walked: what adds.
-/
import Derived.Test.YtplomefkmgkdjaaMembufCas
import Derived.Deep.RegionHeld3
namespace Go.Proofs.Ytplomefkmgkdjaa
open Go.RowKit

/-- A call that answered V, D and the bytes xs, and left the buffer with the bytes m. -/
def Answered (V : Nat) (D : Bool) (xs : List Int) (g h : Nat) (m : Nat → Nat) (n : Nat) (c : Int) (w : World) (e : Ending) (w' : World) : Prop :=
  ∃ s, e = .returned (.agg #[.int .u64 V, .bool D, s]) ∧ BytesAt w' s xs ∧ Stored g h m n c w w'

/-- An access was boxed, and a place for the answer made: what stands where. -/
structure Boxed (w W : World) (K P N V U : Int) (s : Value) : Prop where
  c0 : W.cell? ⟨w.heap.size, 0, none⟩ = some (.int .i64 K)
  c1 : W.cell? ⟨w.heap.size, 1, none⟩ = some (.int .i64 P)
  c2 : W.cell? ⟨w.heap.size, 2, none⟩ = some (.int .i64 N)
  c3 : W.cell? ⟨w.heap.size, 3, none⟩ = some (.int .u64 V)
  c4 : W.cell? ⟨w.heap.size, 4, none⟩ = some (.int .u64 U)
  c5 : W.cell? ⟨w.heap.size, 5, none⟩ = some s
  a0 : W.cell? ⟨w.heap.size + 1, 0, none⟩ = some (.int .u64 0)
  a1 : W.cell? ⟨w.heap.size + 1, 1, none⟩ = some (.bool false)
  a2 : W.cell? ⟨w.heap.size + 1, 2, none⟩ = some (.slice none 0 0)
  f0 : W.frozen? ⟨w.heap.size + 1, 0, none⟩ = false
  f1 : W.frozen? ⟨w.heap.size + 1, 1, none⟩ = false
  f2 : W.frozen? ⟨w.heap.size + 1, 2, none⟩ = false
  size : W.heap.size = w.heap.size + 2
  below : Below w.heap.size w W

theorem boxed (w : World) (K P N V U : Int) (s : Value) :
    Boxed w ((w.alloc (.cells #[.int .i64 K, .int .i64 P, .int .i64 N, .int .u64 V, .int .u64 U, s] 30)).alloc (.cells #[.int .u64 0, .bool false, .slice none 0 0] 39)) K P N V U s := by
  refine ⟨?_, ?_, ?_, ?_, ?_, ?_, ?_, ?_, ?_, ?_, ?_, ?_, ?_, ((Below.refl _ _).alloc (Nat.le_refl _) _).alloc (by simp) _⟩
  all_goals go_simp

theorem Stored.drew {g h n : Nat} {m : Nat → Nat} {c : Int} {w w1 : World} (hs : Stored g h m n c w w1) : Stored g h m n c w w1.drew := ⟨hs.1.drew, hs.2.drew⟩

set_option maxHeartbeats 1000000 in
theorem access_add {w : World} {g h n : Nat} {m : Nat → Nat} {c : Int} (B : Buf w g h m n c) (a v : Nat) (hk : a % 8 = 0) (ha : a / 8 < n) (u : Int) (s : Value) :
    Calls Try.prog 37 #[.pointer (some ⟨g, 0, none⟩), .agg #[.int .i64 3, .int .i64 a, .int .i64 8, .int .u64 v, .int .u64 u, s]] w
      (Answered (Mb.nm m a 8) false [] g h (Mb.put m a 8 (Mb.nm m a 8 + v)) n c w) := by
  have hg := B.g_lt
  have hh := B.h_lt
  have HX := boxed w 3 a 8 v u s
  have HB0 := (B.alloc (.cells #[.int .i64 3, .int .i64 a, .int .i64 8, .int .u64 v, .int .u64 u, s] 30)).alloc (.cells #[.int .u64 0, .bool false, .slice none 0 0] 39)
  have hf := B.few
  have hi1 : (a : Int) / 8 < (n : Int) := by omega
  have hi0 : 0 ≤ (a : Int) / 8 := by omega
  have hi2 : ((a : Int) / 8).toNat = a / 8 := by omega
  have hi3 : IntKind.i64.wrap ((a : Int) / 8) = (a : Int) / 8 := IntWalk.i64_in _ (by omega)
  go_enter Try.func37, Try.ntmps37
  go_wp2
  generalize (w.alloc (.cells #[.int .i64 3, .int .i64 (a : Int), .int .i64 8, .int .u64 (v : Int), .int .u64 u, s] 30)).alloc (.cells #[.int .u64 0, .bool false, .slice none 0 0] 39) = W at HX HB0 ⊢
  have hs := HB0.slice
  have n0 : ¬ h = g := fun e => HB0.ne e.symm
  have n1 : ¬ h = w.heap.size := by omega
  have n3 : ¬ h = w.heap.size + 1 := by omega
  have n4 : ¬ w.heap.size + 1 = h := by omega
  have n5 : ¬ w.heap.size + 1 = g := by omega
  obtain ⟨c0, c1, c2, c3, c4, c5, a0, a1, a2, f0, f1, f2, hz, hb⟩ := HX
  go_region_held3 (fun w' => w'.cell? ⟨g, 0, none⟩ = some (.slice (some ⟨h, 0, none⟩) n n) ∧ w'.cell? ⟨w.heap.size, 1, none⟩ = some (.int .i64 (a : Int)) ∧ w'.cell? ⟨w.heap.size, 3, none⟩ = some (.int .u64 (v : Int)))
    (go_keep)
    (first | (go_at_call 44; refine (add64 h (a / 8) _ _ _ (HB0.drew.word ha) (HB0.drew.word_free _)).mono ?_; rintro e w' ⟨rfl, rfl⟩))
  go_wp2
  refine bodyPost_ret (v := .agg #[.int .u64 (Mb.nm m a 8 : Nat), .bool false, .slice none 0 0]) ?_ rfl ?_
  · simp [results, Try.results37, go_sem, a0, a1, a2]
    rw [Mb.wd_nm m a hk, IntKind.wrap_u64, IntKind.wrap_u64]
    have := Mb.nm_lt HB0.bytes a 8
    omega
  · refine ⟨_, rfl, BytesAt.nil _, ?_⟩
    have e : IntKind.u64.wrap (((Mb.wd m (a / 8) : Nat) : Int) + (v : Int)) = ((Mb.wd (Mb.put m a 8 (Mb.nm m a 8 + v)) (a / 8) : Nat) : Int) := by
      rw [Mb.wd_put_mod _ _ _ hk, Mb.wd_nm m a hk, IntKind.wrap_u64]
      omega
    rw [e]
    exact ((((HB0.stored a 8 (Mb.nm m a 8 + v) (by omega)).from_ (Touch.of_below hb)).setNew hg hh (Nat.le_succ _) _).setNew hg hh (Nat.le_succ _) _).setNew hg hh (Nat.le_succ _) _ |>.drew
end Go.Proofs.Ytplomefkmgkdjaa
