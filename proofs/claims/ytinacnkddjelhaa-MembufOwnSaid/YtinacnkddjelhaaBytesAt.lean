/-
  Bytes of a number, numbers of bytes: layer 1's Bytes, walked. What is made lies above what was there; a slice that reads as a list of bytes is told by 'BytesAt'.
-/
import Derived.Test.YtinacnkddjelhaaRows
import Derived.WalkKit
import Derived.WalkSpells
import Derived.WalkLawsBesides
import Derived.Laws.Bits64b
import Derived.Laws.BitsAllLaws
import Derived.IntWalk
import Derived.Lib.Hide
import Derived.Deep.OwnRows
namespace Go.Proofs.Ytinacnkddjelhaa
open Go.RowKit

/-- One call behind another. -/
theorem _root_.Go.RowKit.Below.after {a b c : World} (h : Below a.heap.size a b) (k : Below b.heap.size b c) : Below a.heap.size a c := h.trans (k.mono h.size)

namespace Wd
/-- The n lowest bytes of v. -/
def bs (v : Int) (n : Nat) : List Int := (List.range n).map fun i => v / 2 ^ (i * 8) % 256
theorem bs_length (v : Int) (n : Nat) : (bs v n).length = n := by simp [bs]
theorem bs_getD (v : Int) (n i : Nat) (h : i < n) : (bs v n).getD i 0 = v / 2 ^ (i * 8) % 256 := by
  simp [bs, List.getD, h]
end Wd

/-- The slice value v reads as the bytes xs (an empty one may lie anywhere). -/
def BytesAt (w : World) (v : Value) (xs : List Int) : Prop :=
  ∃ A cap, v = .slice A xs.length cap ∧ (0 < xs.length → ∃ b off, A = some ⟨b, off, none⟩ ∧ b < w.heap.size ∧ ∀ i, i < xs.length → w.cell? ⟨b, off + i, none⟩ = some (.int .u8 (xs.getD i 0)))

theorem BytesAt.nil (w : World) : BytesAt w (.slice none 0 0) [] := ⟨none, 0, rfl, fun h => absurd h (by simp)⟩

theorem BytesAt.below {w w' : World} {v : Value} {xs : List Int} (h : BytesAt w v xs) (hb : Below w.heap.size w w') : BytesAt w' v xs := by
  obtain ⟨A, cap, hv, h⟩ := h
  refine ⟨A, cap, hv, fun hp => ?_⟩
  obtain ⟨b, off, h1, h3, h4⟩ := h hp
  exact ⟨b, off, h1, Nat.lt_of_lt_of_le h3 hb.size, fun i hi => (hb.cell (p := ⟨b, off + i, none⟩) h3).trans (h4 i hi)⟩

theorem BytesAt.drew {w : World} {v : Value} {xs : List Int} (h : BytesAt w v xs) : BytesAt w.drew v xs := h

theorem BytesAt.conv {w : World} {v : Value} {xs : List Int} (h : BytesAt w v xs) :
    (convert 22 9 v).run Try.prog w = .ok (.string (strOfNums xs)) w := by
  obtain ⟨A, cap, rfl, h⟩ := h
  by_cases hp : 0 < xs.length
  · obtain ⟨b, off, rfl, _, h4⟩ := h hp
    exact run_convert_bytes_arg (P := Try.prog) w 22 5 Try.underlying22 Try.underlying5 b off _ cap xs rfl h4 9 Try.underlying9
  · have hx : xs = [] := List.eq_nil_of_length_eq_zero (by omega)
    subst hx
    cases A with
    | none =>
      rw [run_convert_bytes_nil (P := Try.prog) w 22 5 Try.underlying22 Try.underlying5 _ cap 9 Try.underlying9]
      rfl
    | some a =>
      have hl : (loadCells a 0).run Try.prog w = .ok (([] : List Int).map (Value.int .u8)).toArray w := run_loadCells_list (P := Try.prog) w a [] (fun j v hj => by simp at hj)
      rw [run_convert_bytes_string (P := Try.prog) w 22 9 5 (some a) _ cap Try.underlying22 Try.underlying5 Try.underlying9]
      rw [show ([] : List Int).length = 0 from rfl, run_bytesToString (P := Try.prog) w a 0 cap [] hl]
      rfl

theorem BytesAt.of_own {w : World} {base : Nat} {v : Value} {xs : List Int} (h : w.ownsRow base 5 1 v xs.length (xs.map (Value.int .u8))) : BytesAt w v xs := by
  rcases h.2 with ⟨rfl, h0⟩ | ⟨g, cap, cur, rfl, _, hh, hnc, _⟩
  · have hx : xs = [] := List.eq_nil_of_length_eq_zero h0
    subst hx
    exact BytesAt.nil w
  · refine ⟨_, cap, rfl, fun _ => ⟨g, 0, rfl, ?_, fun i hi => ?_⟩⟩
    · rcases Nat.lt_or_ge g w.heap.size with hlt | hge
      · exact hlt
      · rw [Array.getElem?_eq_none hge] at hh; cases hh
    · have hc := h.cells (g := g) rfl i (.int .u8 (xs.getD i 0)) (by simp [List.getElem?_eq_getElem hi, List.getD])
      have e : (⟨g, 0, none⟩ : Addr).add i = ⟨g, 0 + i, none⟩ := by unfold Addr.add; split <;> simp_all
      rw [e] at hc
      exact hc

/-- The call made the bytes xs, and left alone what was there. -/
def MadeBytes (xs : List Int) (w : World) (e : Ending) (w' : World) : Prop :=
  ∃ v, e = .returned v ∧ BytesAt w' v xs ∧ Below w.heap.size w w'

theorem infoU8 : (Try.prog.info? 5).map (fun i => (i.zero, i.size, i.bytes)) = some (some (.int .u8 0), 1, 1) := by kernel_rfl

set_option maxHeartbeats 400000 in
theorem bytes_no (v n : Int) (w : World) (h : n < 0 ∨ 8 < n) :
    Calls Try.prog 26 #[.int .u64 v, .int .i64 n] w fun e w' => e = .returned (.slice none 0 0) ∧ w = w' := by
  rcases h with h | h
  · go_enter Try.func26, Try.ntmps26
    go_wp2
    go_ret
    exact ⟨rfl, rfl⟩
  · have h' : 0 ≤ n := by omega
    go_enter Try.func26, Try.ntmps26
    go_wp2
    go_ret
    exact ⟨rfl, rfl⟩

set_option maxHeartbeats 400000 in
theorem bytes_yes (v : Int) (n : Nat) (w : World) (hn : n ≤ 8) :
    Calls Try.prog 26 #[.int .u64 v, .int .i64 n] w (MadeBytes (Wd.bs v n) w) := by
  have hmk := fun W => run_make_row' (P := Try.prog) 22 5 (.int .u8 0) 1 Try.underlying22 infoU8 rfl .i64 .i64 n (by omega) (by omega) W
  go_enter Try.func26, Try.ntmps26
  go_wp2
  go_loopw [6, 16] (fun _ i wr => ∃ k : Nat, k ≤ n ∧ i = .int .i64 k ∧ Below w.heap.size w wr ∧ wr.rowIs w.heap.size 5 n (fun j => if j < k then .int .u8 (v / 2 ^ (j * 8) % 256) else .int .u8 0)) (fun _ i _ => n - (intOf i).toNat)
  case atStart =>
    refine ⟨0, by omega, rfl, (Below.refl _ _).alloc (Nat.le_refl _) _, ?_⟩
    exact (World.rowIs_made w (.int .u8 0) n 5).congr (fun j _ => by simp)
  case round =>
    obtain ⟨k, hk, rfl, hbel, hrow⟩ := hrel
    by_cases hlt : k < n
    · have hcell := hrow.cell hlt
      have hfr := hrow.frozen k
      go_wp2
      go_roundw
      case rel =>
        refine ⟨k + 1, by omega, by go_num, hbel.setCell (Nat.le_refl _) _, (hrow.set k _).congr fun j _ => ?_⟩
        by_cases hj : j = k
        · subst hj; simp
        · have : (j < k + 1) = (j < k) := by apply propext; omega
          simp only [hj, this, if_false]
      case measure => simp [intOf]; omega
    · have hkn : k = n := by omega
      have HK := Lib.hid hkn
      clear hkn
      go_wp2
      go_ret
      have hkn := HK.out
      exact ⟨_, rfl, ⟨some ⟨w.heap.size, 0, none⟩, n, by rw [Wd.bs_length]; rfl, fun _ => ⟨w.heap.size, 0, rfl, hrow.lt, fun i hi => by
        rw [Wd.bs_length] at hi
        rw [Nat.zero_add, hrow.cell hi, if_pos (by omega), Wd.bs_getD v n i hi]⟩⟩, hbel⟩

theorem bs_snoc (v : Int) (k : Nat) : Wd.bs v (k + 1) = Wd.bs v k ++ [v / 2 ^ (k * 8) % 256] := by
  unfold Wd.bs
  rw [List.range_succ, List.map_append]
  rfl

end Go.Proofs.Ytinacnkddjelhaa
