/-
  Bytes of a number, numbers of bytes: layer 1's functions and its plain answers, walked. What is made lies above what was there; a slice that reads as a list of bytes is told by 'BytesAt'.
-/
import Derived.Test.YtjjckhoolimkiaaDoorWordWalks
import Derived.Deep.OwnRows
namespace Go.Proofs.YtjjckhoolimkiaaDoor
open Go.RowKit

/-- One call behind another. -/
theorem _root_.Go.RowKit.Below.after {a b c : World} (h : Below a.heap.size a b) (k : Below b.heap.size b c) : Below a.heap.size a c := h.trans (k.mono h.size)

namespace Wd
/-- The n lowest bytes of v. -/
def bs (v : Int) (n : Nat) : List Int := (List.range n).map fun i => v / 2 ^ (i * 8) % 256
theorem bs_length (v : Int) (n : Nat) : (bs v n).length = n := by simp [bs]
theorem bs_getD (v : Int) (n i : Nat) (h : i < n) : (bs v n).getD i 0 = v / 2 ^ (i * 8) % 256 := by
  simp [bs, List.getD, h]
end Wd

/-- The slice value v reads as the bytes xs (an empty one may lie anywhere). -/
def BytesAt (w : World) (v : Value) (xs : List Int) : Prop :=
  ∃ A cap, v = .slice A xs.length cap ∧ (0 < xs.length → ∃ b off, A = some ⟨b, off, none⟩ ∧ b < w.heap.size ∧ ∀ i, i < xs.length → w.cell? ⟨b, off + i, none⟩ = some (.int .u8 (xs.getD i 0)))

theorem BytesAt.nil (w : World) : BytesAt w (.slice none 0 0) [] := ⟨none, 0, rfl, fun h => absurd h (by simp)⟩

theorem BytesAt.below {w w' : World} {v : Value} {xs : List Int} (h : BytesAt w v xs) (hb : Below w.heap.size w w') : BytesAt w' v xs := by
  obtain ⟨A, cap, hv, h⟩ := h
  refine ⟨A, cap, hv, fun hp => ?_⟩
  obtain ⟨b, off, h1, h3, h4⟩ := h hp
  exact ⟨b, off, h1, Nat.lt_of_lt_of_le h3 hb.size, fun i hi => (hb.cell (p := ⟨b, off + i, none⟩) h3).trans (h4 i hi)⟩

theorem BytesAt.drew {w : World} {v : Value} {xs : List Int} (h : BytesAt w v xs) : BytesAt w.drew v xs := h

theorem BytesAt.conv {w : World} {v : Value} {xs : List Int} (h : BytesAt w v xs) :
    (convert 32 9 v).run Tryd.prog w = .ok (.string (strOfNums xs)) w := by
  obtain ⟨A, cap, rfl, h⟩ := h
  by_cases hp : 0 < xs.length
  · obtain ⟨b, off, rfl, _, h4⟩ := h hp
    exact run_convert_bytes_arg (P := Tryd.prog) w 32 5 Tryd.underlying32 Tryd.underlying5 b off _ cap xs rfl h4 9 Tryd.underlying9
  · have hx : xs = [] := List.eq_nil_of_length_eq_zero (by omega)
    subst hx
    cases A with
    | none =>
      rw [run_convert_bytes_nil (P := Tryd.prog) w 32 5 Tryd.underlying32 Tryd.underlying5 _ cap 9 Tryd.underlying9]
      rfl
    | some a =>
      have hl : (loadCells a 0).run Tryd.prog w = .ok (([] : List Int).map (Value.int .u8)).toArray w := run_loadCells_list (P := Tryd.prog) w a [] (fun j v hj => by simp at hj)
      rw [run_convert_bytes_string (P := Tryd.prog) w 32 9 5 (some a) _ cap Tryd.underlying32 Tryd.underlying5 Tryd.underlying9]
      rw [show ([] : List Int).length = 0 from rfl, run_bytesToString (P := Tryd.prog) w a 0 cap [] hl]
      rfl

theorem BytesAt.of_own {w : World} {base : Nat} {v : Value} {xs : List Int} (h : w.ownsRow base 5 1 v xs.length (xs.map (Value.int .u8))) : BytesAt w v xs := by
  rcases h.2 with ⟨rfl, h0⟩ | ⟨g, cap, cur, rfl, _, hh, hnc, _⟩
  · have hx : xs = [] := List.eq_nil_of_length_eq_zero h0
    subst hx
    exact BytesAt.nil w
  · refine ⟨_, cap, rfl, fun _ => ⟨g, 0, rfl, ?_, fun i hi => ?_⟩⟩
    · rcases Nat.lt_or_ge g w.heap.size with hlt | hge
      · exact hlt
      · rw [Array.getElem?_eq_none hge] at hh; cases hh
    · have hc := h.cells (g := g) rfl i (.int .u8 (xs.getD i 0)) (by simp [List.getElem?_eq_getElem hi, List.getD])
      have e : (⟨g, 0, none⟩ : Addr).add i = ⟨g, 0 + i, none⟩ := by unfold Addr.add; split <;> simp_all
      rw [e] at hc
      exact hc

/-- The call made the bytes xs, and left alone what was there. -/
def MadeBytes (xs : List Int) (w : World) (e : Ending) (w' : World) : Prop :=
  ∃ v, e = .returned v ∧ BytesAt w' v xs ∧ Below w.heap.size w w'

theorem infoU8 : (Tryd.prog.info? 5).map (fun i => (i.zero, i.size, i.bytes)) = some (some (.int .u8 0), 1, 1) := by kernel_rfl

set_option maxHeartbeats 400000 in
theorem bytes_no (v n : Int) (w : World) (h : n < 0 ∨ 8 < n) :
    Calls Tryd.prog 16 #[.int .u64 v, .int .i64 n] w fun e w' => e = .returned (.slice none 0 0) ∧ w = w' := by
  rcases h with h | h
  · go_enter Tryd.func16, Tryd.ntmps16
    go_wp2
    go_ret
    exact ⟨rfl, rfl⟩
  · have h' : 0 ≤ n := by omega
    go_enter Tryd.func16, Tryd.ntmps16
    go_wp2
    go_ret
    exact ⟨rfl, rfl⟩

set_option maxHeartbeats 400000 in
theorem bytes_yes (v : Int) (n : Nat) (w : World) (hn : n ≤ 8) :
    Calls Tryd.prog 16 #[.int .u64 v, .int .i64 n] w (MadeBytes (Wd.bs v n) w) := by
  have hmk := fun W => run_make_row' (P := Tryd.prog) 32 5 (.int .u8 0) 1 Tryd.underlying32 infoU8 rfl .i64 .i64 n (by omega) (by omega) W
  go_enter Tryd.func16, Tryd.ntmps16
  go_wp2
  go_loopw [6, 16] (fun _ i wr => ∃ k : Nat, k ≤ n ∧ i = .int .i64 k ∧ Below w.heap.size w wr ∧ wr.rowIs w.heap.size 5 n (fun j => if j < k then .int .u8 (v / 2 ^ (j * 8) % 256) else .int .u8 0)) (fun _ i _ => n - (intOf i).toNat)
  case atStart =>
    refine ⟨0, by omega, rfl, (Below.refl _ _).alloc (Nat.le_refl _) _, ?_⟩
    exact (World.rowIs_made w (.int .u8 0) n 5).congr (fun j _ => by simp)
  case round =>
    obtain ⟨k, hk, rfl, hbel, hrow⟩ := hrel
    by_cases hlt : k < n
    · have hcell := hrow.cell hlt
      have hfr := hrow.frozen k
      go_wp2
      go_roundw
      case rel =>
        refine ⟨k + 1, by omega, by go_num, hbel.setCell (Nat.le_refl _) _, (hrow.set k _).congr fun j _ => ?_⟩
        by_cases hj : j = k
        · subst hj; simp
        · have : (j < k + 1) = (j < k) := by apply propext; omega
          simp only [hj, this, if_false]
      case measure => simp [intOf]; omega
    · have hkn : k = n := by omega
      have HK := Lib.hid hkn
      clear hkn
      go_wp2
      go_ret
      have hkn := HK.out
      exact ⟨_, rfl, ⟨some ⟨w.heap.size, 0, none⟩, n, by rw [Wd.bs_length]; rfl, fun _ => ⟨w.heap.size, 0, rfl, hrow.lt, fun i hi => by
        rw [Wd.bs_length] at hi
        rw [Nat.zero_add, hrow.cell hi, if_pos (by omega), Wd.bs_getD v n i hi]⟩⟩, hbel⟩

theorem bs_snoc (v : Int) (k : Nat) : Wd.bs v (k + 1) = Wd.bs v k ++ [v / 2 ^ (k * 8) % 256] := by
  unfold Wd.bs
  rw [List.range_succ, List.map_append]
  rfl

set_option maxHeartbeats 400000 in
theorem refBytes_no (v n : Int) (w : World) (h : n < 0 ∨ 8 < n) :
    Calls Tryd.prog 17 #[.int .u64 v, .int .i64 n] w fun e w' => e = .returned (.slice none 0 0) ∧ w = w' := by
  rcases h with h | h
  · go_enter Tryd.func17, Tryd.ntmps17
    go_wp2
    go_ret
    exact ⟨rfl, rfl⟩
  · have h' : 0 ≤ n := by omega
    go_enter Tryd.func17, Tryd.ntmps17
    go_wp2
    go_ret
    exact ⟨rfl, rfl⟩

theorem quo_u64 (x : Int) (h0 : 0 ≤ x) (h1 : x ≤ 18446744073709551615) : IntKind.u64.wrap (x.tdiv 256) = x / 256 := by
  rw [Int.tdiv_eq_ediv_of_nonneg h0, IntKind.wrap_u64]
  omega

theorem div_next (v : Int) (k : Nat) : v / 2 ^ (k * 8) / 256 = v / 2 ^ ((k + 1) * 8) := by
  have e : ((2 : Int) ^ ((k + 1) * 8)) = 2 ^ (k * 8) * 256 := by
    rw [Nat.add_mul, Int.pow_add]; rfl
  rw [e, Int.ediv_ediv_of_nonneg (Int.pow_nonneg (by decide))]

set_option maxHeartbeats 400000 in
theorem refBytes_yes (v : Int) (n : Nat) (w : World) (hv : 0 ≤ v) (hv1 : v ≤ 18446744073709551615) (hn : n ≤ 8) :
    Calls Tryd.prog 17 #[.int .u64 v, .int .i64 n] w (MadeBytes (Wd.bs v n) w) := by
  obtain ⟨i0, hi, hz0, hz1, hz2⟩ := info_parts infoU8
  go_enter Tryd.func17, Tryd.ntmps17
  go_wp2
  go_loopw [0, 5, 6] (fun x r i wr => ∃ k : Nat, k ≤ n ∧ i = .int .i64 k ∧ x = .int .u64 (v / 2 ^ (k * 8)) ∧ Below w.heap.size w wr ∧ wr.ownsRow w.heap.size 5 1 r k ((Wd.bs v k).map (Value.int .u8))) (fun _ _ i _ => n - (intOf i).toNat)
  case atStart =>
    exact ⟨0, by omega, rfl, by simp, Below.refl _ _, World.ownsRow_nil _ _ _ _⟩
  case round =>
    obtain ⟨k, hk, rfl, rfl, hbel, hown⟩ := hrel
    by_cases hlt : k < n
    · have hpos : 0 ≤ v / 2 ^ (k * 8) := Int.ediv_nonneg hv (Int.pow_nonneg (by decide))
      have hsz := hbel.size
      go_wp2_with (at_builtin; refine wpList_append_own _ rfl _ _ 32 rfl w.heap.size 5 i0 (.int .u8 0) 1 1 Tryd.underlying32 hi hz0 hz1 hz2 rfl (by decide) _ _ _ rfl (hown.alloc _) ⟨wr.heap.size, 0, none⟩ 1 1 [.int .u8 (v / 2 ^ (k * 8) % 256)] rfl rfl ?c1 ?c2 ?c3 ?c4 ?c5 ?_)
      case c1 =>
        intro j u hj
        match j, hj with
        | 0, hj => simp at hj; subst hj; simp [Addr.add]
      case c2 => intro u hu; simp at hu; subst hu; rfl
      case c3 => unfold maxLen; omega
      case c4 => omega
      case c5 => simp; omega
      · intro v' w1 hown' hgrow _
        have hown2 : w1.ownsRow w.heap.size 5 1 v' (k + 1) ((Wd.bs v (k + 1)).map (Value.int .u8)) := by
          rw [bs_snoc, List.map_append]; exact hown'
        have hbel2 : Below w.heap.size w w1 := (hbel.alloc hsz _).grown hgrow (by simp; omega) (fun g hg => (hown.lt g hg).1)
        clear hown' hgrow hown hbel
        go_wp2
        go_roundw
        case rel => exact ⟨k + 1, by omega, by go_num, by rw [← div_next, quo_u64 _ hpos (by have := Int.ediv_le_self (2 ^ (k * 8)) hv; omega)], hbel2, hown2⟩
        case measure => simp [intOf]; omega
    · have hkn : k = n := by omega
      have HK := Lib.hid hkn
      clear hkn
      go_wp2
      go_ret
      have hkn := HK.out
      subst hkn
      exact ⟨_, rfl, BytesAt.of_own (by rw [Wd.bs_length]; exact hown), hbel⟩

end Go.Proofs.YtjjckhoolimkiaaDoor
