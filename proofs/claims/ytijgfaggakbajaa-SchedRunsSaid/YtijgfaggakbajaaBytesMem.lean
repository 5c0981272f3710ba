/-
  Bytes of a number, a slice that reads as a list of bytes ('BytesAt'), and what lies above what was there; no function of the program is walked here.
-/
import Derived.Test.YtijgfaggakbajaaBelowMem
import Derived.WalkKit
import Derived.WalkSpells
import Derived.WalkLawsBesides
import Derived.Laws.Bits64b
import Derived.Laws.BitsAllLaws
import Derived.IntWalk
import Derived.Lib.Hide
import Derived.Deep.OwnRows
import Derived.Maps.AppendAt
namespace Go.Proofs.Ytijgfaggakbajaa
open Go.RowKit

namespace Wd
/-- The n lowest bytes of v. -/
def bs (v : Int) (n : Nat) : List Int := (List.range n).map fun i => v / 2 ^ (i * 8) % 256
theorem bs_length (v : Int) (n : Nat) : (bs v n).length = n := by simp [bs]
theorem bs_getD (v : Int) (n i : Nat) (h : i < n) : (bs v n).getD i 0 = v / 2 ^ (i * 8) % 256 := by
  simp [bs, List.getD, h]
end Wd

/-- The slice value v reads as the bytes xs (an empty one may lie anywhere). -/
def BytesAt (w : World) (v : Value) (xs : List Int) : Prop :=
  ∃ A cap, v = .slice A xs.length cap ∧ (0 < xs.length → ∃ b off, A = some ⟨b, off, none⟩ ∧ b < w.heap.size ∧ ∀ i, i < xs.length → w.cell? ⟨b, off + i, none⟩ = some (.int .u8 (xs.getD i 0)))

theorem BytesAt.nil (w : World) : BytesAt w (.slice none 0 0) [] := ⟨none, 0, rfl, fun h => absurd h (by simp)⟩

theorem BytesAt.below {w w' : World} {v : Value} {xs : List Int} (h : BytesAt w v xs) (hb : Below w.heap.size w w') : BytesAt w' v xs := by
  obtain ⟨A, cap, hv, h⟩ := h
  refine ⟨A, cap, hv, fun hp => ?_⟩
  obtain ⟨b, off, h1, h3, h4⟩ := h hp
  exact ⟨b, off, h1, Nat.lt_of_lt_of_le h3 hb.size, fun i hi => (hb.cell (p := ⟨b, off + i, none⟩) h3).trans (h4 i hi)⟩

theorem BytesAt.drew {w : World} {v : Value} {xs : List Int} (h : BytesAt w v xs) : BytesAt w.drew v xs := h

theorem BytesAt.drewN {w : World} {v : Value} {xs : List Int} (h : BytesAt w v xs) (n : Nat) : BytesAt (w.drewN n) v xs := by
  obtain ⟨A, cap, hv, h⟩ := h
  refine ⟨A, cap, hv, fun hp => ?_⟩
  obtain ⟨b, off, h1, h3, h4⟩ := h hp
  exact ⟨b, off, h1, by simpa using h3, fun i hi => by simpa using h4 i hi⟩

theorem BytesAt.conv {w : World} {v : Value} {xs : List Int} (h : BytesAt w v xs) :
    (convert 26 9 v).run Try.prog w = .ok (.string (strOfNums xs)) w := by
  obtain ⟨A, cap, rfl, h⟩ := h
  by_cases hp : 0 < xs.length
  · obtain ⟨b, off, rfl, _, h4⟩ := h hp
    exact run_convert_bytes_arg (P := Try.prog) w 26 5 Try.underlying26 Try.underlying5 b off _ cap xs rfl h4 9 Try.underlying9
  · have hx : xs = [] := List.eq_nil_of_length_eq_zero (by omega)
    subst hx
    cases A with
    | none =>
      rw [run_convert_bytes_nil (P := Try.prog) w 26 5 Try.underlying26 Try.underlying5 _ cap 9 Try.underlying9]
      rfl
    | some a =>
      have hl : (loadCells a 0).run Try.prog w = .ok (([] : List Int).map (Value.int .u8)).toArray w := run_loadCells_list (P := Try.prog) w a [] (fun j v hj => by simp at hj)
      rw [run_convert_bytes_string (P := Try.prog) w 26 9 5 (some a) _ cap Try.underlying26 Try.underlying5 Try.underlying9]
      rw [show ([] : List Int).length = 0 from rfl, run_bytesToString (P := Try.prog) w a 0 cap [] hl]
      rfl

theorem BytesAt.of_own {w : World} {base : Nat} {v : Value} {xs : List Int} (h : w.ownsRow base 5 1 v xs.length (xs.map (Value.int .u8))) : BytesAt w v xs := by
  rcases h.2 with ⟨rfl, h0⟩ | ⟨g, cap, cur, rfl, _, hh, hnc, _⟩
  · have hx : xs = [] := List.eq_nil_of_length_eq_zero h0
    subst hx
    exact BytesAt.nil w
  · refine ⟨_, cap, rfl, fun _ => ⟨g, 0, rfl, ?_, fun i hi => ?_⟩⟩
    · rcases Nat.lt_or_ge g w.heap.size with hlt | hge
      · exact hlt
      · rw [Array.getElem?_eq_none hge] at hh; cases hh
    · have hc := h.cells (g := g) rfl i (.int .u8 (xs.getD i 0)) (by simp [List.getElem?_eq_getElem hi, List.getD])
      have e : (⟨g, 0, none⟩ : Addr).add i = ⟨g, 0 + i, none⟩ := by unfold Addr.add; split <;> simp_all
      rw [e] at hc
      exact hc

/-- The slice value v is the call's own, from block 'base' on, and holds the bytes xs. -/
def Owns (base : Nat) (w : World) (v : Value) (xs : List Int) : Prop := w.ownsRow base 5 1 v xs.length (xs.map (Value.int .u8))

theorem Owns.bytes {base : Nat} {w : World} {v : Value} {xs : List Int} (h : Owns base w v xs) : BytesAt w v xs := BytesAt.of_own h

theorem Owns.down {base b' : Nat} {w : World} {v : Value} {xs : List Int} (h : Owns base w v xs) (hb : b' ≤ base) : Owns b' w v xs := by
  obtain ⟨h1, h2⟩ := h
  refine ⟨h1, ?_⟩
  rcases h2 with h2 | ⟨g, cap, cur, hv, hg, r⟩
  · exact .inl h2
  · exact .inr ⟨g, cap, cur, hv, Nat.le_trans hb hg, r⟩

theorem Owns.below {base : Nat} {w w' : World} {v : Value} {xs : List Int} (h : Owns base w v xs) (hb : Below w.heap.size w w') : Owns base w' v xs :=
  World.ownsRow.kept (row := none) h ⟨hb.os, hb.tape, hb.output, hb.size, fun k hk _ => hb.block k hk⟩ (by cases v.ownBlock <;> simp)

theorem Owns.form {base : Nat} {w : World} {v : Value} {xs : List Int} (h : Owns base w v xs) (hn : 0 < xs.length) :
    ∃ g cap, v = .slice (some ⟨g, 0, none⟩) xs.length cap ∧ xs.length ≤ cap ∧ cap ≤ maxLen ∧ base ≤ g ∧ g < w.heap.size ∧ ∀ i, i < xs.length → w.cell? ⟨g, i, none⟩ = some (.int .u8 (xs.getD i 0)) := by
  have hb := h.bytes
  rcases h.2 with ⟨_, h0⟩ | ⟨g, cap, cur, hv, hbase, hh, hnc, hm, _⟩
  · omega
  · obtain ⟨A, cap', hv', hc⟩ := hb
    rw [hv] at hv'
    injection hv' with e1 e2 e3
    subst e1
    obtain ⟨b, off, e, hlt, hc⟩ := hc hn
    injection e with e
    injection e with e5 e6
    subst e5 e6
    refine ⟨g, cap, hv, hnc, hm, hbase, hlt, fun i hi => ?_⟩
    have := hc i hi
    rwa [Nat.zero_add] at this

theorem BytesAt.cut {w : World} {b off n cap : Nat} {xs : List Int} (h : BytesAt w (.slice (some ⟨b, off, none⟩) n cap) xs) (lo m cap' : Nat) (hm : lo + m ≤ xs.length) :
    BytesAt w (.slice (some ⟨b, off + lo, none⟩) m cap') ((xs.drop lo).take m) := by
  have hl : ((xs.drop lo).take m).length = m := by rw [List.length_take, List.length_drop]; omega
  obtain ⟨A, c, hv, h⟩ := h
  injection hv with e1 e2 e3
  subst e1
  refine ⟨some ⟨b, off + lo, none⟩, cap', by rw [hl], fun hp => ?_⟩
  rw [hl] at hp ⊢
  obtain ⟨b', off', e, hlt, hc⟩ := h (by omega)
  injection e with e
  injection e with e5 e6
  subst e5 e6
  refine ⟨b, off + lo, rfl, hlt, fun i hi => ?_⟩
  rw [Nat.add_assoc, hc (lo + i) (by omega)]
  congr 2
  simp [List.getD, hi]

/-- The call made the bytes xs, and left alone what was there. -/
def MadeBytes (xs : List Int) (w : World) (e : Ending) (w' : World) : Prop :=
  ∃ v, e = .returned v ∧ BytesAt w' v xs ∧ Below w.heap.size w w'

theorem infoU8 : (Try.prog.info? 5).map (fun i => (i.zero, i.size, i.bytes)) = some (some (.int .u8 0), 1, 1) := by kernel_rfl

/-- Bytes appended to bytes that are the call's own. -/
theorem wpList_app {w : World} {ops : Array Oper} {rest : List Oper} {o : Oper} {a : Act} {Q : Exit → Act → World → Prop} (hgd : o.guard = none) (s x : Operand)
    (ho : o.op = .call { callee := .builtin .append, args := #[s, x], argTypes := #[26, 26] }) (base : Nat) (v y : Value) (xs ys : List Int)
    (hs : a.eval s = v) (hx : a.eval x = y) (hv : Owns base w v xs) (hy : BytesAt w y ys) (hp : 0 < ys.length) (hl : xs.length + ys.length ≤ 1000) (hb : base ≤ w.heap.size)
    (h : ∀ v' w', Owns base w' v' (xs ++ ys) → Below base w w' → (∀ k, k < w.heap.size → v.ownBlock ≠ some k → v'.ownBlock ≠ some k ∧ w'.heap[k]? = w.heap[k]?) → wpList Try.prog ops Q rest (a.put o.dst v') w') : wpList Try.prog ops Q (o :: rest) a w := by
  obtain ⟨i0, hi, hz0, hz1, hz2⟩ := info_parts infoU8
  obtain ⟨A, cap, rfl, hc⟩ := hy
  obtain ⟨b, off, rfl, hlt, hc⟩ := hc hp
  refine wpList_append_own_at w hgd s x 26 ho base 5 i0 (.int .u8 0) 1 1 Try.underlying26 hi hz0 hz1 hz2 rfl (by decide) v xs.length _ hs hv ⟨b, off, none⟩ ys.length cap (ys.map (Value.int .u8)) hx (by simp) ?_ ?_ (by unfold maxLen; omega) (by omega) hb ?_
  · intro j u hj
    rw [List.getElem?_map] at hj
    by_cases hjl : j < ys.length
    · rw [List.getElem?_eq_getElem hjl] at hj
      obtain rfl : Value.int .u8 ys[j] = u := by simpa using hj
      have e : (⟨b, off, none⟩ : Addr).add j = ⟨b, off + j, none⟩ := by unfold Addr.add; split <;> simp_all
      rw [e, hc j hjl]
      simp [List.getD, hjl]
    · rw [List.getElem?_eq_none (by omega)] at hj
      simp at hj
  · intro u hu
    obtain ⟨z, _, rfl⟩ := List.mem_map.1 hu
    rfl
  · intro v' w' h1 h2 _ h4
    have hown : Owns base w' v' (xs ++ ys) := by
      unfold Owns
      rw [List.length_append, List.map_append]
      exact h1
    refine h v' w' hown ((Below.refl base w).grown h2 hb fun k hk => (hv.lt k hk).1) fun k hk hne => ⟨?_, h2.block k hk fun e => hne e.symm⟩
    rcases h4 with h4 | h4 <;> rw [h4]
    · exact hne
    · intro e
      injection e with e
      omega

/-- .. as one step of a region that draws its order. -/
theorem step_app {w : World} {ops : Array Oper} {o : Oper} {a : Act} {K : Act → World → Prop} {Q : Exit → Act → World → Prop} {E : Prop} (hgd : o.guard = none) (s x : Operand)
    (ho : o.op = .call { callee := .builtin .append, args := #[s, x], argTypes := #[26, 26] }) (base : Nat) (v y : Value) (xs ys : List Int)
    (hs : a.eval s = v) (hx : a.eval x = y) (hv : Owns base w v xs) (hy : BytesAt w y ys) (hp : 0 < ys.length) (hl : xs.length + ys.length ≤ 1000) (hb : base ≤ w.heap.size)
    (h : ∀ v' w', Owns base w' v' (xs ++ ys) → Below base w w' → K (a.put o.dst v') w') : if Region.wanted o (yielded ops a.tmps) = true then Oper.wp Try.prog o a w K Q else E := by
  have hw : Region.wanted o (yielded ops a.tmps) = true := by simp [Region.wanted, hgd]
  rw [if_pos hw]
  obtain ⟨i0, hi, hz0, hz1, hz2⟩ := info_parts infoU8
  obtain ⟨A, cap, rfl, hc⟩ := hy
  obtain ⟨b, off, rfl, hlt, hc⟩ := hc hp
  refine wp_append_own w s x 26 ho base 5 i0 (.int .u8 0) 1 1 Try.underlying26 hi hz0 hz1 hz2 rfl (by decide) v xs.length _ hs hv ⟨b, off, none⟩ ys.length cap (ys.map (Value.int .u8)) hx (by simp) ?_ ?_ (by unfold maxLen; omega) (by omega) hb ?_
  · intro j u hj
    rw [List.getElem?_map] at hj
    by_cases hjl : j < ys.length
    · rw [List.getElem?_eq_getElem hjl] at hj
      obtain rfl : Value.int .u8 ys[j] = u := by simpa using hj
      have e : (⟨b, off, none⟩ : Addr).add j = ⟨b, off + j, none⟩ := by unfold Addr.add; split <;> simp_all
      rw [e, hc j hjl]
      simp [List.getD, hjl]
    · rw [List.getElem?_eq_none (by omega)] at hj
      simp at hj
  · intro u hu
    obtain ⟨z, _, rfl⟩ := List.mem_map.1 hu
    rfl
  · intro v' w' h1 h2 _
    refine h v' w' ?_ ((Below.refl base w).grown h2 hb fun k hk => (hv.lt k hk).1)
    unfold Owns
    rw [List.length_append, List.map_append]
    exact h1

theorem BytesAt.alloc {w : World} {v : Value} {xs : List Int} (h : BytesAt w v xs) (o : Obj) : BytesAt (w.alloc o) v xs := h.below ((Below.refl _ _).alloc (Nat.le_refl _) o)
theorem Owns.alloc {base : Nat} {w : World} {v : Value} {xs : List Int} (h : Owns base w v xs) (o : Obj) : Owns base (w.alloc o) v xs := World.ownsRow.alloc h o
theorem Owns.drew {base : Nat} {w : World} {v : Value} {xs : List Int} (h : Owns base w v xs) : Owns base w.drew v xs := h

/-- Two bytes, written out as a slice. -/
theorem two_made (w : World) (x y : Int) : BytesAt (w.alloc (.cells #[.int .u8 x, .int .u8 y] 5)) (.slice (some ⟨w.heap.size, 0, none⟩) 2 2) [x, y] := by
  refine ⟨_, _, rfl, fun _ => ⟨w.heap.size, 0, rfl, by simp, fun i hi => ?_⟩⟩
  match i, hi with
  | 0, _ => go_simp
  | 1, _ => go_simp

theorem two_made_at (w : World) (x y : Int) (H : Nat) (hH : w.heap.size = H) : BytesAt (w.alloc (.cells #[.int .u8 x, .int .u8 y] 5)) (.slice (some ⟨H, 0, none⟩) 2 2) [x, y] := by
  subst hH; exact two_made w x y

theorem bs_snoc (v : Int) (k : Nat) : Wd.bs v (k + 1) = Wd.bs v k ++ [v / 2 ^ (k * 8) % 256] := by
  unfold Wd.bs
  rw [List.range_succ, List.map_append]
  rfl

end Go.Proofs.Ytijgfaggakbajaa
