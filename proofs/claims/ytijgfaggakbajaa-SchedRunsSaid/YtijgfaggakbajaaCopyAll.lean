/-
  Layer 5's plain facts: a copy's parts, one behind the other.
  Bytes appended to a row of the call's own, whatever they are (none, too), and where the row lies; a slice of bytes cloned.
  Layer 5's closures that tell the next access, walked.
  Layer 5's machine in memory: where its parts, its place, its closures and what it read stand; Next, walked.
-/
import Derived.Test.YtijgfaggakbajaaChunkFns
import Derived.Test.YtijgfaggakbajaaBytesMem
import Derived.Test.YtijgfaggakbajaaBytesAt
import Derived.Test.YtijgfaggakbajaaMembufMem
import Derived.RegionTactic
import Derived.Lib.SliceRun
import Derived.OwnWalk
import Derived.Deep.RegionHeld3
namespace Go.Proofs.Ytijgfaggakbajaa
open Go.RowKit

namespace Cy
/-- The parts of n bytes; none of none. -/
def cks (n : Nat) : List Int := if n = 0 then [] else Wd.ck n
/-- The part that is next, of r bytes that are left. -/
def nx (r : Nat) : Nat := if r ≤ 8 then r else 8
/-- So many bytes are copied, of so many that were asked for. -/
def few (n : Int) : Nat := if 1 ≤ n ∧ n ≤ 131072 then n.toNat else 0

theorem cks_zero : cks 0 = [] := rfl
theorem nx_le (r : Nat) : nx r ≤ r ∧ nx r ≤ 8 := by unfold nx; split <;> omega
theorem nx_pos {r : Nat} (h : 0 < r) : 0 < nx r := by unfold nx; split <;> omega
theorem few_le (n : Int) : few n ≤ 131072 := by unfold few; split <;> omega
theorem few_nat {n : Nat} (h : n ≤ 131072) : few n = n := by
  unfold few
  by_cases h0 : 1 ≤ (n : Int)
  · rw [if_pos ⟨h0, by omega⟩]; simp
  · rw [if_neg (fun hh => h0 hh.1)]; omega

theorem ckOf_few (n : Int) : ckOf n = cks (few n) := by
  unfold ckOf few cks
  by_cases h : 1 ≤ n ∧ n ≤ 131072
  · rw [if_pos h, if_pos h, if_neg (by omega)]
  · rw [if_neg h, if_neg h, if_pos rfl]

theorem cks_step {r : Nat} (h : 0 < r) : cks r = ((nx r : Nat) : Int) :: cks (r - nx r) := by
  unfold cks nx
  rw [if_neg (by omega)]
  by_cases h8 : r ≤ 8
  · rw [if_pos h8, if_pos (by omega)]
    unfold Wd.ck
    have e : (r - 1) / 8 = 0 := by omega
    rw [e]
    simp
  · rw [if_neg h8, if_neg (by omega)]
    unfold Wd.ck
    obtain ⟨k, hk⟩ : ∃ k, (r - 1) / 8 = k + 1 := ⟨(r - 1) / 8 - 1, by omega⟩
    have hk2 : (r - 8 - 1) / 8 = k := by omega
    rw [hk, hk2, List.replicate_succ]
    simp only [List.cons_append, List.cons.injEq]
    refine ⟨by omega, ?_⟩
    congr 2
    omega

theorem cks_length (n : Nat) : (cks n).length = (n + 7) / 8 := by
  unfold cks
  split
  · subst_vars; rfl
  · rw [Wd.ck_length]; omega

theorem cks_getD (n j : Nat) (h : 8 * j < n) : (cks n).getD j 0 = ((nx (n - 8 * j) : Nat) : Int) := by
  induction j generalizing n with
  | zero => rw [cks_step (by omega)]; simp
  | succ j ih =>
    rw [cks_step (by omega)]
    have e : nx n = 8 := by unfold nx; rw [if_neg (by omega)]
    rw [List.getD_cons_succ, e, ih (n - 8) (by omega)]
    congr 2
    omega

/-- So many bytes were copied behind i parts. -/
def at_ (n i : Nat) : Nat := if 8 * i ≤ n then 8 * i else n
theorem at_zero (n : Nat) : at_ n 0 = 0 := by unfold at_; rw [if_pos (by omega)]
theorem at_le (n i : Nat) : at_ n i ≤ n := by unfold at_; split <;> omega
theorem at_next {n i : Nat} (h : 8 * i < n) : at_ n (i + 1) = at_ n i + nx (n - at_ n i) := by
  unfold at_ nx
  rw [if_pos (by omega : 8 * i ≤ n)]
  split <;> split <;> omega
theorem at_here {n i : Nat} (h : 8 * i < n) : at_ n i = 8 * i := by unfold at_; rw [if_pos (by omega)]
theorem at_end {n i : Nat} (h : n ≤ 8 * i) : at_ n i = n := by unfold at_; split <;> omega
end Cy

/-- The slice value v reads as the ints xs, which stand in a block of those that K names; there is room for them. -/
def Parts (K : Nat → Prop) (w : World) (v : Value) (xs : List Int) : Prop :=
  ∃ A cap, v = .slice A xs.length cap ∧ xs.length ≤ cap ∧ cap ≤ maxLen ∧ (0 < xs.length → ∃ b off, A = some ⟨b, off, none⟩ ∧ K b ∧ b < w.heap.size ∧ ∀ i, i < xs.length → w.cell? ⟨b, off + i, none⟩ = some (.int .i64 (xs.getD i 0)))

theorem Parts.of_blocks {K : Nat → Prop} {w w' : World} {v : Value} {xs : List Int} (h : Parts K w v xs) (hs : w.heap.size ≤ w'.heap.size) (hb : ∀ k, K k → w'.heap[k]? = w.heap[k]?) : Parts K w' v xs := by
  obtain ⟨A, cap, hv, h1, h2, h⟩ := h
  refine ⟨A, cap, hv, h1, h2, fun hp => ?_⟩
  obtain ⟨b, off, h1, hK, h3, h4⟩ := h hp
  exact ⟨b, off, h1, hK, by omega, fun i hi => (World.cell?_of_block (w := w) (a := ⟨b, off + i, none⟩) (hb b hK)).trans (h4 i hi)⟩

theorem Parts.mono {K L : Nat → Prop} {w : World} {v : Value} {xs : List Int} (h : Parts K w v xs) (hK : ∀ k, K k → L k) : Parts L w v xs := by
  obtain ⟨A, cap, hv, h1, h2, h⟩ := h
  refine ⟨A, cap, hv, h1, h2, fun hp => ?_⟩
  obtain ⟨b, off, h1, hk, h3⟩ := h hp
  exact ⟨b, off, h1, hK b hk, h3⟩

theorem Parts.nil (K : Nat → Prop) (w : World) : Parts K w (.slice none 0 0) [] := ⟨none, 0, rfl, Nat.le_refl _, by unfold maxLen; decide, fun h => absurd h (by simp)⟩

theorem Parts.of_own {w : World} {base : Nat} {v : Value} {xs : List Int} (h : w.ownsRow base 3 1 v xs.length (xs.map (Value.int .i64))) : Parts (fun k => base ≤ k ∧ k < w.heap.size) w v xs := by
  have hi := IntsAt.of_own h
  rcases h.2 with ⟨rfl, h0⟩ | ⟨g, cap, cur, rfl, hbase, hh, hnc, hm, _⟩
  · have hx : xs = [] := List.eq_nil_of_length_eq_zero h0
    subst hx
    exact Parts.nil _ w
  · refine ⟨_, cap, rfl, hnc, hm, fun hp => ?_⟩
    obtain ⟨A, cap', hv', hc⟩ := hi
    obtain ⟨b, off, e, hlt, hc2⟩ := hc hp
    injection hv' with e1 e2 e3
    subst e1
    exact ⟨b, off, e, ⟨by injection e with e; injection e with e5 e6; omega, hlt⟩, hlt, hc2⟩

/-- The call made the parts xs in a block of its own, and left alone what was there. -/
def MadeParts (xs : List Int) (w : World) (e : Ending) (w' : World) : Prop :=
  ∃ v, e = .returned v ∧ Parts (fun k => w.heap.size ≤ k ∧ k < w'.heap.size) w' v xs ∧ Below w.heap.size w w'
end Go.Proofs.Ytijgfaggakbajaa
namespace Go.Proofs.Ytijgfaggakbajaa
open Go.RowKit

/-- Onto a row of the call's own nothing at all is appended. -/
theorem run_app_none {w : World} {base : Nat} {v : Value} {xs : List Int} (hv : Owns base w v xs) (c : Nat) (ty : TypeId) :
    (Builtin.append_ #[26, 26] ty #[v, .slice none 0 c]).run Try.prog w = .ok v w := by
  obtain ⟨i0, hi, _⟩ := info_parts infoU8
  have ht := Try.underlying26
  rcases hv.2 with ⟨rfl, hx⟩ | ⟨g, cap, cur, rfl, _, _, hnc, _⟩
  · simp [Builtin.append_, run_underlying ht, sizeOf, typeInfo, hi, Builtin.lenOf, Builtin.firstCells]
  · simp [Builtin.append_, run_underlying ht, sizeOf, typeInfo, hi, Builtin.lenOf, Builtin.firstCells, hnc, storeCells]

theorem run_app {w : World} {base : Nat} {v y : Value} {xs ys : List Int} (hv : Owns base w v xs) (hy : BytesAt w y ys) (hl : xs.length + ys.length ≤ 1073741824) (hb : base ≤ w.heap.size) (ty : TypeId) :
    ∃ v' w', (Builtin.append_ #[26, 26] ty #[v, y]).run Try.prog w = .ok v' w' ∧ Owns base w' v' (xs ++ ys) ∧ w.grownBy w' v.ownBlock ∧ (v'.ownBlock = v.ownBlock ∨ v'.ownBlock = some w.heap.size) := by
  obtain ⟨i0, hi, hz0, hz1, hz2⟩ := info_parts infoU8
  obtain ⟨A, cap, rfl, hc⟩ := hy
  by_cases hp : 0 < ys.length
  · obtain ⟨b, off, rfl, hlt, hc⟩ := hc hp
    obtain ⟨v', w', hrun, h2, h3, _, h5⟩ := run_append_own_at (P := Try.prog) w base 26 ty 5 i0 (.int .u8 0) 1 1 Try.underlying26 hi hz0 hz1 hz2 rfl (by decide) v xs.length _ hv ⟨b, off, none⟩ ys.length cap (ys.map (Value.int .u8)) (by simp) (by
        intro j u hj
        rw [List.getElem?_map] at hj
        by_cases hjl : j < ys.length
        · rw [List.getElem?_eq_getElem hjl] at hj
          obtain rfl : Value.int .u8 ys[j] = u := by simpa using hj
          have e : (⟨b, off, none⟩ : Addr).add j = ⟨b, off + j, none⟩ := by unfold Addr.add; split <;> simp_all
          rw [e, hc j hjl]
          simp [List.getD, hjl]
        · rw [List.getElem?_eq_none (by omega)] at hj
          simp at hj) (by
        intro u hu
        obtain ⟨z, _, rfl⟩ := List.mem_map.1 hu
        rfl) (by unfold maxLen; omega) (by omega) hb
    refine ⟨v', w', hrun, ?_, h3, h5⟩
    unfold Owns
    rw [List.length_append, List.map_append]
    exact h2
  · have hys : ys = [] := List.eq_nil_of_length_eq_zero (by omega)
    subst hys
    cases A with
    | none => exact ⟨v, w, run_app_none hv cap ty, by simpa using hv, World.grownBy.refl w _, .inl rfl⟩
    | some a =>
      obtain ⟨v', w', hrun, h2, h3, _, h5⟩ := run_append_own_at (P := Try.prog) w base 26 ty 5 i0 (.int .u8 0) 1 1 Try.underlying26 hi hz0 hz1 hz2 rfl (by decide) v xs.length _ hv a 0 cap [] (by simp) (by simp) (by simp) (by unfold maxLen; omega) (by omega) hb
      refine ⟨v', w', hrun, ?_, h3, h5⟩
      simpa [Owns] using h2

/-- What the appending left. -/
structure App (base : Nat) (v : Value) (zs : List Int) (w : World) (v' : Value) (w' : World) : Prop where
  own : Owns base w' v' zs
  grown : w.grownBy w' v.ownBlock
  lies : v'.ownBlock = v.ownBlock ∨ v'.ownBlock = some w.heap.size

theorem wp_app_any {w : World} {o : Oper} {a : Act} {K : Act → World → Prop} {Q : Exit → Act → World → Prop} (s x : Operand)
    (ho : o.op = .call { callee := .builtin .append, args := #[s, x], argTypes := #[26, 26] }) (base : Nat) (v y : Value) (xs ys : List Int)
    (hs : a.eval s = v) (hx : a.eval x = y) (hv : Owns base w v xs) (hy : BytesAt w y ys) (hl : xs.length + ys.length ≤ 1073741824) (hb : base ≤ w.heap.size)
    (h : ∀ v' w', App base v (xs ++ ys) w v' w' → K (a.put o.dst v') w') : o.wp Try.prog a w K Q := by
  obtain ⟨v', w', hrun, h2, h3, h4⟩ := run_app hv hy hl hb o.type
  unfold Oper.wp execOp
  simp only [ho, resolve, invoke, builtin, Sem.run_bind, Sem.run_pure, Result.andThen_ok, List.map_toArray, List.map_cons, List.map_nil, hs, hx, hrun]
  exact h v' w' ⟨h2, h3, h4⟩

theorem wpList_app_any {w : World} {ops : Array Oper} {rest : List Oper} {o : Oper} {a : Act} {Q : Exit → Act → World → Prop} (hgd : o.guard = none) (s x : Operand)
    (ho : o.op = .call { callee := .builtin .append, args := #[s, x], argTypes := #[26, 26] }) (base : Nat) (v y : Value) (xs ys : List Int)
    (hs : a.eval s = v) (hx : a.eval x = y) (hv : Owns base w v xs) (hy : BytesAt w y ys) (hl : xs.length + ys.length ≤ 1073741824) (hb : base ≤ w.heap.size)
    (h : ∀ v' w', App base v (xs ++ ys) w v' w' → wpList Try.prog ops Q rest (a.put o.dst v') w') : wpList Try.prog ops Q (o :: rest) a w :=
  wpList_plain hgd fun _ hK => wp_app_any s x ho base v y xs ys hs hx hv hy hl hb fun v' w' h2 => hK _ _ (h v' w' h2)

theorem step_app_any {w : World} {ops : Array Oper} {o : Oper} {a : Act} {K : Act → World → Prop} {Q : Exit → Act → World → Prop} {E : Prop} (hgd : o.guard = none) (s x : Operand)
    (ho : o.op = .call { callee := .builtin .append, args := #[s, x], argTypes := #[26, 26] }) (base : Nat) (v y : Value) (xs ys : List Int)
    (hs : a.eval s = v) (hx : a.eval x = y) (hv : Owns base w v xs) (hy : BytesAt w y ys) (hl : xs.length + ys.length ≤ 1073741824) (hb : base ≤ w.heap.size)
    (h : ∀ v' w', App base v (xs ++ ys) w v' w' → K (a.put o.dst v') w') : if Region.wanted o (yielded ops a.tmps) = true then Oper.wp Try.prog o a w K Q else E := by
  have hw : Region.wanted o (yielded ops a.tmps) = true := by simp [Region.wanted, hgd]
  rw [if_pos hw]
  exact wp_app_any s x ho base v y xs ys hs hx hv hy hl hb h

theorem App.below {base : Nat} {v v' : Value} {xs zs : List Int} {w w' W : World} (h : App base v zs w v' w') (hv : Owns base w v xs) (hW : Below base W w) (hb : base ≤ w.heap.size) : Below base W w' :=
  hW.grown h.grown hb fun k hk => (hv.lt k hk).1

/-- The call made the bytes xs in a block of its own, or none. -/
def MadeOwn (xs : List Int) (w : World) (e : Ending) (w' : World) : Prop :=
  ∃ v, e = .returned v ∧ Owns w.heap.size w' v xs ∧ Below w.heap.size w w'

theorem own_empty (w : World) : Owns w.heap.size (w.alloc (.cells #[] 5)) (.slice (some ⟨w.heap.size, 0, none⟩) 0 0) [] :=
  ⟨by simp, .inr ⟨w.heap.size, 0, #[], rfl, Nat.le_refl _, Go.Deep.blk_alloc_new _ _, Nat.le_refl _, by unfold maxLen; decide, by simp, by simp⟩⟩

set_option maxRecDepth 100000 in
set_option maxHeartbeats 400000 in
theorem clone_any (A : Option Addr) (L cap : Nat) (xs : List Int) (w : World) (hb : BytesAt w (.slice A L cap) xs) (hl : L ≤ 1073741824) :
    Calls Try.prog 44 #[.slice A L cap] w (MadeOwn xs w) := by
  have heq := fun (w : World) (a : Option Addr) => Lib.run_eql_slice_nil (P := Try.prog) w 26 5 a L cap 0 0 Try.underlying26
  have hL : xs.length = L := by obtain ⟨_, _, e, _⟩ := hb; injection e with _ e _; exact e.symm
  have HL := Lib.hid hL
  have HB := Lib.hid hb
  have hown := Lib.hid (own_empty w)
  cases A with
  | none =>
    have hx : xs = [] := by
      by_cases hp : 0 < xs.length
      · obtain ⟨_, _, e, h⟩ := hb
        obtain ⟨_, _, e2, _⟩ := h hp
        injection e with e _ _
        rw [← e] at e2
        cases e2
      · exact List.eq_nil_of_length_eq_zero (by omega)
    subst hx
    clear hL hb
    go_enter Try.func44, Try.ntmps44
    go_wp2
    go_ret
    exact ⟨_, rfl, World.ownsRow_nil _ _ _ _, Below.refl _ _⟩
  | some a =>
    clear hL hb
    go_enter Try.func44, Try.ntmps44
    go_wp2_with (at_builtin; refine wpList_app_any rfl _ _ rfl w.heap.size _ _ [] xs rfl rfl hown.out (HB.out.below ((Below.refl _ _).alloc (Nat.le_refl _) _)) (by have := HL.out; simp; omega) (by simp) ?_; intro v' w1 happ)
    go_ret
    refine ⟨_, rfl, by simpa using happ.own, ?_⟩
    exact happ.below hown.out ((Below.refl _ _).alloc (Nat.le_refl _) _) (by simp)

/-- .. in the walk's spelling. -/
def MadeSl (L : Nat) (xs : List Int) (w : World) (e : Ending) (w' : World) : Prop :=
  ∃ A c, e = .returned (.slice A L c) ∧ Owns w.heap.size w' (.slice A L c) xs ∧ Below w.heap.size w w'

theorem clone_sl (A : Option Addr) (L cap : Nat) (xs : List Int) (w : World) (hb : BytesAt w (.slice A L cap) xs) (hl : L ≤ 1073741824) :
    Calls Try.prog 44 #[.slice A L cap] w (MadeSl L xs w) := by
  have hL : xs.length = L := by obtain ⟨_, _, e, _⟩ := hb; injection e with _ e _; exact e.symm
  refine (clone_any A L cap xs w hb hl).mono ?_
  rintro e w' ⟨v, rfl, ho, hbl⟩
  obtain ⟨A5, c5, hv, _⟩ := ho.bytes
  subst hv
  rw [hL] at ho ⊢
  exact ⟨A5, c5, rfl, ho, hbl⟩
end Go.Proofs.Ytijgfaggakbajaa
namespace Go.Proofs.Ytijgfaggakbajaa
open Go.RowKit

/-- An access of kind k to n bytes at p, with those bytes b in new memory (or none). -/
def MadeAcc (k p n : Int) (b : List Int) (w : World) (e : Ending) (w' : World) : Prop :=
  ∃ A l c, e = .returned (.agg #[.int .i64 k, .int .i64 p, .int .i64 n, .int .u64 0, .int .u64 0, .slice A l c]) ∧ Owns w.heap.size w' (.slice A l c) b ∧ Below w.heap.size w w'

theorem lt_of_cell {w : World} {b o : Nat} {v : Value} (h : w.cell? ⟨b, o, none⟩ = some v) : b < w.heap.size := World.block_lt_of_cell? w ⟨b, o, none⟩ h

set_option maxRecDepth 100000 in
set_option maxHeartbeats 400000 in
theorem writeAcc_any (p : Int) (A : Option Addr) (L cap : Nat) (w : World) :
    Calls Try.prog 47 #[.int .i64 p, .slice A L cap] w (Made (.agg #[.int .i64 6, .int .i64 p, .int .i64 L, .int .u64 0, .int .u64 0, .slice A L cap]) w) := by
  go_enter Try.func47, Try.ntmps47
  go_wp2
  refine bodyPost_ret (v := .agg #[.int .i64 6, .int .i64 p, .int .i64 L, .int .u64 0, .int .u64 0, .slice A L cap]) (by simp [results, Try.results47, go_sem]) rfl ?_
  exact ⟨rfl, (Below.refl _ w).alloc (Nat.le_refl _) _⟩

set_option maxRecDepth 100000 in
set_option maxHeartbeats 400000 in
theorem outNext_any (d n : Nat) (a : Nat) (at_ : Int) (w : World) (hc : w.cell? ⟨a, 0, none⟩ = some (.int .i64 at_)) (h0 : -4611686018427387904 ≤ at_) (h1 : at_ ≤ 4611686018427387904) (hd : d ≤ 131072) :
    Calls Try.prog 50 #[.int .i64 d, .int .i64 n, .pointer (some ⟨a, 0, none⟩)] w (MadeAcc 5 (at_ + d) n [] w) := by
  have hlt := lt_of_cell hc
  go_enter Try.func50, Try.ntmps50
  go_wp2
  refine bodyPost_ret (v := .agg #[.int .i64 5, .int .i64 (at_ + d), .int .i64 n, .int .u64 0, .int .u64 0, .slice none 0 0]) (by simp [results, Try.results50, go_sem]) rfl ?_
  exact ⟨_, _, _, rfl, World.ownsRow_nil _ _ _ _, (Below.refl _ w).alloc (Nat.le_refl _) _⟩

/-- A place for an access, in block b: it is there, and may be written. -/
structure AccNew (b : Nat) (W : World) : Prop where
  c0 : W.cell? ⟨b, 0, none⟩ = some (.int .i64 0)
  c1 : W.cell? ⟨b, 1, none⟩ = some (.int .i64 0)
  c2 : W.cell? ⟨b, 2, none⟩ = some (.int .i64 0)
  c3 : W.cell? ⟨b, 3, none⟩ = some (.int .u64 0)
  c4 : W.cell? ⟨b, 4, none⟩ = some (.int .u64 0)
  c5 : W.cell? ⟨b, 5, none⟩ = some (.slice none 0 0)
  f0 : W.frozen? ⟨b, 0, none⟩ = false
  f1 : W.frozen? ⟨b, 1, none⟩ = false
  f2 : W.frozen? ⟨b, 2, none⟩ = false
  f3 : W.frozen? ⟨b, 3, none⟩ = false
  f4 : W.frozen? ⟨b, 4, none⟩ = false
  f5 : W.frozen? ⟨b, 5, none⟩ = false
  blk : W.heap[b]? = some (.cells #[.int .i64 0, .int .i64 0, .int .i64 0, .int .u64 0, .int .u64 0, .slice none 0 0] 47 (0, 0))
theorem AccNew.of_blk {b : Nat} {W : World} (h : W.heap[b]? = some (.cells #[.int .i64 0, .int .i64 0, .int .i64 0, .int .u64 0, .int .u64 0, .slice none 0 0] 47 (0, 0))) : AccNew b W := by
  refine ⟨?_, ?_, ?_, ?_, ?_, ?_, ?_, ?_, ?_, ?_, ?_, ?_, h⟩
  all_goals first | simp [World.cell?, h] | simp [World.frozen?, h]
theorem AccNew.later {b : Nat} {W W' : World} (h : AccNew b W) (hb : Below W.heap.size W W') : AccNew b W' := by
  have hlt : b < W.heap.size := (Array.getElem?_eq_some_iff.1 h.blk).1
  exact .of_blk ((hb.block b hlt).trans h.blk)
theorem AccNew.made (w : World) : AccNew w.heap.size (w.alloc (.cells #[.int .i64 0, .int .i64 0, .int .i64 0, .int .u64 0, .int .u64 0, .slice none 0 0] 47)) := .of_blk (Go.Deep.blk_alloc_new _ _)
theorem AccNew.alloc {b : Nat} {W : World} (h : AccNew b W) (o : Obj) : AccNew b (W.alloc o) := h.later ((Below.refl _ _).alloc (Nat.le_refl _) _)

theorem Owns.setCell {base : Nat} {w : World} {v : Value} {xs : List Int} (h : Owns base w v xs) {p : Addr} (hp : p.block < base) (u : Value) : Owns base (w.setCell p u) v xs := by
  obtain ⟨h1, h2⟩ := h
  refine ⟨h1, ?_⟩
  rcases h2 with h2 | ⟨g, cap, cur, hv, hg, hh, r⟩
  · exact .inl h2
  · exact .inr ⟨g, cap, cur, hv, hg, (Below.heap_setCell w p u g (by omega)).trans hh, r⟩

theorem Owns.of_block {base : Nat} {w w' : World} {v : Value} {xs : List Int} (h : Owns base w v xs) (hb : ∀ k, v.ownBlock = some k → w'.heap[k]? = w.heap[k]?) : Owns base w' v xs := by
  obtain ⟨h1, h2⟩ := h
  refine ⟨h1, ?_⟩
  rcases h2 with h2 | ⟨g, cap, cur, hv, hg, hh, r⟩
  · exact .inl h2
  · exact .inr ⟨g, cap, cur, hv, hg, (hb g (by rw [hv]; rfl)).trans hh, r⟩

theorem Owns.ge {base : Nat} {w : World} {v : Value} {xs : List Int} (h : Owns base w v xs) {k : Nat} (hk : v.ownBlock = some k) : base ≤ k ∧ k < w.heap.size := World.ownsRow.lt h k hk

theorem Owns.keepTouch {S : Nat → Prop} {base : Nat} {w w' : World} {v : Value} {xs : List Int} (h : Owns base w v xs) (ht : Touch S w w') (hn : ∀ k, v.ownBlock = some k → ¬ S k) : Owns base w' v xs :=
  h.of_block fun k hk => ht.block k (h.ge hk).2 (hn k hk)

/-- An access is stored in its place: the world behind it. -/
def six (w : World) (b : Nat) (u0 u1 u2 u3 u4 u5 : Value) : World :=
  (((((w.setCell ⟨b, 0, none⟩ u0).setCell ⟨b, 1, none⟩ u1).setCell ⟨b, 2, none⟩ u2).setCell ⟨b, 3, none⟩ u3).setCell ⟨b, 4, none⟩ u4).setCell ⟨b, 5, none⟩ u5

theorem six_own {base b : Nat} {w : World} {v : Value} {xs : List Int} (h : Owns base w v xs) (hb : b < base) (u0 u1 u2 u3 u4 u5 : Value) : Owns base (six w b u0 u1 u2 u3 u4 u5) v xs :=
  (((((h.setCell (p := ⟨b, 0, none⟩) hb u0).setCell (p := ⟨b, 1, none⟩) hb u1).setCell (p := ⟨b, 2, none⟩) hb u2).setCell (p := ⟨b, 3, none⟩) hb u3).setCell (p := ⟨b, 4, none⟩) hb u4).setCell (p := ⟨b, 5, none⟩) hb u5

theorem six_below {B b : Nat} {w W : World} (h : Below B w W) (hb : B ≤ b) (u0 u1 u2 u3 u4 u5 : Value) : Below B w (six W b u0 u1 u2 u3 u4 u5) :=
  (((((h.setCell (p := ⟨b, 0, none⟩) hb u0).setCell (p := ⟨b, 1, none⟩) hb u1).setCell (p := ⟨b, 2, none⟩) hb u2).setCell (p := ⟨b, 3, none⟩) hb u3).setCell (p := ⟨b, 4, none⟩) hb u4).setCell (p := ⟨b, 5, none⟩) hb u5

theorem zeros_len (n : Nat) : (Mb.bl (fun _ => 0) 0 n).length = n := Mb.bl_length _ _ _

/-- Bytes that are 0, in new memory. -/
theorem zeros_made (w : World) (n : Nat) (hn : n ≤ 1073741824) : Owns w.heap.size (w.alloc (.cells (madeCells #[.int .u8 0] n) 5)) (.slice (some ⟨w.heap.size, 0, none⟩) n n) (Mb.bl (fun _ => 0) 0 n) := by
  have e : (Mb.bl (fun _ => 0) 0 n).map (Value.int .u8) = (madeCells #[.int .u8 0] n).toList := by
    apply List.ext_getElem
    · simp [Mb.bl, size_madeCells]
    · intro i h1 h2
      simp [Mb.bl, madeCells, Nat.mod_one]
  unfold Owns
  rw [zeros_len]
  refine ⟨by simp [Mb.bl_length], .inr ⟨w.heap.size, n, _, rfl, Nat.le_refl _, Go.Deep.blk_alloc_new _ _, Nat.le_refl _, by unfold maxLen; omega, ?_, ?_⟩⟩
  · simp [size_madeCells]
  · rw [e, Nat.mul_one, List.take_of_length_le (by simp [size_madeCells])]

theorem make_bytes (n : Nat) (hn : n ≤ 1073741824) (W : World) :
    (Instr.makeSlice 26 (.int .i64 (n : Int)) (.int .i64 (n : Int))).run Try.prog W = .ok (.slice (some ⟨W.heap.size, 0, none⟩) n n) (W.alloc (.cells (madeCells #[.int .u8 0] n) 5)) := by
  obtain ⟨i, hi, hz, hs, hby⟩ := info_parts infoU8
  have hr := run_make (P := Try.prog) W 26 5 i (.int .u8 0) Try.underlying26 hi hz .i64 .i64 (n : Int) (n : Int) (by omega) (Int.le_refl _) (by rw [hby]; omega) (by omega)
  rw [hs] at hr
  simpa [Value.cells] using hr

set_option maxRecDepth 100000 in
set_option maxHeartbeats 400000 in
theorem zeroNext_any (d n : Nat) (a : Nat) (at_ : Int) (w : World) (hc : w.cell? ⟨a, 0, none⟩ = some (.int .i64 at_)) (h0 : -4611686018427387904 ≤ at_) (h1 : at_ ≤ 4611686018427387904) (hd : d ≤ 131072) (hn : n ≤ 131072) :
    Calls Try.prog 48 #[.int .i64 d, .int .i64 n, .pointer (some ⟨a, 0, none⟩)] w (MadeAcc 6 (at_ + d) n (Mb.bl (fun _ => 0) 0 n) w) := by
  have hlt := lt_of_cell hc
  have hmk := make_bytes n (by omega)
  have hw1 : IntKind.i64.wrap (at_ + (d : Int)) = at_ + d := IntWalk.i64_in _ (by omega)
  have HA := AccNew.made w
  have hnew : w.heap.size ≠ a := by omega
  have hz := zeros_made (w.alloc (.cells #[.int .i64 0, .int .i64 0, .int .i64 0, .int .u64 0, .int .u64 0, .slice none 0 0] 47)) n (by omega)
  have HZ := Lib.hid hz
  have HW := (Below.refl w.heap.size w).alloc (Nat.le_refl _) (.cells #[.int .i64 0, .int .i64 0, .int .i64 0, .int .u64 0, .int .u64 0, .slice none 0 0] 47)
  have hc1 : (w.alloc (.cells #[.int .i64 0, .int .i64 0, .int .i64 0, .int .u64 0, .int .u64 0, .slice none 0 0] 47)).cell? ⟨a, 0, none⟩ = some (.int .i64 at_) := (HW.cell (p := ⟨a, 0, none⟩) hlt).trans hc
  clear hz
  go_enter Try.func48, Try.ntmps48
  go_wp2
  generalize w.alloc (.cells #[.int .i64 0, .int .i64 0, .int .i64 0, .int .u64 0, .int .u64 0, .slice none 0 0] 47) = W at hc1 HA HZ HW ⊢
  have hltW := lt_of_cell hc1
  go_region_held3 (fun w' => w'.cell? ⟨a, 0, none⟩ = some (.int .i64 at_)) (go_keep) (first | (go_at_call 47; refine (writeAcc_any _ _ _ _ _).mono ?_; rintro e w1 ⟨rfl, hb1⟩; have hkc : w1.cell? ⟨a, 0, none⟩ = some (.int .i64 at_) := (hb1.cell (p := ⟨a, 0, none⟩) (by simp; omega)).trans (by go_keep); have HA1 := HA.later (((Below.refl _ W).drew.alloc (Nat.le_refl _) _).trans (hb1.mono (by simp))); obtain ⟨a0, a1, a2, a3, a4, a5, f0, f1, f2, f3, f4, f5, _⟩ := HA1))
  go_wp2
  refine bodyPost_ret (v := .agg #[.int .i64 6, .int .i64 (at_ + d), .int .i64 n, .int .u64 0, .int .u64 0, .slice (some ⟨W.heap.size, 0, none⟩) n n]) (by simp [results, Try.results48, go_sem, a0, a1, a2, a3, a4, a5]) rfl ?_
  refine ⟨_, _, _, rfl, (six_own (base := W.heap.size) ?_ (by have := HA.blk; exact (Array.getElem?_eq_some_iff.1 this).1) _ _ _ _ _ _).down HW.size, six_below ((HW.trans ?_)) (Nat.le_refl _) _ _ _ _ _ _⟩
  · exact HZ.out.drew.below hb1
  · exact ((Below.refl _ W).drew.alloc HW.size _).trans (hb1.mono (by have := HW.size; simp; omega))

theorem cut_bl (f : Nat → Nat) (d n L : Nat) (h : d + n ≤ L) : ((Mb.bl f 0 L).drop d).take n = Mb.bl f d n := by
  have e : L = d + (n + (L - d - n)) := by omega
  rw [e, Mb.bl_append, Mb.bl_append, List.drop_left' (Mb.bl_length _ _ _), List.take_left' (by rw [Mb.bl_length]), Nat.zero_add]

set_option maxRecDepth 100000 in
set_option maxHeartbeats 400000 in
theorem inNext_any (d n L cap : Nat) (a b g : Nat) (f : Nat → Nat) (at_ : Int) (w : World) (hc : w.cell? ⟨a, 0, none⟩ = some (.int .i64 at_)) (hk : w.cell? ⟨b, 0, none⟩ = some (.slice (some ⟨g, 0, none⟩) L cap))
    (hB : BytesAt w (.slice (some ⟨g, 0, none⟩) L cap) (Mb.bl f 0 L)) (h0 : -4611686018427387904 ≤ at_) (h1 : at_ ≤ 4611686018427387904) (hn : 0 < n) (hL : L ≤ 131072) (hdn : d + n ≤ L) (hcap : L ≤ cap) (hm : cap ≤ maxLen) :
    Calls Try.prog 46 #[.int .i64 d, .int .i64 n, .pointer (some ⟨a, 0, none⟩), .pointer (some ⟨b, 0, none⟩)] w (MadeAcc 6 (at_ + d) n (Mb.bl f d n) w) := by
  have hlt := lt_of_cell hc
  have hltb := lt_of_cell hk
  have hm2 : cap ≤ 9223372036854775807 := by unfold maxLen at hm; omega
  have hw1 : IntKind.i64.wrap (at_ + (d : Int)) = at_ + d := IntWalk.i64_in _ (by omega)
  have hw2 : IntKind.i64.wrap ((d : Int) + (n : Int)) = d + n := IntWalk.i64_in _ (by omega)
  have hs1 : (0 : Int) ≤ d := by omega
  have hs2 : (d : Int) ≤ d + n := by omega
  have hs3 : (d : Int) + n ≤ cap := by omega
  have hs4 : ((d : Int) + (n : Int)).toNat - d = n := by omega
  have hs5 : cap ≠ d := by omega
  have HA := AccNew.made w
  have HW := (Below.refl w.heap.size w).alloc (Nat.le_refl _) (.cells #[.int .i64 0, .int .i64 0, .int .i64 0, .int .u64 0, .int .u64 0, .slice none 0 0] 47)
  have hc1 : (w.alloc (.cells #[.int .i64 0, .int .i64 0, .int .i64 0, .int .u64 0, .int .u64 0, .slice none 0 0] 47)).cell? ⟨a, 0, none⟩ = some (.int .i64 at_) := (HW.cell (p := ⟨a, 0, none⟩) hlt).trans hc
  have hk1 : (w.alloc (.cells #[.int .i64 0, .int .i64 0, .int .i64 0, .int .u64 0, .int .u64 0, .slice none 0 0] 47)).cell? ⟨b, 0, none⟩ = some (.slice (some ⟨g, 0, none⟩) L cap) := (HW.cell (p := ⟨b, 0, none⟩) hltb).trans hk
  have hnew : w.heap.size ≠ a := by omega
  have hnew2 : w.heap.size ≠ b := by omega
  have HB := Lib.hid (hB.below HW)
  clear hB
  go_enter Try.func46, Try.ntmps46
  go_wp2
  generalize w.alloc (.cells #[.int .i64 0, .int .i64 0, .int .i64 0, .int .u64 0, .int .u64 0, .slice none 0 0] 47) = W at hc1 hk1 HA HB HW ⊢
  have hltW := lt_of_cell hc1
  have hltbW := lt_of_cell hk1
  go_region_held3 (fun w' => w'.cell? ⟨a, 0, none⟩ = some (.int .i64 at_) ∧ w'.cell? ⟨b, 0, none⟩ = some (.slice (some ⟨g, 0, none⟩) L cap)) (go_keep)
    (first
      | (go_at_call 44; refine (clone_sl _ _ _ (Mb.bl f d n) _ ?_ ?_).mono ?_; (have := HB.out.cut d n (cap - d) (by rw [Mb.bl_length]; omega); rw [Nat.zero_add, cut_bl f d n L hdn] at this; exact this.drew); omega; rintro e w1 ⟨A5, c5, rfl, ho1, hb1⟩; have hkc1 : w1.cell? ⟨a, 0, none⟩ = some (.int .i64 at_) := (hb1.cell (p := ⟨a, 0, none⟩) (by simp; omega)).trans (by go_keep); have hkb1 : w1.cell? ⟨b, 0, none⟩ = some (.slice (some ⟨g, 0, none⟩) L cap) := (hb1.cell (p := ⟨b, 0, none⟩) (by simp; omega)).trans (by go_keep))
      | (go_at_call 47; refine (writeAcc_any _ _ _ _ _).mono ?_; rintro e w2 ⟨rfl, hb2⟩; have hkc2 : w2.cell? ⟨a, 0, none⟩ = some (.int .i64 at_) := (hb2.cell (p := ⟨a, 0, none⟩) (by have := hb1.size; simp at this; simp; omega)).trans (by go_keep); have hkb2 : w2.cell? ⟨b, 0, none⟩ = some (.slice (some ⟨g, 0, none⟩) L cap) := (hb2.cell (p := ⟨b, 0, none⟩) (by have := hb1.size; simp at this; simp; omega)).trans (by go_keep); have HA1 := HA.later ((below_drew hb1).trans (hb2.mono (below_drew hb1).size)); obtain ⟨a0, a1, a2, a3, a4, a5, f0, f1, f2, f3, f4, f5, _⟩ := HA1))
  go_wp2
  refine bodyPost_ret (v := .agg #[.int .i64 6, .int .i64 (at_ + d), .int .i64 n, .int .u64 0, .int .u64 0, .slice A5 n c5]) (by simp [results, Try.results46, go_sem, a0, a1, a2, a3, a4, a5]) rfl ?_
  refine ⟨_, _, _, rfl, (six_own (base := W.heap.size) (ho1.below hb2) (by have := HA.blk; exact (Array.getElem?_eq_some_iff.1 this).1) _ _ _ _ _ _).down HW.size, six_below ((HW.trans ?_)) (Nat.le_refl _) _ _ _ _ _ _⟩
  exact ((below_drew hb1).trans (hb2.mono (below_drew hb1).size)).mono HW.size
end Go.Proofs.Ytijgfaggakbajaa
namespace Go.Proofs.Ytijgfaggakbajaa
open Go.RowKit

/-- What a copy does: it writes the bytes f at a place, or zeros, or it reads. -/
inductive Kd where
  | wr (at_ : Int) (f : Nat → Nat)
  | ze (at_ : Int)
  | rd (at_ : Int)

namespace Kd
def place : Kd → Int
  | .wr a _ => a
  | .ze a => a
  | .rd a => a
/-- The access' kind. -/
def kind : Kd → Int
  | .wr _ _ => 6
  | .ze _ => 6
  | .rd _ => 5
/-- The bytes that it writes. -/
def bytes : Kd → Nat → Nat → List Int
  | .wr _ f, d, c => Mb.bl f d c
  | .ze _, d, c => Mb.bl (fun _ => 0) d c
  | .rd _, _, _ => []
/-- Does it read? -/
def reads : Kd → Bool
  | .wr _ _ => false
  | .ze _ => false
  | .rd _ => true
end Kd

/-- The blocks of a machine that are written once. -/
def Fixed (base top g k : Nat) : Prop := base ≤ k ∧ k < top ∧ k ≠ g

/-- The closures of a machine that is to copy n bytes. -/
def Body (w : World) (base top g n : Nat) : Kd → Value → Value → Prop
  | .wr at_ f, nx, th => ∃ a b gk cap, nx = .func (.func 46) #[] #[.pointer (some ⟨a, 0, none⟩), .pointer (some ⟨b, 0, none⟩)] ∧ th = .func (.func 67) #[] #[] ∧
      Fixed base top g a ∧ Fixed base top g b ∧ Fixed base top g gk ∧ w.cell? ⟨a, 0, none⟩ = some (.int .i64 at_) ∧ w.cell? ⟨b, 0, none⟩ = some (.slice (some ⟨gk, 0, none⟩) n cap) ∧
      BytesAt w (.slice (some ⟨gk, 0, none⟩) n cap) (Mb.bl f 0 n) ∧ n ≤ cap ∧ cap ≤ maxLen
  | .ze at_, nx, th => ∃ a, nx = .func (.func 48) #[] #[.pointer (some ⟨a, 0, none⟩)] ∧ th = .func (.func 67) #[] #[] ∧ Fixed base top g a ∧ w.cell? ⟨a, 0, none⟩ = some (.int .i64 at_)
  | .rd at_, nx, th => ∃ a b, nx = .func (.func 50) #[] #[.pointer (some ⟨a, 0, none⟩)] ∧ th = .func (.func 51) #[] #[.pointer (some ⟨b, 0, none⟩)] ∧ Fixed base top g a ∧ Fixed base top g b ∧ w.cell? ⟨a, 0, none⟩ = some (.int .i64 at_) ∧ w.cell? ⟨b, 0, none⟩ = some (.pointer (some ⟨g, 0, none⟩))

theorem BytesAt.of_block {w w' : World} {g o n cap : Nat} {xs : List Int} (h : BytesAt w (.slice (some ⟨g, o, none⟩) n cap) xs) (hs : w.heap.size ≤ w'.heap.size) (hb : w'.heap[g]? = w.heap[g]?) : BytesAt w' (.slice (some ⟨g, o, none⟩) n cap) xs := by
  obtain ⟨A, c, hv, h⟩ := h
  refine ⟨A, c, hv, fun hp => ?_⟩
  obtain ⟨b, off, e, h3, h4⟩ := h hp
  injection hv with e1 _ _
  rw [← e1] at e
  injection e with e
  injection e with e5 e6
  subst e5 e6
  rw [← e1]
  exact ⟨g, o, rfl, by omega, fun i hi => (World.cell?_of_block (w := w) (a := ⟨g, o + i, none⟩) hb).trans (h4 i hi)⟩

theorem Body.keep {w w' : World} {base top g n : Nat} {kd : Kd} {nx th : Value} (h : Body w base top g n kd nx th) (hs : w.heap.size ≤ w'.heap.size) (hb : ∀ k, Fixed base top g k → w'.heap[k]? = w.heap[k]?) : Body w' base top g n kd nx th := by
  have hc : ∀ k o, Fixed base top g k → w'.cell? ⟨k, o, none⟩ = w.cell? ⟨k, o, none⟩ := fun k o hk => World.cell?_of_block (w := w) (a := ⟨k, o, none⟩) (hb k hk)
  cases kd with
  | wr at_ f =>
    obtain ⟨a, b, gk, cap, e1, e2, ka, kb, kg, h1, h2, h3, h4, h5⟩ := h
    exact ⟨a, b, gk, cap, e1, e2, ka, kb, kg, (hc a 0 ka).trans h1, (hc b 0 kb).trans h2, h3.of_block hs (hb gk kg), h4, h5⟩
  | ze at_ =>
    obtain ⟨a, e1, e2, ka, h1⟩ := h
    exact ⟨a, e1, e2, ka, (hc a 0 ka).trans h1⟩
  | rd at_ =>
    obtain ⟨a, b, e1, e2, ka, kb, h1, h2⟩ := h
    exact ⟨a, b, e1, e2, ka, kb, (hc a 0 ka).trans h1, (hc b 0 kb).trans h2⟩

/-- A machine stands at block g; its other blocks lie from base on, below top; d bytes are copied, r are left; it read the bytes ys, which lie above. -/
structure Cp (w : World) (base top g : Nat) (kd : Kd) (d r : Nat) (v : Value) (ys : List Int) : Prop where
  above : base ≤ g
  under : g < top
  there : top ≤ w.heap.size
  few : d + r ≤ 131072
  near : -4611686018427387904 ≤ kd.place ∧ kd.place ≤ 4611686018427387904
  head : ∃ cv nx th, w.heap[g]? = some (.cells #[cv, .int .i64 d, nx, th, v] 113 (0, 0)) ∧ Parts (Fixed base top g) w cv (Cy.cks r) ∧ (0 < d + r → Body w base top g (d + r) kd nx th)
  own : Owns top w v ys

namespace Cp
variable {w w' : World} {base top g d r : Nat} {kd : Kd} {v : Value} {ys : List Int}
theorem keep (h : Cp w base top g kd d r v ys) (hs : w.heap.size ≤ w'.heap.size) (hb : ∀ k, base ≤ k → k < top → w'.heap[k]? = w.heap[k]?) (ho : ∀ k, v.ownBlock = some k → w'.heap[k]? = w.heap[k]?) : Cp w' base top g kd d r v ys := by
  obtain ⟨cv, nx, th, h1, h2, h3⟩ := h.head
  exact ⟨h.above, h.under, Nat.le_trans h.there hs, h.few, h.near, ⟨cv, nx, th, (hb g h.above h.under).trans h1, h2.of_blocks hs fun k hk => hb k hk.1 hk.2.1, fun hn => (h3 hn).keep hs fun k hk => hb k hk.1 hk.2.1⟩, h.own.of_block ho⟩
theorem touch {S : Nat → Prop} (h : Cp w base top g kd d r v ys) (ht : Touch S w w') (hb : ∀ k, base ≤ k → k < top → ¬ S k) (ho : ∀ k, v.ownBlock = some k → ¬ S k) : Cp w' base top g kd d r v ys :=
  h.keep ht.size (fun k h1 h2 => ht.block k (Nat.lt_of_lt_of_le h2 h.there) (hb k h1 h2)) fun k hk => ht.block k (h.own.ge hk).2 (ho k hk)
theorem below (h : Cp w base top g kd d r v ys) (hb : Below w.heap.size w w') : Cp w' base top g kd d r v ys := h.touch (S := fun _ => False) (Touch.of_below hb) (fun _ _ _ => id) fun _ _ => id
theorem lt (h : Cp w base top g kd d r v ys) : g < w.heap.size := Nat.lt_of_lt_of_le h.under h.there
theorem alloc (h : Cp w base top g kd d r v ys) (o : Obj) : Cp (w.alloc o) base top g kd d r v ys := h.below ((Below.refl _ _).alloc (Nat.le_refl _) _)
theorem drew (h : Cp w base top g kd d r v ys) : Cp w.drew base top g kd d r v ys := h.below (Below.refl _ _).drew
end Cp

/-- A machine told its next access: it is of that kind, with those bytes in new memory. -/
def NextIs (kd : Kd) (d c : Nat) (w : World) (e : Ending) (w' : World) : Prop :=
  ∃ A l cp, e = .returned (.tuple #[.agg #[.int .i64 kd.kind, .int .i64 (kd.place + d), .int .i64 c, .int .u64 0, .int .u64 0, .slice A l cp], .bool true]) ∧ Owns w.heap.size w' (.slice A l cp) (kd.bytes d c) ∧ Below w.heap.size w w'

/-- .. or it is at its end. -/
def NextNo (w : World) (e : Ending) (w' : World) : Prop :=
  e = .returned (.tuple #[.agg #[.int .i64 0, .int .i64 0, .int .i64 0, .int .u64 0, .int .u64 0, .slice none 0 0], .bool false]) ∧ Below w.heap.size w w'

set_option maxRecDepth 100000 in
set_option maxHeartbeats 400000 in
theorem stepsNext_no {w : World} {base top g d : Nat} {kd : Kd} {v : Value} {ys : List Int} (h : Cp w base top g kd d 0 v ys) :
    Calls Try.prog 110 #[.pointer (some ⟨g, 0, none⟩)] w (NextNo w) := by
  obtain ⟨cv, nx, th, h1, ⟨A, cap, rfl, _, _, _⟩, _⟩ := h.head
  have hlt := h.lt
  have hc : w.cell? ⟨g, 0, none⟩ = some (.slice A 0 cap) := by simp [World.cell?, h1, Cy.cks_zero]
  clear h h1
  go_enter Try.func110, Try.ntmps110
  go_wp2
  refine bodyPost_ret (v := .tuple #[.agg #[.int .i64 0, .int .i64 0, .int .i64 0, .int .u64 0, .int .u64 0, .slice none 0 0], .bool false]) (by simp [results, Try.results110, go_sem]) rfl ?_
  exact ⟨rfl, (Below.refl _ w).alloc (Nat.le_refl _) _⟩
end Go.Proofs.Ytijgfaggakbajaa
