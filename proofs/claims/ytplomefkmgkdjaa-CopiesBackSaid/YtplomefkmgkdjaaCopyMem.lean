/-
  Bytes appended to a row of the call's own, whatever they are (none, too), and where the row lies; a slice of bytes cloned.
-/
import Derived.Test.YtplomefkmgkdjaaBytesMem
import Derived.Test.YtplomefkmgkdjaaBytesAt
import Derived.Test.YtplomefkmgkdjaaMembufMem
import Derived.RegionTactic
import Derived.Lib.SliceRun
import Derived.OwnWalk
namespace Go.Proofs.Ytplomefkmgkdjaa
open Go.RowKit

/-- Onto a row of the call's own nothing at all is appended. -/
theorem run_app_none {w : World} {base : Nat} {v : Value} {xs : List Int} (hv : Owns base w v xs) (c : Nat) (ty : TypeId) :
    (Builtin.append_ #[22, 22] ty #[v, .slice none 0 c]).run Try.prog w = .ok v w := by
  obtain ⟨i0, hi, _⟩ := info_parts infoU8
  have ht := Try.underlying22
  rcases hv.2 with ⟨rfl, hx⟩ | ⟨g, cap, cur, rfl, _, _, hnc, _⟩
  · simp [Builtin.append_, run_underlying ht, sizeOf, typeInfo, hi, Builtin.lenOf, Builtin.firstCells]
  · simp [Builtin.append_, run_underlying ht, sizeOf, typeInfo, hi, Builtin.lenOf, Builtin.firstCells, hnc, storeCells]

theorem run_app {w : World} {base : Nat} {v y : Value} {xs ys : List Int} (hv : Owns base w v xs) (hy : BytesAt w y ys) (hl : xs.length + ys.length ≤ 1073741824) (hb : base ≤ w.heap.size) (ty : TypeId) :
    ∃ v' w', (Builtin.append_ #[22, 22] ty #[v, y]).run Try.prog w = .ok v' w' ∧ Owns base w' v' (xs ++ ys) ∧ w.grownBy w' v.ownBlock ∧ (v'.ownBlock = v.ownBlock ∨ v'.ownBlock = some w.heap.size) := by
  obtain ⟨i0, hi, hz0, hz1, hz2⟩ := info_parts infoU8
  obtain ⟨A, cap, rfl, hc⟩ := hy
  by_cases hp : 0 < ys.length
  · obtain ⟨b, off, rfl, hlt, hc⟩ := hc hp
    obtain ⟨v', w', hrun, h2, h3, _, h5⟩ := run_append_own_at (P := Try.prog) w base 22 ty 5 i0 (.int .u8 0) 1 1 Try.underlying22 hi hz0 hz1 hz2 rfl (by decide) v xs.length _ hv ⟨b, off, none⟩ ys.length cap (ys.map (Value.int .u8)) (by simp) (by
        intro j u hj
        rw [List.getElem?_map] at hj
        by_cases hjl : j < ys.length
        · rw [List.getElem?_eq_getElem hjl] at hj
          obtain rfl : Value.int .u8 ys[j] = u := by simpa using hj
          have e : (⟨b, off, none⟩ : Addr).add j = ⟨b, off + j, none⟩ := by unfold Addr.add; split <;> simp_all
          rw [e, hc j hjl]
          simp [List.getD, hjl]
        · rw [List.getElem?_eq_none (by omega)] at hj
          simp at hj) (by
        intro u hu
        obtain ⟨z, _, rfl⟩ := List.mem_map.1 hu
        rfl) (by unfold maxLen; omega) (by omega) hb
    refine ⟨v', w', hrun, ?_, h3, h5⟩
    unfold Owns
    rw [List.length_append, List.map_append]
    exact h2
  · have hys : ys = [] := List.eq_nil_of_length_eq_zero (by omega)
    subst hys
    cases A with
    | none => exact ⟨v, w, run_app_none hv cap ty, by simpa using hv, World.grownBy.refl w _, .inl rfl⟩
    | some a =>
      obtain ⟨v', w', hrun, h2, h3, _, h5⟩ := run_append_own_at (P := Try.prog) w base 22 ty 5 i0 (.int .u8 0) 1 1 Try.underlying22 hi hz0 hz1 hz2 rfl (by decide) v xs.length _ hv a 0 cap [] (by simp) (by simp) (by simp) (by unfold maxLen; omega) (by omega) hb
      refine ⟨v', w', hrun, ?_, h3, h5⟩
      simpa [Owns] using h2

/-- What the appending left. -/
structure App (base : Nat) (v : Value) (zs : List Int) (w : World) (v' : Value) (w' : World) : Prop where
  own : Owns base w' v' zs
  grown : w.grownBy w' v.ownBlock
  lies : v'.ownBlock = v.ownBlock ∨ v'.ownBlock = some w.heap.size

theorem wp_app_any {w : World} {o : Oper} {a : Act} {K : Act → World → Prop} {Q : Exit → Act → World → Prop} (s x : Operand)
    (ho : o.op = .call { callee := .builtin .append, args := #[s, x], argTypes := #[22, 22] }) (base : Nat) (v y : Value) (xs ys : List Int)
    (hs : a.eval s = v) (hx : a.eval x = y) (hv : Owns base w v xs) (hy : BytesAt w y ys) (hl : xs.length + ys.length ≤ 1073741824) (hb : base ≤ w.heap.size)
    (h : ∀ v' w', App base v (xs ++ ys) w v' w' → K (a.put o.dst v') w') : o.wp Try.prog a w K Q := by
  obtain ⟨v', w', hrun, h2, h3, h4⟩ := run_app hv hy hl hb o.type
  unfold Oper.wp execOp
  simp only [ho, resolve, invoke, builtin, Sem.run_bind, Sem.run_pure, Result.andThen_ok, List.map_toArray, List.map_cons, List.map_nil, hs, hx, hrun]
  exact h v' w' ⟨h2, h3, h4⟩

theorem wpList_app_any {w : World} {ops : Array Oper} {rest : List Oper} {o : Oper} {a : Act} {Q : Exit → Act → World → Prop} (hgd : o.guard = none) (s x : Operand)
    (ho : o.op = .call { callee := .builtin .append, args := #[s, x], argTypes := #[22, 22] }) (base : Nat) (v y : Value) (xs ys : List Int)
    (hs : a.eval s = v) (hx : a.eval x = y) (hv : Owns base w v xs) (hy : BytesAt w y ys) (hl : xs.length + ys.length ≤ 1073741824) (hb : base ≤ w.heap.size)
    (h : ∀ v' w', App base v (xs ++ ys) w v' w' → wpList Try.prog ops Q rest (a.put o.dst v') w') : wpList Try.prog ops Q (o :: rest) a w :=
  wpList_plain hgd fun _ hK => wp_app_any s x ho base v y xs ys hs hx hv hy hl hb fun v' w' h2 => hK _ _ (h v' w' h2)

theorem step_app_any {w : World} {ops : Array Oper} {o : Oper} {a : Act} {K : Act → World → Prop} {Q : Exit → Act → World → Prop} {E : Prop} (hgd : o.guard = none) (s x : Operand)
    (ho : o.op = .call { callee := .builtin .append, args := #[s, x], argTypes := #[22, 22] }) (base : Nat) (v y : Value) (xs ys : List Int)
    (hs : a.eval s = v) (hx : a.eval x = y) (hv : Owns base w v xs) (hy : BytesAt w y ys) (hl : xs.length + ys.length ≤ 1073741824) (hb : base ≤ w.heap.size)
    (h : ∀ v' w', App base v (xs ++ ys) w v' w' → K (a.put o.dst v') w') : if Region.wanted o (yielded ops a.tmps) = true then Oper.wp Try.prog o a w K Q else E := by
  have hw : Region.wanted o (yielded ops a.tmps) = true := by simp [Region.wanted, hgd]
  rw [if_pos hw]
  exact wp_app_any s x ho base v y xs ys hs hx hv hy hl hb h

theorem App.below {base : Nat} {v v' : Value} {xs zs : List Int} {w w' W : World} (h : App base v zs w v' w') (hv : Owns base w v xs) (hW : Below base W w) (hb : base ≤ w.heap.size) : Below base W w' :=
  hW.grown h.grown hb fun k hk => (hv.lt k hk).1

/-- The call made the bytes xs in a block of its own, or none. -/
def MadeOwn (xs : List Int) (w : World) (e : Ending) (w' : World) : Prop :=
  ∃ v, e = .returned v ∧ Owns w.heap.size w' v xs ∧ Below w.heap.size w w'

theorem own_empty (w : World) : Owns w.heap.size (w.alloc (.cells #[] 5)) (.slice (some ⟨w.heap.size, 0, none⟩) 0 0) [] :=
  ⟨by simp, .inr ⟨w.heap.size, 0, #[], rfl, Nat.le_refl _, Go.Deep.blk_alloc_new _ _, Nat.le_refl _, by unfold maxLen; decide, by simp, by simp⟩⟩

set_option maxRecDepth 100000 in
set_option maxHeartbeats 400000 in
theorem clone_any (A : Option Addr) (L cap : Nat) (xs : List Int) (w : World) (hb : BytesAt w (.slice A L cap) xs) (hl : L ≤ 1073741824) :
    Calls Try.prog 22 #[.slice A L cap] w (MadeOwn xs w) := by
  have heq := fun (w : World) (a : Option Addr) => Lib.run_eql_slice_nil (P := Try.prog) w 22 5 a L cap 0 0 Try.underlying22
  have hL : xs.length = L := by obtain ⟨_, _, e, _⟩ := hb; injection e with _ e _; exact e.symm
  have HL := Lib.hid hL
  have HB := Lib.hid hb
  have hown := Lib.hid (own_empty w)
  cases A with
  | none =>
    have hx : xs = [] := by
      by_cases hp : 0 < xs.length
      · obtain ⟨_, _, e, h⟩ := hb
        obtain ⟨_, _, e2, _⟩ := h hp
        injection e with e _ _
        rw [← e] at e2
        cases e2
      · exact List.eq_nil_of_length_eq_zero (by omega)
    subst hx
    clear hL hb
    go_enter Try.func22, Try.ntmps22
    go_wp2
    go_ret
    exact ⟨_, rfl, World.ownsRow_nil _ _ _ _, Below.refl _ _⟩
  | some a =>
    clear hL hb
    go_enter Try.func22, Try.ntmps22
    go_wp2_with (at_builtin; refine wpList_app_any rfl _ _ rfl w.heap.size _ _ [] xs rfl rfl hown.out (HB.out.below ((Below.refl _ _).alloc (Nat.le_refl _) _)) (by have := HL.out; simp; omega) (by simp) ?_; intro v' w1 happ)
    go_ret
    refine ⟨_, rfl, by simpa using happ.own, ?_⟩
    exact happ.below hown.out ((Below.refl _ _).alloc (Nat.le_refl _) _) (by simp)

/-- .. in the walk's spelling. -/
def MadeSl (L : Nat) (xs : List Int) (w : World) (e : Ending) (w' : World) : Prop :=
  ∃ A c, e = .returned (.slice A L c) ∧ Owns w.heap.size w' (.slice A L c) xs ∧ Below w.heap.size w w'

theorem clone_sl (A : Option Addr) (L cap : Nat) (xs : List Int) (w : World) (hb : BytesAt w (.slice A L cap) xs) (hl : L ≤ 1073741824) :
    Calls Try.prog 22 #[.slice A L cap] w (MadeSl L xs w) := by
  have hL : xs.length = L := by obtain ⟨_, _, e, _⟩ := hb; injection e with _ e _; exact e.symm
  refine (clone_any A L cap xs w hb hl).mono ?_
  rintro e w' ⟨v, rfl, ho, hbl⟩
  obtain ⟨A5, c5, hv, _⟩ := ho.bytes
  subst hv
  rw [hL] at ho ⊢
  exact ⟨A5, c5, rfl, ho, hbl⟩
end Go.Proofs.Ytplomefkmgkdjaa
