/-
  Layer 6's small calls, walked: whether there is an actor, whether a pick may be, the clock, who is dead, who is at its end, silence.
  Layer 6's check of a pick, walked.
  Layer 6's ticks, walked: a machine is told the clock if it is one that is told; all that live are.
-/
import Derived.Test.YtijgfaggakbajaaSchMem
import Derived.Deep.QuietTactic
import Derived.BigQuiet
import Derived.Deep.RegionHeld3
import Derived.LoopTactic
import Derived.Stop.Asserts
namespace Go.Proofs.Ytijgfaggakbajaa
open Go.RowKit

/-- Is there such an actor? -/
def hasB (na : Nat) (i : Int) : Bool := decide (0 ≤ i) && decide (i < (na : Int))
theorem hasB_yes {na : Nat} {i : Int} (h : hasB na i = true) : 0 ≤ i ∧ i < (na : Int) := by simpa [hasB] using h
theorem hasB_no {na : Nat} {i : Int} (h : hasB na i = false) : i < 0 ∨ (na : Int) ≤ i := by
  simp [hasB] at h
  omega

set_option maxRecDepth 100000 in
set_option maxHeartbeats 400000 in
theorem has_any {w : World} {o : Nat → Pt} {gw ga gb hb : Nat} {ax : Nat → Value} {tv : Value} {ts : List Tx} {st : St} (h : Sw w o gw ga gb hb ax tv ts st) (i : Int) :
    Calls Try.prog 42 #[.pointer (some ⟨gw, 0, none⟩), .int .i64 i] w fun e w' => e = .returned (.bool (hasB st.na i)) ∧ w = w' := by
  have hc := h.w1
  generalize st.na = na at hc ⊢
  clear h
  unfold hasB
  by_cases h0 : 0 ≤ i
  · by_cases h1 : i < (na : Int)
    · rw [decide_eq_true h0, decide_eq_true h1]
      go_enter Try.func42, Try.ntmps42
      go_wp2
      go_ret
      exact ⟨rfl, rfl⟩
    · rw [decide_eq_true h0, decide_eq_false h1]
      go_enter Try.func42, Try.ntmps42
      go_wp2
      go_ret
      exact ⟨rfl, rfl⟩
  · rw [decide_eq_false h0]
    go_enter Try.func42, Try.ntmps42
    go_wp2
    go_ret
    exact ⟨rfl, rfl⟩

set_option maxRecDepth 100000 in
set_option maxHeartbeats 400000 in
theorem clock_any {w : World} {o : Nat → Pt} {gw ga gb hb : Nat} {ax : Nat → Value} {tv : Value} {ts : List Tx} {st : St} (h : Sw w o gw ga gb hb ax tv ts st) :
    Calls Try.prog 16 #[.pointer (some ⟨gw, 0, none⟩)] w fun e w' => e = .returned (.int .i64 st.clock) ∧ w = w' := by
  have hc := h.w2
  clear h
  go_enter Try.func16, Try.ntmps16
  go_wp2
  go_ret
  exact ⟨rfl, rfl⟩

/-- Is there such an actor, and is it dead? -/
def St.deadB (st : St) (i : Int) : Bool := hasB st.na i && st.dead i.toNat

set_option maxRecDepth 100000 in
set_option maxHeartbeats 400000 in
theorem dead_any {w : World} {o : Nat → Pt} {gw ga gb hb : Nat} {ax : Nat → Value} {tv : Value} {ts : List Tx} {st : St} (h : Sw w o gw ga gb hb ax tv ts st) (i : Int) :
    Calls Try.prog 20 #[.pointer (some ⟨gw, 0, none⟩), .int .i64 i] w fun e w' => e = .returned (.bool (st.deadB i)) ∧ w = w' := by
  have HH := Lib.hid h
  have hc := h.w1
  unfold St.deadB
  by_cases hi : hasB st.na i = true
  · obtain ⟨h0, h1⟩ := hasB_yes hi
    rw [hi]
    obtain ⟨k, rfl⟩ := Int.eq_ofNat_of_zero_le h0
    have hd := h.adead (i := k) (by omega)
    have hfew := h.few
    rw [Int.toNat_natCast] at *
    generalize st.dead k = d at hd ⊢
    rw [Bool.true_and]
    have HI := Lib.hid hi
    clear h hi
    go_enter Try.func20, Try.ntmps20
    go_wp2
    go_ret
    exact ⟨rfl, rfl⟩
  · have hi2 : hasB st.na i = false := by simpa using hi
    rw [hi2, Bool.false_and]
    have HI := Lib.hid hi2
    clear h hi hi2
    go_enter Try.func20, Try.ntmps20
    go_wp2_with (go_at_call 42; refine (has_any HH.out i).mono ?_; rintro e w' ⟨rfl, rfl⟩; rw [HI.out])
    go_ret
    exact ⟨rfl, rfl⟩

/-- Is there such an actor, and is it at its end? -/
def St.endB (st : St) (i : Int) : Bool := hasB st.na i && (st.ms i.toNat).next.isNone

set_option maxRecDepth 100000 in
set_option maxHeartbeats 400000 in
theorem ended_any {w : World} {o : Nat → Pt} {gw ga gb hb : Nat} {ax : Nat → Value} {tv : Value} {ts : List Tx} {st : St} (h : Sw w o gw ga gb hb ax tv ts st) (i : Int) :
    Calls Try.prog 21 #[.pointer (some ⟨gw, 0, none⟩), .int .i64 i] w (Made (.bool (st.endB i)) w) := by
  have HH := Lib.hid h
  have hc := h.w1
  unfold St.endB
  by_cases hi : hasB st.na i = true
  · obtain ⟨h0, h1⟩ := hasB_yes hi
    rw [hi]
    obtain ⟨k, rfl⟩ := Int.eq_ofNat_of_zero_le h0
    have hd := h.amach (i := k) (by omega)
    have HN := Lib.hid (next_told (h.mach k (by omega)) (fun q hq => h.lt q (by rw [hq]; simp)))
    have hfew := h.few
    rw [Int.toNat_natCast] at *
    generalize st.ms k = s at HN ⊢
    rw [Bool.true_and]
    have HI := Lib.hid hi
    clear h hi
    cases hs : s.next with
    | none =>
      rw [hs] at HN
      clear hs
      go_enter Try.func21, Try.ntmps21
      go_wp2_with (first | (go_at_call 42; refine (has_any HH.out k).mono ?_; rintro e w' ⟨rfl, rfl⟩; rw [HI.out]) | (go_at_call 30; refine HN.out.mono ?_; rintro e w1 ⟨hb1, rfl⟩))
      go_ret
      exact ⟨rfl, hb1.alloc hb1.size _⟩
    | some a =>
      rw [hs] at HN
      clear hs
      go_enter Try.func21, Try.ntmps21
      go_wp2_with (first | (go_at_call 42; refine (has_any HH.out k).mono ?_; rintro e w' ⟨rfl, rfl⟩; rw [HI.out]) | (go_at_call 30; refine HN.out.mono ?_; rintro e w1 ⟨hb1, A, l, c, rfl, _⟩))
      go_ret
      exact ⟨rfl, hb1.alloc hb1.size _⟩
  · have hi2 : hasB st.na i = false := by simpa using hi
    rw [hi2, Bool.false_and]
    have HI := Lib.hid hi2
    clear h hi hi2
    go_enter Try.func21, Try.ntmps21
    go_wp2_with (go_at_call 42; refine (has_any HH.out i).mono ?_; rintro e w' ⟨rfl, rfl⟩; rw [HI.out])
    go_ret
    exact ⟨rfl, Below.refl _ _⟩

set_option maxRecDepth 100000 in
set_option maxHeartbeats 400000 in
theorem silence_no {w : World} {o : Nat → Pt} {gw ga gb hb : Nat} {ax : Nat → Value} {tv : Value} {ts : List Tx} {st : St} (h : Sw w o gw ga gb hb ax tv ts st) (i : Int) (hi : hasB st.na i = false) :
    Calls Try.prog 24 #[.pointer (some ⟨gw, 0, none⟩), .int .i64 i] w fun e w' => e = .returned (.tuple #[]) ∧ w = w' := by
  have HH := Lib.hid h
  have HI := Lib.hid hi
  clear h hi
  go_enter Try.func24, Try.ntmps24
  go_wp2_with (go_at_call 42; refine (has_any HH.out i).mono ?_; rintro e w' ⟨rfl, rfl⟩; rw [HI.out])
  go_end0
  exact ⟨rfl, rfl⟩

set_option maxRecDepth 100000 in
set_option maxHeartbeats 400000 in
theorem silence_yes {w : World} {o : Nat → Pt} {gw ga gb hb : Nat} {ax : Nat → Value} {tv : Value} {ts : List Tx} {st : St} (h : Sw w o gw ga gb hb ax tv ts st) (k : Nat) (hk : k < st.na) :
    Calls Try.prog 24 #[.pointer (some ⟨gw, 0, none⟩), .int .i64 k] w fun e w' => e = .returned (.tuple #[]) ∧ w.setCell ⟨ga, k * 2 + 1, none⟩ (.bool true) = w' := by
  have HH := Lib.hid h
  have HI : Hid (hasB st.na (k : Int) = true) := Lib.hid (by simp [hasB]; omega)
  have hc := h.w1
  have hd := h.adead hk
  have hz := h.afree (k * 2 + 1)
  have hk2 : (k : Int) < (st.na : Int) := by omega
  clear h
  go_enter Try.func24, Try.ntmps24
  go_wp2_with (go_at_call 42; refine (has_any HH.out k).mono ?_; rintro e w' ⟨rfl, rfl⟩; rw [HI.out])
  go_end0
  exact ⟨rfl, rfl⟩
end Go.Proofs.Ytijgfaggakbajaa
namespace Go.Proofs.Ytijgfaggakbajaa
open Go.RowKit

/-- The error of a pick, ahead of what its access may meet. -/
def St.chk (st : St) (p : Pk) : Int :=
  if p.K = 0 ∨ p.K = 1 then (if hasB st.na p.A = true then (if st.dead p.A.toNat = true then 11 else 0) else 2)
  else if p.K = 2 ∧ 0 ≤ p.N ∧ p.N ≤ 1099511627776 then 0 else 1

theorem cell_one {W : World} {b : Nat} {T : TypeId} {u0 u1 u2 : Value} (h : W.heap[b]? = some (.cells #[u0, u1, u2] T (0, 0))) : W.cell? ⟨b, 1, none⟩ = some u1 := by simp [World.cell?, h]

/-- What a step or a kill of an actor answers: it was killed, or not. -/
def deadErr (d : Bool) : Int := bif d then 11 else 0

set_option maxRecDepth 100000 in
set_option maxHeartbeats 800000 in
theorem check_has {w : World} {o : Nat → Pt} {gw ga gb hb : Nat} {ax : Nat → Value} {tv : Value} {ts : List Tx} {st : St} (h : Sw w o gw ga gb hb ax tv ts st) (K A N : Int) (hK : K = 0 ∨ K = 1) (hA : hasB st.na A = true) :
    Calls Try.prog 28 #[.pointer (some ⟨gw, 0, none⟩), .agg #[.int .i64 K, .int .i64 A, .int .i64 N]] w (Made (.int .i64 (deadErr (st.dead A.toNat))) w) := by
  obtain ⟨h0, h1⟩ := hasB_yes hA
  obtain ⟨k, rfl⟩ := Int.eq_ofNat_of_zero_le h0
  have hd0 := h.adead (i := k) (by omega)
  have hga := h.ga_lt
  have hfew := h.few
  rw [Int.toNat_natCast] at *
  generalize st.dead k = d at hd0 ⊢
  obtain ⟨r, hr⟩ : ∃ r, deadErr d = r := ⟨_, rfl⟩
  rw [hr]
  have HR := Lib.hid hr
  clear hr
  have HI := Lib.hid hA
  have HW := (Below.refl w.heap.size w).alloc (Nat.le_refl _) (.cells #[.int .i64 K, .int .i64 (k : Int), .int .i64 N] 44)
  have hX := Go.Deep.blk_alloc_new w (.cells #[.int .i64 K, .int .i64 (k : Int), .int .i64 N] 44)
  have HS := Lib.hid (h.below HW)
  clear h hA
  rcases hK with rfl | rfl
  all_goals
    cases d
    all_goals
      go_enter Try.func28, Try.ntmps28
      go_wp2_with (go_at_call 42; refine (has_any HS.out k).mono ?_; rintro e w' ⟨rfl, rfl⟩; rw [HI.out])
      have hc := HS.out.w1
      have hd := (HW.cell (p := ⟨ga, k * 2 + 1, none⟩) hga).trans hd0
      have hx1 := cell_one hX
      have hk2 : k < st.na := by omega
      go_quiet (fail)
      go_wp2
      go_ret
      exact ⟨by rw [← HR.out]; rfl, HW.trans ((drewN_below _ nq).mono HW.size)⟩

set_option maxRecDepth 100000 in
set_option maxHeartbeats 800000 in
theorem check_hasnt {w : World} {o : Nat → Pt} {gw ga gb hb : Nat} {ax : Nat → Value} {tv : Value} {ts : List Tx} {st : St} (h : Sw w o gw ga gb hb ax tv ts st) (K A N : Int) (hK : K = 0 ∨ K = 1) (hA : hasB st.na A = false) :
    Calls Try.prog 28 #[.pointer (some ⟨gw, 0, none⟩), .agg #[.int .i64 K, .int .i64 A, .int .i64 N]] w (Made (.int .i64 2) w) := by
  have HI := Lib.hid hA
  have HW := (Below.refl w.heap.size w).alloc (Nat.le_refl _) (.cells #[.int .i64 K, .int .i64 A, .int .i64 N] 44)
  have HS := Lib.hid (h.below HW)
  clear h hA
  rcases hK with rfl | rfl
  all_goals
    go_enter Try.func28, Try.ntmps28
    go_wp2_with (go_at_call 42; refine (has_any HS.out A).mono ?_; rintro e w' ⟨rfl, rfl⟩; rw [HI.out])
    go_ret
    exact ⟨rfl, HW⟩

set_option maxRecDepth 100000 in
set_option maxHeartbeats 800000 in
theorem check_tick (gw : Nat) (w : World) (A N : Int) (h0 : 0 ≤ N) (h1 : N ≤ 1099511627776) :
    Calls Try.prog 28 #[.pointer (some ⟨gw, 0, none⟩), .agg #[.int .i64 2, .int .i64 A, .int .i64 N]] w (Made (.int .i64 0) w) := by
  have HW := (Below.refl w.heap.size w).alloc (Nat.le_refl _) (.cells #[.int .i64 2, .int .i64 A, .int .i64 N] 44)
  go_enter Try.func28, Try.ntmps28
  go_wp2
  go_ret
  exact ⟨rfl, HW⟩

set_option maxRecDepth 100000 in
set_option maxHeartbeats 800000 in
theorem check_late (gw : Nat) (w : World) (A N : Int) (h1 : N < 0 ∨ 1099511627776 < N) :
    Calls Try.prog 28 #[.pointer (some ⟨gw, 0, none⟩), .agg #[.int .i64 2, .int .i64 A, .int .i64 N]] w (Made (.int .i64 1) w) := by
  have HW := (Below.refl w.heap.size w).alloc (Nat.le_refl _) (.cells #[.int .i64 2, .int .i64 A, .int .i64 N] 44)
  rcases h1 with h1 | h1
  · have h2 : ¬ 0 ≤ N := by omega
    go_enter Try.func28, Try.ntmps28
    go_wp2
    go_ret
    exact ⟨rfl, HW⟩
  · have h2 : ¬ N ≤ 1099511627776 := by omega
    have h3 : 0 ≤ N := by omega
    go_enter Try.func28, Try.ntmps28
    go_wp2
    go_ret
    exact ⟨rfl, HW⟩

set_option maxRecDepth 100000 in
set_option maxHeartbeats 800000 in
theorem check_odd (gw : Nat) (w : World) (K A N : Int) (h0 : ¬ K = 0) (h1 : ¬ K = 1) (h2 : ¬ K = 2) :
    Calls Try.prog 28 #[.pointer (some ⟨gw, 0, none⟩), .agg #[.int .i64 K, .int .i64 A, .int .i64 N]] w (Made (.int .i64 1) w) := by
  have HW := (Below.refl w.heap.size w).alloc (Nat.le_refl _) (.cells #[.int .i64 K, .int .i64 A, .int .i64 N] 44)
  go_enter Try.func28, Try.ntmps28
  go_wp2
  go_ret
  exact ⟨rfl, HW⟩

theorem pickCheck_any {w : World} {o : Nat → Pt} {gw ga gb hb : Nat} {ax : Nat → Value} {tv : Value} {ts : List Tx} {st : St} (h : Sw w o gw ga gb hb ax tv ts st) (p : Pk) :
    Calls Try.prog 28 #[.pointer (some ⟨gw, 0, none⟩), .agg #[.int .i64 p.K, .int .i64 p.A, .int .i64 p.N]] w (Made (.int .i64 (st.chk p)) w) := by
  unfold St.chk
  by_cases hK : p.K = 0 ∨ p.K = 1
  · rw [if_pos hK]
    by_cases hA : hasB st.na p.A = true
    · rw [if_pos hA]
      have h1 := check_has h p.K p.A p.N hK hA
      unfold deadErr at h1
      by_cases hd : st.dead p.A.toNat = true
      · rw [if_pos hd]
        rw [hd] at h1
        exact h1
      · rw [if_neg hd]
        rw [show st.dead p.A.toNat = false by simpa using hd] at h1
        exact h1
    · rw [if_neg hA]
      exact check_hasnt h p.K p.A p.N hK (by simpa using hA)
  · rw [if_neg hK]
    by_cases h2 : p.K = 2
    · by_cases hN : 0 ≤ p.N ∧ p.N ≤ 1099511627776
      · rw [if_pos ⟨h2, hN⟩, h2]
        exact check_tick gw w p.A p.N hN.1 hN.2
      · rw [if_neg (fun e => hN e.2), h2]
        exact check_late gw w p.A p.N (by omega)
    · rw [if_neg (fun e => h2 e.1)]
      exact check_odd gw w p.K p.A p.N (fun e => hK (.inl e)) (fun e => hK (.inr e)) h2
end Go.Proofs.Ytijgfaggakbajaa
namespace Go.Proofs.Ytijgfaggakbajaa
open Go.RowKit

theorem assert_nil (w : World) : (Instr.typeAssert .nilIface 85 133 true).run Try.prog w = .ok (.tuple #[.nilIface, .bool false]) w := by kernel_rfl
theorem assert_copy (g : Nat) (w : World) : (Instr.typeAssert (.iface 70 (.pointer (some ⟨g, 0, none⟩))) 85 133 true).run Try.prog w = .ok (.tuple #[.nilIface, .bool false]) w := run_typeAssert_lacksB Try.underlying133 (by kernel_rfl) (by kernel_rfl) _ _ w

set_option maxRecDepth 100000 in
set_option maxHeartbeats 400000 in
theorem tell_nil (now : Int) (w : World) : Calls Try.prog 52 #[.nilIface, .int .i64 now] w (Made (.tuple #[]) w) := by
  have hta := assert_nil
  go_enter Try.func52, Try.ntmps52
  go_wp2
  go_end0
  exact ⟨rfl, ((Below.refl _ w).alloc (Nat.le_refl _) _).alloc (by simp) _⟩

set_option maxRecDepth 100000 in
set_option maxHeartbeats 400000 in
theorem tell_copy (g : Nat) (now : Int) (w : World) : Calls Try.prog 52 #[.iface 70 (.pointer (some ⟨g, 0, none⟩)), .int .i64 now] w (Made (.tuple #[]) w) := by
  have hta := assert_copy g
  go_enter Try.func52, Try.ntmps52
  go_wp2
  go_end0
  exact ⟨rfl, ((Below.refl _ w).alloc (Nat.le_refl _) _).alloc (by simp) _⟩

/-- A machine is told the clock. -/
theorem tell_any {w : World} {F : Nat → Prop} {x : Value} {s : Mc} (h : MRep w F x s) (hlt : ∀ k, F k → k < w.heap.size) (now : Int) :
    Calls Try.prog 52 #[x, .int .i64 now] w fun e w' => e = .returned (.tuple #[]) ∧ Moved F x (s.tick now) w w' := by
  have h0 := h
  cases s with
  | none =>
    obtain rfl : x = .nilIface := h
    refine (tell_nil now w).mono ?_
    rintro e w' ⟨rfl, hb⟩
    exact ⟨rfl, Moved.of_below h0 hlt hb⟩
  | copy kd d r ys =>
    obtain ⟨base, top, g, v, rfl, _⟩ := h
    refine (tell_copy g now w).mono ?_
    rintro e w' ⟨rfl, hb⟩
    exact ⟨rfl, Moved.of_below h0 hlt hb⟩

/-- The first i actors were told the clock c. -/
def St.ticks (st : St) (c : Int) (i : Nat) : St := { st with clock := c, ms := fun j => if j < i ∧ st.dead j = false then (st.ms j).tick c else st.ms j }

theorem St.ticks_zero (st : St) (c : Int) : { st with clock := c } = st.ticks c 0 := by
  unfold St.ticks
  congr 1

theorem St.ticks_dead (st : St) (c : Int) (i : Nat) (hd : st.dead i = true) : st.ticks c i = st.ticks c (i + 1) := by
  unfold St.ticks
  congr 1
  funext j
  by_cases e : j = i
  · subst e
    rw [if_neg (fun h => by omega), if_neg (fun h => by rw [hd] at h; cases h.2)]
  · by_cases h : j < i ∧ st.dead j = false
    · rw [if_pos h, if_pos ⟨by omega, h.2⟩]
    · rw [if_neg h, if_neg (fun h2 => h ⟨by omega, h2.2⟩)]

theorem St.ticks_next (st : St) (c : Int) (i : Nat) (hd : st.dead i = false) : { st.ticks c i with ms := upd (st.ticks c i).ms i (((st.ticks c i).ms i).tick c) } = st.ticks c (i + 1) := by
  have e : upd (st.ticks c i).ms i (((st.ticks c i).ms i).tick c) = (st.ticks c (i + 1)).ms := by
    funext j
    show upd (fun j => if j < i ∧ st.dead j = false then (st.ms j).tick c else st.ms j) i ((if i < i ∧ st.dead i = false then (st.ms i).tick c else st.ms i).tick c) j = if j < i + 1 ∧ st.dead j = false then (st.ms j).tick c else st.ms j
    by_cases e : j = i
    · subst e
      rw [upd_same, if_neg (fun h => by omega), if_pos ⟨by omega, hd⟩]
    · rw [upd_other _ _ _ e]
      by_cases h : j < i ∧ st.dead j = false
      · rw [if_pos h, if_pos ⟨by omega, h.2⟩]
      · rw [if_neg h, if_neg (fun h2 => h ⟨by omega, h2.2⟩)]
  rw [e]
  rfl

/-- What a call did, and what one behind it did. -/
theorem own_trans {o o1 o2 : Nat → Pt} {w w1 w2 : World} (ht : Touch (Own o) w w1) (ho : ∀ k, k < w.heap.size → o1 k = o k) (ht2 : Touch (Own o1) w1 w2) (ho2 : ∀ k, k < w1.heap.size → o2 k = o1 k) :
    Touch (Own o) w w2 ∧ ∀ k, k < w.heap.size → o2 k = o k :=
  ⟨⟨ht2.os.trans ht.os, ht2.tape.trans ht.tape, ht2.output.trans ht.output, Nat.le_trans ht.size ht2.size, fun k hk hn => (ht2.block k (Nat.lt_of_lt_of_le hk ht.size) (fun h => hn (by unfold Own at h ⊢; rw [ho k hk] at h; exact h))).trans (ht.block k hk hn)⟩,
    fun k hk => (ho2 k (Nat.lt_of_lt_of_le hk ht.size)).trans (ho k hk)⟩

theorem moved_cell {F : Nat → Prop} {x : Value} {s : Mc} {w w' : World} (h : Moved F x s w w') {p : Addr} (hp : p.block < w.heap.size) (hn : ¬ F p.block) : w'.cell? p = w.cell? p := by
  obtain ⟨_, _, ht, _⟩ := h
  exact ht.cell hp hn

theorem cell_box {W : World} {b : Nat} {T : TypeId} {u0 u1 : Value} (h : W.heap[b]? = some (.cells #[u0, u1] T (0, 0))) : W.cell? ⟨b, 0, none⟩ = some u0 := by simp [World.cell?, h]

set_option maxRecDepth 100000 in
set_option maxHeartbeats 2000000 in
theorem tick_any {w : World} {o : Nat → Pt} {gw ga gb hb : Nat} {ax : Nat → Value} {tv : Value} {ts : List Tx} {st : St} (h : Sw w o gw ga gb hb ax tv ts st) (n : Int) (c : Int) (hc : wrap64 (st.clock + n) = c) :
    Calls Try.prog 29 #[.pointer (some ⟨gw, 0, none⟩), .int .i64 n] w fun e w' => e = .returned (.tuple #[]) ∧ ∃ o', Sw w' o' gw ga gb hb ax tv ts (st.ticks c st.na) ∧ Touch (Own o) w w' ∧ ∀ k, k < w.heap.size → o' k = o k := by
  have HS := Lib.hid (h.setClock c)
  have HT := Lib.hid ((Touch.refl (Own o) w).setCell (p := ⟨gw, 2, none⟩) (by unfold Own; rw [h.ogw]; simp) (.int .i64 c))
  have hc2 := h.w2
  have hz2 := h.wfree 2
  have hc1 := h.w1
  have hfew := h.few
  have hgw := h.gw_lt
  have HC := Lib.hid hc
  clear h
  go_enter Try.func29, Try.ntmps29
  go_wp2
  rw [HC.out]
  generalize w.setCell ⟨gw, 2, none⟩ (.int .i64 c) = W at HS HT ⊢
  go_loopw [19] (fun t wr => ∃ (i : Nat) (o1 : Nat → Pt), t = .int .i64 i ∧ i ≤ st.na ∧ Sw wr o1 gw ga gb hb ax tv ts (st.ticks c i) ∧ Touch (Own o) w wr ∧ ∀ k, k < w.heap.size → o1 k = o k) (fun t _ => st.na - (intOf t).toNat)
  case atStart => exact ⟨0, o, rfl, Nat.zero_le _, by rw [← St.ticks_zero]; exact HS.out, HT.out, fun _ _ => rfl⟩
  case round =>
    obtain ⟨i, o1, rfl, hi, hsw, htt, hoo⟩ := hrel
    have HSW := Lib.hid hsw
    have HTT := Lib.hid (And.intro htt hoo)
    clear htt hoo
    by_cases hlt : i < st.na
    · have hm := hsw.amach (i := i) hlt
      have hd := hsw.adead (i := i) hlt
      have hd2 : (st.ticks c i).dead i = st.dead i := rfl
      rw [hd2] at hd
      clear hd2
      have HMR := Lib.hid (hsw.mach i hlt)
      have HLT := Lib.hid (fun k (hk : o1 k = .ma i) => hsw.lt k (by rw [hk]; simp))
      have hck := hsw.w2
      have hck2 : (st.ticks c i).clock = c := rfl
      rw [hck2] at hck
      clear hck2
      generalize hx : ax i = x at hm HMR
      have HX := Lib.hid hx
      clear hsw hx
      cases hdd : st.dead i with
      | true =>
        rw [hdd] at hd
        have HDD := Lib.hid hdd
        clear hdd
        rcases HMR.out.shape with ⟨rfl, _⟩ | ⟨T, y, rfl⟩
        · go_wp2
          go_roundw
          case rel => exact ⟨i + 1, o1, by go_num, by omega, by rw [← St.ticks_dead _ _ _ HDD.out]; exact HSW.out.alloc _, HTT.out.1.alloc _, HTT.out.2⟩
          case measure => simp [intOf]; omega
        · go_wp2
          go_roundw
          case rel => exact ⟨i + 1, o1, by go_num, by omega, by rw [← St.ticks_dead _ _ _ HDD.out]; exact HSW.out.alloc _, HTT.out.1.alloc _, HTT.out.2⟩
          case measure => simp [intOf]; omega
      | false =>
        rw [hdd] at hd
        have HDD := Lib.hid hdd
        clear hdd
        rcases HMR.out.shape with ⟨rfl, _⟩ | ⟨T, y, rfl⟩
        · skip
          have HBX := Lib.hid (And.intro ((Below.refl wr.heap.size wr).alloc (Nat.le_refl _) (.cells #[.nilIface, .bool false] 87)) (Go.Deep.blk_alloc_new wr (.cells #[.nilIface, .bool false] 87)))
          go_wp2_with fail
          generalize wr.alloc (.cells #[.nilIface, .bool false] 87) = W1 at HBX ⊢
          have hb1 := HBX.out.1
          have hl0 := cell_box HBX.out.2
          have hl0b : wr.heap.size < W1.heap.size := (Array.getElem?_eq_some_iff.1 HBX.out.2).1
          have hgwb : gw < W1.heap.size := Nat.lt_of_lt_of_le (lt_of_cell hck) hb1.size
          have hck1 := (hb1.cell (p := ⟨gw, 2, none⟩) (lt_of_cell hck)).trans hck
          have hs1 := hb1.size
          have HM1 := Lib.hid (HMR.out.keep hb1.size fun k hk => hb1.block k (HLT.out k hk))
          go_region_held3 (fun w' => w'.cell? ⟨wr.heap.size, 0, none⟩ = some (.nilIface) ∧ w'.cell? ⟨gw, 2, none⟩ = some (.int .i64 c)) (go_keep)
            (first | (go_at_call 52; refine (tell_any (HM1.out.keep (w' := W1.drew) (Nat.le_refl _) fun _ _ => rfl) (fun k hk => Nat.lt_of_lt_of_le (HLT.out k hk) hs1) c).mono ?_; rintro e w2 ⟨rfl, hmv⟩; have hk0 := (moved_cell hmv (p := ⟨wr.heap.size, 0, none⟩) hl0b (fun hk => absurd (HLT.out _ hk) (Nat.lt_irrefl _))).trans hl0; have hk1 := (moved_cell hmv (p := ⟨gw, 2, none⟩) hgwb (fun hk => by have hq := HSW.out.ogw; rw [hk] at hq; cases hq)).trans hck1; have HMV := Lib.hid hmv; clear hmv))
          all_goals
            go_wp2
            have hz := (HSW.out.below hb1).drew.setMach hlt (s := ((st.ticks c i).ms i).tick c) (by rw [HX.out]; exact HMV.out)
            rw [St.ticks_next _ _ _ HDD.out] at hz
            have HZ := Lib.hid hz
            clear hz
            go_roundw
            case rel =>
              obtain ⟨o2, h1, h2, h3⟩ := HZ.out
              have hown := own_trans (HTT.out.1.trans ((Touch.of_below hb1).drew)) HTT.out.2 h2 h3
              exact ⟨i + 1, o2, by go_num, by omega, h1, hown.1, hown.2⟩
            case measure => simp [intOf]; omega
        · skip
          have HBX := Lib.hid (And.intro ((Below.refl wr.heap.size wr).alloc (Nat.le_refl _) (.cells #[.iface T y, .bool false] 87)) (Go.Deep.blk_alloc_new wr (.cells #[.iface T y, .bool false] 87)))
          go_wp2_with fail
          generalize wr.alloc (.cells #[.iface T y, .bool false] 87) = W1 at HBX ⊢
          have hb1 := HBX.out.1
          have hl0 := cell_box HBX.out.2
          have hl0b : wr.heap.size < W1.heap.size := (Array.getElem?_eq_some_iff.1 HBX.out.2).1
          have hgwb : gw < W1.heap.size := Nat.lt_of_lt_of_le (lt_of_cell hck) hb1.size
          have hck1 := (hb1.cell (p := ⟨gw, 2, none⟩) (lt_of_cell hck)).trans hck
          have hs1 := hb1.size
          have HM1 := Lib.hid (HMR.out.keep hb1.size fun k hk => hb1.block k (HLT.out k hk))
          go_region_held3 (fun w' => w'.cell? ⟨wr.heap.size, 0, none⟩ = some (.iface T y) ∧ w'.cell? ⟨gw, 2, none⟩ = some (.int .i64 c)) (go_keep)
            (first | (go_at_call 52; refine (tell_any (HM1.out.keep (w' := W1.drew) (Nat.le_refl _) fun _ _ => rfl) (fun k hk => Nat.lt_of_lt_of_le (HLT.out k hk) hs1) c).mono ?_; rintro e w2 ⟨rfl, hmv⟩; have hk0 := (moved_cell hmv (p := ⟨wr.heap.size, 0, none⟩) hl0b (fun hk => absurd (HLT.out _ hk) (Nat.lt_irrefl _))).trans hl0; have hk1 := (moved_cell hmv (p := ⟨gw, 2, none⟩) hgwb (fun hk => by have hq := HSW.out.ogw; rw [hk] at hq; cases hq)).trans hck1; have HMV := Lib.hid hmv; clear hmv))
          all_goals
            go_wp2
            have hz := (HSW.out.below hb1).drew.setMach hlt (s := ((st.ticks c i).ms i).tick c) (by rw [HX.out]; exact HMV.out)
            rw [St.ticks_next _ _ _ HDD.out] at hz
            have HZ := Lib.hid hz
            clear hz
            go_roundw
            case rel =>
              obtain ⟨o2, h1, h2, h3⟩ := HZ.out
              have hown := own_trans (HTT.out.1.trans ((Touch.of_below hb1).drew)) HTT.out.2 h2 h3
              exact ⟨i + 1, o2, by go_num, by omega, h1, hown.1, hown.2⟩
            case measure => simp [intOf]; omega
    · obtain rfl : i = st.na := by omega
      go_wp2
      go_end0
      exact ⟨rfl, o1, HSW.out, HTT.out⟩
end Go.Proofs.Ytijgfaggakbajaa
