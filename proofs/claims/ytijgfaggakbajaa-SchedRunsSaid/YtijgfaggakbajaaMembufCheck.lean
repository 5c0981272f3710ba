/-
  Which accesses may be (layer 2's Check), and a buffer's size, count and making; walked.
-/
import Derived.Test.YtijgfaggakbajaaMembufBytes
namespace Go.Proofs.Ytijgfaggakbajaa
open Go.RowKit

/-- Is an access' kind one, and its number of bytes right for it? -/
def formed (K N : Int) (L : Nat) : Bool :=
  if K = 1 ∨ K = 2 ∨ K = 4 then decide (N = 4) || decide (N = 8)
  else if K = 3 then decide (N = 8)
  else if K = 5 then decide (0 ≤ N) && decide (N ≤ 8)
  else if K = 6 then decide (N = (L : Int)) && decide (N ≤ 8)
  else false

theorem ret_bool {a b : Bool} (h : a = b) : Ending.returned (.bool a) = .returned (.bool b) := by rw [h]

set_option maxHeartbeats 1000000 in
theorem isFormed_any (K P N V W : Int) (A : Option Addr) (L cap : Nat) (w : World) :
    Calls Try.prog 75 #[.agg #[.int .i64 K, .int .i64 P, .int .i64 N, .int .u64 V, .int .u64 W, .slice A L cap]] w (Made (.bool (formed K N L)) w) := by
  by_cases h1 : K = 1 ∨ K = 2 ∨ K = 4
  · have e : formed K N L = (decide (N = 4) || decide (N = 8)) := by unfold formed; rw [if_pos h1]
    have E := Lib.hid e
    clear e
    by_cases hN : N = 4
    · subst hN
      rcases h1 with rfl | rfl | rfl
      all_goals
        go_enter Try.func75, Try.ntmps75
        go_wp2
        go_ret
        refine ⟨ret_bool ?_, (Below.refl _ _).alloc (Nat.le_refl _) _⟩
        rw [E.out]
        rfl
    · have hN' : (N == 4) = false := by simpa using hN
      have HN := Lib.hid hN
      clear hN
      rcases h1 with rfl | rfl | rfl
      all_goals
        go_enter Try.func75, Try.ntmps75
        go_wp2
        go_ret
        refine ⟨ret_bool ?_, (Below.refl _ _).alloc (Nat.le_refl _) _⟩
        rw [E.out]
        rw [decide_eq_false HN.out]
        rfl
  · have n1 : ¬ K = 1 := fun e => h1 (.inl e)
    have n2 : ¬ K = 2 := fun e => h1 (.inr (.inl e))
    have n4 : ¬ K = 4 := fun e => h1 (.inr (.inr e))
    by_cases h3 : K = 3
    · subst h3
      have E := Lib.hid (show formed 3 N L = decide (N = 8) by simp [formed])
      clear h1 n1 n2 n4
      go_enter Try.func75, Try.ntmps75
      go_wp2
      go_ret
      refine ⟨ret_bool ?_, (Below.refl _ _).alloc (Nat.le_refl _) _⟩
      rw [E.out]
      first | rfl | simp
    · by_cases h5 : K = 5
      · subst h5
        have E := Lib.hid (show formed 5 N L = (decide (0 ≤ N) && decide (N ≤ 8)) by simp [formed])
        clear h1 n1 n2 n4
        by_cases hN : 0 ≤ N
        · go_enter Try.func75, Try.ntmps75
          go_wp2
          go_ret
          refine ⟨ret_bool ?_, (Below.refl _ _).alloc (Nat.le_refl _) _⟩
          rw [E.out]
          simp [hN]
        · have hN' : N < 0 := by omega
          clear hN
          go_enter Try.func75, Try.ntmps75
          go_wp2
          go_ret
          refine ⟨ret_bool ?_, (Below.refl _ _).alloc (Nat.le_refl _) _⟩
          rw [E.out]
          simp
          omega
      · by_cases h6 : K = 6
        · subst h6
          have E := Lib.hid (show formed 6 N L = (decide (N = (L : Int)) && decide (N ≤ 8)) by simp [formed])
          clear h1 n1 n2 n4
          by_cases hN : N = (L : Int)
          · subst hN
            go_enter Try.func75, Try.ntmps75
            go_wp2
            go_ret
            refine ⟨ret_bool ?_, (Below.refl _ _).alloc (Nat.le_refl _) _⟩
            rw [E.out]
            simp
          · have hN' : (N == (L : Int)) = false := by simpa using hN
            have HN := Lib.hid hN
            clear hN
            go_enter Try.func75, Try.ntmps75
            go_wp2
            go_ret
            refine ⟨ret_bool ?_, (Below.refl _ _).alloc (Nat.le_refl _) _⟩
            rw [E.out]
            simp [HN.out]
        · have E := Lib.hid (show formed K N L = false by unfold formed; rw [if_neg h1, if_neg h3, if_neg h5, if_neg h6])
          clear h1
          go_enter Try.func75, Try.ntmps75
          go_wp2
          go_ret
          exact ⟨ret_bool E.out.symm, (Below.refl _ _).alloc (Nat.le_refl _) _⟩

/-- Which error an access is refused with, or none. -/
def chk (S K P N : Int) (L : Nat) : Int :=
  if formed K N L = false then 1
  else if P < 0 ∨ S < P ∨ S - P < N then 2
  else if numB K = true ∧ P % N ≠ 0 then 3
  else 0

theorem formed_num {K N : Int} {L : Nat} (h : formed K N L = true) (hk : numB K = true) : N = 4 ∨ N = 8 := by
  unfold formed at h
  unfold numB at hk
  by_cases h1 : K = 1 ∨ K = 2 ∨ K = 4
  · rw [if_pos h1] at h
    simpa using h
  · rw [if_neg h1] at h
    by_cases h3 : K = 3
    · rw [if_pos h3] at h
      exact .inr (by simpa using h)
    · rw [if_neg h3] at h
      by_cases h5 : K = 5
      · simp [h5] at hk
      · rw [if_neg h5] at h
        by_cases h6 : K = 6
        · simp [h6] at hk
        · rw [if_neg h6] at h
          cases h

theorem formed_len {K N : Int} {L : Nat} (h : formed K N L = true) : 0 ≤ N ∧ N ≤ 8 := by
  unfold formed at h
  split at h
  · simp at h; omega
  · split at h
    · simp at h; omega
    · split at h
      · simp at h; omega
      · split at h
        · simp at h; omega
        · cases h

set_option maxHeartbeats 1000000 in
theorem check_formed (S K P N V W : Int) (A : Option Addr) (L cap : Nat) (w : World) (hf : formed K N L = false) :
    Calls Try.prog 70 #[.int .i64 S, .agg #[.int .i64 K, .int .i64 P, .int .i64 N, .int .u64 V, .int .u64 W, .slice A L cap]] w (Made (.int .i64 (chk S K P N L)) w) := by
  have E := Lib.hid (show chk S K P N L = 1 by unfold chk; rw [if_pos hf])
  have HF := Lib.hid hf
  clear hf
  go_enter Try.func70, Try.ntmps70
  go_wp2_with (go_at_call 75; refine (isFormed_any K P N V W A L cap _).mono ?_; rintro e w1 ⟨rfl, hb⟩; rw [HF.out])
  go_ret
  exact ⟨ret_num E.out.symm, ((Below.refl _ w).alloc (Nat.le_refl _) _).after hb⟩

/-- The cells of an access that was boxed, below a call. -/
theorem boxed_below {w w1 : World} {o : Obj} (hb : Below (w.alloc o).heap.size (w.alloc o) w1) (i : Nat) : w1.cell? ⟨w.heap.size, i, none⟩ = (w.alloc o).cell? ⟨w.heap.size, i, none⟩ :=
  hb.cell (p := ⟨w.heap.size, i, none⟩) (by simp)

set_option maxHeartbeats 1000000 in
theorem check_range (S K P N V W : Int) (A : Option Addr) (L cap : Nat) (w : World) (hf : formed K N L = true) (hS : S ≤ 9223372036854775807) (hr : P < 0 ∨ S < P ∨ S - P < N) :
    Calls Try.prog 70 #[.int .i64 S, .agg #[.int .i64 K, .int .i64 P, .int .i64 N, .int .u64 V, .int .u64 W, .slice A L cap]] w (Made (.int .i64 (chk S K P N L)) w) := by
  have E := Lib.hid (show chk S K P N L = 2 by unfold chk; rw [if_neg (by simp [hf]), if_pos hr])
  have HF := Lib.hid hf
  clear hf
  by_cases h1 : P < 0
  · clear hr
    go_enter Try.func70, Try.ntmps70
    go_wp2_with (go_at_call 75; refine (isFormed_any K P N V W A L cap _).mono ?_; rintro e w1 ⟨rfl, hb⟩; rw [HF.out]; have hc := boxed_below hb)
    go_ret
    exact ⟨ret_num E.out.symm, ((Below.refl _ w).alloc (Nat.le_refl _) _).after hb⟩
  · have h1' : 0 ≤ P := by omega
    by_cases h2 : S < P
    · clear hr h1
      go_enter Try.func70, Try.ntmps70
      go_wp2_with (go_at_call 75; refine (isFormed_any K P N V W A L cap _).mono ?_; rintro e w1 ⟨rfl, hb⟩; rw [HF.out]; have hc := boxed_below hb)
      go_ret
      exact ⟨ret_num E.out.symm, ((Below.refl _ w).alloc (Nat.le_refl _) _).after hb⟩
    · have h2' : P ≤ S := by omega
      have h3 : S - P < N := by omega
      clear hr h1 h2
      go_enter Try.func70, Try.ntmps70
      go_wp2_with (go_at_call 75; refine (isFormed_any K P N V W A L cap _).mono ?_; rintro e w1 ⟨rfl, hb⟩; rw [HF.out]; have hc := boxed_below hb)
      go_ret
      exact ⟨ret_num E.out.symm, ((Below.refl _ w).alloc (Nat.le_refl _) _).after hb⟩

set_option maxHeartbeats 1000000 in
theorem check_ok (S K P N V W : Int) (A : Option Addr) (L cap : Nat) (w : World) (hf : formed K N L = true) (hS : S ≤ 9223372036854775807) (h1 : 0 ≤ P) (h2 : P ≤ S) (h3 : N ≤ S - P) :
    Calls Try.prog 70 #[.int .i64 S, .agg #[.int .i64 K, .int .i64 P, .int .i64 N, .int .u64 V, .int .u64 W, .slice A L cap]] w (Made (.int .i64 (chk S K P N L)) w) := by
  have e0 : chk S K P N L = if numB K = true ∧ P % N ≠ 0 then 3 else 0 := by unfold chk; rw [if_neg (by simp [hf]), if_neg (by omega)]
  have HF := Lib.hid hf
  by_cases hk : numB K = true
  · have hN := formed_num hf hk
    have HK := Lib.hid hk
    by_cases hm : P % N = 0
    · have E := Lib.hid (show chk S K P N L = 0 by rw [e0, if_neg (by simp [hm])])
      have hm' : (P % N == 0) = true := by simpa using hm
      clear hf hk hm e0
      rcases hN with rfl | rfl
      all_goals
        go_enter Try.func70, Try.ntmps70
        go_wp2_with (first
          | (go_at_call 75; refine (isFormed_any K P _ V W A L cap _).mono ?_; rintro e w1 ⟨rfl, hb⟩; rw [HF.out]; have hc := boxed_below hb)
          | (go_at_call 76; refine (isOfNumber_any K _).mono ?_; rintro e w' ⟨rfl, rfl⟩; rw [HK.out]))
        go_ret
        exact ⟨ret_num E.out.symm, ((Below.refl _ w).alloc (Nat.le_refl _) _).after hb⟩
    · have E := Lib.hid (show chk S K P N L = 3 by rw [e0, if_pos ⟨hk, hm⟩])
      have hm' : (P % N == 0) = false := by simpa using hm
      have hm2 : (P % N != 0) = true := by simpa using hm
      clear hf hk hm e0
      rcases hN with rfl | rfl
      all_goals
        go_enter Try.func70, Try.ntmps70
        go_wp2_with (first
          | (go_at_call 75; refine (isFormed_any K P _ V W A L cap _).mono ?_; rintro e w1 ⟨rfl, hb⟩; rw [HF.out]; have hc := boxed_below hb)
          | (go_at_call 76; refine (isOfNumber_any K _).mono ?_; rintro e w' ⟨rfl, rfl⟩; rw [HK.out]))
        go_ret
        exact ⟨ret_num E.out.symm, ((Below.refl _ w).alloc (Nat.le_refl _) _).after hb⟩
  · have hk' : numB K = false := by simpa using hk
    have HK := Lib.hid hk'
    have E := Lib.hid (show chk S K P N L = 0 by rw [e0, if_neg (by simp [hk'])])
    clear hf hk hk' e0
    go_enter Try.func70, Try.ntmps70
    go_wp2_with (first
      | (go_at_call 75; refine (isFormed_any K P _ V W A L cap _).mono ?_; rintro e w1 ⟨rfl, hb⟩; rw [HF.out]; have hc := boxed_below hb)
      | (go_at_call 76; refine (isOfNumber_any K _).mono ?_; rintro e w' ⟨rfl, rfl⟩; rw [HK.out]))
    go_ret
    exact ⟨ret_num E.out.symm, ((Below.refl _ w).alloc (Nat.le_refl _) _).after hb⟩

theorem check_any (S K P N V W : Int) (A : Option Addr) (L cap : Nat) (w : World) (hS : S ≤ 9223372036854775807) :
    Calls Try.prog 70 #[.int .i64 S, .agg #[.int .i64 K, .int .i64 P, .int .i64 N, .int .u64 V, .int .u64 W, .slice A L cap]] w (Made (.int .i64 (chk S K P N L)) w) := by
  cases hf : formed K N L with
  | false => exact check_formed S K P N V W A L cap w hf
  | true =>
    by_cases hr : P < 0 ∨ S < P ∨ S - P < N
    · exact check_range S K P N V W A L cap w hf hS hr
    · exact check_ok S K P N V W A L cap w hf hS (by omega) (by omega) (by omega)

/-- Who may be stands within the buffer. -/
theorem chk_ok {S K P N : Int} {L : Nat} (h : chk S K P N L = 0) : formed K N L = true ∧ 0 ≤ P ∧ P ≤ S ∧ N ≤ S - P ∧ (numB K = true → P % N = 0) := by
  unfold chk at h
  by_cases h1 : formed K N L = false
  · rw [if_pos h1] at h; omega
  · rw [if_neg h1] at h
    by_cases h2 : P < 0 ∨ S < P ∨ S - P < N
    · rw [if_pos h2] at h; omega
    · rw [if_neg h2] at h
      by_cases h3 : numB K = true ∧ P % N ≠ 0
      · rw [if_pos h3] at h; omega
      · refine ⟨by simpa using h1, by omega, by omega, by omega, fun hk => ?_⟩
        by_cases hm : P % N = 0
        · exact hm
        · exact absurd ⟨hk, hm⟩ h3

set_option maxHeartbeats 400000 in
theorem size_nil (w : World) : Calls Try.prog 37 #[.pointer none] w fun e w' => e = .returned (.int .i64 0) ∧ w = w' := by
  go_enter Try.func37, Try.ntmps37
  go_wp2
  go_ret
  exact ⟨rfl, rfl⟩

set_option maxHeartbeats 400000 in
theorem size_any {w : World} {g h n : Nat} {m : Nat → Nat} {c : Int} (B : Buf w g h m n c) :
    Calls Try.prog 37 #[.pointer (some ⟨g, 0, none⟩)] w fun e w' => e = .returned (.int .i64 (8 * (n : Int))) ∧ w = w' := by
  have hs := B.slice
  have hf := B.few
  clear B
  go_enter Try.func37, Try.ntmps37
  go_wp2
  go_ret
  exact ⟨ret_num (by omega), rfl⟩

/-- A buffer was made: its bytes are 0. -/
def MadeBuf (n : Nat) (w : World) (e : Ending) (w' : World) : Prop :=
  ∃ g h, e = .returned (.tuple #[.pointer (some ⟨g, 0, none⟩), .int .i64 0]) ∧ Buf w' g h (fun _ => 0) n 0 ∧ w.heap.size ≤ g ∧ w.heap.size ≤ h ∧ Below w.heap.size w w'

set_option maxHeartbeats 400000 in
theorem new_no (S : Int) (w : World) (h0 : -9223372036854775808 ≤ S) (h1 : S ≤ 9223372036854775807) (h : S < 8 ∨ 131072 < S ∨ S % 8 ≠ 0) :
    Calls Try.prog 8 #[.int .i64 S] w fun e w' => e = .returned (.tuple #[.pointer none, .int .i64 1]) ∧ w = w' := by
  by_cases a1 : S < 8
  · clear h
    go_enter Try.func8, Try.ntmps8
    go_wp2
    go_ret2
    exact ⟨rfl, rfl⟩
  · have a1' : 8 ≤ S := by omega
    by_cases a2 : 131072 < S
    · clear h a1
      go_enter Try.func8, Try.ntmps8
      go_wp2
      go_ret2
      exact ⟨rfl, rfl⟩
    · have a2' : S ≤ 131072 := by omega
      have a3 : ¬ S % 8 = 0 := by omega
      have a4 : (S % 8 != 0) = true := by simpa using a3
      clear h a1 a2 a3
      go_enter Try.func8, Try.ntmps8
      go_wp2
      go_ret2
      exact ⟨rfl, rfl⟩

theorem infoWord : (Try.prog.info? 139).map (fun i => (i.zero, i.size, i.bytes)) = some (some (.agg #[.int .u64 0]), 1, 8) := by kernel_rfl

theorem make_words (S : Int) (n : Nat) (hn : (n : Int) = S / 8) (hb : n ≤ 16384) (W : World) :
    (Instr.makeSlice 72 (.int .i64 (S / 8)) (.int .i64 (S / 8))).run Try.prog W = .ok (.slice (some ⟨W.heap.size, 0, none⟩) n n) (W.alloc (.cells (madeCells #[.int .u64 0] n) 139)) := by
  obtain ⟨i, hi, hzz⟩ := Option.map_eq_some_iff.1 infoWord
  simp only [Prod.mk.injEq] at hzz
  obtain ⟨hz, hs, hby⟩ := hzz
  have hr := run_make (P := Try.prog) W 72 139 i (.agg #[.int .u64 0]) Try.underlying72 hi hz .i64 .i64 (S / 8) (S / 8) (by omega) (Int.le_refl _) (by rw [hby]; omega) (by omega)
  rw [hs, ← hn] at hr
  rw [← hn]
  simpa [Value.cells] using hr

theorem wd_zero (j : Nat) : Mb.wd (fun _ => 0) j = 0 := by
  show Mb.nm (fun _ => 0) (8 * j) 8 = 0
  have : ∀ n, Mb.nm (fun _ => 0) (8 * j) n = 0 := by
    intro n
    induction n with
    | zero => rfl
    | succ n ih => show Mb.nm (fun _ => 0) (8 * j) n + 0 * _ = 0; rw [ih, Nat.zero_mul]
  exact this 8

set_option maxHeartbeats 400000 in
theorem new_yes (S : Int) (n : Nat) (w : World) (hn : (n : Int) = S / 8) (h0 : 8 ≤ S) (h1 : S ≤ 131072) (h : S % 8 = 0) :
    Calls Try.prog 8 #[.int .i64 S] w (MadeBuf n w) := by
  have hmk := make_words S n hn (by omega)
  have hm0 : (S % 8 != 0) = false := by simpa using h
  have HN := Lib.hid hn
  clear h hn
  go_enter Try.func8, Try.ntmps8
  go_wp2
  go_ret2
  have hr := World.rowIs_made w (.int .u64 0) n 139
  refine ⟨w.heap.size + 1, w.heap.size, rfl, ⟨?_, ?_, Mb.zero_isB, by have := HN.out; omega⟩, by omega, by omega, ((Below.refl _ w).alloc (Nat.le_refl _) _).alloc (by simp) _⟩
  · have e : (w.alloc (.cells (madeCells #[.int .u64 0] n) 139)).heap.size = w.heap.size + 1 := by simp
    rw [← e]
    exact Go.Deep.blk_alloc_new _ _
  · exact (hr.alloc _).congr fun j _ => by rw [wd_zero]; rfl
end Go.Proofs.Ytijgfaggakbajaa
