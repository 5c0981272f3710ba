/-
  The plain answers to layer 3 that only reckon, or make bytes, walked: signed, bytes, Record, Split, size, RecordSize, FrameSize.
-/
import Derived.Test.YtbkabjdbohhjeaaRefNumber
import Derived.Test.YtbkabjdbohhjeaaRefAlign
import Derived.Test.YtbkabjdbohhjeaaHeadBytes
import Derived.Test.YtbkabjdbohhjeaaHeadFns
import Derived.Deep.QuietTactic
import Derived.BigQuiet
import Derived.WalkSmall
namespace Go.Proofs.Ytbkabjdbohhjeaa
open Go.RowKit

theorem BytesAt.drewN {w : World} {v : Value} {xs : List Int} (h : BytesAt w v xs) (n : Nat) : BytesAt (w.drewN n) v xs := by
  obtain ⟨A, cap, hv, h⟩ := h
  refine ⟨A, cap, hv, fun hp => ?_⟩
  obtain ⟨b, off, h1, h3, h4⟩ := h hp
  exact ⟨b, off, h1, by simpa using h3, fun i hi => by simpa using h4 i hi⟩

/-- A contract 'w = w'' met in a region that draws its order. -/
theorem quiet_same {P : Program} {f : FuncId} {args : Array Value} {w : World} {n : Nat} {v : Value}
    (h : Calls P f args (w.drewN n) fun e w' => e = .returned v ∧ w.drewN n = w') : Calls P f args (w.drewN n) fun e w'' => e = .returned v ∧ ∃ m, w'' = w.drewN m :=
  h.mono fun _ _ ⟨he, hm⟩ => ⟨he, n, hm.symm⟩

theorem signed_any (v : Value) (xs : List Int) (w : World) (h8 : Wd.Bytes8 xs) (hl : xs.length = 4) (h : BytesAt w v xs) :
    Calls Try.prog 23 #[v] w fun e w' => e = .returned (.int .i32 (Hd.s32 (Wd.num xs))) ∧ w = w' := by
  have ht : xs.take 8 = xs := List.take_of_length_le (by omega)
  have hb := Wd.num_bounds xs h8
  rw [hl] at hb
  have hb2 : Wd.num xs < 4294967296 := by have := hb.2; simp at this; omega
  have hb1 := hb.1
  have HT := Lib.hid ht
  clear hb ht
  have hw : IntKind.i64.wrap (Wd.num xs) = Wd.num xs := IntWalk.i64_in _ (by omega)
  have hc := refNumber_any v xs w h8 h
  rw [HT.out] at hc
  have HC := Lib.hid hc
  clear hc HT h8 h hl
  generalize Wd.num xs = n at *
  by_cases hn : 2147483648 ≤ n
  · go_enter Try.func23, Try.ntmps23
    go_wp2_with (go_at_call 24; refine HC.out.mono ?_; rintro e w' ⟨rfl, rfl⟩)
    go_ret
    refine ⟨ret_k ?_, rfl⟩
    unfold Hd.s32
    (try unfold wrap32); split <;> omega
  · have hn' : n < 2147483648 := by omega
    clear hn
    go_enter Try.func23, Try.ntmps23
    go_wp2_with (go_at_call 24; refine HC.out.mono ?_; rintro e w' ⟨rfl, rfl⟩)
    go_ret
    refine ⟨ret_k ?_, rfl⟩
    unfold Hd.s32
    (try unfold wrap32); split <;> omega

theorem hbytes_any (v : Int) (n : Nat) (w : World) (hn : n ≤ 8) :
    Calls Try.prog 25 #[.int .i64 v, .int .i64 n] w fun e w' => ∃ x, e = .returned x ∧ Owns w.heap.size w' x (Wd.bs (v % 18446744073709551616) n) ∧ Below w.heap.size w w' := by
  have H := Lib.hid (refBytes_own (v % 18446744073709551616) n w (by omega) (by omega) hn)
  go_enter Try.func25, Try.ntmps25
  go_wp2_with (go_at_call 22; refine H.out.mono ?_; rintro e w' ⟨x, rfl, hx, hb⟩)
  go_ret
  exact ⟨x, rfl, hx, hb⟩

set_option maxHeartbeats 400000 in
theorem refRecord_any (l h : Int) (w : World) (l0 : -2147483648 ≤ l) (l1 : l ≤ 2147483647) (h0 : -2147483648 ≤ h) (h1 : h ≤ 2147483647) :
    Calls Try.prog 10 #[.int .i32 l, .int .i32 h] w fun e w' => e = .returned (.int .u64 (Hd.jn l h)) ∧ Below w.heap.size w w' := by
  have H8 : Wd.Bytes8 (Wd.bs (l % 18446744073709551616) 4 ++ Wd.bs (h % 18446744073709551616) 4) := (Wd.bs_in _ _).app (Wd.bs_in _ _)
  have HN := Lib.hid (Hd.num_record l h)
  have HL : Hid ((Wd.bs (l % 18446744073709551616) 4 ++ Wd.bs (h % 18446744073709551616) 4).take 8 = Wd.bs (l % 18446744073709551616) 4 ++ Wd.bs (h % 18446744073709551616) 4) := Lib.hid (by rw [List.take_of_length_le]; simp [Wd.bs_length])
  go_enter Try.func10, Try.ntmps10
  go_wp2_with fail
  refine (hbytes_any l 4 w (by omega)).mono ?_
  rintro e w1 ⟨x, rfl, hx, hb1⟩
  go_wp2_with fail
  refine (hbytes_any h 4 w1 (by omega)).mono ?_
  rintro e w2 ⟨y, rfl, hy, hb2⟩
  have hx2 := hx.below hb2
  have hy2 := hy.bytes
  have hs1 := hb1.size
  have hs2 := hb2.size
  have HB := Lib.hid (hb1.after hb2)
  clear hx hy hb1 hb2
  go_wp2_with (first
    | (at_builtin; refine wpList_app rfl _ _ rfl w.heap.size x y _ _ rfl rfl hx2 hy2 (by simp [Wd.bs_length]) (by simp [Wd.bs_length]) (by omega) ?_; intro v3 w3 hv3 hb3 _; have hc := refNumber_any v3 _ w3 H8 hv3.bytes)
    | (go_at_call 24; refine hc.mono ?_; rintro e w' ⟨rfl, rfl⟩; rw [HL.out, HN.out]))
  go_ret
  exact ⟨rfl, HB.out.trans hb3⟩

set_option maxHeartbeats 400000 in
theorem refSplit_any (v : Int) (w : World) (v0 : 0 ≤ v) (v1 : v ≤ 18446744073709551615) :
    Calls Try.prog 9 #[.int .u64 v] w fun e w' => e = .returned (.tuple #[.int .i32 (Hd.s32 v), .int .i32 (Hd.s32 (v / 4294967296))]) ∧ Below w.heap.size w w' := by
  have H1 := Lib.hid (Hd.num_low v)
  have H2 := Lib.hid (Hd.num_high v)
  go_enter Try.func9, Try.ntmps9
  go_wp2_with fail
  refine (refBytes_own v 8 w v0 v1 (by omega)).mono ?_
  rintro e w1 ⟨x, rfl, hx, hb1⟩
  obtain ⟨g, cap, rfl, hn, hm, hg, hgl, hc⟩ := hx.form (by simp [Wd.bs_length])
  have ha := hx.bytes
  have l8 : (Wd.bs v 8).length = 8 := Wd.bs_length v 8
  rw [l8] at ha hn hc ⊢
  have hlo := ha.cut 0 4 cap (by omega)
  have hhi := ha.cut 4 4 (cap - 4) (by omega)
  rw [Nat.zero_add, List.drop_zero] at hlo
  rw [List.take_of_length_le (l := (Wd.bs v 8).drop 4) (by rw [List.length_drop]; omega), Nat.zero_add] at hhi
  have hS1 := fun n => signed_any _ _ (w1.drewN n) (Wd.take_bytes (Wd.bs_in v 8) 4) (by rw [List.length_take]; omega) (hlo.drewN n)
  have hS2 := fun n => signed_any _ _ (w1.drewN n) (Wd.drop_bytes (Wd.bs_in v 8) 4) (by rw [List.length_drop]; omega) (hhi.drewN n)
  have HS1 := Lib.hid hS1
  have HS2 := Lib.hid hS2
  have HB := Lib.hid hb1
  have hcap : (4 : Int) ≤ (cap : Int) := by omega
  clear hx ha hlo hhi hS1 hS2 hc hb1 l8 hm hg hgl
  go_wp2_with fail
  go_quiet ((first
    | (go_at_call 23; (with_reducible exact quiet_same (HS1.out _)))
    | (go_at_call 23; (with_reducible exact quiet_same (HS2.out _)))))
  go_wp2
  go_ret2
  refine ⟨ret_two H1.out.symm H2.out.symm, below_drewN HB.out _⟩

set_option maxHeartbeats 400000 in
theorem refSize_any (n head to : Int) (w : World) (a0 : 0 ≤ head) (a1 : head ≤ 1000) :
    Calls Try.prog 29 #[.int .i64 n, .int .i64 head, .int .i64 to] w fun e w' => e = .returned (.tuple #[.int .i64 (sz n head to), .int .i64 (szE n head to)]) ∧ w = w' := by
  by_cases h0 : 0 ≤ n
  · by_cases h1 : n ≤ 131072
    · have hk : szOk n = true := by unfold szOk; simp [h0, h1]
      have e1 : sz n head to = Wd.al (n + head) to := by unfold sz; rw [if_pos hk, Int.add_comm]
      have e2 : szE n head to = alE (n + head) to := by unfold szE; rw [if_pos hk, Int.add_comm]
      rw [e1, e2]
      clear e1 e2 hk
      have hw : IntKind.i64.wrap (n + head) = n + head := IntWalk.i64_in _ (by omega)
      go_enter Try.func29, Try.ntmps29
      go_wp2_with (go_at_call 31; refine (refAlign_any _ _ _).mono ?_; rintro e w' ⟨rfl, rfl⟩)
      go_ret2
      exact ⟨rfl, rfl⟩
    · have hk : szOk n = false := by unfold szOk; simp; omega
      have e1 : sz n head to = 0 := by unfold sz; rw [hk]; rfl
      have e2 : szE n head to = 1 := by unfold szE; rw [hk]; rfl
      rw [e1, e2]
      have h1' : 131072 < n := by omega
      clear e1 e2 hk h1
      go_enter Try.func29, Try.ntmps29
      go_wp2
      go_ret2
      exact ⟨rfl, rfl⟩
  · have hk : szOk n = false := by unfold szOk; simp; omega
    have e1 : sz n head to = 0 := by unfold sz; rw [hk]; rfl
    have e2 : szE n head to = 1 := by unfold szE; rw [hk]; rfl
    rw [e1, e2]
    have h0' : n < 0 := by omega
    clear e1 e2 hk h0
    go_enter Try.func29, Try.ntmps29
    go_wp2
    go_ret2
    exact ⟨rfl, rfl⟩

theorem refRecordSize_any (n : Int) (w : World) :
    Calls Try.prog 16 #[.int .i64 n] w fun e w' => e = .returned (.tuple #[.int .i64 (sz n 8 8), .int .i64 (szE n 8 8)]) ∧ w = w' := by
  go_enter Try.func16, Try.ntmps16
  go_wp2_with (go_at_call 29; refine (refSize_any _ 8 8 _ (by omega) (by omega)).mono ?_; rintro e w' ⟨rfl, rfl⟩)
  go_ret2
  exact ⟨rfl, rfl⟩

theorem refFrameSize_any (n : Int) (w : World) :
    Calls Try.prog 18 #[.int .i64 n] w fun e w' => e = .returned (.tuple #[.int .i64 (sz n 32 32), .int .i64 (szE n 32 32)]) ∧ w = w' := by
  go_enter Try.func18, Try.ntmps18
  go_wp2_with (go_at_call 29; refine (refSize_any _ 32 32 _ (by omega) (by omega)).mono ?_; rintro e w' ⟨rfl, rfl⟩)
  go_ret2
  exact ⟨rfl, rfl⟩
end Go.Proofs.Ytbkabjdbohhjeaa
