/-
  The plain answers to layer 3 that only reckon, or make bytes, walked: signed, bytes, Record, Split, size, RecordSize, FrameSize.
  The document's put (layer 7), walked over a tape.
  The document's put (layer 7), walked over a tape: it says what the put machine says.
  Whether two accesses are one (layer 2's plain answer), walked for two that are.
-/
import Derived.Test.YtbhhegikfadpiaaGreatP02
import Derived.Test.YtbhhegikfadpiaaGreatP08
import Derived.Test.YtbhhegikfadpiaaGreatP03
import Derived.Deep.QuietTactic
import Derived.BigQuiet
import Derived.WalkSmall
import Derived.Test.YtbhhegikfadpiaaGreatP05
import Derived.Test.YtbhhegikfadpiaaGreatP01
namespace Go.Proofs.YtbhhegikfadpiaaGreat
open Go.RowKit

/-- A contract 'w = w'' met in a region that draws its order. -/
theorem quiet_same {P : Program} {f : FuncId} {args : Array Value} {w : World} {n : Nat} {v : Value}
    (h : Calls P f args (w.drewN n) fun e w' => e = .returned v ∧ w.drewN n = w') : Calls P f args (w.drewN n) fun e w'' => e = .returned v ∧ ∃ m, w'' = w.drewN m :=
  h.mono fun _ _ ⟨he, hm⟩ => ⟨he, n, hm.symm⟩

theorem signed_any (v : Value) (xs : List Int) (w : World) (h8 : Wd.Bytes8 xs) (hl : xs.length = 4) (h : BytesAt w v xs) :
    Calls Tryz.prog 96 #[v] w fun e w' => e = .returned (.int .i32 (Hd.s32 (Wd.num xs))) ∧ w = w' := by
  have ht : xs.take 8 = xs := List.take_of_length_le (by omega)
  have hb := Wd.num_bounds xs h8
  rw [hl] at hb
  have hb2 : Wd.num xs < 4294967296 := by have := hb.2; simp at this; omega
  have hb1 := hb.1
  have HT := Lib.hid ht
  clear hb ht
  have hw : IntKind.i64.wrap (Wd.num xs) = Wd.num xs := IntWalk.i64_in _ (by omega)
  have hc := refNumber_any v xs w h8 h
  rw [HT.out] at hc
  have HC := Lib.hid hc
  clear hc HT h8 h hl
  generalize Wd.num xs = n at *
  by_cases hn : 2147483648 ≤ n
  · go_enter Tryz.func96, Tryz.ntmps96
    go_wp2_with (go_at_call 31; refine HC.out.mono ?_; rintro e w' ⟨rfl, rfl⟩)
    go_ret
    refine ⟨ret_k ?_, rfl⟩
    unfold Hd.s32
    (try unfold wrap32); split <;> omega
  · have hn' : n < 2147483648 := by omega
    clear hn
    go_enter Tryz.func96, Tryz.ntmps96
    go_wp2_with (go_at_call 31; refine HC.out.mono ?_; rintro e w' ⟨rfl, rfl⟩)
    go_ret
    refine ⟨ret_k ?_, rfl⟩
    unfold Hd.s32
    (try unfold wrap32); split <;> omega

theorem hbytes_any (v : Int) (n : Nat) (w : World) (hn : n ≤ 8) :
    Calls Tryz.prog 97 #[.int .i64 v, .int .i64 n] w fun e w' => ∃ x, e = .returned x ∧ Owns w.heap.size w' x (Wd.bs (v % 18446744073709551616) n) ∧ Below w.heap.size w w' := by
  have H := Lib.hid (refBytes_own (v % 18446744073709551616) n w (by omega) (by omega) hn)
  go_enter Tryz.func97, Tryz.ntmps97
  go_wp2_with (go_at_call 32; refine H.out.mono ?_; rintro e w' ⟨x, rfl, hx, hb⟩)
  go_ret
  exact ⟨x, rfl, hx, hb⟩

set_option maxHeartbeats 400000 in
theorem refRecord_any (l h : Int) (w : World) (l0 : -2147483648 ≤ l) (l1 : l ≤ 2147483647) (h0 : -2147483648 ≤ h) (h1 : h ≤ 2147483647) :
    Calls Tryz.prog 68 #[.int .i32 l, .int .i32 h] w fun e w' => e = .returned (.int .u64 (Hd.jn l h)) ∧ Below w.heap.size w w' := by
  have H8 : Wd.Bytes8 (Wd.bs (l % 18446744073709551616) 4 ++ Wd.bs (h % 18446744073709551616) 4) := (Wd.bs_in _ _).app (Wd.bs_in _ _)
  have HN := Lib.hid (Hd.num_record l h)
  have HL : Hid ((Wd.bs (l % 18446744073709551616) 4 ++ Wd.bs (h % 18446744073709551616) 4).take 8 = Wd.bs (l % 18446744073709551616) 4 ++ Wd.bs (h % 18446744073709551616) 4) := Lib.hid (by rw [List.take_of_length_le]; simp [Wd.bs_length])
  go_enter Tryz.func68, Tryz.ntmps68
  go_wp2_with fail
  refine (hbytes_any l 4 w (by omega)).mono ?_
  rintro e w1 ⟨x, rfl, hx, hb1⟩
  go_wp2_with fail
  refine (hbytes_any h 4 w1 (by omega)).mono ?_
  rintro e w2 ⟨y, rfl, hy, hb2⟩
  have hx2 := hx.below hb2
  have hy2 := hy.bytes
  have hs1 := hb1.size
  have hs2 := hb2.size
  have HB := Lib.hid (hb1.after hb2)
  clear hx hy hb1 hb2
  go_wp2_with (first
    | (at_builtin; refine wpList_app rfl _ _ rfl w.heap.size x y _ _ rfl rfl hx2 hy2 (by simp [Wd.bs_length]) (by simp [Wd.bs_length]) (by omega) ?_; intro v3 w3 hv3 hb3 _; have hc := refNumber_any v3 _ w3 H8 hv3.bytes)
    | (go_at_call 31; refine hc.mono ?_; rintro e w' ⟨rfl, rfl⟩; rw [HL.out, HN.out]))
  go_ret
  exact ⟨rfl, HB.out.trans hb3⟩

set_option maxHeartbeats 400000 in
theorem refSplit_any (v : Int) (w : World) (v0 : 0 ≤ v) (v1 : v ≤ 18446744073709551615) :
    Calls Tryz.prog 65 #[.int .u64 v] w fun e w' => e = .returned (.tuple #[.int .i32 (Hd.s32 v), .int .i32 (Hd.s32 (v / 4294967296))]) ∧ Below w.heap.size w w' := by
  have H1 := Lib.hid (Hd.num_low v)
  have H2 := Lib.hid (Hd.num_high v)
  go_enter Tryz.func65, Tryz.ntmps65
  go_wp2_with fail
  refine (refBytes_own v 8 w v0 v1 (by omega)).mono ?_
  rintro e w1 ⟨x, rfl, hx, hb1⟩
  obtain ⟨g, cap, rfl, hn, hm, hg, hgl, hc⟩ := hx.form (by simp [Wd.bs_length])
  have ha := hx.bytes
  have l8 : (Wd.bs v 8).length = 8 := Wd.bs_length v 8
  rw [l8] at ha hn hc ⊢
  have hlo := ha.cut 0 4 cap (by omega)
  have hhi := ha.cut 4 4 (cap - 4) (by omega)
  rw [Nat.zero_add, List.drop_zero] at hlo
  rw [List.take_of_length_le (l := (Wd.bs v 8).drop 4) (by rw [List.length_drop]; omega), Nat.zero_add] at hhi
  have hS1 := fun n => signed_any _ _ (w1.drewN n) (Wd.take_bytes (Wd.bs_in v 8) 4) (by rw [List.length_take]; omega) (hlo.drewN n)
  have hS2 := fun n => signed_any _ _ (w1.drewN n) (Wd.drop_bytes (Wd.bs_in v 8) 4) (by rw [List.length_drop]; omega) (hhi.drewN n)
  have HS1 := Lib.hid hS1
  have HS2 := Lib.hid hS2
  have HB := Lib.hid hb1
  have hcap : (4 : Int) ≤ (cap : Int) := by omega
  clear hx ha hlo hhi hS1 hS2 hc hb1 l8 hm hg hgl
  go_wp2_with fail
  go_quiet ((first
    | (go_at_call 96; (with_reducible exact quiet_same (HS1.out _)))
    | (go_at_call 96; (with_reducible exact quiet_same (HS2.out _)))))
  go_wp2
  go_ret2
  refine ⟨ret_two H1.out.symm H2.out.symm, below_drewN HB.out _⟩

set_option maxHeartbeats 400000 in
theorem refSize_any (n head tz : Int) (w : World) (a0 : 0 ≤ head) (a1 : head ≤ 1000) :
    Calls Tryz.prog 103 #[.int .i64 n, .int .i64 head, .int .i64 tz] w fun e w' => e = .returned (.tuple #[.int .i64 (sz n head tz), .int .i64 (szE n head tz)]) ∧ w = w' := by
  by_cases h0 : 0 ≤ n
  · by_cases h1 : n ≤ 131072
    · have hk : szOk n = true := by unfold szOk; simp [h0, h1]
      have e1 : sz n head tz = Wd.al (n + head) tz := by unfold sz; rw [if_pos hk, Int.add_comm]
      have e2 : szE n head tz = alE (n + head) tz := by unfold szE; rw [if_pos hk, Int.add_comm]
      rw [e1, e2]
      clear e1 e2 hk
      have hw : IntKind.i64.wrap (n + head) = n + head := IntWalk.i64_in _ (by omega)
      go_enter Tryz.func103, Tryz.ntmps103
      go_wp2_with (go_at_call 125; refine (refAlign_any _ _ _).mono ?_; rintro e w' ⟨rfl, rfl⟩)
      go_ret2
      exact ⟨rfl, rfl⟩
    · have hk : szOk n = false := by unfold szOk; simp; omega
      have e1 : sz n head tz = 0 := by unfold sz; rw [hk]; rfl
      have e2 : szE n head tz = 1 := by unfold szE; rw [hk]; rfl
      rw [e1, e2]
      have h1' : 131072 < n := by omega
      clear e1 e2 hk h1
      go_enter Tryz.func103, Tryz.ntmps103
      go_wp2
      go_ret2
      exact ⟨rfl, rfl⟩
  · have hk : szOk n = false := by unfold szOk; simp; omega
    have e1 : sz n head tz = 0 := by unfold sz; rw [hk]; rfl
    have e2 : szE n head tz = 1 := by unfold szE; rw [hk]; rfl
    rw [e1, e2]
    have h0' : n < 0 := by omega
    clear e1 e2 hk h0
    go_enter Tryz.func103, Tryz.ntmps103
    go_wp2
    go_ret2
    exact ⟨rfl, rfl⟩

theorem refRecordSize_any (n : Int) (w : World) :
    Calls Tryz.prog 75 #[.int .i64 n] w fun e w' => e = .returned (.tuple #[.int .i64 (sz n 8 8), .int .i64 (szE n 8 8)]) ∧ w = w' := by
  go_enter Tryz.func75, Tryz.ntmps75
  go_wp2_with (go_at_call 103; refine (refSize_any _ 8 8 _ (by omega) (by omega)).mono ?_; rintro e w' ⟨rfl, rfl⟩)
  go_ret2
  exact ⟨rfl, rfl⟩

end Go.Proofs.YtbhhegikfadpiaaGreat
namespace Go.Proofs.YtbhhegikfadpiaaGreat
open Go.RowKit

set_option maxRecDepth 100000 in
set_option maxHeartbeats 800000 in
theorem refRight_any (B Z : Int) (hB : -9223372036854775808 ≤ B ∧ B ≤ 9223372036854775807) (hZ : -9223372036854775808 ≤ Z ∧ Z ≤ 9223372036854775807) (w : World) :
    Calls Tryz.prog 62 #[.agg #[.int .i64 B, .int .i64 Z]] w (Made (.bool (decide (Rg.right B Z))) w) := by
  have hb0 := un_below w (.int .i64 B) (.int .i64 Z) 26
  have hx := Go.Deep.blk_alloc_new w (.cells #[.int .i64 B, .int .i64 Z] 26)
  obtain ⟨q, hq⟩ : ∃ q : Bool, q = decide (Rg.right B Z) := ⟨_, rfl⟩
  rw [← hq]
  have HQ := Lib.hid hq
  clear hq
  go_enter Tryz.func62, Tryz.ntmps62
  go_upto_region 1 with (fail)
  generalize w.alloc (.cells #[.int .i64 B, .int .i64 Z] 26) = W at hb0 hx ⊢
  have x0 : W.cell? ⟨w.heap.size, 0, none⟩ = some (.int .i64 B) := by simp [World.cell?, hx]
  have x1 : W.cell? ⟨w.heap.size, 1, none⟩ = some (.int .i64 Z) := by simp [World.cell?, hx]
  clear hx
  go_wp2_with (go_at_call 94; refine (refIsPower_any Z _).mono ?_; rintro e w2 ⟨rfl, rfl⟩)
  all_goals
    go_ret
    refine ⟨?_, hb0⟩
    rw [HQ.out]
    first
      | (rw [show decide (Rg.right B Z) = decide (B ≤ 131072 - Z - 32) by rw [decide_eq_decide]; exact ⟨fun h => h.2.2.2.2.1, fun h => ⟨by assumption, by omega, by omega, by omega, h, by omega⟩⟩]; rfl)
      | (rw [show decide (Rg.right B Z) = false from decide_eq_false (fun ⟨_, _, _, _, _, _⟩ => by first | omega | simp_all)]; rfl)

set_option maxRecDepth 100000 in
theorem refPlace_any (B Z : Int) (v : Nat) (hz : 64 ≤ Z) (hz1 : Z ≤ 8192) (w : World) :
    Calls Tryz.prog 64 #[.agg #[.int .i64 B, .int .i64 Z], .int .u64 v] w (Made (.int .i64 ((v : Int) % Z)) w) := by
  have hb0 := un_below w (.int .i64 B) (.int .i64 Z) 26
  have hx := Go.Deep.blk_alloc_new w (.cells #[.int .i64 B, .int .i64 Z] 26)
  go_enter Tryz.func64, Tryz.ntmps64
  go_upto_region 1 with (fail)
  generalize w.alloc (.cells #[.int .i64 B, .int .i64 Z] 26) = W at hb0 hx ⊢
  have x1 : W.cell? ⟨w.heap.size, 1, none⟩ = some (.int .i64 Z) := by simp [World.cell?, hx]
  clear hx
  go_wp2
  go_ret
  refine ⟨?_, hb0⟩
  have h1 : wrap64 ((v : Int) % Z) = (v : Int) % Z := by
    have h2 := Int.emod_nonneg (v : Int) (b := Z) (by omega)
    have h3 := Int.emod_lt_of_pos (v : Int) (b := Z) (by omega)
    unfold wrap64
    omega
  show Ending.returned (.int .i64 (wrap64 ((v : Int) % Z))) = _
  rw [h1]

theorem wrap_room (Z x : Int) : wrap64 (IntKind.u64.wrap (IntKind.u64.wrap Z - IntKind.u64.wrap x)) = wrap64 (Z - x) := by
  have h : ∀ y, IntKind.u64.wrap y = y % 18446744073709551616 := fun y => by simp [IntKind.wrap, IntKind.signed, IntKind.bits]
  rw [h, h, h]
  unfold wrap64
  omega

set_option maxRecDepth 100000 in
theorem refRoom_any (B Z : Int) (t h : Nat) (w : World) :
    Calls Tryz.prog 76 #[.agg #[.int .i64 B, .int .i64 Z], .int .u64 t, .int .u64 h] w (Made (.int .i64 (wrap64 (Z - ((t : Int) - h)))) w) := by
  have hb0 := un_below w (.int .i64 B) (.int .i64 Z) 26
  have hx := Go.Deep.blk_alloc_new w (.cells #[.int .i64 B, .int .i64 Z] 26)
  go_enter Tryz.func76, Tryz.ntmps76
  go_upto_region 1 with (fail)
  generalize w.alloc (.cells #[.int .i64 B, .int .i64 Z] 26) = W at hb0 hx ⊢
  have x1 : W.cell? ⟨w.heap.size, 1, none⟩ = some (.int .i64 Z) := by simp [World.cell?, hx]
  clear hx
  go_wp2
  go_ret
  refine ⟨?_, hb0⟩
  rw [← wrap_room]
  rfl
end Go.Proofs.YtbhhegikfadpiaaGreat
namespace Go.Proofs.YtbhhegikfadpiaaGreat
open Go.RowKit

/-- Of one ring and one message. -/
structure Rs.Like (s : Rs) (B Z : Nat) (typ : Int) (f : Nat → Nat) (L : Nat) : Prop where
  b : s.B = B
  z : s.Z = Z
  y : s.typ = typ
  f : s.f = f
  l : s.L = L

/-- What stands while the document's put tries. -/
inductive PutLoop (m : Pm) (T : Nat → Ans) (B Z : Nat) (typ : Int) (f : Nat → Nat) (L p cap i : Nat) (A : Option Addr) : Value → Value → Value → Value → Value → Value → World → Prop where
  | try_ (j : Nat) (s : Rs) (t : Nat) (g q : Int) (wr : World) (hj : j ≤ i) (hm : m.at T j = .live s) (hp : s.ph = .tail) (hc : s.cl = false) (he : s.er = 0) (hl : s.Like B Z typ f L) (ht : TpOpen wr p A cap i j) :
      PutLoop m T B Z typ f L p cap i A (.int .u64 (Rs.un s.h : Nat)) (.bool true) (.int .u64 t) (.int .i64 g) (.int .i64 q) (.bool false) wr
  | won (j : Nat) (s : Rs) (h : Nat) (g pad : Int) (wr : World) (hj : j ≤ i) (hm : m.at T j = .live s) (hc : s.cl = true) (he : s.er = 0) (hpos : s.p = Rs.wr (s.t + pad)) (hp : (pad = 0 ∧ s.ph = .hdr) ∨ (0 < pad ∧ pad = s.gap ∧ s.ph = .padd pad)) (hl : s.Like B Z typ f L) (ht : TpOpen wr p A cap i j) :
      PutLoop m T B Z typ f L p cap i A (.int .u64 h) (.bool true) (.int .u64 (Rs.un s.t : Nat)) (.int .i64 g) (.int .i64 pad) (.bool true) wr
  | want (s : Rs) (a : Ac) (h t : Nat) (g q : Int) (wr : World) (hm : m.at T i = .live s) (hc : s.cl = false) (hn : s.next = some a) (hl : s.Like B Z typ f L) (ht : TpWant wr p A cap i a) :
      PutLoop m T B Z typ f L p cap i A (.int .u64 h) (.bool false) (.int .u64 t) (.int .i64 g) (.int .i64 q) (.bool false) wr

/-- A number without its sign stands at the same place. -/
theorem un_place {Z : Nat} (h : Wd.isP Z = true) (_h1 : (Z : Int) ≤ 8192) (x : Int) : ((Rs.un x : Nat) : Int) % (Z : Int) = x % (Z : Int) := by
  obtain ⟨k, hk, he⟩ := (Wd.isP_iff _).1 h
  have hx : ((Rs.un x : Nat) : Int) = x % 18446744073709551616 := by
    unfold Rs.un
    exact Int.toNat_of_nonneg (Int.emod_nonneg _ (by decide))
  rw [hx, he]
  refine Int.emod_emod_of_dvd _ ⟨2 ^ (64 - k), ?_⟩
  rw [← Int.pow_add, show k + (64 - k) = 64 by omega]
  rfl

theorem wr_place {Z : Nat} (h : Wd.isP Z = true) (x : Int) : Rs.wr x % (Z : Int) = x % (Z : Int) := by
  obtain ⟨k, hk, he⟩ := (Wd.isP_iff _).1 h
  have hd : (Z : Int) ∣ 18446744073709551616 := by
    rw [he]
    refine ⟨2 ^ (64 - k), ?_⟩
    rw [← Int.pow_add, show k + (64 - k) = 64 by omega]
    rfl
  obtain ⟨q, hq⟩ := hd
  have hw : Rs.wr x = x - (Z : Int) * (q * ((x + 9223372036854775808) / 18446744073709551616)) := by
    have e : (Z : Int) * (q * ((x + 9223372036854775808) / 18446744073709551616)) = 18446744073709551616 * ((x + 9223372036854775808) / 18446744073709551616) := by rw [hq, Int.mul_assoc]
    rw [e]
    unfold Rs.wr wrap64
    omega
  rw [hw]
  exact Int.sub_mul_emod_self_left _ _ _

theorem put_pos (t pad : Int) : wrap64 (IntKind.u64.wrap (((Rs.un t : Nat) : Int) + IntKind.u64.wrap pad)) = Rs.wr (t + pad) := by
  have h : ∀ y, IntKind.u64.wrap y = y % 18446744073709551616 := fun y => by simp [IntKind.wrap, IntKind.signed, IntKind.bits]
  have hx : ((Rs.un t : Nat) : Int) = t % 18446744073709551616 := by
    unfold Rs.un
    exact Int.toNat_of_nonneg (Int.emod_nonneg _ (by decide))
  rw [h, h, hx]
  unfold Rs.wr wrap64
  omega

/-- What stands while the document's put writes. -/
inductive PutWon (m : Pm) (T : Nat → Ans) (B Z : Nat) (typ : Int) (f : Nat → Nat) (L p cap i : Nat) (A : Option Addr) (q : Int) : Value → Value → World → Prop where
  | go (j : Nat) (s : Rs) (at_ : Int) (wr : World) (hj : j ≤ i) (hm : m.at T j = .live s) (hp : s.ph = .hdr) (hc : s.cl = true) (he : s.er = 0) (hat : at_ = s.spot s.p) (hq : s.p = q) (hl : s.Like B Z typ f L) (ht : TpOpen wr p A cap i j) :
      PutWon m T B Z typ f L p cap i A q (.bool true) (.int .i64 at_) wr
  | want (s : Rs) (a : Ac) (at_ : Int) (wr : World) (hm : m.at T i = .live s) (hc : s.cl = true) (hn : s.next = some a) (hl : s.Like B Z typ f L) (ht : TpWant wr p A cap i a) :
      PutWon m T B Z typ f L p cap i A q (.bool false) (.int .i64 at_) wr

theorem ring_end (t Z : Int) (_hz : 0 < Z) : (t + (Z - t % Z)) % Z = 0 := by
  have h := Int.emod_add_mul_ediv t Z
  have e : t + (Z - t % Z) = Z * (t / Z + 1) := by rw [Int.mul_add, Int.mul_one]; omega
  rw [e]
  exact Int.mul_emod_right _ _

/-- What stands while the document's put tries: the room at the tail is known, or something is wanted. -/
inductive PutMid (m : Pm) (T : Nat → Ans) (B Z : Nat) (typ : Int) (f : Nat → Nat) (L p cap i j0 : Nat) (A : Option Addr) : Value → Value → Value → World → Prop where
  | go (j : Nat) (s : Rs) (wr : World) (hj0 : j0 < j) (hj : j ≤ i) (hm : m.at T j = .live s.choose) (hc : s.cl = false) (he : s.er = 0) (hl : s.Like B Z typ f L) (ht : TpOpen wr p A cap i j) :
      PutMid m T B Z typ f L p cap i j0 A (.int .u64 (Rs.un s.h : Nat)) (.bool true) (.int .u64 (Rs.un s.t : Nat)) wr
  | want (s : Rs) (a : Ac) (h t : Nat) (wr : World) (hm : m.at T i = .live s) (hc : s.cl = false) (hn : s.next = some a) (hl : s.Like B Z typ f L) (ht : TpWant wr p A cap i a) :
      PutMid m T B Z typ f L p cap i j0 A (.int .u64 h) (.bool false) (.int .u64 t) wr

/-- .. the claim comes next, or something is wanted. -/
inductive PutCas (m : Pm) (T : Nat → Ans) (B Z : Nat) (typ : Int) (f : Nat → Nat) (L p cap i j0 : Nat) (A : Option Addr) (pad : Int) (t : Nat) : Value → Value → World → Prop where
  | go (j : Nat) (s : Rs) (wr : World) (hj0 : j0 < j) (hj : j ≤ i) (hm : m.at T j = .live s) (hp : s.ph = .cas pad) (hc : s.cl = false) (he : s.er = 0) (ht' : Rs.un s.t = t) (hpad : pad = 0 ∨ (0 < pad ∧ pad = s.gap)) (hl : s.Like B Z typ f L) (ht : TpOpen wr p A cap i j) :
      PutCas m T B Z typ f L p cap i j0 A pad t (.int .u64 (Rs.un s.h : Nat)) (.bool true) wr
  | want (s : Rs) (a : Ac) (h : Nat) (wr : World) (hm : m.at T i = .live s) (hc : s.cl = false) (hn : s.next = some a) (hl : s.Like B Z typ f L) (ht : TpWant wr p A cap i a) :
      PutCas m T B Z typ f L p cap i j0 A pad t (.int .u64 h) (.bool false) wr

theorem un_cast (x : Int) : ((Rs.un x : Nat) : Int) = x % 18446744073709551616 := by
  unfold Rs.un
  exact Int.toNat_of_nonneg (Int.emod_nonneg _ (by decide))

theorem fits_room (Z t h : Int) : wrap64 (Z - (((Rs.un t : Nat) : Int) - ((Rs.un h : Nat) : Int))) = Rs.wr (Z - Rs.wr (t - h)) := by
  rw [un_cast, un_cast]
  unfold Rs.wr wrap64
  omega

theorem cas_new (t nd pad : Int) : IntKind.u64.wrap (((Rs.un t : Nat) : Int) + (nd + pad)) = ((Rs.un (Rs.wr (Rs.wr (t + nd) + pad)) : Nat) : Int) := by
  have h : ∀ y, IntKind.u64.wrap y = y % 18446744073709551616 := fun y => by simp [IntKind.wrap, IntKind.signed, IntKind.bits]
  rw [h, un_cast, un_cast]
  unfold Rs.wr wrap64
  omega

theorem told_num {w : World} {A : Option Addr} {i : Nat} {T : Nat → Ans} (h : ToldAt w A i T) {j : Nat} (hj : j < i) : (T j).V < 18446744073709551616 := by
  obtain ⟨_, _, _, _, hc⟩ := h (by omega)
  exact (hc j hj).2.2.2.num

theorem Rs.take_tail (s : Rs) (x : An) (v : Nat) (h : s.ph = .tail) (hv : v = x.V) (s1 : Rs) (h1 : s1 = { s with t := Rs.wr (v : Int) }) : s.take x = if s1.fits = true then s1.choose else { s1 with ph := .head1 } := by
  subst h1 hv
  unfold Rs.take
  rw [h]

theorem Rs.fits_ph (s : Rs) (ph : Ph) : ({ s with ph := ph } : Rs).fits = s.fits := rfl
theorem Rs.ahead_ph (s : Rs) (ph : Ph) : ({ s with ph := ph } : Rs).ahead = s.ahead := rfl

theorem Rs.take_head1 (s : Rs) (x : An) (v : Nat) (hv : v = x.V) (s2 : Rs) (h2 : s2 = { s with h := Rs.wr (v : Int) }) : ({ s with ph := .head1 } : Rs).take x = if s2.fits = true then { s2 with ph := .copy1 } else { s2 with ph := .fin, er := 5 } := by
  subst h2 hv
  show (if ({ ({ s with h := Rs.wr x.V } : Rs) with ph := .head1 } : Rs).fits = true then _ else _) = _
  rw [Rs.fits_ph]

theorem Rs.take_head2 (s : Rs) (gap : Int) (x : An) (v : Nat) (hv : v = x.V) (s2 : Rs) (h2 : s2 = { s with h := Rs.wr (v : Int) }) : ({ s with ph := .head2 gap } : Rs).take x = if s2.ahead = true then { s2 with ph := .copy2 gap } else { s2 with ph := .fin, er := 5 } := by
  subst h2 hv
  show (if ({ ({ s with h := Rs.wr x.V } : Rs) with ph := .head2 gap } : Rs).ahead = true then _ else _) = _
  rw [Rs.ahead_ph]

theorem Rs.gap_h (s : Rs) (v : Int) : ({ s with h := v } : Rs).gap = s.gap := rfl

theorem run_on {P : Program} {c : Code} {Q : Exit → Act → World → Prop} {K : Act → World → Prop} {a : Act} {w : World} (h : ∀ (a : Act) (w : World), Code.wp P c Q a w → K a w) (hw : Code.wp P c Q a w) : K a w := h a w hw

/-- How much is still to be done: rounds of the trying. -/
def putMeasure (p i : Nat) (vo vd : Value) (wr : World) : Nat :=
  match vo, vd with
  | .bool true, .bool false => 1 + i - (intOf ((wr.cell? ⟨p, 1, none⟩).getD (.int .i64 0))).toNat
  | _, _ => 0

set_option maxRecDepth 100000 in
set_option maxHeartbeats 4000000 in
theorem refPut_live (B Z : Nat) (typ : Int) (hB : -9223372036854775808 ≤ (B : Int) ∧ (B : Int) ≤ 9223372036854775807) (hZ : -9223372036854775808 ≤ (Z : Int) ∧ (Z : Int) ≤ 9223372036854775807) (hok : Rg.right B Z) (htyp : ¬ typ < 1) (htyp2 : typ ≤ 2147483647) (Ab : Option Addr) (L c : Nat) (hfew : ¬ (Z : Int) < 8 * (L : Int)) (hLc : L ≤ c) (hc : c ≤ 9223372036854775807) (f : Nat → Nat) (hf : Mb.IsB f)
    (p cap i : Nat) (A : Option Addr) (hi : i ≤ cap) (hcap : cap ≤ 9223372036854775807) (T : Nat → Ans) (hA : 0 < i → ∀ a, A = some a → a.block ≠ p) (w : World) (hby : BytesAt w (.slice Ab L c) (Mb.bl f 0 L)) (hT : ToldAt w A i T) (ht : Tp w p A cap i 0 0 0 0 0 0 (.slice none 0 0) false)
    (m : Pm) (hm : m = .live ⟨B, Z, typ, f, L, 0, 0, 0, false, .ask, 0⟩) :
    Calls Tryz.prog 42 #[.pointer (some ⟨p, 0, none⟩), .agg #[.int .i64 B, .int .i64 Z], .int .i32 typ, .slice Ab L c] w (PutSays p A cap i (m.at T i) w) := by
  have hb0 := un_below w (.int .i64 B) (.int .i64 Z) 26
  have hx := Go.Deep.blk_alloc_new w (.cells #[.int .i64 B, .int .i64 Z] 26)
  have HBZ := Lib.hid (And.intro hB hZ)
  have HOK := Lib.hid hok
  have HTY := Lib.hid (And.intro htyp htyp2)
  have HM := Lib.hid hm
  have HLC := Lib.hid (And.intro hLc hc)
  have HI := Lib.hid (And.intro hi hcap)
  have hdt : decide (typ < 1) = false := by simpa using htyp
  have hz0 : 64 ≤ (Z : Int) := hok.2.1
  have hz1 : (Z : Int) ≤ 8192 := hok.2.2.1
  have hB0 : 0 ≤ (B : Int) := by omega
  have hB1 : (B : Int) ≤ 131072 - Z - 32 := hok.2.2.2.2.1
  have hdl : ¬ (Z : Int) / 8 < (L : Int) := by omega
  have hdd : decide ((Z : Int) / 8 < (L : Int)) = false := by simpa using hdl
  have hneed := rp_need_aux L (by omega)
  have HNE := Lib.hid hneed
  have HBY := Lib.hid (hby.below hb0)
  have HTO := Lib.hid (hT.below hb0)
  have HTP := Lib.hid (ht.below hb0)
  have HAA := Lib.hid hA
  have HF := Lib.hid hf
  have hplt := ht.lt
  clear hB hZ hok htyp htyp2 hneed hby hT hA ht hm hf hi hcap hLc hc
  go_enter Tryz.func42, Tryz.ntmps42
  go_upto_region 1 with (fail)
  generalize w.alloc (.cells #[.int .i64 B, .int .i64 Z] 26) = W at hb0 hx HBY HTO HTP ⊢
  have x0 : W.cell? ⟨w.heap.size, 0, none⟩ = some (.int .i64 B) := by simp [World.cell?, hx]
  have x1 : W.cell? ⟨w.heap.size, 1, none⟩ = some (.int .i64 Z) := by simp [World.cell?, hx]
  have hlx := (Array.getElem?_eq_some_iff.1 hx).1
  clear hx
  go_upto_region 5 with (go_at_call 62; refine (refRight_any B Z HBZ.out.1 HBZ.out.2 W).mono ?_; rintro e w1 ⟨rfl, hb1⟩; rw [decide_eq_true HOK.out]; have y0 := (hb1.cell (p := ⟨w.heap.size, 0, none⟩) hlx).trans x0; have y1 := (hb1.cell (p := ⟨w.heap.size, 1, none⟩) hlx).trans x1)
  clear x0 x1 hdt hdd hdl
  go_upto_region 6 with (go_at_call 75; refine (refRecordSize_any (L : Int) w1).mono ?_; rintro e w3 ⟨rfl, rfl⟩; rw [HNE.out])
  obtain ⟨nd, hnd⟩ : ∃ nd : Int, nd = 8 * (((L : Int) + 15) / 8) := ⟨_, rfl⟩
  have hnd' : (8 * (((L : Int) + 15) / 8)) = nd := hnd.symm
  have hnd0 : 8 ≤ nd := by omega
  have hnd1 : nd ≤ 1040 := by omega
  have HND := Lib.hid hnd
  obtain ⟨q12, hq12⟩ : ∃ q12, q12 = szE (L : Int) 8 8 := ⟨_, rfl⟩
  rw [← hq12]
  simp only [hnd']
  clear hnd' hq12 hnd
  have HB1 := Lib.hid hb1
  have hs1 := hb1.size
  clear hb1
  go_upto_region 8 with (go_at_call 63; refine (tapeLoad_any (HTP.out.below HB1.out) (Nat.zero_le _) HI.out.1 HI.out.2 (HTO.out.below HB1.out) HAA.out _ _).mono ?_; rintro e w2 ⟨v, ok, rfl, hto, hor⟩; have HOR := Lib.hid hor; have HT2 := Lib.hid hto; clear hor hto)
  have hbp : w.heap.size ≠ p := by omega
  have z0 := (HT2.out.cell (p := ⟨w.heap.size, 0, none⟩) (lt_of_cell y0) hbp).trans y0
  have z1 := (HT2.out.cell (p := ⟨w.heap.size, 1, none⟩) (lt_of_cell y0) hbp).trans y1
  clear y0 y1
  have HTW := Lib.hid ((Touch.of_below (S := One p) (hb0.trans (HB1.out.mono hb0.size))).trans HT2.out)
  have HBY2 := Lib.hid (BytesAt.one (HTP.out.below HB1.out) (by intro x e; cases e) HT2.out (HBY.out.below HB1.out))
  have HTO2 := Lib.hid (ToldAt.one (HTP.out.below HB1.out) (by intro x e; cases e) HT2.out (HTO.out.below HB1.out) HAA.out)
  have HTX : Hid (∃ (K P N V U : Int) (B0 : Option Addr) (l0 c0 : Nat) (e : Bool) (j : Nat), Tp w2 p A cap i j K P N V U (.slice B0 l0 c0) e) := Lib.hid (by
    rcases HOR.out with ⟨_, _, _, h3⟩ | ⟨_, _, _, B0, l0, c0, h3, _⟩
    · exact ⟨_, _, _, _, _, _, _, _, _, _, h3⟩
    · exact ⟨_, _, _, _, _, _, _, _, _, _, h3⟩)
  clear HBY HTO HTP HT2 HB1 HNE HBZ
  go_wp2_with fail
  go_loopw [14, 15, 16, 17, 18, 19] (fun vh vo vt vg vp vd wr => PutLoop m T B Z typ f L p cap i A vh vo vt vg vp vd wr ∧ Touch (One p) w2 wr ∧ ∃ (K P N V U : Int) (B0 : Option Addr) (l0 c0 : Nat) (e : Bool) (j : Nat), Tp wr p A cap i j K P N V U (.slice B0 l0 c0) e) (fun vh vo vt vg vp vd wr => putMeasure p i vo vd wr)
  case atStart =>
    rcases HOR.out with ⟨rfl, h1, h2, h3⟩ | ⟨rfl, h1, h2, h3⟩
    · as_aux_lemma =>
        refine ⟨?_, Touch.refl _ _, ?_⟩
        · as_aux_lemma =>
            have hm1 := Pm.at_succ (T := T) (j := 0) (show m.at T 0 = .live ⟨B, Z, typ, f, L, 0, 0, 0, false, .ask, 0⟩ from HM.out)
            have hv : v < 18446744073709551616 := by
              obtain ⟨_, _, _, _, hc⟩ := HTO2.out h1
              rw [h2]
              exact (hc 0 h1).2.2.2.num
            have hq := PutLoop.try_ (m := m) (T := T) (B := B) (Z := Z) (typ := typ) (f := f) (L := L) (p := p) (cap := cap) (i := i) (A := A) 1 _ 0 0 0 w2 h1 hm1 rfl rfl rfl ⟨rfl, rfl, rfl, rfl, rfl⟩ h3
            have he : Rs.un ((⟨B, Z, typ, f, L, 0, 0, 0, false, .ask, 0⟩ : Rs).take (T 0).an).h = v := by
              show Rs.un (Rs.wr ((T 0).V : Int)) = v
              rw [← h2]
              exact Rs.un_wr hv
            rw [he] at hq
            exact hq
        · exact ⟨0, 0, 0, 0, 0, none, 0, 0, false, _, h3⟩
    · refine ⟨?_, Touch.refl _ _, ?_⟩
      · exact PutLoop.want ⟨B, Z, typ, f, L, 0, 0, 0, false, .ask, 0⟩ _ v 0 0 0 w2 (by rw [← h1]; exact HM.out) rfl rfl ⟨rfl, rfl, rfl, rfl, rfl⟩ h3
      · obtain ⟨B0, l0, c0, h4, _⟩ := h3
        exact ⟨_, _, _, _, _, B0, l0, c0, true, _, h4⟩
  case round =>
    obtain ⟨hloop, htr, htp⟩ := hrel
    have hw2 := htr.size
    have HTOr : Hid (ToldAt wr A i T) := Lib.hid (by
      obtain ⟨_, _, _, _, _, _, _, _, _, _, hx⟩ := HTX.out
      exact ToldAt.one hx (by intro x e; cases e) htr HTO2.out HAA.out)
    have HBYr : Hid (BytesAt wr (.slice Ab L c) (Mb.bl f 0 L)) := Lib.hid (by
      obtain ⟨_, _, _, _, _, _, _, _, _, _, hx⟩ := HTX.out
      exact BytesAt.one hx (by intro x e; cases e) htr HBY2.out)
    have z0' := (htr.cell (p := ⟨w.heap.size, 0, none⟩) (lt_of_cell z0) hbp).trans z0
    have z1' := (htr.cell (p := ⟨w.heap.size, 1, none⟩) (lt_of_cell z0) hbp).trans z1
    cases hloop with
    | try_ j s t g q wr hj hm hp hc he hl ht => 
      have hcv : ∀ {a : Act} {w : World}, True := trivial
      have HS0 := Lib.hid (And.intro hm (And.intro hp (And.intro hc (And.intro he hl))))
      have HT0 := Lib.hid ht
      have HTR := Lib.hid htr
      clear hm hp hc he hl ht htp htr hcv
      go_upto_region 11 with (fail)
      go_cut [15, 16] (fun vo vt wx => ∃ (v1 : Nat) (ok1 : Bool), vo = .bool ok1 ∧ vt = .int .u64 v1 ∧ Touch (One p) wr wx ∧ ((ok1 = true ∧ j < i ∧ v1 = (T j).V ∧ TpOpen wx p A cap i (j + 1)) ∨ (ok1 = false ∧ j = i ∧ v1 = 0 ∧ TpWant wx p A cap i ⟨1, (B : Int) + Z, 8, 0, 0, []⟩)))
      case first =>
        as_aux_lemma =>
          go_wp2_with (go_at_call 63; refine (tapeLoad_any HT0.out hj HI.out.1 HI.out.2 HTOr.out HAA.out _ _).mono ?_; rintro e x1 ⟨v1, ok1, rfl, hto1, hor1⟩; have HX1 := Lib.hid (And.intro hto1 hor1); clear hto1 hor1)
          go_meet
          exact ⟨v1, ok1, rfl, rfl, HX1.out.1, HX1.out.2⟩
      case rest => -- plain
        obtain ⟨v1, ok1, rfl, rfl, ht1, hor1⟩ := hcut
        have HO1 := Lib.hid hor1
        have HT1 := Lib.hid ht1
        have c0 := (ht1.cell (p := ⟨w.heap.size, 0, none⟩) (lt_of_cell z0') hbp).trans z0'
        have c1 := (ht1.cell (p := ⟨w.heap.size, 1, none⟩) (lt_of_cell z0') hbp).trans z1'
        have HTO1 := Lib.hid (ToldAt.one HT0.out (by intro x e; cases e) ht1 HTOr.out HAA.out)
        clear hor1 ht1
        obtain ⟨wa, hwa⟩ : ∃ W, W = wc := ⟨_, rfl⟩
        rw [← hwa] at HO1 HT1 c0 c1 HTO1 ⊢
        clear hwa
        refine run_on (by assumption) ?_
        refine wp_seq_k fun KM hKM => ?_
        go_cut [14, 15] (fun vh vo wx => PutMid m T B Z typ f L p cap i j A vh vo (.int .u64 v1) wx ∧ Touch (One p) wa wx)
        case first =>
          as_aux_lemma =>
            rcases HO1.out with ⟨rfl, hlt, hv1, hopen⟩ | ⟨rfl, hji, hv1, hwant⟩
            · as_aux_lemma =>
                have hvn : v1 < 18446744073709551616 := by rw [hv1]; exact told_num HTOr.out hlt
                obtain ⟨s1, hs1⟩ : ∃ s1 : Rs, s1 = { s with t := Rs.wr (v1 : Int) } := ⟨_, rfl⟩
                have hm1 : m.at T (j + 1) = .live (if s1.fits = true then s1.choose else { s1 with ph := .head1 }) := by
                  have h0 := Pm.at_succ HS0.out.1
                  rw [Rs.take_tail s (T j).an v1 HS0.out.2.1 hv1 s1 hs1] at h0
                  exact h0
                have hun1 : Rs.un s1.t = v1 := by rw [hs1]; exact Rs.un_wr hvn
                have hc1 : s1.cl = false := by rw [hs1]; exact HS0.out.2.2.1
                have he1 : s1.er = 0 := by rw [hs1]; exact HS0.out.2.2.2.1
                have hl1 : s1.Like B Z typ f L := by rw [hs1]; exact ⟨HS0.out.2.2.2.2.b, HS0.out.2.2.2.2.z, HS0.out.2.2.2.2.y, HS0.out.2.2.2.2.f, HS0.out.2.2.2.2.l⟩
                have hh1 : s1.h = s.h := by rw [hs1]
                have hneed : s1.need = nd := by
                  show 8 * (((s1.L + 15) / 8 : Nat) : Int) = nd
                  rw [hl1.l, HND.out]
                  omega
                have hroom : ∀ x : Rs, x.L = s1.L → x.Z = s1.Z → x.fits = decide (nd ≤ Rs.wr ((Z : Int) - Rs.wr (x.t - x.h))) := fun x h1 h2 => by
                  unfold Rs.fits
                  rw [show x.need = nd by rw [← hneed]; unfold Rs.need; rw [h1], h2, hl1.z]
                obtain ⟨rm, hrm⟩ : ∃ rm : Int, rm = Rs.wr ((Z : Int) - Rs.wr (s1.t - s1.h)) := ⟨_, rfl⟩
                have hrm2 : wrap64 ((Z : Int) - ((v1 : Int) - ((Rs.un s.h : Nat) : Int))) = rm := by rw [hrm, ← fits_room, hun1, hh1]
                have HR := Lib.hid hrm2
                have hfit := hroom s1 rfl rfl
                rw [← hrm] at hfit
                have HALL := Lib.hid (And.intro hm1 (And.intro hun1 (And.intro hc1 (And.intro he1 (And.intro hl1 (And.intro hh1 hroom))))))
                have HOP := Lib.hid hopen
                have HHF := Lib.hid hfit
                clear hm1 hun1 hc1 he1 hl1 hh1 hroom hopen hv1 hvn hs1 hneed hrm hrm2 hfit
                by_cases hf : nd ≤ rm
                · as_aux_lemma =>
                    have hdf : decide (rm < nd) = false := by simpa using hf
                    have HF2 : Hid (s1.fits = true) := Lib.hid (by rw [HHF.out]; simpa using hf)
                    go_wp2_with (go_at_call 76; refine (refRoom_any (B : Int) (Z : Int) v1 (Rs.un s.h) _).mono ?_; rintro e x2 ⟨rfl, hb2⟩; rw [HR.out])
                    go_meet
                    obtain ⟨hm1, hun1, hc1, he1, hl1, hh1, hroom⟩ := HALL.out
                    rw [if_pos HF2.out] at hm1
                    have hg := PutMid.go (j0 := j) (j + 1) s1 x2 (by omega) hlt hm1 hc1 he1 hl1 (HOP.out.below hb2)
                    rw [hun1, hh1] at hg
                    exact ⟨hg, Touch.of_below hb2⟩
                · as_aux_lemma =>
                    have hdf : decide (rm < nd) = true := by simpa using hf
                    have HF2 : Hid (¬ s1.fits = true) := Lib.hid (by rw [HHF.out]; simpa using hf)
                    go_wp2_with (first
                      | (go_at_call 76; refine (refRoom_any (B : Int) (Z : Int) v1 (Rs.un s.h) _).mono ?_; rintro e x2 ⟨rfl, hb2⟩; rw [HR.out]; have d0 := (hb2.cell (p := ⟨w.heap.size, 0, none⟩) (lt_of_cell c0)).trans c0; have d1 := (hb2.cell (p := ⟨w.heap.size, 1, none⟩) (lt_of_cell c0)).trans c1))
                    refine (tapeLoad_any (HOP.out.below hb2) hlt HI.out.1 HI.out.2 (HTO1.out.below hb2) HAA.out _ _).mono ?_
                    rintro e x3 ⟨v3, ok3, rfl, hto3, hor3⟩
                    have e0 := (hto3.cell (p := ⟨w.heap.size, 0, none⟩) (lt_of_cell d0) hbp).trans d0
                    have e1 := (hto3.cell (p := ⟨w.heap.size, 1, none⟩) (lt_of_cell d0) hbp).trans d1
                    have HT3 := Lib.hid ((Touch.of_below (S := One p) hb2).trans hto3)
                    have HTO3 := Lib.hid (ToldAt.one (HOP.out.below hb2) (by intro x e; cases e) hto3 (HTO1.out.below hb2) HAA.out)
                    clear hto3 d0 d1
                    rcases hor3 with ⟨rfl, hlt3, hv3, hopen3⟩ | ⟨rfl, hji3, hv3, hwant3⟩
                    · have hvn3 : v3 < 18446744073709551616 := by rw [hv3]; exact told_num HTOr.out hlt3
                      obtain ⟨s2, hs2⟩ : ∃ s2 : Rs, s2 = { s1 with h := Rs.wr (v3 : Int) } := ⟨_, rfl⟩
                      obtain ⟨hm1, hun1, hc1, he1, hl1, hh1, hroom⟩ := HALL.out
                      rw [if_neg HF2.out] at hm1
                      have hm2 : m.at T (j + 1 + 1) = .live (if s2.fits = true then { s2 with ph := .copy1 } else { s2 with ph := .fin, er := 5 }) := by
                        have h0 := Pm.at_succ hm1
                        rw [Rs.take_head1 s1 (T (j + 1)).an v3 hv3 s2 hs2] at h0
                        exact h0
                      have hun2 : Rs.un s2.t = v1 := by rw [hs2]; exact hun1
                      have hunh : Rs.un s2.h = v3 := by rw [hs2]; exact Rs.un_wr hvn3
                      have hc2 : s2.cl = false := by rw [hs2]; exact hc1
                      have he2 : s2.er = 0 := by rw [hs2]; exact he1
                      have hl2 : s2.Like B Z typ f L := by rw [hs2]; exact ⟨hl1.b, hl1.z, hl1.y, hl1.f, hl1.l⟩
                      have hfit2 := hroom s2 (by rw [hs2]) (by rw [hs2])
                      obtain ⟨rm2, hrm2⟩ : ∃ rm : Int, rm = Rs.wr ((Z : Int) - Rs.wr (s2.t - s2.h)) := ⟨_, rfl⟩
                      have hrm3 : wrap64 ((Z : Int) - ((v1 : Int) - (v3 : Int))) = rm2 := by rw [hrm2, ← fits_room, hun2, hunh]
                      rw [← hrm2] at hfit2
                      have HR2 := Lib.hid hrm3
                      have HHF2 := Lib.hid hfit2
                      have HALL2 := Lib.hid (And.intro hm2 (And.intro hun2 (And.intro hunh (And.intro hc2 (And.intro he2 hl2)))))
                      have HOP3 := Lib.hid hopen3
                      clear hm1 hun1 hc1 he1 hl1 hh1 hroom hm2 hun2 hunh hc2 he2 hl2 hfit2 hrm2 hrm3 hs2 hv3 hvn3 hopen3
                      by_cases hf2 : nd ≤ rm2
                      · as_aux_lemma =>
                          have hdf2 : decide (rm2 < nd) = false := by simpa using hf2
                          have HF3 : Hid (s2.fits = true) := Lib.hid (by rw [HHF2.out]; simpa using hf2)
                          go_wp2_with (go_at_call 76; refine (refRoom_any (B : Int) (Z : Int) v1 v3 _).mono ?_; rintro e x4 ⟨rfl, hb4⟩; rw [HR2.out])
                          refine (tapeStore_any (HOP3.out.below hb4) hlt3 HI.out.1 HI.out.2 (HTO3.out.below hb4) HAA.out _ _ v3).mono ?_
                          rintro e x5 ⟨ok5, rfl, hto5, hor5⟩
                          have HX5 := Lib.hid (And.intro ((HT3.out.trans (Touch.of_below hb4)).trans hto5) hor5)
                          clear hto5 hor5
                          go_wp2_with fail
                          go_meet
                          obtain ⟨hm2, hun2, hunh, hc2, he2, hl2⟩ := HALL2.out
                          rw [if_pos HF3.out] at hm2
                          refine ⟨?_, HX5.out.1⟩
                          rcases HX5.out.2 with ⟨rfl, hlt5, _, hopen5⟩ | ⟨rfl, hji5, _, hwant5⟩
                          · have hg := PutMid.go (j0 := j) (j + 1 + 1 + 1) { s2 with ph := .copy1 } x5 (by omega) hlt5 (Pm.at_succ hm2) hc2 he2 ⟨hl2.b, hl2.z, hl2.y, hl2.f, hl2.l⟩ hopen5
                            rw [show Rs.un ({ s2 with ph := .copy1 } : Rs).t = v1 from hun2, show Rs.un ({ s2 with ph := .copy1 } : Rs).h = v3 from hunh] at hg
                            exact hg
                          · rw [hji5] at hm2
                            refine PutMid.want { s2 with ph := .copy1 } _ _ _ _ hm2 hc2 ?_ ⟨hl2.b, hl2.z, hl2.y, hl2.f, hl2.l⟩ hwant5
                            show some (⟨2, (s2.B : Int) + (s2.Z : Int) + 8, 8, Rs.un s2.h, 0, []⟩ : Ac) = _
                            rw [hl2.b, hl2.z, hunh]
                      · as_aux_lemma =>
                          have hdf2 : decide (rm2 < nd) = true := by simpa using hf2
                          have HF3 : Hid (¬ s2.fits = true) := Lib.hid (by rw [HHF2.out]; simpa using hf2)
                          have HEND : Hid (∀ x4, Below x3.heap.size x3 x4 → PutSays p A cap i (m.at T i) w (.returned (.tuple #[.int .i64 0, .bool false, .int .i64 5])) x4) := Lib.hid (fun x4 hb4 => by
                            obtain ⟨hm2, hun2, hunh, hc2, he2, hl2⟩ := HALL2.out
                            rw [if_neg HF3.out] at hm2
                            have hend := Pm.at_end hm2 rfl (i - (j + 1 + 1))
                            rw [show j + 1 + 1 + (i - (j + 1 + 1)) = i by omega] at hend
                            have h9 := putSays_end (w := w) (pos := 0) hend rfl (by show s2.Z ≠ 0; rw [hl2.z]; omega) (fun h => absurd (show (5 : Int) = 0 from h) (by decide)) ((((HTW.out.trans HTR.out).trans HT1.out).trans HT3.out).trans (Touch.of_below hb4)) (HOP3.out.below hb4)
                            rw [show ({ s2 with ph := .fin, er := 5 } : Rs).cl = false from hc2] at h9
                            exact h9)
                          go_wp2_with (go_at_call 76; refine (refRoom_any (B : Int) (Z : Int) v1 v3 _).mono ?_; rintro e x4 ⟨rfl, hb4⟩; rw [HR2.out])
                          refine bodyPost_ret (v := .tuple #[.int .i64 0, .bool false, .int .i64 5]) (by simp [results, Tryz.results42, go_sem]) rfl ?_
                          exact HEND.out _ hb4
                    · as_aux_lemma =>
                        have HW3 := Lib.hid hwant3
                        clear hwant3
                        go_wp2_with fail
                        go_meet
                        obtain ⟨hm1, hun1, hc1, he1, hl1, hh1, hroom⟩ := HALL.out
                        rw [if_neg HF2.out, hji3] at hm1
                        refine ⟨PutMid.want { s1 with ph := .head1 } _ _ _ _ hm1 hc1 ?_ ⟨hl1.b, hl1.z, hl1.y, hl1.f, hl1.l⟩ HW3.out, HT3.out⟩
                        show some (⟨1, (s1.B : Int) + (s1.Z : Int) + 16, 8, 0, 0, []⟩ : Ac) = _
                        rw [hl1.b, hl1.z]
            · as_aux_lemma =>
                have HW1 := Lib.hid hwant
                clear hwant
                subst hv1
                go_wp2_with fail
                go_meet
                refine ⟨PutMid.want s _ _ _ _ (by rw [← hji]; exact HS0.out.1) HS0.out.2.2.1 ?_ HS0.out.2.2.2.2 HW1.out, Touch.refl _ _⟩
                unfold Rs.next
                rw [HS0.out.2.1]
                show some (⟨1, (s.B : Int) + (s.Z : Int) + 0, 8, 0, 0, []⟩ : Ac) = _
                rw [HS0.out.2.2.2.2.b, HS0.out.2.2.2.2.z, Int.add_zero]
        case rest => -- plain
          obtain ⟨hmid, htm⟩ := hcut
          have HTM := Lib.hid htm
          have f0 := (htm.cell (p := ⟨w.heap.size, 0, none⟩) (lt_of_cell c0) hbp).trans c0
          have f1 := (htm.cell (p := ⟨w.heap.size, 1, none⟩) (lt_of_cell c0) hbp).trans c1
          have HTA := Lib.hid ((HTR.out.trans HT1.out).trans htm)
          have HTOm : Hid (ToldAt wc A i T) := Lib.hid (by
            obtain ⟨_, _, _, _, _, _, _, _, _, _, hx⟩ := HTX.out
            exact ToldAt.one hx (by intro x e; cases e) ((HTR.out.trans HT1.out).trans htm) HTO2.out HAA.out)
          have hmeas : putMeasure p i (.bool true) (.bool false) wr = 1 + i - j := by
            unfold putMeasure
            rw [HT0.out.c1]
            simp [intOf]
          have HME := Lib.hid hmeas
          have hpl0 : 0 ≤ (v1 : Int) % (Z : Int) := Int.emod_nonneg _ (by omega)
          have hpl1 : (v1 : Int) % (Z : Int) < (Z : Int) := Int.emod_lt_of_pos _ (by omega)
          clear htm hmeas HT1 HTO1 HO1 c0 c1
          obtain ⟨wb, hwb⟩ : ∃ W, W = wc := ⟨_, rfl⟩
          rw [← hwb] at hmid HTM HTA HTOm f0 f1 ⊢
          clear hwb
          have hlw := lt_of_cell f0
          obtain ⟨pl, hpl⟩ : ∃ pl : Int, pl = (v1 : Int) % (Z : Int) := ⟨_, rfl⟩
          have HPL := Lib.hid hpl
          rw [← hpl] at hpl0 hpl1
          clear hpl
          have he1 : IntKind.i64.wrap ((Z : Int) - pl) = (Z : Int) - pl := IntWalk.i64_in _ (by omega)
          cases hmid with
          | want s' a h t wr' hm hc hn hl ht =>
            as_aux_lemma =>
              obtain ⟨B9, l9, c9, h9, h9b⟩ := ht
              have HT9 := Lib.hid (And.intro h9 (And.intro h9b (And.intro hm (And.intro hc (And.intro hn hl)))))
              clear h9 h9b hm hc hn hl
              go_wp2_with fail
              go_region_held3 (fun w' => w'.cell? ⟨w.heap.size, 0, none⟩ = some (.int .i64 B) ∧ w'.cell? ⟨w.heap.size, 1, none⟩ = some (.int .i64 Z)) (go_keep)
                (first | (go_at_call 64; refine (refPlace_any (B : Int) (Z : Int) v1 hz0 hz1 _).mono ?_; rintro e x1 ⟨rfl, hq1⟩; rw [← HPL.out]; have hb1 := below_drew hq1; have u0 := (hb1.cell (p := ⟨w.heap.size, 0, none⟩) hlw).trans f0; have u1 := (hb1.cell (p := ⟨w.heap.size, 1, none⟩) hlw).trans f1))
              all_goals
                have hb1d : Below wb.heap.size wb x1 := hb1
                have HX := Lib.hid hb1d
                by_cases hg : (Z : Int) - pl < nd
                · go_wp2_with fail
                  go_roundw
                  case rel =>
                    refine ⟨PutLoop.want s' a h v1 _ _ _ HT9.out.2.2.1 HT9.out.2.2.2.1 HT9.out.2.2.2.2.1 HT9.out.2.2.2.2.2 ⟨B9, l9, c9, HT9.out.1.below HX.out, HT9.out.2.1.below HX.out⟩, HTA.out.trans (Touch.of_below HX.out), _, _, _, _, _, B9, l9, c9, _, _, HT9.out.1.below HX.out⟩
                  case measure =>
                    rw [HME.out]
                    show 0 < _
                    omega
                · go_wp2_with fail
                  go_roundw
                  case rel =>
                    refine ⟨PutLoop.want s' a h v1 _ _ _ HT9.out.2.2.1 HT9.out.2.2.2.1 HT9.out.2.2.2.2.1 HT9.out.2.2.2.2.2 ⟨B9, l9, c9, HT9.out.1.below HX.out, HT9.out.2.1.below HX.out⟩, HTA.out.trans (Touch.of_below HX.out), _, _, _, _, _, B9, l9, c9, _, _, HT9.out.1.below HX.out⟩
                  case measure =>
                    rw [HME.out]
                    show 0 < _
                    omega
          | go j' s' wr' hj0 hj' hm hc he hl ht => -- plain
            have hneed : s'.need = nd := by
              show 8 * (((s'.L + 15) / 8 : Nat) : Int) = nd
              rw [hl.l, HND.out]
              omega
            have hgapq : s'.gap = (Z : Int) - pl := by
              show (s'.Z : Int) - s'.t % (s'.Z : Int) = _
              rw [hl.z, HPL.out, un_place HOK.out.1 hz1]
            have HALL := Lib.hid (And.intro hm (And.intro hc (And.intro he (And.intro hl (And.intro hneed hgapq)))))
            have HOP := Lib.hid ht
            clear hm hc he hl ht hneed hgapq
            go_wp2_with fail
            go_region_held3 (fun w' => w'.cell? ⟨w.heap.size, 0, none⟩ = some (.int .i64 B) ∧ w'.cell? ⟨w.heap.size, 1, none⟩ = some (.int .i64 Z)) (go_keep)
              (first | (go_at_call 64; refine (refPlace_any (B : Int) (Z : Int) (Rs.un s'.t) hz0 hz1 _).mono ?_; rintro e x1 ⟨rfl, hq1⟩; rw [← HPL.out]; have hb1 := below_drew hq1; have u0 := (hb1.cell (p := ⟨w.heap.size, 0, none⟩) hlw).trans f0; have u1 := (hb1.cell (p := ⟨w.heap.size, 1, none⟩) hlw).trans f1))
            all_goals
              have hb1d : Below wb.heap.size wb x1 := hb1
              have HX := Lib.hid hb1d
              obtain ⟨pad, hpad⟩ : ∃ pad : Int, pad = if nd ≤ (Z : Int) - pl then 0 else (Z : Int) - pl := ⟨_, rfl⟩
              refine run_on (by assumption) ?_
              refine wp_seq_k fun KG hKG => ?_
              go_cut [18] (fun vp wx => vp = .int .i64 pad ∧ wx = x1)
              case first =>
                as_aux_lemma =>
                  by_cases hg : nd ≤ (Z : Int) - pl
                  · have hdg : decide ((Z : Int) - pl < nd) = false := by simpa using hg
                    go_wp2_with fail
                    go_meet
                    exact ⟨by rw [hpad, if_pos hg], rfl⟩
                  · have hdg : decide ((Z : Int) - pl < nd) = true := by simpa using hg
                    go_wp2_with fail
                    go_meet
                    exact ⟨by rw [hpad, if_neg (show ¬ nd ≤ (Z : Int) - pl by omega)], rfl⟩
              case rest => -- plain
                obtain ⟨rfl, rfl⟩ := hcut
                have HPAD := Lib.hid hpad
                clear hpad
                have HTOx := Lib.hid (HTOm.out.below HX.out)
                have HOPx := Lib.hid (HOP.out.below HX.out)
                have hlu := lt_of_cell u0
                refine run_on (by assumption) ?_
                refine wp_seq_k fun KC hKC => ?_
                go_cut [14, 15] (fun vh vo wx => PutCas m T B Z typ f L p cap i j A pad (Rs.un s'.t) vh vo wx ∧ Touch (One p) wc wx)
                case first => -- plain
                  by_cases hg : nd ≤ (Z : Int) - pl
                  · as_aux_lemma =>
                      have hp0 : pad = 0 := by rw [HPAD.out, if_pos hg]
                      have hd0 : decide (0 < pad) = false := by rw [hp0]; rfl
                      have HP0 := Lib.hid hp0
                      clear hp0
                      go_wp2_with fail
                      go_meet
                      obtain ⟨hm, hc, he, hl, hneed, hgapq⟩ := HALL.out
                      have hch : s'.choose = { s' with ph := .cas pad } := by
                        unfold Rs.choose
                        rw [if_pos (by rw [hneed, hgapq]; exact hg), HP0.out]
                      rw [hch] at hm
                      exact ⟨PutCas.go j' { s' with ph := .cas pad } _ hj0 hj' hm rfl hc he rfl (.inl HP0.out) ⟨hl.b, hl.z, hl.y, hl.f, hl.l⟩ HOPx.out, Touch.refl _ _⟩
                  · -- plain
                    have hp0 : pad = (Z : Int) - pl := by rw [HPAD.out, if_neg hg]
                    have hd0 : decide (0 < pad) = true := by rw [hp0]; simpa using (by omega : 0 < (Z : Int) - pl)
                    have HP0 := Lib.hid hp0
                    have HP1 := Lib.hid (show 0 < pad by omega)
                    have hap : ∀ x : Rs, x.Z = s'.Z → x.L = s'.L → x.ahead = decide (nd ≤ ((Rs.un x.h : Nat) : Int) % (Z : Int)) := fun x h1 h2 => by
                      unfold Rs.ahead
                      rw [show x.need = nd by rw [← HALL.out.2.2.2.2.1]; unfold Rs.need; rw [h2], show x.place x.h = ((Rs.un x.h : Nat) : Int) % (Z : Int) by
                        show x.h % (x.Z : Int) = _
                        rw [h1, HALL.out.2.2.2.1.z, un_place HOK.out.1 hz1]]
                    have HAP := Lib.hid hap
                    clear hp0 hap
                    by_cases ha : nd ≤ ((Rs.un s'.h : Nat) : Int) % (Z : Int)
                    · as_aux_lemma =>
                        have hda : decide (((Rs.un s'.h : Nat) : Int) % (Z : Int) < nd) = false := by simpa using ha
                        go_wp2_with (go_at_call 64; refine (refPlace_any (B : Int) (Z : Int) (Rs.un s'.h) hz0 hz1 _).mono ?_; rintro e x2 ⟨rfl, hq2⟩)
                        go_meet
                        obtain ⟨hm, hc, he, hl, hneed, hgapq⟩ := HALL.out
                        have hch : s'.choose = { s' with ph := .cas pad } := by
                          unfold Rs.choose
                          rw [if_neg (show ¬ s'.need ≤ s'.gap by rw [hneed, hgapq]; omega), if_pos (by rw [HAP.out s' rfl rfl]; simpa using ha), HP0.out, hgapq]
                        rw [hch] at hm
                        exact ⟨PutCas.go j' { s' with ph := .cas pad } _ hj0 hj' hm rfl hc he rfl (.inr ⟨HP1.out, HP0.out.trans hgapq.symm⟩) ⟨hl.b, hl.z, hl.y, hl.f, hl.l⟩ (HOPx.out.below hq2), Touch.of_below hq2⟩
                    · -- plain
                      have hda : decide (((Rs.un s'.h : Nat) : Int) % (Z : Int) < nd) = true := by simpa using ha
                      have HNA : Hid (¬ s'.ahead = true) := Lib.hid (by rw [HAP.out s' rfl rfl]; simpa using ha)
                      go_wp2_with (go_at_call 64; refine (refPlace_any (B : Int) (Z : Int) (Rs.un s'.h) hz0 hz1 _).mono ?_; rintro e x2 ⟨rfl, hq2⟩; have d0 := (hq2.cell (p := ⟨w.heap.size, 0, none⟩) hlu).trans u0; have d1 := (hq2.cell (p := ⟨w.heap.size, 1, none⟩) hlu).trans u1)
                      refine (tapeLoad_any (HOPx.out.below hq2) hj' HI.out.1 HI.out.2 (HTOx.out.below hq2) HAA.out _ _).mono ?_
                      rintro e x3 ⟨v3, ok3, rfl, hto3, hor3⟩
                      have e0 := (hto3.cell (p := ⟨w.heap.size, 0, none⟩) (lt_of_cell d0) hbp).trans d0
                      have e1 := (hto3.cell (p := ⟨w.heap.size, 1, none⟩) (lt_of_cell d0) hbp).trans d1
                      have HT3 := Lib.hid ((Touch.of_below (S := One p) hq2).trans hto3)
                      have HTO3 := Lib.hid (ToldAt.one (HOPx.out.below hq2) (by intro x e; cases e) hto3 (HTOx.out.below hq2) HAA.out)
                      have hmh : m.at T j' = .live { s' with ph := .head2 pad } := by
                        obtain ⟨hm, hc, he, hl, hneed, hgapq⟩ := HALL.out
                        have hch : s'.choose = { s' with ph := .head2 pad } := by
                          unfold Rs.choose
                          rw [if_neg (show ¬ s'.need ≤ s'.gap by rw [hneed, hgapq]; omega), if_neg HNA.out, HP0.out, hgapq]
                        rw [hch] at hm
                        exact hm
                      have HMH := Lib.hid hmh
                      clear hto3 d0 d1 hmh hda
                      rcases hor3 with ⟨rfl, hlt3, hv3, hopen3⟩ | ⟨rfl, hji3, hv3, hwant3⟩
                      · have hvn3 : v3 < 18446744073709551616 := by rw [hv3]; exact told_num HTOr.out hlt3
                        obtain ⟨s2, hs2⟩ : ∃ s2 : Rs, s2 = { s' with h := Rs.wr (v3 : Int) } := ⟨_, rfl⟩
                        have hm2 : m.at T (j' + 1) = .live (if s2.ahead = true then { s2 with ph := .copy2 pad } else { s2 with ph := .fin, er := 5 }) := by
                          have h0 := Pm.at_succ HMH.out
                          rw [Rs.take_head2 s' pad (T j').an v3 hv3 s2 hs2] at h0
                          exact h0
                        have hunh : Rs.un s2.h = v3 := by rw [hs2]; exact Rs.un_wr hvn3
                        have hunt : Rs.un s2.t = Rs.un s'.t := by rw [hs2]
                        have hc2 : s2.cl = false := by rw [hs2]; exact HALL.out.2.1
                        have he2 : s2.er = 0 := by rw [hs2]; exact HALL.out.2.2.1
                        have hl2 : s2.Like B Z typ f L := by rw [hs2]; exact ⟨HALL.out.2.2.2.1.b, HALL.out.2.2.2.1.z, HALL.out.2.2.2.1.y, HALL.out.2.2.2.1.f, HALL.out.2.2.2.1.l⟩
                        have hgap2 : s2.gap = (Z : Int) - pl := by rw [hs2, Rs.gap_h]; exact HALL.out.2.2.2.2.2
                        have hah2 := HAP.out s2 (by rw [hs2]) (by rw [hs2])
                        rw [hunh] at hah2
                        have HAH2 := Lib.hid hah2
                        have HALL2 := Lib.hid (And.intro hm2 (And.intro hunh (And.intro hunt (And.intro hc2 (And.intro he2 (And.intro hl2 hgap2))))))
                        have HOP3 := Lib.hid hopen3
                        clear hm2 hunh hunt hc2 he2 hl2 hgap2 hah2 hs2 hv3 hvn3 hopen3
                        by_cases ha2 : nd ≤ (v3 : Int) % (Z : Int)
                        · as_aux_lemma =>
                            have hda2 : decide ((v3 : Int) % (Z : Int) < nd) = false := by simpa using ha2
                            have HF3 : Hid (s2.ahead = true) := Lib.hid (by rw [HAH2.out]; simpa using ha2)
                            go_wp2_with (go_at_call 64; refine (refPlace_any (B : Int) (Z : Int) v3 hz0 hz1 _).mono ?_; rintro e x4 ⟨rfl, hb4⟩)
                            refine (tapeStore_any (HOP3.out.below hb4) hlt3 HI.out.1 HI.out.2 (HTO3.out.below hb4) HAA.out _ _ v3).mono ?_
                            rintro e x5 ⟨ok5, rfl, hto5, hor5⟩
                            have HX5 := Lib.hid (And.intro ((HT3.out.trans (Touch.of_below hb4)).trans hto5) hor5)
                            clear hto5 hor5
                            go_wp2_with fail
                            go_meet
                            obtain ⟨hm2, hunh, hunt, hc2, he2, hl2, hgap2⟩ := HALL2.out
                            rw [if_pos HF3.out] at hm2
                            refine ⟨?_, HX5.out.1⟩
                            rcases HX5.out.2 with ⟨rfl, hlt5, _, hopen5⟩ | ⟨rfl, hji5, _, hwant5⟩
                            · have hg9 := PutCas.go (pad := pad) (t := Rs.un s'.t) (j0 := j) (j' + 1 + 1) { s2 with ph := .cas pad } x5 (by omega) hlt5 (Pm.at_succ hm2) rfl hc2 he2 hunt (.inr ⟨HP1.out, HP0.out.trans hgap2.symm⟩) ⟨hl2.b, hl2.z, hl2.y, hl2.f, hl2.l⟩ hopen5
                              rw [show Rs.un ({ s2 with ph := .cas pad } : Rs).h = v3 from hunh] at hg9
                              exact hg9
                            · rw [hji5] at hm2
                              refine PutCas.want { s2 with ph := .copy2 pad } _ _ _ hm2 hc2 ?_ ⟨hl2.b, hl2.z, hl2.y, hl2.f, hl2.l⟩ hwant5
                              show some (⟨2, (s2.B : Int) + (s2.Z : Int) + 8, 8, Rs.un s2.h, 0, []⟩ : Ac) = _
                              rw [hl2.b, hl2.z, hunh]
                        · as_aux_lemma =>
                            have hda2 : decide ((v3 : Int) % (Z : Int) < nd) = true := by simpa using ha2
                            have HF3 : Hid (¬ s2.ahead = true) := Lib.hid (by rw [HAH2.out]; simpa using ha2)
                            have HEND : Hid (∀ x4, Below x3.heap.size x3 x4 → PutSays p A cap i (m.at T i) w (.returned (.tuple #[.int .i64 0, .bool false, .int .i64 5])) x4) := Lib.hid (fun x4 hb4 => by
                              obtain ⟨hm2, hunh, hunt, hc2, he2, hl2, hgap2⟩ := HALL2.out
                              rw [if_neg HF3.out] at hm2
                              have hend := Pm.at_end hm2 rfl (i - (j' + 1))
                              rw [show j' + 1 + (i - (j' + 1)) = i by omega] at hend
                              have h9 := putSays_end (w := w) (pos := 0) hend rfl (by show s2.Z ≠ 0; rw [hl2.z]; omega) (fun h => absurd (show (5 : Int) = 0 from h) (by decide)) ((((HTW.out.trans HTA.out).trans (Touch.of_below HX.out)).trans HT3.out).trans (Touch.of_below hb4)) (HOP3.out.below hb4)
                              rw [show ({ s2 with ph := .fin, er := 5 } : Rs).cl = false from hc2] at h9
                              exact h9)
                            go_wp2_with (go_at_call 64; refine (refPlace_any (B : Int) (Z : Int) v3 hz0 hz1 _).mono ?_; rintro e x4 ⟨rfl, hb4⟩)
                            refine bodyPost_ret (v := .tuple #[.int .i64 0, .bool false, .int .i64 5]) (by simp [results, Tryz.results42, go_sem]) rfl ?_
                            exact HEND.out _ hb4
                      · as_aux_lemma =>
                          have HW3 := Lib.hid hwant3
                          clear hwant3
                          go_wp2_with fail
                          go_meet
                          obtain ⟨hm, hc, he, hl, hneed, hgapq⟩ := HALL.out
                          have hm3 := HMH.out
                          rw [hji3] at hm3
                          refine ⟨PutCas.want { s' with ph := .head2 pad } _ _ _ hm3 hc ?_ ⟨hl.b, hl.z, hl.y, hl.f, hl.l⟩ HW3.out, HT3.out⟩
                          show some (⟨1, (s'.B : Int) + (s'.Z : Int) + 16, 8, 0, 0, []⟩ : Ac) = _
                          rw [hl.b, hl.z]
                case rest =>
                  as_aux_lemma =>
                    obtain ⟨hcas, htc⟩ := hcut
                    have HTC := Lib.hid ((HTA.out.trans (Touch.of_below HX.out)).trans htc)
                    have HTOc : Hid (ToldAt wc A i T) := Lib.hid (by
                      obtain ⟨_, _, _, _, _, _, _, _, _, _, hx⟩ := HTX.out
                      exact ToldAt.one hx (by intro x e; cases e) ((HTA.out.trans (Touch.of_below HX.out)).trans htc) HTO2.out HAA.out)
                    have hpb : 0 ≤ pad ∧ pad ≤ 8192 := by
                      rw [HPAD.out]
                      split <;> omega
                    have hpw : IntKind.i64.wrap (nd + pad) = nd + pad := IntWalk.i64_in _ (by omega)
                    clear htc HALL HOP HOPx HTOx HPAD
                    cases hcas with
                    | want s3 a3 h3 wr3 hm hc hn hl ht =>
                      as_aux_lemma =>
                        obtain ⟨B9, l9, c9, h9, h9b⟩ := ht
                        have HT9 := Lib.hid (And.intro h9 (And.intro h9b (And.intro hm (And.intro hc (And.intro hn hl)))))
                        clear h9 h9b hm hc hn hl
                        go_wp2_with fail
                        go_roundw
                        case rel =>
                          exact ⟨PutLoop.want s3 a3 h3 (Rs.un s'.t) _ _ _ HT9.out.2.2.1 HT9.out.2.2.2.1 HT9.out.2.2.2.2.1 HT9.out.2.2.2.2.2 ⟨B9, l9, c9, HT9.out.1, HT9.out.2.1⟩, HTC.out, _, _, _, _, _, B9, l9, c9, _, _, HT9.out.1⟩
                        case measure =>
                          rw [HME.out]
                          show 0 < _
                          omega
                    | go j3 s3 wr3 hj03 hj3 hm hp hc he ht' hpad hl ht =>
                      as_aux_lemma =>
                        have hneed3 : s3.need = nd := by
                          show 8 * (((s3.L + 15) / 8 : Nat) : Int) = nd
                          rw [hl.l, HND.out]
                          omega
                        have hnew := cas_new s3.t nd pad
                        rw [ht'] at hnew
                        have HNW := Lib.hid hnew
                        have HALL3 := Lib.hid (And.intro hm (And.intro hp (And.intro hc (And.intro he (And.intro ht' (And.intro hpad (And.intro hl hneed3)))))))
                        have HOP3 := Lib.hid ht
                        clear hm hp hc he ht' hpad hl ht hneed3 hnew
                        go_wp2_with (go_at_call 77; rw [HNW.out]; refine (tapeCas_any HOP3.out hj3 HI.out.1 HI.out.2 HTOc.out HAA.out _ _ (Rs.un s'.t) (Rs.un (Rs.wr (Rs.wr (s3.t + nd) + pad)))).mono ?_; rintro e x9 ⟨d9, ok9, rfl, hto9, hor9⟩; have HT9 := Lib.hid hto9; have HO9 := Lib.hid hor9; clear hto9 hor9)
                        go_roundw
                        case rel =>
                          obtain ⟨hm, hp, hc, he, ht', hpad, hl, hneed3⟩ := HALL3.out
                          rcases HO9.out with ⟨rfl, hlt9, hd9, hopen9⟩ | ⟨rfl, hji9, hd9, hwant9⟩
                          · as_aux_lemma =>
                              refine ⟨?_, HTC.out.trans HT9.out, _, _, _, _, _, none, 0, 0, _, _, hopen9⟩
                              have h0 := Pm.at_succ hm
                              rw [show s3.take (T j3).an = (if (T j3).D = false then { s3 with ph := .tail } else if pad = 0 then { s3 with p := Rs.wr (s3.t + pad), cl := true, ph := .hdr } else { s3 with p := Rs.wr (s3.t + pad), cl := true, ph := .padd pad }) by unfold Rs.take; rw [hp]; rfl, ← hd9] at h0
                              cases d9 with
                              | false =>
                                rw [if_pos rfl] at h0
                                exact PutLoop.try_ (j3 + 1) { s3 with ph := .tail } (Rs.un s'.t) _ pad x9 hlt9 h0 rfl hc he ⟨hl.b, hl.z, hl.y, hl.f, hl.l⟩ hopen9
                              | true =>
                                rw [if_neg (by decide)] at h0
                                by_cases hp0 : pad = 0
                                · rw [if_pos hp0] at h0
                                  have hg9 := PutLoop.won (m := m) (T := T) (B := B) (Z := Z) (typ := typ) (f := f) (L := L) (p := p) (cap := cap) (i := i) (A := A) (j3 + 1) { s3 with p := Rs.wr (s3.t + pad), cl := true, ph := .hdr } (Rs.un s3.h) ((Z : Int) - pl) pad x9 hlt9 h0 rfl he rfl (.inl ⟨hp0, rfl⟩) ⟨hl.b, hl.z, hl.y, hl.f, hl.l⟩ hopen9
                                  rw [show Rs.un ({ s3 with p := Rs.wr (s3.t + pad), cl := true, ph := .hdr } : Rs).t = Rs.un s'.t from ht'] at hg9
                                  exact hg9
                                · rw [if_neg hp0] at h0
                                  have hpx : 0 < pad ∧ pad = s3.gap := hpad.elim (fun h => absurd h hp0) id
                                  have hg9 := PutLoop.won (m := m) (T := T) (B := B) (Z := Z) (typ := typ) (f := f) (L := L) (p := p) (cap := cap) (i := i) (A := A) (j3 + 1) { s3 with p := Rs.wr (s3.t + pad), cl := true, ph := .padd pad } (Rs.un s3.h) ((Z : Int) - pl) pad x9 hlt9 h0 rfl he rfl (.inr ⟨hpx.1, hpx.2, rfl⟩) ⟨hl.b, hl.z, hl.y, hl.f, hl.l⟩ hopen9
                                  rw [show Rs.un ({ s3 with p := Rs.wr (s3.t + pad), cl := true, ph := .padd pad } : Rs).t = Rs.un s'.t from ht'] at hg9
                                  exact hg9
                          · as_aux_lemma =>
                              rw [hji9] at hm
                              subst hd9
                              have hw9 := hwant9
                              obtain ⟨B9, l9, c9, h9, h9b⟩ := hw9
                              refine ⟨PutLoop.want s3 _ _ _ _ _ _ hm hc ?_ hl hwant9, HTC.out.trans HT9.out, _, _, _, _, _, B9, l9, c9, _, _, h9⟩
                              unfold Rs.next
                              rw [hp]
                              show some (⟨4, (s3.B : Int) + (s3.Z : Int) + 0, 8, Rs.un s3.t, Rs.un (Rs.wr (Rs.wr (s3.t + s3.need) + pad)), []⟩ : Ac) = _
                              rw [hl.b, hl.z, ht', hneed3, Int.add_zero]
                        case measure =>
                          rw [HME.out]
                          rcases HO9.out with ⟨rfl, hlt9, hd9, hopen9⟩ | ⟨rfl, hji9, hd9, hwant9⟩
                          · cases d9 with
                            | true => show 0 < _; omega
                            | false =>
                              show 1 + i - (intOf ((x9.cell? ⟨p, 1, none⟩).getD (.int .i64 0))).toNat < _
                              rw [hopen9.c1]
                              simp only [Option.getD_some, intOf]
                              omega
                          · show 0 < _
                            omega

    | won j s h g pad wr hj hm hc he hpos hp hl ht =>
      as_aux_lemma =>
        have hpl0 : 0 ≤ ((Rs.un s.t : Nat) : Int) % (Z : Int) := Int.emod_nonneg _ (by omega)
        have hpl1 : ((Rs.un s.t : Nat) : Int) % (Z : Int) < (Z : Int) := Int.emod_lt_of_pos _ (by omega)
        have HPL := Lib.hid (un_place HOK.out.1 hz1 s.t)
        have HCC := Lib.hid (And.intro hm (And.intro hc (And.intro he (And.intro hpos (And.intro hp (And.intro hl ht))))))
        have HTR := Lib.hid htr
        clear hm hc he hpos hp hl ht htp htr
        go_wp2_with fail
        obtain ⟨pl, hpl⟩ : ∃ pl : Int, pl = ((Rs.un s.t : Nat) : Int) % (Z : Int) := ⟨_, rfl⟩
        rw [← hpl] at hpl0 hpl1 HPL
        have he1 : IntKind.i64.wrap ((B : Int) + pl) = (B : Int) + pl := IntWalk.i64_in _ (by omega)
        have HP1 := Lib.hid hpl
        clear hpl
        have hlw := lt_of_cell z0'
        go_region_held3 (fun w' => w'.cell? ⟨w.heap.size, 0, none⟩ = some (.int .i64 B) ∧ w'.cell? ⟨w.heap.size, 1, none⟩ = some (.int .i64 Z)) (go_keep)
            (first | (go_at_call 64; refine (refPlace_any (B : Int) (Z : Int) (Rs.un s.t) hz0 hz1 _).mono ?_; rintro e x1 ⟨rfl, hq1⟩; rw [← HP1.out]; have hb1 := below_drew hq1; have u0 := (hb1.cell (p := ⟨w.heap.size, 0, none⟩) hlw).trans z0'; have u1 := (hb1.cell (p := ⟨w.heap.size, 1, none⟩) hlw).trans z1'))
        all_goals
          rw [put_pos s.t pad, ← HCC.out.2.2.2.1]
          refine run_on (by assumption) ?_
          refine wp_seq_k fun KW hKW => ?_
          go_cut [15, 21] (fun vo va wx => PutWon m T B Z typ f L p cap i A s.p vo va wx ∧ Touch (One p) wr wx)
          case first =>
            as_aux_lemma =>
              obtain ⟨hm, hc, he, hpos, hp, hl, ht⟩ := HCC.out
              have HPOS := Lib.hid hpos
              clear hpos
              have hb1d : Below wr.heap.size wr x1 := hb1
              rcases hp with ⟨rfl, hph⟩ | ⟨hp0, hpg, hph⟩
              · go_wp2_with fail
                go_meet
                refine ⟨PutWon.go j s _ _ hj hm hph hc he ?_ rfl hl (ht.below hb1d), Touch.of_below hb1d⟩
                show (B : Int) + pl = (s.B : Int) + s.p % (s.Z : Int)
                rw [HPOS.out, hl.b, hl.z, wr_place HOK.out.1, Int.add_zero, HPL.out]
              · as_aux_lemma =>
                  have hgap : pad = (Z : Int) - s.t % (Z : Int) := by rw [hpg]; show (s.Z : Int) - s.t % (s.Z : Int) = _; rw [hl.z]
                  have hpl2 := HPL.out
                  have hpad : pad ≤ 8192 := by omega
                  have hd0 : decide (0 < pad) = true := by simpa using hp0
                  have hjn := rp_jn pad
                  have hw32 : -2147483648 ≤ wrap32 pad ∧ wrap32 pad ≤ 2147483647 := by unfold wrap32; omega
                  obtain ⟨V, hV, hVn⟩ : ∃ V : Nat, Hd.jn pad (-1) = (V : Int) ∧ (Hd.jn pad (-1)).toNat = V := rp_cast _ (Hd.jn_bounds _ _).1
                  have HV := Lib.hid hVn
                  have HG := Lib.hid (And.intro hpg (And.intro hph hgap))
                  have HSAME := Lib.hid (And.intro hm (And.intro hc (And.intro he (And.intro HPOS.out (And.intro hl ht)))))
                  clear hVn hm hc he hl ht hpg hph hgap hpl2 HCC hpad
                  go_wp2_with (first
                    | (go_at_call 68; refine (refRecord_any (wrap32 pad) (-1) _ hw32.1 hw32.2 (by decide) (by decide)).mono ?_; rintro e x2 ⟨rfl, hb2⟩; rw [hjn, hV]; have v0 := (hb2.cell (p := ⟨w.heap.size, 0, none⟩) (lt_of_cell u0)).trans u0; have v1 := (hb2.cell (p := ⟨w.heap.size, 1, none⟩) (lt_of_cell u0)).trans u1)
                    | (go_at_call 67; refine (tapeStore_any ((HSAME.out.2.2.2.2.2.below hb1d).below hb2) hj HI.out.1 HI.out.2 ((HTOr.out.below hb1d).below hb2) HAA.out _ _ V).mono ?_; rintro e x3 ⟨ok3, rfl, hto3, hor3⟩; have r0 := (hto3.cell (p := ⟨w.heap.size, 0, none⟩) (lt_of_cell v0) hbp).trans v0; have r1 := (hto3.cell (p := ⟨w.heap.size, 1, none⟩) (lt_of_cell v0) hbp).trans v1; have HO3 := Lib.hid hor3; have HT3 := Lib.hid hto3; clear hor3 hto3))
                  go_meet
                  obtain ⟨hm, hc, he, hpos, hl, ht⟩ := HSAME.out
                  refine ⟨?_, ((Touch.of_below hb1d).trans (Touch.of_below hb2)).trans HT3.out⟩
                  rcases HO3.out with ⟨rfl, h1, _, h3⟩ | ⟨rfl, h1, _, h3⟩
                  · have hm1 := Pm.at_succ hm
                    rw [show s.take (T j).an = { s with ph := .hdr } by unfold Rs.take; rw [HG.out.2.1]] at hm1
                    refine PutWon.go (j + 1) _ _ _ h1 hm1 rfl hc he ?_ rfl ⟨hl.b, hl.z, hl.y, hl.f, hl.l⟩ h3
                    show (B : Int) = (s.B : Int) + s.p % (s.Z : Int)
                    rw [hpos, hl.b, hl.z, wr_place HOK.out.1, HG.out.2.2, ring_end _ _ (by omega), Int.add_zero]
                  · subst h1
                    refine PutWon.want s _ _ _ hm hc ?_ hl h3
                    unfold Rs.next
                    rw [HG.out.2.1, ← HV.out]
                    have hsp : s.spot s.t = (B : Int) + pl := by
                      show (s.B : Int) + s.t % (s.Z : Int) = _
                      rw [hl.b, hl.z, HPL.out]
                    rw [hsp]
          case rest =>
            as_aux_lemma =>
              obtain ⟨hwon, htx⟩ := hcut
              cases hwon with
              | want s' a at_ wr hm hc hn hl ht =>
                as_aux_lemma =>
                  obtain ⟨B0, l0, c0, h4, h5⟩ := ht
                  have HS := Lib.hid (putSays_wants (w := w) (pos := s.p) hm hn (by rw [hl.z]; omega) ((HTW.out.trans HTR.out).trans htx) h4 h5)
                  have HCL := Lib.hid hc
                  clear h4 h5 hm hn hl htx hc
                  go_wp2
                  refine bodyPost_ret (v := .tuple #[.int .i64 s.p, .bool true, .int .i64 10]) (by simp [results, Tryz.results42, go_sem]) rfl ?_
                  have := HS.out
                  rw [HCL.out] at this
                  exact this
              | go j' s' at_ wr hj' hm hp hc he hat hq hl ht =>
                as_aux_lemma =>
                  have hjn : ∃ V : Nat, Hd.jn (-(8 + (L : Int))) typ = (V : Int) ∧ (Hd.jn (-(8 + (L : Int))) typ).toNat = V := rp_cast _ (Hd.jn_bounds _ _).1
                  obtain ⟨V, hV, hVn⟩ := hjn
                  have hspot : s'.spot s'.p = at_ := hat.symm
                  have hpin := Int.emod_nonneg s'.p (b := (Z : Int)) (by omega)
                  have hpin2 := Int.emod_lt_of_pos s'.p (b := (Z : Int)) (by omega)
                  have hat2 : at_ = (B : Int) + s'.p % (Z : Int) := by
                    rw [hat]
                    show (s'.B : Int) + s'.p % (s'.Z : Int) = _
                    rw [hl.b, hl.z]
                  have hat0 : 0 ≤ at_ := by omega
                  have hat1 : at_ ≤ 140000 := by omega
                  have hty := HTY.out
                  have HALL := Lib.hid (And.intro hm (And.intro hp (And.intro hc (And.intro he (And.intro hq (And.intro hl (And.intro hVn hspot)))))))
                  have HT0 := Lib.hid ((HTW.out.trans HTR.out).trans htx)
                  have HTOc : Hid (ToldAt wc A i T) := Lib.hid (by
                    obtain ⟨_, _, _, _, _, _, _, _, _, _, hx⟩ := HTX.out
                    exact ToldAt.one hx (by intro x e; cases e) (HTR.out.trans htx) HTO2.out HAA.out)
                  have HBYc : Hid (BytesAt wc (.slice Ab L c) (Mb.bl f 0 L)) := Lib.hid (by
                    obtain ⟨_, _, _, _, _, _, _, _, _, _, hx⟩ := HTX.out
                    exact BytesAt.one hx (by intro x e; cases e) (HTR.out.trans htx) HBY2.out)
                  have HTc := Lib.hid ht
                  clear hm hp hc he hat hq hl hVn hspot hpin hpin2 hat2 htx ht
                  go_wp2_with fail
                  refine (refRecord_any (-(8 + (L : Int))) typ _ (by omega) (by omega) (by omega) (by omega)).mono ?_
                  rintro e x2 ⟨rfl, hb2⟩
                  rw [hV]
                  have HT2c := Lib.hid (HTc.out.below hb2)
                  have HTO2c := Lib.hid (HTOc.out.below hb2)
                  have HBY2c := Lib.hid (HBYc.out.below hb2)
                  have HT02 := Lib.hid (HT0.out.trans (Touch.of_below hb2))
                  clear hb2
                  go_wp2_with fail
                  refine (tapeStore_any HT2c.out hj' HI.out.1 HI.out.2 HTO2c.out HAA.out _ _ V).mono ?_
                  rintro e x3 ⟨ok3, rfl, hto3, hor3⟩
                  have HT03 := Lib.hid (HT02.out.trans hto3)
                  have HTO3 := Lib.hid (ToldAt.one HT2c.out (by intro x e; cases e) hto3 HTO2c.out HAA.out)
                  have HBY3 := Lib.hid (BytesAt.one HT2c.out (by intro x e; cases e) hto3 HBY2c.out)
                  clear hto3
                  rcases hor3 with ⟨rfl, hj3, _, h3⟩ | ⟨rfl, rfl, _, h3⟩
                  · as_aux_lemma =>
                      have H3 := Lib.hid h3
                      clear h3
                      go_wp2_with fail
                      refine (tapeIn_from H3.out hj3 HI.out.1 HI.out.2 HTO3.out HAA.out (at_ + 8) (by omega) (by omega) Ab L c f HBY3.out (by omega) HLC.out.1 HLC.out.2).mono ?_
                      rintro e x4 ⟨b4, rfl, hto4, hor4⟩
                      have HT04 := Lib.hid (HT03.out.trans hto4)
                      have HTO4 := Lib.hid (ToldAt.one H3.out (by intro x e; cases e) hto4 HTO3.out HAA.out)
                      clear hto4
                      rcases hor4 with ⟨h8, rfl, B0, l0, c0, h4, h5⟩ | ⟨h8, rfl, h4⟩
                      · as_aux_lemma =>
                          obtain ⟨hm, hp, hc, he, hq, hl, hVn, hspot⟩ := HALL.out
                          have hby1 := Pm.at_byt hm hp (i - (j' + 1)) (by rw [hl.l]; exact h8)
                          rw [show j' + 1 + (i - (j' + 1)) = i by omega] at hby1
                          have HS := Lib.hid (putSays_wants (w := w) (pos := s.p) (a := ⟨6, at_ + 8 + ((8 * (i - (j' + 1)) : Nat) : Int), (Cy.nx (L - 8 * (i - (j' + 1))) : Nat), 0, 0, Mb.bl f (8 * (i - (j' + 1))) (Cy.nx (L - 8 * (i - (j' + 1))))⟩) hby1 (by unfold Rs.next; show some (⟨6, s'.spot s'.p + 8 + ((8 * (i - (j' + 1)) : Nat) : Int), (Cy.nx (s'.L - 8 * (i - (j' + 1))) : Nat), 0, 0, Mb.bl s'.f (8 * (i - (j' + 1))) (Cy.nx (s'.L - 8 * (i - (j' + 1))))⟩ : Ac) = _; rw [hl.l, hl.f, hspot]) (by show s'.Z ≠ 0; rw [hl.z]; omega) HT04.out h4 h5)
                          have HCL := Lib.hid hc
                          clear h4 h5 hm hp hc he hq hl hVn hspot hby1 h8
                          go_wp2
                          refine bodyPost_ret (v := .tuple #[.int .i64 s.p, .bool true, .int .i64 10]) (by simp [results, Tryz.results42, go_sem]) rfl ?_
                          have := HS.out
                          rw [show ({ s' with ph := .byt (8 * (i - (j' + 1))) } : Rs).cl = true from HCL.out] at this
                          exact this
                      · as_aux_lemma =>
                          have H4 := Lib.hid h4
                          have hj4 : j' + 1 + (L + 7) / 8 ≤ i := by omega
                          have HJ4 := Lib.hid hj4
                          have hun8 : IntKind.u64.wrap (8 + (L : Int)) = ((8 + L : Nat) : Int) := by
                            rw [show (8 + (L : Int)) = ((8 + L : Nat) : Int) by omega]
                            exact IntWalk.u64_in _ (by omega)
                          clear h4 h8 hj4
                          go_wp2_with fail
                          refine (tapeStore_any H4.out HJ4.out HI.out.1 HI.out.2 HTO4.out HAA.out _ _ (8 + L)).mono ?_
                          rintro e x5 ⟨ok5, rfl, hto5, hor5⟩
                          have HT05 := Lib.hid (HT04.out.trans hto5)
                          clear hto5
                          rcases hor5 with ⟨rfl, hj5, _, h6⟩ | ⟨rfl, hj5, _, h6⟩
                          · as_aux_lemma =>
                              obtain ⟨hm, hp, hc, he, hq, hl, hVn, hspot⟩ := HALL.out
                              have hlen : m.at T (j' + 1 + (L + 7) / 8) = .live { s' with ph := .len } := by
                                have h0 := Pm.at_len hm hp
                                rw [show (s'.L + 7) / 8 = (L + 7) / 8 by rw [hl.l]] at h0
                                exact h0
                              have hfin := Pm.at_succ hlen
                              have hend := Pm.at_end hfin rfl (i - (j' + 1 + (L + 7) / 8 + 1))
                              rw [show j' + 1 + (L + 7) / 8 + 1 + (i - (j' + 1 + (L + 7) / 8 + 1)) = i by omega] at hend
                              have HS := Lib.hid (putSays_end (w := w) (pos := s.p) hend rfl (by show s'.Z ≠ 0; rw [hl.z]; omega) (fun _ => hq.symm) HT05.out h6)
                              have HCL := Lib.hid (And.intro hc he)
                              clear h6 hm hp hc he hq hl hVn hspot hlen hfin hend hj5
                              go_wp2
                              refine bodyPost_ret (v := .tuple #[.int .i64 s.p, .bool true, .int .i64 0]) (by simp [results, Tryz.results42, go_sem]) rfl ?_
                              have := HS.out
                              rw [show (({ s' with ph := .len } : Rs).take (T (j' + 1 + (L + 7) / 8)).an).cl = true from HCL.out.1, show (({ s' with ph := .len } : Rs).take (T (j' + 1 + (L + 7) / 8)).an).er = 0 from HCL.out.2] at this
                              exact this
                          · as_aux_lemma =>
                              obtain ⟨B0, l0, c0, h7, h8⟩ := h6
                              obtain ⟨hm, hp, hc, he, hq, hl, hVn, hspot⟩ := HALL.out
                              have hlen : m.at T i = .live { s' with ph := .len } := by
                                have h0 := Pm.at_len hm hp
                                rw [show (s'.L + 7) / 8 = (L + 7) / 8 by rw [hl.l], hj5] at h0
                                exact h0
                              have HS := Lib.hid (putSays_wants (w := w) (pos := s.p) (a := ⟨2, at_, 4, 8 + L, 0, []⟩) hlen (by unfold Rs.next; show some (⟨2, s'.spot s'.p, 4, 8 + s'.L, 0, []⟩ : Ac) = _; rw [hl.l, hspot]) (by show s'.Z ≠ 0; rw [hl.z]; omega) HT05.out h7 h8)
                              have HCL := Lib.hid hc
                              clear h7 h8 hm hp hc he hq hl hVn hspot hlen hj5
                              go_wp2
                              refine bodyPost_ret (v := .tuple #[.int .i64 s.p, .bool true, .int .i64 10]) (by simp [results, Tryz.results42, go_sem]) rfl ?_
                              have := HS.out
                              rw [show ({ s' with ph := .len } : Rs).cl = true from HCL.out] at this
                              exact this
                  · as_aux_lemma =>
                      obtain ⟨B0, l0, c0, h4, h5⟩ := h3
                      obtain ⟨hm, hp, hc, he, hq, hl, hVn, hspot⟩ := HALL.out
                      have HS := Lib.hid (putSays_wants (w := w) (pos := s.p) (a := ⟨2, at_, 8, V, 0, []⟩) hm (by unfold Rs.next; rw [hp]; show some (⟨2, s'.spot s'.p, 8, (Hd.jn (-(8 + (s'.L : Int))) s'.typ).toNat, 0, []⟩ : Ac) = _; rw [hl.l, hl.y, hVn, hspot]) (by rw [hl.z]; omega) HT03.out h4 h5)
                      have HCL := Lib.hid hc
                      clear h4 h5 hm hp hc he hq hl hVn hspot
                      go_wp2
                      refine bodyPost_ret (v := .tuple #[.int .i64 s.p, .bool true, .int .i64 10]) (by simp [results, Tryz.results42, go_sem]) rfl ?_
                      have := HS.out
                      rw [HCL.out] at this
                      exact this
    | want s a h t g q wr hm hc hn hl ht =>
      as_aux_lemma =>
        obtain ⟨B0, l0, c0, h4, h5⟩ := ht
        have HS := Lib.hid (putSays_wants (w := w) (pos := 0) hm hn (by rw [hl.z]; omega) (HTW.out.trans htr) h4 h5)
        clear h4 h5 hm hn hl htp htr
        go_wp2
        refine bodyPost_ret (v := .tuple #[.int .i64 0, .bool false, .int .i64 10]) (by simp [results, Tryz.results42, go_sem]) rfl ?_
        have := HS.out
        rw [hc] at this
        exact this
end Go.Proofs.YtbhhegikfadpiaaGreat
namespace Go.Proofs.YtbhhegikfadpiaaGreat
open Go.RowKit

set_option maxRecDepth 100000 in
set_option maxHeartbeats 1000000 in
theorem same_any (K P N : Int) (V U : Int) (A B : Option Addr) (L M cp cq : Nat) (xs : List Int) (w : World) (ha : BytesAt w (.slice A L cp) xs) (hb : BytesAt w (.slice B M cq) xs) :
    Calls Tryz.prog 36 #[.agg #[.int .i64 K, .int .i64 P, .int .i64 N, .int .u64 V, .int .u64 U, .slice A L cp], .agg #[.int .i64 K, .int .i64 P, .int .i64 N, .int .u64 V, .int .u64 U, .slice B M cq]] w (TrueBelow w) := by
  have HW := ((Below.refl w.heap.size w).alloc (Nat.le_refl _) (.cells #[.int .i64 K, .int .i64 P, .int .i64 N, .int .u64 V, .int .u64 U, .slice A L cp] 37)).alloc (by simp) (.cells #[.int .i64 K, .int .i64 P, .int .i64 N, .int .u64 V, .int .u64 U, .slice B M cq] 37)
  have h1 := (ha.below HW).conv
  have h2 := (hb.below HW).conv
  go_enter Tryz.func36, Tryz.ntmps36
  go_wp2
  go_ret
  exact ⟨rfl, HW⟩
end Go.Proofs.YtbhhegikfadpiaaGreat
