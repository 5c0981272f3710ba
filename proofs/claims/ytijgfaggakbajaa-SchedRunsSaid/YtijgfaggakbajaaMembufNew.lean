/-
  Layer 2's Do once more: what was read lies in new memory.
-/
import Derived.Test.YtijgfaggakbajaaMembufOps
import Derived.Test.YtijgfaggakbajaaBytesIn
namespace Go.Proofs.Ytijgfaggakbajaa
open Go.RowKit

/-- A call that read bytes into new memory. -/
def MadeRead (xs : List Int) (w : World) (e : Ending) (w' : World) : Prop :=
  ∃ v, e = .returned v ∧ Owns w.heap.size w' v xs ∧ Below w.heap.size w w'

/-- An access answered; the bytes of the answer lie in new memory, if there are any. -/
def AnsweredIn (V : Nat) (D : Bool) (xs : List Int) (g h : Nat) (m : Nat → Nat) (n : Nat) (c : Int) (w : World) (e : Ending) (w' : World) : Prop :=
  ∃ s, e = .returned (.agg #[.int .u64 V, .bool D, s]) ∧ BytesIn (fun k => w.heap.size ≤ k) w' s xs ∧ Stored g h m n c w w'

/-- An access was done; the bytes of the answer lie in new memory. -/
def DidIn (V : Nat) (D : Bool) (xs : List Int) (g h : Nat) (m : Nat → Nat) (n : Nat) (c : Int) (w : World) (e : Ending) (w' : World) : Prop :=
  ∃ s, e = .returned (.tuple #[.agg #[.int .u64 V, .bool D, s], .int .i64 0]) ∧ BytesIn (fun k => w.heap.size ≤ k) w' s xs ∧ Stored g h m n c w w'

theorem BytesIn.answer' {K : Nat → Prop} {W : World} {v : Value} {xs : List Int} {b : Nat} (hv : BytesIn K W v xs) (ha : AnsAt b W) (x y z : Value) : BytesIn K (((W.setCell ⟨b, 0, Option.none⟩ x).setCell ⟨b, 1, Option.none⟩ y).setCell ⟨b, 2, Option.none⟩ z) v xs := by
  obtain ⟨A, cap, hv, h⟩ := hv
  refine ⟨A, cap, hv, fun hp => ?_⟩
  obtain ⟨d, off, h1, hK, h3, h4⟩ := h hp
  have hne : d ≠ b := by
    intro e
    subst e
    have h5 := h4 0 hp
    simp only [World.cell?, ha.blk] at h5
    match off, h5 with
    | 0, h5 => simp at h5
    | 1, h5 => simp at h5
    | 2, h5 => simp at h5
    | k + 3, h5 => simp at h5
  refine ⟨d, off, h1, hK, by simpa [World.setCell] using h3, fun i hi => ?_⟩
  rw [← h4 i hi]
  refine World.cell?_of_block ?_
  rw [Below.heap_setCell _ _ _ _ hne, Below.heap_setCell _ _ _ _ hne, Below.heap_setCell _ _ _ _ hne]

set_option maxHeartbeats 1000000 in
theorem read_own {w : World} {g h n : Nat} {m : Nat → Nat} {c : Int} (B : Buf w g h m n c) (a k : Nat) (hin : a + k ≤ 8 * n) :
    Calls Try.prog 36 #[.pointer (some ⟨g, 0, none⟩), .int .i64 a, .int .i64 k] w (MadeRead (Mb.bl m a k) w) := by
  obtain ⟨i0, hi, hz0, hz1, hz2⟩ := info_parts infoU8
  have hf := B.few
  have HB := Lib.hid B
  clear B
  go_enter Try.func36, Try.ntmps36
  go_wp2_with (refine wpList_make_own _ rfl _ _ 26 rfl w.heap.size 5 i0 (.int .u8 0) 1 Try.underlying26 hi hz0 hz1 .i64 .i64 _ k rfl rfl rfl (by rw [hz2]; omega) (by unfold maxLen; omega) (Nat.le_refl _) ?_; intro w0 hown0 hg0)
  have hbel0 : Below w.heap.size w w0 := (Below.refl _ w).grown hg0 (Nat.le_refl _) (fun g hg => by cases hg)
  clear hg0
  go_loopw [1, 2, 7] (fun t1 t2 r wr => ∃ p q : Nat, a ≤ p ∧ p + q = a + k ∧ t1 = .int .i64 p ∧ t2 = .int .i64 q ∧ Below w.heap.size w wr ∧ wr.ownsRow w.heap.size 5 1 r (p - a) ((Mb.bl m a (p - a)).map (Value.int .u8))) (fun _ t2 _ _ => (intOf t2).toNat)
  case atStart => exact ⟨a, k, by omega, rfl, rfl, rfl, hbel0, by rw [Nat.sub_self]; exact hown0⟩
  case round =>
    obtain ⟨p, q, hp, hpq, rfl, rfl, hbel, hown⟩ := hrel
    clear hown0 hbel0
    by_cases hlt : 0 < q
    · obtain ⟨j, hj⟩ : ∃ j, j = min q (8 - p % 8) := ⟨_, rfl⟩
      have hj1 : 1 ≤ j := by omega
      have hj2 : j ≤ q := by omega
      have hj3 : p % 8 + j ≤ 8 := by omega
      have hpb : p ≤ 131072 := by omega
      have hqb : q ≤ 131072 := by omega
      have hj4 : p / 8 < n := by omega
      have HJ := Lib.hid hj
      have HQ := Lib.hid hpq
      have hBr := HB.out.below hbel
      have HBr := Lib.hid hBr
      have HBel := Lib.hid hbel
      have HO := Lib.hid hown
      clear hj hpq hBr hbel hown
      go_wp2_with (first
        | (go_at_call 61; refine (inWord_at p q j _ (by omega) HJ.out).mono ?_; rintro e w' ⟨rfl, rfl⟩)
        | (go_at_call 63; refine (load_any HBr.out p j hj3 hj4).mono ?_; rintro e w1 ⟨rfl, nd, rfl⟩)
        | (go_at_call 62; refine (bytes_at HBr.out.bytes p j _ hj1 (by omega)).mono ?_; rintro e w2 ⟨sb, so, cp, rfl, hcs, hb2⟩; have hb3 : Below wr.heap.size wr w2 := (drewN_below wr nd).after hb2; clear hb2)
        | (at_builtin; refine wpList_append_own _ rfl (.tmp 16) (.tmp 22) 26 rfl w.heap.size 5 i0 (.int .u8 0) 1 1 Try.underlying26 hi hz0 hz1 hz2 rfl (by decide) _ _ _ rfl (ownsRow_below HO.out hb3) ⟨sb, so, none⟩ j cp ((Mb.bl m p j).map (Value.int .u8)) rfl (by simp [Mb.bl_length]) hcs (u8_one _) (by unfold maxLen; omega) (by omega) (Nat.le_trans HBel.out.size hb3.size) ?_; intro v' w3 hown' hgrow _; have hbel3 : Below w.heap.size w w3 := (HBel.out.trans (hb3.mono HBel.out.size)).grown hgrow (Nat.le_trans HBel.out.size hb3.size) (fun g hg => (HO.out.lt g hg).1); rw [Mb.bl_next m a p j hp, show p - a + j = p + j - a by omega] at hown'; have HO3 := Lib.hid hown'; have HB3 := Lib.hid hbel3; clear hown' hgrow hbel3))
      go_roundw
      case rel =>
        have hpq := HQ.out
        exact ⟨p + j, q - j, by omega, by omega, by go_num, by go_num, HB3.out, HO3.out⟩
      case measure => simp [intOf]; omega
    · have hq0 : q = 0 := by omega
      have HQ := Lib.hid (show p - a = k by omega)
      subst hq0
      have HBel := Lib.hid hbel
      have HO := Lib.hid hown
      clear hpq hbel hown
      go_wp2
      go_ret
      have hO := HO.out
      rw [HQ.out] at hO
      exact ⟨_, rfl, by unfold Owns; rw [Mb.bl_length]; exact hO, HBel.out⟩

set_option maxHeartbeats 1000000 in
theorem access_read_own {w : World} {g h n : Nat} {m : Nat → Nat} {c : Int} (B : Buf w g h m n c) (a k : Nat) (hin : a + k ≤ 8 * n) (v u : Int) (s : Value) :
    Calls Try.prog 72 #[.pointer (some ⟨g, 0, none⟩), .agg #[.int .i64 5, .int .i64 a, .int .i64 k, .int .u64 v, .int .u64 u, s]] w
      (AnsweredIn 0 false (Mb.bl m a k) g h m n c w) := by
  have hg := B.g_lt
  have hh := B.h_lt
  have HB := Lib.hid B
  clear B
  go_enter Try.func72, Try.ntmps72
  go_wp2_with (go_at_call 36; refine (read_own ((HB.out.alloc _).alloc _) a k hin).mono ?_; rintro e w1 ⟨x, rfl, hx0, hb⟩; obtain ⟨A, cp, rfl, hx⟩ := hx0.bytes; have HA := Lib.hid (ans_touch (Touch.of_below (S := Two g h) hb) hg hh); obtain ⟨a0, a1, a2, f0, f1, f2, fb⟩ := HA.out; have HBe := Lib.hid hb; have HX := Lib.hid hx0; clear hb hx hx0 fb)
  refine bodyPost_ret (v := .agg #[.int .u64 0, .bool false, .slice A (Mb.bl m a k).length cp]) ?_ rfl ?_
  · simp [results, Try.results72, go_sem, a0, a1, a2]
  · refine ⟨_, rfl, ((BytesIn.of_own HX.out).mono fun k hk _ => by simp at hk; omega).answer' HA.out _ _ _, ?_⟩
    have HST := Stored.mk_ (((HB.out.alloc _).alloc _).below HBe.out) ((boxes_touch (Two g h) w _ _).trans (Touch.of_below HBe.out))
    exact ((HST.setNew hg hh (Nat.le_succ _) _).setNew hg hh (Nat.le_succ _) _).setNew hg hh (Nat.le_succ _) _

theorem access_in {w : World} {g h n : Nat} {m : Nat → Nat} {c : Int} (B : Buf w g h m n c) (K : Int) (a k v u : Nat) {f : Nat → Nat} (hf : Mb.IsB f) (A : Option Addr) (L cap : Nat) (hcap : L ≤ cap) (hcap2 : cap ≤ 9223372036854775807)
    (hb : BytesAt w (.slice A L cap) (Mb.bl f 0 L)) (hv : v < 18446744073709551616) (ok : chk (8 * (n : Int)) K a k L = 0) :
    Calls Try.prog 72 #[.pointer (some ⟨g, 0, none⟩), .agg #[.int .i64 K, .int .i64 a, .int .i64 k, .int .u64 v, .int .u64 u, .slice A L cap]] w
      (AnsweredIn (Mb.ansV m K a k) (Mb.ansD m K a k v) (Mb.ansB m K a k) g h (Mb.aft m K a k v u f) n c w) := by
  by_cases h5 : K = 5
  · subst h5
    obtain ⟨_, _, h1, h2, _⟩ := chk_ok ok
    refine (access_read_own B a k (by omega) v u _).mono ?_
    rintro e w' ⟨s, rfl, ho, hs⟩
    exact ⟨s, rfl, ho, hs⟩
  · have e : Mb.ansB m K a k = [] := by unfold Mb.ansB; rw [if_neg h5]
    refine (access_any B K a k v u hf A L cap hcap hcap2 hb hv ok).mono ?_
    rintro e' w' ⟨s, rfl, ho, hs⟩
    rw [e] at ho ⊢
    exact ⟨s, rfl, BytesIn.empty ho _, hs⟩

set_option maxHeartbeats 1000000 in
theorem do_in {w : World} {g h n : Nat} {m : Nat → Nat} {c : Int} (B : Buf w g h m n c) (K : Int) (a k v u : Nat) {f : Nat → Nat} (hf : Mb.IsB f) (A : Option Addr) (L cap : Nat) (hcap : L ≤ cap) (hcap2 : cap ≤ 9223372036854775807)
    (hb : BytesAt w (.slice A L cap) (Mb.bl f 0 L)) (hv : v < 18446744073709551616) (ok : chk (8 * (n : Int)) K a k L = 0) :
    Calls Try.prog 55 #[.pointer (some ⟨g, 0, none⟩), .agg #[.int .i64 K, .int .i64 a, .int .i64 k, .int .u64 v, .int .u64 u, .slice A L cap]] w
      (DidIn (Mb.ansV m K a k) (Mb.ansD m K a k v) (Mb.ansB m K a k) g h (Mb.aft m K a k v u f) n (nxt c) w) := by
  have hg := B.g_lt
  have hh := B.h_lt
  have hfw := B.few
  have HB0 := (B.alloc (.cells #[.int .i64 K, .int .i64 a, .int .i64 k, .int .u64 v, .int .u64 u, .slice A L cap] 47)).alloc (.cells #[.int .u64 0, .bool false, .slice none 0 0] 49)
  have HC := acc_made w K a k v u (.slice A L cap) (.cells #[.int .u64 0, .bool false, .slice none 0 0] 49)
  have HA := ans_made w (.cells #[.int .i64 K, .int .i64 a, .int .i64 k, .int .u64 v, .int .u64 u, .slice A L cap] 47)
  have HW := ((Below.refl w.heap.size w).alloc (Nat.le_refl _) (.cells #[.int .i64 K, .int .i64 a, .int .i64 k, .int .u64 v, .int .u64 u, .slice A L cap] 47)).alloc (by simp) (.cells #[.int .u64 0, .bool false, .slice none 0 0] 49)
  have HV := hb.below HW
  have HQ := Lib.hid ok
  have HF := Lib.hid hf
  clear B ok hb hf
  go_enter Try.func55, Try.ntmps55
  go_wp2
  generalize (w.alloc (.cells #[.int .i64 K, .int .i64 (a : Int), .int .i64 (k : Int), .int .u64 (v : Int), .int .u64 (u : Int), .slice A L cap] 47)).alloc (.cells #[.int .u64 0, .bool false, .slice none 0 0] 49) = W at HC HA HB0 HW HV ⊢
  have HC2 := HC
  obtain ⟨c0, c1, c2, c3, c4, c5⟩ := HC2
  go_region_held3 (fun w' => w'.cell? ⟨w.heap.size, 0, none⟩ = some (.int .i64 K) ∧ w'.cell? ⟨w.heap.size, 1, none⟩ = some (.int .i64 a) ∧ w'.cell? ⟨w.heap.size, 2, none⟩ = some (.int .i64 k) ∧ w'.cell? ⟨w.heap.size, 3, none⟩ = some (.int .u64 v) ∧ w'.cell? ⟨w.heap.size, 4, none⟩ = some (.int .u64 u) ∧ w'.cell? ⟨w.heap.size, 5, none⟩ = some (.slice A L cap))
    (go_keep)
    (first
      | (go_at_call 37; refine (size_any HB0.drew).mono ?_; rintro e w' ⟨rfl, rfl⟩)
      | (go_at_call 70; refine (check_any _ K a k v u A L cap _ (by omega)).mono ?_; rintro e w1 ⟨rfl, hb1⟩; rw [HQ.out]; have hb2 := below_drew hb1; clear hb1; obtain ⟨k0, k1, k2, k3, k4, k5⟩ := HC.below hb2))
  have HB1 := HB0.below hb2
  have hn0 := HB1.count
  have hn1 := HB1.count_free
  have HB2 := HB1.setCount (nxt c)
  have HT2 := (Touch.refl (Two g h) w1).setCell (p := ⟨g, 1, none⟩) (.inl rfl) (.int .i64 (nxt c))
  have HC2 := (HC.below hb2).touch HT2 (by omega) (by omega)
  have HA2 := (HA.later hb2).touch HT2 (by omega) (by omega)
  have HV2 := (HV.below hb2).touch HB1 HT2
  have hszW := HW.size
  have hszb := hb2.size
  have HT1 := (Touch.of_below (S := Two g h) HW).trans ((Touch.of_below (S := Two g h) hb2).trans HT2)
  clear c0 c1 c2 c3 c4 c5 k0 k1 k2 k3 k4 k5 HB0 HC HA HV HW hb2 HB1
  go_wp2_with (first
    | (go_at_call 71; refine (addOne g 1 c _ hn0 hn1).mono ?_; rintro e w2 ⟨rfl, hw2⟩; rw [hw2] at HB2 HT2 HC2 HA2 HV2 HT1; clear hw2 hn0 hn1; obtain ⟨c0, c1, c2, c3, c4, c5⟩ := HC2)
    | (go_at_call 72; refine (access_in HB2 K a k v u HF.out A L cap hcap hcap2 HV2 hv HQ.out).mono ?_; rintro e w3 ⟨x, rfl, hx, hst⟩; obtain ⟨A3, cp3, rfl⟩ := hx.length; have HX := Lib.hid hx; have hsz2 := hst.2.size; have HA3 := HA2.touch hst.2 (by omega) (by omega); have HA4 := HA3; obtain ⟨a0, a1, a2, f0, f1, f2, _⟩ := HA4; have HST := Lib.hid (hst.from_ HT1); clear hx hst))
  refine bodyPost_ret (v := .tuple #[.agg #[.int .u64 (Mb.ansV m K a k : Nat), .bool (Mb.ansD m K a k v), .slice A3 (Mb.ansB m K a k).length cp3], .int .i64 0]) ?_ rfl ?_
  · simp [results, Try.results55, go_sem, a0, a1, a2]
  · refine ⟨_, rfl, (HX.out.mono fun k hk _ => ?_).answer' HA3 _ _ _, ?_⟩
    · have := HT1.size
      exact Nat.le_trans this hk
    · exact ((HST.out.setNew hg hh (Nat.le_succ _) _).setNew hg hh (Nat.le_succ _) _).setNew hg hh (Nat.le_succ _) _
end Go.Proofs.Ytijgfaggakbajaa
