/-
  Layer 2's copies of bytes, word by word: read, write; walked.
-/
import Derived.Test.YtijgfaggakbajaaMembufLoad
import Derived.Test.YtijgfaggakbajaaNumber
import Derived.Laws.MakeOwn
namespace Go.Proofs.Ytijgfaggakbajaa
open Go.RowKit

theorem ownsRow_below {w w' : World} {base : Nat} {e : TypeId} {size n : Nat} {v : Value} {xs : List Value} (h : w.ownsRow base e size v n xs) (hb : Below w.heap.size w w') : w'.ownsRow base e size v n xs := by
  obtain ⟨h1, h2⟩ := h
  refine ⟨h1, ?_⟩
  rcases h2 with h2 | ⟨g, cap, cur, hv, hg, hh, r⟩
  · exact Or.inl h2
  · exact Or.inr ⟨g, cap, cur, hv, hg, (hb.block g (Array.getElem?_eq_some_iff.1 hh).1).trans hh, r⟩

namespace Mb
theorem bs_nm {m : Nat → Nat} (h : IsB m) (a n : Nat) : Wd.bs ((nm m a n : Nat) : Int) n = bl m a n := by
  unfold Wd.bs bl
  refine List.map_congr_left fun i hi => ?_
  have hb := byt_nm h a n i (List.mem_range.1 hi)
  rw [← hb]
  unfold byt
  rw [Nat.mul_comm 8 i]
  simp
theorem num_bl (m : Nat → Nat) (a n : Nat) : Wd.num (bl m a n) = ((nm m a n : Nat) : Int) := by
  induction n with
  | zero => rfl
  | succ n ih =>
    have e : bl m a (n + 1) = bl m a n ++ [((m (a + n) : Nat) : Int)] := by
      unfold bl
      rw [List.range_succ, List.map_append]
      rfl
    rw [e, Wd.num_append, ih, bl_length]
    show _ = ((nm m a n + m (a + n) * 2 ^ (8 * n) : Nat) : Int)
    rw [Nat.mul_comm 8 n]
    simp
theorem bl_next (m : Nat → Nat) (a p j : Nat) (hp : a ≤ p) (f : Int → Value) : (bl m a (p - a)).map f ++ (bl m p j).map f = (bl m a (p + j - a)).map f := by
  rw [← List.map_append, show p + j - a = p - a + j by omega, bl_append, show a + (p - a) = p by omega]
end Mb

theorem u8_one (xs : List Int) : ∀ u ∈ xs.map (Value.int .u8), u.oneCell' = true := by
  intro u hu
  obtain ⟨x, _, rfl⟩ := List.mem_map.1 hu
  rfl

/-- Some bytes, at least one, were made: where they stand. -/
def MadeAt (xs : List Int) (n : Nat) (w : World) (e : Ending) (w' : World) : Prop :=
  ∃ b off cap, e = .returned (.slice (some ⟨b, off, none⟩) n cap) ∧ (∀ j u, (xs.map (Value.int .u8))[j]? = some u → w'.cell? ((⟨b, off, none⟩ : Addr).add j) = some u) ∧ Below w.heap.size w w'

theorem bytes_at {m : Nat → Nat} (hm : Mb.IsB m) (a n : Nat) (w : World) (h1 : 1 ≤ n) (h8 : n ≤ 8) :
    Calls Try.prog 62 #[.int .u64 (Mb.nm m a n : Nat), .int .i64 n] w (MadeAt (Mb.bl m a n) n w) := by
  refine (bytes_yes _ n w h8).mono ?_
  rintro e w' ⟨v, rfl, ⟨A, cap, rfl, hv⟩, hb⟩
  rw [Mb.bs_nm hm, Mb.bl_length] at hv ⊢
  obtain ⟨b, off, rfl, hlt, hc⟩ := hv (by omega)
  refine ⟨b, off, cap, rfl, fun j u hj => ?_, hb⟩
  have hjn : j < n := by
    have := (List.getElem?_eq_some_iff.1 hj).1
    simpa [Mb.bl_length] using this
  have e : (⟨b, off, none⟩ : Addr).add j = ⟨b, off + j, none⟩ := by unfold Addr.add; split <;> simp_all
  rw [e, hc j hjn]
  rw [List.getElem?_map, Option.map_eq_some_iff] at hj
  obtain ⟨x, hx, rfl⟩ := hj
  rw [List.getD, hx]
  rfl

theorem inWord_at (p q j : Nat) (w : World) (ha : p ≤ 9223372036854775807) (hj : j = min q (8 - p % 8)) :
    Calls Try.prog 61 #[.int .i64 p, .int .i64 q] w fun e w' => e = .returned (.int .i64 j) ∧ w = w' := by
  subst hj
  exact inWord_any p q w ha

set_option maxHeartbeats 1000000 in
theorem read_any {w : World} {g h n : Nat} {m : Nat → Nat} {c : Int} (B : Buf w g h m n c) (a k : Nat) (hin : a + k ≤ 8 * n) :
    Calls Try.prog 36 #[.pointer (some ⟨g, 0, none⟩), .int .i64 a, .int .i64 k] w (MadeBytes (Mb.bl m a k) w) := by
  obtain ⟨i0, hi, hz0, hz1, hz2⟩ := info_parts infoU8
  have hf := B.few
  have HB := Lib.hid B
  clear B
  go_enter Try.func36, Try.ntmps36
  go_wp2_with (refine wpList_make_own _ rfl _ _ 26 rfl w.heap.size 5 i0 (.int .u8 0) 1 Try.underlying26 hi hz0 hz1 .i64 .i64 _ k rfl rfl rfl (by rw [hz2]; omega) (by unfold maxLen; omega) (Nat.le_refl _) ?_; intro w0 hown0 hg0)
  have hbel0 : Below w.heap.size w w0 := (Below.refl _ w).grown hg0 (Nat.le_refl _) (fun g hg => by cases hg)
  clear hg0
  go_loopw [1, 2, 7] (fun t1 t2 r wr => ∃ p q : Nat, a ≤ p ∧ p + q = a + k ∧ t1 = .int .i64 p ∧ t2 = .int .i64 q ∧ Below w.heap.size w wr ∧ wr.ownsRow w.heap.size 5 1 r (p - a) ((Mb.bl m a (p - a)).map (Value.int .u8))) (fun _ t2 _ _ => (intOf t2).toNat)
  case atStart => exact ⟨a, k, by omega, rfl, rfl, rfl, hbel0, by rw [Nat.sub_self]; exact hown0⟩
  case round =>
    obtain ⟨p, q, hp, hpq, rfl, rfl, hbel, hown⟩ := hrel
    clear hown0 hbel0
    by_cases hlt : 0 < q
    · obtain ⟨j, hj⟩ : ∃ j, j = min q (8 - p % 8) := ⟨_, rfl⟩
      have hj1 : 1 ≤ j := by omega
      have hj2 : j ≤ q := by omega
      have hj3 : p % 8 + j ≤ 8 := by omega
      have hpb : p ≤ 131072 := by omega
      have hqb : q ≤ 131072 := by omega
      have hj4 : p / 8 < n := by omega
      have HJ := Lib.hid hj
      have HQ := Lib.hid hpq
      have hBr := HB.out.below hbel
      have HBr := Lib.hid hBr
      have HBel := Lib.hid hbel
      have HO := Lib.hid hown
      clear hj hpq hBr hbel hown
      go_wp2_with (first
        | (go_at_call 61; refine (inWord_at p q j _ (by omega) HJ.out).mono ?_; rintro e w' ⟨rfl, rfl⟩)
        | (go_at_call 63; refine (load_any HBr.out p j hj3 hj4).mono ?_; rintro e w1 ⟨rfl, nd, rfl⟩)
        | (go_at_call 62; refine (bytes_at HBr.out.bytes p j _ hj1 (by omega)).mono ?_; rintro e w2 ⟨sb, so, cp, rfl, hcs, hb2⟩; have hb3 : Below wr.heap.size wr w2 := (drewN_below wr nd).after hb2; clear hb2)
        | (at_builtin; refine wpList_append_own _ rfl (.tmp 16) (.tmp 22) 26 rfl w.heap.size 5 i0 (.int .u8 0) 1 1 Try.underlying26 hi hz0 hz1 hz2 rfl (by decide) _ _ _ rfl (ownsRow_below HO.out hb3) ⟨sb, so, none⟩ j cp ((Mb.bl m p j).map (Value.int .u8)) rfl (by simp [Mb.bl_length]) hcs (u8_one _) (by unfold maxLen; omega) (by omega) (Nat.le_trans HBel.out.size hb3.size) ?_; intro v' w3 hown' hgrow _; have hbel3 : Below w.heap.size w w3 := (HBel.out.trans (hb3.mono HBel.out.size)).grown hgrow (Nat.le_trans HBel.out.size hb3.size) (fun g hg => (HO.out.lt g hg).1); rw [Mb.bl_next m a p j hp, show p - a + j = p + j - a by omega] at hown'; have HO3 := Lib.hid hown'; have HB3 := Lib.hid hbel3; clear hown' hgrow hbel3))
      go_roundw
      case rel =>
        have hpq := HQ.out
        exact ⟨p + j, q - j, by omega, by omega, by go_num, by go_num, HB3.out, HO3.out⟩
      case measure => simp [intOf]; omega
    · have hq0 : q = 0 := by omega
      have HQ := Lib.hid (show p - a = k by omega)
      subst hq0
      have HBel := Lib.hid hbel
      have HO := Lib.hid hown
      clear hpq hbel hown
      go_wp2
      go_ret
      have hO := HO.out
      rw [HQ.out] at hO
      exact ⟨_, rfl, BytesAt.of_own (by rw [Mb.bl_length]; exact hO), HBel.out⟩

namespace Mb
theorem put_next (m : Nat → Nat) {f : Nat → Nat} (hf : IsB f) (a p j k : Nat) (hp : a ≤ p) (hk : p + j ≤ a + k) :
    put (put m a (p - a) (nm f 0 k)) p j (nm f (p - a) j) = put m a (p + j - a) (nm f 0 k) := by
  funext i
  unfold put
  by_cases h1 : p ≤ i ∧ i < p + j
  · rw [if_pos h1, if_pos (by omega), byt_nm hf _ _ _ (by omega), byt_nm hf _ _ _ (by omega)]
    congr 1
    omega
  · rw [if_neg h1]
    by_cases h2 : a ≤ i ∧ i < a + (p - a)
    · rw [if_pos h2, if_pos (by omega)]
    · rw [if_neg h2, if_neg (by omega)]
theorem bl_drop (f : Nat → Nat) (a q j i : Nat) (h : i + j < q) : (bl f (a + j) (q - j)).getD i 0 = (bl f a q).getD (j + i) 0 := by
  rw [bl_getD _ _ _ _ (by omega), bl_getD _ _ _ _ (by omega), Nat.add_assoc]
theorem bl_bytes8 {f : Nat → Nat} (hf : IsB f) (a n : Nat) : Wd.Bytes8 (bl f a n) := by
  intro x hx
  unfold bl at hx
  obtain ⟨i, _, rfl⟩ := List.mem_map.1 hx
  have := hf (a + i)
  omega
theorem put_none (m : Nat → Nat) (a v : Nat) : put m a 0 v = m := by
  funext i
  unfold put
  rw [if_neg (by omega)]
end Mb

/-- A place that holds a byte is no place of a buffer. -/
theorem Buf.byte_apart {w : World} {g h n : Nat} {m : Nat → Nat} {c : Int} (B : Buf w g h m n c) {b off : Nat} {x : Int} (hc : w.cell? ⟨b, off, none⟩ = some (.int .u8 x)) : b ≠ g ∧ b ≠ h := by
  constructor
  · intro e
    subst e
    simp only [World.cell?, B.head] at hc
    match off, hc with
    | 0, hc => simp at hc
    | 1, hc => simp at hc
    | k + 2, hc => simp at hc
  · intro e
    subst e
    by_cases hlt : off < n
    · rw [B.word hlt] at hc
      simp at hc
    · obtain ⟨cs, hb, hn, _⟩ := B.words
      simp only [World.cell?, hb] at hc
      rw [Array.getElem?_eq_none (by omega)] at hc
      simp at hc

theorem BytesAt.touch {w w' : World} {g h n : Nat} {m : Nat → Nat} {c : Int} {v : Value} {xs : List Int} (hv : BytesAt w v xs) (B : Buf w g h m n c) (ht : Touch (Two g h) w w') : BytesAt w' v xs := by
  obtain ⟨A, cap, hv, hq⟩ := hv
  refine ⟨A, cap, hv, fun hp => ?_⟩
  obtain ⟨b, off, h1, h3, h4⟩ := hq hp
  have ha := B.byte_apart (h4 0 hp)
  have hn : ¬ Two g h b := fun e => e.elim ha.1 ha.2
  exact ⟨b, off, h1, Nat.lt_of_lt_of_le h3 ht.size, fun i hi => (ht.cell (p := ⟨b, off + i, none⟩) h3 hn).trans (h4 i hi)⟩

theorem number_at (v : Value) {f : Nat → Nat} (hf : Mb.IsB f) (a j : Nat) (w : World) (hj : j ≤ 8) (h : BytesAt w v (Mb.bl f a j)) :
    Calls Try.prog 89 #[v] w fun e w' => e = .returned (.int .u64 (Mb.nm f a j : Nat)) ∧ w = w' := by
  have hn := number_any v _ w (Mb.bl_bytes8 hf a j) h
  rw [List.take_of_length_le (by rw [Mb.bl_length]; omega), Mb.num_bl] at hn
  exact hn

/-- The bytes from j on, and the first j of them. -/
theorem bytesAt_front {w : World} {f : Nat → Nat} {b off q cap : Nat} (a j : Nat) (hj : j ≤ q) (hlt : b < w.heap.size) (hc : ∀ i, i < q → w.cell? ⟨b, off + i, none⟩ = some (.int .u8 ((Mb.bl f a q).getD i 0))) :
    BytesAt w (.slice (some ⟨b, off, none⟩) j cap) (Mb.bl f a j) := by
  refine ⟨some ⟨b, off, none⟩, cap, by rw [Mb.bl_length], fun _ => ⟨b, off, rfl, hlt, fun i hi => ?_⟩⟩
  rw [Mb.bl_length] at hi
  rw [hc i (by omega), Mb.bl_getD _ _ _ _ (by omega), Mb.bl_getD _ _ _ _ (by omega)]
theorem bytesAt_behind {w : World} {f : Nat → Nat} {b off q cap : Nat} (a j : Nat) (hj : j ≤ q) (hlt : b < w.heap.size) (hc : ∀ i, i < q → w.cell? ⟨b, off + i, none⟩ = some (.int .u8 ((Mb.bl f a q).getD i 0))) :
    BytesAt w (.slice (some ⟨b, off + j, none⟩) (q - j) cap) (Mb.bl f (a + j) (q - j)) := by
  refine ⟨some ⟨b, off + j, none⟩, cap, by rw [Mb.bl_length], fun _ => ⟨b, off + j, rfl, hlt, fun i hi => ?_⟩⟩
  rw [Mb.bl_length] at hi
  rw [Nat.add_assoc, hc (j + i) (by omega), Mb.bl_drop _ _ _ _ _ (by omega)]

theorem bytesAt_none (w : World) (A : Option Addr) (f : Nat → Nat) (a : Nat) : BytesAt w (.slice A 0 0) (Mb.bl f a 0) := ⟨A, 0, rfl, fun h => by simp [Mb.bl] at h⟩

theorem write_step {w wr w1 : World} {g h n : Nat} {m1 m2 m3 : Nat → Nat} {c : Int} (_ : Buf wr g h m1 n c) (hs : Stored g h m2 n c wr w1) (ht : Touch (Two g h) w wr) (e : m2 = m3) (nq : Nat) :
    Buf (w1.drewN nq) g h m3 n c ∧ Touch (Two g h) w (w1.drewN nq) := by
  subst e
  exact ⟨hs.1.drewN nq, (ht.trans hs.2).drewN nq⟩

set_option maxHeartbeats 1000000 in
theorem write_any {w : World} {g h n : Nat} {m : Nat → Nat} {c : Int} (B : Buf w g h m n c) (a k : Nat) (hin : a + k ≤ 8 * n) (hk8 : k ≤ 8) {f : Nat → Nat} (hf : Mb.IsB f) (A : Option Addr) (cap : Nat) (hcap : k ≤ cap) (hcap2 : cap ≤ 9223372036854775807)
    (hv : BytesAt w (.slice A k cap) (Mb.bl f 0 k)) :
    Calls Try.prog 81 #[.pointer (some ⟨g, 0, none⟩), .int .i64 a, .slice A k cap] w fun e w' => e = .returned (.tuple #[]) ∧ Stored g h (Mb.put m a k (Mb.nm f 0 k)) n c w w' := by
  have hfw := B.few
  have HB := Lib.hid B
  have HV := Lib.hid hv
  have HF := Lib.hid hf
  clear B hv hf
  go_enter Try.func81, Try.ntmps81
  go_wp2
  go_loopw [1, 2] (fun t1 t2 wr => ∃ (p q : Nat) (A' : Option Addr) (cap' : Nat), a ≤ p ∧ p + q = a + k ∧ t1 = .int .i64 p ∧ t2 = .slice A' q cap' ∧ q ≤ cap' ∧ cap' ≤ 9223372036854775807 ∧ BytesAt wr (.slice A' q cap') (Mb.bl f (p - a) q) ∧ Buf wr g h (Mb.put m a (p - a) (Mb.nm f 0 k)) n c ∧ Touch (Two g h) w wr) (fun t1 _ _ => (a + k - (intOf t1)).toNat)
  case atStart => exact ⟨a, k, A, cap, by omega, rfl, rfl, rfl, hcap, hcap2, by rw [Nat.sub_self]; exact HV.out, by rw [Nat.sub_self, Mb.put_none]; exact HB.out, Touch.refl _ _⟩
  case round =>
    obtain ⟨p, q, A', cap', hp, hpq, rfl, rfl, hqc, hcm, hbs, hbuf, htou⟩ := hrel
    by_cases hlt : 0 < q
    · obtain ⟨j, hj⟩ : ∃ j, j = min q (8 - p % 8) := ⟨_, rfl⟩
      have hj1 : 1 ≤ j := by omega
      have hj2 : j ≤ q := by omega
      have hj3 : p % 8 + j ≤ 8 := by omega
      have hj8 : j ≤ 8 := by omega
      have hpb : p ≤ 131072 := by omega
      have hqb : q ≤ 131072 := by omega
      have hj4 : p / 8 < n := by omega
      have hvl : Mb.nm f (p - a) j < 18446744073709551616 := Nat.lt_of_lt_of_le (Mb.nm_lt HF.out _ _) (Nat.pow_le_pow_right (n := 2) (i := 8 * j) (j := 64) (by decide) (by omega))
      have hnx := Mb.put_next m HF.out a p j k hp (by omega)
      have hbs2 := hbs
      obtain ⟨A2, cp2, he, hcells⟩ := hbs2
      rw [Mb.bl_length] at he hcells
      obtain ⟨b, off, rfl, hblt, hcell⟩ := hcells hlt
      simp only [Value.slice.injEq] at he
      obtain ⟨rfl, _, rfl⟩ := he
      have hfront := bytesAt_front (cap := cap') (p - a) j hj2 hblt hcell
      have hbehind := bytesAt_behind (cap := cap' - j) (p - a) j hj2 hblt hcell
      have ha := hbuf.byte_apart (hcell 0 hlt)
      have HJ := Lib.hid hj
      have HQ := Lib.hid hpq
      have HBf := Lib.hid hbuf
      have HT := Lib.hid htou
      have HN := Lib.hid hnx
      have HFr := Lib.hid hfront
      have HBe := Lib.hid hbehind
      clear hj hpq hbuf htou hnx hbs hfront hbehind hcell hcells ha
      by_cases hcj : cap' = j
      · have e1 : j = cap' := hcj.symm
        have e2 : j = q := by omega
        clear hcj
        subst e1
        subst e2
        go_wp2_with (first
          | (go_at_call 61; refine (inWord_at p j j _ (by omega) HJ.out).mono ?_; rintro e w' ⟨rfl, rfl⟩)
          | (go_at_call 89; refine (number_at _ HF.out (p - a) j _ hj8 HFr.out).mono ?_; rintro e w1 ⟨rfl, rfl⟩)
          | (go_at_call 78; refine (store_any HBf.out p j _ hj3 hj4 hvl).mono ?_; rintro e w1 ⟨rfl, hst⟩; have HS := Lib.hid hst; clear hst))
        go_quiet (fail)
        go_wp2
        go_roundw
        case rel =>
          have hpq := HQ.out
          have hst := write_step HBf.out HS.out HT.out HN.out nq
          exact ⟨p + j, 0, some ⟨b, off, none⟩, 0, by omega, by omega, by go_num, rfl, by omega, by omega, bytesAt_none _ _ _ _, hst.1, hst.2⟩
        case measure => have hpq := HQ.out; simp [intOf]; omega
      · have hcj' : j < cap' := by omega
        clear hcj
        go_wp2_with (first
          | (go_at_call 61; refine (inWord_at p q j _ (by omega) HJ.out).mono ?_; rintro e w' ⟨rfl, rfl⟩)
          | (go_at_call 89; refine (number_at _ HF.out (p - a) j _ hj8 HFr.out).mono ?_; rintro e w1 ⟨rfl, rfl⟩)
          | (go_at_call 78; refine (store_any HBf.out p j _ hj3 hj4 hvl).mono ?_; rintro e w1 ⟨rfl, hst⟩; have HS := Lib.hid hst; clear hst))
        go_quiet (fail)
        go_wp2
        go_roundw
        case rel =>
          have hpq := HQ.out
          have hst := write_step HBf.out HS.out HT.out HN.out nq
          have hbe := (HBe.out.touch HBf.out HS.out.2).below (drewN_below w1 nq)
          rw [show p - a + j = p + j - a by omega] at hbe
          exact ⟨p + j, q - j, some ⟨b, off + j, none⟩, cap' - j, by omega, by omega, by go_num, rfl, by omega, by omega, hbe, hst.1, hst.2⟩
        case measure => have hpq := HQ.out; simp [intOf]; omega
    · have hq0 : q = 0 := by omega
      subst hq0
      have HP := Lib.hid (show p - a = k by omega)
      have HBf := Lib.hid hbuf
      have HT := Lib.hid htou
      clear hpq hbs hbuf htou
      go_wp2
      go_end0
      have hB := HBf.out
      rw [HP.out] at hB
      exact ⟨rfl, hB, HT.out⟩
end Go.Proofs.Ytijgfaggakbajaa
