/-
  The statement that an access touches nothing but its own bytes (layer 2), walked.
-/
import Derived.Test.YtinacnkddjelhaaMembufFixed
namespace Go.Proofs.Ytinacnkddjelhaa
open Go.RowKit

theorem put_own {m : Nat → Nat} {a k v i : Nat} (h : Mb.put m a k v i ≠ m i) : a ≤ i ∧ i < a + k := by
  by_cases hc : a ≤ i ∧ i < a + k
  · exact hc
  · unfold Mb.put at h
    rw [if_neg hc] at h
    exact absurd rfl h

theorem aft_own {m : Nat → Nat} {K : Int} {a k v u : Nat} {f : Nat → Nat} {i : Nat} (h : Mb.aft m K a k v u f i ≠ m i) : a ≤ i ∧ i < a + k := by
  unfold Mb.aft at h
  split at h
  · exact put_own h
  · split at h
    · exact put_own h
    · split at h
      · split at h
        · exact put_own h
        · exact absurd rfl h
      · split at h
        · exact put_own h
        · exact absurd rfl h

/-- A call that touched nothing but its own bytes: what it answered, and which bytes may be others. -/
def Own (P N : Int) (g h : Nat) (m : Nat → Nat) (n : Nat) (w : World) (e : Ending) (w' : World) : Prop :=
  ∃ (V : Nat) (D : Bool) (A : Option Addr) (l cap : Nat) (er : Int) (m' : Nat → Nat) (c' : Int), e = .returned (.tuple #[.agg #[.int .u64 V, .bool D, .slice A l cap], .int .i64 er]) ∧
    Stored g h m' n c' w w' ∧ ∀ i : Nat, m' i ≠ m i → er = 0 ∧ P ≤ (i : Int) ∧ (i : Int) < P + N ∧ P + N ≤ 131072 ∧ 0 ≤ P

theorem do_own {w : World} {g h n : Nat} {m : Nat → Nat} {c : Int} (B : Buf w g h m n c) (K P N : Int) (v u : Nat) {f : Nat → Nat} (hf : Mb.IsB f) (A : Option Addr) (L cap : Nat) (hcap : L ≤ cap) (hcap2 : cap ≤ 9223372036854775807)
    (hb : BytesAt w (.slice A L cap) (Mb.bl f 0 L)) (hv : v < 18446744073709551616) :
    Calls Try.prog 8 #[.pointer (some ⟨g, 0, none⟩), .agg #[.int .i64 K, .int .i64 P, .int .i64 N, .int .u64 v, .int .u64 u, .slice A L cap]] w (Own P N g h m n w) := by
  by_cases ok : chk (8 * (n : Int)) K P N L = 0
  · obtain ⟨hfo, h0, h1, h2, _⟩ := chk_ok ok
    have hl := formed_len hfo
    have hfw := B.few
    obtain ⟨a, rfl⟩ := Int.eq_ofNat_of_zero_le h0
    obtain ⟨k, rfl⟩ := Int.eq_ofNat_of_zero_le hl.1
    refine (do_ok B K a k v u hf A L cap hcap hcap2 hb hv ok).mono ?_
    rintro e w' ⟨s, rfl, ⟨A3, cp3, rfl, _⟩, hst⟩
    refine ⟨_, _, A3, _, cp3, 0, _, _, rfl, hst, fun i hi => ?_⟩
    have := aft_own hi
    refine ⟨rfl, ?_, ?_, ?_, ?_⟩ <;> omega
  · refine (do_no B K P N v u A L cap ok).mono ?_
    rintro e w' ⟨rfl, hbl⟩
    exact ⟨0, false, none, 0, 0, _, m, c, rfl, ⟨B.below hbl, Touch.of_below hbl⟩, fun i hi => absurd rfl hi⟩

/-- One byte is written; where does not matter. -/
theorem write_one {w : World} {g h : Nat} {m : Nat → Nat} {c : Int} (B : Buf w g h m 8 c) (i : Nat) (x : Nat) (hx : x < 256) :
    Calls Try.prog 8 #[.pointer (some ⟨g, 0, none⟩), .agg #[.int .i64 6, .int .i64 i, .int .i64 1, .int .u64 0, .int .u64 0, .slice (some ⟨w.heap.size, 0, none⟩) 1 1]] (w.alloc (.cells #[.int .u8 (x : Int)] 5))
      (Own i 1 g h m 8 (w.alloc (.cells #[.int .u8 (x : Int)] 5))) := by
  refine do_own (B.alloc _) 6 i 1 0 0 (f := fun _ => x) (fun _ => hx) (some ⟨w.heap.size, 0, none⟩) 1 1 (Nat.le_refl _) (by decide) ⟨_, 1, rfl, fun _ => ⟨w.heap.size, 0, rfl, by simp, fun j hj => ?_⟩⟩ (by decide)
  rw [Mb.bl_length] at hj
  have : j = 0 := by omega
  subst this
  rw [Mb.bl_getD _ _ _ _ (by omega)]
  go_simp

/-- All 64 bytes of a buffer were read: where they stand. -/
def Read64 (m : Nat → Nat) (w : World) (e : Ending) (w' : World) : Prop :=
  ∃ b off cap, e = .returned (.slice (some ⟨b, off, none⟩) 64 cap) ∧ b < w'.heap.size ∧ (∀ j, j < 64 → w'.cell? ⟨b, off + j, none⟩ = some (.int .u8 ((m j : Nat) : Int))) ∧ Below w.heap.size w w'

theorem bytes64 {w : World} {g h : Nat} {m : Nat → Nat} {c : Int} (B : Buf w g h m 8 c) :
    Calls Try.prog 9 #[.pointer (some ⟨g, 0, none⟩)] w (Read64 m w) := by
  refine (allBytes_any B).mono ?_
  rintro e w' ⟨v, rfl, ⟨A, cap, rfl, hv⟩, hb⟩
  rw [Mb.bl_length] at hv ⊢
  obtain ⟨b, off, rfl, hlt, hc⟩ := hv (by decide)
  refine ⟨b, off, cap, rfl, hlt, fun j hj => ?_, hb⟩
  rw [hc j hj, Mb.bl_getD _ _ _ _ hj, Nat.zero_add]

set_option maxHeartbeats 2000000 in
theorem ownLaw_any (w : World) (A1 : Option Addr) (L1 cap1 : Nat) (f1 : Nat → Nat) (hf1 : Mb.IsB f1) (hb1 : BytesAt w (.slice A1 L1 cap1) (Mb.bl f1 0 L1)) (hL1 : L1 ≤ 9223372036854775807)
    (K P N : Int) (V U : Nat) (A : Option Addr) (L cap : Nat) (f : Nat → Nat) (hf : Mb.IsB f) (hb : BytesAt w (.slice A L cap) (Mb.bl f 0 L)) (hcap : L ≤ cap) (hcap2 : cap ≤ 9223372036854775807) (hV : V < 18446744073709551616)
    (hN : -9223372036854775808 ≤ N ∧ N ≤ 9223372036854775807) (hlen1 : L1 ≤ 64) (hlen : L ≤ 100) :
    Calls Try.prog 3 #[.slice A1 L1 cap1, .agg #[.int .i64 K, .int .i64 P, .int .i64 N, .int .u64 V, .int .u64 U, .slice A L cap]] w (TrueBelow w) := by
  have hc := acc_one w K P N V U (.slice A L cap)
  have HW := (Below.refl w.heap.size w).alloc (Nat.le_refl _) (.cells #[.int .i64 K, .int .i64 P, .int .i64 N, .int .u64 V, .int .u64 U, .slice A L cap] 25)
  have HF1 := Lib.hid hf1
  have HF := Lib.hid hf
  have HV1 := Lib.hid hb1
  have HV := Lib.hid hb
  clear hf1 hf hb1 hb
  go_enter Try.func3, Try.ntmps3
  go_wp2_with fail
  generalize w.alloc (.cells #[.int .i64 K, .int .i64 P, .int .i64 N, .int .u64 V, .int .u64 U, .slice A L cap] 25) = W at hc HW ⊢
  refine (fixed_any W).mono ?_
  rintro e w1 ⟨rfl, hq1⟩
  have hc1 := hc.below hq1
  have HW1 := HW.trans (hq1.mono HW.size)
  clear hc hq1 HW
  obtain ⟨c0, c1, c2, c3, c4, c5⟩ := hc1
  have HC1 := Lib.hid (AccAt.mk c0 c1 c2 c3 c4 c5)
  go_wp2_with fail
  refine (new_yes 64 8 w1 (by decide) (by decide) (by decide) (by decide)).mono ?_
  rintro e w2 ⟨g, h, rfl, hB, hg, hh, hq2⟩
  have HC2 := Lib.hid (HC1.out.below hq2)
  have HW2 := HW1.trans (hq2.mono HW1.size)
  have HB2 := Lib.hid hB
  have hgl := hB.g_lt
  have hhl := hB.h_lt
  have hwl : w.heap.size < w1.heap.size := HC1.out.lt
  clear hB hq2 HW1 c0 c1 c2 c3 c4 c5 HC1
  go_wp2
  go_loopw [31] (fun t wr => ∃ (i : Nat) (m : Nat → Nat) (c : Int), i ≤ L1 ∧ t = .int .i64 i ∧ Buf wr g h m 8 c ∧ Touch (Two g h) w2 wr) (fun t _ => L1 - (intOf t).toNat)
  case atStart => exact ⟨0, _, _, by omega, rfl, HB2.out, Touch.refl _ _⟩
  case round =>
    obtain ⟨i, m, c, hi, rfl, hBr, hTr⟩ := hrel
    by_cases hlt : i < L1
    · have hv := (HV1.out.below HW2).touch HB2.out hTr
      obtain ⟨A2, cp2, he, hcells⟩ := hv
      rw [Mb.bl_length] at he hcells
      obtain ⟨b, off, rfl, hblt, hcell⟩ := hcells (by omega)
      simp only [Value.slice.injEq] at he
      obtain ⟨rfl, _, rfl⟩ := he
      have hci := hcell i hlt
      rw [Mb.bl_getD _ _ _ _ hlt, Nat.zero_add] at hci
      have hfi := HF1.out i
      have HBr := Lib.hid hBr
      have HTr := Lib.hid hTr
      clear hBr hTr hcell hcells
      go_wp2_with fail
      refine (write_one HBr.out i (f1 i) hfi).mono ?_
      rintro e w3 ⟨V3, D3, A3, l3, cp3, er3, m3, c3, rfl, hst, _⟩
      have HST := Lib.hid hst
      clear hst
      go_wp2
      go_roundw
      case rel => exact ⟨i + 1, m3, c3, by omega, by go_num, HST.out.1, (HTr.out.alloc _).trans HST.out.2⟩
      case measure => simp [intOf]; omega
    · have hiL : i = L1 := by omega
      subst hiL
      have HBr := Lib.hid hBr
      have HTr := Lib.hid hTr
      have HCr := HC2.out.touch hTr (by omega) (by omega)
      have HVr := Lib.hid ((HV.out.below HW2).touch HB2.out hTr)
      have HWr := Touch.below HW2 hTr HW2.size fun k hk => by have := HW2.size; have := hwl; rcases hk with rfl | rfl <;> omega
      clear hBr hTr
      go_wp2_with fail
      refine (bytes64 HBr.out).mono ?_
      rintro e w4 ⟨b4, o4, cp4, rfl, hl4, hcell4, hq4⟩
      have HC4 := HCr.below hq4
      have HB4 := Lib.hid (HBr.out.below hq4)
      have HV4 := Lib.hid (HVr.out.below hq4)
      have HW4 := Lib.hid (HWr.trans (hq4.mono HWr.size))
      have HC4' := Lib.hid HC4
      obtain ⟨c0, c1, c2, c3, c4, c5⟩ := HC4
      have hz4 := hq4.size
      have hcell4' := Lib.hid hcell4
      clear hq4 hcell4 HCr HWr
      go_wp2_with fail
      refine (do_own HB4.out K P N V U HF.out A L cap hcap hcap2 HV4.out hV).mono ?_
      rintro e w5 ⟨V5, D5, A5, l5, cp5, er, m5, c5', rfl, hst, hown⟩
      have hap := HB4.out.byte_apart (hcell4'.out 0 (by omega))
      have hn4 : ¬ Two g h b4 := fun e => e.elim hap.1 hap.2
      have hcell5 : ∀ j, j < 64 → w5.cell? ⟨b4, o4 + j, none⟩ = some (.int .u8 ((m j : Nat) : Int)) := fun j hj => (hst.2.cell (p := ⟨b4, o4 + j, none⟩) hl4 hn4).trans (hcell4'.out j hj)
      have hl5 : b4 < w5.heap.size := Nat.lt_of_lt_of_le hl4 hst.2.size
      have HC5 := HC4'.out.touch hst.2 (by omega) (by omega)
      have HA5 := (Below.refl w5.heap.size w5).alloc (Nat.le_refl _) (.cells #[.int .u64 (V5 : Int), .bool D5, .slice A5 l5 cp5] 32)
      have HB5 := Lib.hid (hst.1.below HA5)
      have HC6 := Lib.hid (HC5.below HA5)
      have hcell6 : ∀ j, j < 64 → (w5.alloc (.cells #[.int .u64 (V5 : Int), .bool D5, .slice A5 l5 cp5] 32)).cell? ⟨b4, o4 + j, none⟩ = some (.int .u8 ((m j : Nat) : Int)) := fun j hj => (HA5.cell (p := ⟨b4, o4 + j, none⟩) hl5).trans (hcell5 j hj)
      have hcell6' := Lib.hid hcell6
      have hl6 : b4 < (w5.alloc (.cells #[.int .u64 (V5 : Int), .bool D5, .slice A5 l5 cp5] 32)).heap.size := Nat.lt_of_lt_of_le hl5 HA5.size
      have HW5 := Lib.hid ((Touch.below HW4.out hst.2 HW4.out.size fun k hk => by have := HW2.size; have := hwl; rcases hk with rfl | rfl <;> omega).trans (HA5.mono (Nat.le_trans HW4.out.size hst.2.size)))
      have HOwn := Lib.hid hown
      clear hst hcell5 hcell6 HA5 HC5 c0 c1 c2 c3 c4 c5 hown hap hn4
      go_wp2_with fail
      generalize w5.alloc (.cells #[.int .u64 (V5 : Int), .bool D5, .slice A5 l5 cp5] 32) = W5 at HB5 HC6 hcell6' hl6 HW5 ⊢
      refine (bytes64 HB5.out).mono ?_
      rintro e w7 ⟨b7, o7, cp7, rfl, hl7, hcell7, hq7⟩
      have HC7 := HC6.out.below hq7
      obtain ⟨c0, c1, c2, c3, c4, c5⟩ := HC7
      have HW7 := Lib.hid (HW5.out.trans (hq7.mono HW5.out.size))
      have hbef := fun j hj => (hq7.cell (p := ⟨b4, o4 + j, none⟩) hl6).trans (hcell6'.out j hj)
      have HBef := Lib.hid hbef
      have HAft := Lib.hid hcell7
      clear hbef hcell7 hq7
      go_wp2
      go_loopw [55] (fun t wr => ∃ (j q : Nat), j ≤ 64 ∧ t = .int .i64 j ∧ wr = w7.drewN q) (fun t _ => 64 - (intOf t).toNat)
      case atStart => exact ⟨0, 0, by omega, rfl, rfl⟩
      case round =>
        obtain ⟨j, q, hj, rfl, rfl⟩ := hrel
        by_cases hjl : j < 64
        · have hA := HAft.out j hjl
          have hB := HBef.out j hjl
          have hj1 : (j : Int) < 64 := by omega
          by_cases hd : m5 j = m j
          · have hne : (((m5 j : Nat) : Int) != ((m j : Nat) : Int)) = false := by simp [hd]
            clear hd
            go_wp2_with fail
            go_quiet (fail)
            go_wp2
            go_roundw
            case rel => exact ⟨j + 1, q + nq, by omega, by go_num, rfl⟩
            case measure => simp [intOf]; omega
          · have hne : (((m5 j : Nat) : Int) != ((m j : Nat) : Int)) = true := by simpa using fun e => hd (Int.ofNat_inj.1 e)
            obtain ⟨he0, hP1, hP2, hP3, hP4⟩ := HOwn.out j hd
            subst he0
            have hd1 : decide ((j : Int) < P) = false := by simpa using hP1
            have hd2 : decide (P + N ≤ (j : Int)) = false := by simpa using hP2
            have hd3 : IntKind.i64.wrap (P + N) = P + N := IntWalk.i64_in _ (by omega)
            clear hd
            go_wp2_with fail
            go_quiet (fail)
            go_wp2
            go_roundw
            case rel => exact ⟨j + 1, q + nq, by omega, by go_num, rfl⟩
            case measure => simp [intOf]; omega
        · have hj64 : j = 64 := by omega
          subst hj64
          go_wp2
          go_ret
          exact ⟨rfl, HW7.out.trans ((drewN_below w7 q).mono HW7.out.size)⟩

set_option maxHeartbeats 1000000 in
theorem ownLaw_long (w : World) (A1 : Option Addr) (L1 cap1 : Nat) (hL1 : L1 ≤ 9223372036854775807) (K P N : Int) (V U : Nat) (A : Option Addr) (L cap : Nat) (hL : L ≤ 9223372036854775807) (hlong : 64 < L1 ∨ 100 < L) :
    Calls Try.prog 3 #[.slice A1 L1 cap1, .agg #[.int .i64 K, .int .i64 P, .int .i64 N, .int .u64 V, .int .u64 U, .slice A L cap]] w (TrueBelow w) := by
  have hc := acc_one w K P N V U (.slice A L cap)
  have HW := (Below.refl w.heap.size w).alloc (Nat.le_refl _) (.cells #[.int .i64 K, .int .i64 P, .int .i64 N, .int .u64 V, .int .u64 U, .slice A L cap] 25)
  by_cases h1 : 64 < L1
  · clear hlong
    go_enter Try.func3, Try.ntmps3
    go_wp2_with fail
    generalize w.alloc (.cells #[.int .i64 K, .int .i64 P, .int .i64 N, .int .u64 V, .int .u64 U, .slice A L cap] 25) = W at hc HW ⊢
    refine (fixed_any W).mono ?_
    rintro e w1 ⟨rfl, hq1⟩
    have hc1 := hc.below hq1
    have HW1 := HW.trans (hq1.mono HW.size)
    clear hc hq1 HW
    obtain ⟨c0, c1, c2, c3, c4, c5⟩ := hc1
    go_wp2
    go_ret
    exact ⟨rfl, HW1⟩
  · have h2 : 100 < L := by omega
    have h1' : L1 ≤ 64 := by omega
    clear hlong h1
    go_enter Try.func3, Try.ntmps3
    go_wp2_with fail
    generalize w.alloc (.cells #[.int .i64 K, .int .i64 P, .int .i64 N, .int .u64 V, .int .u64 U, .slice A L cap] 25) = W at hc HW ⊢
    refine (fixed_any W).mono ?_
    rintro e w1 ⟨rfl, hq1⟩
    have hc1 := hc.below hq1
    have HW1 := HW.trans (hq1.mono HW.size)
    clear hc hq1 HW
    obtain ⟨c0, c1, c2, c3, c4, c5⟩ := hc1
    go_wp2
    go_ret
    exact ⟨rfl, HW1⟩

/-- The statement, whatever the arguments. -/
theorem ownLaw_all (w : World) (A1 : Option Addr) (L1 cap1 : Nat) (f1 : Nat → Nat) (hf1 : Mb.IsB f1) (hb1 : BytesAt w (.slice A1 L1 cap1) (Mb.bl f1 0 L1)) (hL1 : L1 ≤ 9223372036854775807)
    (K P N : Int) (V U : Nat) (A : Option Addr) (L cap : Nat) (f : Nat → Nat) (hf : Mb.IsB f) (hb : BytesAt w (.slice A L cap) (Mb.bl f 0 L)) (hcap : L ≤ cap) (hcap2 : cap ≤ 9223372036854775807) (hV : V < 18446744073709551616)
    (hN : -9223372036854775808 ≤ N ∧ N ≤ 9223372036854775807) :
    Calls Try.prog 3 #[.slice A1 L1 cap1, .agg #[.int .i64 K, .int .i64 P, .int .i64 N, .int .u64 V, .int .u64 U, .slice A L cap]] w (TrueBelow w) := by
  by_cases hl : 64 < L1 ∨ 100 < L
  · exact ownLaw_long w A1 L1 cap1 hL1 K P N V U A L cap (by omega) hl
  · exact ownLaw_any w A1 L1 cap1 f1 hf1 hb1 hL1 K P N V U A L cap f hf hb hcap hcap2 hV hN (by omega) (by omega)
end Go.Proofs.Ytinacnkddjelhaa
