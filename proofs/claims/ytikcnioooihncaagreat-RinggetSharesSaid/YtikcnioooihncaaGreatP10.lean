/-
  The tape of the plain answers: bytes written, from wherever the tape stands; walked.
  The tape of the plain answers (layer 5): zeros written, bytes read, walked.
  The tape of the plain answers: zeros written, bytes read, from wherever the tape stands; walked.
  Layer 8's get told a row of answers, plainly; what the document's get says of it.
  Layer 8's get: its messages are no longer than what it was told.
  Layer 7's put told a row of answers, plainly: where it stands behind each.
  The plain answers to layer 1's powers and multiples, walked.
  Plain facts on the bytes of words and of frames (layer 3): a list of bytes parted, and what its parts tell; nothing of the program is walked here.
  The plain answers to layer 3 that only reckon, or make bytes, walked: signed, bytes, Record, Split, size, RecordSize, FrameSize.
  The document's put (layer 7), walked over a tape.
-/
import Derived.Test.YtikcnioooihncaaGreatP09
import Derived.Test.YtikcnioooihncaaGreatP07
import Derived.Test.YtikcnioooihncaaGreatP04
import Derived.Test.YtikcnioooihncaaGreatP01
import Derived.Test.YtikcnioooihncaaGreatP02
import Derived.Deep.QuietTactic
import Derived.BigQuiet
import Derived.WalkSmall
namespace Go.Proofs.YtikcnioooihncaaGreat
open Go.RowKit

/-- What a tape that was told i answers, j0 of them taken, says of n bytes of f, written at 'at': the access that is wanted next, or that all was told. -/
def SaidFrom (p : Nat) (A : Option Addr) (cap i j0 : Nat) (at_ : Int) (f : Nat → Nat) (n : Nat) (w : World) (e : Ending) (w' : World) : Prop :=
  ∃ b, e = .returned (.bool b) ∧ Touch (One p) w w' ∧
    ((8 * (i - j0) < n ∧ b = false ∧ ∃ B L c, Tp w' p A cap i i 6 (at_ + (8 * (i - j0) : Nat)) (Cy.nx (n - 8 * (i - j0)) : Nat) 0 0 (.slice B L c) true ∧ BytesAt w' (.slice B L c) (Mb.bl f (8 * (i - j0)) (Cy.nx (n - 8 * (i - j0))))) ∨
     (n ≤ 8 * (i - j0) ∧ b = true ∧ Tp w' p A cap i (j0 + (n + 7) / 8) 0 0 0 0 0 (.slice none 0 0) false))

set_option maxRecDepth 100000 in
set_option maxHeartbeats 2000000 in
theorem tapeIn_from {w : World} {p cap i j0 : Nat} {A : Option Addr} (h : Tp w p A cap i j0 0 0 0 0 0 (.slice none 0 0) false) (hj0 : j0 ≤ i) (hi : i ≤ cap) (hcap : cap ≤ 9223372036854775807) {T : Nat → Ans} (hT : ToldAt w A i T) (hA : 0 < i → ∀ a, A = some a → a.block ≠ p)
    (at_ : Int) (hat0 : -4611686018427387904 ≤ at_) (hat1 : at_ ≤ 4611686018427387904) (B : Option Addr) (n cp : Nat) (f : Nat → Nat) (hB : BytesAt w (.slice B n cp) (Mb.bl f 0 n)) (hn : n ≤ 131072) (hcp : n ≤ cp) (hcp2 : cp ≤ 9223372036854775807) :
    Calls Tryz.prog 84 #[.pointer (some ⟨p, 0, none⟩), .int .i64 at_, .slice B n cp] w (SaidFrom p A cap i j0 at_ f n w) := by
  have hlt := h.lt
  have HT := Lib.hid h
  have HTo := Lib.hid hT
  have HA := Lib.hid hA
  have HB := Lib.hid hB
  clear h hT hA hB
  go_enter Tryz.func84, Tryz.ntmps84
  go_wp2_with fail
  refine (refChunks_parts n w).mono ?_
  rintro e w1 ⟨v1, rfl, ⟨A1, c1, rfl, p1, p2, p3⟩, hb1⟩
  rw [Cy.few_nat hn] at p1 p3 ⊢
  have hlen := Cy.cks_length n
  generalize hm : (Cy.cks n).length = m at p1 p3 hlen ⊢
  have HT1 := Lib.hid (HT.out.below hb1)
  have HTo1 := Lib.hid (HTo.out.below hb1)
  have HB1 := Lib.hid (HB.out.below hb1)
  have HP3 := Lib.hid p3
  have hs1 := hb1.size
  have hw1 := Lib.hid hb1
  have HM := Lib.hid hm
  have hm1 : m ≤ 16384 := by omega
  have HL := Lib.hid hlen
  clear p3 hb1 hm hlen
  go_wp2_with fail
  go_loopw [1, 2, 15] (fun a b t wr => ∃ (k : Nat) (A' : Option Addr) (cp' : Nat), t = .int .i64 k ∧ a = .int .i64 (at_ + (Cy.at_ n k : Nat)) ∧ b = .slice A' (n - Cy.at_ n k) cp' ∧ n - Cy.at_ n k ≤ cp' ∧ cp' ≤ 9223372036854775807 ∧ BytesAt wr b (Mb.bl f (Cy.at_ n k) (n - Cy.at_ n k)) ∧ k ≤ m ∧ j0 + k ≤ i ∧
      Tp wr p A cap i (j0 + k) 0 0 0 0 0 (.slice none 0 0) false ∧ Touch (One p) w1 wr) (fun _ _ t _ => m - (intOf t).toNat)
  case atStart => 
    refine ⟨0, B, cp, rfl, by rw [Cy.at_zero]; simp, by rw [Cy.at_zero]; rfl, by omega, hcp2, ?_, by omega, by omega, HT1.out, Touch.refl _ _⟩
    rw [Cy.at_zero]; exact HB1.out
  case round =>
    obtain ⟨k, A', cp', rfl, rfl, rfl, hq1, hq2, hbk, hkm, hki, htk, htt⟩ := hrel
    by_cases hlt : k < m
    · have hk8 : 8 * k < n := by have := HL.out; omega
      have hd := Cy.at_here hk8
      have hnx := Cy.at_next hk8
      rw [hd] at hnx hq1 hbk ⊢
      have hc0 := Cy.nx_pos (r := n - 8 * k) (by omega)
      have hc1 := Cy.nx_le (n - 8 * k)
      obtain ⟨cb, co, rfl, ⟨hcb, _⟩, hcl, hcell⟩ := HP3.out (by omega)
      have hcp : cb ≠ p := by omega
      have hck := (htt.cell (p := ⟨cb, co + k, none⟩) hcl hcp).trans (hcell k hlt)
      rw [← HM.out] at hlt
      have hgd := Cy.cks_getD n k hk8
      rw [hgd] at hck
      rw [HM.out] at hlt
      generalize hcq : Cy.nx (n - 8 * k) = c at hc0 hc1 hck hnx hgd
      generalize hrq : n - 8 * k = r at hc1 hq1 hbk hcq ⊢
      have HCQ := Lib.hid (And.intro hcq hrq)
      have HNX := Lib.hid hnx
      have hrn : r ≤ 131072 := by omega
      have HK8 := Lib.hid hk8
      obtain ⟨gb, ob, rfl⟩ : ∃ gb ob, A' = some ⟨gb, ob, none⟩ := by
        obtain ⟨A2, c2, hv, hx⟩ := hbk
        obtain ⟨gb, ob, e, _⟩ := hx (by rw [Mb.bl_length]; omega)
        injection hv with e1 _ _
        exact ⟨gb, ob, e1.trans e⟩
      have HBK := Lib.hid hbk
      have HTK := Lib.hid htk
      have HTT := Lib.hid htt
      have htold := Lib.hid (HTo1.out.one HT1.out (by intro x e; cases e) htt HA.out)
      have hg1 : (k : Int) < m := by omega
      have hg2 : (0 : Int) ≤ c := by omega
      have hg3 : (c : Int) ≤ r := by omega
      have hg4 : (r : Int) ≤ cp' := by omega
      have hk13 : k ≤ 16384 := by omega
      have hg5 : IntKind.i64.wrap (at_ + ((8 * k : Nat) : Int) + (c : Int)) = at_ + ((8 * k : Nat) : Int) + c := IntWalk.i64_in _ (by omega)
      have hq3 : -4611686018427387904 ≤ at_ + ((8 * k : Nat) : Int) := by omega
      have hq4 : at_ + ((8 * k : Nat) : Int) ≤ 4611686018427518976 := by omega
      generalize hqq : at_ + ((8 * k : Nat) : Int) = q at hg5 hq3 hq4 ⊢
      have HQ := Lib.hid hqq
      have hn1 : n - Cy.at_ n (k + 1) = r - c := by rw [hnx]; omega
      have HN1 := Lib.hid hn1
      clear hcell hgd hcq hrq hd hnx hbk htk htt hk8 hqq hn1
      by_cases hki2 : j0 + k < i
      · have hrel2 : ∀ (w2 : World) (A2 : Option Addr) (cp2 : Nat), (A2 = some ⟨gb, ob + c, none⟩ ∨ r = c) → r - c ≤ cp2 → Tp w2 p A cap i (j0 + k + 1) 0 0 0 0 0 (.slice none 0 0) false → Touch (One p) wr w2 →
            BytesAt w2 (.slice A2 (r - c) cp2) (Mb.bl f (Cy.at_ n (k + 1)) (n - Cy.at_ n (k + 1))) := by
          intro w2 A2 cp2 hA2 _ _ ht2
          rw [HN1.out, HNX.out]
          rcases hA2 with rfl | hrc
          · have := (BytesAt.one HTK.out (by intro x e; cases e) ht2 HBK.out).cut c (r - c) cp2 (by rw [Mb.bl_length]; omega)
            rw [cut_at f (8 * k) c (r - c) r (by omega)] at this
            exact this
          · have : r - c = 0 := by omega
            rw [this]
            exact bytesAt_none' _ _ _ _ _
        have HREL := Lib.hid hrel2
        clear hrel2
        by_cases hcc : cp' = c
        · subst hcc
          have hrc : r = cp' := by omega
          have HRC := Lib.hid hrc
          clear hrc
          go_wp2_with fail
          refine (tapeDo_tells HTK.out hki2 hi hcap htold.out HA.out 6 q cp' 0 0 cp' cp').mono ?_
          rintro e w2 ⟨rfl, htk2, htt2⟩
          go_wp2
          go_roundw
          case rel =>
            refine ⟨k + 1, some ⟨gb, ob, none⟩, 0, by go_num, by rw [HNX.out, ← HQ.out]; congr 1; omega, by rw [HN1.out]; congr 1; have := HRC.out; omega, by rw [HN1.out]; have := HRC.out; omega, by omega, ?_, by omega, by omega, htk2.below ((Below.refl _ _).alloc (Nat.le_refl _) _), (HTT.out.trans htt2).alloc _⟩
            have e0 : r - cp' = 0 := by have := HRC.out; omega
            have h0 := HREL.out _ (some ⟨gb, ob, none⟩) 0 (.inr HRC.out) (by omega) (htk2.below ((Below.refl _ _).alloc (Nat.le_refl _) (.cells #[.int .u64 (T (j0 + k)).V, .bool (T (j0 + k)).D, .slice (T (j0 + k)).A (T (j0 + k)).L (T (j0 + k)).cap] 25))) (htt2.alloc _)
            rw [e0] at h0
            exact h0
          case measure => simp [intOf]; omega
        · go_wp2_with fail
          refine (tapeDo_tells HTK.out hki2 hi hcap htold.out HA.out 6 q c 0 0 c cp').mono ?_
          rintro e w2 ⟨rfl, htk2, htt2⟩
          go_wp2
          go_roundw
          case rel =>
            refine ⟨k + 1, some ⟨gb, ob + c, none⟩, cp' - c, by go_num, by rw [HNX.out, ← HQ.out]; congr 1; omega, by rw [HN1.out], by rw [HN1.out]; omega, by omega, ?_, by omega, by omega, htk2.below ((Below.refl _ _).alloc (Nat.le_refl _) _), (HTT.out.trans htt2).alloc _⟩
            exact HREL.out _ _ _ (.inl rfl) (by omega) (htk2.below ((Below.refl _ _).alloc (Nat.le_refl _) _)) (htt2.alloc _)
          case measure => simp [intOf]; omega
      · obtain rfl : i = j0 + k := by omega
        go_wp2_with fail
        refine (tapeDo_wants HTK.out 6 q c 0 0 c cp').mono ?_
        rintro e w2 ⟨rfl, htk2, htt2⟩
        go_wp2
        go_ret
        refine ⟨false, rfl, ((Touch.of_below hw1.out).trans (HTT.out.trans htt2)).alloc _, .inl ⟨by rw [show j0 + k - j0 = k by omega]; exact HK8.out, rfl, some ⟨gb, ob, none⟩, c, cp', ?_, ?_⟩⟩
        · rw [show j0 + k - j0 = k by omega, HQ.out, HCQ.out.2, HCQ.out.1]
          exact htk2.below ((Below.refl _ _).alloc (Nat.le_refl _) _)
        · rw [show j0 + k - j0 = k by omega, HCQ.out.2, HCQ.out.1]
          have := ((BytesAt.one HTK.out (by intro x e; cases e) htt2 HBK.out).alloc (.cells #[.int .u64 0, .bool false, .slice none 0 0] 25)).cut 0 c cp' (by rw [Mb.bl_length]; omega)
          rw [cut_at f (8 * k) 0 c r (by omega)] at this
          exact this
    · have hkm2 : k = m := by omega
      have hkn : n ≤ 8 * k := by have := HL.out; omega
      have HKN := Lib.hid hkn
      have hg1 : (m : Int) ≤ k := by omega
      have HTK := Lib.hid htk
      have HTT := Lib.hid htt
      have HKM := Lib.hid hkm2
      clear htk htt hkm2 hkn
      go_wp2
      go_ret
      have hmk : k = (n + 7) / 8 := by have := HL.out; have := HKM.out; omega
      exact ⟨true, rfl, (Touch.of_below hw1.out).trans HTT.out, .inr ⟨by have := HKN.out; omega, rfl, by rw [← hmk]; exact HTK.out⟩⟩
end Go.Proofs.YtikcnioooihncaaGreat
namespace Go.Proofs.YtikcnioooihncaaGreat
open Go.RowKit

theorem few_no {n : Int} (h : n < 1 ∨ 131072 < n) : Cy.few n = 0 := by unfold Cy.few; rw [if_neg (by omega)]
theorem few_yes {n : Int} (h0 : 1 ≤ n) (h1 : n ≤ 131072) : ((Cy.few n : Nat) : Int) = n := by unfold Cy.few; rw [if_pos ⟨h0, h1⟩]; omega

set_option maxRecDepth 100000 in
set_option maxHeartbeats 1000000 in
theorem tapeZero_lies {w : World} {p cap i : Nat} {A : Option Addr} (h : Tp w p A cap i 0 0 0 0 0 0 (.slice none 0 0) false) (hi : i ≤ cap) (hcap : cap ≤ 9223372036854775807) {T : Nat → Ans} (hT : ToldAt w A i T) (hA : 0 < i → ∀ a, A = some a → a.block ≠ p)
    (at_ : Int) (hat0 : -4611686018427387904 ≤ at_) (hat1 : at_ ≤ 4611686018427387904) (n : Int) :
    Calls Tryz.prog 64 #[.pointer (some ⟨p, 0, none⟩), .int .i64 at_, .int .i64 n] w (SaidInK (fun k => w.heap.size ≤ k) p A cap i at_ (fun _ => 0) (Cy.few n) w) := by
  by_cases hr : n < 1 ∨ 131072 < n
  · have hf := few_no hr
    rw [hf]
    have HT := Lib.hid h
    clear h hf
    rcases hr with hr | hr
    · go_enter Tryz.func64, Tryz.ntmps64
      go_wp2
      go_ret
      exact ⟨true, rfl, Touch.refl _ _, .inr ⟨Nat.zero_le _, 0, HT.out⟩⟩
    · have hr2 : 1 ≤ n := by omega
      go_enter Tryz.func64, Tryz.ntmps64
      go_wp2
      go_ret
      exact ⟨true, rfl, Touch.refl _ _, .inr ⟨Nat.zero_le _, 0, HT.out⟩⟩
  · have h1 : 1 ≤ n := by omega
    have h2 : n ≤ 131072 := by omega
    obtain ⟨k, rfl⟩ := Int.eq_ofNat_of_zero_le (by omega : 0 ≤ n)
    rw [Cy.few_nat (by omega)]
    have HW := (Below.refl w.heap.size w).alloc (Nat.le_refl _) (.cells (madeCells #[.int .u8 0] k) 5)
    have hmk := make_bytes k (by omega)
    have HC := Lib.hid (tapeIn_lies (K := fun k => w.heap.size ≤ k) (h.below HW) hi hcap (hT.below HW) hA at_ hat0 hat1 (some ⟨w.heap.size, 0, none⟩) k k (fun _ => 0) (zeros_made w k (by omega)).bytes (by omega) (Nat.le_refl _) (by omega) (fun _ a ha => by cases ha; exact Nat.le_refl _))
    have HZ := Lib.hid (zeros_len k)
    clear h hT hA hr
    go_enter Tryz.func64, Tryz.ntmps64
    go_wp2_with fail
    refine HC.out.mono ?_
    rintro e w2 ⟨b, rfl, ht, hrest⟩
    have HR := Lib.hid hrest
    clear hrest
    go_wp2
    go_ret
    exact ⟨b, rfl, (Touch.of_below HW).trans ht, HR.out⟩

theorem tapeZero_any {w : World} {p cap i : Nat} {A : Option Addr} (h : Tp w p A cap i 0 0 0 0 0 0 (.slice none 0 0) false) (hi : i ≤ cap) (hcap : cap ≤ 9223372036854775807) {T : Nat → Ans} (hT : ToldAt w A i T) (hA : 0 < i → ∀ a, A = some a → a.block ≠ p)
    (at_ : Int) (hat0 : -4611686018427387904 ≤ at_) (hat1 : at_ ≤ 4611686018427387904) (n : Int) :
    Calls Tryz.prog 64 #[.pointer (some ⟨p, 0, none⟩), .int .i64 at_, .int .i64 n] w (SaidIn p A cap i at_ (fun _ => 0) (Cy.few n) w) :=
  (tapeZero_lies h hi hcap hT hA at_ hat0 hat1 n).mono fun _ _ hs => hs.said

/-- The bytes of the first k answers. -/
def cat (T : Nat → Ans) : Nat → List Int
  | 0 => []
  | k + 1 => cat T k ++ (T k).bs

theorem cat_le (T : Nat → Ans) {k i : Nat} (h : k ≤ i) : (cat T k).length ≤ (cat T i).length := by
  induction i with
  | zero => have : k = 0 := by omega
            subst this; exact Nat.le_refl _
  | succ i ih =>
    rcases Nat.lt_or_ge k (i + 1) with hl | hl
    · have := ih (by omega)
      show _ ≤ (cat T i ++ (T i).bs).length
      rw [List.length_append]
      omega
    · have : k = i + 1 := by omega
      subst this; exact Nat.le_refl _

theorem Touch.grown {S : Nat → Prop} {a w w' : World} {row : Option Nat} (h : Touch S a w) (hg : w.grownBy w' row) (hr : ∀ k, row = some k → a.heap.size ≤ k) : Touch S a w' :=
  ⟨hg.os.trans h.os, hg.tape.trans h.tape, hg.output.trans h.output, Nat.le_trans h.size hg.size, fun k hk hn => (hg.block k (Nat.lt_of_lt_of_le hk h.size) (fun e => by have := hr k e.symm; omega)).trans (h.block k hk hn)⟩

/-- What a tape that was told i answers says of n bytes that are read at 'at': what was read so far, and the access that is wanted next, or none. -/
def SaidOut (p : Nat) (A : Option Addr) (cap i : Nat) (T : Nat → Ans) (at_ : Int) (n : Nat) (w : World) (e : Ending) (w' : World) : Prop :=
  ∃ B l c b, e = .returned (.tuple #[.slice B l c, .bool b]) ∧ Touch (One p) w w' ∧ Owns w.heap.size w' (.slice B l c) (cat T (if 8 * i < n then i else (n + 7) / 8)) ∧
    ((8 * i < n ∧ Tp w' p A cap i i 5 (at_ + (8 * i : Nat)) (Cy.nx (n - 8 * i) : Nat) 0 0 (.slice none 0 0) true) ∨
     (n ≤ 8 * i ∧ ∃ j, Tp w' p A cap i j 0 0 0 0 0 (.slice none 0 0) false))

set_option maxRecDepth 100000 in
set_option maxHeartbeats 2000000 in
theorem tapeOut_any {w : World} {p cap i : Nat} {A : Option Addr} (h : Tp w p A cap i 0 0 0 0 0 0 (.slice none 0 0) false) (hi : i ≤ cap) (hcap : cap ≤ 9223372036854775807) {T : Nat → Ans} (hT : ToldAt w A i T) (hA : 0 < i → ∀ a, A = some a → a.block ≠ p)
    (hcat : (cat T i).length ≤ 1073741824) (at_ : Int) (hat0 : -4611686018427387904 ≤ at_) (hat1 : at_ ≤ 4611686018427387904) (ni : Int) :
    Calls Tryz.prog 63 #[.pointer (some ⟨p, 0, none⟩), .int .i64 at_, .int .i64 ni] w (SaidOut p A cap i T at_ (Cy.few ni) w) := by
  have hlt := h.lt
  have HT := Lib.hid h
  have HTo := Lib.hid hT
  have HA := Lib.hid hA
  have hn := Cy.few_le ni
  have hch := refChunks_parts ni w
  generalize Cy.few ni = n at hn hch ⊢
  have HCH := Lib.hid hch
  clear h hT hA hch
  go_enter Tryz.func63, Tryz.ntmps63
  go_wp2_with fail
  refine HCH.out.mono ?_
  rintro e w1 ⟨v1, rfl, ⟨A1, c1, rfl, p1, p2, p3⟩, hb1⟩
  have hlen := Cy.cks_length n
  generalize hm : (Cy.cks n).length = m at p1 p3 hlen ⊢
  have HT1 := Lib.hid (HT.out.below hb1)
  have HTo1 := Lib.hid (HTo.out.below hb1)
  have HP3 := Lib.hid p3
  have hs1 := hb1.size
  have hw1 := Lib.hid hb1
  have HM := Lib.hid hm
  have hm1 : m ≤ 16384 := by omega
  have HL := Lib.hid hlen
  clear p3 hb1 hm hlen
  go_wp2_with fail
  go_loopw [1, 8, 16] (fun a b t wr => ∃ (k : Nat) (A' : Option Addr) (l' cp' : Nat), t = .int .i64 k ∧ a = .int .i64 (at_ + (Cy.at_ n k : Nat)) ∧ b = .slice A' l' cp' ∧ Owns w1.heap.size wr b (cat T k) ∧ k ≤ m ∧ k ≤ i ∧
      Tp wr p A cap i k 0 0 0 0 0 (.slice none 0 0) false ∧ Touch (One p) w1 wr) (fun _ _ t _ => m - (intOf t).toNat)
  case atStart => 
    exact ⟨0, none, 0, 0, rfl, by rw [Cy.at_zero]; simp, rfl, World.ownsRow_nil _ _ _ _, by omega, by omega, HT1.out, Touch.refl _ _⟩
  case round =>
    obtain ⟨k, A', l', cp', rfl, rfl, rfl, hown, hkm, hki, htk, htt⟩ := hrel
    by_cases hlt : k < m
    · have hk8 : 8 * k < n := by have := HL.out; omega
      have hd := Cy.at_here hk8
      have hnx := Cy.at_next hk8
      rw [hd] at hnx ⊢
      have hc0 := Cy.nx_pos (r := n - 8 * k) (by omega)
      have hc1 := Cy.nx_le (n - 8 * k)
      obtain ⟨cb, co, rfl, ⟨hcb, _⟩, hcl, hcell⟩ := HP3.out (by omega)
      have hcp : cb ≠ p := by omega
      have hck := (htt.cell (p := ⟨cb, co + k, none⟩) hcl hcp).trans (hcell k hlt)
      rw [← HM.out] at hlt
      have hgd := Cy.cks_getD n k hk8
      rw [hgd] at hck
      rw [HM.out] at hlt
      generalize hcq : Cy.nx (n - 8 * k) = c at hc0 hc1 hck hnx hgd
      have HCQ := Lib.hid hcq
      have HNX := Lib.hid hnx
      have HK8 := Lib.hid hk8
      have HOW := Lib.hid hown
      have HTK := Lib.hid htk
      have HTT := Lib.hid htt
      have htold := Lib.hid (HTo1.out.one HT1.out (by intro x e; cases e) htt HA.out)
      have hg1 : (k : Int) < m := by omega
      have hk13 : k ≤ 16384 := by omega
      have hq3 : -4611686018427387904 ≤ at_ + ((8 * k : Nat) : Int) := by omega
      have hq4 : at_ + ((8 * k : Nat) : Int) ≤ 4611686018427518976 := by omega
      have hg5 : IntKind.i64.wrap (at_ + ((8 * k : Nat) : Int) + (c : Int)) = at_ + ((8 * k : Nat) : Int) + c := IntWalk.i64_in _ (by omega)
      generalize hqq : at_ + ((8 * k : Nat) : Int) = q at hg5 hq3 hq4 ⊢
      have HQ := Lib.hid hqq
      clear hcell hgd hcq hd hnx hown htk htt hk8 hqq
      by_cases hki2 : k < i
      · have HIS : Hid ((T k).Is wr) := by
          obtain ⟨_, _, _, _, hh⟩ := htold.out (by omega)
          exact (hh k hki2).2.2.2
        have HCL : Hid ((cat T k).length + (T k).bs.length ≤ 1073741824) := by
          have := cat_le T (k := k + 1) (i := i) hki2
          have e : (cat T (k + 1)).length = (cat T k).length + (T k).bs.length := by show (cat T k ++ (T k).bs).length = _; rw [List.length_append]
          show _ ≤ _
          omega
        go_wp2_with fail
        refine (tapeDo_tells HTK.out hki2 hi hcap htold.out HA.out 5 q c 0 0 0 0).mono ?_
        rintro e w2 ⟨rfl, htk2, htt2⟩
        have HS2 := htt2.size
        have HS0 := HTT.out.size
        have hown2 : ∀ q2, (Value.slice A' l' cp').ownBlock = some q2 → ¬ One p q2 := fun q2 hq2 h2 => by
          have := (HOW.out.ge hq2).1
          have : q2 = p := h2
          omega
        have HOW3 := Lib.hid (Owns.alloc (HOW.out.keepTouch htt2 hown2) (.cells #[.int .u64 (T k).V, .bool (T k).D, .slice (T k).A (T k).L (T k).cap] 25))
        have HBS3 := Lib.hid ((BytesAt.one HTK.out (by intro x e; cases e) htt2 HIS.out.bytes).alloc (.cells #[.int .u64 (T k).V, .bool (T k).D, .slice (T k).A (T k).L (T k).cap] 25))
        have HTK3 := Lib.hid (htk2.below ((Below.refl _ _).alloc (Nat.le_refl _) (.cells #[.int .u64 (T k).V, .bool (T k).D, .slice (T k).A (T k).L (T k).cap] 25)))
        have HTT3 := Lib.hid ((HTT.out.trans htt2).alloc (.cells #[.int .u64 (T k).V, .bool (T k).D, .slice (T k).A (T k).L (T k).cap] 25))
        have HOB := Lib.hid hown2
        clear htk2 htt2 hown2
        go_wp2_with (at_builtin; refine wpList_app_any rfl _ _ rfl w1.heap.size (.slice A' l' cp') (.slice (T k).A (T k).L (T k).cap) (cat T k) (T k).bs rfl rfl HOW3.out HBS3.out HCL.out (by simp; omega) ?_; intro v5 w5 happ; obtain ⟨A5, c5, rfl, _⟩ := happ.own.bytes)
        have HAPP := Lib.hid happ
        clear happ
        go_roundw
        case rel =>
          have hap := HAPP.out.own
          rw [List.length_append] at hap
          refine ⟨k + 1, A5, _, c5, by go_num, by rw [HNX.out, ← HQ.out]; congr 1; omega, rfl, hap, by omega, by omega, HTK3.out.of_block (HAPP.out.grown.block p HTK3.out.lt fun e => HOB.out p e.symm rfl), HTT3.out.grown HAPP.out.grown fun q2 hq2 => (HOW3.out.ge hq2).1⟩
        case measure => simp [intOf]; omega
      · obtain rfl : k = i := by omega
        go_wp2_with fail
        refine (tapeDo_wants HTK.out 5 q c 0 0 0 0).mono ?_
        rintro e w2 ⟨rfl, htk2, htt2⟩
        go_wp2
        go_ret2
        have hown2 : ∀ q2, (Value.slice A' l' cp').ownBlock = some q2 → ¬ One p q2 := fun q2 hq2 h2 => by
          have := (HOW.out.ge hq2).1
          have : q2 = p := h2
          omega
        refine ⟨A', l', cp', false, rfl, ((Touch.of_below hw1.out).trans (HTT.out.trans htt2)).alloc _, ?_, .inl ⟨HK8.out, ?_⟩⟩
        · rw [if_pos HK8.out]
          exact Owns.alloc ((HOW.out.keepTouch htt2 hown2).down hs1) _
        · rw [HQ.out, HCQ.out]
          exact htk2.below ((Below.refl _ _).alloc (Nat.le_refl _) _)
    · have hkm2 : k = m := by omega
      have hkn : n ≤ 8 * k := by have := HL.out; omega
      have HKN := Lib.hid hkn
      have hg1 : (m : Int) ≤ k := by omega
      have HTK := Lib.hid htk
      have HTT := Lib.hid htt
      have HOW := Lib.hid hown
      have HKM := Lib.hid hkm2
      clear htk htt hkm2 hkn hown
      go_wp2
      go_ret2
      refine ⟨A', l', cp', true, rfl, (Touch.of_below hw1.out).trans HTT.out, ?_, .inr ⟨by have := HKN.out; omega, k, HTK.out⟩⟩
      have hk1 := HKN.out
      have hk2 := HKM.out
      have hk3 := HL.out
      have e : (if 8 * i < n then i else (n + 7) / 8) = k := by
        by_cases h8 : 8 * i < n
        · rw [if_pos h8]; omega
        · rw [if_neg h8]; omega
      rw [e]
      exact HOW.out.down hs1
end Go.Proofs.YtikcnioooihncaaGreat
namespace Go.Proofs.YtikcnioooihncaaGreat
open Go.RowKit

set_option maxRecDepth 100000 in
set_option maxHeartbeats 1000000 in
theorem tapeZero_from {w : World} {p cap i j0 : Nat} {A : Option Addr} (h : Tp w p A cap i j0 0 0 0 0 0 (.slice none 0 0) false) (hj0 : j0 ≤ i) (hi : i ≤ cap) (hcap : cap ≤ 9223372036854775807) {T : Nat → Ans} (hT : ToldAt w A i T) (hA : 0 < i → ∀ a, A = some a → a.block ≠ p)
    (at_ : Int) (hat0 : -4611686018427387904 ≤ at_) (hat1 : at_ ≤ 4611686018427387904) (n : Int) :
    Calls Tryz.prog 64 #[.pointer (some ⟨p, 0, none⟩), .int .i64 at_, .int .i64 n] w (SaidFrom p A cap i j0 at_ (fun _ => 0) (Cy.few n) w) := by
  by_cases hr : n < 1 ∨ 131072 < n
  · have hf := few_no hr
    rw [hf]
    have HT := Lib.hid h
    clear h hf
    rcases hr with hr | hr
    · go_enter Tryz.func64, Tryz.ntmps64
      go_wp2
      go_ret
      exact ⟨true, rfl, Touch.refl _ _, .inr ⟨Nat.zero_le _, rfl, HT.out⟩⟩
    · have hr2 : 1 ≤ n := by omega
      go_enter Tryz.func64, Tryz.ntmps64
      go_wp2
      go_ret
      exact ⟨true, rfl, Touch.refl _ _, .inr ⟨Nat.zero_le _, rfl, HT.out⟩⟩
  · have h1 : 1 ≤ n := by omega
    have h2 : n ≤ 131072 := by omega
    obtain ⟨k, rfl⟩ := Int.eq_ofNat_of_zero_le (by omega : 0 ≤ n)
    rw [Cy.few_nat (by omega)]
    have HW := (Below.refl w.heap.size w).alloc (Nat.le_refl _) (.cells (madeCells #[.int .u8 0] k) 5)
    have hmk := make_bytes k (by omega)
    have HC := Lib.hid (tapeIn_from (h.below HW) hj0 hi hcap (hT.below HW) hA at_ hat0 hat1 (some ⟨w.heap.size, 0, none⟩) k k (fun _ => 0) (zeros_made w k (by omega)).bytes (by omega) (Nat.le_refl _) (by omega))
    have HZ := Lib.hid (zeros_len k)
    clear h hT hA hr
    go_enter Tryz.func64, Tryz.ntmps64
    go_wp2_with fail
    refine HC.out.mono ?_
    rintro e w2 ⟨b, rfl, ht, hrest⟩
    have HR := Lib.hid hrest
    clear hrest
    go_wp2
    go_ret
    exact ⟨b, rfl, (Touch.of_below HW).trans ht, HR.out⟩

/-- What a tape that was told i answers, j0 of them taken, says of n bytes that are read at 'at': what was read so far, and the access that is wanted next, or that all was told. -/
def SaidOutFrom (p : Nat) (A : Option Addr) (cap i j0 : Nat) (T : Nat → Ans) (at_ : Int) (n : Nat) (w : World) (e : Ending) (w' : World) : Prop :=
  ∃ B l c b, e = .returned (.tuple #[.slice B l c, .bool b]) ∧ Touch (One p) w w' ∧
    ((8 * (i - j0) < n ∧ b = false ∧ Tp w' p A cap i i 5 (at_ + (8 * (i - j0) : Nat)) (Cy.nx (n - 8 * (i - j0)) : Nat) 0 0 (.slice none 0 0) true) ∨
     (n ≤ 8 * (i - j0) ∧ b = true ∧ Tp w' p A cap i (j0 + (n + 7) / 8) 0 0 0 0 0 (.slice none 0 0) false ∧ Owns w.heap.size w' (.slice B l c) (cat (fun k => T (j0 + k)) ((n + 7) / 8))))

set_option maxRecDepth 100000 in
set_option maxHeartbeats 2000000 in
theorem tapeOut_from {w : World} {p cap i j0 : Nat} {A : Option Addr} (h : Tp w p A cap i j0 0 0 0 0 0 (.slice none 0 0) false) (hj0 : j0 ≤ i) (hi : i ≤ cap) (hcap : cap ≤ 9223372036854775807) {T : Nat → Ans} (hT : ToldAt w A i T) (hA : 0 < i → ∀ a, A = some a → a.block ≠ p)
    (hcat : (cat (fun k => T (j0 + k)) (i - j0)).length ≤ 1073741824) (at_ : Int) (hat0 : -4611686018427387904 ≤ at_) (hat1 : at_ ≤ 4611686018427387904) (ni : Int) :
    Calls Tryz.prog 63 #[.pointer (some ⟨p, 0, none⟩), .int .i64 at_, .int .i64 ni] w (SaidOutFrom p A cap i j0 T at_ (Cy.few ni) w) := by
  have hlt := h.lt
  have HT := Lib.hid h
  have HTo := Lib.hid hT
  have HA := Lib.hid hA
  have hn := Cy.few_le ni
  have hch := refChunks_parts ni w
  generalize Cy.few ni = n at hn hch ⊢
  have HCH := Lib.hid hch
  clear h hT hA hch
  go_enter Tryz.func63, Tryz.ntmps63
  go_wp2_with fail
  refine HCH.out.mono ?_
  rintro e w1 ⟨v1, rfl, ⟨A1, c1, rfl, p1, p2, p3⟩, hb1⟩
  have hlen := Cy.cks_length n
  generalize hm : (Cy.cks n).length = m at p1 p3 hlen ⊢
  have HT1 := Lib.hid (HT.out.below hb1)
  have HTo1 := Lib.hid (HTo.out.below hb1)
  have HP3 := Lib.hid p3
  have hs1 := hb1.size
  have hw1 := Lib.hid hb1
  have HM := Lib.hid hm
  have hm1 : m ≤ 16384 := by omega
  have HL := Lib.hid hlen
  clear p3 hb1 hm hlen
  go_wp2_with fail
  go_loopw [1, 8, 16] (fun a b t wr => ∃ (k : Nat) (A' : Option Addr) (l' cp' : Nat), t = .int .i64 k ∧ a = .int .i64 (at_ + (Cy.at_ n k : Nat)) ∧ b = .slice A' l' cp' ∧ Owns w1.heap.size wr b (cat (fun k => T (j0 + k)) k) ∧ k ≤ m ∧ j0 + k ≤ i ∧
      Tp wr p A cap i (j0 + k) 0 0 0 0 0 (.slice none 0 0) false ∧ Touch (One p) w1 wr) (fun _ _ t _ => m - (intOf t).toNat)
  case atStart => 
    exact ⟨0, none, 0, 0, rfl, by rw [Cy.at_zero]; simp, rfl, World.ownsRow_nil _ _ _ _, by omega, by omega, HT1.out, Touch.refl _ _⟩
  case round =>
    obtain ⟨k, A', l', cp', rfl, rfl, rfl, hown, hkm, hki, htk, htt⟩ := hrel
    by_cases hlt : k < m
    · have hk8 : 8 * k < n := by have := HL.out; omega
      have hd := Cy.at_here hk8
      have hnx := Cy.at_next hk8
      rw [hd] at hnx ⊢
      have hc0 := Cy.nx_pos (r := n - 8 * k) (by omega)
      have hc1 := Cy.nx_le (n - 8 * k)
      obtain ⟨cb, co, rfl, ⟨hcb, _⟩, hcl, hcell⟩ := HP3.out (by omega)
      have hcp : cb ≠ p := by omega
      have hck := (htt.cell (p := ⟨cb, co + k, none⟩) hcl hcp).trans (hcell k hlt)
      rw [← HM.out] at hlt
      have hgd := Cy.cks_getD n k hk8
      rw [hgd] at hck
      rw [HM.out] at hlt
      generalize hcq : Cy.nx (n - 8 * k) = c at hc0 hc1 hck hnx hgd
      have HCQ := Lib.hid hcq
      have HNX := Lib.hid hnx
      have HK8 := Lib.hid hk8
      have HOW := Lib.hid hown
      have HTK := Lib.hid htk
      have HTT := Lib.hid htt
      have htold := Lib.hid (HTo1.out.one HT1.out (by intro x e; cases e) htt HA.out)
      have hg1 : (k : Int) < m := by omega
      have hk13 : k ≤ 16384 := by omega
      have hq3 : -4611686018427387904 ≤ at_ + ((8 * k : Nat) : Int) := by omega
      have hq4 : at_ + ((8 * k : Nat) : Int) ≤ 4611686018427518976 := by omega
      have hg5 : IntKind.i64.wrap (at_ + ((8 * k : Nat) : Int) + (c : Int)) = at_ + ((8 * k : Nat) : Int) + c := IntWalk.i64_in _ (by omega)
      generalize hqq : at_ + ((8 * k : Nat) : Int) = q at hg5 hq3 hq4 ⊢
      have HQ := Lib.hid hqq
      clear hcell hgd hcq hd hnx hown htk htt hk8 hqq
      by_cases hki2 : j0 + k < i
      · have HIS : Hid ((T (j0 + k)).Is wr) := by
          obtain ⟨_, _, _, _, hh⟩ := htold.out (by omega)
          exact (hh (j0 + k) hki2).2.2.2
        have HCL : Hid ((cat (fun k => T (j0 + k)) k).length + (T (j0 + k)).bs.length ≤ 1073741824) := by
          have := cat_le (fun k => T (j0 + k)) (k := k + 1) (i := i - j0) (by omega)
          have e : (cat (fun k => T (j0 + k)) (k + 1)).length = (cat (fun k => T (j0 + k)) k).length + (T (j0 + k)).bs.length := by show (cat (fun k => T (j0 + k)) k ++ (T (j0 + k)).bs).length = _; rw [List.length_append]
          show _ ≤ _
          omega
        go_wp2_with fail
        refine (tapeDo_tells HTK.out hki2 hi hcap htold.out HA.out 5 q c 0 0 0 0).mono ?_
        rintro e w2 ⟨rfl, htk2, htt2⟩
        have HS2 := htt2.size
        have HS0 := HTT.out.size
        have hown2 : ∀ q2, (Value.slice A' l' cp').ownBlock = some q2 → ¬ One p q2 := fun q2 hq2 h2 => by
          have := (HOW.out.ge hq2).1
          have : q2 = p := h2
          omega
        have HOW3 := Lib.hid (Owns.alloc (HOW.out.keepTouch htt2 hown2) (.cells #[.int .u64 (T (j0 + k)).V, .bool (T (j0 + k)).D, .slice (T (j0 + k)).A (T (j0 + k)).L (T (j0 + k)).cap] 25))
        have HBS3 := Lib.hid ((BytesAt.one HTK.out (by intro x e; cases e) htt2 HIS.out.bytes).alloc (.cells #[.int .u64 (T (j0 + k)).V, .bool (T (j0 + k)).D, .slice (T (j0 + k)).A (T (j0 + k)).L (T (j0 + k)).cap] 25))
        have HTK3 := Lib.hid (htk2.below ((Below.refl _ _).alloc (Nat.le_refl _) (.cells #[.int .u64 (T (j0 + k)).V, .bool (T (j0 + k)).D, .slice (T (j0 + k)).A (T (j0 + k)).L (T (j0 + k)).cap] 25)))
        have HTT3 := Lib.hid ((HTT.out.trans htt2).alloc (.cells #[.int .u64 (T (j0 + k)).V, .bool (T (j0 + k)).D, .slice (T (j0 + k)).A (T (j0 + k)).L (T (j0 + k)).cap] 25))
        have HOB := Lib.hid hown2
        clear htk2 htt2 hown2
        go_wp2_with (at_builtin; refine wpList_app_any rfl _ _ rfl w1.heap.size (.slice A' l' cp') (.slice (T (j0 + k)).A (T (j0 + k)).L (T (j0 + k)).cap) (cat (fun k => T (j0 + k)) k) (T (j0 + k)).bs rfl rfl HOW3.out HBS3.out HCL.out (by simp; omega) ?_; intro v5 w5 happ; obtain ⟨A5, c5, rfl, _⟩ := happ.own.bytes)
        have HAPP := Lib.hid happ
        clear happ
        go_roundw
        case rel =>
          have hap := HAPP.out.own
          rw [List.length_append] at hap
          refine ⟨k + 1, A5, _, c5, by go_num, by rw [HNX.out, ← HQ.out]; congr 1; omega, rfl, ?_, by omega, by omega, HTK3.out.of_block (HAPP.out.grown.block p HTK3.out.lt fun e => HOB.out p e.symm rfl), HTT3.out.grown HAPP.out.grown fun q2 hq2 => (HOW3.out.ge hq2).1⟩
          exact hap
        case measure => simp [intOf]; omega
      · obtain rfl : i = j0 + k := by omega
        go_wp2_with fail
        refine (tapeDo_wants HTK.out 5 q c 0 0 0 0).mono ?_
        rintro e w2 ⟨rfl, htk2, htt2⟩
        go_wp2
        go_ret2
        refine ⟨A', l', cp', false, rfl, ((Touch.of_below hw1.out).trans (HTT.out.trans htt2)).alloc _, .inl ⟨by rw [show j0 + k - j0 = k by omega]; exact HK8.out, rfl, ?_⟩⟩
        rw [show j0 + k - j0 = k by omega, HQ.out, HCQ.out]
        exact htk2.below ((Below.refl _ _).alloc (Nat.le_refl _) _)
    · have hkm2 : k = m := by omega
      have hkn : n ≤ 8 * k := by have := HL.out; omega
      have HKN := Lib.hid hkn
      have hg1 : (m : Int) ≤ k := by omega
      have HTK := Lib.hid htk
      have HTT := Lib.hid htt
      have HOW := Lib.hid hown
      have HKM := Lib.hid hkm2
      clear htk htt hkm2 hkn hown
      go_wp2
      go_ret2
      have hk1 := HKN.out
      have hk2 := HKM.out
      have hk3 := HL.out
      have e : (n + 7) / 8 = k := by omega
      refine ⟨A', l', cp', true, rfl, (Touch.of_below hw1.out).trans HTT.out, .inr ⟨by omega, rfl, ?_, ?_⟩⟩
      · rw [e]
        exact HTK.out
      · rw [e]
        exact HOW.out.down hs1
end Go.Proofs.YtikcnioooihncaaGreat
namespace Go.Proofs.YtikcnioooihncaaGreat
open Go.RowKit

/-- A get behind the first j answers. -/
def Gm.at (m : Gm) (T : Nat → Ans) : Nat → Gm
  | 0 => m
  | j + 1 => (m.at T j).take (T j).an

theorem Gm.at_succ {m : Gm} {T : Nat → Ans} {j : Nat} {s : Gs} (h : m.at T j = .live s) : m.at T (j + 1) = .live (s.take (T j).an) := by
  show (m.at T j).take (T j).an = _
  rw [h]
  rfl
theorem Gm.at_end {m : Gm} {T : Nat → Ans} {j i : Nat} {s : Gs} (h : m.at T j = .live s) (hf : s.ph = .fin) (hj : j ≤ i) : m.at T i = .live s := by
  obtain ⟨n, rfl⟩ : ∃ n, i = j + n := ⟨i - j, by omega⟩
  clear hj
  induction n with
  | zero => exact h
  | succ n ih =>
    have := Gm.at_succ ih
    rw [show s.take (T (j + n)).an = s by unfold Gs.take; rw [hf]] at this
    exact this
theorem Gm.at_dead {m : Gm} {T : Nat → Ans} (h : m = .dead) : ∀ n, m.at T n = .dead := by
  intro n
  induction n with
  | zero => exact h
  | succ n ih =>
    show (m.at T n).take (T n).an = _
    rw [ih]
    rfl

theorem nx_eight {r : Nat} (h : 8 < r) : Cy.nx r = 8 := by unfold Cy.nx; rw [if_neg (by omega)]
theorem nx_all {r : Nat} (h : r ≤ 8) : Cy.nx r = r := by unfold Cy.nx; rw [if_pos h]

/-- The bytes of a message, part by part. -/
theorem Gm.at_reads {m : Gm} {T : Nat → Ans} {j : Nat} {s : Gs} {typ : Int} {sz n : Nat} (h : m.at T j = .live { s with ph := .read typ sz n 0 [] }) : ∀ k, 8 * k < n → m.at T (j + k) = .live { s with ph := .read typ sz n (8 * k) (cat (fun q => T (j + q)) k) } := by
  intro k
  induction k with
  | zero => intro _; exact h
  | succ k ih =>
    intro hk
    have h1 := ih (by omega)
    have h2 := Gm.at_succ h1
    have hn : Cy.nx (n - 8 * k) = 8 := nx_eight (by omega)
    rw [show ({ s with ph := .read typ sz n (8 * k) (cat (fun q => T (j + q)) k) } : Gs).take (T (j + k)).an = { s with ph := .read typ sz n (8 * (k + 1)) (cat (fun q => T (j + q)) (k + 1)) } by
      unfold Gs.take
      simp only [hn]
      rw [if_neg (by omega)]
      rfl] at h2
    exact h2
theorem Gm.at_got {m : Gm} {T : Nat → Ans} {j : Nat} {s : Gs} {typ : Int} {sz n : Nat} (h : m.at T j = .live { s with ph := .read typ sz n 0 [] }) (hn : 0 < n) : m.at T (j + (n + 7) / 8) = .live (s.got typ sz (cat (fun q => T (j + q)) ((n + 7) / 8))) := by
  obtain ⟨k, hk⟩ : ∃ k, (n + 7) / 8 = k + 1 := ⟨(n + 7) / 8 - 1, by omega⟩
  have h1 := Gm.at_reads h k (by omega)
  have h2 := Gm.at_succ h1
  have hx : Cy.nx (n - 8 * k) = n - 8 * k := nx_all (by omega)
  rw [show ({ s with ph := .read typ sz n (8 * k) (cat (fun q => T (j + q)) k) } : Gs).take (T (j + k)).an = s.got typ sz (cat (fun q => T (j + q)) (k + 1)) by
    unfold Gs.take
    simp only [hx]
    rw [if_pos (by omega)]
    rfl] at h2
  rw [hk]
  exact h2
/-- The zeros, part by part. -/
theorem Gm.at_zeros {m : Gm} {T : Nat → Ans} {j : Nat} {s : Gs} (h : m.at T j = .live { s with ph := .zero 0 }) : ∀ k, 8 * k < s.dn → m.at T (j + k) = .live { s with ph := .zero (8 * k) } := by
  intro k
  induction k with
  | zero => intro _; exact h
  | succ k ih =>
    intro hk
    have h1 := ih (by omega)
    have h2 := Gm.at_succ h1
    have hn : Cy.nx (s.dn - 8 * k) = 8 := nx_eight (by omega)
    rw [show ({ s with ph := .zero (8 * k) } : Gs).take (T (j + k)).an = { s with ph := .zero (8 * (k + 1)) } by
      unfold Gs.take
      simp only [hn]
      rw [if_neg (by omega)]
      rfl] at h2
    exact h2
theorem Gm.at_set {m : Gm} {T : Nat → Ans} {j : Nat} {s : Gs} (h : m.at T j = .live { s with ph := .zero 0 }) (hn : 0 < s.dn) : m.at T (j + (s.dn + 7) / 8) = .live { s with ph := .set } := by
  obtain ⟨k, hk⟩ : ∃ k, (s.dn + 7) / 8 = k + 1 := ⟨(s.dn + 7) / 8 - 1, by omega⟩
  have h1 := Gm.at_zeros h k (by omega)
  have h2 := Gm.at_succ h1
  have hx : Cy.nx (s.dn - 8 * k) = s.dn - 8 * k := nx_all (by omega)
  rw [show ({ s with ph := .zero (8 * k) } : Gs).take (T (j + k)).an = { s with ph := .set } by
    unfold Gs.take
    simp only [hx]
    rw [if_pos (by omega)]] at h2
  rw [hk]
  exact h2

/-- What the document's get on a tape that was told i answers is to say of the get m; and what the tape wants. -/
def GetSays (p : Nat) (A : Option Addr) (cap i : Nat) (m : Gm) (w : World) (e : Ending) (w' : World) : Prop :=
  ∃ v, e = .returned (.tuple #[v, .int .i64 m.result.1, .int .i64 m.result.2]) ∧ MgsAt (fun k => w.heap.size ≤ k) w' v m.told ∧ Touch (One p) w w' ∧
    ∃ a B l c j, Tp w' p A cap i j a.K a.P a.N (a.V : Int) (a.U : Int) (.slice B l c) m.busy ∧ BytesAt w' (.slice B l c) a.bs ∧ a = m.next.getD Ac.zero

theorem getSays_wants {p cap i : Nat} {A : Option Addr} {m : Gm} {s : Gs} {a : Ac} {v : Value} {w w' : World} (hm : m = .live s) (hn : s.next = some a) (hz : s.Z ≠ 0) (hv : MgsAt (fun k => w.heap.size ≤ k) w' v s.ms) (ht : Touch (One p) w w') (htp : TpWant w' p A cap i a) :
    GetSays p A cap i m w (.returned (.tuple #[v, .int .i64 0, .int .i64 10])) w' := by
  subst hm
  obtain ⟨B, l, c, htp, hb⟩ := htp
  have hbusy : (Gm.live s).busy = true := by show s.next.isSome = true; rw [hn]; rfl
  have hres : (Gm.live s).result = (0, 10) := by unfold Gm.result; rw [if_neg (by show ¬ (s.Z : Int) = 0; omega), if_pos hbusy]
  refine ⟨v, by rw [hres], hv, ht, a, B, l, c, i, by rw [hbusy]; exact htp, hb, ?_⟩
  show a = s.next.getD Ac.zero
  rw [hn]
  rfl

theorem getSays_end {p cap i j : Nat} {A : Option Addr} {m : Gm} {s : Gs} {v : Value} {w w' : World} {n e : Int} (hm : m = .live s) (hn : s.ph = .fin) (hz : s.Z ≠ 0) (hr : n = (if s.er = 0 then (s.dn : Int) else 0) ∧ e = s.er) (hv : MgsAt (fun k => w.heap.size ≤ k) w' v s.ms) (ht : Touch (One p) w w') (htp : TpOpen w' p A cap i j) :
    GetSays p A cap i m w (.returned (.tuple #[v, .int .i64 n, .int .i64 e])) w' := by
  subst hm
  have hnx : s.next = none := by unfold Gs.next; rw [hn]
  have hbusy : (Gm.live s).busy = false := by show s.next.isSome = false; rw [hnx]; rfl
  have hres : (Gm.live s).result = (n, e) := by
    unfold Gm.result
    rw [if_neg (by show ¬ (s.Z : Int) = 0; omega), if_neg (by rw [hbusy]; decide)]
    show (if s.er = 0 then ((s.dn : Int), (0 : Int)) else (0, s.er)) = _
    rw [hr.1, hr.2]
    split
    · rename_i h; rw [h]
    · rfl
  refine ⟨v, by rw [hres], hv, ht, Ac.zero, none, 0, 0, j, by rw [hbusy]; exact htp, BytesAt.nil _, ?_⟩
  show Ac.zero = s.next.getD Ac.zero
  rw [hnx]
  rfl
end Go.Proofs.YtikcnioooihncaaGreat
namespace Go.Proofs.YtikcnioooihncaaGreat
open Go.RowKit

theorem Gs.drain_ms (s : Gs) : s.drain.ms = s.ms := by unfold Gs.drain; split <;> rfl
theorem Gs.looks_ms (s : Gs) : s.looks.ms = s.ms := by
  unfold Gs.looks
  split
  · exact s.drain_ms
  · rfl
theorem Gs.pass_ms (s : Gs) (sz : Nat) : (s.pass sz).ms = s.ms := Gs.looks_ms _
theorem Gs.got_ms (s : Gs) (typ : Int) (sz : Nat) (ys : List Int) : (s.got typ sz ys).ms = s.ms ++ [(typ, ys)] := Gs.pass_ms _ _

/-- No message, and nothing that is being read, is longer than N. -/
def Gs.Few (s : Gs) (N : Nat) : Prop := (∀ t ∈ s.ms, t.2.length ≤ N) ∧ ∀ typ sz n d ys, s.ph = .read typ sz n d ys → ys.length ≤ N
def Gm.Few : Gm → Nat → Prop
  | .live s, N => s.Few N
  | .dead, _ => True

theorem Gs.Few.fresh {s s' : Gs} {N M : Nat} (h : s.Few N) (hM : N ≤ M) (hm : s'.ms = s.ms) (hf : s'.ph.Fresh) : s'.Few M :=
  ⟨fun t ht => Nat.le_trans (h.1 t (hm ▸ ht)) hM, fun typ sz n d ys e => by rw [hf typ sz n d ys e]; exact Nat.zero_le _⟩
theorem Gs.Few.more {s s' : Gs} {N M : Nat} {typ : Int} {ys : List Int} (h : s.Few N) (hM : N ≤ M) (hy : ys.length ≤ M) (hm : s'.ms = s.ms ++ [(typ, ys)]) (hf : s'.ph.Fresh) : s'.Few M := by
  refine ⟨fun t ht => ?_, fun typ sz n d ys e => by rw [hf typ sz n d ys e]; exact Nat.zero_le _⟩
  rw [hm] at ht
  rcases List.mem_append.1 ht with h1 | h1
  · exact Nat.le_trans (h.1 t h1) hM
  · obtain rfl : t = (typ, ys) := by simpa using h1
    exact hy

theorem Gs.Few.take {s : Gs} {N c : Nat} (h : s.Few N) {x : An} (hx : x.bs.length ≤ c) : (s.take x).Few (N + c) := by
  have hN : N ≤ N + c := Nat.le_add_right _ _
  unfold Gs.take
  cases hph : s.ph with
  | head => exact h.fresh hN (Gs.looks_ms _) (Gs.looks_fresh _)
  | look =>
    show (s.tell (Hd.s32 x.V) (Hd.s32 (x.V / 4294967296))).Few (N + c)
    have hf := Gs.tell_fresh s (Hd.s32 x.V) (Hd.s32 (x.V / 4294967296))
    generalize Hd.s32 x.V = l at hf ⊢
    generalize Hd.s32 (x.V / 4294967296) = typ at hf ⊢
    have hm : (s.tell l typ).ms = s.ms ∨ (s.tell l typ).ms = s.ms ++ [(typ, [])] := by
      unfold Gs.tell
      split
      · exact .inl (Gs.drain_ms _)
      · split
        · exact .inl (Gs.drain_ms _)
        · split
          · exact .inl (Gs.pass_ms _ _)
          · split
            · exact .inr (Gs.got_ms _ _ _ _)
            · exact .inl rfl
    rcases hm with hm | hm
    · exact h.fresh hN hm hf
    · exact h.more hN (Nat.zero_le _) hm hf
  | read typ sz n d ys =>
    have hy := h.2 typ sz n d ys hph
    by_cases hq : d + Cy.nx (n - d) = n
    · simp only [if_pos hq]
      exact h.more hN (by rw [List.length_append]; omega) (Gs.got_ms _ _ _ _) (Gs.looks_fresh _)
    · simp only [if_neg hq]
      refine ⟨fun t ht => Nat.le_trans (h.1 t ht) hN, fun typ' sz' n' d' ys' e => ?_⟩
      injection e with _ _ _ _ e
      subst e
      rw [List.length_append]
      omega
  | zero d =>
    by_cases hq : d + Cy.nx (s.dn - d) = s.dn
    · simp only [if_pos hq]
      exact ⟨fun t ht => Nat.le_trans (h.1 t ht) hN, fun _ _ _ _ _ e => by cases e⟩
    · simp only [if_neg hq]
      exact ⟨fun t ht => Nat.le_trans (h.1 t ht) hN, fun _ _ _ _ _ e => by cases e⟩
  | set => exact ⟨fun t ht => Nat.le_trans (h.1 t ht) hN, fun _ _ _ _ _ e => by cases e⟩
  | fin => exact ⟨fun t ht => Nat.le_trans (h.1 t ht) hN, fun _ _ _ _ _ e => by rw [hph] at e; cases e⟩

theorem Gm.Few.take {m : Gm} {N c : Nat} (h : m.Few N) {x : An} (hx : x.bs.length ≤ c) : (m.take x).Few (N + c) := by
  cases m with
  | live s => exact Gs.Few.take h hx
  | dead => trivial
theorem Gm.new_few (B Z most : Int) : (Gm.new B Z most).Few 0 := by
  unfold Gm.new
  split
  · exact ⟨fun t ht => (by cases ht), fun _ _ _ _ _ e => (by cases e)⟩
  · trivial
theorem Gm.at_few {m : Gm} (hm : m.Few 0) {T : Nat → Ans} {c : Nat} : ∀ i, (∀ j, j < i → (T j).bs.length ≤ c) → (m.at T i).Few (i * c) := by
  intro i
  induction i with
  | zero => intro _; rw [Nat.zero_mul]; exact hm
  | succ i ih =>
    intro h
    have := (ih fun j hj => h j (by omega)).take (x := (T i).an) (h i (by omega))
    rw [show (i + 1) * c = i * c + c by rw [Nat.succ_mul]]
    exact this
theorem Gm.Few.fits {m : Gm} {N n : Nat} (h : m.Few N) (hn : N + n ≤ 1073741824) : m.Fits n := by
  cases m with
  | live s => exact fun typ sz m d ys e => by have := h.2 typ sz m d ys e; omega
  | dead => trivial
theorem Gm.Few.told {m : Gm} {N : Nat} (h : m.Few N) (hn : N ≤ 1073741824) : ∀ t ∈ m.told, t.2.length ≤ 1073741824 := by
  cases m with
  | live s => exact fun t ht => Nat.le_trans (h.1 t ht) hn
  | dead => exact fun t ht => by cases ht
end Go.Proofs.YtikcnioooihncaaGreat
namespace Go.Proofs.YtikcnioooihncaaGreat
open Go.RowKit

/-- A put behind the first j answers. -/
def Pm.at (m : Pm) (T : Nat → Ans) : Nat → Pm
  | 0 => m
  | j + 1 => (m.at T j).take (T j).an

theorem Pm.at_succ {m : Pm} {T : Nat → Ans} {j : Nat} {s : Rs} (h : m.at T j = .live s) : m.at T (j + 1) = .live (s.take (T j).an) := by
  show (m.at T j).take (T j).an = _
  rw [h]
  rfl

theorem Pm.at_end {m : Pm} {T : Nat → Ans} {j : Nat} {s : Rs} (h : m.at T j = .live s) (hf : s.ph = .fin) : ∀ n, m.at T (j + n) = .live s := by
  intro n
  induction n with
  | zero => exact h
  | succ n ih =>
    have := Pm.at_succ ih
    rw [show s.take (T (j + n)).an = s by unfold Rs.take; rw [hf]] at this
    exact this

theorem Pm.at_dead {m : Pm} {T : Nat → Ans} {Z er : Int} (h : m = .dead Z er) : ∀ n, m.at T n = .dead Z er := by
  intro n
  induction n with
  | zero => exact h
  | succ n ih =>
    show (m.at T n).take (T n).an = _
    rw [ih]
    rfl

theorem Pm.at_byt {m : Pm} {T : Nat → Ans} {j : Nat} {s : Rs} (h : m.at T j = .live s) (hp : s.ph = .hdr) : ∀ k, 8 * k < s.L → m.at T (j + 1 + k) = .live { s with ph := .byt (8 * k) } := by
  intro k
  induction k with
  | zero =>
    intro hk
    have := Pm.at_succ h
    rw [show s.take (T j).an = { s with ph := .byt 0 } by unfold Rs.take; rw [hp]; simp only; rw [if_neg (by omega)]] at this
    exact this
  | succ k ih =>
    intro hk
    have h1 := ih (by omega)
    have h2 := Pm.at_succ h1
    have hn : Cy.nx (s.L - 8 * k) = 8 := by unfold Cy.nx; split <;> omega
    rw [show ({ s with ph := .byt (8 * k) } : Rs).take (T (j + 1 + k)).an = { s with ph := .byt (8 * (k + 1)) } by
      unfold Rs.take
      simp only [hn]
      rw [if_neg (by omega)]
      rfl] at h2
    exact h2

theorem Pm.at_len {m : Pm} {T : Nat → Ans} {j : Nat} {s : Rs} (h : m.at T j = .live s) (hp : s.ph = .hdr) : m.at T (j + 1 + (s.L + 7) / 8) = .live { s with ph := .len } := by
  by_cases hz : s.L = 0
  · have := Pm.at_succ h
    rw [show s.take (T j).an = { s with ph := .len } by unfold Rs.take; rw [hp]; simp only; rw [if_pos hz]] at this
    rw [show (s.L + 7) / 8 = 0 by omega]
    exact this
  · obtain ⟨k, hk⟩ : ∃ k, (s.L + 7) / 8 = k + 1 := ⟨(s.L + 7) / 8 - 1, by omega⟩
    have h1 := Pm.at_byt h hp k (by omega)
    have h2 := Pm.at_succ h1
    have hn : Cy.nx (s.L - 8 * k) = s.L - 8 * k := by unfold Cy.nx; split <;> omega
    rw [show ({ s with ph := .byt (8 * k) } : Rs).take (T (j + 1 + k)).an = { s with ph := .len } by
      unfold Rs.take
      simp only [hn]
      rw [if_pos (by omega)]] at h2
    rw [hk]
    exact h2

/-- What the document's put on a tape that was told i answers is to say of the put m: its position, whether it has one, how it ended; and what the tape wants. -/
def PutSays (p : Nat) (A : Option Addr) (cap i : Nat) (m : Pm) (w : World) (e : Ending) (w' : World) : Prop :=
  ∃ pos hs er, e = .returned (.tuple #[.int .i64 pos, .bool hs, .int .i64 er]) ∧ Touch (One p) w w' ∧ hs = m.has ∧ er = m.result.2 ∧ (er = 0 → pos = m.pos) ∧
    ∃ a B l c j, Tp w' p A cap i j a.K a.P a.N (a.V : Int) (a.U : Int) (.slice B l c) m.busy ∧ BytesAt w' (.slice B l c) a.bs ∧ a = m.next.getD Ac.zero

/-- A put that wants its next access. -/
theorem putSays_wants {p cap i : Nat} {A : Option Addr} {m : Pm} {s : Rs} {a : Ac} {w w' : World} {pos : Int} {B : Option Addr} {l c : Nat} (hm : m = .live s) (hn : s.next = some a) (hz : s.Z ≠ 0) (ht : Touch (One p) w w') (htp : Tp w' p A cap i i a.K a.P a.N (a.V : Int) (a.U : Int) (.slice B l c) true) (hb : BytesAt w' (.slice B l c) a.bs) :
    PutSays p A cap i m w (.returned (.tuple #[.int .i64 pos, .bool s.cl, .int .i64 10])) w' := by
  subst hm
  have hbusy : (Pm.live s).busy = true := by show s.next.isSome = true; rw [hn]; rfl
  refine ⟨pos, s.cl, 10, rfl, ht, rfl, ?_, fun h => absurd h (by decide), a, B, l, c, i, by rw [hbusy]; exact htp, hb, ?_⟩
  · unfold Pm.result
    rw [if_neg (by show ¬ (s.Z : Int) = 0; omega), if_pos hbusy]
  · show a = s.next.getD Ac.zero
    rw [hn]
    rfl

/-- A put at its end. -/
theorem putSays_end {p cap i j : Nat} {A : Option Addr} {m : Pm} {s : Rs} {w w' : World} {pos : Int} (hm : m = .live s) (hn : s.ph = .fin) (hz : s.Z ≠ 0) (hpos : s.er = 0 → pos = s.p) (ht : Touch (One p) w w') (htp : Tp w' p A cap i j 0 0 0 0 0 (.slice none 0 0) false) :
    PutSays p A cap i m w (.returned (.tuple #[.int .i64 pos, .bool s.cl, .int .i64 s.er])) w' := by
  subst hm
  have hnx : s.next = none := by unfold Rs.next; rw [hn]
  have hbusy : (Pm.live s).busy = false := by show s.next.isSome = false; rw [hnx]; rfl
  refine ⟨pos, s.cl, s.er, rfl, ht, rfl, ?_, hpos, Ac.zero, none, 0, 0, j, by rw [hbusy]; exact htp, BytesAt.nil _, ?_⟩
  · unfold Pm.result
    rw [if_neg (by show ¬ (s.Z : Int) = 0; omega), if_neg (by rw [hbusy]; decide)]
    show s.er = (if s.er = 0 then ((Pm.live s).pos, (0 : Int)) else (0, s.er)).2
    split
    · assumption
    · rfl
  · show Ac.zero = s.next.getD Ac.zero
    rw [hnx]
    rfl
end Go.Proofs.YtikcnioooihncaaGreat
namespace Go.Proofs.YtikcnioooihncaaGreat
open Go.RowKit

theorem pow_next (j : Nat) (x : Int) (h : j < 63 → x = 2 ^ j) (h' : j + 1 < 63) : wrap64 (x * 2) = 2 ^ (j + 1) := by
  have hb := Wd.pow_bounds (j + 1) h'
  rw [h (by omega), ← Int.pow_succ]
  show wrap64 ((2 : Int) ^ (j + 1)) = _
  unfold wrap64
  omega

set_option maxHeartbeats 400000 in
theorem refLog2_any (n : Int) (w : World) :
    Calls Tryz.prog 85 #[.int .i64 n] w fun e w' => e = .returned (.tuple #[.int .i64 (Wd.lg n), .bool (Wd.isP n)]) ∧ w = w' := by
  go_enter Tryz.func85, Tryz.ntmps85
  go_wp2
  go_loop [4, 5] (fun v k => ∃ (j : Nat) (x : Int), j ≤ 63 ∧ k = .int .i64 j ∧ v = .int .i64 x ∧ (j < 63 → x = 2 ^ j) ∧ ∀ i, i < j → n ≠ 2 ^ i) (fun _ k => 63 - (intOf k).toNat)
  case atStart => exact ⟨0, 1, by omega, rfl, rfl, by simp, by omega⟩
  case round =>
    obtain ⟨j, x, hj, rfl, rfl, hx, hn⟩ := hrel
    have HX := Lib.hid hx
    have HN := Lib.hid hn
    clear hx hn
    by_cases hlt : j < 63
    · by_cases he : x = n
      · have hb : (x == n) = true := by simpa using he
        have hlg : Wd.lg n = j := by rw [← he, HX.out hlt]; exact Wd.lg_pow j hlt
        have hip : Wd.isP n = true := by rw [← he, HX.out hlt]; exact Wd.isP_pow j hlt
        have H1 := Lib.hid hlg
        have H2 := Lib.hid hip
        clear hlg hip he
        go_wp2
        go_ret2
        exact ⟨by rw [H1.out, H2.out]; rfl, rfl⟩
      · have hb : (x == n) = false := by simpa using he
        have HB := Lib.hid he
        clear he
        go_wp2
        go_round
        case rel =>
          refine ⟨j + 1, _, by omega, by go_num, rfl, pow_next j x HX.out, ?_⟩
          intro i hi
          by_cases hij : i = j
          · subst hij; rw [← HX.out hlt]; exact fun h => HB.out h.symm
          · exact HN.out i (by omega)
        case measure => simp [intOf]; omega
    · have hjj : j = 63 := by omega
      have hip : Wd.isP n = false := by
        cases e : Wd.isP n with
        | false => rfl
        | true =>
          obtain ⟨k, hk, hh⟩ := (Wd.isP_iff n).1 e
          exact absurd hh (HN.out k (by omega))
      have hlg : Wd.lg n = 0 := by unfold Wd.lg; rw [hip]; rfl
      have H1 := Lib.hid hlg
      have H2 := Lib.hid hip
      clear hlg hip hjj
      go_wp2
      go_ret2
      exact ⟨by rw [H1.out, H2.out]; rfl, rfl⟩

set_option maxHeartbeats 400000 in
theorem refIsPower_any (n : Int) (w : World) :
    Calls Tryz.prog 52 #[.int .i64 n] w fun e w' => e = .returned (.bool (Wd.isP n)) ∧ w = w' := by
  go_enter Tryz.func52, Tryz.ntmps52
  go_wp2_with (go_at_call 85; refine (refLog2_any _ _).mono ?_; rintro e w' ⟨rfl, rfl⟩)
  go_ret
  exact ⟨rfl, rfl⟩

set_option maxHeartbeats 400000 in
theorem refAlign_any (n tz : Int) (w : World) :
    Calls Tryz.prog 62 #[.int .i64 n, .int .i64 tz] w fun e w' => e = .returned (.tuple #[.int .i64 (Wd.al n tz), .int .i64 (alE n tz)]) ∧ w = w' := by
  cases hp : Wd.isP tz with
  | true =>
    have hb := Wd.isP_bounds hp
    have hto : (tz == 0) = false := beq_eq_false_iff_ne.2 (by omega)
    by_cases hn : 0 ≤ n ∧ n ≤ 4611686018427387904
    · obtain ⟨hn0, hn1⟩ := hn
      have hok : Wd.alOk n tz = true := by unfold Wd.alOk; rw [hp]; simp [hn0, hn1]
      have e : Wd.al n tz = (n + tz - 1) / tz * tz := by unfold Wd.al; rw [if_pos hok]
      have e2 : alE n tz = 0 := by unfold alE; rw [if_pos hok]
      obtain ⟨hd, hz, hs, hlt⟩ := Wd.up_cases n tz hp hn0 hn1
      have HP := Lib.hid hp
      have HM := Lib.hid e
      have HE := Lib.hid e2
      have HZ := Lib.hid hz
      have HS := Lib.hid hs
      have HL := Lib.hid hlt
      clear hp e e2 hok hz hs hlt
      go_enter Tryz.func62, Tryz.ntmps62
      go_wp2_with (go_at_call 52; refine (refIsPower_any _ _).mono ?_; rintro e w' ⟨rfl, rfl⟩; rw [HP.out])
      · have h : (n % tz == 0) = true := by assumption
        go_ret2
        exact ⟨ret_tup (by rw [HM.out]; exact HZ.out (by simpa using h)) (by rw [HE.out]), rfl⟩
      · have h : (n % tz == 0) = false := by assumption
        have h2 := HL.out (by simpa using h)
        omega
      · have h : (n % tz == 0) = false := by assumption
        have h2 := HL.out (by simpa using h)
        go_ret2
        refine ⟨ret_tup ?_ (by rw [HE.out]), rfl⟩
        show Wd.al n tz = wrap64 ((n / tz + 1) * tz)
        rw [HM.out, HS.out (by simpa using h)]
        have h3 : 0 ≤ (n / tz + 1) * tz := Int.mul_nonneg (by omega) (by omega)
        generalize (n / tz + 1) * tz = z at h2 h3 ⊢
        unfold wrap64
        omega
    · have hok : Wd.alOk n tz = false := by unfold Wd.alOk; rw [hp]; simp; omega
      have e : Wd.al n tz = 0 := by unfold Wd.al; rw [hok]; rfl
      have e2 : alE n tz = 1 := by unfold alE; rw [hok]; rfl
      have HP := Lib.hid hp
      have HM := Lib.hid e
      have HE := Lib.hid e2
      clear hp e e2 hok
      by_cases hn0 : 0 ≤ n
      · have hn1 : 4611686018427387904 < n := by omega
        clear hn
        go_enter Tryz.func62, Tryz.ntmps62
        go_wp2_with (go_at_call 52; refine (refIsPower_any _ _).mono ?_; rintro e w' ⟨rfl, rfl⟩; rw [HP.out])
        go_ret2
        exact ⟨by rw [HM.out, HE.out]; rfl, rfl⟩
      · have hn1 : n < 0 := by omega
        clear hn hn0
        go_enter Tryz.func62, Tryz.ntmps62
        go_wp2_with (go_at_call 52; refine (refIsPower_any _ _).mono ?_; rintro e w' ⟨rfl, rfl⟩; rw [HP.out])
        go_ret2
        exact ⟨by rw [HM.out, HE.out]; rfl, rfl⟩
  | false =>
    have hok : Wd.alOk n tz = false := by unfold Wd.alOk; rw [hp]; rfl
    have e : Wd.al n tz = 0 := by unfold Wd.al; rw [hok]; rfl
    have e2 : alE n tz = 1 := by unfold alE; rw [hok]; rfl
    have HP := Lib.hid hp
    have HM := Lib.hid e
    have HE := Lib.hid e2
    clear hp e e2 hok
    go_enter Tryz.func62, Tryz.ntmps62
    go_wp2_with (go_at_call 52; refine (refIsPower_any _ _).mono ?_; rintro e w' ⟨rfl, rfl⟩; rw [HP.out])
    go_ret2
    exact ⟨by rw [HM.out, HE.out]; rfl, rfl⟩

end Go.Proofs.YtikcnioooihncaaGreat
namespace Go.Proofs.YtikcnioooihncaaGreat
namespace Wd

theorem num_join (a b : List Int) : num (a ++ b) = num a + num b * 2 ^ (a.length * 8) := by
  induction a with
  | nil => simp [num]
  | cons x r ih =>
    have e : ((2 : Int) ^ ((r.length + 1) * 8)) = 256 * 2 ^ (r.length * 8) := by
      rw [Nat.add_mul, Int.pow_add, Int.mul_comm]; rfl
    show x + 256 * num (r ++ b) = x + 256 * num r + num b * 2 ^ ((r.length + 1) * 8)
    rw [ih, e, Int.mul_add, Int.mul_left_comm (num b) 256, Int.add_assoc]

theorem bs2 (v : Int) : bs v 2 = [v % 256, v / 256 % 256] := by simp [bs, List.range_succ]
theorem bs4 (v : Int) : bs v 4 = [v % 256, v / 256 % 256, v / 65536 % 256, v / 16777216 % 256] := by simp [bs, List.range_succ]
theorem bs8 (v : Int) : bs v 8 = [v % 256, v / 256 % 256, v / 65536 % 256, v / 16777216 % 256, v / 4294967296 % 256, v / 1099511627776 % 256, v / 281474976710656 % 256, v / 72057594037927936 % 256] := by
  simp [bs, List.range_succ]
theorem num2 (a b : Int) : num [a, b] = a + 256 * b := by simp [num]
theorem num4 (a b c d : Int) : num [a, b, c, d] = a + 256 * b + 65536 * c + 16777216 * d := by simp only [num]; omega
theorem num8 (a b c d e f g h : Int) : num [a, b, c, d, e, f, g, h] = a + 256 * b + 65536 * c + 16777216 * d + 4294967296 * e + 1099511627776 * f + 281474976710656 * g + 72057594037927936 * h := by
  simp only [num]; omega
theorem num_bs4 (v : Int) : num (bs v 4) = v % 4294967296 := by rw [bs4, num4]; omega
theorem num_bs8 (v : Int) (h0 : 0 ≤ v) (h1 : v < 18446744073709551616) : num (bs v 8) = v := by rw [bs8, num8]; omega
theorem bs_in (v : Int) (n : Nat) : Bytes8 (bs v n) := by
  intro x hx
  unfold bs at hx
  obtain ⟨i, _, rfl⟩ := List.mem_map.1 hx
  omega
theorem Bytes8.app {a b : List Int} (ha : Bytes8 a) (hb : Bytes8 b) : Bytes8 (a ++ b) := fun x hx => by
  rcases List.mem_append.1 hx with h | h
  · exact ha x h
  · exact hb x h
theorem bs8_low (v : Int) : (bs v 8).take 4 = bs v 4 := by rw [bs8, bs4]; rfl
theorem bs8_high (v : Int) : (bs v 8).drop 4 = bs (v / 4294967296) 4 := by
  rw [bs8, bs4]
  show [_, _, _, _] = [_, _, _, _]
  congr 1
  congr 1
  · omega
  congr 1
  · omega
  congr 1
  omega
end Wd

namespace Hd
open Wd Go
/-- A record's header, by its bytes. -/
theorem num_record (l h : Int) : num (bs (l % 18446744073709551616) 4 ++ bs (h % 18446744073709551616) 4) = jn l h := by
  rw [num_join, bs_length, num_bs4, num_bs4]
  unfold jn
  omega
theorem num_low (v : Int) : s32 (num ((bs v 8).take 4)) = s32 v := by rw [bs8_low, num_bs4]; exact s32_eq _ _ (by omega)
theorem num_high (v : Int) : s32 (num ((bs v 8).drop 4)) = s32 (v / 4294967296) := by rw [bs8_high, num_bs4]; exact s32_eq _ _ (by omega)

/-- A frame's header's bytes. -/
def fb (l v f t o s m r z : Int) : List Int :=
  bs (l % 18446744073709551616) 4 ++ [v, f] ++ bs (t % 18446744073709551616) 2 ++ bs (o % 18446744073709551616) 4 ++ bs (s % 18446744073709551616) 4 ++
    bs (m % 18446744073709551616) 4 ++ bs (r % 18446744073709551616) 4 ++ bs z 8
/-- The bytes of four words. -/
def wb (a b c d : Int) : List Int := bs a 8 ++ bs b 8 ++ bs c 8 ++ bs d 8

/-- The bytes of the first k of four numbers of four bytes. -/
def sel (o s m r : Int) (k : Nat) : Int := [o, s, m, r].getD k 0
def part (o s m r : Int) : Nat → List Int
  | 0 => []
  | k + 1 => part o s m r k ++ bs (sel o s m r k % 18446744073709551616) 4
theorem part_length (o s m r : Int) (k : Nat) : (part o s m r k).length = 4 * k := by
  induction k with
  | zero => rfl
  | succ k ih => simp only [part, List.length_append, ih, bs_length]; omega
theorem fb_part (l v f t o s m r z : Int) : bs (l % 18446744073709551616) 4 ++ [v, f] ++ bs (t % 18446744073709551616) 2 ++ part o s m r 4 ++ bs z 8 = fb l v f t o s m r z := by
  simp [fb, part, sel, List.append_assoc]
theorem wrap_mod (x : Int) : IntKind.i64.wrap x % 18446744073709551616 = x % 18446744073709551616 := by rw [IntKind.wrap_i64]; omega

theorem bs_jn (l h : Int) : bs (jn l h) 8 = bs (l % 18446744073709551616) 4 ++ bs (h % 18446744073709551616) 4 := by
  rw [bs8, bs4, bs4]
  unfold jn
  simp only [List.cons_append, List.nil_append, List.cons.injEq, and_true]
  omega
theorem bs_fw (l v f t : Int) (v0 : 0 ≤ v) (v1 : v ≤ 255) (f0 : 0 ≤ f) (f1 : f ≤ 255) (t0 : 0 ≤ t) (t1 : t ≤ 65535) :
    bs (fw l v f t) 8 = bs (l % 18446744073709551616) 4 ++ [v, f] ++ bs (t % 18446744073709551616) 2 := by
  rw [bs8, bs4, bs2]
  unfold fw
  simp only [List.cons_append, List.nil_append, List.cons.injEq, and_true]
  omega
theorem fb_wb (l v f t o s m r z : Int) (v0 : 0 ≤ v) (v1 : v ≤ 255) (f0 : 0 ≤ f) (f1 : f ≤ 255) (t0 : 0 ≤ t) (t1 : t ≤ 65535) :
    fb l v f t o s m r z = wb (fw l v f t) (jn o s) (jn m r) z := by
  unfold fb wb
  rw [bs_fw l v f t v0 v1 f0 f1 t0 t1, bs_jn, bs_jn]
  simp only [List.append_assoc]
theorem wb_length (a b c d : Int) : (wb a b c d).length = 32 := by unfold wb; simp [bs_length]
theorem wb_in (a b c d : Int) : Bytes8 (wb a b c d) := ((((bs_in _ _).app (bs_in _ _)).app (bs_in _ _)).app (bs_in _ _))
theorem wb_0 (a b c d : Int) : ((wb a b c d).drop 0).take 8 = bs a 8 := by unfold wb; rw [bs8, bs8, bs8, bs8]; rfl
theorem wb_1 (a b c d : Int) : ((wb a b c d).drop 8).take 8 = bs b 8 := by unfold wb; rw [bs8, bs8, bs8, bs8]; rfl
theorem wb_2 (a b c d : Int) : ((wb a b c d).drop 16).take 8 = bs c 8 := by unfold wb; rw [bs8, bs8, bs8, bs8]; rfl
theorem wb_3 (a b c d : Int) : ((wb a b c d).drop 24).take 8 = bs d 8 := by unfold wb; rw [bs8, bs8, bs8, bs8]; rfl
theorem s32_low (v : Int) : s32 (num (bs v 4)) = s32 v := by rw [num_bs4]; exact s32_eq _ _ (by omega)
theorem wb_a0 (a b c d : Int) : ((wb a b c d).drop 0).take 4 = bs a 4 := by unfold wb; rw [bs8, bs8, bs8, bs8, bs4]; rfl
theorem wb_b0 (a b c d : Int) : ((wb a b c d).drop 8).take 4 = bs b 4 := by unfold wb; rw [bs8, bs8, bs8, bs8, bs4]; rfl
theorem wb_b1 (a b c d : Int) : ((wb a b c d).drop 12).take 4 = bs (b / 4294967296) 4 := by rw [← bs8_high]; unfold wb; rw [bs8, bs8, bs8, bs8]; rfl
theorem wb_c0 (a b c d : Int) : ((wb a b c d).drop 16).take 4 = bs c 4 := by unfold wb; rw [bs8, bs8, bs8, bs8, bs4]; rfl
theorem wb_c1 (a b c d : Int) : ((wb a b c d).drop 20).take 4 = bs (c / 4294967296) 4 := by rw [← bs8_high]; unfold wb; rw [bs8, bs8, bs8, bs8]; rfl
theorem wb_4 (a b c d : Int) : (wb a b c d).getD 4 0 = a / 4294967296 % 256 := by unfold wb; rw [bs8, bs8, bs8, bs8]; rfl
theorem wb_5 (a b c d : Int) : (wb a b c d).getD 5 0 = a / 1099511627776 % 256 := by unfold wb; rw [bs8, bs8, bs8, bs8]; rfl
theorem wb_6 (a b c d : Int) : (wb a b c d).getD 6 0 = a / 281474976710656 % 256 := by unfold wb; rw [bs8, bs8, bs8, bs8]; rfl
theorem wb_7 (a b c d : Int) : (wb a b c d).getD 7 0 = a / 72057594037927936 % 256 := by unfold wb; rw [bs8, bs8, bs8, bs8]; rfl
/-- Two bytes' number, as the plain answer reckons it. -/
theorem u16_two (x : Int) : IntKind.u16.wrap (IntKind.u16.wrap (x / 281474976710656 % 256) + IntKind.u16.wrap (256 * IntKind.u16.wrap (x / 72057594037927936 % 256))) = x / 281474976710656 % 65536 := by
  simp only [IntKind.wrap, IntKind.bits, IntKind.signed]
  simp
  omega
end Hd
end Go.Proofs.YtikcnioooihncaaGreat
namespace Go.Proofs.YtikcnioooihncaaGreat
open Go.RowKit

/-- A contract 'w = w'' met in a region that draws its order. -/
theorem quiet_same {P : Program} {f : FuncId} {args : Array Value} {w : World} {n : Nat} {v : Value}
    (h : Calls P f args (w.drewN n) fun e w' => e = .returned v ∧ w.drewN n = w') : Calls P f args (w.drewN n) fun e w'' => e = .returned v ∧ ∃ m, w'' = w.drewN m :=
  h.mono fun _ _ ⟨he, hm⟩ => ⟨he, n, hm.symm⟩

theorem signed_any (v : Value) (xs : List Int) (w : World) (h8 : Wd.Bytes8 xs) (hl : xs.length = 4) (h : BytesAt w v xs) :
    Calls Tryz.prog 95 #[v] w fun e w' => e = .returned (.int .i32 (Hd.s32 (Wd.num xs))) ∧ w = w' := by
  have ht : xs.take 8 = xs := List.take_of_length_le (by omega)
  have hb := Wd.num_bounds xs h8
  rw [hl] at hb
  have hb2 : Wd.num xs < 4294967296 := by have := hb.2; simp at this; omega
  have hb1 := hb.1
  have HT := Lib.hid ht
  clear hb ht
  have hw : IntKind.i64.wrap (Wd.num xs) = Wd.num xs := IntWalk.i64_in _ (by omega)
  have hc := refNumber_any v xs w h8 h
  rw [HT.out] at hc
  have HC := Lib.hid hc
  clear hc HT h8 h hl
  generalize Wd.num xs = n at *
  by_cases hn : 2147483648 ≤ n
  · go_enter Tryz.func95, Tryz.ntmps95
    go_wp2_with (go_at_call 40; refine HC.out.mono ?_; rintro e w' ⟨rfl, rfl⟩)
    go_ret
    refine ⟨ret_k ?_, rfl⟩
    unfold Hd.s32
    (try unfold wrap32); split <;> omega
  · have hn' : n < 2147483648 := by omega
    clear hn
    go_enter Tryz.func95, Tryz.ntmps95
    go_wp2_with (go_at_call 40; refine HC.out.mono ?_; rintro e w' ⟨rfl, rfl⟩)
    go_ret
    refine ⟨ret_k ?_, rfl⟩
    unfold Hd.s32
    (try unfold wrap32); split <;> omega

theorem hbytes_any (v : Int) (n : Nat) (w : World) (hn : n ≤ 8) :
    Calls Tryz.prog 112 #[.int .i64 v, .int .i64 n] w fun e w' => ∃ x, e = .returned x ∧ Owns w.heap.size w' x (Wd.bs (v % 18446744073709551616) n) ∧ Below w.heap.size w w' := by
  have H := Lib.hid (refBytes_own (v % 18446744073709551616) n w (by omega) (by omega) hn)
  go_enter Tryz.func112, Tryz.ntmps112
  go_wp2_with (go_at_call 41; refine H.out.mono ?_; rintro e w' ⟨x, rfl, hx, hb⟩)
  go_ret
  exact ⟨x, rfl, hx, hb⟩

set_option maxHeartbeats 400000 in
theorem refRecord_any (l h : Int) (w : World) (l0 : -2147483648 ≤ l) (l1 : l ≤ 2147483647) (h0 : -2147483648 ≤ h) (h1 : h ≤ 2147483647) :
    Calls Tryz.prog 83 #[.int .i32 l, .int .i32 h] w fun e w' => e = .returned (.int .u64 (Hd.jn l h)) ∧ Below w.heap.size w w' := by
  have H8 : Wd.Bytes8 (Wd.bs (l % 18446744073709551616) 4 ++ Wd.bs (h % 18446744073709551616) 4) := (Wd.bs_in _ _).app (Wd.bs_in _ _)
  have HN := Lib.hid (Hd.num_record l h)
  have HL : Hid ((Wd.bs (l % 18446744073709551616) 4 ++ Wd.bs (h % 18446744073709551616) 4).take 8 = Wd.bs (l % 18446744073709551616) 4 ++ Wd.bs (h % 18446744073709551616) 4) := Lib.hid (by rw [List.take_of_length_le]; simp [Wd.bs_length])
  go_enter Tryz.func83, Tryz.ntmps83
  go_wp2_with fail
  refine (hbytes_any l 4 w (by omega)).mono ?_
  rintro e w1 ⟨x, rfl, hx, hb1⟩
  go_wp2_with fail
  refine (hbytes_any h 4 w1 (by omega)).mono ?_
  rintro e w2 ⟨y, rfl, hy, hb2⟩
  have hx2 := hx.below hb2
  have hy2 := hy.bytes
  have hs1 := hb1.size
  have hs2 := hb2.size
  have HB := Lib.hid (hb1.after hb2)
  clear hx hy hb1 hb2
  go_wp2_with (first
    | (at_builtin; refine wpList_app rfl _ _ rfl w.heap.size x y _ _ rfl rfl hx2 hy2 (by simp [Wd.bs_length]) (by simp [Wd.bs_length]) (by omega) ?_; intro v3 w3 hv3 hb3 _; have hc := refNumber_any v3 _ w3 H8 hv3.bytes)
    | (go_at_call 40; refine hc.mono ?_; rintro e w' ⟨rfl, rfl⟩; rw [HL.out, HN.out]))
  go_ret
  exact ⟨rfl, HB.out.trans hb3⟩

set_option maxHeartbeats 400000 in
theorem refSplit_any (v : Int) (w : World) (v0 : 0 ≤ v) (v1 : v ≤ 18446744073709551615) :
    Calls Tryz.prog 61 #[.int .u64 v] w fun e w' => e = .returned (.tuple #[.int .i32 (Hd.s32 v), .int .i32 (Hd.s32 (v / 4294967296))]) ∧ Below w.heap.size w w' := by
  have H1 := Lib.hid (Hd.num_low v)
  have H2 := Lib.hid (Hd.num_high v)
  go_enter Tryz.func61, Tryz.ntmps61
  go_wp2_with fail
  refine (refBytes_own v 8 w v0 v1 (by omega)).mono ?_
  rintro e w1 ⟨x, rfl, hx, hb1⟩
  obtain ⟨g, cap, rfl, hn, hm, hg, hgl, hc⟩ := hx.form (by simp [Wd.bs_length])
  have ha := hx.bytes
  have l8 : (Wd.bs v 8).length = 8 := Wd.bs_length v 8
  rw [l8] at ha hn hc ⊢
  have hlo := ha.cut 0 4 cap (by omega)
  have hhi := ha.cut 4 4 (cap - 4) (by omega)
  rw [Nat.zero_add, List.drop_zero] at hlo
  rw [List.take_of_length_le (l := (Wd.bs v 8).drop 4) (by rw [List.length_drop]; omega), Nat.zero_add] at hhi
  have hS1 := fun n => signed_any _ _ (w1.drewN n) (Wd.take_bytes (Wd.bs_in v 8) 4) (by rw [List.length_take]; omega) (hlo.drewN n)
  have hS2 := fun n => signed_any _ _ (w1.drewN n) (Wd.drop_bytes (Wd.bs_in v 8) 4) (by rw [List.length_drop]; omega) (hhi.drewN n)
  have HS1 := Lib.hid hS1
  have HS2 := Lib.hid hS2
  have HB := Lib.hid hb1
  have hcap : (4 : Int) ≤ (cap : Int) := by omega
  clear hx ha hlo hhi hS1 hS2 hc hb1 l8 hm hg hgl
  go_wp2_with fail
  go_quiet ((first
    | (go_at_call 95; (with_reducible exact quiet_same (HS1.out _)))
    | (go_at_call 95; (with_reducible exact quiet_same (HS2.out _)))))
  go_wp2
  go_ret2
  refine ⟨ret_two H1.out.symm H2.out.symm, below_drewN HB.out _⟩

set_option maxHeartbeats 400000 in
theorem refSize_any (n head tz : Int) (w : World) (a0 : 0 ≤ head) (a1 : head ≤ 1000) :
    Calls Tryz.prog 111 #[.int .i64 n, .int .i64 head, .int .i64 tz] w fun e w' => e = .returned (.tuple #[.int .i64 (sz n head tz), .int .i64 (szE n head tz)]) ∧ w = w' := by
  by_cases h0 : 0 ≤ n
  · by_cases h1 : n ≤ 131072
    · have hk : szOk n = true := by unfold szOk; simp [h0, h1]
      have e1 : sz n head tz = Wd.al (n + head) tz := by unfold sz; rw [if_pos hk, Int.add_comm]
      have e2 : szE n head tz = alE (n + head) tz := by unfold szE; rw [if_pos hk, Int.add_comm]
      rw [e1, e2]
      clear e1 e2 hk
      have hw : IntKind.i64.wrap (n + head) = n + head := IntWalk.i64_in _ (by omega)
      go_enter Tryz.func111, Tryz.ntmps111
      go_wp2_with (go_at_call 62; refine (refAlign_any _ _ _).mono ?_; rintro e w' ⟨rfl, rfl⟩)
      go_ret2
      exact ⟨rfl, rfl⟩
    · have hk : szOk n = false := by unfold szOk; simp; omega
      have e1 : sz n head tz = 0 := by unfold sz; rw [hk]; rfl
      have e2 : szE n head tz = 1 := by unfold szE; rw [hk]; rfl
      rw [e1, e2]
      have h1' : 131072 < n := by omega
      clear e1 e2 hk h1
      go_enter Tryz.func111, Tryz.ntmps111
      go_wp2
      go_ret2
      exact ⟨rfl, rfl⟩
  · have hk : szOk n = false := by unfold szOk; simp; omega
    have e1 : sz n head tz = 0 := by unfold sz; rw [hk]; rfl
    have e2 : szE n head tz = 1 := by unfold szE; rw [hk]; rfl
    rw [e1, e2]
    have h0' : n < 0 := by omega
    clear e1 e2 hk h0
    go_enter Tryz.func111, Tryz.ntmps111
    go_wp2
    go_ret2
    exact ⟨rfl, rfl⟩

theorem refRecordSize_any (n : Int) (w : World) :
    Calls Tryz.prog 80 #[.int .i64 n] w fun e w' => e = .returned (.tuple #[.int .i64 (sz n 8 8), .int .i64 (szE n 8 8)]) ∧ w = w' := by
  go_enter Tryz.func80, Tryz.ntmps80
  go_wp2_with (go_at_call 111; refine (refSize_any _ 8 8 _ (by omega) (by omega)).mono ?_; rintro e w' ⟨rfl, rfl⟩)
  go_ret2
  exact ⟨rfl, rfl⟩

end Go.Proofs.YtikcnioooihncaaGreat
namespace Go.Proofs.YtikcnioooihncaaGreat
open Go.RowKit

set_option maxRecDepth 100000 in
set_option maxHeartbeats 800000 in
theorem refRight_any (B Z : Int) (hB : -9223372036854775808 ≤ B ∧ B ≤ 9223372036854775807) (hZ : -9223372036854775808 ≤ Z ∧ Z ≤ 9223372036854775807) (w : World) :
    Calls Tryz.prog 24 #[.agg #[.int .i64 B, .int .i64 Z]] w (Made (.bool (decide (Rg.right B Z))) w) := by
  have hb0 := un_below w (.int .i64 B) (.int .i64 Z) 38
  have hx := Go.Deep.blk_alloc_new w (.cells #[.int .i64 B, .int .i64 Z] 38)
  obtain ⟨q, hq⟩ : ∃ q : Bool, q = decide (Rg.right B Z) := ⟨_, rfl⟩
  rw [← hq]
  have HQ := Lib.hid hq
  clear hq
  go_enter Tryz.func24, Tryz.ntmps24
  go_upto_region 1 with (fail)
  generalize w.alloc (.cells #[.int .i64 B, .int .i64 Z] 38) = W at hb0 hx ⊢
  have x0 : W.cell? ⟨w.heap.size, 0, none⟩ = some (.int .i64 B) := by simp [World.cell?, hx]
  have x1 : W.cell? ⟨w.heap.size, 1, none⟩ = some (.int .i64 Z) := by simp [World.cell?, hx]
  clear hx
  go_wp2_with (go_at_call 52; refine (refIsPower_any Z _).mono ?_; rintro e w2 ⟨rfl, rfl⟩)
  all_goals
    go_ret
    refine ⟨?_, hb0⟩
    rw [HQ.out]
    first
      | (rw [show decide (Rg.right B Z) = decide (B ≤ 131072 - Z - 32) by rw [decide_eq_decide]; exact ⟨fun h => h.2.2.2.2.1, fun h => ⟨by assumption, by omega, by omega, by omega, h, by omega⟩⟩]; rfl)
      | (rw [show decide (Rg.right B Z) = false from decide_eq_false (fun ⟨_, _, _, _, _, _⟩ => by first | omega | simp_all)]; rfl)

set_option maxRecDepth 100000 in
theorem refPlace_any (B Z : Int) (v : Nat) (hz : 64 ≤ Z) (hz1 : Z ≤ 8192) (w : World) :
    Calls Tryz.prog 60 #[.agg #[.int .i64 B, .int .i64 Z], .int .u64 v] w (Made (.int .i64 ((v : Int) % Z)) w) := by
  have hb0 := un_below w (.int .i64 B) (.int .i64 Z) 38
  have hx := Go.Deep.blk_alloc_new w (.cells #[.int .i64 B, .int .i64 Z] 38)
  go_enter Tryz.func60, Tryz.ntmps60
  go_upto_region 1 with (fail)
  generalize w.alloc (.cells #[.int .i64 B, .int .i64 Z] 38) = W at hb0 hx ⊢
  have x1 : W.cell? ⟨w.heap.size, 1, none⟩ = some (.int .i64 Z) := by simp [World.cell?, hx]
  clear hx
  go_wp2
  go_ret
  refine ⟨?_, hb0⟩
  have h1 : wrap64 ((v : Int) % Z) = (v : Int) % Z := by
    have h2 := Int.emod_nonneg (v : Int) (b := Z) (by omega)
    have h3 := Int.emod_lt_of_pos (v : Int) (b := Z) (by omega)
    unfold wrap64
    omega
  show Ending.returned (.int .i64 (wrap64 ((v : Int) % Z))) = _
  rw [h1]

theorem wrap_room (Z x : Int) : wrap64 (IntKind.u64.wrap (IntKind.u64.wrap Z - IntKind.u64.wrap x)) = wrap64 (Z - x) := by
  have h : ∀ y, IntKind.u64.wrap y = y % 18446744073709551616 := fun y => by simp [IntKind.wrap, IntKind.signed, IntKind.bits]
  rw [h, h, h]
  unfold wrap64
  omega

set_option maxRecDepth 100000 in
theorem refRoom_any (B Z : Int) (t h : Nat) (w : World) :
    Calls Tryz.prog 81 #[.agg #[.int .i64 B, .int .i64 Z], .int .u64 t, .int .u64 h] w (Made (.int .i64 (wrap64 (Z - ((t : Int) - h)))) w) := by
  have hb0 := un_below w (.int .i64 B) (.int .i64 Z) 38
  have hx := Go.Deep.blk_alloc_new w (.cells #[.int .i64 B, .int .i64 Z] 38)
  go_enter Tryz.func81, Tryz.ntmps81
  go_upto_region 1 with (fail)
  generalize w.alloc (.cells #[.int .i64 B, .int .i64 Z] 38) = W at hb0 hx ⊢
  have x1 : W.cell? ⟨w.heap.size, 1, none⟩ = some (.int .i64 Z) := by simp [World.cell?, hx]
  clear hx
  go_wp2
  go_ret
  refine ⟨?_, hb0⟩
  rw [← wrap_room]
  rfl
end Go.Proofs.YtikcnioooihncaaGreat
