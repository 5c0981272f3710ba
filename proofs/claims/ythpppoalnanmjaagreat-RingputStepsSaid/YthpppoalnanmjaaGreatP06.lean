/-
  The tape of the plain answers (layer 5): bytes written, walked.
  The tape of the plain answers: a number loaded, stored, compared and swapped, as it was told or as it is wanted; walked.
  The tape of the plain answers: bytes written, from wherever the tape stands; walked.
  Layer 7's put told a row of answers, plainly: where it stands behind each.
  The plain answer to layer 1's Bytes, walked.
  The plain answer to layer 1's Number, walked over any slice that reads as bytes.
  The plain answers to layer 1's powers and multiples, walked.
  Plain facts on the bytes of words and of frames (layer 3): a list of bytes parted, and what its parts tell; nothing of the program is walked here.
  The plain answers to layer 3 that only reckon, or make bytes, walked: signed, bytes, Record, Split, size, RecordSize, FrameSize.
  The document's put (layer 7), walked over a tape.
-/
import Derived.Test.YthpppoalnanmjaaGreatP05
import Derived.Test.YthpppoalnanmjaaGreatP03
import Derived.Test.YthpppoalnanmjaaGreatP01
import Derived.Deep.QuietTactic
import Derived.BigQuiet
import Derived.WalkSmall
namespace Go.Proofs.YthpppoalnanmjaaGreat
open Go.RowKit

theorem refChunks_parts (n : Int) (w : World) : Calls Tryz.prog 68 #[.int .i64 n] w (MadeParts (Cy.cks (Cy.few n)) w) := by
  refine (refChunks_any n w).mono ?_
  rintro e w' ⟨v, rfl, ho, hb⟩
  rw [Cy.ckOf_few] at ho
  exact ⟨v, rfl, (Parts.of_own ho), hb⟩

/-- A byte's block is no tape's. -/
theorem Tp.byte_apart {w : World} {p cap n j : Nat} {A : Option Addr} {K P N V U : Int} {s : Value} {e : Bool} (h : Tp w p A cap n j K P N V U s e) (hs : ∀ x, s ≠ .int .u8 x) {b off : Nat} {x : Int} (hc : w.cell? ⟨b, off, none⟩ = some (.int .u8 x)) : b ≠ p := by
  rintro rfl
  have hb := h.blk
  simp [World.cell?, hb] at hc
  match off, hc with
  | 7, hc => simp at hc; exact hs _ hc
  | 0, hc | 1, hc | 2, hc | 3, hc | 4, hc | 5, hc | 6, hc | 8, hc => simp at hc
  | k + 9, hc => simp at hc

theorem BytesAt.one {w w' : World} {p cap n j : Nat} {A : Option Addr} {K P N V U : Int} {s : Value} {e : Bool} (h : Tp w p A cap n j K P N V U s e) (hs : ∀ x, s ≠ .int .u8 x) (ht : Touch (One p) w w') {v : Value} {xs : List Int} (hv : BytesAt w v xs) : BytesAt w' v xs := by
  obtain ⟨A2, c2, hv, hx⟩ := hv
  refine ⟨A2, c2, hv, fun hp => ?_⟩
  obtain ⟨b, off, e, hlt, hc⟩ := hx hp
  have hne : b ≠ p := h.byte_apart hs (hc 0 hp)
  exact ⟨b, off, e, Nat.lt_of_lt_of_le hlt ht.size, fun i hi => (ht.cell (p := ⟨b, off + i, none⟩) hlt hne).trans (hc i hi)⟩

theorem ToldAt.one {w w' : World} {p cap n j : Nat} {A : Option Addr} {K P N V U : Int} {s : Value} {e : Bool} (h : Tp w p A cap n j K P N V U s e) (hs : ∀ x, s ≠ .int .u8 x) (ht : Touch (One p) w w') {B : Option Addr} {m : Nat} {T : Nat → Ans} (hT : ToldAt w B m T)
    (hB : 0 < m → ∀ a, B = some a → a.block ≠ p) : ToldAt w' B m T := by
  intro hp
  obtain ⟨b, off, rfl, hlt, hc⟩ := hT hp
  have hne : b ≠ p := hB hp _ rfl
  refine ⟨b, off, rfl, Nat.lt_of_lt_of_le hlt ht.size, fun i hi => ?_⟩
  obtain ⟨c0, c1, c2, his⟩ := hc i hi
  have k := fun o => ht.cell (p := ⟨b, o, none⟩) hlt hne
  exact ⟨(k _).trans c0, (k _).trans c1, (k _).trans c2, ⟨his.num, his.isB, BytesAt.one h hs ht his.bytes, his.room, his.few⟩⟩

theorem cut_at (f : Nat → Nat) (a d n L : Nat) (h : d + n ≤ L) : ((Mb.bl f a L).drop d).take n = Mb.bl f (a + d) n := by
  have e : L = d + (n + (L - d - n)) := by omega
  rw [e, Mb.bl_append, Mb.bl_append, List.drop_left' (Mb.bl_length _ _ _), List.take_left' (by rw [Mb.bl_length])]

theorem bytesAt_none' (w : World) (A : Option Addr) (c : Nat) (f : Nat → Nat) (a : Nat) : BytesAt w (.slice A 0 c) (Mb.bl f a 0) := ⟨A, c, rfl, fun h => by simp [Mb.bl] at h⟩

/-- What a tape that was told i answers says of n bytes of f, written at 'at': the access that is wanted next, or none. -/
def SaidIn (p : Nat) (A : Option Addr) (cap i : Nat) (at_ : Int) (f : Nat → Nat) (n : Nat) (w : World) (e : Ending) (w' : World) : Prop :=
  ∃ b, e = .returned (.bool b) ∧ Touch (One p) w w' ∧
    ((8 * i < n ∧ ∃ B L c, Tp w' p A cap i i 6 (at_ + (8 * i : Nat)) (Cy.nx (n - 8 * i) : Nat) 0 0 (.slice B L c) true ∧ BytesAt w' (.slice B L c) (Mb.bl f (8 * i) (Cy.nx (n - 8 * i)))) ∨
     (n ≤ 8 * i ∧ ∃ j, Tp w' p A cap i j 0 0 0 0 0 (.slice none 0 0) false))

/-- The same; and the access' bytes lie in a block of K. -/
def SaidInK (K : Nat → Prop) (p : Nat) (A : Option Addr) (cap i : Nat) (at_ : Int) (f : Nat → Nat) (n : Nat) (w : World) (e : Ending) (w' : World) : Prop :=
  ∃ b, e = .returned (.bool b) ∧ Touch (One p) w w' ∧
    ((8 * i < n ∧ ∃ B L c, Tp w' p A cap i i 6 (at_ + (8 * i : Nat)) (Cy.nx (n - 8 * i) : Nat) 0 0 (.slice B L c) true ∧ BytesAt w' (.slice B L c) (Mb.bl f (8 * i) (Cy.nx (n - 8 * i))) ∧ ∀ a, B = some a → K a.block) ∨
     (n ≤ 8 * i ∧ ∃ j, Tp w' p A cap i j 0 0 0 0 0 (.slice none 0 0) false))

theorem SaidInK.said {K : Nat → Prop} {p : Nat} {A : Option Addr} {cap i : Nat} {at_ : Int} {f : Nat → Nat} {n : Nat} {w : World} {e : Ending} {w' : World} (h : SaidInK K p A cap i at_ f n w e w') : SaidIn p A cap i at_ f n w e w' := by
  obtain ⟨b, h1, h2, h3⟩ := h
  refine ⟨b, h1, h2, ?_⟩
  rcases h3 with ⟨h4, B, L, c, h5, h6, _⟩ | h3
  · exact .inl ⟨h4, B, L, c, h5, h6⟩
  · exact .inr h3

set_option maxRecDepth 100000 in
set_option maxHeartbeats 2000000 in
theorem tapeIn_lies {K : Nat → Prop} {w : World} {p cap i : Nat} {A : Option Addr} (h : Tp w p A cap i 0 0 0 0 0 0 (.slice none 0 0) false) (hi : i ≤ cap) (hcap : cap ≤ 9223372036854775807) {T : Nat → Ans} (hT : ToldAt w A i T) (hA : 0 < i → ∀ a, A = some a → a.block ≠ p)
    (at_ : Int) (hat0 : -4611686018427387904 ≤ at_) (hat1 : at_ ≤ 4611686018427387904) (B : Option Addr) (n cp : Nat) (f : Nat → Nat) (hB : BytesAt w (.slice B n cp) (Mb.bl f 0 n)) (hn : n ≤ 131072) (hcp : n ≤ cp) (hcp2 : cp ≤ 9223372036854775807) (hBK : 0 < n → ∀ a, B = some a → K a.block) :
    Calls Tryz.prog 44 #[.pointer (some ⟨p, 0, none⟩), .int .i64 at_, .slice B n cp] w (SaidInK K p A cap i at_ f n w) := by
  have hlt := h.lt
  have HT := Lib.hid h
  have HTo := Lib.hid hT
  have HA := Lib.hid hA
  have HB := Lib.hid hB
  have HBK := Lib.hid hBK
  clear h hT hA hB hBK
  go_enter Tryz.func44, Tryz.ntmps44
  go_wp2_with fail
  refine (refChunks_parts n w).mono ?_
  rintro e w1 ⟨v1, rfl, ⟨A1, c1, rfl, p1, p2, p3⟩, hb1⟩
  rw [Cy.few_nat hn] at p1 p3 ⊢
  have hlen := Cy.cks_length n
  generalize hm : (Cy.cks n).length = m at p1 p3 hlen ⊢
  have HT1 := Lib.hid (HT.out.below hb1)
  have HTo1 := Lib.hid (HTo.out.below hb1)
  have HB1 := Lib.hid (HB.out.below hb1)
  have HP3 := Lib.hid p3
  have hs1 := hb1.size
  have hw1 := Lib.hid hb1
  have HM := Lib.hid hm
  have hm1 : m ≤ 16384 := by omega
  have HL := Lib.hid hlen
  clear p3 hb1 hm hlen
  go_wp2_with fail
  go_loopw [1, 2, 15] (fun a b t wr => ∃ (k : Nat) (A' : Option Addr) (cp' : Nat), t = .int .i64 k ∧ a = .int .i64 (at_ + (Cy.at_ n k : Nat)) ∧ b = .slice A' (n - Cy.at_ n k) cp' ∧ n - Cy.at_ n k ≤ cp' ∧ cp' ≤ 9223372036854775807 ∧ BytesAt wr b (Mb.bl f (Cy.at_ n k) (n - Cy.at_ n k)) ∧ k ≤ m ∧ k ≤ i ∧ (0 < n → ∀ a, A' = some a → K a.block) ∧
      Tp wr p A cap i k 0 0 0 0 0 (.slice none 0 0) false ∧ Touch (One p) w1 wr) (fun _ _ t _ => m - (intOf t).toNat)
  case atStart => 
    refine ⟨0, B, cp, rfl, by rw [Cy.at_zero]; simp, by rw [Cy.at_zero]; rfl, by omega, hcp2, ?_, by omega, by omega, HBK.out, HT1.out, Touch.refl _ _⟩
    rw [Cy.at_zero]; exact HB1.out
  case round =>
    obtain ⟨k, A', cp', rfl, rfl, rfl, hq1, hq2, hbk, hkm, hki, hkk, htk, htt⟩ := hrel
    have HKK := Lib.hid hkk
    clear hkk
    by_cases hlt : k < m
    · have hk8 : 8 * k < n := by have := HL.out; omega
      have hd := Cy.at_here hk8
      have hnx := Cy.at_next hk8
      rw [hd] at hnx hq1 hbk ⊢
      have hc0 := Cy.nx_pos (r := n - 8 * k) (by omega)
      have hc1 := Cy.nx_le (n - 8 * k)
      obtain ⟨cb, co, rfl, ⟨hcb, _⟩, hcl, hcell⟩ := HP3.out (by omega)
      have hcp : cb ≠ p := by omega
      have hck := (htt.cell (p := ⟨cb, co + k, none⟩) hcl hcp).trans (hcell k hlt)
      rw [← HM.out] at hlt
      have hgd := Cy.cks_getD n k hk8
      rw [hgd] at hck
      rw [HM.out] at hlt
      generalize hcq : Cy.nx (n - 8 * k) = c at hc0 hc1 hck hnx hgd
      generalize hrq : n - 8 * k = r at hc1 hq1 hbk hcq ⊢
      have HCQ := Lib.hid (And.intro hcq hrq)
      have HNX := Lib.hid hnx
      have hrn : r ≤ 131072 := by omega
      have HK8 := Lib.hid hk8
      obtain ⟨gb, ob, rfl⟩ : ∃ gb ob, A' = some ⟨gb, ob, none⟩ := by
        obtain ⟨A2, c2, hv, hx⟩ := hbk
        obtain ⟨gb, ob, e, _⟩ := hx (by rw [Mb.bl_length]; omega)
        injection hv with e1 _ _
        exact ⟨gb, ob, e1.trans e⟩
      have HGB : Hid (K gb) := Lib.hid (HKK.out (by omega) _ rfl)
      have HBK := Lib.hid hbk
      have HTK := Lib.hid htk
      have HTT := Lib.hid htt
      have htold := Lib.hid (HTo1.out.one HT1.out (by intro x e; cases e) htt HA.out)
      have hg1 : (k : Int) < m := by omega
      have hg2 : (0 : Int) ≤ c := by omega
      have hg3 : (c : Int) ≤ r := by omega
      have hg4 : (r : Int) ≤ cp' := by omega
      have hk13 : k ≤ 16384 := by omega
      have hg5 : IntKind.i64.wrap (at_ + ((8 * k : Nat) : Int) + (c : Int)) = at_ + ((8 * k : Nat) : Int) + c := IntWalk.i64_in _ (by omega)
      have hq3 : -4611686018427387904 ≤ at_ + ((8 * k : Nat) : Int) := by omega
      have hq4 : at_ + ((8 * k : Nat) : Int) ≤ 4611686018427518976 := by omega
      generalize hqq : at_ + ((8 * k : Nat) : Int) = q at hg5 hq3 hq4 ⊢
      have HQ := Lib.hid hqq
      have hn1 : n - Cy.at_ n (k + 1) = r - c := by rw [hnx]; omega
      have HN1 := Lib.hid hn1
      clear hcell hgd hcq hrq hd hnx hbk htk htt hk8 hqq hn1
      by_cases hki2 : k < i
      · have hrel2 : ∀ (w2 : World) (A2 : Option Addr) (cp2 : Nat), (A2 = some ⟨gb, ob + c, none⟩ ∨ r = c) → r - c ≤ cp2 → Tp w2 p A cap i (k + 1) 0 0 0 0 0 (.slice none 0 0) false → Touch (One p) wr w2 →
            BytesAt w2 (.slice A2 (r - c) cp2) (Mb.bl f (Cy.at_ n (k + 1)) (n - Cy.at_ n (k + 1))) := by
          intro w2 A2 cp2 hA2 _ _ ht2
          rw [HN1.out, HNX.out]
          rcases hA2 with rfl | hrc
          · have := (BytesAt.one HTK.out (by intro x e; cases e) ht2 HBK.out).cut c (r - c) cp2 (by rw [Mb.bl_length]; omega)
            rw [cut_at f (8 * k) c (r - c) r (by omega)] at this
            exact this
          · have : r - c = 0 := by omega
            rw [this]
            exact bytesAt_none' _ _ _ _ _
        have HREL := Lib.hid hrel2
        clear hrel2
        by_cases hcc : cp' = c
        · subst hcc
          have hrc : r = cp' := by omega
          have HRC := Lib.hid hrc
          clear hrc
          go_wp2_with fail
          refine (tapeDo_tells HTK.out hki2 hi hcap htold.out HA.out 6 q cp' 0 0 cp' cp').mono ?_
          rintro e w2 ⟨rfl, htk2, htt2⟩
          go_wp2
          go_roundw
          case rel =>
            refine ⟨k + 1, some ⟨gb, ob, none⟩, 0, by go_num, by rw [HNX.out, ← HQ.out]; congr 1; omega, by rw [HN1.out]; congr 1; have := HRC.out; omega, by rw [HN1.out]; have := HRC.out; omega, by omega, ?_, by omega, by omega, (fun _ a ha => by cases ha; exact HGB.out), htk2.below ((Below.refl _ _).alloc (Nat.le_refl _) _), (HTT.out.trans htt2).alloc _⟩
            have e0 : r - cp' = 0 := by have := HRC.out; omega
            have h0 := HREL.out _ (some ⟨gb, ob, none⟩) 0 (.inr HRC.out) (by omega) (htk2.below ((Below.refl _ _).alloc (Nat.le_refl _) (.cells #[.int .u64 (T k).V, .bool (T k).D, .slice (T k).A (T k).L (T k).cap] 33))) (htt2.alloc _)
            rw [e0] at h0
            exact h0
          case measure => simp [intOf]; omega
        · go_wp2_with fail
          refine (tapeDo_tells HTK.out hki2 hi hcap htold.out HA.out 6 q c 0 0 c cp').mono ?_
          rintro e w2 ⟨rfl, htk2, htt2⟩
          go_wp2
          go_roundw
          case rel =>
            refine ⟨k + 1, some ⟨gb, ob + c, none⟩, cp' - c, by go_num, by rw [HNX.out, ← HQ.out]; congr 1; omega, by rw [HN1.out], by rw [HN1.out]; omega, by omega, ?_, by omega, by omega, (fun _ a ha => by cases ha; exact HGB.out), htk2.below ((Below.refl _ _).alloc (Nat.le_refl _) _), (HTT.out.trans htt2).alloc _⟩
            exact HREL.out _ _ _ (.inl rfl) (by omega) (htk2.below ((Below.refl _ _).alloc (Nat.le_refl _) _)) (htt2.alloc _)
          case measure => simp [intOf]; omega
      · obtain rfl : k = i := by omega
        go_wp2_with fail
        refine (tapeDo_wants HTK.out 6 q c 0 0 c cp').mono ?_
        rintro e w2 ⟨rfl, htk2, htt2⟩
        go_wp2
        go_ret
        refine ⟨false, rfl, ((Touch.of_below hw1.out).trans (HTT.out.trans htt2)).alloc _, .inl ⟨HK8.out, some ⟨gb, ob, none⟩, c, cp', ?_, ?_, fun a ha => by cases ha; exact HGB.out⟩⟩
        · rw [HQ.out, HCQ.out.2, HCQ.out.1]
          exact htk2.below ((Below.refl _ _).alloc (Nat.le_refl _) _)
        · rw [HCQ.out.2, HCQ.out.1]
          have := ((BytesAt.one HTK.out (by intro x e; cases e) htt2 HBK.out).alloc (.cells #[.int .u64 0, .bool false, .slice none 0 0] 33)).cut 0 c cp' (by rw [Mb.bl_length]; omega)
          rw [cut_at f (8 * k) 0 c r (by omega)] at this
          exact this
    · have hkm2 : k = m := by omega
      have hkn : n ≤ 8 * k := by have := HL.out; omega
      have HKN := Lib.hid hkn
      have hg1 : (m : Int) ≤ k := by omega
      have HTK := Lib.hid htk
      have HTT := Lib.hid htt
      clear htk htt hkm2 hkn
      go_wp2
      go_ret
      exact ⟨true, rfl, (Touch.of_below hw1.out).trans HTT.out, .inr ⟨by have := HKN.out; omega, k, HTK.out⟩⟩

theorem tapeIn_any {w : World} {p cap i : Nat} {A : Option Addr} (h : Tp w p A cap i 0 0 0 0 0 0 (.slice none 0 0) false) (hi : i ≤ cap) (hcap : cap ≤ 9223372036854775807) {T : Nat → Ans} (hT : ToldAt w A i T) (hA : 0 < i → ∀ a, A = some a → a.block ≠ p)
    (at_ : Int) (hat0 : -4611686018427387904 ≤ at_) (hat1 : at_ ≤ 4611686018427387904) (B : Option Addr) (n cp : Nat) (f : Nat → Nat) (hB : BytesAt w (.slice B n cp) (Mb.bl f 0 n)) (hn : n ≤ 131072) (hcp : n ≤ cp) (hcp2 : cp ≤ 9223372036854775807) :
    Calls Tryz.prog 44 #[.pointer (some ⟨p, 0, none⟩), .int .i64 at_, .slice B n cp] w (SaidIn p A cap i at_ f n w) :=
  (tapeIn_lies (K := fun _ => True) h hi hcap hT hA at_ hat0 hat1 B n cp f hB hn hcp hcp2 (fun _ _ _ => trivial)).mono fun _ _ hs => hs.said
end Go.Proofs.YthpppoalnanmjaaGreat
namespace Go.Proofs.YthpppoalnanmjaaGreat
open Go.RowKit

/-- An answer that was told, as a machine takes it. -/
def Ans.an (x : Ans) : An := ⟨x.V, x.D, x.bs⟩

set_option maxRecDepth 100000 in
set_option maxHeartbeats 800000 in
theorem tapeLoad_tells {w : World} {p cap n j : Nat} {A : Option Addr} {K0 P0 N0 V0 U0 : Int} {A0 : Option Addr} {L0 c0 : Nat} (h : Tp w p A cap n j K0 P0 N0 V0 U0 (.slice A0 L0 c0) false) (hj : j < n) (hn : n ≤ cap) (hcap : cap ≤ 9223372036854775807)
    {T : Nat → Ans} (hT : ToldAt w A n T) (hA : 0 < n → ∀ a, A = some a → a.block ≠ p) (at_ k : Int) :
    Calls Tryz.prog 38 #[.pointer (some ⟨p, 0, none⟩), .int .i64 at_, .int .i64 k] w (fun e w' => e = .returned (.tuple #[.int .u64 (T j).V, .bool true]) ∧ Tp w' p A cap n (j + 1) K0 P0 N0 V0 U0 (.slice A0 L0 c0) false ∧ Touch (One p) w w') := by
  have HD := Lib.hid (tapeDo_tells (B := none) h hj hn hcap hT hA 1 at_ k 0 0 0 0)
  generalize T j = x at HD ⊢
  clear h hT hA
  go_enter Tryz.func38, Tryz.ntmps38
  go_wp2_with (go_at_call 65; refine HD.out.mono ?_; rintro e w1 ⟨rfl, ht, hto⟩; have HTO := Lib.hid (And.intro ht hto); clear ht hto)
  refine bodyPost_ret (v := .tuple #[.int .u64 x.V, .bool true]) (by simp [results, Tryz.results38, go_sem]) rfl ?_
  exact ⟨rfl, HTO.out.1.below ((Below.refl _ _).alloc (Nat.le_refl _) _), HTO.out.2.alloc _⟩

set_option maxRecDepth 100000 in
set_option maxHeartbeats 800000 in
theorem tapeLoad_wants {w : World} {p cap n : Nat} {A : Option Addr} {K0 P0 N0 V0 U0 : Int} {A0 : Option Addr} {L0 c0 : Nat} (h : Tp w p A cap n n K0 P0 N0 V0 U0 (.slice A0 L0 c0) false) (at_ k : Int) :
    Calls Tryz.prog 38 #[.pointer (some ⟨p, 0, none⟩), .int .i64 at_, .int .i64 k] w (fun e w' => e = .returned (.tuple #[.int .u64 0, .bool false]) ∧ Tp w' p A cap n n 1 at_ k 0 0 (.slice none 0 0) true ∧ Touch (One p) w w') := by
  have HD := Lib.hid (tapeDo_wants (B := none) h 1 at_ k 0 0 0 0)
  clear h
  go_enter Tryz.func38, Tryz.ntmps38
  go_wp2_with (go_at_call 65; refine HD.out.mono ?_; rintro e w1 ⟨rfl, ht, hto⟩; have HTO := Lib.hid (And.intro ht hto); clear ht hto)
  refine bodyPost_ret (v := .tuple #[.int .u64 0, .bool false]) (by simp [results, Tryz.results38, go_sem]) rfl ?_
  exact ⟨rfl, HTO.out.1.below ((Below.refl _ _).alloc (Nat.le_refl _) _), HTO.out.2.alloc _⟩

set_option maxRecDepth 100000 in
set_option maxHeartbeats 800000 in
theorem tapeStore_tells {w : World} {p cap n j : Nat} {A : Option Addr} {K0 P0 N0 V0 U0 : Int} {A0 : Option Addr} {L0 c0 : Nat} (h : Tp w p A cap n j K0 P0 N0 V0 U0 (.slice A0 L0 c0) false) (hj : j < n) (hn : n ≤ cap) (hcap : cap ≤ 9223372036854775807)
    {T : Nat → Ans} (hT : ToldAt w A n T) (hA : 0 < n → ∀ a, A = some a → a.block ≠ p) (at_ k V : Int) :
    Calls Tryz.prog 40 #[.pointer (some ⟨p, 0, none⟩), .int .i64 at_, .int .i64 k, .int .u64 V] w (fun e w' => e = .returned (.bool true) ∧ Tp w' p A cap n (j + 1) K0 P0 N0 V0 U0 (.slice A0 L0 c0) false ∧ Touch (One p) w w') := by
  have HD := Lib.hid (tapeDo_tells (B := none) h hj hn hcap hT hA 2 at_ k V 0 0 0)
  generalize T j = x at HD ⊢
  clear h hT hA
  go_enter Tryz.func40, Tryz.ntmps40
  go_wp2_with (go_at_call 65; refine HD.out.mono ?_; rintro e w1 ⟨rfl, ht, hto⟩; have HTO := Lib.hid (And.intro ht hto); clear ht hto)
  refine bodyPost_ret (v := .bool true) (by simp [results, Tryz.results40, go_sem]) rfl ?_
  exact ⟨rfl, HTO.out.1.below ((Below.refl _ _).alloc (Nat.le_refl _) _), HTO.out.2.alloc _⟩

set_option maxRecDepth 100000 in
set_option maxHeartbeats 800000 in
theorem tapeStore_wants {w : World} {p cap n : Nat} {A : Option Addr} {K0 P0 N0 V0 U0 : Int} {A0 : Option Addr} {L0 c0 : Nat} (h : Tp w p A cap n n K0 P0 N0 V0 U0 (.slice A0 L0 c0) false) (at_ k V : Int) :
    Calls Tryz.prog 40 #[.pointer (some ⟨p, 0, none⟩), .int .i64 at_, .int .i64 k, .int .u64 V] w (fun e w' => e = .returned (.bool false) ∧ Tp w' p A cap n n 2 at_ k V 0 (.slice none 0 0) true ∧ Touch (One p) w w') := by
  have HD := Lib.hid (tapeDo_wants (B := none) h 2 at_ k V 0 0 0)
  clear h
  go_enter Tryz.func40, Tryz.ntmps40
  go_wp2_with (go_at_call 65; refine HD.out.mono ?_; rintro e w1 ⟨rfl, ht, hto⟩; have HTO := Lib.hid (And.intro ht hto); clear ht hto)
  refine bodyPost_ret (v := .bool false) (by simp [results, Tryz.results40, go_sem]) rfl ?_
  exact ⟨rfl, HTO.out.1.below ((Below.refl _ _).alloc (Nat.le_refl _) _), HTO.out.2.alloc _⟩

set_option maxRecDepth 100000 in
set_option maxHeartbeats 800000 in
theorem tapeCas_tells {w : World} {p cap n j : Nat} {A : Option Addr} {K0 P0 N0 V0 U0 : Int} {A0 : Option Addr} {L0 c0 : Nat} (h : Tp w p A cap n j K0 P0 N0 V0 U0 (.slice A0 L0 c0) false) (hj : j < n) (hn : n ≤ cap) (hcap : cap ≤ 9223372036854775807)
    {T : Nat → Ans} (hT : ToldAt w A n T) (hA : 0 < n → ∀ a, A = some a → a.block ≠ p) (at_ k V U : Int) :
    Calls Tryz.prog 42 #[.pointer (some ⟨p, 0, none⟩), .int .i64 at_, .int .i64 k, .int .u64 V, .int .u64 U] w (fun e w' => e = .returned (.tuple #[.bool (T j).D, .bool true]) ∧ Tp w' p A cap n (j + 1) K0 P0 N0 V0 U0 (.slice A0 L0 c0) false ∧ Touch (One p) w w') := by
  have HD := Lib.hid (tapeDo_tells (B := none) h hj hn hcap hT hA 4 at_ k V U 0 0)
  generalize T j = x at HD ⊢
  clear h hT hA
  go_enter Tryz.func42, Tryz.ntmps42
  go_wp2_with (go_at_call 65; refine HD.out.mono ?_; rintro e w1 ⟨rfl, ht, hto⟩; have HTO := Lib.hid (And.intro ht hto); clear ht hto)
  refine bodyPost_ret (v := .tuple #[.bool x.D, .bool true]) (by simp [results, Tryz.results42, go_sem]) rfl ?_
  exact ⟨rfl, HTO.out.1.below ((Below.refl _ _).alloc (Nat.le_refl _) _), HTO.out.2.alloc _⟩

set_option maxRecDepth 100000 in
set_option maxHeartbeats 800000 in
theorem tapeCas_wants {w : World} {p cap n : Nat} {A : Option Addr} {K0 P0 N0 V0 U0 : Int} {A0 : Option Addr} {L0 c0 : Nat} (h : Tp w p A cap n n K0 P0 N0 V0 U0 (.slice A0 L0 c0) false) (at_ k V U : Int) :
    Calls Tryz.prog 42 #[.pointer (some ⟨p, 0, none⟩), .int .i64 at_, .int .i64 k, .int .u64 V, .int .u64 U] w (fun e w' => e = .returned (.tuple #[.bool false, .bool false]) ∧ Tp w' p A cap n n 4 at_ k V U (.slice none 0 0) true ∧ Touch (One p) w w') := by
  have HD := Lib.hid (tapeDo_wants (B := none) h 4 at_ k V U 0 0)
  clear h
  go_enter Tryz.func42, Tryz.ntmps42
  go_wp2_with (go_at_call 65; refine HD.out.mono ?_; rintro e w1 ⟨rfl, ht, hto⟩; have HTO := Lib.hid (And.intro ht hto); clear ht hto)
  refine bodyPost_ret (v := .tuple #[.bool false, .bool false]) (by simp [results, Tryz.results42, go_sem]) rfl ?_
  exact ⟨rfl, HTO.out.1.below ((Below.refl _ _).alloc (Nat.le_refl _) _), HTO.out.2.alloc _⟩

/-- A tape that stands at j, nothing is wanted yet. -/
abbrev TpOpen (w : World) (p : Nat) (A : Option Addr) (cap i j : Nat) : Prop := Tp w p A cap i j 0 0 0 0 0 (.slice none 0 0) false
/-- A tape that wants the access a. -/
def TpWant (w : World) (p : Nat) (A : Option Addr) (cap i : Nat) (a : Ac) : Prop := ∃ B l c, Tp w p A cap i i a.K a.P a.N (a.V : Int) (a.U : Int) (.slice B l c) true ∧ BytesAt w (.slice B l c) a.bs

theorem tapeLoad_any {w : World} {p cap i j : Nat} {A : Option Addr} (h : TpOpen w p A cap i j) (hj : j ≤ i) (hi : i ≤ cap) (hcap : cap ≤ 9223372036854775807) {T : Nat → Ans} (hT : ToldAt w A i T) (hA : 0 < i → ∀ a, A = some a → a.block ≠ p) (at_ k : Int) :
    Calls Tryz.prog 38 #[.pointer (some ⟨p, 0, none⟩), .int .i64 at_, .int .i64 k] w (fun e w' => ∃ (v : Nat) (ok : Bool), e = .returned (.tuple #[.int .u64 v, .bool ok]) ∧ Touch (One p) w w' ∧ ((ok = true ∧ j < i ∧ v = (T j).V ∧ TpOpen w' p A cap i (j + 1)) ∨ (ok = false ∧ j = i ∧ v = 0 ∧ TpWant w' p A cap i ⟨1, at_, k, 0, 0, []⟩))) := by
  by_cases hlt : j < i
  · refine (tapeLoad_tells h hlt hi hcap hT hA at_ k).mono ?_
    rintro e w' ⟨rfl, ht, hto⟩
    exact ⟨(T j).V, true, rfl, hto, .inl ⟨rfl, hlt, rfl, ht⟩⟩
  · obtain rfl : j = i := by omega
    refine (tapeLoad_wants h at_ k).mono ?_
    rintro e w' ⟨rfl, ht, hto⟩
    exact ⟨0, false, rfl, hto, .inr ⟨rfl, rfl, rfl, none, 0, 0, ht, BytesAt.nil _⟩⟩

theorem tapeStore_any {w : World} {p cap i j : Nat} {A : Option Addr} (h : TpOpen w p A cap i j) (hj : j ≤ i) (hi : i ≤ cap) (hcap : cap ≤ 9223372036854775807) {T : Nat → Ans} (hT : ToldAt w A i T) (hA : 0 < i → ∀ a, A = some a → a.block ≠ p) (at_ k : Int) (V : Nat) :
    Calls Tryz.prog 40 #[.pointer (some ⟨p, 0, none⟩), .int .i64 at_, .int .i64 k, .int .u64 V] w (fun e w' => ∃ (ok : Bool), e = .returned (.bool ok) ∧ Touch (One p) w w' ∧ ((ok = true ∧ j < i ∧ True ∧ TpOpen w' p A cap i (j + 1)) ∨ (ok = false ∧ j = i ∧ True ∧ TpWant w' p A cap i ⟨2, at_, k, V, 0, []⟩))) := by
  by_cases hlt : j < i
  · refine (tapeStore_tells h hlt hi hcap hT hA at_ k V).mono ?_
    rintro e w' ⟨rfl, ht, hto⟩
    exact ⟨true, rfl, hto, .inl ⟨rfl, hlt, trivial, ht⟩⟩
  · obtain rfl : j = i := by omega
    refine (tapeStore_wants h at_ k V).mono ?_
    rintro e w' ⟨rfl, ht, hto⟩
    exact ⟨false, rfl, hto, .inr ⟨rfl, rfl, trivial, none, 0, 0, ht, BytesAt.nil _⟩⟩

theorem tapeCas_any {w : World} {p cap i j : Nat} {A : Option Addr} (h : TpOpen w p A cap i j) (hj : j ≤ i) (hi : i ≤ cap) (hcap : cap ≤ 9223372036854775807) {T : Nat → Ans} (hT : ToldAt w A i T) (hA : 0 < i → ∀ a, A = some a → a.block ≠ p) (at_ k : Int) (V U : Nat) :
    Calls Tryz.prog 42 #[.pointer (some ⟨p, 0, none⟩), .int .i64 at_, .int .i64 k, .int .u64 V, .int .u64 U] w (fun e w' => ∃ (d ok : Bool), e = .returned (.tuple #[.bool d, .bool ok]) ∧ Touch (One p) w w' ∧ ((ok = true ∧ j < i ∧ d = (T j).D ∧ TpOpen w' p A cap i (j + 1)) ∨ (ok = false ∧ j = i ∧ d = false ∧ TpWant w' p A cap i ⟨4, at_, k, V, U, []⟩))) := by
  by_cases hlt : j < i
  · refine (tapeCas_tells h hlt hi hcap hT hA at_ k V U).mono ?_
    rintro e w' ⟨rfl, ht, hto⟩
    exact ⟨(T j).D, true, rfl, hto, .inl ⟨rfl, hlt, rfl, ht⟩⟩
  · obtain rfl : j = i := by omega
    refine (tapeCas_wants h at_ k V U).mono ?_
    rintro e w' ⟨rfl, ht, hto⟩
    exact ⟨false, false, rfl, hto, .inr ⟨rfl, rfl, rfl, none, 0, 0, ht, BytesAt.nil _⟩⟩

end Go.Proofs.YthpppoalnanmjaaGreat
namespace Go.Proofs.YthpppoalnanmjaaGreat
open Go.RowKit

/-- What a tape that was told i answers, j0 of them taken, says of n bytes of f, written at 'at': the access that is wanted next, or that all was told. -/
def SaidFrom (p : Nat) (A : Option Addr) (cap i j0 : Nat) (at_ : Int) (f : Nat → Nat) (n : Nat) (w : World) (e : Ending) (w' : World) : Prop :=
  ∃ b, e = .returned (.bool b) ∧ Touch (One p) w w' ∧
    ((8 * (i - j0) < n ∧ b = false ∧ ∃ B L c, Tp w' p A cap i i 6 (at_ + (8 * (i - j0) : Nat)) (Cy.nx (n - 8 * (i - j0)) : Nat) 0 0 (.slice B L c) true ∧ BytesAt w' (.slice B L c) (Mb.bl f (8 * (i - j0)) (Cy.nx (n - 8 * (i - j0))))) ∨
     (n ≤ 8 * (i - j0) ∧ b = true ∧ Tp w' p A cap i (j0 + (n + 7) / 8) 0 0 0 0 0 (.slice none 0 0) false))

set_option maxRecDepth 100000 in
set_option maxHeartbeats 2000000 in
theorem tapeIn_from {w : World} {p cap i j0 : Nat} {A : Option Addr} (h : Tp w p A cap i j0 0 0 0 0 0 (.slice none 0 0) false) (hj0 : j0 ≤ i) (hi : i ≤ cap) (hcap : cap ≤ 9223372036854775807) {T : Nat → Ans} (hT : ToldAt w A i T) (hA : 0 < i → ∀ a, A = some a → a.block ≠ p)
    (at_ : Int) (hat0 : -4611686018427387904 ≤ at_) (hat1 : at_ ≤ 4611686018427387904) (B : Option Addr) (n cp : Nat) (f : Nat → Nat) (hB : BytesAt w (.slice B n cp) (Mb.bl f 0 n)) (hn : n ≤ 131072) (hcp : n ≤ cp) (hcp2 : cp ≤ 9223372036854775807) :
    Calls Tryz.prog 44 #[.pointer (some ⟨p, 0, none⟩), .int .i64 at_, .slice B n cp] w (SaidFrom p A cap i j0 at_ f n w) := by
  have hlt := h.lt
  have HT := Lib.hid h
  have HTo := Lib.hid hT
  have HA := Lib.hid hA
  have HB := Lib.hid hB
  clear h hT hA hB
  go_enter Tryz.func44, Tryz.ntmps44
  go_wp2_with fail
  refine (refChunks_parts n w).mono ?_
  rintro e w1 ⟨v1, rfl, ⟨A1, c1, rfl, p1, p2, p3⟩, hb1⟩
  rw [Cy.few_nat hn] at p1 p3 ⊢
  have hlen := Cy.cks_length n
  generalize hm : (Cy.cks n).length = m at p1 p3 hlen ⊢
  have HT1 := Lib.hid (HT.out.below hb1)
  have HTo1 := Lib.hid (HTo.out.below hb1)
  have HB1 := Lib.hid (HB.out.below hb1)
  have HP3 := Lib.hid p3
  have hs1 := hb1.size
  have hw1 := Lib.hid hb1
  have HM := Lib.hid hm
  have hm1 : m ≤ 16384 := by omega
  have HL := Lib.hid hlen
  clear p3 hb1 hm hlen
  go_wp2_with fail
  go_loopw [1, 2, 15] (fun a b t wr => ∃ (k : Nat) (A' : Option Addr) (cp' : Nat), t = .int .i64 k ∧ a = .int .i64 (at_ + (Cy.at_ n k : Nat)) ∧ b = .slice A' (n - Cy.at_ n k) cp' ∧ n - Cy.at_ n k ≤ cp' ∧ cp' ≤ 9223372036854775807 ∧ BytesAt wr b (Mb.bl f (Cy.at_ n k) (n - Cy.at_ n k)) ∧ k ≤ m ∧ j0 + k ≤ i ∧
      Tp wr p A cap i (j0 + k) 0 0 0 0 0 (.slice none 0 0) false ∧ Touch (One p) w1 wr) (fun _ _ t _ => m - (intOf t).toNat)
  case atStart => 
    refine ⟨0, B, cp, rfl, by rw [Cy.at_zero]; simp, by rw [Cy.at_zero]; rfl, by omega, hcp2, ?_, by omega, by omega, HT1.out, Touch.refl _ _⟩
    rw [Cy.at_zero]; exact HB1.out
  case round =>
    obtain ⟨k, A', cp', rfl, rfl, rfl, hq1, hq2, hbk, hkm, hki, htk, htt⟩ := hrel
    by_cases hlt : k < m
    · have hk8 : 8 * k < n := by have := HL.out; omega
      have hd := Cy.at_here hk8
      have hnx := Cy.at_next hk8
      rw [hd] at hnx hq1 hbk ⊢
      have hc0 := Cy.nx_pos (r := n - 8 * k) (by omega)
      have hc1 := Cy.nx_le (n - 8 * k)
      obtain ⟨cb, co, rfl, ⟨hcb, _⟩, hcl, hcell⟩ := HP3.out (by omega)
      have hcp : cb ≠ p := by omega
      have hck := (htt.cell (p := ⟨cb, co + k, none⟩) hcl hcp).trans (hcell k hlt)
      rw [← HM.out] at hlt
      have hgd := Cy.cks_getD n k hk8
      rw [hgd] at hck
      rw [HM.out] at hlt
      generalize hcq : Cy.nx (n - 8 * k) = c at hc0 hc1 hck hnx hgd
      generalize hrq : n - 8 * k = r at hc1 hq1 hbk hcq ⊢
      have HCQ := Lib.hid (And.intro hcq hrq)
      have HNX := Lib.hid hnx
      have hrn : r ≤ 131072 := by omega
      have HK8 := Lib.hid hk8
      obtain ⟨gb, ob, rfl⟩ : ∃ gb ob, A' = some ⟨gb, ob, none⟩ := by
        obtain ⟨A2, c2, hv, hx⟩ := hbk
        obtain ⟨gb, ob, e, _⟩ := hx (by rw [Mb.bl_length]; omega)
        injection hv with e1 _ _
        exact ⟨gb, ob, e1.trans e⟩
      have HBK := Lib.hid hbk
      have HTK := Lib.hid htk
      have HTT := Lib.hid htt
      have htold := Lib.hid (HTo1.out.one HT1.out (by intro x e; cases e) htt HA.out)
      have hg1 : (k : Int) < m := by omega
      have hg2 : (0 : Int) ≤ c := by omega
      have hg3 : (c : Int) ≤ r := by omega
      have hg4 : (r : Int) ≤ cp' := by omega
      have hk13 : k ≤ 16384 := by omega
      have hg5 : IntKind.i64.wrap (at_ + ((8 * k : Nat) : Int) + (c : Int)) = at_ + ((8 * k : Nat) : Int) + c := IntWalk.i64_in _ (by omega)
      have hq3 : -4611686018427387904 ≤ at_ + ((8 * k : Nat) : Int) := by omega
      have hq4 : at_ + ((8 * k : Nat) : Int) ≤ 4611686018427518976 := by omega
      generalize hqq : at_ + ((8 * k : Nat) : Int) = q at hg5 hq3 hq4 ⊢
      have HQ := Lib.hid hqq
      have hn1 : n - Cy.at_ n (k + 1) = r - c := by rw [hnx]; omega
      have HN1 := Lib.hid hn1
      clear hcell hgd hcq hrq hd hnx hbk htk htt hk8 hqq hn1
      by_cases hki2 : j0 + k < i
      · have hrel2 : ∀ (w2 : World) (A2 : Option Addr) (cp2 : Nat), (A2 = some ⟨gb, ob + c, none⟩ ∨ r = c) → r - c ≤ cp2 → Tp w2 p A cap i (j0 + k + 1) 0 0 0 0 0 (.slice none 0 0) false → Touch (One p) wr w2 →
            BytesAt w2 (.slice A2 (r - c) cp2) (Mb.bl f (Cy.at_ n (k + 1)) (n - Cy.at_ n (k + 1))) := by
          intro w2 A2 cp2 hA2 _ _ ht2
          rw [HN1.out, HNX.out]
          rcases hA2 with rfl | hrc
          · have := (BytesAt.one HTK.out (by intro x e; cases e) ht2 HBK.out).cut c (r - c) cp2 (by rw [Mb.bl_length]; omega)
            rw [cut_at f (8 * k) c (r - c) r (by omega)] at this
            exact this
          · have : r - c = 0 := by omega
            rw [this]
            exact bytesAt_none' _ _ _ _ _
        have HREL := Lib.hid hrel2
        clear hrel2
        by_cases hcc : cp' = c
        · subst hcc
          have hrc : r = cp' := by omega
          have HRC := Lib.hid hrc
          clear hrc
          go_wp2_with fail
          refine (tapeDo_tells HTK.out hki2 hi hcap htold.out HA.out 6 q cp' 0 0 cp' cp').mono ?_
          rintro e w2 ⟨rfl, htk2, htt2⟩
          go_wp2
          go_roundw
          case rel =>
            refine ⟨k + 1, some ⟨gb, ob, none⟩, 0, by go_num, by rw [HNX.out, ← HQ.out]; congr 1; omega, by rw [HN1.out]; congr 1; have := HRC.out; omega, by rw [HN1.out]; have := HRC.out; omega, by omega, ?_, by omega, by omega, htk2.below ((Below.refl _ _).alloc (Nat.le_refl _) _), (HTT.out.trans htt2).alloc _⟩
            have e0 : r - cp' = 0 := by have := HRC.out; omega
            have h0 := HREL.out _ (some ⟨gb, ob, none⟩) 0 (.inr HRC.out) (by omega) (htk2.below ((Below.refl _ _).alloc (Nat.le_refl _) (.cells #[.int .u64 (T (j0 + k)).V, .bool (T (j0 + k)).D, .slice (T (j0 + k)).A (T (j0 + k)).L (T (j0 + k)).cap] 33))) (htt2.alloc _)
            rw [e0] at h0
            exact h0
          case measure => simp [intOf]; omega
        · go_wp2_with fail
          refine (tapeDo_tells HTK.out hki2 hi hcap htold.out HA.out 6 q c 0 0 c cp').mono ?_
          rintro e w2 ⟨rfl, htk2, htt2⟩
          go_wp2
          go_roundw
          case rel =>
            refine ⟨k + 1, some ⟨gb, ob + c, none⟩, cp' - c, by go_num, by rw [HNX.out, ← HQ.out]; congr 1; omega, by rw [HN1.out], by rw [HN1.out]; omega, by omega, ?_, by omega, by omega, htk2.below ((Below.refl _ _).alloc (Nat.le_refl _) _), (HTT.out.trans htt2).alloc _⟩
            exact HREL.out _ _ _ (.inl rfl) (by omega) (htk2.below ((Below.refl _ _).alloc (Nat.le_refl _) _)) (htt2.alloc _)
          case measure => simp [intOf]; omega
      · obtain rfl : i = j0 + k := by omega
        go_wp2_with fail
        refine (tapeDo_wants HTK.out 6 q c 0 0 c cp').mono ?_
        rintro e w2 ⟨rfl, htk2, htt2⟩
        go_wp2
        go_ret
        refine ⟨false, rfl, ((Touch.of_below hw1.out).trans (HTT.out.trans htt2)).alloc _, .inl ⟨by rw [show j0 + k - j0 = k by omega]; exact HK8.out, rfl, some ⟨gb, ob, none⟩, c, cp', ?_, ?_⟩⟩
        · rw [show j0 + k - j0 = k by omega, HQ.out, HCQ.out.2, HCQ.out.1]
          exact htk2.below ((Below.refl _ _).alloc (Nat.le_refl _) _)
        · rw [show j0 + k - j0 = k by omega, HCQ.out.2, HCQ.out.1]
          have := ((BytesAt.one HTK.out (by intro x e; cases e) htt2 HBK.out).alloc (.cells #[.int .u64 0, .bool false, .slice none 0 0] 33)).cut 0 c cp' (by rw [Mb.bl_length]; omega)
          rw [cut_at f (8 * k) 0 c r (by omega)] at this
          exact this
    · have hkm2 : k = m := by omega
      have hkn : n ≤ 8 * k := by have := HL.out; omega
      have HKN := Lib.hid hkn
      have hg1 : (m : Int) ≤ k := by omega
      have HTK := Lib.hid htk
      have HTT := Lib.hid htt
      have HKM := Lib.hid hkm2
      clear htk htt hkm2 hkn
      go_wp2
      go_ret
      have hmk : k = (n + 7) / 8 := by have := HL.out; have := HKM.out; omega
      exact ⟨true, rfl, (Touch.of_below hw1.out).trans HTT.out, .inr ⟨by have := HKN.out; omega, rfl, by rw [← hmk]; exact HTK.out⟩⟩
end Go.Proofs.YthpppoalnanmjaaGreat
namespace Go.Proofs.YthpppoalnanmjaaGreat
open Go.RowKit

/-- A put behind the first j answers. -/
def Pm.at (m : Pm) (T : Nat → Ans) : Nat → Pm
  | 0 => m
  | j + 1 => (m.at T j).take (T j).an

theorem Pm.at_succ {m : Pm} {T : Nat → Ans} {j : Nat} {s : Rs} (h : m.at T j = .live s) : m.at T (j + 1) = .live (s.take (T j).an) := by
  show (m.at T j).take (T j).an = _
  rw [h]
  rfl

theorem Pm.at_end {m : Pm} {T : Nat → Ans} {j : Nat} {s : Rs} (h : m.at T j = .live s) (hf : s.ph = .fin) : ∀ n, m.at T (j + n) = .live s := by
  intro n
  induction n with
  | zero => exact h
  | succ n ih =>
    have := Pm.at_succ ih
    rw [show s.take (T (j + n)).an = s by unfold Rs.take; rw [hf]] at this
    exact this

theorem Pm.at_dead {m : Pm} {T : Nat → Ans} {Z er : Int} (h : m = .dead Z er) : ∀ n, m.at T n = .dead Z er := by
  intro n
  induction n with
  | zero => exact h
  | succ n ih =>
    show (m.at T n).take (T n).an = _
    rw [ih]
    rfl

theorem Pm.at_byt {m : Pm} {T : Nat → Ans} {j : Nat} {s : Rs} (h : m.at T j = .live s) (hp : s.ph = .hdr) : ∀ k, 8 * k < s.L → m.at T (j + 1 + k) = .live { s with ph := .byt (8 * k) } := by
  intro k
  induction k with
  | zero =>
    intro hk
    have := Pm.at_succ h
    rw [show s.take (T j).an = { s with ph := .byt 0 } by unfold Rs.take; rw [hp]; simp only; rw [if_neg (by omega)]] at this
    exact this
  | succ k ih =>
    intro hk
    have h1 := ih (by omega)
    have h2 := Pm.at_succ h1
    have hn : Cy.nx (s.L - 8 * k) = 8 := by unfold Cy.nx; split <;> omega
    rw [show ({ s with ph := .byt (8 * k) } : Rs).take (T (j + 1 + k)).an = { s with ph := .byt (8 * (k + 1)) } by
      unfold Rs.take
      simp only [hn]
      rw [if_neg (by omega)]
      rfl] at h2
    exact h2

theorem Pm.at_len {m : Pm} {T : Nat → Ans} {j : Nat} {s : Rs} (h : m.at T j = .live s) (hp : s.ph = .hdr) : m.at T (j + 1 + (s.L + 7) / 8) = .live { s with ph := .len } := by
  by_cases hz : s.L = 0
  · have := Pm.at_succ h
    rw [show s.take (T j).an = { s with ph := .len } by unfold Rs.take; rw [hp]; simp only; rw [if_pos hz]] at this
    rw [show (s.L + 7) / 8 = 0 by omega]
    exact this
  · obtain ⟨k, hk⟩ : ∃ k, (s.L + 7) / 8 = k + 1 := ⟨(s.L + 7) / 8 - 1, by omega⟩
    have h1 := Pm.at_byt h hp k (by omega)
    have h2 := Pm.at_succ h1
    have hn : Cy.nx (s.L - 8 * k) = s.L - 8 * k := by unfold Cy.nx; split <;> omega
    rw [show ({ s with ph := .byt (8 * k) } : Rs).take (T (j + 1 + k)).an = { s with ph := .len } by
      unfold Rs.take
      simp only [hn]
      rw [if_pos (by omega)]] at h2
    rw [hk]
    exact h2

/-- What the document's put on a tape that was told i answers is to say of the put m: its position, whether it has one, how it ended; and what the tape wants. -/
def PutSays (p : Nat) (A : Option Addr) (cap i : Nat) (m : Pm) (w : World) (e : Ending) (w' : World) : Prop :=
  ∃ pos hs er, e = .returned (.tuple #[.int .i64 pos, .bool hs, .int .i64 er]) ∧ Touch (One p) w w' ∧ hs = m.has ∧ er = m.result.2 ∧ (er = 0 → pos = m.pos) ∧
    ∃ a B l c j, Tp w' p A cap i j a.K a.P a.N (a.V : Int) (a.U : Int) (.slice B l c) m.busy ∧ BytesAt w' (.slice B l c) a.bs ∧ a = m.next.getD Ac.zero

/-- A put that wants its next access. -/
theorem putSays_wants {p cap i : Nat} {A : Option Addr} {m : Pm} {s : Rs} {a : Ac} {w w' : World} {pos : Int} {B : Option Addr} {l c : Nat} (hm : m = .live s) (hn : s.next = some a) (hz : s.Z ≠ 0) (ht : Touch (One p) w w') (htp : Tp w' p A cap i i a.K a.P a.N (a.V : Int) (a.U : Int) (.slice B l c) true) (hb : BytesAt w' (.slice B l c) a.bs) :
    PutSays p A cap i m w (.returned (.tuple #[.int .i64 pos, .bool s.cl, .int .i64 10])) w' := by
  subst hm
  have hbusy : (Pm.live s).busy = true := by show s.next.isSome = true; rw [hn]; rfl
  refine ⟨pos, s.cl, 10, rfl, ht, rfl, ?_, fun h => absurd h (by decide), a, B, l, c, i, by rw [hbusy]; exact htp, hb, ?_⟩
  · unfold Pm.result
    rw [if_neg (by show ¬ (s.Z : Int) = 0; omega), if_pos hbusy]
  · show a = s.next.getD Ac.zero
    rw [hn]
    rfl

/-- A put at its end. -/
theorem putSays_end {p cap i j : Nat} {A : Option Addr} {m : Pm} {s : Rs} {w w' : World} {pos : Int} (hm : m = .live s) (hn : s.ph = .fin) (hz : s.Z ≠ 0) (hpos : s.er = 0 → pos = s.p) (ht : Touch (One p) w w') (htp : Tp w' p A cap i j 0 0 0 0 0 (.slice none 0 0) false) :
    PutSays p A cap i m w (.returned (.tuple #[.int .i64 pos, .bool s.cl, .int .i64 s.er])) w' := by
  subst hm
  have hnx : s.next = none := by unfold Rs.next; rw [hn]
  have hbusy : (Pm.live s).busy = false := by show s.next.isSome = false; rw [hnx]; rfl
  refine ⟨pos, s.cl, s.er, rfl, ht, rfl, ?_, hpos, Ac.zero, none, 0, 0, j, by rw [hbusy]; exact htp, BytesAt.nil _, ?_⟩
  · unfold Pm.result
    rw [if_neg (by show ¬ (s.Z : Int) = 0; omega), if_neg (by rw [hbusy]; decide)]
    show s.er = (if s.er = 0 then ((Pm.live s).pos, (0 : Int)) else (0, s.er)).2
    split
    · assumption
    · rfl
  · show Ac.zero = s.next.getD Ac.zero
    rw [hnx]
    rfl
end Go.Proofs.YthpppoalnanmjaaGreat
namespace Go.Proofs.YthpppoalnanmjaaGreat
open Go.RowKit

set_option maxHeartbeats 400000 in
theorem refBytes_no (v n : Int) (w : World) (h : n < 0 ∨ 8 < n) :
    Calls Tryz.prog 92 #[.int .u64 v, .int .i64 n] w fun e w' => e = .returned (.slice none 0 0) ∧ w = w' := by
  rcases h with h | h
  · go_enter Tryz.func92, Tryz.ntmps92
    go_wp2
    go_ret
    exact ⟨rfl, rfl⟩
  · have h' : 0 ≤ n := by omega
    go_enter Tryz.func92, Tryz.ntmps92
    go_wp2
    go_ret
    exact ⟨rfl, rfl⟩

theorem quo_u64 (x : Int) (h0 : 0 ≤ x) (h1 : x ≤ 18446744073709551615) : IntKind.u64.wrap (x.tdiv 256) = x / 256 := by
  rw [Int.tdiv_eq_ediv_of_nonneg h0, IntKind.wrap_u64]
  omega

theorem div_next (v : Int) (k : Nat) : v / 2 ^ (k * 8) / 256 = v / 2 ^ ((k + 1) * 8) := by
  have e : ((2 : Int) ^ ((k + 1) * 8)) = 2 ^ (k * 8) * 256 := by
    rw [Nat.add_mul, Int.pow_add]; rfl
  rw [e, Int.ediv_ediv_of_nonneg (Int.pow_nonneg (by decide))]

set_option maxRecDepth 100000 in
set_option maxHeartbeats 400000 in
theorem refBytes_own (v : Int) (n : Nat) (w : World) (hv : 0 ≤ v) (hv1 : v ≤ 18446744073709551615) (hn : n ≤ 8) :
    Calls Tryz.prog 92 #[.int .u64 v, .int .i64 n] w fun e w' => ∃ x, e = .returned x ∧ Owns w.heap.size w' x (Wd.bs v n) ∧ Below w.heap.size w w' := by
  obtain ⟨i0, hi, hz0, hz1, hz2⟩ := info_parts infoU8
  go_enter Tryz.func92, Tryz.ntmps92
  go_wp2
  go_loopw [0, 5, 6] (fun x r i wr => ∃ k : Nat, k ≤ n ∧ i = .int .i64 k ∧ x = .int .u64 (v / 2 ^ (k * 8)) ∧ Below w.heap.size w wr ∧ wr.ownsRow w.heap.size 5 1 r k ((Wd.bs v k).map (Value.int .u8))) (fun _ _ i _ => n - (intOf i).toNat)
  case atStart =>
    exact ⟨0, by omega, rfl, by simp, Below.refl _ _, World.ownsRow_nil _ _ _ _⟩
  case round =>
    obtain ⟨k, hk, rfl, rfl, hbel, hown⟩ := hrel
    by_cases hlt : k < n
    · have hpos : 0 ≤ v / 2 ^ (k * 8) := Int.ediv_nonneg hv (Int.pow_nonneg (by decide))
      have hsz := hbel.size
      go_wp2_with (at_builtin; refine wpList_append_own _ rfl _ _ 24 rfl w.heap.size 5 i0 (.int .u8 0) 1 1 Tryz.underlying24 hi hz0 hz1 hz2 rfl (by decide) _ _ _ rfl (hown.alloc _) ⟨wr.heap.size, 0, none⟩ 1 1 [.int .u8 (v / 2 ^ (k * 8) % 256)] rfl rfl ?c1 ?c2 ?c3 ?c4 ?c5 ?_)
      case c1 =>
        intro j u hj
        match j, hj with
        | 0, hj => simp at hj; subst hj; simp [Addr.add]
      case c2 => intro u hu; simp at hu; subst hu; rfl
      case c3 => unfold maxLen; omega
      case c4 => omega
      case c5 => simp; omega
      · intro v' w1 hown' hgrow _
        have hown2 : w1.ownsRow w.heap.size 5 1 v' (k + 1) ((Wd.bs v (k + 1)).map (Value.int .u8)) := by
          rw [bs_snoc, List.map_append]; exact hown'
        have hbel2 : Below w.heap.size w w1 := (hbel.alloc hsz _).grown hgrow (by simp; omega) (fun g hg => (hown.lt g hg).1)
        clear hown' hgrow hown hbel
        go_wp2
        go_roundw
        case rel => exact ⟨k + 1, by omega, by go_num, by rw [← div_next, quo_u64 _ hpos (by have := Int.ediv_le_self (2 ^ (k * 8)) hv; omega)], hbel2, hown2⟩
        case measure => simp [intOf]; omega
    · have hkn : k = n := by omega
      have HK := Lib.hid hkn
      clear hkn
      go_wp2
      go_ret
      have hkn := HK.out
      subst hkn
      exact ⟨_, rfl, by unfold Owns; rw [Wd.bs_length]; exact hown, hbel⟩

theorem refBytes_yes (v : Int) (n : Nat) (w : World) (hv : 0 ≤ v) (hv1 : v ≤ 18446744073709551615) (hn : n ≤ 8) :
    Calls Tryz.prog 92 #[.int .u64 v, .int .i64 n] w (MadeBytes (Wd.bs v n) w) :=
  (refBytes_own v n w hv hv1 hn).mono fun _ _ ⟨x, he, hx, hb⟩ => ⟨x, he, hx.bytes, hb⟩

end Go.Proofs.YthpppoalnanmjaaGreat
namespace Go.Proofs.YthpppoalnanmjaaGreat
open Go.RowKit

set_option maxHeartbeats 400000 in
theorem refNumber_short (b off cap : Nat) (xs : List Int) (w : World) (h8 : Wd.Bytes8 xs) (hm : xs.length ≤ 8)
    (hc : ∀ i, i < xs.length → w.cell? ⟨b, off + i, none⟩ = some (.int .u8 (xs.getD i 0))) :
    Calls Tryz.prog 66 #[.slice (some ⟨b, off, none⟩) xs.length cap] w fun e w' => e = .returned (.int .u64 (Wd.num (xs.take 8))) ∧ w = w' := by
  go_enter Tryz.func66, Tryz.ntmps66
  go_wp2
  go_loop [3, 4] (fun v i => ∃ k : Nat, k ≤ xs.length ∧ i = .int .i64 ((k : Int) - 1) ∧ v = .int .u64 (Wd.num ((xs.take 8).drop k))) (fun _ i => (intOf i + 1).toNat)
  case atStart =>
    have hl : (xs.take 8).length = xs.length := by rw [List.length_take]; omega
    exact ⟨xs.length, by omega, by first | rfl | (congr 1; omega), by rw [List.drop_of_length_le (by omega)]; rfl⟩
  case round =>
    obtain ⟨k, hk, rfl, rfl⟩ := hrel
    by_cases hlt : 0 < k
    · obtain ⟨j, rfl⟩ : ∃ j, k = j + 1 := ⟨k - 1, by omega⟩
      have hl : (xs.take 8).length = xs.length := by rw [List.length_take]; omega
      have hcell := hc j (by omega)
      obtain ⟨hb0, hb1⟩ := h8.at_ (show j < xs.length by omega)
      have hg : (xs.take 8).getD j 0 = xs.getD j 0 := by simp [List.getD, show j < 8 by omega]
      have hstep := Wd.drop_num (xs.take 8) j (by omega)
      rw [hg] at hstep
      have hn := Wd.num_small _ (Wd.drop_bytes (Wd.take_bytes h8 8) j) (by rw [List.length_drop]; omega)
      have hn0 := (Wd.num_bounds _ (Wd.drop_bytes (Wd.take_bytes h8 8) (j + 1))).1
      have H2 := Lib.hid hstep
      have HN := Lib.hid hn
      have H5 := Lib.hid h8
      have H6 := Lib.hid hc
      have hxl : j < xs.length := by omega
      have e0 : ((j + 1 : Nat) : Int) - 1 = j := by omega
      rw [e0]
      clear hl hg hstep h8 hc hn e0
      go_wp2
      go_round
      case rel =>
        refine ⟨j, by omega, by go_num, ?_⟩
        rw [H2.out]
        have e1 : xs.getD j 0 = xs[j] := by simp [List.getD, hxl]
        have hn2 := HN.out
        rw [H2.out] at hn2
        rw [e1] at hn2 hb0 hb1 ⊢
        rw [Wd.wrap_next _ _ hn0 hb0 hb1 hn2]
      case measure => simp [intOf]
    · obtain rfl : k = 0 := by omega
      go_wp2
      go_ret
      exact ⟨rfl, rfl⟩

set_option maxHeartbeats 400000 in
theorem refNumber_long (b off cap : Nat) (xs : List Int) (w : World) (h8 : Wd.Bytes8 xs) (hm : 8 < xs.length)
    (hc : ∀ i, i < xs.length → w.cell? ⟨b, off + i, none⟩ = some (.int .u8 (xs.getD i 0))) :
    Calls Tryz.prog 66 #[.slice (some ⟨b, off, none⟩) xs.length cap] w fun e w' => e = .returned (.int .u64 (Wd.num (xs.take 8))) ∧ w = w' := by
  go_enter Tryz.func66, Tryz.ntmps66
  go_wp2
  go_loop [3, 4] (fun v i => ∃ k : Nat, k ≤ 8 ∧ i = .int .i64 ((k : Int) - 1) ∧ v = .int .u64 (Wd.num ((xs.take 8).drop k))) (fun _ i => (intOf i + 1).toNat)
  case atStart =>
    have hl : (xs.take 8).length = 8 := by rw [List.length_take]; omega
    exact ⟨8, by omega, by first | rfl | (congr 1; omega), by rw [List.drop_of_length_le (by omega)]; rfl⟩
  case round =>
    obtain ⟨k, hk, rfl, rfl⟩ := hrel
    by_cases hlt : 0 < k
    · obtain ⟨j, rfl⟩ : ∃ j, k = j + 1 := ⟨k - 1, by omega⟩
      have hl : (xs.take 8).length = 8 := by rw [List.length_take]; omega
      have hcell := hc j (by omega)
      obtain ⟨hb0, hb1⟩ := h8.at_ (show j < xs.length by omega)
      have hg : (xs.take 8).getD j 0 = xs.getD j 0 := by simp [List.getD, show j < 8 by omega]
      have hstep := Wd.drop_num (xs.take 8) j (by omega)
      rw [hg] at hstep
      have hn := Wd.num_small _ (Wd.drop_bytes (Wd.take_bytes h8 8) j) (by rw [List.length_drop]; omega)
      have hn0 := (Wd.num_bounds _ (Wd.drop_bytes (Wd.take_bytes h8 8) (j + 1))).1
      have H2 := Lib.hid hstep
      have HN := Lib.hid hn
      have H5 := Lib.hid h8
      have H6 := Lib.hid hc
      have hxl : j < xs.length := by omega
      have e0 : ((j + 1 : Nat) : Int) - 1 = j := by omega
      rw [e0]
      clear hl hg hstep h8 hc hn e0
      go_wp2
      go_round
      case rel =>
        refine ⟨j, by omega, by go_num, ?_⟩
        rw [H2.out]
        have e1 : xs.getD j 0 = xs[j] := by simp [List.getD, hxl]
        have hn2 := HN.out
        rw [H2.out] at hn2
        rw [e1] at hn2 hb0 hb1 ⊢
        rw [Wd.wrap_next _ _ hn0 hb0 hb1 hn2]
      case measure => simp [intOf]
    · obtain rfl : k = 0 := by omega
      go_wp2
      go_ret
      exact ⟨rfl, rfl⟩

set_option maxHeartbeats 400000 in
theorem refNumber_zero (A : Option Addr) (cap : Nat) (w : World) :
    Calls Tryz.prog 66 #[.slice A 0 cap] w fun e w' => e = .returned (.int .u64 0) ∧ w = w' := by
  go_enter Tryz.func66, Tryz.ntmps66
  go_wp2
  refine wp_loop_rounds 1 ?_
  rw [rounds_succ]
  go_wp2
  go_ret
  exact ⟨rfl, rfl⟩

/-- Number, over whatever slice that reads as bytes. -/
theorem refNumber_any (v : Value) (xs : List Int) (w : World) (h8 : Wd.Bytes8 xs) (h : BytesAt w v xs) :
    Calls Tryz.prog 66 #[v] w fun e w' => e = .returned (.int .u64 (Wd.num (xs.take 8))) ∧ w = w' := by
  obtain ⟨A, cap, rfl, h⟩ := h
  by_cases hp : 0 < xs.length
  · obtain ⟨b, off, rfl, _, hc⟩ := h hp
    by_cases hl : xs.length ≤ 8
    · exact refNumber_short b off cap xs w h8 hl hc
    · exact refNumber_long b off cap xs w h8 (by omega) hc
  · have hx : xs = [] := List.eq_nil_of_length_eq_zero (by omega)
    subst hx
    exact refNumber_zero A cap w

end Go.Proofs.YthpppoalnanmjaaGreat
namespace Go.Proofs.YthpppoalnanmjaaGreat
open Go.RowKit

theorem pow_next (j : Nat) (x : Int) (h : j < 63 → x = 2 ^ j) (h' : j + 1 < 63) : wrap64 (x * 2) = 2 ^ (j + 1) := by
  have hb := Wd.pow_bounds (j + 1) h'
  rw [h (by omega), ← Int.pow_succ]
  show wrap64 ((2 : Int) ^ (j + 1)) = _
  unfold wrap64
  omega

set_option maxHeartbeats 400000 in
theorem refLog2_any (n : Int) (w : World) :
    Calls Tryz.prog 46 #[.int .i64 n] w fun e w' => e = .returned (.tuple #[.int .i64 (Wd.lg n), .bool (Wd.isP n)]) ∧ w = w' := by
  go_enter Tryz.func46, Tryz.ntmps46
  go_wp2
  go_loop [4, 5] (fun v k => ∃ (j : Nat) (x : Int), j ≤ 63 ∧ k = .int .i64 j ∧ v = .int .i64 x ∧ (j < 63 → x = 2 ^ j) ∧ ∀ i, i < j → n ≠ 2 ^ i) (fun _ k => 63 - (intOf k).toNat)
  case atStart => exact ⟨0, 1, by omega, rfl, rfl, by simp, by omega⟩
  case round =>
    obtain ⟨j, x, hj, rfl, rfl, hx, hn⟩ := hrel
    have HX := Lib.hid hx
    have HN := Lib.hid hn
    clear hx hn
    by_cases hlt : j < 63
    · by_cases he : x = n
      · have hb : (x == n) = true := by simpa using he
        have hlg : Wd.lg n = j := by rw [← he, HX.out hlt]; exact Wd.lg_pow j hlt
        have hip : Wd.isP n = true := by rw [← he, HX.out hlt]; exact Wd.isP_pow j hlt
        have H1 := Lib.hid hlg
        have H2 := Lib.hid hip
        clear hlg hip he
        go_wp2
        go_ret2
        exact ⟨by rw [H1.out, H2.out]; rfl, rfl⟩
      · have hb : (x == n) = false := by simpa using he
        have HB := Lib.hid he
        clear he
        go_wp2
        go_round
        case rel =>
          refine ⟨j + 1, _, by omega, by go_num, rfl, pow_next j x HX.out, ?_⟩
          intro i hi
          by_cases hij : i = j
          · subst hij; rw [← HX.out hlt]; exact fun h => HB.out h.symm
          · exact HN.out i (by omega)
        case measure => simp [intOf]; omega
    · have hjj : j = 63 := by omega
      have hip : Wd.isP n = false := by
        cases e : Wd.isP n with
        | false => rfl
        | true =>
          obtain ⟨k, hk, hh⟩ := (Wd.isP_iff n).1 e
          exact absurd hh (HN.out k (by omega))
      have hlg : Wd.lg n = 0 := by unfold Wd.lg; rw [hip]; rfl
      have H1 := Lib.hid hlg
      have H2 := Lib.hid hip
      clear hlg hip hjj
      go_wp2
      go_ret2
      exact ⟨by rw [H1.out, H2.out]; rfl, rfl⟩

set_option maxHeartbeats 400000 in
theorem refIsPower_any (n : Int) (w : World) :
    Calls Tryz.prog 24 #[.int .i64 n] w fun e w' => e = .returned (.bool (Wd.isP n)) ∧ w = w' := by
  go_enter Tryz.func24, Tryz.ntmps24
  go_wp2_with (go_at_call 46; refine (refLog2_any _ _).mono ?_; rintro e w' ⟨rfl, rfl⟩)
  go_ret
  exact ⟨rfl, rfl⟩

set_option maxHeartbeats 400000 in
theorem refAlign_any (n tz : Int) (w : World) :
    Calls Tryz.prog 91 #[.int .i64 n, .int .i64 tz] w fun e w' => e = .returned (.tuple #[.int .i64 (Wd.al n tz), .int .i64 (alE n tz)]) ∧ w = w' := by
  cases hp : Wd.isP tz with
  | true =>
    have hb := Wd.isP_bounds hp
    have hto : (tz == 0) = false := beq_eq_false_iff_ne.2 (by omega)
    by_cases hn : 0 ≤ n ∧ n ≤ 4611686018427387904
    · obtain ⟨hn0, hn1⟩ := hn
      have hok : Wd.alOk n tz = true := by unfold Wd.alOk; rw [hp]; simp [hn0, hn1]
      have e : Wd.al n tz = (n + tz - 1) / tz * tz := by unfold Wd.al; rw [if_pos hok]
      have e2 : alE n tz = 0 := by unfold alE; rw [if_pos hok]
      obtain ⟨hd, hz, hs, hlt⟩ := Wd.up_cases n tz hp hn0 hn1
      have HP := Lib.hid hp
      have HM := Lib.hid e
      have HE := Lib.hid e2
      have HZ := Lib.hid hz
      have HS := Lib.hid hs
      have HL := Lib.hid hlt
      clear hp e e2 hok hz hs hlt
      go_enter Tryz.func91, Tryz.ntmps91
      go_wp2_with (go_at_call 24; refine (refIsPower_any _ _).mono ?_; rintro e w' ⟨rfl, rfl⟩; rw [HP.out])
      · have h : (n % tz == 0) = true := by assumption
        go_ret2
        exact ⟨ret_tup (by rw [HM.out]; exact HZ.out (by simpa using h)) (by rw [HE.out]), rfl⟩
      · have h : (n % tz == 0) = false := by assumption
        have h2 := HL.out (by simpa using h)
        omega
      · have h : (n % tz == 0) = false := by assumption
        have h2 := HL.out (by simpa using h)
        go_ret2
        refine ⟨ret_tup ?_ (by rw [HE.out]), rfl⟩
        show Wd.al n tz = wrap64 ((n / tz + 1) * tz)
        rw [HM.out, HS.out (by simpa using h)]
        have h3 : 0 ≤ (n / tz + 1) * tz := Int.mul_nonneg (by omega) (by omega)
        generalize (n / tz + 1) * tz = z at h2 h3 ⊢
        unfold wrap64
        omega
    · have hok : Wd.alOk n tz = false := by unfold Wd.alOk; rw [hp]; simp; omega
      have e : Wd.al n tz = 0 := by unfold Wd.al; rw [hok]; rfl
      have e2 : alE n tz = 1 := by unfold alE; rw [hok]; rfl
      have HP := Lib.hid hp
      have HM := Lib.hid e
      have HE := Lib.hid e2
      clear hp e e2 hok
      by_cases hn0 : 0 ≤ n
      · have hn1 : 4611686018427387904 < n := by omega
        clear hn
        go_enter Tryz.func91, Tryz.ntmps91
        go_wp2_with (go_at_call 24; refine (refIsPower_any _ _).mono ?_; rintro e w' ⟨rfl, rfl⟩; rw [HP.out])
        go_ret2
        exact ⟨by rw [HM.out, HE.out]; rfl, rfl⟩
      · have hn1 : n < 0 := by omega
        clear hn hn0
        go_enter Tryz.func91, Tryz.ntmps91
        go_wp2_with (go_at_call 24; refine (refIsPower_any _ _).mono ?_; rintro e w' ⟨rfl, rfl⟩; rw [HP.out])
        go_ret2
        exact ⟨by rw [HM.out, HE.out]; rfl, rfl⟩
  | false =>
    have hok : Wd.alOk n tz = false := by unfold Wd.alOk; rw [hp]; rfl
    have e : Wd.al n tz = 0 := by unfold Wd.al; rw [hok]; rfl
    have e2 : alE n tz = 1 := by unfold alE; rw [hok]; rfl
    have HP := Lib.hid hp
    have HM := Lib.hid e
    have HE := Lib.hid e2
    clear hp e e2 hok
    go_enter Tryz.func91, Tryz.ntmps91
    go_wp2_with (go_at_call 24; refine (refIsPower_any _ _).mono ?_; rintro e w' ⟨rfl, rfl⟩; rw [HP.out])
    go_ret2
    exact ⟨by rw [HM.out, HE.out]; rfl, rfl⟩

end Go.Proofs.YthpppoalnanmjaaGreat
namespace Go.Proofs.YthpppoalnanmjaaGreat
namespace Wd

theorem num_join (a b : List Int) : num (a ++ b) = num a + num b * 2 ^ (a.length * 8) := by
  induction a with
  | nil => simp [num]
  | cons x r ih =>
    have e : ((2 : Int) ^ ((r.length + 1) * 8)) = 256 * 2 ^ (r.length * 8) := by
      rw [Nat.add_mul, Int.pow_add, Int.mul_comm]; rfl
    show x + 256 * num (r ++ b) = x + 256 * num r + num b * 2 ^ ((r.length + 1) * 8)
    rw [ih, e, Int.mul_add, Int.mul_left_comm (num b) 256, Int.add_assoc]

theorem bs2 (v : Int) : bs v 2 = [v % 256, v / 256 % 256] := by simp [bs, List.range_succ]
theorem bs4 (v : Int) : bs v 4 = [v % 256, v / 256 % 256, v / 65536 % 256, v / 16777216 % 256] := by simp [bs, List.range_succ]
theorem bs8 (v : Int) : bs v 8 = [v % 256, v / 256 % 256, v / 65536 % 256, v / 16777216 % 256, v / 4294967296 % 256, v / 1099511627776 % 256, v / 281474976710656 % 256, v / 72057594037927936 % 256] := by
  simp [bs, List.range_succ]
theorem num2 (a b : Int) : num [a, b] = a + 256 * b := by simp [num]
theorem num4 (a b c d : Int) : num [a, b, c, d] = a + 256 * b + 65536 * c + 16777216 * d := by simp only [num]; omega
theorem num8 (a b c d e f g h : Int) : num [a, b, c, d, e, f, g, h] = a + 256 * b + 65536 * c + 16777216 * d + 4294967296 * e + 1099511627776 * f + 281474976710656 * g + 72057594037927936 * h := by
  simp only [num]; omega
theorem num_bs4 (v : Int) : num (bs v 4) = v % 4294967296 := by rw [bs4, num4]; omega
theorem num_bs8 (v : Int) (h0 : 0 ≤ v) (h1 : v < 18446744073709551616) : num (bs v 8) = v := by rw [bs8, num8]; omega
theorem bs_in (v : Int) (n : Nat) : Bytes8 (bs v n) := by
  intro x hx
  unfold bs at hx
  obtain ⟨i, _, rfl⟩ := List.mem_map.1 hx
  omega
theorem Bytes8.app {a b : List Int} (ha : Bytes8 a) (hb : Bytes8 b) : Bytes8 (a ++ b) := fun x hx => by
  rcases List.mem_append.1 hx with h | h
  · exact ha x h
  · exact hb x h
theorem bs8_low (v : Int) : (bs v 8).take 4 = bs v 4 := by rw [bs8, bs4]; rfl
theorem bs8_high (v : Int) : (bs v 8).drop 4 = bs (v / 4294967296) 4 := by
  rw [bs8, bs4]
  show [_, _, _, _] = [_, _, _, _]
  congr 1
  congr 1
  · omega
  congr 1
  · omega
  congr 1
  omega
end Wd

namespace Hd
open Wd Go
/-- A record's header, by its bytes. -/
theorem num_record (l h : Int) : num (bs (l % 18446744073709551616) 4 ++ bs (h % 18446744073709551616) 4) = jn l h := by
  rw [num_join, bs_length, num_bs4, num_bs4]
  unfold jn
  omega
theorem num_low (v : Int) : s32 (num ((bs v 8).take 4)) = s32 v := by rw [bs8_low, num_bs4]; exact s32_eq _ _ (by omega)
theorem num_high (v : Int) : s32 (num ((bs v 8).drop 4)) = s32 (v / 4294967296) := by rw [bs8_high, num_bs4]; exact s32_eq _ _ (by omega)

/-- A frame's header's bytes. -/
def fb (l v f t o s m r z : Int) : List Int :=
  bs (l % 18446744073709551616) 4 ++ [v, f] ++ bs (t % 18446744073709551616) 2 ++ bs (o % 18446744073709551616) 4 ++ bs (s % 18446744073709551616) 4 ++
    bs (m % 18446744073709551616) 4 ++ bs (r % 18446744073709551616) 4 ++ bs z 8
/-- The bytes of four words. -/
def wb (a b c d : Int) : List Int := bs a 8 ++ bs b 8 ++ bs c 8 ++ bs d 8

/-- The bytes of the first k of four numbers of four bytes. -/
def sel (o s m r : Int) (k : Nat) : Int := [o, s, m, r].getD k 0
def part (o s m r : Int) : Nat → List Int
  | 0 => []
  | k + 1 => part o s m r k ++ bs (sel o s m r k % 18446744073709551616) 4
theorem part_length (o s m r : Int) (k : Nat) : (part o s m r k).length = 4 * k := by
  induction k with
  | zero => rfl
  | succ k ih => simp only [part, List.length_append, ih, bs_length]; omega
theorem fb_part (l v f t o s m r z : Int) : bs (l % 18446744073709551616) 4 ++ [v, f] ++ bs (t % 18446744073709551616) 2 ++ part o s m r 4 ++ bs z 8 = fb l v f t o s m r z := by
  simp [fb, part, sel, List.append_assoc]
theorem wrap_mod (x : Int) : IntKind.i64.wrap x % 18446744073709551616 = x % 18446744073709551616 := by rw [IntKind.wrap_i64]; omega

theorem bs_jn (l h : Int) : bs (jn l h) 8 = bs (l % 18446744073709551616) 4 ++ bs (h % 18446744073709551616) 4 := by
  rw [bs8, bs4, bs4]
  unfold jn
  simp only [List.cons_append, List.nil_append, List.cons.injEq, and_true]
  omega
theorem bs_fw (l v f t : Int) (v0 : 0 ≤ v) (v1 : v ≤ 255) (f0 : 0 ≤ f) (f1 : f ≤ 255) (t0 : 0 ≤ t) (t1 : t ≤ 65535) :
    bs (fw l v f t) 8 = bs (l % 18446744073709551616) 4 ++ [v, f] ++ bs (t % 18446744073709551616) 2 := by
  rw [bs8, bs4, bs2]
  unfold fw
  simp only [List.cons_append, List.nil_append, List.cons.injEq, and_true]
  omega
theorem fb_wb (l v f t o s m r z : Int) (v0 : 0 ≤ v) (v1 : v ≤ 255) (f0 : 0 ≤ f) (f1 : f ≤ 255) (t0 : 0 ≤ t) (t1 : t ≤ 65535) :
    fb l v f t o s m r z = wb (fw l v f t) (jn o s) (jn m r) z := by
  unfold fb wb
  rw [bs_fw l v f t v0 v1 f0 f1 t0 t1, bs_jn, bs_jn]
  simp only [List.append_assoc]
theorem wb_length (a b c d : Int) : (wb a b c d).length = 32 := by unfold wb; simp [bs_length]
theorem wb_in (a b c d : Int) : Bytes8 (wb a b c d) := ((((bs_in _ _).app (bs_in _ _)).app (bs_in _ _)).app (bs_in _ _))
theorem wb_0 (a b c d : Int) : ((wb a b c d).drop 0).take 8 = bs a 8 := by unfold wb; rw [bs8, bs8, bs8, bs8]; rfl
theorem wb_1 (a b c d : Int) : ((wb a b c d).drop 8).take 8 = bs b 8 := by unfold wb; rw [bs8, bs8, bs8, bs8]; rfl
theorem wb_2 (a b c d : Int) : ((wb a b c d).drop 16).take 8 = bs c 8 := by unfold wb; rw [bs8, bs8, bs8, bs8]; rfl
theorem wb_3 (a b c d : Int) : ((wb a b c d).drop 24).take 8 = bs d 8 := by unfold wb; rw [bs8, bs8, bs8, bs8]; rfl
theorem s32_low (v : Int) : s32 (num (bs v 4)) = s32 v := by rw [num_bs4]; exact s32_eq _ _ (by omega)
theorem wb_a0 (a b c d : Int) : ((wb a b c d).drop 0).take 4 = bs a 4 := by unfold wb; rw [bs8, bs8, bs8, bs8, bs4]; rfl
theorem wb_b0 (a b c d : Int) : ((wb a b c d).drop 8).take 4 = bs b 4 := by unfold wb; rw [bs8, bs8, bs8, bs8, bs4]; rfl
theorem wb_b1 (a b c d : Int) : ((wb a b c d).drop 12).take 4 = bs (b / 4294967296) 4 := by rw [← bs8_high]; unfold wb; rw [bs8, bs8, bs8, bs8]; rfl
theorem wb_c0 (a b c d : Int) : ((wb a b c d).drop 16).take 4 = bs c 4 := by unfold wb; rw [bs8, bs8, bs8, bs8, bs4]; rfl
theorem wb_c1 (a b c d : Int) : ((wb a b c d).drop 20).take 4 = bs (c / 4294967296) 4 := by rw [← bs8_high]; unfold wb; rw [bs8, bs8, bs8, bs8]; rfl
theorem wb_4 (a b c d : Int) : (wb a b c d).getD 4 0 = a / 4294967296 % 256 := by unfold wb; rw [bs8, bs8, bs8, bs8]; rfl
theorem wb_5 (a b c d : Int) : (wb a b c d).getD 5 0 = a / 1099511627776 % 256 := by unfold wb; rw [bs8, bs8, bs8, bs8]; rfl
theorem wb_6 (a b c d : Int) : (wb a b c d).getD 6 0 = a / 281474976710656 % 256 := by unfold wb; rw [bs8, bs8, bs8, bs8]; rfl
theorem wb_7 (a b c d : Int) : (wb a b c d).getD 7 0 = a / 72057594037927936 % 256 := by unfold wb; rw [bs8, bs8, bs8, bs8]; rfl
/-- Two bytes' number, as the plain answer reckons it. -/
theorem u16_two (x : Int) : IntKind.u16.wrap (IntKind.u16.wrap (x / 281474976710656 % 256) + IntKind.u16.wrap (256 * IntKind.u16.wrap (x / 72057594037927936 % 256))) = x / 281474976710656 % 65536 := by
  simp only [IntKind.wrap, IntKind.bits, IntKind.signed]
  simp
  omega
end Hd
end Go.Proofs.YthpppoalnanmjaaGreat
namespace Go.Proofs.YthpppoalnanmjaaGreat
open Go.RowKit

/-- A contract 'w = w'' met in a region that draws its order. -/
theorem quiet_same {P : Program} {f : FuncId} {args : Array Value} {w : World} {n : Nat} {v : Value}
    (h : Calls P f args (w.drewN n) fun e w' => e = .returned v ∧ w.drewN n = w') : Calls P f args (w.drewN n) fun e w'' => e = .returned v ∧ ∃ m, w'' = w.drewN m :=
  h.mono fun _ _ ⟨he, hm⟩ => ⟨he, n, hm.symm⟩

theorem hbytes_any (v : Int) (n : Nat) (w : World) (hn : n ≤ 8) :
    Calls Tryz.prog 67 #[.int .i64 v, .int .i64 n] w fun e w' => ∃ x, e = .returned x ∧ Owns w.heap.size w' x (Wd.bs (v % 18446744073709551616) n) ∧ Below w.heap.size w w' := by
  have H := Lib.hid (refBytes_own (v % 18446744073709551616) n w (by omega) (by omega) hn)
  go_enter Tryz.func67, Tryz.ntmps67
  go_wp2_with (go_at_call 92; refine H.out.mono ?_; rintro e w' ⟨x, rfl, hx, hb⟩)
  go_ret
  exact ⟨x, rfl, hx, hb⟩

set_option maxHeartbeats 400000 in
theorem refRecord_any (l h : Int) (w : World) (l0 : -2147483648 ≤ l) (l1 : l ≤ 2147483647) (h0 : -2147483648 ≤ h) (h1 : h ≤ 2147483647) :
    Calls Tryz.prog 43 #[.int .i32 l, .int .i32 h] w fun e w' => e = .returned (.int .u64 (Hd.jn l h)) ∧ Below w.heap.size w w' := by
  have H8 : Wd.Bytes8 (Wd.bs (l % 18446744073709551616) 4 ++ Wd.bs (h % 18446744073709551616) 4) := (Wd.bs_in _ _).app (Wd.bs_in _ _)
  have HN := Lib.hid (Hd.num_record l h)
  have HL : Hid ((Wd.bs (l % 18446744073709551616) 4 ++ Wd.bs (h % 18446744073709551616) 4).take 8 = Wd.bs (l % 18446744073709551616) 4 ++ Wd.bs (h % 18446744073709551616) 4) := Lib.hid (by rw [List.take_of_length_le]; simp [Wd.bs_length])
  go_enter Tryz.func43, Tryz.ntmps43
  go_wp2_with fail
  refine (hbytes_any l 4 w (by omega)).mono ?_
  rintro e w1 ⟨x, rfl, hx, hb1⟩
  go_wp2_with fail
  refine (hbytes_any h 4 w1 (by omega)).mono ?_
  rintro e w2 ⟨y, rfl, hy, hb2⟩
  have hx2 := hx.below hb2
  have hy2 := hy.bytes
  have hs1 := hb1.size
  have hs2 := hb2.size
  have HB := Lib.hid (hb1.after hb2)
  clear hx hy hb1 hb2
  go_wp2_with (first
    | (at_builtin; refine wpList_app rfl _ _ rfl w.heap.size x y _ _ rfl rfl hx2 hy2 (by simp [Wd.bs_length]) (by simp [Wd.bs_length]) (by omega) ?_; intro v3 w3 hv3 hb3 _; have hc := refNumber_any v3 _ w3 H8 hv3.bytes)
    | (go_at_call 66; refine hc.mono ?_; rintro e w' ⟨rfl, rfl⟩; rw [HL.out, HN.out]))
  go_ret
  exact ⟨rfl, HB.out.trans hb3⟩

set_option maxHeartbeats 400000 in
theorem refSize_any (n head tz : Int) (w : World) (a0 : 0 ≤ head) (a1 : head ≤ 1000) :
    Calls Tryz.prog 64 #[.int .i64 n, .int .i64 head, .int .i64 tz] w fun e w' => e = .returned (.tuple #[.int .i64 (sz n head tz), .int .i64 (szE n head tz)]) ∧ w = w' := by
  by_cases h0 : 0 ≤ n
  · by_cases h1 : n ≤ 131072
    · have hk : szOk n = true := by unfold szOk; simp [h0, h1]
      have e1 : sz n head tz = Wd.al (n + head) tz := by unfold sz; rw [if_pos hk, Int.add_comm]
      have e2 : szE n head tz = alE (n + head) tz := by unfold szE; rw [if_pos hk, Int.add_comm]
      rw [e1, e2]
      clear e1 e2 hk
      have hw : IntKind.i64.wrap (n + head) = n + head := IntWalk.i64_in _ (by omega)
      go_enter Tryz.func64, Tryz.ntmps64
      go_wp2_with (go_at_call 91; refine (refAlign_any _ _ _).mono ?_; rintro e w' ⟨rfl, rfl⟩)
      go_ret2
      exact ⟨rfl, rfl⟩
    · have hk : szOk n = false := by unfold szOk; simp; omega
      have e1 : sz n head tz = 0 := by unfold sz; rw [hk]; rfl
      have e2 : szE n head tz = 1 := by unfold szE; rw [hk]; rfl
      rw [e1, e2]
      have h1' : 131072 < n := by omega
      clear e1 e2 hk h1
      go_enter Tryz.func64, Tryz.ntmps64
      go_wp2
      go_ret2
      exact ⟨rfl, rfl⟩
  · have hk : szOk n = false := by unfold szOk; simp; omega
    have e1 : sz n head tz = 0 := by unfold sz; rw [hk]; rfl
    have e2 : szE n head tz = 1 := by unfold szE; rw [hk]; rfl
    rw [e1, e2]
    have h0' : n < 0 := by omega
    clear e1 e2 hk h0
    go_enter Tryz.func64, Tryz.ntmps64
    go_wp2
    go_ret2
    exact ⟨rfl, rfl⟩

theorem refRecordSize_any (n : Int) (w : World) :
    Calls Tryz.prog 37 #[.int .i64 n] w fun e w' => e = .returned (.tuple #[.int .i64 (sz n 8 8), .int .i64 (szE n 8 8)]) ∧ w = w' := by
  go_enter Tryz.func37, Tryz.ntmps37
  go_wp2_with (go_at_call 64; refine (refSize_any _ 8 8 _ (by omega) (by omega)).mono ?_; rintro e w' ⟨rfl, rfl⟩)
  go_ret2
  exact ⟨rfl, rfl⟩

end Go.Proofs.YthpppoalnanmjaaGreat
namespace Go.Proofs.YthpppoalnanmjaaGreat
open Go.RowKit

set_option maxRecDepth 100000 in
set_option maxHeartbeats 800000 in
theorem refRight_any (B Z : Int) (hB : -9223372036854775808 ≤ B ∧ B ≤ 9223372036854775807) (hZ : -9223372036854775808 ≤ Z ∧ Z ≤ 9223372036854775807) (w : World) :
    Calls Tryz.prog 9 #[.agg #[.int .i64 B, .int .i64 Z]] w (Made (.bool (decide (Rg.right B Z))) w) := by
  have hb0 := un_below w (.int .i64 B) (.int .i64 Z) 23
  have hx := Go.Deep.blk_alloc_new w (.cells #[.int .i64 B, .int .i64 Z] 23)
  obtain ⟨q, hq⟩ : ∃ q : Bool, q = decide (Rg.right B Z) := ⟨_, rfl⟩
  rw [← hq]
  have HQ := Lib.hid hq
  clear hq
  go_enter Tryz.func9, Tryz.ntmps9
  go_upto_region 1 with (fail)
  generalize w.alloc (.cells #[.int .i64 B, .int .i64 Z] 23) = W at hb0 hx ⊢
  have x0 : W.cell? ⟨w.heap.size, 0, none⟩ = some (.int .i64 B) := by simp [World.cell?, hx]
  have x1 : W.cell? ⟨w.heap.size, 1, none⟩ = some (.int .i64 Z) := by simp [World.cell?, hx]
  clear hx
  go_wp2_with (go_at_call 24; refine (refIsPower_any Z _).mono ?_; rintro e w2 ⟨rfl, rfl⟩)
  all_goals
    go_ret
    refine ⟨?_, hb0⟩
    rw [HQ.out]
    first
      | (rw [show decide (Rg.right B Z) = decide (B ≤ 131072 - Z - 32) by rw [decide_eq_decide]; exact ⟨fun h => h.2.2.2.2.1, fun h => ⟨by assumption, by omega, by omega, by omega, h, by omega⟩⟩]; rfl)
      | (rw [show decide (Rg.right B Z) = false from decide_eq_false (fun ⟨_, _, _, _, _, _⟩ => by first | omega | simp_all)]; rfl)

set_option maxRecDepth 100000 in
theorem refPlace_any (B Z : Int) (v : Nat) (hz : 64 ≤ Z) (hz1 : Z ≤ 8192) (w : World) :
    Calls Tryz.prog 41 #[.agg #[.int .i64 B, .int .i64 Z], .int .u64 v] w (Made (.int .i64 ((v : Int) % Z)) w) := by
  have hb0 := un_below w (.int .i64 B) (.int .i64 Z) 23
  have hx := Go.Deep.blk_alloc_new w (.cells #[.int .i64 B, .int .i64 Z] 23)
  go_enter Tryz.func41, Tryz.ntmps41
  go_upto_region 1 with (fail)
  generalize w.alloc (.cells #[.int .i64 B, .int .i64 Z] 23) = W at hb0 hx ⊢
  have x1 : W.cell? ⟨w.heap.size, 1, none⟩ = some (.int .i64 Z) := by simp [World.cell?, hx]
  clear hx
  go_wp2
  go_ret
  refine ⟨?_, hb0⟩
  have h1 : wrap64 ((v : Int) % Z) = (v : Int) % Z := by
    have h2 := Int.emod_nonneg (v : Int) (b := Z) (by omega)
    have h3 := Int.emod_lt_of_pos (v : Int) (b := Z) (by omega)
    unfold wrap64
    omega
  show Ending.returned (.int .i64 (wrap64 ((v : Int) % Z))) = _
  rw [h1]

theorem wrap_room (Z x : Int) : wrap64 (IntKind.u64.wrap (IntKind.u64.wrap Z - IntKind.u64.wrap x)) = wrap64 (Z - x) := by
  have h : ∀ y, IntKind.u64.wrap y = y % 18446744073709551616 := fun y => by simp [IntKind.wrap, IntKind.signed, IntKind.bits]
  rw [h, h, h]
  unfold wrap64
  omega

set_option maxRecDepth 100000 in
theorem refRoom_any (B Z : Int) (t h : Nat) (w : World) :
    Calls Tryz.prog 39 #[.agg #[.int .i64 B, .int .i64 Z], .int .u64 t, .int .u64 h] w (Made (.int .i64 (wrap64 (Z - ((t : Int) - h)))) w) := by
  have hb0 := un_below w (.int .i64 B) (.int .i64 Z) 23
  have hx := Go.Deep.blk_alloc_new w (.cells #[.int .i64 B, .int .i64 Z] 23)
  go_enter Tryz.func39, Tryz.ntmps39
  go_upto_region 1 with (fail)
  generalize w.alloc (.cells #[.int .i64 B, .int .i64 Z] 23) = W at hb0 hx ⊢
  have x1 : W.cell? ⟨w.heap.size, 1, none⟩ = some (.int .i64 Z) := by simp [World.cell?, hx]
  clear hx
  go_wp2
  go_ret
  refine ⟨?_, hb0⟩
  rw [← wrap_room]
  rfl
end Go.Proofs.YthpppoalnanmjaaGreat
