/-
  The tape of the plain answers (layer 5): bytes written, walked.
-/
import Derived.Test.YtplomefkmgkdjaaTape
namespace Go.Proofs.Ytplomefkmgkdjaa
open Go.RowKit

theorem refChunks_parts (n : Int) (w : World) : Calls Try.prog 32 #[.int .i64 n] w (MadeParts (Cy.cks (Cy.few n)) w) := by
  refine (refChunks_any n w).mono ?_
  rintro e w' ⟨v, rfl, ho, hb⟩
  rw [Cy.ckOf_few] at ho
  exact ⟨v, rfl, (Parts.of_own ho), hb⟩

/-- A byte's block is no tape's. -/
theorem Tp.byte_apart {w : World} {p cap n j : Nat} {A : Option Addr} {K P N V U : Int} {s : Value} {e : Bool} (h : Tp w p A cap n j K P N V U s e) (hs : ∀ x, s ≠ .int .u8 x) {b off : Nat} {x : Int} (hc : w.cell? ⟨b, off, none⟩ = some (.int .u8 x)) : b ≠ p := by
  rintro rfl
  have hb := h.blk
  simp [World.cell?, hb] at hc
  match off, hc with
  | 7, hc => simp at hc; exact hs _ hc
  | 0, hc | 1, hc | 2, hc | 3, hc | 4, hc | 5, hc | 6, hc | 8, hc => simp at hc
  | k + 9, hc => simp at hc

theorem BytesAt.one {w w' : World} {p cap n j : Nat} {A : Option Addr} {K P N V U : Int} {s : Value} {e : Bool} (h : Tp w p A cap n j K P N V U s e) (hs : ∀ x, s ≠ .int .u8 x) (ht : Touch (One p) w w') {v : Value} {xs : List Int} (hv : BytesAt w v xs) : BytesAt w' v xs := by
  obtain ⟨A2, c2, hv, hx⟩ := hv
  refine ⟨A2, c2, hv, fun hp => ?_⟩
  obtain ⟨b, off, e, hlt, hc⟩ := hx hp
  have hne : b ≠ p := h.byte_apart hs (hc 0 hp)
  exact ⟨b, off, e, Nat.lt_of_lt_of_le hlt ht.size, fun i hi => (ht.cell (p := ⟨b, off + i, none⟩) hlt hne).trans (hc i hi)⟩

theorem ToldAt.one {w w' : World} {p cap n j : Nat} {A : Option Addr} {K P N V U : Int} {s : Value} {e : Bool} (h : Tp w p A cap n j K P N V U s e) (hs : ∀ x, s ≠ .int .u8 x) (ht : Touch (One p) w w') {B : Option Addr} {m : Nat} {T : Nat → Ans} (hT : ToldAt w B m T)
    (hB : 0 < m → ∀ a, B = some a → a.block ≠ p) : ToldAt w' B m T := by
  intro hp
  obtain ⟨b, off, rfl, hlt, hc⟩ := hT hp
  have hne : b ≠ p := hB hp _ rfl
  refine ⟨b, off, rfl, Nat.lt_of_lt_of_le hlt ht.size, fun i hi => ?_⟩
  obtain ⟨c0, c1, c2, his⟩ := hc i hi
  have k := fun o => ht.cell (p := ⟨b, o, none⟩) hlt hne
  exact ⟨(k _).trans c0, (k _).trans c1, (k _).trans c2, ⟨his.num, his.isB, BytesAt.one h hs ht his.bytes, his.room, his.few⟩⟩

theorem cut_at (f : Nat → Nat) (a d n L : Nat) (h : d + n ≤ L) : ((Mb.bl f a L).drop d).take n = Mb.bl f (a + d) n := by
  have e : L = d + (n + (L - d - n)) := by omega
  rw [e, Mb.bl_append, Mb.bl_append, List.drop_left' (Mb.bl_length _ _ _), List.take_left' (by rw [Mb.bl_length])]

theorem bytesAt_none' (w : World) (A : Option Addr) (c : Nat) (f : Nat → Nat) (a : Nat) : BytesAt w (.slice A 0 c) (Mb.bl f a 0) := ⟨A, c, rfl, fun h => by simp [Mb.bl] at h⟩

/-- What a tape that was told i answers says of n bytes of f, written at 'at': the access that is wanted next, or none. -/
def SaidIn (p : Nat) (A : Option Addr) (cap i : Nat) (at_ : Int) (f : Nat → Nat) (n : Nat) (w : World) (e : Ending) (w' : World) : Prop :=
  ∃ b, e = .returned (.bool b) ∧ Touch (One p) w w' ∧
    ((8 * i < n ∧ ∃ B L c, Tp w' p A cap i i 6 (at_ + (8 * i : Nat)) (Cy.nx (n - 8 * i) : Nat) 0 0 (.slice B L c) true ∧ BytesAt w' (.slice B L c) (Mb.bl f (8 * i) (Cy.nx (n - 8 * i)))) ∨
     (n ≤ 8 * i ∧ ∃ j, Tp w' p A cap i j 0 0 0 0 0 (.slice none 0 0) false))

set_option maxRecDepth 100000 in
set_option maxHeartbeats 2000000 in
theorem tapeIn_any {w : World} {p cap i : Nat} {A : Option Addr} (h : Tp w p A cap i 0 0 0 0 0 0 (.slice none 0 0) false) (hi : i ≤ cap) (hcap : cap ≤ 9223372036854775807) {T : Nat → Ans} (hT : ToldAt w A i T) (hA : 0 < i → ∀ a, A = some a → a.block ≠ p)
    (at_ : Int) (hat0 : -4611686018427387904 ≤ at_) (hat1 : at_ ≤ 4611686018427387904) (B : Option Addr) (n cp : Nat) (f : Nat → Nat) (hB : BytesAt w (.slice B n cp) (Mb.bl f 0 n)) (hn : n ≤ 131072) (hcp : n ≤ cp) (hcp2 : cp ≤ 9223372036854775807) :
    Calls Try.prog 18 #[.pointer (some ⟨p, 0, none⟩), .int .i64 at_, .slice B n cp] w (SaidIn p A cap i at_ f n w) := by
  have hlt := h.lt
  have HT := Lib.hid h
  have HTo := Lib.hid hT
  have HA := Lib.hid hA
  have HB := Lib.hid hB
  clear h hT hA hB
  go_enter Try.func18, Try.ntmps18
  go_wp2_with fail
  refine (refChunks_parts n w).mono ?_
  rintro e w1 ⟨v1, rfl, ⟨A1, c1, rfl, p1, p2, p3⟩, hb1⟩
  rw [Cy.few_nat hn] at p1 p3 ⊢
  have hlen := Cy.cks_length n
  generalize hm : (Cy.cks n).length = m at p1 p3 hlen ⊢
  have HT1 := Lib.hid (HT.out.below hb1)
  have HTo1 := Lib.hid (HTo.out.below hb1)
  have HB1 := Lib.hid (HB.out.below hb1)
  have HP3 := Lib.hid p3
  have hs1 := hb1.size
  have hw1 := Lib.hid hb1
  have HM := Lib.hid hm
  have hm1 : m ≤ 16384 := by omega
  have HL := Lib.hid hlen
  clear p3 hb1 hm hlen
  go_wp2_with fail
  go_loopw [1, 2, 15] (fun a b t wr => ∃ (k : Nat) (A' : Option Addr) (cp' : Nat), t = .int .i64 k ∧ a = .int .i64 (at_ + (Cy.at_ n k : Nat)) ∧ b = .slice A' (n - Cy.at_ n k) cp' ∧ n - Cy.at_ n k ≤ cp' ∧ cp' ≤ 9223372036854775807 ∧ BytesAt wr b (Mb.bl f (Cy.at_ n k) (n - Cy.at_ n k)) ∧ k ≤ m ∧ k ≤ i ∧
      Tp wr p A cap i k 0 0 0 0 0 (.slice none 0 0) false ∧ Touch (One p) w1 wr) (fun _ _ t _ => m - (intOf t).toNat)
  case atStart => 
    refine ⟨0, B, cp, rfl, by rw [Cy.at_zero]; simp, by rw [Cy.at_zero]; rfl, by omega, hcp2, ?_, by omega, by omega, HT1.out, Touch.refl _ _⟩
    rw [Cy.at_zero]; exact HB1.out
  case round =>
    obtain ⟨k, A', cp', rfl, rfl, rfl, hq1, hq2, hbk, hkm, hki, htk, htt⟩ := hrel
    by_cases hlt : k < m
    · have hk8 : 8 * k < n := by have := HL.out; omega
      have hd := Cy.at_here hk8
      have hnx := Cy.at_next hk8
      rw [hd] at hnx hq1 hbk ⊢
      have hc0 := Cy.nx_pos (r := n - 8 * k) (by omega)
      have hc1 := Cy.nx_le (n - 8 * k)
      obtain ⟨cb, co, rfl, ⟨hcb, _⟩, hcl, hcell⟩ := HP3.out (by omega)
      have hcp : cb ≠ p := by omega
      have hck := (htt.cell (p := ⟨cb, co + k, none⟩) hcl hcp).trans (hcell k hlt)
      rw [← HM.out] at hlt
      have hgd := Cy.cks_getD n k hk8
      rw [hgd] at hck
      rw [HM.out] at hlt
      generalize hcq : Cy.nx (n - 8 * k) = c at hc0 hc1 hck hnx hgd
      generalize hrq : n - 8 * k = r at hc1 hq1 hbk hcq ⊢
      have HCQ := Lib.hid (And.intro hcq hrq)
      have HNX := Lib.hid hnx
      have hrn : r ≤ 131072 := by omega
      have HK8 := Lib.hid hk8
      obtain ⟨gb, ob, rfl⟩ : ∃ gb ob, A' = some ⟨gb, ob, none⟩ := by
        obtain ⟨A2, c2, hv, hx⟩ := hbk
        obtain ⟨gb, ob, e, _⟩ := hx (by rw [Mb.bl_length]; omega)
        injection hv with e1 _ _
        exact ⟨gb, ob, e1.trans e⟩
      have HBK := Lib.hid hbk
      have HTK := Lib.hid htk
      have HTT := Lib.hid htt
      have htold := Lib.hid (HTo1.out.one HT1.out (by intro x e; cases e) htt HA.out)
      have hg1 : (k : Int) < m := by omega
      have hg2 : (0 : Int) ≤ c := by omega
      have hg3 : (c : Int) ≤ r := by omega
      have hg4 : (r : Int) ≤ cp' := by omega
      have hk13 : k ≤ 16384 := by omega
      have hg5 : IntKind.i64.wrap (at_ + ((8 * k : Nat) : Int) + (c : Int)) = at_ + ((8 * k : Nat) : Int) + c := IntWalk.i64_in _ (by omega)
      have hq3 : -4611686018427387904 ≤ at_ + ((8 * k : Nat) : Int) := by omega
      have hq4 : at_ + ((8 * k : Nat) : Int) ≤ 4611686018427518976 := by omega
      generalize hqq : at_ + ((8 * k : Nat) : Int) = q at hg5 hq3 hq4 ⊢
      have HQ := Lib.hid hqq
      have hn1 : n - Cy.at_ n (k + 1) = r - c := by rw [hnx]; omega
      have HN1 := Lib.hid hn1
      clear hcell hgd hcq hrq hd hnx hbk htk htt hk8 hqq hn1
      by_cases hki2 : k < i
      · have hrel2 : ∀ (w2 : World) (A2 : Option Addr) (cp2 : Nat), (A2 = some ⟨gb, ob + c, none⟩ ∨ r = c) → r - c ≤ cp2 → Tp w2 p A cap i (k + 1) 0 0 0 0 0 (.slice none 0 0) false → Touch (One p) wr w2 →
            BytesAt w2 (.slice A2 (r - c) cp2) (Mb.bl f (Cy.at_ n (k + 1)) (n - Cy.at_ n (k + 1))) := by
          intro w2 A2 cp2 hA2 _ _ ht2
          rw [HN1.out, HNX.out]
          rcases hA2 with rfl | hrc
          · have := (BytesAt.one HTK.out (by intro x e; cases e) ht2 HBK.out).cut c (r - c) cp2 (by rw [Mb.bl_length]; omega)
            rw [cut_at f (8 * k) c (r - c) r (by omega)] at this
            exact this
          · have : r - c = 0 := by omega
            rw [this]
            exact bytesAt_none' _ _ _ _ _
        have HREL := Lib.hid hrel2
        clear hrel2
        by_cases hcc : cp' = c
        · subst hcc
          have hrc : r = cp' := by omega
          have HRC := Lib.hid hrc
          clear hrc
          go_wp2_with fail
          refine (tapeDo_tells HTK.out hki2 hi hcap htold.out HA.out 6 q cp' 0 0 cp' cp').mono ?_
          rintro e w2 ⟨rfl, htk2, htt2⟩
          go_wp2
          go_roundw
          case rel =>
            refine ⟨k + 1, some ⟨gb, ob, none⟩, 0, by go_num, by rw [HNX.out, ← HQ.out]; congr 1; omega, by rw [HN1.out]; congr 1; have := HRC.out; omega, by rw [HN1.out]; have := HRC.out; omega, by omega, ?_, by omega, by omega, htk2.below ((Below.refl _ _).alloc (Nat.le_refl _) _), (HTT.out.trans htt2).alloc _⟩
            have e0 : r - cp' = 0 := by have := HRC.out; omega
            have h0 := HREL.out _ (some ⟨gb, ob, none⟩) 0 (.inr HRC.out) (by omega) (htk2.below ((Below.refl _ _).alloc (Nat.le_refl _) (.cells #[.int .u64 (T k).V, .bool (T k).D, .slice (T k).A (T k).L (T k).cap] 39))) (htt2.alloc _)
            rw [e0] at h0
            exact h0
          case measure => simp [intOf]; omega
        · go_wp2_with fail
          refine (tapeDo_tells HTK.out hki2 hi hcap htold.out HA.out 6 q c 0 0 c cp').mono ?_
          rintro e w2 ⟨rfl, htk2, htt2⟩
          go_wp2
          go_roundw
          case rel =>
            refine ⟨k + 1, some ⟨gb, ob + c, none⟩, cp' - c, by go_num, by rw [HNX.out, ← HQ.out]; congr 1; omega, by rw [HN1.out], by rw [HN1.out]; omega, by omega, ?_, by omega, by omega, htk2.below ((Below.refl _ _).alloc (Nat.le_refl _) _), (HTT.out.trans htt2).alloc _⟩
            exact HREL.out _ _ _ (.inl rfl) (by omega) (htk2.below ((Below.refl _ _).alloc (Nat.le_refl _) _)) (htt2.alloc _)
          case measure => simp [intOf]; omega
      · obtain rfl : k = i := by omega
        go_wp2_with fail
        refine (tapeDo_wants HTK.out 6 q c 0 0 c cp').mono ?_
        rintro e w2 ⟨rfl, htk2, htt2⟩
        go_wp2
        go_ret
        refine ⟨false, rfl, ((Touch.of_below hw1.out).trans (HTT.out.trans htt2)).alloc _, .inl ⟨HK8.out, some ⟨gb, ob, none⟩, c, cp', ?_, ?_⟩⟩
        · rw [HQ.out, HCQ.out.2, HCQ.out.1]
          exact htk2.below ((Below.refl _ _).alloc (Nat.le_refl _) _)
        · rw [HCQ.out.2, HCQ.out.1]
          have := ((BytesAt.one HTK.out (by intro x e; cases e) htt2 HBK.out).alloc (.cells #[.int .u64 0, .bool false, .slice none 0 0] 39)).cut 0 c cp' (by rw [Mb.bl_length]; omega)
          rw [cut_at f (8 * k) 0 c r (by omega)] at this
          exact this
    · have hkm2 : k = m := by omega
      have hkn : n ≤ 8 * k := by have := HL.out; omega
      have HKN := Lib.hid hkn
      have hg1 : (m : Int) ≤ k := by omega
      have HTK := Lib.hid htk
      have HTT := Lib.hid htt
      clear htk htt hkm2 hkn
      go_wp2
      go_ret
      exact ⟨true, rfl, (Touch.of_below hw1.out).trans HTT.out, .inr ⟨by have := HKN.out; omega, k, HTK.out⟩⟩
end Go.Proofs.Ytplomefkmgkdjaa
