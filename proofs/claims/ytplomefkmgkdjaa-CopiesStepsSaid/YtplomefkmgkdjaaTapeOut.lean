/-
  The tape of the plain answers (layer 5): zeros written, bytes read, walked.
-/
import Derived.Test.YtplomefkmgkdjaaTapeIn
namespace Go.Proofs.Ytplomefkmgkdjaa
open Go.RowKit

theorem few_no {n : Int} (h : n < 1 ∨ 131072 < n) : Cy.few n = 0 := by unfold Cy.few; rw [if_neg (by omega)]
theorem few_yes {n : Int} (h0 : 1 ≤ n) (h1 : n ≤ 131072) : ((Cy.few n : Nat) : Int) = n := by unfold Cy.few; rw [if_pos ⟨h0, h1⟩]; omega

set_option maxRecDepth 100000 in
set_option maxHeartbeats 1000000 in
theorem tapeZero_any {w : World} {p cap i : Nat} {A : Option Addr} (h : Tp w p A cap i 0 0 0 0 0 0 (.slice none 0 0) false) (hi : i ≤ cap) (hcap : cap ≤ 9223372036854775807) {T : Nat → Ans} (hT : ToldAt w A i T) (hA : 0 < i → ∀ a, A = some a → a.block ≠ p)
    (at_ : Int) (hat0 : -4611686018427387904 ≤ at_) (hat1 : at_ ≤ 4611686018427387904) (n : Int) :
    Calls Try.prog 19 #[.pointer (some ⟨p, 0, none⟩), .int .i64 at_, .int .i64 n] w (SaidIn p A cap i at_ (fun _ => 0) (Cy.few n) w) := by
  by_cases hr : n < 1 ∨ 131072 < n
  · have hf := few_no hr
    rw [hf]
    have HT := Lib.hid h
    clear h hf
    rcases hr with hr | hr
    · go_enter Try.func19, Try.ntmps19
      go_wp2
      go_ret
      exact ⟨true, rfl, Touch.refl _ _, .inr ⟨Nat.zero_le _, 0, HT.out⟩⟩
    · have hr2 : 1 ≤ n := by omega
      go_enter Try.func19, Try.ntmps19
      go_wp2
      go_ret
      exact ⟨true, rfl, Touch.refl _ _, .inr ⟨Nat.zero_le _, 0, HT.out⟩⟩
  · have h1 : 1 ≤ n := by omega
    have h2 : n ≤ 131072 := by omega
    obtain ⟨k, rfl⟩ := Int.eq_ofNat_of_zero_le (by omega : 0 ≤ n)
    rw [Cy.few_nat (by omega)]
    have HW := (Below.refl w.heap.size w).alloc (Nat.le_refl _) (.cells (madeCells #[.int .u8 0] k) 5)
    have hmk := make_bytes k (by omega)
    have HC := Lib.hid (tapeIn_any (h.below HW) hi hcap (hT.below HW) hA at_ hat0 hat1 (some ⟨w.heap.size, 0, none⟩) k k (fun _ => 0) (zeros_made w k (by omega)).bytes (by omega) (Nat.le_refl _) (by omega))
    have HZ := Lib.hid (zeros_len k)
    clear h hT hA hr
    go_enter Try.func19, Try.ntmps19
    go_wp2_with fail
    refine HC.out.mono ?_
    rintro e w2 ⟨b, rfl, ht, hrest⟩
    have HR := Lib.hid hrest
    clear hrest
    go_wp2
    go_ret
    exact ⟨b, rfl, (Touch.of_below HW).trans ht, HR.out⟩

/-- The bytes of the first k answers. -/
def cat (T : Nat → Ans) : Nat → List Int
  | 0 => []
  | k + 1 => cat T k ++ (T k).bs

theorem cat_le (T : Nat → Ans) {k i : Nat} (h : k ≤ i) : (cat T k).length ≤ (cat T i).length := by
  induction i with
  | zero => have : k = 0 := by omega
            subst this; exact Nat.le_refl _
  | succ i ih =>
    rcases Nat.lt_or_ge k (i + 1) with hl | hl
    · have := ih (by omega)
      show _ ≤ (cat T i ++ (T i).bs).length
      rw [List.length_append]
      omega
    · have : k = i + 1 := by omega
      subst this; exact Nat.le_refl _

theorem Touch.grown {S : Nat → Prop} {a w w' : World} {row : Option Nat} (h : Touch S a w) (hg : w.grownBy w' row) (hr : ∀ k, row = some k → a.heap.size ≤ k) : Touch S a w' :=
  ⟨hg.os.trans h.os, hg.tape.trans h.tape, hg.output.trans h.output, Nat.le_trans h.size hg.size, fun k hk hn => (hg.block k (Nat.lt_of_lt_of_le hk h.size) (fun e => by have := hr k e.symm; omega)).trans (h.block k hk hn)⟩

/-- What a tape that was told i answers says of n bytes that are read at 'at': what was read so far, and the access that is wanted next, or none. -/
def SaidOut (p : Nat) (A : Option Addr) (cap i : Nat) (T : Nat → Ans) (at_ : Int) (n : Nat) (w : World) (e : Ending) (w' : World) : Prop :=
  ∃ B l c b, e = .returned (.tuple #[.slice B l c, .bool b]) ∧ Touch (One p) w w' ∧ Owns w.heap.size w' (.slice B l c) (cat T (if 8 * i < n then i else (n + 7) / 8)) ∧
    ((8 * i < n ∧ Tp w' p A cap i i 5 (at_ + (8 * i : Nat)) (Cy.nx (n - 8 * i) : Nat) 0 0 (.slice none 0 0) true) ∨
     (n ≤ 8 * i ∧ ∃ j, Tp w' p A cap i j 0 0 0 0 0 (.slice none 0 0) false))

set_option maxRecDepth 100000 in
set_option maxHeartbeats 2000000 in
theorem tapeOut_any {w : World} {p cap i : Nat} {A : Option Addr} (h : Tp w p A cap i 0 0 0 0 0 0 (.slice none 0 0) false) (hi : i ≤ cap) (hcap : cap ≤ 9223372036854775807) {T : Nat → Ans} (hT : ToldAt w A i T) (hA : 0 < i → ∀ a, A = some a → a.block ≠ p)
    (hcat : (cat T i).length ≤ 1073741824) (at_ : Int) (hat0 : -4611686018427387904 ≤ at_) (hat1 : at_ ≤ 4611686018427387904) (ni : Int) :
    Calls Try.prog 20 #[.pointer (some ⟨p, 0, none⟩), .int .i64 at_, .int .i64 ni] w (SaidOut p A cap i T at_ (Cy.few ni) w) := by
  have hlt := h.lt
  have HT := Lib.hid h
  have HTo := Lib.hid hT
  have HA := Lib.hid hA
  have hn := Cy.few_le ni
  have hch := refChunks_parts ni w
  generalize Cy.few ni = n at hn hch ⊢
  have HCH := Lib.hid hch
  clear h hT hA hch
  go_enter Try.func20, Try.ntmps20
  go_wp2_with fail
  refine HCH.out.mono ?_
  rintro e w1 ⟨v1, rfl, ⟨A1, c1, rfl, p1, p2, p3⟩, hb1⟩
  have hlen := Cy.cks_length n
  generalize hm : (Cy.cks n).length = m at p1 p3 hlen ⊢
  have HT1 := Lib.hid (HT.out.below hb1)
  have HTo1 := Lib.hid (HTo.out.below hb1)
  have HP3 := Lib.hid p3
  have hs1 := hb1.size
  have hw1 := Lib.hid hb1
  have HM := Lib.hid hm
  have hm1 : m ≤ 16384 := by omega
  have HL := Lib.hid hlen
  clear p3 hb1 hm hlen
  go_wp2_with fail
  go_loopw [1, 8, 16] (fun a b t wr => ∃ (k : Nat) (A' : Option Addr) (l' cp' : Nat), t = .int .i64 k ∧ a = .int .i64 (at_ + (Cy.at_ n k : Nat)) ∧ b = .slice A' l' cp' ∧ Owns w1.heap.size wr b (cat T k) ∧ k ≤ m ∧ k ≤ i ∧
      Tp wr p A cap i k 0 0 0 0 0 (.slice none 0 0) false ∧ Touch (One p) w1 wr) (fun _ _ t _ => m - (intOf t).toNat)
  case atStart => 
    exact ⟨0, none, 0, 0, rfl, by rw [Cy.at_zero]; simp, rfl, World.ownsRow_nil _ _ _ _, by omega, by omega, HT1.out, Touch.refl _ _⟩
  case round =>
    obtain ⟨k, A', l', cp', rfl, rfl, rfl, hown, hkm, hki, htk, htt⟩ := hrel
    by_cases hlt : k < m
    · have hk8 : 8 * k < n := by have := HL.out; omega
      have hd := Cy.at_here hk8
      have hnx := Cy.at_next hk8
      rw [hd] at hnx ⊢
      have hc0 := Cy.nx_pos (r := n - 8 * k) (by omega)
      have hc1 := Cy.nx_le (n - 8 * k)
      obtain ⟨cb, co, rfl, ⟨hcb, _⟩, hcl, hcell⟩ := HP3.out (by omega)
      have hcp : cb ≠ p := by omega
      have hck := (htt.cell (p := ⟨cb, co + k, none⟩) hcl hcp).trans (hcell k hlt)
      rw [← HM.out] at hlt
      have hgd := Cy.cks_getD n k hk8
      rw [hgd] at hck
      rw [HM.out] at hlt
      generalize hcq : Cy.nx (n - 8 * k) = c at hc0 hc1 hck hnx hgd
      have HCQ := Lib.hid hcq
      have HNX := Lib.hid hnx
      have HK8 := Lib.hid hk8
      have HOW := Lib.hid hown
      have HTK := Lib.hid htk
      have HTT := Lib.hid htt
      have htold := Lib.hid (HTo1.out.one HT1.out (by intro x e; cases e) htt HA.out)
      have hg1 : (k : Int) < m := by omega
      have hk13 : k ≤ 16384 := by omega
      have hq3 : -4611686018427387904 ≤ at_ + ((8 * k : Nat) : Int) := by omega
      have hq4 : at_ + ((8 * k : Nat) : Int) ≤ 4611686018427518976 := by omega
      have hg5 : IntKind.i64.wrap (at_ + ((8 * k : Nat) : Int) + (c : Int)) = at_ + ((8 * k : Nat) : Int) + c := IntWalk.i64_in _ (by omega)
      generalize hqq : at_ + ((8 * k : Nat) : Int) = q at hg5 hq3 hq4 ⊢
      have HQ := Lib.hid hqq
      clear hcell hgd hcq hd hnx hown htk htt hk8 hqq
      by_cases hki2 : k < i
      · have HIS : Hid ((T k).Is wr) := by
          obtain ⟨_, _, _, _, hh⟩ := htold.out (by omega)
          exact (hh k hki2).2.2.2
        have HCL : Hid ((cat T k).length + (T k).bs.length ≤ 1073741824) := by
          have := cat_le T (k := k + 1) (i := i) hki2
          have e : (cat T (k + 1)).length = (cat T k).length + (T k).bs.length := by show (cat T k ++ (T k).bs).length = _; rw [List.length_append]
          show _ ≤ _
          omega
        go_wp2_with fail
        refine (tapeDo_tells HTK.out hki2 hi hcap htold.out HA.out 5 q c 0 0 0 0).mono ?_
        rintro e w2 ⟨rfl, htk2, htt2⟩
        have HS2 := htt2.size
        have HS0 := HTT.out.size
        have hown2 : ∀ q2, (Value.slice A' l' cp').ownBlock = some q2 → ¬ One p q2 := fun q2 hq2 h2 => by
          have := (HOW.out.ge hq2).1
          have : q2 = p := h2
          omega
        have HOW3 := Lib.hid (Owns.alloc (HOW.out.keepTouch htt2 hown2) (.cells #[.int .u64 (T k).V, .bool (T k).D, .slice (T k).A (T k).L (T k).cap] 39))
        have HBS3 := Lib.hid ((BytesAt.one HTK.out (by intro x e; cases e) htt2 HIS.out.bytes).alloc (.cells #[.int .u64 (T k).V, .bool (T k).D, .slice (T k).A (T k).L (T k).cap] 39))
        have HTK3 := Lib.hid (htk2.below ((Below.refl _ _).alloc (Nat.le_refl _) (.cells #[.int .u64 (T k).V, .bool (T k).D, .slice (T k).A (T k).L (T k).cap] 39)))
        have HTT3 := Lib.hid ((HTT.out.trans htt2).alloc (.cells #[.int .u64 (T k).V, .bool (T k).D, .slice (T k).A (T k).L (T k).cap] 39))
        have HOB := Lib.hid hown2
        clear htk2 htt2 hown2
        go_wp2_with (at_builtin; refine wpList_app_any rfl _ _ rfl w1.heap.size (.slice A' l' cp') (.slice (T k).A (T k).L (T k).cap) (cat T k) (T k).bs rfl rfl HOW3.out HBS3.out HCL.out (by simp; omega) ?_; intro v5 w5 happ; obtain ⟨A5, c5, rfl, _⟩ := happ.own.bytes)
        have HAPP := Lib.hid happ
        clear happ
        go_roundw
        case rel =>
          have hap := HAPP.out.own
          rw [List.length_append] at hap
          refine ⟨k + 1, A5, _, c5, by go_num, by rw [HNX.out, ← HQ.out]; congr 1; omega, rfl, hap, by omega, by omega, HTK3.out.of_block (HAPP.out.grown.block p HTK3.out.lt fun e => HOB.out p e.symm rfl), HTT3.out.grown HAPP.out.grown fun q2 hq2 => (HOW3.out.ge hq2).1⟩
        case measure => simp [intOf]; omega
      · obtain rfl : k = i := by omega
        go_wp2_with fail
        refine (tapeDo_wants HTK.out 5 q c 0 0 0 0).mono ?_
        rintro e w2 ⟨rfl, htk2, htt2⟩
        go_wp2
        go_ret2
        have hown2 : ∀ q2, (Value.slice A' l' cp').ownBlock = some q2 → ¬ One p q2 := fun q2 hq2 h2 => by
          have := (HOW.out.ge hq2).1
          have : q2 = p := h2
          omega
        refine ⟨A', l', cp', false, rfl, ((Touch.of_below hw1.out).trans (HTT.out.trans htt2)).alloc _, ?_, .inl ⟨HK8.out, ?_⟩⟩
        · rw [if_pos HK8.out]
          exact Owns.alloc ((HOW.out.keepTouch htt2 hown2).down hs1) _
        · rw [HQ.out, HCQ.out]
          exact htk2.below ((Below.refl _ _).alloc (Nat.le_refl _) _)
    · have hkm2 : k = m := by omega
      have hkn : n ≤ 8 * k := by have := HL.out; omega
      have HKN := Lib.hid hkn
      have hg1 : (m : Int) ≤ k := by omega
      have HTK := Lib.hid htk
      have HTT := Lib.hid htt
      have HOW := Lib.hid hown
      have HKM := Lib.hid hkm2
      clear htk htt hkm2 hkn hown
      go_wp2
      go_ret2
      refine ⟨A', l', cp', true, rfl, (Touch.of_below hw1.out).trans HTT.out, ?_, .inr ⟨by have := HKN.out; omega, k, HTK.out⟩⟩
      have hk1 := HKN.out
      have hk2 := HKM.out
      have hk3 := HL.out
      have e : (if 8 * i < n then i else (n + 7) / 8) = k := by
        by_cases h8 : 8 * i < n
        · rw [if_pos h8]; omega
        · rw [if_neg h8]; omega
      rw [e]
      exact HOW.out.down hs1
end Go.Proofs.Ytplomefkmgkdjaa
