/-
  Layer 5's machines on a buffer that nobody else writes: one access behind the other, to the end; walked.
-/
import Derived.Test.YtplomefkmgkdjaaCopySteps
import Derived.Test.YtplomefkmgkdjaaCopyTook
import Derived.Test.YtplomefkmgkdjaaMembufDo
namespace Go.Proofs.Ytplomefkmgkdjaa
open Go.RowKit

namespace Cy
/-- The bytes m, and d of f laid over them at a. -/
def lay (m f : Nat → Nat) (a d : Nat) : Nat → Nat := fun i => if a ≤ i ∧ i < a + d then f (i - a) else m i

theorem lay_isB {m f : Nat → Nat} (hm : Mb.IsB m) (hf : Mb.IsB f) (a d : Nat) : Mb.IsB (lay m f a d) := fun i => by
  unfold lay
  split
  · exact hf _
  · exact hm _

theorem lay_zero (m f : Nat → Nat) (a : Nat) : lay m f a 0 = m := by
  funext i
  unfold lay
  rw [if_neg (by omega)]

theorem lay_step {m f : Nat → Nat} (hf : Mb.IsB f) (a d c : Nat) : Mb.put (lay m f a d) (a + d) c (Mb.nm (fun i => f (d + i)) 0 c) = lay m f a (d + c) := by
  funext i
  unfold Mb.put lay
  by_cases h1 : a + d ≤ i ∧ i < a + d + c
  · rw [if_pos h1, if_pos (by omega), Mb.byt_nm (m := fun i => f (d + i)) (fun _ => hf _) 0 c _ (by omega)]
    show f (d + (0 + (i - (a + d)))) = _
    congr 1
    omega
  · rw [if_neg h1]
    by_cases h2 : a ≤ i ∧ i < a + d
    · rw [if_pos h2, if_pos (by omega)]
    · rw [if_neg h2, if_neg (by omega)]
end Cy

/-- The bytes of a buffer, d of them copied. -/
def aftK (kd : Kd) (m : Nat → Nat) (a d : Nat) : Nat → Nat :=
  match kd with
  | .wr _ f => Cy.lay m f a d
  | .ze _ => Cy.lay m (fun _ => 0) a d
  | .rd _ => m

/-- What was read of them. -/
def gotK (kd : Kd) (m : Nat → Nat) (a d : Nat) : List Int := if kd.reads then Mb.bl m a d else []

/-- Its bytes are bytes. -/
def Kd.fine (kd : Kd) : Prop := match kd with
  | .wr _ f => Mb.IsB f
  | _ => True

theorem aftK_zero (kd : Kd) (m : Nat → Nat) (a : Nat) : aftK kd m a 0 = m := by
  cases kd with
  | wr _ f => exact Cy.lay_zero m f a
  | ze _ => exact Cy.lay_zero m (fun _ => 0) a
  | rd _ => rfl

theorem gotK_zero (kd : Kd) (m : Nat → Nat) (a : Nat) : gotK kd m a 0 = [] := by
  unfold gotK
  split <;> rfl

theorem gotK_step (kd : Kd) (m : Nat → Nat) (a d c : Nat) : gotK kd m a d ++ (if kd.reads then gotK kd m (a + d) c else []) = gotK kd m a (d + c) := by
  unfold gotK
  by_cases h : kd.reads = true
  · rw [if_pos h, if_pos h, if_pos h, if_pos h, Mb.bl_append]
  · rw [if_neg h, if_neg h, if_neg h]; rfl

theorem gotK_length (kd : Kd) (m : Nat → Nat) (a d : Nat) : (gotK kd m a d).length ≤ d := by
  unfold gotK
  split
  · rw [Mb.bl_length]; exact Nat.le_refl _
  · simp

theorem Owns.room {base : Nat} {w : World} {A : Option Addr} {l c : Nat} {xs : List Int} (h : Owns base w (.slice A l c) xs) : xs.length = l ∧ l ≤ c ∧ c ≤ 9223372036854775807 := by
  rcases h.2 with ⟨hv, h0⟩ | ⟨g, cap, cur, hv, _, _, hnc, hm, _⟩
  · injection hv with e1 e2 e3
    subst e2 e3
    exact ⟨by omega, Nat.le_refl _, by decide⟩
  · injection hv with e1 e2 e3
    subst e2 e3
    exact ⟨rfl, hnc, by unfold maxLen at hm; omega⟩

theorem chk_write {S : Int} {p n : Nat} (h : (p : Int) + n ≤ S) (hn : n ≤ 8) : chk S 6 p n n = 0 := by
  have e : formed 6 n n = true := by unfold formed; simp; omega
  unfold chk
  rw [e]
  rw [if_neg (by simp), if_neg (by omega), if_neg (by simp [numB])]

theorem chk_read {S : Int} {p n l : Nat} (h : (p : Int) + n ≤ S) (hn : n ≤ 8) : chk S 5 p n l = 0 := by
  have e : formed 5 n l = true := by unfold formed; simp; omega
  unfold chk
  rw [e]
  rw [if_neg (by simp), if_neg (by omega), if_neg (by simp [numB])]

/-- A copy's access was done. -/
def StepDone (kd : Kd) (m : Nat → Nat) (a d c : Nat) (gb hb nw : Nat) (cn : Int) (w : World) (e : Ending) (w' : World) : Prop :=
  ∃ A l cp, e = .returned (.tuple #[.agg #[.int .u64 0, .bool false, .slice A l cp], .int .i64 0]) ∧ BytesAt w' (.slice A l cp) (gotK kd m (a + d) c) ∧ Stored gb hb (aftK kd m a (d + c)) nw (nxt cn) w w'

theorem step_do (kd : Kd) {m : Nat → Nat} {a d c gb hb nw : Nat} {cn : Int} {w : World} (hk : kd.fine) (B : Buf w gb hb (aftK kd m a d) nw cn) {base : Nat} {A : Option Addr} {l cp : Nat} (ho : Owns base w (.slice A l cp) (kd.bytes d c)) (hc : c ≤ 8) (hin : a + d + c ≤ 8 * nw) :
    Calls Try.prog 27 #[.pointer (some ⟨gb, 0, none⟩), .agg #[.int .i64 kd.kind, .int .i64 ((a + d : Nat) : Int), .int .i64 c, .int .u64 0, .int .u64 0, .slice A l cp]] w (StepDone kd m a d c gb hb nw cn w) := by
  have hr := ho.room
  cases kd with
  | wr at_ f =>
    have hl : l = c := by have := hr.1; simp only [Kd.bytes, Mb.bl_length] at this; omega
    subst hl
    have hf : Mb.IsB f := hk
    have hfd : Mb.IsB (fun i => f (d + i)) := fun _ => hf _
    have hbt : BytesAt w (.slice A l cp) (Mb.bl (fun i => f (d + i)) 0 l) := by
      have := ho.bytes
      have e : Mb.bl (fun i => f (d + i)) 0 l = Mb.bl f d l := by simp [Mb.bl]
      rw [e]
      exact this
    refine (do_ok B 6 (a + d) l 0 0 hfd A l cp hr.2.1 hr.2.2 hbt (by decide) (chk_write (by omega) hc)).mono ?_
    rintro e w' ⟨s, rfl, hb, hs⟩
    obtain ⟨A2, c2, hv, _⟩ := hb
    refine ⟨A2, 0, c2, by rw [hv]; rfl, ?_, ?_⟩
    · exact ⟨A2, c2, rfl, fun h => absurd h (by simp [gotK, Kd.reads])⟩
    · have e : Mb.aft (aftK (.wr at_ f) m a d) 6 (a + d) l 0 0 (fun i => f (d + i)) = aftK (.wr at_ f) m a (d + l) := Cy.lay_step hf a d l
      rw [← e]
      exact hs
  | ze at_ =>
    have hl : l = c := by have := hr.1; simp only [Kd.bytes, Mb.bl_length] at this; omega
    subst hl
    have hf : Mb.IsB (fun _ => 0) := Mb.zero_isB
    have hbt : BytesAt w (.slice A l cp) (Mb.bl (fun _ => 0) 0 l) := ho.bytes
    refine (do_ok B 6 (a + d) l 0 0 hf A l cp hr.2.1 hr.2.2 hbt (by decide) (chk_write (by omega) hc)).mono ?_
    rintro e w' ⟨s, rfl, hb, hs⟩
    obtain ⟨A2, c2, hv, _⟩ := hb
    refine ⟨A2, 0, c2, by rw [hv]; rfl, ?_, ?_⟩
    · exact ⟨A2, c2, rfl, fun h => absurd h (by simp [gotK, Kd.reads])⟩
    · have e : Mb.aft (aftK (.ze at_) m a d) 6 (a + d) l 0 0 (fun _ => 0) = aftK (.ze at_) m a (d + l) := Cy.lay_step hf a d l
      rw [← e]
      exact hs
  | rd at_ =>
    have hl : l = 0 := by have := hr.1; simp only [Kd.bytes, List.length_nil] at this; omega
    subst hl
    have hbt : BytesAt w (.slice A 0 cp) (Mb.bl (fun _ => 0) 0 0) := ho.bytes
    refine (do_ok B 5 (a + d) c 0 0 Mb.zero_isB A 0 cp hr.2.1 hr.2.2 hbt (by decide) (chk_read (by omega) hc)).mono ?_
    rintro e w' ⟨s, rfl, hb, hs⟩
    obtain ⟨A2, c2, rfl, hx⟩ := hb
    exact ⟨A2, _, c2, rfl, ⟨A2, c2, rfl, hx⟩, hs⟩

theorem step_do_as (kd : Kd) {m : Nat → Nat} {a d c gb hb nw : Nat} {cn : Int} {w : World} (hk : kd.fine) (B : Buf w gb hb (aftK kd m a d) nw cn) {base : Nat} {A : Option Addr} {l cp : Nat} (ho : Owns base w (.slice A l cp) (kd.bytes d c)) (hc : c ≤ 8) (hin : a + d + c ≤ 8 * nw)
    {K P : Int} (hK : kd.kind = K) (hP : ((a + d : Nat) : Int) = P) :
    Calls Try.prog 27 #[.pointer (some ⟨gb, 0, none⟩), .agg #[.int .i64 K, .int .i64 P, .int .i64 c, .int .u64 0, .int .u64 0, .slice A l cp]] w (StepDone kd m a d c gb hb nw cn w) := by
  subst hK hP
  exact step_do kd hk B ho hc hin

/-- The blocks that a run writes. -/
def RunS (gb hb g : Nat) (v : Value) (k : Nat) : Prop := Two gb hb k ∨ Mine g v k

/-- A machine ran to its end on a buffer. -/
def RunIs (kd : Kd) (m : Nat → Nat) (a n gb hb nw base top g : Nat) (v : Value) (w : World) (e : Ending) (w' : World) : Prop :=
  ∃ v' c', e = .returned (.bool true) ∧ Buf w' gb hb (aftK kd m a n) nw c' ∧ Cp w' base top g kd n 0 v' (gotK kd m a n) ∧ Touch (RunS gb hb g v) w w' ∧ Lies v v' w

theorem touch_mine {gb hb g : Nat} {v v1 : Value} {w w1 w2 : World} (h : Touch (RunS gb hb g v) w w1) (hl : Lies v v1 w) (ht : Touch (Mine g v1) w1 w2) : Touch (RunS gb hb g v) w w2 :=
  ⟨ht.os.trans h.os, ht.tape.trans h.tape, ht.output.trans h.output, Nat.le_trans h.size ht.size, fun k hk hn => (ht.block k (Nat.lt_of_lt_of_le hk h.size) (fun hm => by
    rcases hm with hm | hm
    · exact hn (.inr (.inl hm))
    · rcases hl k hm with e | e
      · exact hn (.inr (.inr e))
      · omega)).trans (h.block k hk hn)⟩

theorem lies_trans {v v1 v2 : Value} {w w1 : World} (h : Lies v v1 w) (hs : w.heap.size ≤ w1.heap.size) (k : Lies v1 v2 w1) : Lies v v2 w := fun q hq => by
  rcases k q hq with e | e
  · exact h q e
  · exact .inr (Nat.le_trans hs e)

set_option maxRecDepth 100000 in
set_option maxHeartbeats 2000000 in
theorem run_any (kd : Kd) {m : Nat → Nat} {a n gb hb nw base top g : Nat} {cn : Int} {w : World} {v : Value} (hk : kd.fine) (ha : kd.place = (a : Nat)) (B : Buf w gb hb m nw cn) (hC : Cp w base top g kd 0 n v []) (hgb : gb < base) (hhb : hb < base) (hin : a + n ≤ 8 * nw) (hn : n ≤ 3192) :
    Calls Try.prog 15 #[.pointer (some ⟨gb, 0, none⟩), .pointer (some ⟨g, 0, none⟩)] w (RunIs kd m a n gb hb nw base top g v w) := by
  have HB := Lib.hid B
  have HC := Lib.hid hC
  have hbg := hC.above
  have hgt := hC.under
  have htop := hC.there
  have HK := Lib.hid hk
  have HPL := Lib.hid ha
  obtain ⟨K, hKq⟩ : ∃ K, kd.kind = K := ⟨_, rfl⟩
  have HKQ := Lib.hid hKq
  have hfw := B.few
  clear B hC hk ha hKq
  go_enter Try.func15, Try.ntmps15
  go_wp2
  go_loopw [9] (fun t wr => ∃ (i : Nat) (v1 : Value) (c1 : Int), t = .int .i64 i ∧ 8 * i < n + 8 ∧ Buf wr gb hb (aftK kd m a (Cy.at_ n i)) nw c1 ∧ Cp wr base top g kd (Cy.at_ n i) (n - Cy.at_ n i) v1 (gotK kd m a (Cy.at_ n i)) ∧ Touch (RunS gb hb g v) w wr ∧ Lies v v1 w) (fun t _ => 400 - (intOf t).toNat)
  case atStart =>
    refine ⟨0, v, cn, rfl, by omega, ?_, ?_, Touch.refl _ _, fun _ h => .inl h⟩
    · rw [Cy.at_zero, aftK_zero]; exact HB.out
    · rw [Cy.at_zero, gotK_zero]; exact HC.out
  case round =>
    obtain ⟨i, v1, c1, rfl, hi, hbuf, hcp, htt, hly⟩ := hrel
    have hi4 : (i : Int) < 400 := by omega
    have HLY := Lib.hid hly
    have HTT := Lib.hid htt
    have HBU := Lib.hid hbuf
    have hown := Lib.hid (fun q hq => hcp.own.ge (k := q) hq)
    have htw := hcp.there
    have hst := htt.size
    by_cases h8 : 8 * i < n
    · have hd := Cy.at_here h8
      have hx := Cy.at_next h8
      have hcp2 := Cy.nx_pos (r := n - Cy.at_ n i) (by omega)
      have hcl := Cy.nx_le (n - Cy.at_ n i)
      have HCP := Lib.hid hcp
      have HX := Lib.hid hx
      have hdn := Cy.at_le n i
      clear hcp hbuf htt hly hx hd
      generalize hdq : Cy.at_ n i = d at HBU HCP HX hcp2 hcl hdn
      generalize hcq : Cy.nx (n - d) = c at HX hcp2 hcl
      have HCQ := Lib.hid hcq
      clear hdq
      obtain ⟨P, hPq⟩ : ∃ P : Int, ((a + d : Nat) : Int) = P := ⟨_, rfl⟩
      have HPQ := Lib.hid hPq
      have hnext := next_as HCP.out (by omega) (K := K) (P := P) (N := (c : Nat)) (b := kd.bytes d c) HKQ.out (by rw [HPL.out, ← hPq]; omega) (by rw [hcq]) (by rw [hcq])
      have HNX := Lib.hid hnext
      clear hnext hcq hPq
      go_wp2_with fail
      refine HNX.out.mono ?_
      rintro e w2 ⟨A2, l2, c2, rfl, ho2, hb2⟩
      have hb2a := (Below.refl w2.heap.size w2).alloc (Nat.le_refl _) (.cells #[.int .i64 K, .int .i64 P, .int .i64 (c : Nat), .int .u64 0, .int .u64 0, .slice A2 l2 c2] 30)
      have HCP2 := Lib.hid ((HCP.out.below hb2).below hb2a)
      have HBU2 := Lib.hid ((HBU.out.below hb2).below hb2a)
      have HO2 := Lib.hid (ho2.below hb2a)
      have HTT2 := Lib.hid (HTT.out.trans ((Touch.of_below hb2).trans (Touch.of_below hb2a)))
      have hs2 := hb2.size
      have hs2a := hb2a.size
      clear ho2 hb2 hb2a
      go_wp2_with fail
      generalize w2.heap.size = x2 at hs2 hs2a ⊢
      generalize w2.alloc (.cells #[.int .i64 K, .int .i64 P, .int .i64 (c : Nat), .int .u64 0, .int .u64 0, .slice A2 l2 c2] 30) = W2 at HCP2 HBU2 HO2 HTT2 hs2a ⊢
      refine (step_do_as kd HK.out HBU2.out HO2.out (by omega) (by omega) HKQ.out HPQ.out).mono ?_
      rintro e w3 ⟨A3, l3, c3, rfl, hb3, hst3⟩
      have hb3a := (Below.refl w3.heap.size w3).alloc (Nat.le_refl _) (.cells #[.int .u64 0, .bool false, .slice A3 l3 c3] 39)
      have hcp3 := HCP2.out.touch hst3.2 (fun q h1 _ h3 => by rcases h3 with h3 | h3 <;> omega) (fun q hq h3 => by have := (hown.out q hq).1; rcases h3 with h3 | h3 <;> omega)
      have HCP3 := Lib.hid (hcp3.below hb3a)
      have HBU3 := Lib.hid (hst3.1.below hb3a)
      have HBY3 := Lib.hid (hb3.below hb3a)
      have HTT3 := Lib.hid ((HTT2.out.trans (hst3.2.mono fun q hq => Or.inl hq)).trans (Touch.of_below hb3a))
      clear hb3 hst3 hb3a hcp3
      go_wp2_with fail
      generalize w3.alloc (.cells #[.int .u64 0, .bool false, .slice A3 l3 c3] 39) = W3 at HCP3 HBU3 HBY3 HTT3 ⊢
      have hlen : (gotK kd m a d).length + (gotK kd m (a + d) c).length ≤ 1073741824 := by
        have h1 := gotK_length kd m a d
        have h2 := gotK_length kd m (a + d) c
        omega
      have HTK := Lib.hid (take_any HCP3.out (by omega) 0 false A3 l3 c3 HBY3.out hlen)
      clear hlen
      refine HTK.out.mono ?_
      rintro e w4 ⟨v4, rfl, hc4, ht4, hl4⟩
      rw [gotK_step, HCQ.out] at hc4
      have HC4 := Lib.hid hc4
      have HB4 := Lib.hid (HBU3.out.touch ht4 (fun h3 => by rcases h3 with h3 | h3; omega; have := (hown.out _ h3).1; omega) (fun h3 => by rcases h3 with h3 | h3; omega; have := (hown.out _ h3).1; omega))
      have HT4 := Lib.hid (touch_mine HTT3.out HLY.out ht4)
      have HL4 := Lib.hid (lies_trans HLY.out HTT3.out.size hl4)
      clear hc4 ht4 hl4
      go_wp2
      go_roundw
      case rel =>
        refine ⟨i + 1, v4, nxt c1, by go_num, by omega, ?_, ?_, HT4.out, HL4.out⟩
        · rw [HX.out]; exact HB4.out
        · rw [HX.out]
          have e : n - (d + c) = n - d - c := by omega
          rw [e]
          exact HC4.out
      case measure => simp [intOf]; omega
    · have hd := Cy.at_end (n := n) (i := i) (by omega)
      rw [hd] at hcp
      rw [hd] at HBU
      rw [Nat.sub_self] at hcp
      have HCP := Lib.hid hcp
      have HNX := Lib.hid (next_no HCP.out)
      clear hcp hbuf htt hly hd
      go_wp2_with fail
      refine HNX.out.mono ?_
      rintro e w2 ⟨rfl, hb2⟩
      have HC2 := Lib.hid (HCP.out.below hb2)
      have HB2 := Lib.hid (HBU.out.below hb2)
      have HT2 := Lib.hid (HTT.out.trans (Touch.of_below hb2))
      clear hb2
      go_wp2
      go_ret
      exact ⟨v1, c1, rfl, HB2.out.alloc _, HC2.out.alloc _, HT2.out.alloc _, HLY.out⟩
end Go.Proofs.Ytplomefkmgkdjaa
