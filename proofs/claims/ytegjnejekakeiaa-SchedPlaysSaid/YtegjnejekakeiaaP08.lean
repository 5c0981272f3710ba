/-
  The tape of the plain answers (layer 5): zeros written, bytes read, walked.
  Layer 6's plain jobs: what a job wants next, walked.
  Layer 6's plain world in memory: its bytes, its jobs, its clock, its trace; what turns, and what stays.
  Layer 6's plain Pick, walked: what is refused.
  Layer 6's plain Pick, walked: an actor that is not there, or dead.
  Layer 6's plain world: what its calls turn (the clock, who is dead, the trace).
  Layer 6's plain Pick, walked: a tick.
-/
import Derived.Test.YtegjnejekakeiaaP07
import Derived.Test.YtegjnejekakeiaaP02
import Derived.Test.YtegjnejekakeiaaP03
import Derived.Deep.CutRange
import Derived.Deep.QuietTactic
import Derived.BigRegion
import Derived.BigQuiet
import Derived.Deep.CutBlock
import Derived.Deep.DeepCutAuto
namespace Go.Proofs.Ytegjnejekakeiaa
open Go.RowKit

theorem few_no {n : Int} (h : n < 1 ∨ 131072 < n) : Cy.few n = 0 := by unfold Cy.few; rw [if_neg (by omega)]
theorem few_yes {n : Int} (h0 : 1 ≤ n) (h1 : n ≤ 131072) : ((Cy.few n : Nat) : Int) = n := by unfold Cy.few; rw [if_pos ⟨h0, h1⟩]; omega

set_option maxRecDepth 100000 in
set_option maxHeartbeats 1000000 in
theorem tapeZero_lies {w : World} {p cap i : Nat} {A : Option Addr} (h : Tp w p A cap i 0 0 0 0 0 0 (.slice none 0 0) false) (hi : i ≤ cap) (hcap : cap ≤ 9223372036854775807) {T : Nat → Ans} (hT : ToldAt w A i T) (hA : 0 < i → ∀ a, A = some a → a.block ≠ p)
    (at_ : Int) (hat0 : -4611686018427387904 ≤ at_) (hat1 : at_ ≤ 4611686018427387904) (n : Int) :
    Calls Try.prog 40 #[.pointer (some ⟨p, 0, none⟩), .int .i64 at_, .int .i64 n] w (SaidInK (fun k => w.heap.size ≤ k) p A cap i at_ (fun _ => 0) (Cy.few n) w) := by
  by_cases hr : n < 1 ∨ 131072 < n
  · have hf := few_no hr
    rw [hf]
    have HT := Lib.hid h
    clear h hf
    rcases hr with hr | hr
    · go_enter Try.func40, Try.ntmps40
      go_wp2
      go_ret
      exact ⟨true, rfl, Touch.refl _ _, .inr ⟨Nat.zero_le _, 0, HT.out⟩⟩
    · have hr2 : 1 ≤ n := by omega
      go_enter Try.func40, Try.ntmps40
      go_wp2
      go_ret
      exact ⟨true, rfl, Touch.refl _ _, .inr ⟨Nat.zero_le _, 0, HT.out⟩⟩
  · have h1 : 1 ≤ n := by omega
    have h2 : n ≤ 131072 := by omega
    obtain ⟨k, rfl⟩ := Int.eq_ofNat_of_zero_le (by omega : 0 ≤ n)
    rw [Cy.few_nat (by omega)]
    have HW := (Below.refl w.heap.size w).alloc (Nat.le_refl _) (.cells (madeCells #[.int .u8 0] k) 5)
    have hmk := make_bytes k (by omega)
    have HC := Lib.hid (tapeIn_lies (K := fun k => w.heap.size ≤ k) (h.below HW) hi hcap (hT.below HW) hA at_ hat0 hat1 (some ⟨w.heap.size, 0, none⟩) k k (fun _ => 0) (zeros_made w k (by omega)).bytes (by omega) (Nat.le_refl _) (by omega) (fun _ a ha => by cases ha; exact Nat.le_refl _))
    have HZ := Lib.hid (zeros_len k)
    clear h hT hA hr
    go_enter Try.func40, Try.ntmps40
    go_wp2_with fail
    refine HC.out.mono ?_
    rintro e w2 ⟨b, rfl, ht, hrest⟩
    have HR := Lib.hid hrest
    clear hrest
    go_wp2
    go_ret
    exact ⟨b, rfl, (Touch.of_below HW).trans ht, HR.out⟩

theorem tapeZero_any {w : World} {p cap i : Nat} {A : Option Addr} (h : Tp w p A cap i 0 0 0 0 0 0 (.slice none 0 0) false) (hi : i ≤ cap) (hcap : cap ≤ 9223372036854775807) {T : Nat → Ans} (hT : ToldAt w A i T) (hA : 0 < i → ∀ a, A = some a → a.block ≠ p)
    (at_ : Int) (hat0 : -4611686018427387904 ≤ at_) (hat1 : at_ ≤ 4611686018427387904) (n : Int) :
    Calls Try.prog 40 #[.pointer (some ⟨p, 0, none⟩), .int .i64 at_, .int .i64 n] w (SaidIn p A cap i at_ (fun _ => 0) (Cy.few n) w) :=
  (tapeZero_lies h hi hcap hT hA at_ hat0 hat1 n).mono fun _ _ hs => hs.said

/-- The bytes of the first k answers. -/
def cat (T : Nat → Ans) : Nat → List Int
  | 0 => []
  | k + 1 => cat T k ++ (T k).bs

theorem cat_le (T : Nat → Ans) {k i : Nat} (h : k ≤ i) : (cat T k).length ≤ (cat T i).length := by
  induction i with
  | zero => have : k = 0 := by omega
            subst this; exact Nat.le_refl _
  | succ i ih =>
    rcases Nat.lt_or_ge k (i + 1) with hl | hl
    · have := ih (by omega)
      show _ ≤ (cat T i ++ (T i).bs).length
      rw [List.length_append]
      omega
    · have : k = i + 1 := by omega
      subst this; exact Nat.le_refl _

theorem Touch.grown {S : Nat → Prop} {a w w' : World} {row : Option Nat} (h : Touch S a w) (hg : w.grownBy w' row) (hr : ∀ k, row = some k → a.heap.size ≤ k) : Touch S a w' :=
  ⟨hg.os.trans h.os, hg.tape.trans h.tape, hg.output.trans h.output, Nat.le_trans h.size hg.size, fun k hk hn => (hg.block k (Nat.lt_of_lt_of_le hk h.size) (fun e => by have := hr k e.symm; omega)).trans (h.block k hk hn)⟩

/-- What a tape that was told i answers says of n bytes that are read at 'at': what was read so far, and the access that is wanted next, or none. -/
def SaidOut (p : Nat) (A : Option Addr) (cap i : Nat) (T : Nat → Ans) (at_ : Int) (n : Nat) (w : World) (e : Ending) (w' : World) : Prop :=
  ∃ B l c b, e = .returned (.tuple #[.slice B l c, .bool b]) ∧ Touch (One p) w w' ∧ Owns w.heap.size w' (.slice B l c) (cat T (if 8 * i < n then i else (n + 7) / 8)) ∧
    ((8 * i < n ∧ Tp w' p A cap i i 5 (at_ + (8 * i : Nat)) (Cy.nx (n - 8 * i) : Nat) 0 0 (.slice none 0 0) true) ∨
     (n ≤ 8 * i ∧ ∃ j, Tp w' p A cap i j 0 0 0 0 0 (.slice none 0 0) false))

set_option maxRecDepth 100000 in
set_option maxHeartbeats 2000000 in
theorem tapeOut_any {w : World} {p cap i : Nat} {A : Option Addr} (h : Tp w p A cap i 0 0 0 0 0 0 (.slice none 0 0) false) (hi : i ≤ cap) (hcap : cap ≤ 9223372036854775807) {T : Nat → Ans} (hT : ToldAt w A i T) (hA : 0 < i → ∀ a, A = some a → a.block ≠ p)
    (hcat : (cat T i).length ≤ 1073741824) (at_ : Int) (hat0 : -4611686018427387904 ≤ at_) (hat1 : at_ ≤ 4611686018427387904) (ni : Int) :
    Calls Try.prog 41 #[.pointer (some ⟨p, 0, none⟩), .int .i64 at_, .int .i64 ni] w (SaidOut p A cap i T at_ (Cy.few ni) w) := by
  have hlt := h.lt
  have HT := Lib.hid h
  have HTo := Lib.hid hT
  have HA := Lib.hid hA
  have hn := Cy.few_le ni
  have hch := refChunks_parts ni w
  generalize Cy.few ni = n at hn hch ⊢
  have HCH := Lib.hid hch
  clear h hT hA hch
  go_enter Try.func41, Try.ntmps41
  go_wp2_with fail
  refine HCH.out.mono ?_
  rintro e w1 ⟨v1, rfl, ⟨A1, c1, rfl, p1, p2, p3⟩, hb1⟩
  have hlen := Cy.cks_length n
  generalize hm : (Cy.cks n).length = m at p1 p3 hlen ⊢
  have HT1 := Lib.hid (HT.out.below hb1)
  have HTo1 := Lib.hid (HTo.out.below hb1)
  have HP3 := Lib.hid p3
  have hs1 := hb1.size
  have hw1 := Lib.hid hb1
  have HM := Lib.hid hm
  have hm1 : m ≤ 16384 := by omega
  have HL := Lib.hid hlen
  clear p3 hb1 hm hlen
  go_wp2_with fail
  go_loopw [1, 8, 16] (fun a b t wr => ∃ (k : Nat) (A' : Option Addr) (l' cp' : Nat), t = .int .i64 k ∧ a = .int .i64 (at_ + (Cy.at_ n k : Nat)) ∧ b = .slice A' l' cp' ∧ Owns w1.heap.size wr b (cat T k) ∧ k ≤ m ∧ k ≤ i ∧
      Tp wr p A cap i k 0 0 0 0 0 (.slice none 0 0) false ∧ Touch (One p) w1 wr) (fun _ _ t _ => m - (intOf t).toNat)
  case atStart => 
    exact ⟨0, none, 0, 0, rfl, by rw [Cy.at_zero]; simp, rfl, World.ownsRow_nil _ _ _ _, by omega, by omega, HT1.out, Touch.refl _ _⟩
  case round =>
    obtain ⟨k, A', l', cp', rfl, rfl, rfl, hown, hkm, hki, htk, htt⟩ := hrel
    by_cases hlt : k < m
    · have hk8 : 8 * k < n := by have := HL.out; omega
      have hd := Cy.at_here hk8
      have hnx := Cy.at_next hk8
      rw [hd] at hnx ⊢
      have hc0 := Cy.nx_pos (r := n - 8 * k) (by omega)
      have hc1 := Cy.nx_le (n - 8 * k)
      obtain ⟨cb, co, rfl, ⟨hcb, _⟩, hcl, hcell⟩ := HP3.out (by omega)
      have hcp : cb ≠ p := by omega
      have hck := (htt.cell (p := ⟨cb, co + k, none⟩) hcl hcp).trans (hcell k hlt)
      rw [← HM.out] at hlt
      have hgd := Cy.cks_getD n k hk8
      rw [hgd] at hck
      rw [HM.out] at hlt
      generalize hcq : Cy.nx (n - 8 * k) = c at hc0 hc1 hck hnx hgd
      have HCQ := Lib.hid hcq
      have HNX := Lib.hid hnx
      have HK8 := Lib.hid hk8
      have HOW := Lib.hid hown
      have HTK := Lib.hid htk
      have HTT := Lib.hid htt
      have htold := Lib.hid (HTo1.out.one HT1.out (by intro x e; cases e) htt HA.out)
      have hg1 : (k : Int) < m := by omega
      have hk13 : k ≤ 16384 := by omega
      have hq3 : -4611686018427387904 ≤ at_ + ((8 * k : Nat) : Int) := by omega
      have hq4 : at_ + ((8 * k : Nat) : Int) ≤ 4611686018427518976 := by omega
      have hg5 : IntKind.i64.wrap (at_ + ((8 * k : Nat) : Int) + (c : Int)) = at_ + ((8 * k : Nat) : Int) + c := IntWalk.i64_in _ (by omega)
      generalize hqq : at_ + ((8 * k : Nat) : Int) = q at hg5 hq3 hq4 ⊢
      have HQ := Lib.hid hqq
      clear hcell hgd hcq hd hnx hown htk htt hk8 hqq
      by_cases hki2 : k < i
      · have HIS : Hid ((T k).Is wr) := by
          obtain ⟨_, _, _, _, hh⟩ := htold.out (by omega)
          exact (hh k hki2).2.2.2
        have HCL : Hid ((cat T k).length + (T k).bs.length ≤ 1073741824) := by
          have := cat_le T (k := k + 1) (i := i) hki2
          have e : (cat T (k + 1)).length = (cat T k).length + (T k).bs.length := by show (cat T k ++ (T k).bs).length = _; rw [List.length_append]
          show _ ≤ _
          omega
        go_wp2_with fail
        refine (tapeDo_tells HTK.out hki2 hi hcap htold.out HA.out 5 q c 0 0 0 0).mono ?_
        rintro e w2 ⟨rfl, htk2, htt2⟩
        have HS2 := htt2.size
        have HS0 := HTT.out.size
        have hown2 : ∀ q2, (Value.slice A' l' cp').ownBlock = some q2 → ¬ One p q2 := fun q2 hq2 h2 => by
          have := (HOW.out.ge hq2).1
          have : q2 = p := h2
          omega
        have HOW3 := Lib.hid (Owns.alloc (HOW.out.keepTouch htt2 hown2) (.cells #[.int .u64 (T k).V, .bool (T k).D, .slice (T k).A (T k).L (T k).cap] 49))
        have HBS3 := Lib.hid ((BytesAt.one HTK.out (by intro x e; cases e) htt2 HIS.out.bytes).alloc (.cells #[.int .u64 (T k).V, .bool (T k).D, .slice (T k).A (T k).L (T k).cap] 49))
        have HTK3 := Lib.hid (htk2.below ((Below.refl _ _).alloc (Nat.le_refl _) (.cells #[.int .u64 (T k).V, .bool (T k).D, .slice (T k).A (T k).L (T k).cap] 49)))
        have HTT3 := Lib.hid ((HTT.out.trans htt2).alloc (.cells #[.int .u64 (T k).V, .bool (T k).D, .slice (T k).A (T k).L (T k).cap] 49))
        have HOB := Lib.hid hown2
        clear htk2 htt2 hown2
        go_wp2_with (at_builtin; refine wpList_app_any rfl _ _ rfl w1.heap.size (.slice A' l' cp') (.slice (T k).A (T k).L (T k).cap) (cat T k) (T k).bs rfl rfl HOW3.out HBS3.out HCL.out (by simp; omega) ?_; intro v5 w5 happ; obtain ⟨A5, c5, rfl, _⟩ := happ.own.bytes)
        have HAPP := Lib.hid happ
        clear happ
        go_roundw
        case rel =>
          have hap := HAPP.out.own
          rw [List.length_append] at hap
          refine ⟨k + 1, A5, _, c5, by go_num, by rw [HNX.out, ← HQ.out]; congr 1; omega, rfl, hap, by omega, by omega, HTK3.out.of_block (HAPP.out.grown.block p HTK3.out.lt fun e => HOB.out p e.symm rfl), HTT3.out.grown HAPP.out.grown fun q2 hq2 => (HOW3.out.ge hq2).1⟩
        case measure => simp [intOf]; omega
      · obtain rfl : k = i := by omega
        go_wp2_with fail
        refine (tapeDo_wants HTK.out 5 q c 0 0 0 0).mono ?_
        rintro e w2 ⟨rfl, htk2, htt2⟩
        go_wp2
        go_ret2
        have hown2 : ∀ q2, (Value.slice A' l' cp').ownBlock = some q2 → ¬ One p q2 := fun q2 hq2 h2 => by
          have := (HOW.out.ge hq2).1
          have : q2 = p := h2
          omega
        refine ⟨A', l', cp', false, rfl, ((Touch.of_below hw1.out).trans (HTT.out.trans htt2)).alloc _, ?_, .inl ⟨HK8.out, ?_⟩⟩
        · rw [if_pos HK8.out]
          exact Owns.alloc ((HOW.out.keepTouch htt2 hown2).down hs1) _
        · rw [HQ.out, HCQ.out]
          exact htk2.below ((Below.refl _ _).alloc (Nat.le_refl _) _)
    · have hkm2 : k = m := by omega
      have hkn : n ≤ 8 * k := by have := HL.out; omega
      have HKN := Lib.hid hkn
      have hg1 : (m : Int) ≤ k := by omega
      have HTK := Lib.hid htk
      have HTT := Lib.hid htt
      have HOW := Lib.hid hown
      have HKM := Lib.hid hkm2
      clear htk htt hkm2 hkn hown
      go_wp2
      go_ret2
      refine ⟨A', l', cp', true, rfl, (Touch.of_below hw1.out).trans HTT.out, ?_, .inr ⟨by have := HKN.out; omega, k, HTK.out⟩⟩
      have hk1 := HKN.out
      have hk2 := HKM.out
      have hk3 := HL.out
      have e : (if 8 * i < n then i else (n + 7) / 8) = k := by
        by_cases h8 : 8 * i < n
        · rw [if_pos h8]; omega
        · rw [if_neg h8]; omega
      rw [e]
      exact HOW.out.down hs1
end Go.Proofs.Ytegjnejekakeiaa
namespace Go.Proofs.Ytegjnejekakeiaa
open Go.RowKit

/-- What a job tells that was told i answers. -/
def JobSaid (K : Nat → Prop) (kd : Kd) (n i : Nat) (w : World) (e : Ending) (w' : World) : Prop :=
  Below w.heap.size w w' ∧
    ((8 * i < n ∧ ∃ B L c, e = .returned (.tuple #[.agg #[.int .i64 kd.kind, .int .i64 (kd.place + (8 * i : Nat)), .int .i64 (Cy.nx (n - 8 * i) : Nat), .int .u64 0, .int .u64 0, .slice B L c], .bool true]) ∧ BytesIn K w' (.slice B L c) (kd.bytes (8 * i) (Cy.nx (n - 8 * i)))) ∨
     (n ≤ 8 * i ∧ e = .returned (.tuple #[.agg #[.int .i64 0, .int .i64 0, .int .i64 0, .int .u64 0, .int .u64 0, .slice none 0 0], .bool false])))

theorem BytesIn.of_lies {K : Nat → Prop} {w : World} {A : Option Addr} {L c : Nat} {xs : List Int} (h : BytesAt w (.slice A L c) xs) (hk : ∀ a, A = some a → K a.block) : BytesIn K w (.slice A L c) xs := by
  obtain ⟨A2, c2, hv, h⟩ := h
  injection hv with e1 e2 e3
  subst e1
  exact ⟨A, c2, by rw [e2, e3], fun hp => by obtain ⟨b, off, e, h3, h4⟩ := h hp; exact ⟨b, off, e, hk _ e, h3, h4⟩⟩

/-- What Next boxes: the job, a place for the access, a tape. -/
structure JobBox (b : Nat) (W : World) (k at_ n : Int) (B : Option Addr) (L cp : Nat) (A : Option Addr) (i cap : Nat) : Prop where
  c0 : W.cell? ⟨b, 0, none⟩ = some (.int .i64 k)
  c1 : W.cell? ⟨b, 1, none⟩ = some (.int .i64 at_)
  c2 : W.cell? ⟨b, 2, none⟩ = some (.int .i64 n)
  c3 : W.cell? ⟨b, 3, none⟩ = some (.slice B L cp)
  acc : AccNew (b + 1) W
  tp : Tp W (b + 2) A cap i 0 0 0 0 0 0 (.slice none 0 0) false

theorem job_boxes (w : World) (k at_ n : Int) (B : Option Addr) (L cp : Nat) (A : Option Addr) (i cap : Nat) (D : Bool) (W : World) (hW : W = ((w.alloc (.cells #[.int .i64 k, .int .i64 at_, .int .i64 n, .slice B L cp, .slice A i cap, .bool D] 61)).alloc (.cells #[.int .i64 0, .int .i64 0, .int .i64 0, .int .u64 0, .int .u64 0, .slice none 0 0] 47)).alloc (.cells #[.slice A i cap, .int .i64 0, .int .i64 0, .int .i64 0, .int .i64 0, .int .u64 0, .int .u64 0, .slice none 0 0, .bool false] 102)) :
    Below w.heap.size w W ∧ JobBox w.heap.size W k at_ n B L cp A i cap := by
  subst hW
  have e1 : (w.alloc (.cells #[.int .i64 k, .int .i64 at_, .int .i64 n, .slice B L cp, .slice A i cap, .bool D] 61)).heap.size = w.heap.size + 1 := by simp
  have e2 : ((w.alloc (.cells #[.int .i64 k, .int .i64 at_, .int .i64 n, .slice B L cp, .slice A i cap, .bool D] 61)).alloc (.cells #[.int .i64 0, .int .i64 0, .int .i64 0, .int .u64 0, .int .u64 0, .slice none 0 0] 47)).heap.size = w.heap.size + 2 := by simp
  have hb := (((Below.refl w.heap.size w).alloc (Nat.le_refl _) (.cells #[.int .i64 k, .int .i64 at_, .int .i64 n, .slice B L cp, .slice A i cap, .bool D] 61)).alloc (by simp) (.cells #[.int .i64 0, .int .i64 0, .int .i64 0, .int .u64 0, .int .u64 0, .slice none 0 0] 47)).alloc (by simp; omega) (.cells #[.slice A i cap, .int .i64 0, .int .i64 0, .int .i64 0, .int .i64 0, .int .u64 0, .int .u64 0, .slice none 0 0, .bool false] 102)
  have x0 := Go.Deep.blk_alloc_new w (.cells #[.int .i64 k, .int .i64 at_, .int .i64 n, .slice B L cp, .slice A i cap, .bool D] 61)
  generalize w.alloc (.cells #[.int .i64 k, .int .i64 at_, .int .i64 n, .slice B L cp, .slice A i cap, .bool D] 61) = W1 at *
  have x1 := Go.Deep.blk_alloc_new W1 (.cells #[.int .i64 0, .int .i64 0, .int .i64 0, .int .u64 0, .int .u64 0, .slice none 0 0] 47)
  have y0 := (Below.heap_alloc W1 (.cells #[.int .i64 0, .int .i64 0, .int .i64 0, .int .u64 0, .int .u64 0, .slice none 0 0] 47) w.heap.size (by omega)).trans x0
  rw [e1] at x1
  generalize W1.alloc (.cells #[.int .i64 0, .int .i64 0, .int .i64 0, .int .u64 0, .int .u64 0, .slice none 0 0] 47) = W2 at *
  have x2 := Go.Deep.blk_alloc_new W2 (.cells #[.slice A i cap, .int .i64 0, .int .i64 0, .int .i64 0, .int .i64 0, .int .u64 0, .int .u64 0, .slice none 0 0, .bool false] 102)
  have z0 := (Below.heap_alloc W2 (.cells #[.slice A i cap, .int .i64 0, .int .i64 0, .int .i64 0, .int .i64 0, .int .u64 0, .int .u64 0, .slice none 0 0, .bool false] 102) w.heap.size (by omega)).trans y0
  have z1 := (Below.heap_alloc W2 (.cells #[.slice A i cap, .int .i64 0, .int .i64 0, .int .i64 0, .int .i64 0, .int .u64 0, .int .u64 0, .slice none 0 0, .bool false] 102) (w.heap.size + 1) (by omega)).trans x1
  rw [e2] at x2
  exact ⟨hb, by simp [World.cell?, z0], by simp [World.cell?, z0], by simp [World.cell?, z0], by simp [World.cell?, z0], .of_blk z1, ⟨x2⟩⟩

theorem six_heap (w : World) (b : Nat) (u0 u1 u2 u3 u4 u5 : Value) (k : Nat) (hk : k ≠ b) : (six w b u0 u1 u2 u3 u4 u5).heap[k]? = w.heap[k]? := by
  unfold six
  exact (Below.heap_setCell _ _ _ _ hk).trans ((Below.heap_setCell _ _ _ _ hk).trans ((Below.heap_setCell _ _ _ _ hk).trans ((Below.heap_setCell _ _ _ _ hk).trans ((Below.heap_setCell _ _ _ _ hk).trans (Below.heap_setCell _ _ _ _ hk)))))

theorem AccNew.apart {b : Nat} {W : World} (h : AccNew b W) {b' off : Nat} {x : Int} (hc : W.cell? ⟨b', off, none⟩ = some (.int .u8 x)) : b' ≠ b := fun e => by
  subst e
  simp only [World.cell?, h.blk] at hc
  match off, hc with
  | 0, hc | 1, hc | 2, hc | 3, hc | 4, hc | 5, hc => simp at hc
  | k + 6, hc => simp at hc

theorem BytesAt.six {b : Nat} {W : World} (h : AccNew b W) {v : Value} {xs : List Int} (hv : BytesAt W v xs) (u0 u1 u2 u3 u4 u5 : Value) : BytesAt (Go.Proofs.Ytegjnejekakeiaa.six W b u0 u1 u2 u3 u4 u5) v xs := by
  obtain ⟨A, c, e, hx⟩ := hv
  refine ⟨A, c, e, fun hp => ?_⟩
  obtain ⟨b', off, ea, hl, hc⟩ := hx hp
  have hne := h.apart (hc 0 hp)
  have hk := six_heap W b u0 u1 u2 u3 u4 u5 b' hne
  refine ⟨b', off, ea, ?_, fun i hi => (World.cell?_of_block (w := W) (a := ⟨b', off + i, none⟩) hk).trans (hc i hi)⟩
  have h0 := (World.cell?_of_block (w := W) (a := ⟨b', off + 0, none⟩) hk).trans (hc 0 hp)
  exact lt_of_cell h0

set_option maxRecDepth 100000 in
set_option maxHeartbeats 2000000 in
theorem jobNext_in (i cap : Nat) (A : Option Addr) (T : Nat → Ans) (at_ n : Int) (B : Option Addr) (L cp : Nat) (f : Nat → Nat) (D : Bool) (w : World) (hi : i ≤ cap) (hcap : cap ≤ 9223372036854775807) (hT : ToldAt w A i T) (hA : 0 < i → ∀ a, A = some a → a.block < w.heap.size)
    (hat0 : -4611686018427387904 ≤ at_) (hat1 : at_ ≤ 4611686018427387904) (hB : BytesAt w (.slice B L cp) (Mb.bl f 0 L)) (hL : L ≤ 131072) (hcp : L ≤ cp) (hcp2 : cp ≤ 9223372036854775807) (K : Nat → Prop) (hBK : 0 < L → ∀ a, B = some a → K a.block) :
    Calls Try.prog 19 #[.agg #[.int .i64 0, .int .i64 at_, .int .i64 n, .slice B L cp, .slice A i cap, .bool D]] w (JobSaid K (.wr at_ f) L i w) := by
  obtain ⟨WW, hWW⟩ : ∃ WW, WW = ((w.alloc (.cells #[.int .i64 0, .int .i64 at_, .int .i64 n, .slice B L cp, .slice A i cap, .bool D] 61)).alloc (.cells #[.int .i64 0, .int .i64 0, .int .i64 0, .int .u64 0, .int .u64 0, .slice none 0 0] 47)).alloc (.cells #[.slice A i cap, .int .i64 0, .int .i64 0, .int .i64 0, .int .i64 0, .int .u64 0, .int .u64 0, .slice none 0 0, .bool false] 102) := ⟨_, rfl⟩
  obtain ⟨hbw, hbox⟩ := job_boxes w 0 at_ n B L cp A i cap D WW hWW
  have HBW := Lib.hid hbw
  have HBX := Lib.hid hbox
  have HI := Lib.hid (tapeIn_lies (K := K) hbox.tp hi hcap (hT.below hbw) (fun hp a ha => by have := hA hp a ha; omega) at_ hat0 hat1 B L cp f (hB.below hbw) hL hcp hcp2 hBK)
  obtain ⟨c0, c1, c2, c3, _, _⟩ := hbox
  have hsz := hbw.size
  clear hbw
  have HT := Lib.hid hT
  have HA := Lib.hid hA
  have HB := Lib.hid hB
  clear hT hA hB hBK
  go_enter Try.func19, Try.ntmps19
  go_upto_region 2 with (fail)
  rw [← hWW]
  clear hWW
  go_upto_region 8 with (go_at_call 39; refine HI.out.mono ?_; rintro e w1 ⟨bb, rfl, ht, hsaid⟩)
  have hac : AccNew (w.heap.size + 1) w1 := .of_blk ((ht.block _ (Array.getElem?_eq_some_iff.1 HBX.out.acc.blk).1 fun e => by have e : w.heap.size + 1 = w.heap.size + 2 := e; omega).trans HBX.out.acc.blk)
  have HAC := Lib.hid hac
  have HLW := Lib.hid (Touch.below HBW.out ht HBW.out.size fun k hk => by have e : k = w.heap.size + 2 := hk; omega)
  obtain ⟨a0, a1, a2, a3, a4, a5, f0, f1, f2, f3, f4, f5, _⟩ := hac
  rcases hsaid with ⟨h8, B1, L1, q1, htp, hby, hlies⟩ | ⟨h8, j, htp⟩
  · have HBY := Lib.hid hby
    have HLI := Lib.hid hlies
    clear hlies
    have t2 := htp.c2
    have t3 := htp.c3
    have t4 := htp.c4
    have t5 := htp.c5
    have t6 := htp.c6
    have t7 := htp.c7
    have t8 := htp.c8
    clear htp hby ht
    go_region
    go_wp2
    refine bodyPost_ret (v := .tuple #[.agg #[.int .i64 6, .int .i64 (at_ + (8 * i : Nat)), .int .i64 (Cy.nx (L - 8 * i) : Nat), .int .u64 0, .int .u64 0, .slice B1 L1 q1], .bool true]) (by simp [results, Try.results19, go_sem, a0, a1, a2, a3, a4, a5]) rfl ?_
    exact ⟨(six_below (b := w.heap.size + 1) HLW.out (Nat.le_succ _) _ _ _ _ _ _).drew, .inl ⟨h8, B1, L1, q1, rfl, .of_lies ((BytesAt.six HAC.out HBY.out _ _ _ _ _ _).below (Below.refl _ _).drew) HLI.out⟩⟩
  · have t2 := htp.c2
    have t3 := htp.c3
    have t4 := htp.c4
    have t5 := htp.c5
    have t6 := htp.c6
    have t7 := htp.c7
    have t8 := htp.c8
    clear htp ht
    go_region
    go_wp2
    refine bodyPost_ret (v := .tuple #[.agg #[.int .i64 0, .int .i64 0, .int .i64 0, .int .u64 0, .int .u64 0, .slice none 0 0], .bool false]) (by simp [results, Try.results19, go_sem, a0, a1, a2, a3, a4, a5]) rfl ?_
    exact ⟨(six_below (b := w.heap.size + 1) HLW.out (Nat.le_succ _) _ _ _ _ _ _).drew, .inr ⟨h8, rfl⟩⟩

set_option maxRecDepth 100000 in
set_option maxHeartbeats 2000000 in
theorem jobNext_zero (K : Nat → Prop) (i cap : Nat) (A : Option Addr) (T : Nat → Ans) (at_ n : Int) (B : Option Addr) (L cp : Nat) (D : Bool) (w : World) (hKn : ∀ k, w.heap.size ≤ k → K k) (hi : i ≤ cap) (hcap : cap ≤ 9223372036854775807) (hT : ToldAt w A i T) (hA : 0 < i → ∀ a, A = some a → a.block < w.heap.size)
    (hat0 : -4611686018427387904 ≤ at_) (hat1 : at_ ≤ 4611686018427387904) :
    Calls Try.prog 19 #[.agg #[.int .i64 1, .int .i64 at_, .int .i64 n, .slice B L cp, .slice A i cap, .bool D]] w (JobSaid K (.ze at_) (Cy.few n) i w) := by
  obtain ⟨WW, hWW⟩ : ∃ WW, WW = ((w.alloc (.cells #[.int .i64 1, .int .i64 at_, .int .i64 n, .slice B L cp, .slice A i cap, .bool D] 61)).alloc (.cells #[.int .i64 0, .int .i64 0, .int .i64 0, .int .u64 0, .int .u64 0, .slice none 0 0] 47)).alloc (.cells #[.slice A i cap, .int .i64 0, .int .i64 0, .int .i64 0, .int .i64 0, .int .u64 0, .int .u64 0, .slice none 0 0, .bool false] 102) := ⟨_, rfl⟩
  obtain ⟨hbw, hbox⟩ := job_boxes w 1 at_ n B L cp A i cap D WW hWW
  have HBW := Lib.hid hbw
  have HBX := Lib.hid hbox
  have HI := Lib.hid (tapeZero_lies hbox.tp hi hcap (hT.below hbw) (fun hp a ha => by have := hA hp a ha; omega) at_ hat0 hat1 n)
  obtain ⟨c0, c1, c2, c3, _, _⟩ := hbox
  have hsz := hbw.size
  clear hbw
  have HT := Lib.hid hT
  have HKN := Lib.hid hKn
  have HA := Lib.hid hA
  skip
  clear hT hA hKn
  go_enter Try.func19, Try.ntmps19
  go_upto_region 2 with (fail)
  rw [← hWW]
  clear hWW
  go_upto_region 8 with (go_at_call 40; refine HI.out.mono ?_; rintro e w1 ⟨bb, rfl, ht, hsaid⟩)
  have hac : AccNew (w.heap.size + 1) w1 := .of_blk ((ht.block _ (Array.getElem?_eq_some_iff.1 HBX.out.acc.blk).1 fun e => by have e : w.heap.size + 1 = w.heap.size + 2 := e; omega).trans HBX.out.acc.blk)
  have HAC := Lib.hid hac
  have HLW := Lib.hid (Touch.below HBW.out ht HBW.out.size fun k hk => by have e : k = w.heap.size + 2 := hk; omega)
  obtain ⟨a0, a1, a2, a3, a4, a5, f0, f1, f2, f3, f4, f5, _⟩ := hac
  rcases hsaid with ⟨h8, B1, L1, q1, htp, hby, hlies⟩ | ⟨h8, j, htp⟩
  · have HBY := Lib.hid hby
    have HLI := Lib.hid hlies
    clear hlies
    have t2 := htp.c2
    have t3 := htp.c3
    have t4 := htp.c4
    have t5 := htp.c5
    have t6 := htp.c6
    have t7 := htp.c7
    have t8 := htp.c8
    clear htp hby ht
    go_region
    go_wp2
    refine bodyPost_ret (v := .tuple #[.agg #[.int .i64 6, .int .i64 (at_ + (8 * i : Nat)), .int .i64 (Cy.nx (Cy.few n - 8 * i) : Nat), .int .u64 0, .int .u64 0, .slice B1 L1 q1], .bool true]) (by simp [results, Try.results19, go_sem, a0, a1, a2, a3, a4, a5]) rfl ?_
    exact ⟨(six_below (b := w.heap.size + 1) HLW.out (Nat.le_succ _) _ _ _ _ _ _).drew, .inl ⟨h8, B1, L1, q1, rfl, .of_lies ((BytesAt.six HAC.out HBY.out _ _ _ _ _ _).below (Below.refl _ _).drew) (fun a ha => HKN.out _ (Nat.le_trans HBW.out.size (HLI.out a ha)))⟩⟩
  · have t2 := htp.c2
    have t3 := htp.c3
    have t4 := htp.c4
    have t5 := htp.c5
    have t6 := htp.c6
    have t7 := htp.c7
    have t8 := htp.c8
    clear htp ht
    go_region
    go_wp2
    refine bodyPost_ret (v := .tuple #[.agg #[.int .i64 0, .int .i64 0, .int .i64 0, .int .u64 0, .int .u64 0, .slice none 0 0], .bool false]) (by simp [results, Try.results19, go_sem, a0, a1, a2, a3, a4, a5]) rfl ?_
    exact ⟨(six_below (b := w.heap.size + 1) HLW.out (Nat.le_succ _) _ _ _ _ _ _).drew, .inr ⟨h8, rfl⟩⟩

set_option maxRecDepth 100000 in
set_option maxHeartbeats 2000000 in
theorem jobNext_out (K : Nat → Prop) (i cap : Nat) (A : Option Addr) (T : Nat → Ans) (at_ n : Int) (B : Option Addr) (L cp : Nat) (D : Bool) (w : World) (hi : i ≤ cap) (hcap : cap ≤ 9223372036854775807) (hT : ToldAt w A i T) (hA : 0 < i → ∀ a, A = some a → a.block < w.heap.size) (hcat : (cat T i).length ≤ 1073741824)
    (hat0 : -4611686018427387904 ≤ at_) (hat1 : at_ ≤ 4611686018427387904) :
    Calls Try.prog 19 #[.agg #[.int .i64 2, .int .i64 at_, .int .i64 n, .slice B L cp, .slice A i cap, .bool D]] w (JobSaid K (.rd at_) (Cy.few n) i w) := by
  obtain ⟨WW, hWW⟩ : ∃ WW, WW = ((w.alloc (.cells #[.int .i64 2, .int .i64 at_, .int .i64 n, .slice B L cp, .slice A i cap, .bool D] 61)).alloc (.cells #[.int .i64 0, .int .i64 0, .int .i64 0, .int .u64 0, .int .u64 0, .slice none 0 0] 47)).alloc (.cells #[.slice A i cap, .int .i64 0, .int .i64 0, .int .i64 0, .int .i64 0, .int .u64 0, .int .u64 0, .slice none 0 0, .bool false] 102) := ⟨_, rfl⟩
  obtain ⟨hbw, hbox⟩ := job_boxes w 2 at_ n B L cp A i cap D WW hWW
  have HBW := Lib.hid hbw
  have HBX := Lib.hid hbox
  have HI := Lib.hid (tapeOut_any hbox.tp hi hcap (hT.below hbw) (fun hp a ha => by have := hA hp a ha; omega) hcat at_ hat0 hat1 n)
  obtain ⟨c0, c1, c2, c3, _, _⟩ := hbox
  have hsz := hbw.size
  clear hbw
  have HT := Lib.hid hT
  have HA := Lib.hid hA
  skip
  clear hT hA
  go_enter Try.func19, Try.ntmps19
  go_upto_region 2 with (fail)
  rw [← hWW]
  clear hWW
  go_upto_region 8 with (go_at_call 41; refine HI.out.mono ?_; rintro e w1 ⟨O1, o2, o3, bb, rfl, ht, _, hsaid⟩)
  have hac : AccNew (w.heap.size + 1) w1 := .of_blk ((ht.block _ (Array.getElem?_eq_some_iff.1 HBX.out.acc.blk).1 fun e => by have e : w.heap.size + 1 = w.heap.size + 2 := e; omega).trans HBX.out.acc.blk)
  have HAC := Lib.hid hac
  have HLW := Lib.hid (Touch.below HBW.out ht HBW.out.size fun k hk => by have e : k = w.heap.size + 2 := hk; omega)
  obtain ⟨a0, a1, a2, a3, a4, a5, f0, f1, f2, f3, f4, f5, _⟩ := hac
  rcases hsaid with ⟨h8, htp⟩ | ⟨h8, j, htp⟩
  · have t2 := htp.c2
    have t3 := htp.c3
    have t4 := htp.c4
    have t5 := htp.c5
    have t6 := htp.c6
    have t7 := htp.c7
    have t8 := htp.c8
    clear htp ht
    go_region
    go_wp2
    refine bodyPost_ret (v := .tuple #[.agg #[.int .i64 5, .int .i64 (at_ + (8 * i : Nat)), .int .i64 (Cy.nx (Cy.few n - 8 * i) : Nat), .int .u64 0, .int .u64 0, .slice none 0 0], .bool true]) (by simp [results, Try.results19, go_sem, a0, a1, a2, a3, a4, a5]) rfl ?_
    exact ⟨(six_below (b := w.heap.size + 1) HLW.out (Nat.le_succ _) _ _ _ _ _ _).drew, .inl ⟨h8, none, 0, 0, rfl, BytesIn.none _ _⟩⟩
  · have t2 := htp.c2
    have t3 := htp.c3
    have t4 := htp.c4
    have t5 := htp.c5
    have t6 := htp.c6
    have t7 := htp.c7
    have t8 := htp.c8
    clear htp ht
    go_region
    go_wp2
    refine bodyPost_ret (v := .tuple #[.agg #[.int .i64 0, .int .i64 0, .int .i64 0, .int .u64 0, .int .u64 0, .slice none 0 0], .bool false]) (by simp [results, Try.results19, go_sem, a0, a1, a2, a3, a4, a5]) rfl ?_
    exact ⟨(six_below (b := w.heap.size + 1) HLW.out (Nat.le_succ _) _ _ _ _ _ _).drew, .inr ⟨h8, rfl⟩⟩
end Go.Proofs.Ytegjnejekakeiaa
namespace Go.Proofs.Ytegjnejekakeiaa
open Go.RowKit

/-- A plain job's cells in the row at block jb. -/
structure JobAt (w : World) (jb i : Nat) (K P N : Int) (B told : Value) (d : Bool) : Prop where
  c0 : w.cell? ⟨jb, i * 6, none⟩ = some (.int .i64 K)
  c1 : w.cell? ⟨jb, i * 6 + 1, none⟩ = some (.int .i64 P)
  c2 : w.cell? ⟨jb, i * 6 + 2, none⟩ = some (.int .i64 N)
  c3 : w.cell? ⟨jb, i * 6 + 3, none⟩ = some B
  c4 : w.cell? ⟨jb, i * 6 + 4, none⟩ = some told
  c5 : w.cell? ⟨jb, i * 6 + 5, none⟩ = some (.bool d)
  f4 : w.frozen? ⟨jb, i * 6 + 4, none⟩ = false
  f5 : w.frozen? ⟨jb, i * 6 + 5, none⟩ = false

namespace JobAt
variable {w w' : World} {jb i : Nat} {K P N : Int} {B told : Value} {d : Bool}
theorem of_block (h : JobAt w jb i K P N B told d) (hb : w'.heap[jb]? = w.heap[jb]?) : JobAt w' jb i K P N B told d := by
  have c := fun j => World.cell?_of_block (w := w) (w' := w') (a := ⟨jb, j, none⟩) hb
  have f := fun j => World.frozen?_of_block (w := w) (w' := w') (a := ⟨jb, j, none⟩) hb
  exact ⟨(c _).trans h.c0, (c _).trans h.c1, (c _).trans h.c2, (c _).trans h.c3, (c _).trans h.c4, (c _).trans h.c5, (f _).trans h.f4, (f _).trans h.f5⟩
/-- Another job's cell is stored. -/
theorem other (h : JobAt w jb i K P N B told d) {j m : Nat} (hm : m < 6) (hj : j ≠ i) (u : Value) : JobAt (w.setCell ⟨jb, j * 6 + m, none⟩ u) jb i K P N B told d := by
  have c : ∀ o, o < 6 → (w.setCell ⟨jb, j * 6 + m, none⟩ u).cell? ⟨jb, i * 6 + o, none⟩ = w.cell? ⟨jb, i * 6 + o, none⟩ := fun o ho => World.cell?_setCell_other _ _ _ _ (by intro e; injection e with _ e _; omega)
  have c0 := c 0 (by omega)
  rw [Nat.add_zero] at c0
  exact ⟨c0.trans h.c0, (c 1 (by omega)).trans h.c1, (c 2 (by omega)).trans h.c2, (c 3 (by omega)).trans h.c3, (c 4 (by omega)).trans h.c4, (c 5 (by omega)).trans h.c5, by rw [World.frozen?_setCell]; exact h.f4, by rw [World.frozen?_setCell]; exact h.f5⟩
/-- It is killed. -/
theorem kill (h : JobAt w jb i K P N B told d) (d' : Bool) : JobAt (w.setCell ⟨jb, i * 6 + 5, none⟩ (.bool d')) jb i K P N B told d' := by
  have c : ∀ o, o < 5 → (w.setCell ⟨jb, i * 6 + 5, none⟩ (.bool d')).cell? ⟨jb, i * 6 + o, none⟩ = w.cell? ⟨jb, i * 6 + o, none⟩ := fun o ho => World.cell?_setCell_other _ _ _ _ (by intro e; injection e with _ e _; omega)
  have c0 := c 0 (by omega)
  rw [Nat.add_zero] at c0
  exact ⟨c0.trans h.c0, (c 1 (by omega)).trans h.c1, (c 2 (by omega)).trans h.c2, (c 3 (by omega)).trans h.c3, (c 4 (by omega)).trans h.c4, World.cell?_setCell_same _ _ _ h.c5, by rw [World.frozen?_setCell]; exact h.f4, by rw [World.frozen?_setCell]; exact h.f5⟩
/-- It is told one answer more. -/
theorem tell (h : JobAt w jb i K P N B told d) (u : Value) : JobAt (w.setCell ⟨jb, i * 6 + 4, none⟩ u) jb i K P N B u d := by
  have c : ∀ o, o < 6 → o ≠ 4 → (w.setCell ⟨jb, i * 6 + 4, none⟩ u).cell? ⟨jb, i * 6 + o, none⟩ = w.cell? ⟨jb, i * 6 + o, none⟩ := fun o ho h4 => World.cell?_setCell_other _ _ _ _ (by intro e; injection e with _ e _; omega)
  have c0 := c 0 (by omega) (by omega)
  rw [Nat.add_zero] at c0
  exact ⟨c0.trans h.c0, (c 1 (by omega) (by omega)).trans h.c1, (c 2 (by omega) (by omega)).trans h.c2, (c 3 (by omega) (by omega)).trans h.c3, World.cell?_setCell_same _ _ _ h.c4, (c 5 (by omega) (by omega)).trans h.c5, by rw [World.frozen?_setCell]; exact h.f4, by rw [World.frozen?_setCell]; exact h.f5⟩
end JobAt

/-- What a plain job holds: its bytes' slice, the answers it was told. -/
structure PJ where
  B : Value
  A : Option Addr
  cnt : Nat
  cap : Nat
  T : Nat → Ans

/-- A row of answers, and their bytes, in blocks that K names. -/
def ToldIn (K : Nat → Prop) (W : World) (A : Option Addr) (n : Nat) (T : Nat → Ans) : Prop :=
  0 < n → ∃ b off, A = some ⟨b, off, none⟩ ∧ K b ∧ b < W.heap.size ∧ ∀ i, i < n → W.cell? ⟨b, off + i * 3, none⟩ = some (.int .u64 (T i).V) ∧ W.cell? ⟨b, off + i * 3 + 1, none⟩ = some (.bool (T i).D) ∧ W.cell? ⟨b, off + i * 3 + 2, none⟩ = some (.slice (T i).A (T i).L (T i).cap) ∧
    BytesIn K W (.slice (T i).A (T i).L (T i).cap) (Mb.bl (T i).f 0 (T i).L) ∧ (T i).V < 18446744073709551616 ∧ Mb.IsB (T i).f ∧ (T i).L ≤ (T i).cap ∧ (T i).cap ≤ 9223372036854775807

namespace ToldIn
variable {K K' : Nat → Prop} {w w' : World} {A : Option Addr} {n : Nat} {T : Nat → Ans}
theorem keep (h : ToldIn K w A n T) (hs : w.heap.size ≤ w'.heap.size) (hb : ∀ k, K k → k < w.heap.size → w'.heap[k]? = w.heap[k]?) : ToldIn K w' A n T := fun hp => by
  obtain ⟨b, off, e, hk, hl, hc⟩ := h hp
  have c := fun j => World.cell?_of_block (w := w) (w' := w') (a := ⟨b, j, none⟩) (hb b hk hl)
  exact ⟨b, off, e, hk, Nat.lt_of_lt_of_le hl hs, fun i hi => by obtain ⟨c0, c1, c2, h3, h4⟩ := hc i hi; exact ⟨(c _).trans c0, (c _).trans c1, (c _).trans c2, h3.keep hs hb, h4⟩⟩
theorem mono (h : ToldIn K w A n T) (hK : ∀ k, K k → k < w.heap.size → K' k) : ToldIn K' w A n T := fun hp => by
  obtain ⟨b, off, e, hk, hl, hc⟩ := h hp
  exact ⟨b, off, e, hK b hk hl, hl, fun i hi => by obtain ⟨c0, c1, c2, h3, h4⟩ := hc i hi; exact ⟨c0, c1, c2, h3.mono hK, h4⟩⟩
theorem at_ (h : ToldIn K w A n T) : ToldAt w A n T := fun hp => by
  obtain ⟨b, off, e, _, hl, hc⟩ := h hp
  exact ⟨b, off, e, hl, fun i hi => by obtain ⟨c0, c1, c2, h3, h4, h5, h6, h7⟩ := hc i hi; exact ⟨c0, c1, c2, h4, h5, h3.bytes, h6, h7⟩⟩
theorem none_ (K : Nat → Prop) (w : World) (A : Option Addr) (T : Nat → Ans) : ToldIn K w A 0 T := fun h => absurd h (Nat.lt_irrefl 0)
end ToldIn

/-- How many bytes a job copies. -/
def Jb.len (j : Jb) : Nat := if j.K % 3 = 0 then j.L else Cy.few j.num
/-- What it does. -/
def Jb.kd (j : Jb) : Kd := if j.K % 3 = 0 then .wr j.at_ j.f else if j.K % 3 = 1 then .ze j.at_ else .rd j.at_

theorem Jb.mc_is (j : Jb) : j.mc = .copy j.kd 0 j.len [] := by
  unfold Jb.mc Jb.kd Jb.len
  by_cases h0 : j.K % 3 = 0
  · rw [if_pos h0, if_pos h0, if_pos h0]
  · rw [if_neg h0, if_neg h0, if_neg h0]
    by_cases h1 : j.K % 3 = 1
    · rw [if_pos h1, if_pos h1]
    · rw [if_neg h1, if_neg h1]

/-- The plain world stands in memory: p tells whose a block is (its own, its bytes', its jobs', its trace's row's; what is written once). -/
structure PW (w : World) (p : Nat → Pt) (gp q jb : Nat) (JA : Option Addr) (c5 : Nat) (js : Nat → Jb) (pj : Nat → PJ) (tv : Value) (ts : List Tx) (st : St) : Prop where
  head : w.heap[gp]? = some (.cells #[.slice (some ⟨q, 0, none⟩) 256 256, .slice JA st.na c5, .int .i64 st.clock, tv] 42 (0, 0))
  jrow : 0 < st.na → JA = some ⟨jb, 0, none⟩ ∧ p jb = .ac
  room : st.na ≤ c5 ∧ c5 ≤ 9223372036854775807
  bytes : PlainAt w q 256 st.m
  isB : Mb.IsB st.m
  job : ∀ i, i < st.na → JobAt w jb i (((js i).K : Int) % 3) (js i).at_ (js i).num (pj i).B (.slice (pj i).A (pj i).cnt (pj i).cap) (st.dead i)
  txt : ∀ i, i < st.na → BytesIn (fun k => p k = .tx) w (pj i).B (Mb.bl (js i).f 0 (js i).L)
  fits : ∀ i, i < st.na → ∃ A c, (pj i).B = .slice A (js i).L c ∧ (js i).L ≤ c ∧ c ≤ 9223372036854775807
  told : ∀ i, i < st.na → ToldIn (fun k => p k = .tx) w (pj i).A (pj i).cnt (pj i).T ∧ (pj i).cnt ≤ (pj i).cap ∧ (pj i).cap ≤ 9223372036854775807 ∧ (cat (pj i).T (pj i).cnt).length ≤ 8 * (pj i).cnt ∧ (pj i).cnt ≤ 100000
  link : ∀ i, i < st.na → ∃ ys, st.ms i = .copy (js i).kd (min (8 * (pj i).cnt) (js i).len) ((js i).len - 8 * (pj i).cnt) ys
  trow : w.ownsRow 0 51 12 tv ts.length (ts.flatMap Tx.cells)
  ttxt : Texts (fun k => p k = .tx) w ts
  town : ∀ k, tv.ownBlock = some k → p k = .ro
  evs : ts.map Tx.e = st.tr
  pgp : p gp = .wd
  pq : p q = .bf
  plt : ∀ k, p k ≠ .no → k < w.heap.size

/-- What the plain world's calls may turn. -/
def Mut (p : Nat → Pt) (k : Nat) : Prop := p k ≠ .no ∧ p k ≠ .tx

namespace PW
variable {w w' : World} {p : Nat → Pt} {gp q jb : Nat} {JA : Option Addr} {c5 : Nat} {js : Nat → Jb} {pj : Nat → PJ} {tv : Value} {ts : List Tx} {st : St}
theorem keep (h : PW w p gp q jb JA c5 js pj tv ts st) (hs : w.heap.size ≤ w'.heap.size) (hk : ∀ k, p k ≠ .no → w'.heap[k]? = w.heap[k]?) : PW w' p gp q jb JA c5 js pj tv ts st := by
  have ht : ∀ k, p k = .tx → k < w.heap.size → w'.heap[k]? = w.heap[k]? := fun k hx _ => hk k (by rw [hx]; simp)
  exact ⟨(hk gp (by rw [h.pgp]; simp)).trans h.head, h.jrow, h.room, h.bytes.of_block (hk q (by rw [h.pq]; simp)), h.isB, fun i hi => (h.job i hi).of_block (hk jb (by rw [(h.jrow (Nat.lt_of_le_of_lt (Nat.zero_le i) hi)).2]; simp)),
    fun i hi => (h.txt i hi).keep hs ht, h.fits, fun i hi => ⟨(h.told i hi).1.keep hs ht, (h.told i hi).2⟩, h.link, ownsRow_keep h.trow fun k hb => hk k (by rw [h.town k hb]; simp), h.ttxt.keep hs ht, h.town, h.evs, h.pgp, h.pq, fun k hn => Nat.lt_of_lt_of_le (h.plt k hn) hs⟩
theorem below (h : PW w p gp q jb JA c5 js pj tv ts st) (hb : Below w.heap.size w w') : PW w' p gp q jb JA c5 js pj tv ts st := h.keep hb.size fun k hn => hb.block k (h.plt k hn)
theorem touch {S : Nat → Prop} (h : PW w p gp q jb JA c5 js pj tv ts st) (ht : Touch S w w') (hn : ∀ k, p k ≠ .no → ¬ S k) : PW w' p gp q jb JA c5 js pj tv ts st := h.keep ht.size fun k hk => ht.block k (h.plt k hk) (hn k hk)
/-- What a job wants next. -/
theorem next (h : PW w p gp q jb JA c5 js pj tv ts st) {i : Nat} (hi : i < st.na) (hL : (js i).L ≤ 131072) (D : Bool) :
    Calls Try.prog 19 #[.agg #[.int .i64 (((js i).K : Int) % 3), .int .i64 (js i).at_, .int .i64 (js i).num, (pj i).B, .slice (pj i).A (pj i).cnt (pj i).cap, .bool D]] w (JobSaid (fun k => p k = .tx ∨ w.heap.size ≤ k) (js i).kd (js i).len (pj i).cnt w) := by
  obtain ⟨h1, h2, h3, h4, h5⟩ := h.told i hi
  obtain ⟨BA, Bc, hB, hf1, hf2⟩ := h.fits i hi
  have hbi := h.txt i hi
  have hb := hbi.bytes
  have hn := (js i).near
  have hA : 0 < (pj i).cnt → ∀ a, (pj i).A = some a → a.block < w.heap.size := fun hp a ha => by
    obtain ⟨b, off, e, _, hl, _⟩ := h1 hp
    rw [ha] at e
    cases e
    exact hl
  rw [hB] at hb hbi ⊢
  have hK : (js i).K % 3 = 0 ∨ (js i).K % 3 = 1 ∨ (js i).K % 3 = 2 := by omega
  rcases hK with e | e | e
  · rw [show ((js i).K : Int) % 3 = 0 by omega, show (js i).kd = .wr (js i).at_ (js i).f from if_pos e, show (js i).len = (js i).L from if_pos e]
    exact jobNext_in _ _ _ _ _ _ _ _ _ _ D w h2 h3 h1.at_ hA hn.1 hn.2 hb hL hf1 hf2 _ (fun hp a ha => by
      obtain ⟨A2, c2, hv, hx⟩ := hbi
      obtain ⟨b, off, e2, hk, _⟩ := hx (by rw [Mb.bl_length]; exact hp)
      injection hv with e3 _ _
      rw [e3, e2] at ha
      cases ha
      exact .inl hk)
  · rw [show ((js i).K : Int) % 3 = 1 by omega, show (js i).kd = .ze (js i).at_ from (if_neg (by omega)).trans (if_pos e), show (js i).len = Cy.few (js i).num from if_neg (by omega)]
    exact jobNext_zero _ _ _ _ _ _ _ _ _ _ D w (fun _ hk => .inr hk) h2 h3 h1.at_ hA hn.1 hn.2
  · rw [show ((js i).K : Int) % 3 = 2 by omega, show (js i).kd = .rd (js i).at_ from (if_neg (by omega)).trans (if_neg (by omega)), show (js i).len = Cy.few (js i).num from if_neg (by omega)]
    exact jobNext_out _ _ _ _ _ _ _ _ _ _ D w h2 h3 h1.at_ hA (by omega) hn.1 hn.2
theorem new_no (h : PW w p gp q jb JA c5 js pj tv ts st) {k : Nat} (hk : w.heap.size ≤ k) : p k = .no := Classical.byContradiction fun e => by have := h.plt k e; omega
end PW
end Go.Proofs.Ytegjnejekakeiaa
namespace Go.Proofs.Ytegjnejekakeiaa
open Go.RowKit

set_option maxRecDepth 100000 in
set_option maxHeartbeats 2000000 in
theorem plainPick_early {w : World} {o : Nat → Pt} {gp q jb : Nat} {JA : Option Addr} {c5 : Nat} {js : Nat → Jb} {pj : Nat → PJ} {tv : Value} {ts : List Tx} {st : St} (h : PW w o gp q jb JA c5 js pj tv ts st) (p : Pk) (hK : p.K = 2) (hN : p.N < 0) :
    Calls Try.prog 12 #[.pointer (some ⟨gp, 0, none⟩), .agg #[.int .i64 p.K, .int .i64 p.A, .int .i64 p.N]] w fun e w' => e = .returned (.tuple #[.agg #[.int .i64 0, .int .i64 0, .int .i64 0, .int .i64 0, .int .i64 0, .int .i64 0, .int .u64 0, .int .u64 0, .slice none 0 0, .int .u64 0, .bool false, .slice none 0 0], .int .i64 1]) ∧ Below w.heap.size w w' := by
  have HK := Lib.hid hK
  clear hK
  obtain ⟨WW, hWW⟩ : ∃ WW, WW = (w.alloc (.cells #[.int .i64 p.K, .int .i64 p.A, .int .i64 p.N] 44)).alloc (.cells #[.int .i64 0, .int .i64 0, .int .i64 0, .int .i64 0, .int .i64 0, .int .i64 0, .int .u64 0, .int .u64 0, .slice none 0 0, .int .u64 0, .bool false, .slice none 0 0] 51) := ⟨_, rfl⟩
  have HB := Lib.hid (pick_boxes w p WW hWW)
  have hlg : gp < w.heap.size := (Array.getElem?_eq_some_iff.1 h.head).1
  have HS := Lib.hid h
  clear h
  go_enter Try.func12, Try.ntmps12
  go_upto_region 1 with (fail)
  rw [← hWW]
  clear hWW
  obtain ⟨hb0, hx0, hsz0⟩ := HB.out
  have p0 : WW.cell? ⟨w.heap.size, 0, none⟩ = some (.int .i64 p.K) := by simp [World.cell?, hx0.pk]
  have p1 : WW.cell? ⟨w.heap.size, 1, none⟩ = some (.int .i64 p.A) := by simp [World.cell?, hx0.pk]
  have p2 : WW.cell? ⟨w.heap.size, 2, none⟩ = some (.int .i64 p.N) := by simp [World.cell?, hx0.pk]
  go_upto_region 2 with (fail)
  have hbx := (Below.refl WW.heap.size WW).alloc (Nat.le_refl _) (.cells #[.int .i64 p.K, .int .i64 p.A, .int .i64 p.N, .int .i64 0, .int .i64 0, .int .i64 0, .int .u64 0, .int .u64 0, .slice none 0 0, .int .u64 0, .bool false, .slice none 0 0] 51)
  have hb2 := hb0.alloc hb0.size (.cells #[.int .i64 p.K, .int .i64 p.A, .int .i64 p.N, .int .i64 0, .int .i64 0, .int .i64 0, .int .u64 0, .int .u64 0, .slice none 0 0, .int .u64 0, .bool false, .slice none 0 0] 51)
  have HEV := hx0.ev.below hbx
  have p0 := (hbx.cell (p := ⟨w.heap.size, 0, none⟩) (lt_of_cell p0)).trans p0
  have p1 := (hbx.cell (p := ⟨w.heap.size, 1, none⟩) (lt_of_cell p1)).trans p1
  have p2 := (hbx.cell (p := ⟨w.heap.size, 2, none⟩) (lt_of_cell p2)).trans p2
  generalize WW.alloc (.cells #[.int .i64 p.K, .int .i64 p.A, .int .i64 p.N, .int .i64 0, .int .i64 0, .int .i64 0, .int .u64 0, .int .u64 0, .slice none 0 0, .int .u64 0, .bool false, .slice none 0 0] 51) = W2 at hbx hb2 HEV p0 p1 p2 ⊢
  have HB2 := Lib.hid hb2
  have HPW := Lib.hid (HS.out.below hb2)
  have r0 := HEV.e0
  have f0 := HEV.free 0
  have r1 := HEV.e1
  have f1 := HEV.free 1
  have r2 := HEV.e2
  have f2 := HEV.free 2
  have r3 := HEV.e3
  have f3 := HEV.free 3
  have r4 := HEV.e4
  have f4 := HEV.free 4
  have r5 := HEV.e5
  have f5 := HEV.free 5
  have r6 := HEV.e6
  have f6 := HEV.free 6
  have r7 := HEV.e7
  have f7 := HEV.free 7
  have r8 := HEV.e8
  have f8 := HEV.free 8
  have r9 := HEV.e9
  have f9 := HEV.free 9
  have r10 := HEV.e10
  have f10 := HEV.free 10
  have r11 := HEV.e11
  have f11 := HEV.free 11
  clear HEV hbx hb2 hb0 hx0 hsz0
  rw [HK.out] at p0
  go_wp2
  refine bodyPost_ret (v := .tuple #[.agg #[.int .i64 0, .int .i64 0, .int .i64 0, .int .i64 0, .int .i64 0, .int .i64 0, .int .u64 0, .int .u64 0, .slice none 0 0, .int .u64 0, .bool false, .slice none 0 0], .int .i64 1]) (by simp [results, Try.results12, go_sem, r0, r1, r2, r3, r4, r5, r6, r7, r8, r9, r10, r11]) rfl ?_
  have ht12 := twelve_touch W2 (w.heap.size + 1) (.int .i64 0) (.int .i64 0) (.int .i64 0) (.int .i64 0) (.int .i64 0) (.int .i64 0) (.int .u64 0) (.int .u64 0) (.slice none 0 0) (.int .u64 0) (.bool false) (.slice none 0 0)
  exact ⟨rfl, Touch.below HB2.out ht12 HB2.out.size fun k hk => by omega⟩

set_option maxRecDepth 100000 in
set_option maxHeartbeats 2000000 in
theorem plainPick_late {w : World} {o : Nat → Pt} {gp q jb : Nat} {JA : Option Addr} {c5 : Nat} {js : Nat → Jb} {pj : Nat → PJ} {tv : Value} {ts : List Tx} {st : St} (h : PW w o gp q jb JA c5 js pj tv ts st) (p : Pk) (hK : p.K = 2) (hN0 : 0 ≤ p.N) (hN : 1099511627776 < p.N) :
    Calls Try.prog 12 #[.pointer (some ⟨gp, 0, none⟩), .agg #[.int .i64 p.K, .int .i64 p.A, .int .i64 p.N]] w fun e w' => e = .returned (.tuple #[.agg #[.int .i64 0, .int .i64 0, .int .i64 0, .int .i64 0, .int .i64 0, .int .i64 0, .int .u64 0, .int .u64 0, .slice none 0 0, .int .u64 0, .bool false, .slice none 0 0], .int .i64 1]) ∧ Below w.heap.size w w' := by
  have HK := Lib.hid hK
  clear hK
  obtain ⟨WW, hWW⟩ : ∃ WW, WW = (w.alloc (.cells #[.int .i64 p.K, .int .i64 p.A, .int .i64 p.N] 44)).alloc (.cells #[.int .i64 0, .int .i64 0, .int .i64 0, .int .i64 0, .int .i64 0, .int .i64 0, .int .u64 0, .int .u64 0, .slice none 0 0, .int .u64 0, .bool false, .slice none 0 0] 51) := ⟨_, rfl⟩
  have HB := Lib.hid (pick_boxes w p WW hWW)
  have hlg : gp < w.heap.size := (Array.getElem?_eq_some_iff.1 h.head).1
  have HS := Lib.hid h
  clear h
  go_enter Try.func12, Try.ntmps12
  go_upto_region 1 with (fail)
  rw [← hWW]
  clear hWW
  obtain ⟨hb0, hx0, hsz0⟩ := HB.out
  have p0 : WW.cell? ⟨w.heap.size, 0, none⟩ = some (.int .i64 p.K) := by simp [World.cell?, hx0.pk]
  have p1 : WW.cell? ⟨w.heap.size, 1, none⟩ = some (.int .i64 p.A) := by simp [World.cell?, hx0.pk]
  have p2 : WW.cell? ⟨w.heap.size, 2, none⟩ = some (.int .i64 p.N) := by simp [World.cell?, hx0.pk]
  go_upto_region 2 with (fail)
  have hbx := (Below.refl WW.heap.size WW).alloc (Nat.le_refl _) (.cells #[.int .i64 p.K, .int .i64 p.A, .int .i64 p.N, .int .i64 0, .int .i64 0, .int .i64 0, .int .u64 0, .int .u64 0, .slice none 0 0, .int .u64 0, .bool false, .slice none 0 0] 51)
  have hb2 := hb0.alloc hb0.size (.cells #[.int .i64 p.K, .int .i64 p.A, .int .i64 p.N, .int .i64 0, .int .i64 0, .int .i64 0, .int .u64 0, .int .u64 0, .slice none 0 0, .int .u64 0, .bool false, .slice none 0 0] 51)
  have HEV := hx0.ev.below hbx
  have p0 := (hbx.cell (p := ⟨w.heap.size, 0, none⟩) (lt_of_cell p0)).trans p0
  have p1 := (hbx.cell (p := ⟨w.heap.size, 1, none⟩) (lt_of_cell p1)).trans p1
  have p2 := (hbx.cell (p := ⟨w.heap.size, 2, none⟩) (lt_of_cell p2)).trans p2
  generalize WW.alloc (.cells #[.int .i64 p.K, .int .i64 p.A, .int .i64 p.N, .int .i64 0, .int .i64 0, .int .i64 0, .int .u64 0, .int .u64 0, .slice none 0 0, .int .u64 0, .bool false, .slice none 0 0] 51) = W2 at hbx hb2 HEV p0 p1 p2 ⊢
  have HB2 := Lib.hid hb2
  have HPW := Lib.hid (HS.out.below hb2)
  have r0 := HEV.e0
  have f0 := HEV.free 0
  have r1 := HEV.e1
  have f1 := HEV.free 1
  have r2 := HEV.e2
  have f2 := HEV.free 2
  have r3 := HEV.e3
  have f3 := HEV.free 3
  have r4 := HEV.e4
  have f4 := HEV.free 4
  have r5 := HEV.e5
  have f5 := HEV.free 5
  have r6 := HEV.e6
  have f6 := HEV.free 6
  have r7 := HEV.e7
  have f7 := HEV.free 7
  have r8 := HEV.e8
  have f8 := HEV.free 8
  have r9 := HEV.e9
  have f9 := HEV.free 9
  have r10 := HEV.e10
  have f10 := HEV.free 10
  have r11 := HEV.e11
  have f11 := HEV.free 11
  clear HEV hbx hb2 hb0 hx0 hsz0
  rw [HK.out] at p0
  go_wp2
  refine bodyPost_ret (v := .tuple #[.agg #[.int .i64 0, .int .i64 0, .int .i64 0, .int .i64 0, .int .i64 0, .int .i64 0, .int .u64 0, .int .u64 0, .slice none 0 0, .int .u64 0, .bool false, .slice none 0 0], .int .i64 1]) (by simp [results, Try.results12, go_sem, r0, r1, r2, r3, r4, r5, r6, r7, r8, r9, r10, r11]) rfl ?_
  have ht12 := twelve_touch W2 (w.heap.size + 1) (.int .i64 0) (.int .i64 0) (.int .i64 0) (.int .i64 0) (.int .i64 0) (.int .i64 0) (.int .u64 0) (.int .u64 0) (.slice none 0 0) (.int .u64 0) (.bool false) (.slice none 0 0)
  exact ⟨rfl, Touch.below HB2.out ht12 HB2.out.size fun k hk => by omega⟩

set_option maxRecDepth 100000 in
set_option maxHeartbeats 2000000 in
theorem plainPick_kind {w : World} {o : Nat → Pt} {gp q jb : Nat} {JA : Option Addr} {c5 : Nat} {js : Nat → Jb} {pj : Nat → PJ} {tv : Value} {ts : List Tx} {st : St} (h : PW w o gp q jb JA c5 js pj tv ts st) (p : Pk) (h0 : ¬ p.K = 0) (h1 : ¬ p.K = 1) (h2 : ¬ p.K = 2) :
    Calls Try.prog 12 #[.pointer (some ⟨gp, 0, none⟩), .agg #[.int .i64 p.K, .int .i64 p.A, .int .i64 p.N]] w fun e w' => e = .returned (.tuple #[.agg #[.int .i64 0, .int .i64 0, .int .i64 0, .int .i64 0, .int .i64 0, .int .i64 0, .int .u64 0, .int .u64 0, .slice none 0 0, .int .u64 0, .bool false, .slice none 0 0], .int .i64 1]) ∧ Below w.heap.size w w' := by
  obtain ⟨WW, hWW⟩ : ∃ WW, WW = (w.alloc (.cells #[.int .i64 p.K, .int .i64 p.A, .int .i64 p.N] 44)).alloc (.cells #[.int .i64 0, .int .i64 0, .int .i64 0, .int .i64 0, .int .i64 0, .int .i64 0, .int .u64 0, .int .u64 0, .slice none 0 0, .int .u64 0, .bool false, .slice none 0 0] 51) := ⟨_, rfl⟩
  have HB := Lib.hid (pick_boxes w p WW hWW)
  have hlg : gp < w.heap.size := (Array.getElem?_eq_some_iff.1 h.head).1
  have HS := Lib.hid h
  clear h
  go_enter Try.func12, Try.ntmps12
  go_upto_region 1 with (fail)
  rw [← hWW]
  clear hWW
  obtain ⟨hb0, hx0, hsz0⟩ := HB.out
  have p0 : WW.cell? ⟨w.heap.size, 0, none⟩ = some (.int .i64 p.K) := by simp [World.cell?, hx0.pk]
  have p1 : WW.cell? ⟨w.heap.size, 1, none⟩ = some (.int .i64 p.A) := by simp [World.cell?, hx0.pk]
  have p2 : WW.cell? ⟨w.heap.size, 2, none⟩ = some (.int .i64 p.N) := by simp [World.cell?, hx0.pk]
  go_upto_region 2 with (fail)
  have hbx := (Below.refl WW.heap.size WW).alloc (Nat.le_refl _) (.cells #[.int .i64 p.K, .int .i64 p.A, .int .i64 p.N, .int .i64 0, .int .i64 0, .int .i64 0, .int .u64 0, .int .u64 0, .slice none 0 0, .int .u64 0, .bool false, .slice none 0 0] 51)
  have hb2 := hb0.alloc hb0.size (.cells #[.int .i64 p.K, .int .i64 p.A, .int .i64 p.N, .int .i64 0, .int .i64 0, .int .i64 0, .int .u64 0, .int .u64 0, .slice none 0 0, .int .u64 0, .bool false, .slice none 0 0] 51)
  have HEV := hx0.ev.below hbx
  have p0 := (hbx.cell (p := ⟨w.heap.size, 0, none⟩) (lt_of_cell p0)).trans p0
  have p1 := (hbx.cell (p := ⟨w.heap.size, 1, none⟩) (lt_of_cell p1)).trans p1
  have p2 := (hbx.cell (p := ⟨w.heap.size, 2, none⟩) (lt_of_cell p2)).trans p2
  generalize WW.alloc (.cells #[.int .i64 p.K, .int .i64 p.A, .int .i64 p.N, .int .i64 0, .int .i64 0, .int .i64 0, .int .u64 0, .int .u64 0, .slice none 0 0, .int .u64 0, .bool false, .slice none 0 0] 51) = W2 at hbx hb2 HEV p0 p1 p2 ⊢
  have HB2 := Lib.hid hb2
  have HPW := Lib.hid (HS.out.below hb2)
  have r0 := HEV.e0
  have f0 := HEV.free 0
  have r1 := HEV.e1
  have f1 := HEV.free 1
  have r2 := HEV.e2
  have f2 := HEV.free 2
  have r3 := HEV.e3
  have f3 := HEV.free 3
  have r4 := HEV.e4
  have f4 := HEV.free 4
  have r5 := HEV.e5
  have f5 := HEV.free 5
  have r6 := HEV.e6
  have f6 := HEV.free 6
  have r7 := HEV.e7
  have f7 := HEV.free 7
  have r8 := HEV.e8
  have f8 := HEV.free 8
  have r9 := HEV.e9
  have f9 := HEV.free 9
  have r10 := HEV.e10
  have f10 := HEV.free 10
  have r11 := HEV.e11
  have f11 := HEV.free 11
  clear HEV hbx hb2 hb0 hx0 hsz0
  go_wp2
  refine bodyPost_ret (v := .tuple #[.agg #[.int .i64 0, .int .i64 0, .int .i64 0, .int .i64 0, .int .i64 0, .int .i64 0, .int .u64 0, .int .u64 0, .slice none 0 0, .int .u64 0, .bool false, .slice none 0 0], .int .i64 1]) (by simp [results, Try.results12, go_sem, r0, r1, r2, r3, r4, r5, r6, r7, r8, r9, r10, r11]) rfl ?_
  have ht12 := twelve_touch W2 (w.heap.size + 1) (.int .i64 0) (.int .i64 0) (.int .i64 0) (.int .i64 0) (.int .i64 0) (.int .i64 0) (.int .u64 0) (.int .u64 0) (.slice none 0 0) (.int .u64 0) (.bool false) (.slice none 0 0)
  exact ⟨rfl, Touch.below HB2.out ht12 HB2.out.size fun k hk => by omega⟩
end Go.Proofs.Ytegjnejekakeiaa
namespace Go.Proofs.Ytegjnejekakeiaa
open Go.RowKit

theorem twelve_below {B b : Nat} {w W : World} (h : Below B w W) (hb : B ≤ b) (u0 u1 u2 u3 u4 u5 u6 u7 u8 u9 u10 u11 : Value) : Below B w (twelve W b u0 u1 u2 u3 u4 u5 u6 u7 u8 u9 u10 u11) :=
  (((((((((((h.setCell (p := ⟨b, 0, none⟩) hb u0).setCell (p := ⟨b, 1, none⟩) hb u1).setCell (p := ⟨b, 2, none⟩) hb u2).setCell (p := ⟨b, 3, none⟩) hb u3).setCell (p := ⟨b, 4, none⟩) hb u4).setCell (p := ⟨b, 5, none⟩) hb u5).setCell (p := ⟨b, 6, none⟩) hb u6).setCell (p := ⟨b, 7, none⟩) hb u7).setCell (p := ⟨b, 8, none⟩) hb u8).setCell (p := ⟨b, 9, none⟩) hb u9).setCell (p := ⟨b, 10, none⟩) hb u10).setCell (p := ⟨b, 11, none⟩) hb u11

set_option maxRecDepth 100000 in
set_option maxHeartbeats 2000000 in
theorem plainPick_below {w : World} {o : Nat → Pt} {gp q jb : Nat} {JA : Option Addr} {c5 : Nat} {js : Nat → Jb} {pj : Nat → PJ} {tv : Value} {ts : List Tx} {st : St} (h : PW w o gp q jb JA c5 js pj tv ts st) (p : Pk) (hK : p.K = 0 ∨ p.K = 1) (hA : p.A < 0) :
    Calls Try.prog 12 #[.pointer (some ⟨gp, 0, none⟩), .agg #[.int .i64 p.K, .int .i64 p.A, .int .i64 p.N]] w fun e w' => e = .returned (.tuple #[.agg #[.int .i64 0, .int .i64 0, .int .i64 0, .int .i64 0, .int .i64 0, .int .i64 0, .int .u64 0, .int .u64 0, .slice none 0 0, .int .u64 0, .bool false, .slice none 0 0], .int .i64 2]) ∧ Below w.heap.size w w' := by
  have HK := Lib.hid hK
  clear hK
  obtain ⟨WW, hWW⟩ : ∃ WW, WW = (w.alloc (.cells #[.int .i64 p.K, .int .i64 p.A, .int .i64 p.N] 44)).alloc (.cells #[.int .i64 0, .int .i64 0, .int .i64 0, .int .i64 0, .int .i64 0, .int .i64 0, .int .u64 0, .int .u64 0, .slice none 0 0, .int .u64 0, .bool false, .slice none 0 0] 51) := ⟨_, rfl⟩
  have HB := Lib.hid (pick_boxes w p WW hWW)
  have hlg : gp < w.heap.size := (Array.getElem?_eq_some_iff.1 h.head).1
  have HS := Lib.hid h
  clear h
  go_enter Try.func12, Try.ntmps12
  go_upto_region 1 with (fail)
  rw [← hWW]
  clear hWW
  obtain ⟨hb0, hx0, hsz0⟩ := HB.out
  have p0 : WW.cell? ⟨w.heap.size, 0, none⟩ = some (.int .i64 p.K) := by simp [World.cell?, hx0.pk]
  have p1 : WW.cell? ⟨w.heap.size, 1, none⟩ = some (.int .i64 p.A) := by simp [World.cell?, hx0.pk]
  have p2 : WW.cell? ⟨w.heap.size, 2, none⟩ = some (.int .i64 p.N) := by simp [World.cell?, hx0.pk]
  go_upto_region 2 with (fail)
  have hbx := (Below.refl WW.heap.size WW).alloc (Nat.le_refl _) (.cells #[.int .i64 p.K, .int .i64 p.A, .int .i64 p.N, .int .i64 0, .int .i64 0, .int .i64 0, .int .u64 0, .int .u64 0, .slice none 0 0, .int .u64 0, .bool false, .slice none 0 0] 51)
  have hb2 := hb0.alloc hb0.size (.cells #[.int .i64 p.K, .int .i64 p.A, .int .i64 p.N, .int .i64 0, .int .i64 0, .int .i64 0, .int .u64 0, .int .u64 0, .slice none 0 0, .int .u64 0, .bool false, .slice none 0 0] 51)
  have HEV := hx0.ev.below hbx
  have p0 := (hbx.cell (p := ⟨w.heap.size, 0, none⟩) (lt_of_cell p0)).trans p0
  have p1 := (hbx.cell (p := ⟨w.heap.size, 1, none⟩) (lt_of_cell p1)).trans p1
  have p2 := (hbx.cell (p := ⟨w.heap.size, 2, none⟩) (lt_of_cell p2)).trans p2
  generalize WW.alloc (.cells #[.int .i64 p.K, .int .i64 p.A, .int .i64 p.N, .int .i64 0, .int .i64 0, .int .i64 0, .int .u64 0, .int .u64 0, .slice none 0 0, .int .u64 0, .bool false, .slice none 0 0] 51) = W2 at hbx hb2 HEV p0 p1 p2 ⊢
  have HB2 := Lib.hid hb2
  have HPW := Lib.hid (HS.out.below hb2)
  have r0 := HEV.e0
  have f0 := HEV.free 0
  have r1 := HEV.e1
  have f1 := HEV.free 1
  have r2 := HEV.e2
  have f2 := HEV.free 2
  have r3 := HEV.e3
  have f3 := HEV.free 3
  have r4 := HEV.e4
  have f4 := HEV.free 4
  have r5 := HEV.e5
  have f5 := HEV.free 5
  have r6 := HEV.e6
  have f6 := HEV.free 6
  have r7 := HEV.e7
  have f7 := HEV.free 7
  have r8 := HEV.e8
  have f8 := HEV.free 8
  have r9 := HEV.e9
  have f9 := HEV.free 9
  have r10 := HEV.e10
  have f10 := HEV.free 10
  have r11 := HEV.e11
  have f11 := HEV.free 11
  clear HEV hbx hb2 hb0 hx0 hsz0
  rcases HK.out with e | e
  · rw [e] at p0
    clear e
    go_upto_region 10 with (fail)
    go_quiet (fail)
    go_wp2
    refine bodyPost_ret (v := .tuple #[.agg #[.int .i64 0, .int .i64 0, .int .i64 0, .int .i64 0, .int .i64 0, .int .i64 0, .int .u64 0, .int .u64 0, .slice none 0 0, .int .u64 0, .bool false, .slice none 0 0], .int .i64 2]) (by simp [results, Try.results12, go_sem, r0, r1, r2, r3, r4, r5, r6, r7, r8, r9, r10, r11]) rfl ?_
    refine ⟨rfl, twelve_below (b := w.heap.size + 1) ?_ (Nat.le_succ _) _ _ _ _ _ _ _ _ _ _ _ _⟩
    first
      | exact HB2.out.trans ((drewN_below W2 _).mono HB2.out.size)
      | exact (HB2.out.trans ((drewN_below W2 _).mono HB2.out.size)).trans ((drewN_below _ _).mono HB2.out.size)
  · rw [e] at p0
    clear e
    go_upto_region 10 with (fail)
    go_quiet (fail)
    go_wp2
    refine bodyPost_ret (v := .tuple #[.agg #[.int .i64 0, .int .i64 0, .int .i64 0, .int .i64 0, .int .i64 0, .int .i64 0, .int .u64 0, .int .u64 0, .slice none 0 0, .int .u64 0, .bool false, .slice none 0 0], .int .i64 2]) (by simp [results, Try.results12, go_sem, r0, r1, r2, r3, r4, r5, r6, r7, r8, r9, r10, r11]) rfl ?_
    refine ⟨rfl, twelve_below (b := w.heap.size + 1) ?_ (Nat.le_succ _) _ _ _ _ _ _ _ _ _ _ _ _⟩
    first
      | exact HB2.out.trans ((drewN_below W2 _).mono HB2.out.size)
      | exact (HB2.out.trans ((drewN_below W2 _).mono HB2.out.size)).trans ((drewN_below _ _).mono HB2.out.size)

set_option maxRecDepth 100000 in
set_option maxHeartbeats 2000000 in
theorem plainPick_over {w : World} {o : Nat → Pt} {gp q jb : Nat} {JA : Option Addr} {c5 : Nat} {js : Nat → Jb} {pj : Nat → PJ} {tv : Value} {ts : List Tx} {st : St} (h : PW w o gp q jb JA c5 js pj tv ts st) (p : Pk) (hK : p.K = 0 ∨ p.K = 1) (hA0 : 0 ≤ p.A) (hA : (st.na : Int) ≤ p.A) :
    Calls Try.prog 12 #[.pointer (some ⟨gp, 0, none⟩), .agg #[.int .i64 p.K, .int .i64 p.A, .int .i64 p.N]] w fun e w' => e = .returned (.tuple #[.agg #[.int .i64 0, .int .i64 0, .int .i64 0, .int .i64 0, .int .i64 0, .int .i64 0, .int .u64 0, .int .u64 0, .slice none 0 0, .int .u64 0, .bool false, .slice none 0 0], .int .i64 2]) ∧ Below w.heap.size w w' := by
  have HK := Lib.hid hK
  clear hK
  obtain ⟨WW, hWW⟩ : ∃ WW, WW = (w.alloc (.cells #[.int .i64 p.K, .int .i64 p.A, .int .i64 p.N] 44)).alloc (.cells #[.int .i64 0, .int .i64 0, .int .i64 0, .int .i64 0, .int .i64 0, .int .i64 0, .int .u64 0, .int .u64 0, .slice none 0 0, .int .u64 0, .bool false, .slice none 0 0] 51) := ⟨_, rfl⟩
  have HB := Lib.hid (pick_boxes w p WW hWW)
  have hlg : gp < w.heap.size := (Array.getElem?_eq_some_iff.1 h.head).1
  have HS := Lib.hid h
  clear h
  go_enter Try.func12, Try.ntmps12
  go_upto_region 1 with (fail)
  rw [← hWW]
  clear hWW
  obtain ⟨hb0, hx0, hsz0⟩ := HB.out
  have p0 : WW.cell? ⟨w.heap.size, 0, none⟩ = some (.int .i64 p.K) := by simp [World.cell?, hx0.pk]
  have p1 : WW.cell? ⟨w.heap.size, 1, none⟩ = some (.int .i64 p.A) := by simp [World.cell?, hx0.pk]
  have p2 : WW.cell? ⟨w.heap.size, 2, none⟩ = some (.int .i64 p.N) := by simp [World.cell?, hx0.pk]
  go_upto_region 2 with (fail)
  have hbx := (Below.refl WW.heap.size WW).alloc (Nat.le_refl _) (.cells #[.int .i64 p.K, .int .i64 p.A, .int .i64 p.N, .int .i64 0, .int .i64 0, .int .i64 0, .int .u64 0, .int .u64 0, .slice none 0 0, .int .u64 0, .bool false, .slice none 0 0] 51)
  have hb2 := hb0.alloc hb0.size (.cells #[.int .i64 p.K, .int .i64 p.A, .int .i64 p.N, .int .i64 0, .int .i64 0, .int .i64 0, .int .u64 0, .int .u64 0, .slice none 0 0, .int .u64 0, .bool false, .slice none 0 0] 51)
  have HEV := hx0.ev.below hbx
  have p0 := (hbx.cell (p := ⟨w.heap.size, 0, none⟩) (lt_of_cell p0)).trans p0
  have p1 := (hbx.cell (p := ⟨w.heap.size, 1, none⟩) (lt_of_cell p1)).trans p1
  have p2 := (hbx.cell (p := ⟨w.heap.size, 2, none⟩) (lt_of_cell p2)).trans p2
  generalize WW.alloc (.cells #[.int .i64 p.K, .int .i64 p.A, .int .i64 p.N, .int .i64 0, .int .i64 0, .int .i64 0, .int .u64 0, .int .u64 0, .slice none 0 0, .int .u64 0, .bool false, .slice none 0 0] 51) = W2 at hbx hb2 HEV p0 p1 p2 ⊢
  have HB2 := Lib.hid hb2
  have HPW := Lib.hid (HS.out.below hb2)
  have r0 := HEV.e0
  have f0 := HEV.free 0
  have r1 := HEV.e1
  have f1 := HEV.free 1
  have r2 := HEV.e2
  have f2 := HEV.free 2
  have r3 := HEV.e3
  have f3 := HEV.free 3
  have r4 := HEV.e4
  have f4 := HEV.free 4
  have r5 := HEV.e5
  have f5 := HEV.free 5
  have r6 := HEV.e6
  have f6 := HEV.free 6
  have r7 := HEV.e7
  have f7 := HEV.free 7
  have r8 := HEV.e8
  have f8 := HEV.free 8
  have r9 := HEV.e9
  have f9 := HEV.free 9
  have r10 := HEV.e10
  have f10 := HEV.free 10
  have r11 := HEV.e11
  have f11 := HEV.free 11
  clear HEV hbx hb2 hb0 hx0 hsz0
  have g1 : W2.cell? ⟨gp, 1, none⟩ = some (.slice JA st.na c5) := by simp [World.cell?, HPW.out.head]
  rcases HK.out with e | e
  · rw [e] at p0
    clear e
    go_upto_region 10 with (fail)
    go_quiet (fail)
    go_wp2
    refine bodyPost_ret (v := .tuple #[.agg #[.int .i64 0, .int .i64 0, .int .i64 0, .int .i64 0, .int .i64 0, .int .i64 0, .int .u64 0, .int .u64 0, .slice none 0 0, .int .u64 0, .bool false, .slice none 0 0], .int .i64 2]) (by simp [results, Try.results12, go_sem, r0, r1, r2, r3, r4, r5, r6, r7, r8, r9, r10, r11]) rfl ?_
    refine ⟨rfl, twelve_below (b := w.heap.size + 1) ?_ (Nat.le_succ _) _ _ _ _ _ _ _ _ _ _ _ _⟩
    first
      | exact HB2.out.trans ((drewN_below W2 _).mono HB2.out.size)
      | exact (HB2.out.trans ((drewN_below W2 _).mono HB2.out.size)).trans ((drewN_below _ _).mono HB2.out.size)
  · rw [e] at p0
    clear e
    go_upto_region 10 with (fail)
    go_quiet (fail)
    go_wp2
    refine bodyPost_ret (v := .tuple #[.agg #[.int .i64 0, .int .i64 0, .int .i64 0, .int .i64 0, .int .i64 0, .int .i64 0, .int .u64 0, .int .u64 0, .slice none 0 0, .int .u64 0, .bool false, .slice none 0 0], .int .i64 2]) (by simp [results, Try.results12, go_sem, r0, r1, r2, r3, r4, r5, r6, r7, r8, r9, r10, r11]) rfl ?_
    refine ⟨rfl, twelve_below (b := w.heap.size + 1) ?_ (Nat.le_succ _) _ _ _ _ _ _ _ _ _ _ _ _⟩
    first
      | exact HB2.out.trans ((drewN_below W2 _).mono HB2.out.size)
      | exact (HB2.out.trans ((drewN_below W2 _).mono HB2.out.size)).trans ((drewN_below _ _).mono HB2.out.size)

set_option maxRecDepth 100000 in
set_option maxHeartbeats 2000000 in
theorem plainPick_dead {w : World} {o : Nat → Pt} {gp q jb : Nat} {JA : Option Addr} {c5 : Nat} {js : Nat → Jb} {pj : Nat → PJ} {tv : Value} {ts : List Tx} {st : St} (h : PW w o gp q jb JA c5 js pj tv ts st) (p : Pk) (hK : p.K = 0 ∨ p.K = 1) (i : Nat) (hA : p.A = i) (hi : i < st.na) (hd : st.dead i = true) :
    Calls Try.prog 12 #[.pointer (some ⟨gp, 0, none⟩), .agg #[.int .i64 p.K, .int .i64 p.A, .int .i64 p.N]] w fun e w' => e = .returned (.tuple #[.agg #[.int .i64 0, .int .i64 0, .int .i64 0, .int .i64 0, .int .i64 0, .int .i64 0, .int .u64 0, .int .u64 0, .slice none 0 0, .int .u64 0, .bool false, .slice none 0 0], .int .i64 11]) ∧ Below w.heap.size w w' := by
  have HK := Lib.hid hK
  clear hK
  have HA := Lib.hid hA
  have HD := Lib.hid hd
  clear hA hd
  obtain ⟨WW, hWW⟩ : ∃ WW, WW = (w.alloc (.cells #[.int .i64 p.K, .int .i64 p.A, .int .i64 p.N] 44)).alloc (.cells #[.int .i64 0, .int .i64 0, .int .i64 0, .int .i64 0, .int .i64 0, .int .i64 0, .int .u64 0, .int .u64 0, .slice none 0 0, .int .u64 0, .bool false, .slice none 0 0] 51) := ⟨_, rfl⟩
  have HB := Lib.hid (pick_boxes w p WW hWW)
  have hlg : gp < w.heap.size := (Array.getElem?_eq_some_iff.1 h.head).1
  have HS := Lib.hid h
  clear h
  go_enter Try.func12, Try.ntmps12
  go_upto_region 1 with (fail)
  rw [← hWW]
  clear hWW
  obtain ⟨hb0, hx0, hsz0⟩ := HB.out
  have p0 : WW.cell? ⟨w.heap.size, 0, none⟩ = some (.int .i64 p.K) := by simp [World.cell?, hx0.pk]
  have p1 : WW.cell? ⟨w.heap.size, 1, none⟩ = some (.int .i64 p.A) := by simp [World.cell?, hx0.pk]
  have p2 : WW.cell? ⟨w.heap.size, 2, none⟩ = some (.int .i64 p.N) := by simp [World.cell?, hx0.pk]
  go_upto_region 2 with (fail)
  have hbx := (Below.refl WW.heap.size WW).alloc (Nat.le_refl _) (.cells #[.int .i64 p.K, .int .i64 p.A, .int .i64 p.N, .int .i64 0, .int .i64 0, .int .i64 0, .int .u64 0, .int .u64 0, .slice none 0 0, .int .u64 0, .bool false, .slice none 0 0] 51)
  have hb2 := hb0.alloc hb0.size (.cells #[.int .i64 p.K, .int .i64 p.A, .int .i64 p.N, .int .i64 0, .int .i64 0, .int .i64 0, .int .u64 0, .int .u64 0, .slice none 0 0, .int .u64 0, .bool false, .slice none 0 0] 51)
  have HEV := hx0.ev.below hbx
  have p0 := (hbx.cell (p := ⟨w.heap.size, 0, none⟩) (lt_of_cell p0)).trans p0
  have p1 := (hbx.cell (p := ⟨w.heap.size, 1, none⟩) (lt_of_cell p1)).trans p1
  have p2 := (hbx.cell (p := ⟨w.heap.size, 2, none⟩) (lt_of_cell p2)).trans p2
  generalize WW.alloc (.cells #[.int .i64 p.K, .int .i64 p.A, .int .i64 p.N, .int .i64 0, .int .i64 0, .int .i64 0, .int .u64 0, .int .u64 0, .slice none 0 0, .int .u64 0, .bool false, .slice none 0 0] 51) = W2 at hbx hb2 HEV p0 p1 p2 ⊢
  have HB2 := Lib.hid hb2
  have HPW := Lib.hid (HS.out.below hb2)
  have r0 := HEV.e0
  have f0 := HEV.free 0
  have r1 := HEV.e1
  have f1 := HEV.free 1
  have r2 := HEV.e2
  have f2 := HEV.free 2
  have r3 := HEV.e3
  have f3 := HEV.free 3
  have r4 := HEV.e4
  have f4 := HEV.free 4
  have r5 := HEV.e5
  have f5 := HEV.free 5
  have r6 := HEV.e6
  have f6 := HEV.free 6
  have r7 := HEV.e7
  have f7 := HEV.free 7
  have r8 := HEV.e8
  have f8 := HEV.free 8
  have r9 := HEV.e9
  have f9 := HEV.free 9
  have r10 := HEV.e10
  have f10 := HEV.free 10
  have r11 := HEV.e11
  have f11 := HEV.free 11
  clear HEV hbx hb2 hb0 hx0 hsz0
  have hna : 0 < st.na := by omega
  have hJA := (HPW.out.jrow hna).1
  subst hJA
  have g1 : W2.cell? ⟨gp, 1, none⟩ = some (.slice (some ⟨jb, 0, none⟩) st.na c5) := by simp [World.cell?, HPW.out.head]
  have hj5 := (HPW.out.job i hi).c5
  have hroom := HPW.out.room
  rw [HD.out] at hj5
  rw [HA.out] at p1
  rcases HK.out with e | e
  · rw [e] at p0
    clear e
    go_upto_region 10 with (fail)
    go_quiet (fail)
    go_upto_region 12 with (fail)
    go_quiet (fail)
    go_wp2
    refine bodyPost_ret (v := .tuple #[.agg #[.int .i64 0, .int .i64 0, .int .i64 0, .int .i64 0, .int .i64 0, .int .i64 0, .int .u64 0, .int .u64 0, .slice none 0 0, .int .u64 0, .bool false, .slice none 0 0], .int .i64 11]) (by simp [results, Try.results12, go_sem, r0, r1, r2, r3, r4, r5, r6, r7, r8, r9, r10, r11]) rfl ?_
    refine ⟨rfl, twelve_below (b := w.heap.size + 1) ?_ (Nat.le_succ _) _ _ _ _ _ _ _ _ _ _ _ _⟩
    first
      | exact HB2.out.trans ((drewN_below W2 _).mono HB2.out.size)
      | exact (HB2.out.trans ((drewN_below W2 _).mono HB2.out.size)).trans ((drewN_below _ _).mono HB2.out.size)
  · rw [e] at p0
    clear e
    go_upto_region 10 with (fail)
    go_quiet (fail)
    go_upto_region 12 with (fail)
    go_quiet (fail)
    go_wp2
    refine bodyPost_ret (v := .tuple #[.agg #[.int .i64 0, .int .i64 0, .int .i64 0, .int .i64 0, .int .i64 0, .int .i64 0, .int .u64 0, .int .u64 0, .slice none 0 0, .int .u64 0, .bool false, .slice none 0 0], .int .i64 11]) (by simp [results, Try.results12, go_sem, r0, r1, r2, r3, r4, r5, r6, r7, r8, r9, r10, r11]) rfl ?_
    refine ⟨rfl, twelve_below (b := w.heap.size + 1) ?_ (Nat.le_succ _) _ _ _ _ _ _ _ _ _ _ _ _⟩
    first
      | exact HB2.out.trans ((drewN_below W2 _).mono HB2.out.size)
      | exact (HB2.out.trans ((drewN_below W2 _).mono HB2.out.size)).trans ((drewN_below _ _).mono HB2.out.size)
end Go.Proofs.Ytegjnejekakeiaa
namespace Go.Proofs.Ytegjnejekakeiaa
open Go.RowKit

/-- A cell of the world's own block. -/
theorem blkW {w : World} {gp : Nat} {u0 u1 u2 u3 : Value} (h : w.heap[gp]? = some (.cells #[u0, u1, u2, u3] 42 (0, 0))) (u : Value) :
    (w.setCell ⟨gp, 2, none⟩ u).heap[gp]? = some (.cells #[u0, u1, u, u3] 42 (0, 0)) ∧ (w.setCell ⟨gp, 3, none⟩ u).heap[gp]? = some (.cells #[u0, u1, u2, u] 42 (0, 0)) := by
  constructor <;> simp [World.setCell, Array.getElem?_modify, h]

namespace PW
variable {w : World} {p : Nat → Pt} {gp q jb : Nat} {JA : Option Addr} {c5 : Nat} {js : Nat → Jb} {pj : Nat → PJ} {tv : Value} {ts : List Tx} {st : St}

/-- The clock goes on. -/
theorem setClock (h : PW w p gp q jb JA c5 js pj tv ts st) (c : Int) : PW (w.setCell ⟨gp, 2, none⟩ (.int .i64 c)) p gp q jb JA c5 js pj tv ts { st with clock := c } := by
  have hne : ∀ k, p k ≠ .wd → (w.setCell ⟨gp, 2, none⟩ (.int .i64 c)).heap[k]? = w.heap[k]? := fun k hk => Below.heap_setCell _ _ _ _ fun e => hk (e ▸ h.pgp)
  have hs : w.heap.size ≤ (w.setCell ⟨gp, 2, none⟩ (.int .i64 c)).heap.size := by simp [World.setCell]
  have ht : ∀ k, p k = .tx → k < w.heap.size → (w.setCell ⟨gp, 2, none⟩ (.int .i64 c)).heap[k]? = w.heap[k]? := fun k hx _ => hne k (by rw [hx]; simp)
  exact ⟨(blkW h.head _).1, h.jrow, h.room, h.bytes.of_block (hne q (by rw [h.pq]; simp)), h.isB, fun i hi => (h.job i hi).of_block (hne jb (by rw [(h.jrow (Nat.lt_of_le_of_lt (Nat.zero_le i) hi)).2]; simp)),
    fun i hi => (h.txt i hi).keep hs ht, h.fits, fun i hi => ⟨(h.told i hi).1.keep hs ht, (h.told i hi).2⟩, h.link, ownsRow_keep h.trow fun k hb => hne k (by rw [h.town k hb]; simp), h.ttxt.keep hs ht, h.town, h.evs, h.pgp, h.pq, fun k hn => Nat.lt_of_lt_of_le (h.plt k hn) hs⟩

/-- One is killed. -/
theorem setDead (h : PW w p gp q jb JA c5 js pj tv ts st) {i : Nat} (hi : i < st.na) : PW (w.setCell ⟨jb, i * 6 + 5, none⟩ (.bool true)) p gp q jb JA c5 js pj tv ts (st.kill i) := by
  have hjb := (h.jrow (Nat.lt_of_le_of_lt (Nat.zero_le i) hi)).2
  have hne : ∀ k, p k ≠ .ac → (w.setCell ⟨jb, i * 6 + 5, none⟩ (.bool true)).heap[k]? = w.heap[k]? := fun k hk => Below.heap_setCell _ _ _ _ fun e => hk (e ▸ hjb)
  have hs : w.heap.size ≤ (w.setCell ⟨jb, i * 6 + 5, none⟩ (.bool true)).heap.size := by simp [World.setCell]
  have ht : ∀ k, p k = .tx → k < w.heap.size → (w.setCell ⟨jb, i * 6 + 5, none⟩ (.bool true)).heap[k]? = w.heap[k]? := fun k hx _ => hne k (by rw [hx]; simp)
  refine ⟨(hne gp (by rw [h.pgp]; simp)).trans h.head, h.jrow, h.room, h.bytes.of_block (hne q (by rw [h.pq]; simp)), h.isB, fun j hj => ?_,
    fun i hi => (h.txt i hi).keep hs ht, h.fits, fun i hi => ⟨(h.told i hi).1.keep hs ht, (h.told i hi).2⟩, h.link, ownsRow_keep h.trow fun k hb => hne k (by rw [h.town k hb]; simp), h.ttxt.keep hs ht, h.town, h.evs, h.pgp, h.pq, fun k hn => Nat.lt_of_lt_of_le (h.plt k hn) hs⟩
  show JobAt _ jb j _ _ _ _ _ (upd st.dead i true j)
  by_cases hji : j = i
  · subst hji
    rw [show upd st.dead j true j = true from if_pos rfl]
    exact (h.job j hj).kill true
  · rw [show upd st.dead i true j = st.dead j from if_neg hji]
    exact (h.job j hj).other (j := i) (m := 5) (by omega) (fun e => hji e.symm) _

/-- The trace has one event more. -/
theorem push (h : PW w p gp q jb JA c5 js pj tv ts st) {w1 w2 : World} (hbl : Below w.heap.size w w1) (t : Tx) {tv' : Value} (b1 : BytesIn (fun k => p k = .tx) w t.s1 t.e.ac.bs) (b2 : BytesIn (fun k => p k = .tx) w t.s2 t.e.an.bs)
    (ha : AppEv ts.length tv (ts.flatMap Tx.cells ++ t.cells) w1 tv' w2) :
    ∃ p', PW (w2.setCell ⟨gp, 3, none⟩ tv') p' gp q jb JA c5 js pj tv' (ts ++ [t]) (st.push t.e) ∧ Touch (Mut p) w (w2.setCell ⟨gp, 3, none⟩ tv') ∧ ∀ k, k < w.heap.size → p' k = p k := by
  have hs1 := hbl.size
  have hs2 := ha.grown.size
  have hlgp : gp < w.heap.size := h.plt gp (by rw [h.pgp]; simp)
  have htv : ∀ k, tv.ownBlock = some k → k < w.heap.size ∧ p k = .ro := fun k hk => ⟨h.plt k (by rw [h.town k hk]; simp), h.town k hk⟩
  have htv' : ∀ k, tv'.ownBlock = some k → (k < w.heap.size ∧ p k = .ro) ∨ k = w1.heap.size := fun k hk => by
    rcases ha.lies with e | e
    · exact .inl (htv k (e.symm.trans hk))
    · rw [e] at hk; injection hk with hk; exact .inr hk.symm
  have hltv' : ∀ k, tv'.ownBlock = some k → k < w2.heap.size := fun k hk => (World.ownsRow.lt ha.row k hk).2
  have hsz3 : (w2.setCell ⟨gp, 3, none⟩ tv').heap.size = w2.heap.size := by simp [World.setCell]
  have hgr : ∀ k, k < w.heap.size → p k ≠ .ro → w2.heap[k]? = w.heap[k]? := fun k hk hn => (ha.grown.block k (by omega) fun e => hn (h.town k e.symm)).trans (hbl.block k hk)
  have hold : ∀ k, k < w.heap.size → p k ≠ .ro → p k ≠ .wd → (w2.setCell ⟨gp, 3, none⟩ tv').heap[k]? = w.heap[k]? := fun k hk h1 h2 => (Below.heap_setCell _ _ _ _ fun e => h2 (by have e : k = gp := e; rw [e]; exact h.pgp)).trans (hgr k hk h1)
  have hhead := (blkW ((hgr gp hlgp (by rw [h.pgp]; simp)).trans h.head) tv').2
  have hrow2 : ∀ k, tv'.ownBlock = some k → (w2.setCell ⟨gp, 3, none⟩ tv').heap[k]? = w2.heap[k]? := fun k hk => Below.heap_setCell _ _ _ _ fun e => by
    have e : k = gp := e
    rcases htv' k hk with e1 | e1
    · rw [e, h.pgp] at e1; cases e1.2
    · omega
  have hos : (w2.setCell ⟨gp, 3, none⟩ tv').os = w.os := ha.grown.os.trans hbl.os
  have hta : (w2.setCell ⟨gp, 3, none⟩ tv').tape = w.tape := ha.grown.tape.trans hbl.tape
  have hou : (w2.setCell ⟨gp, 3, none⟩ tv').output = w.output := ha.grown.output.trans hbl.output
  let p' : Nat → Pt := fun k => if k < w.heap.size then p k else if k = w1.heap.size ∧ k < w2.heap.size then .ro else .no
  have q0 : ∀ k, k < w.heap.size → p' k = p k := fun k hk => if_pos hk
  have q1 : ∀ k, tv'.ownBlock = some k → p' k = .ro := fun k hk => by
    rcases htv' k hk with e | e
    · exact (q0 k e.1).trans e.2
    · have := hltv' k hk
      show (if _ then _ else _) = _
      rw [if_neg (by omega), if_pos ⟨e, this⟩]
  have q2 : ∀ k, p' k ≠ .no → k < w2.heap.size := fun k hk => by
    by_cases h1 : k < w.heap.size
    · omega
    · by_cases h2 : k = w1.heap.size ∧ k < w2.heap.size
      · exact h2.2
      · exact absurd (show p' k = .no by show (if _ then _ else _) = _; rw [if_neg h1, if_neg h2]) hk
  clear_value p'
  generalize w2.setCell ⟨gp, 3, none⟩ tv' = w3 at *
  have hs3 : w.heap.size ≤ w3.heap.size := by omega
  have ht : ∀ k, p k = .tx → k < w.heap.size → w3.heap[k]? = w.heap[k]? := fun k hx hk => hold k hk (by rw [hx]; simp) (by rw [hx]; simp)
  have hm : ∀ k, p k = .tx → k < w3.heap.size → p' k = .tx := fun k hx _ => (q0 k (h.plt k (by rw [hx]; simp))).trans hx
  refine ⟨p', ⟨hhead, fun hp => ⟨(h.jrow hp).1, ?_⟩, h.room, h.bytes.of_block (hold q h.bytes.lt (by rw [h.pq]; simp) (by rw [h.pq]; simp)), h.isB, fun i hi => ?_, fun i hi => ((h.txt i hi).keep hs3 ht).mono hm, h.fits,
    fun i hi => ⟨((h.told i hi).1.keep hs3 ht).mono hm, (h.told i hi).2⟩, h.link, ?_, ?_, q1, by show (ts ++ [t]).map Tx.e = st.tr ++ [t.e]; rw [List.map_append, h.evs]; rfl, (q0 gp hlgp).trans h.pgp, (q0 q h.bytes.lt).trans h.pq, fun k hk => by have := q2 k hk; omega⟩, ?_, q0⟩
  · have := (h.jrow hp).2
    exact (q0 jb (h.plt jb (by rw [this]; simp))).trans this
  · have hjb := (h.jrow (Nat.lt_of_le_of_lt (Nat.zero_le i) hi)).2
    exact (h.job i hi).of_block (hold jb (h.plt jb (by rw [hjb]; simp)) (by rw [hjb]; simp) (by rw [hjb]; simp))
  · have hr2 := ha.row
    rw [show ts.flatMap Tx.cells ++ t.cells = (ts ++ [t]).flatMap Tx.cells by simp, show ts.length + 1 = (ts ++ [t]).length by simp] at hr2
    exact ownsRow_keep hr2 hrow2
  · exact ((h.ttxt.append b1 b2).keep hs3 ht).mono hm
  · exact ⟨hos, hta, hou, hs3, fun k hk hn => by
      by_cases h1 : p k = .no
      · exact hold k hk (by rw [h1]; simp) (by rw [h1]; simp)
      · by_cases h2 : p k = .tx
        · exact ht k h2 hk
        · exact absurd ⟨h1, h2⟩ hn⟩
end PW

/-- A pick was done by the plain world: its event is told. -/
def PlainTold (o : Nat → Pt) (gp q jb : Nat) (JA : Option Addr) (c5 : Nat) (js : Nat → Jb) (st' : St) (v : Ev) (w : World) (e : Ending) (w' : World) : Prop :=
  ∃ o' A1 l1 q1 A2 l2 q2 pj' tv' ts', e = .returned (.tuple #[.agg #[.int .i64 v.pk.K, .int .i64 v.pk.A, .int .i64 v.pk.N, .int .i64 v.ac.K, .int .i64 v.ac.P, .int .i64 v.ac.N, .int .u64 v.ac.V, .int .u64 v.ac.U, .slice A1 l1 q1, .int .u64 v.an.V, .bool v.an.D, .slice A2 l2 q2], .int .i64 0]) ∧ BytesAt w' (.slice A1 l1 q1) v.ac.bs ∧ BytesAt w' (.slice A2 l2 q2) v.an.bs ∧
    PW w' o' gp q jb JA c5 js pj' tv' ts' st' ∧ Touch (Mut o) w w' ∧ ∀ k, k < w.heap.size → o' k = o k
end Go.Proofs.Ytegjnejekakeiaa
namespace Go.Proofs.Ytegjnejekakeiaa
open Go.RowKit

set_option maxRecDepth 100000 in
set_option maxHeartbeats 2000000 in
theorem plainPick_tick {w : World} {o : Nat → Pt} {gp q jb : Nat} {JA : Option Addr} {c5 : Nat} {js : Nat → Jb} {pj : Nat → PJ} {tv : Value} {ts : List Tx} {st : St} (h : PW w o gp q jb JA c5 js pj tv ts st) (p : Pk) (hK : p.K = 2) (hN0 : 0 ≤ p.N) (hN1 : p.N ≤ 1099511627776) (hlong : ts.length ≤ 1000000) :
    Calls Try.prog 12 #[.pointer (some ⟨gp, 0, none⟩), .agg #[.int .i64 p.K, .int .i64 p.A, .int .i64 p.N]] w (PlainTold o gp q jb JA c5 js (({ st with clock := wrap64 (st.clock + p.N) } : St).push (.bare p)) (.bare p) w) := by
  have HK := Lib.hid hK
  clear hK
  obtain ⟨WW, hWW⟩ : ∃ WW, WW = (w.alloc (.cells #[.int .i64 p.K, .int .i64 p.A, .int .i64 p.N] 44)).alloc (.cells #[.int .i64 0, .int .i64 0, .int .i64 0, .int .i64 0, .int .i64 0, .int .i64 0, .int .u64 0, .int .u64 0, .slice none 0 0, .int .u64 0, .bool false, .slice none 0 0] 51) := ⟨_, rfl⟩
  have HB := Lib.hid (pick_boxes w p WW hWW)
  have hlg : gp < w.heap.size := (Array.getElem?_eq_some_iff.1 h.head).1
  have HS := Lib.hid h
  have HL := Lib.hid hlong
  clear h hlong
  go_enter Try.func12, Try.ntmps12
  go_upto_region 1 with (fail)
  rw [← hWW]
  clear hWW
  obtain ⟨hb0, hx0, hsz0⟩ := HB.out
  have p0 : WW.cell? ⟨w.heap.size, 0, none⟩ = some (.int .i64 p.K) := by simp [World.cell?, hx0.pk]
  have p1 : WW.cell? ⟨w.heap.size, 1, none⟩ = some (.int .i64 p.A) := by simp [World.cell?, hx0.pk]
  have p2 : WW.cell? ⟨w.heap.size, 2, none⟩ = some (.int .i64 p.N) := by simp [World.cell?, hx0.pk]
  go_upto_region 2 with (fail)
  have hbx := (Below.refl WW.heap.size WW).alloc (Nat.le_refl _) (.cells #[.int .i64 p.K, .int .i64 p.A, .int .i64 p.N, .int .i64 0, .int .i64 0, .int .i64 0, .int .u64 0, .int .u64 0, .slice none 0 0, .int .u64 0, .bool false, .slice none 0 0] 51)
  have hb2 := hb0.alloc hb0.size (.cells #[.int .i64 p.K, .int .i64 p.A, .int .i64 p.N, .int .i64 0, .int .i64 0, .int .i64 0, .int .u64 0, .int .u64 0, .slice none 0 0, .int .u64 0, .bool false, .slice none 0 0] 51)
  have HEV := hx0.ev.below hbx
  have p0 := (hbx.cell (p := ⟨w.heap.size, 0, none⟩) (lt_of_cell p0)).trans p0
  have p1 := (hbx.cell (p := ⟨w.heap.size, 1, none⟩) (lt_of_cell p1)).trans p1
  have p2 := (hbx.cell (p := ⟨w.heap.size, 2, none⟩) (lt_of_cell p2)).trans p2
  have hnew := Go.Deep.blk_alloc_new WW (.cells #[.int .i64 p.K, .int .i64 p.A, .int .i64 p.N, .int .i64 0, .int .i64 0, .int .i64 0, .int .u64 0, .int .u64 0, .slice none 0 0, .int .u64 0, .bool false, .slice none 0 0] 51)
  rw [hsz0] at hnew
  have HEB2 : Hid (EvAt (w.heap.size + 1 + 1) (WW.alloc (.cells #[.int .i64 p.K, .int .i64 p.A, .int .i64 p.N, .int .i64 0, .int .i64 0, .int .i64 0, .int .u64 0, .int .u64 0, .slice none 0 0, .int .u64 0, .bool false, .slice none 0 0] 51)) p Ac.zero An.zero (.slice none 0 0) (.slice none 0 0)) := Lib.hid ⟨hnew⟩
  clear hnew
  generalize WW.alloc (.cells #[.int .i64 p.K, .int .i64 p.A, .int .i64 p.N, .int .i64 0, .int .i64 0, .int .i64 0, .int .u64 0, .int .u64 0, .slice none 0 0, .int .u64 0, .bool false, .slice none 0 0] 51) = W2 at hbx hb2 HEV p0 p1 p2 HEB2 ⊢
  have HB2 := Lib.hid hb2
  have HPW := Lib.hid (HS.out.below hb2)
  have r0 := HEV.e0
  have f0 := HEV.free 0
  have r1 := HEV.e1
  have f1 := HEV.free 1
  have r2 := HEV.e2
  have f2 := HEV.free 2
  have r3 := HEV.e3
  have f3 := HEV.free 3
  have r4 := HEV.e4
  have f4 := HEV.free 4
  have r5 := HEV.e5
  have f5 := HEV.free 5
  have r6 := HEV.e6
  have f6 := HEV.free 6
  have r7 := HEV.e7
  have f7 := HEV.free 7
  have r8 := HEV.e8
  have f8 := HEV.free 8
  have r9 := HEV.e9
  have f9 := HEV.free 9
  have r10 := HEV.e10
  have f10 := HEV.free 10
  have r11 := HEV.e11
  have f11 := HEV.free 11
  have HEV2 := Lib.hid HEV
  clear HEV hbx hb2 hb0 hx0 hsz0
  have g0 : W2.cell? ⟨gp, 2, none⟩ = some (.int .i64 st.clock) := by simp [World.cell?, HPW.out.head]
  have z0 : W2.frozen? ⟨gp, 2, none⟩ = false := by simp [World.frozen?, HPW.out.head]
  have hgn : ¬ gp = w.heap.size := by omega
  have hgn2 : ¬ w.heap.size = gp := fun e => hgn e.symm
  rw [HK.out] at p0
  go_upto_region 7 with (fail)
  go_region
  go_upto_region 25 with (fail)
  have HS5 := Lib.hid ((HPW.out.setClock (wrap64 (st.clock + p.N))).below (Below.refl _ _).drew)
  have HT5 : Hid (Touch (Mut o) w ((W2.setCell ⟨gp, 2, none⟩ (.int .i64 (wrap64 (st.clock + p.N)))).drew)) := Lib.hid (((Touch.of_below HB2.out).setCell (p := ⟨gp, 2, none⟩) (show Mut o gp by unfold Mut; rw [HS.out.pgp]; simp) _).trans (Touch.of_below (Below.refl _ _).drew))
  have HEB5 : Hid (EvAt (w.heap.size + 1 + 1) ((W2.setCell ⟨gp, 2, none⟩ (.int .i64 (wrap64 (st.clock + p.N)))).drew) p Ac.zero An.zero (.slice none 0 0) (.slice none 0 0)) := Lib.hid (HEB2.out.of_block (Below.heap_setCell _ ⟨gp, 2, none⟩ _ _ (by show w.heap.size + 1 + 1 ≠ gp; omega)))
  have HEV5 : Hid (EvNew (w.heap.size + 1) ((W2.setCell ⟨gp, 2, none⟩ (.int .i64 (wrap64 (st.clock + p.N)))).drew)) := Lib.hid (HEV2.out.of_block (Below.heap_setCell _ ⟨gp, 2, none⟩ _ _ (by show w.heap.size + 1 ≠ gp; omega)))
  clear g0 z0 p0 p1 p2 r0 r1 r2 r3 r4 r5 r6 r7 r8 r9 r10 r11 f0 f1 f2 f3 f4 f5 f6 f7 f8 f9 f10 f11
  generalize (W2.setCell ⟨gp, 2, none⟩ (.int .i64 (wrap64 (st.clock + p.N)))).drew = W5 at HS5 HT5 HEB5 HEV5 ⊢
  have HE5 : Hid (EvAt (w.heap.size + 1 + 1) W5 p Ac.zero An.zero (.slice none 0 0) (.slice none 0 0)) := HEB5
  have HV5 : Hid (EvNew (w.heap.size + 1) W5) := HEV5
  have hlr := HV5.out.lt
  have hls5 := HE5.out.lt
  have hgp5 : gp < W5.heap.size := by omega
  have hneb : gp ≠ w.heap.size + 1 + 1 := by omega
  have hwz : w.heap.size + 1 + 1 = w.heap.size + 2 := rfl
  obtain ⟨eB, hEB⟩ : ∃ b, b = w.heap.size + 1 + 1 := ⟨_, rfl⟩
  rw [← hEB] at HE5 hls5 hneb ⊢
  have HEB := Lib.hid hEB
  have heb : w.heap.size < eB := by omega
  clear hEB hwz
  have w35 : W5.cell? ⟨gp, 3, none⟩ = some tv := by simp [World.cell?, HS5.out.head]
  have hz3 : W5.frozen? ⟨gp, 3, none⟩ = false := by simp [World.frozen?, HS5.out.head]
  have nng : tv.ownBlock ≠ some gp := fun e => by have := (HS5.out.town gp e).symm.trans HS5.out.pgp; cases this
  have nn5 : tv.ownBlock ≠ some eB := fun e => by have := HS.out.plt eB (by rw [HS5.out.town eB e]; simp); omega
  have hgw5 := hgp5
  have hn2 : ¬ gp = eB := hneb
  have hn3 : ¬ eB = gp := fun e => hn2 e.symm
  have v0 : W5.cell? ⟨eB, 0, none⟩ = some (.int .i64 p.K) := HE5.out.e0
  have v1 : W5.cell? ⟨eB, 1, none⟩ = some (.int .i64 p.A) := HE5.out.e1
  have v2 : W5.cell? ⟨eB, 2, none⟩ = some (.int .i64 p.N) := HE5.out.e2
  have v3 : W5.cell? ⟨eB, 3, none⟩ = some (.int .i64 0) := HE5.out.e3
  have v4 : W5.cell? ⟨eB, 4, none⟩ = some (.int .i64 0) := HE5.out.e4
  have v5 : W5.cell? ⟨eB, 5, none⟩ = some (.int .i64 0) := HE5.out.e5
  have v6 : W5.cell? ⟨eB, 6, none⟩ = some (.int .u64 0) := HE5.out.e6
  have v7 : W5.cell? ⟨eB, 7, none⟩ = some (.int .u64 0) := HE5.out.e7
  have v8 : W5.cell? ⟨eB, 8, none⟩ = some (.slice none 0 0) := HE5.out.e8
  have v9 : W5.cell? ⟨eB, 9, none⟩ = some (.int .u64 0) := HE5.out.e9
  have v10 : W5.cell? ⟨eB, 10, none⟩ = some (.bool false) := HE5.out.e10
  have v11 : W5.cell? ⟨eB, 11, none⟩ = some (.slice none 0 0) := HE5.out.e11
  go_cut [] (fun wx => ∃ (o2 : Nat → Pt) (tv2 : Value) (ts2 : List Tx), PW wx o2 gp q jb JA c5 js pj tv2 ts2 (({ st with clock := wrap64 (st.clock + p.N) } : St).push (.bare p)) ∧ Touch (Mut o) W5 wx ∧ ∀ k, k < W5.heap.size → o2 k = o k)
  case first =>
    refine wp_region_noPanic ?_
    refine wp_region_held_drew (S := fun w' => w'.cell? ⟨eB, 0, none⟩ = some (.int .i64 p.K) ∧ w'.cell? ⟨eB, 1, none⟩ = some (.int .i64 p.A) ∧ w'.cell? ⟨eB, 2, none⟩ = some (.int .i64 p.N) ∧ w'.cell? ⟨eB, 3, none⟩ = some (.int .i64 0) ∧ w'.cell? ⟨eB, 4, none⟩ = some (.int .i64 0) ∧ w'.cell? ⟨eB, 5, none⟩ = some (.int .i64 0) ∧ w'.cell? ⟨eB, 6, none⟩ = some (.int .u64 0) ∧ w'.cell? ⟨eB, 7, none⟩ = some (.int .u64 0) ∧ w'.cell? ⟨eB, 8, none⟩ = some (.slice none 0 0) ∧ w'.cell? ⟨eB, 9, none⟩ = some (.int .u64 0) ∧ w'.cell? ⟨eB, 10, none⟩ = some (.bool false) ∧ w'.cell? ⟨eB, 11, none⟩ = some (.slice none 0 0)) (by kernel_rfl) ?_ (fun hHeld => ?_)
    · (try dsimp only); go_keep
    refine wpAnyH_take (i := 0) (oi := _) (v := ?_) rfl (by kernel_rfl) (by kernel_rfl) (by kernel_rfl) (fun _ _ _ h => h) (Or.inl ⟨by rfl, ?_⟩) (by assumption) ?_
    rotate_left
    · (intro w hSw; (try dsimp only at hSw); go_simp; try (with_reducible rfl))
    try simp only [Act.put, Array.reduceGetElem, List.setIfInBounds_toArray, List.set_cons_zero, List.set_cons_succ]
    refine wpAnyH_take (i := 1) (oi := _) (v := ?_) rfl (by kernel_rfl) (by kernel_rfl) (by kernel_rfl) (fun _ _ _ h => h) (Or.inl ⟨by rfl, ?_⟩) (by assumption) ?_
    rotate_left
    · (intro w hSw; (try dsimp only at hSw); go_simp; try (with_reducible rfl))
    try simp only [Act.put, Array.reduceGetElem, List.setIfInBounds_toArray, List.set_cons_zero, List.set_cons_succ]
    refine wpAnyH_take (i := 2) (oi := _) (v := ?_) rfl (by kernel_rfl) (by kernel_rfl) (by kernel_rfl) (fun _ _ _ h => h) (Or.inl ⟨by rfl, ?_⟩) (by assumption) ?_
    rotate_left
    · (intro w hSw; (try dsimp only at hSw); go_simp; try (with_reducible rfl))
    try simp only [Act.put, Array.reduceGetElem, List.setIfInBounds_toArray, List.set_cons_zero, List.set_cons_succ]
    refine wpAnyH_take (i := 3) (oi := _) (v := ?_) rfl (by kernel_rfl) (by kernel_rfl) (by kernel_rfl) (fun _ _ _ h => h) (Or.inl ⟨by rfl, ?_⟩) (by assumption) ?_
    rotate_left
    · (intro w hSw; (try dsimp only at hSw); go_simp; try (with_reducible rfl))
    try simp only [Act.put, Array.reduceGetElem, List.setIfInBounds_toArray, List.set_cons_zero, List.set_cons_succ]
    refine wpAnyH_take (i := 5) (oi := _) (v := ?_) rfl (by kernel_rfl) (by kernel_rfl) (by kernel_rfl) (fun _ _ _ h => h) (Or.inl ⟨by rfl, ?_⟩) (by assumption) ?_
    rotate_left
    · (intro w hSw; (try dsimp only at hSw); go_simp; try (with_reducible rfl))
    try simp only [Act.put, Array.reduceGetElem, List.setIfInBounds_toArray, List.set_cons_zero, List.set_cons_succ]
    refine wpAnyH_ready (rs := [4, 6]) (by kernel_rfl) (by simp) ?_
    refine AllReadyH.cons (o := _) rfl (fun K9 hK => ?_) ?_
    rotate_left
    · refine AllReadyH.cons (o := _) rfl (fun K9 hK => ?_) ?_
      rotate_left
      · exact AllReadyH.nil
      go_simp
      refine hK.out _ _ ?_ (fun hHeld => ?_)
      · (try dsimp only); go_keep
      clear hK K9
      try simp only [Act.put, Array.reduceGetElem, List.setIfInBounds_toArray, List.set_cons_zero, List.set_cons_succ]
      refine wpAnyH_ready (rs := [4]) (by kernel_rfl) (by simp) ?_
      refine AllReadyH.cons (o := _) rfl (fun K9 hK => ?_) ?_
      rotate_left
      · exact AllReadyH.nil
      go_simp
      refine hK.out _ _ ?_ (fun hHeld => ?_)
      · (try dsimp only); go_keep
      clear hK K9
      try simp only [Act.put, Array.reduceGetElem, List.setIfInBounds_toArray, List.set_cons_zero, List.set_cons_succ]
      refine wpAnyH_ready (rs := [7]) (by kernel_rfl) (by simp) ?_
      refine AllReadyH.cons (o := _) rfl (fun K9 hK => ?_) ?_
      rotate_left
      · exact AllReadyH.nil
      refine step_app_ev rfl _ _ rfl tv ts.length _ ⟨.bare p, .slice none 0 0, .slice none 0 0⟩ _ _ rfl rfl (HS5.out.below ((Below.refl _ W5).drew.alloc (Nat.le_refl _) _)).trow (Go.Deep.blk_alloc_new _ _) rfl rfl HL.out ?_
      intro v7 w7 happ
      obtain ⟨g7, q7, rfl⟩ := happ.form
      have kf7 := fun (q : Addr) (hq : q.block < W5.heap.size) (hnq : tv.ownBlock ≠ some q.block) => app_cell ((Below.refl _ W5).drew.alloc (Nat.le_refl _) _) happ hq hnq
      have kg7 := (kf7 ⟨gp, 3, none⟩ hgw5 nng).trans w35
      have kw0 := (kf7 ⟨eB, 0, none⟩ hls5 nn5).trans v0
      have kw1 := (kf7 ⟨eB, 1, none⟩ hls5 nn5).trans v1
      have kw2 := (kf7 ⟨eB, 2, none⟩ hls5 nn5).trans v2
      have kw3 := (kf7 ⟨eB, 3, none⟩ hls5 nn5).trans v3
      have kw4 := (kf7 ⟨eB, 4, none⟩ hls5 nn5).trans v4
      have kw5 := (kf7 ⟨eB, 5, none⟩ hls5 nn5).trans v5
      have kw6 := (kf7 ⟨eB, 6, none⟩ hls5 nn5).trans v6
      have kw7 := (kf7 ⟨eB, 7, none⟩ hls5 nn5).trans v7
      have kw8 := (kf7 ⟨eB, 8, none⟩ hls5 nn5).trans v8
      have kw9 := (kf7 ⟨eB, 9, none⟩ hls5 nn5).trans v9
      have kw10 := (kf7 ⟨eB, 10, none⟩ hls5 nn5).trans v10
      have kw11 := (kf7 ⟨eB, 11, none⟩ hls5 nn5).trans v11
      have kz7 := (app_frozen ((Below.refl _ W5).drew.alloc (Nat.le_refl _) _) happ (q := ⟨gp, 3, none⟩) hgw5 nng).trans hz3
      clear kf7
      have HAP := Lib.hid happ
      clear happ
      try go_simp
      refine hK.out _ _ ?_ (fun hHeld => ?_)
      · (try dsimp only); go_keep
      clear hK K9
      try simp only [Act.put, Array.reduceGetElem, List.setIfInBounds_toArray, List.set_cons_zero, List.set_cons_succ]
      refine wpAnyH_take (i := 8) (oi := _) (v := ?_) rfl (by kernel_rfl) (by kernel_rfl) (by kernel_rfl) (fun _ _ _ h => h) (Or.inl ⟨by rfl, ?_⟩) (by assumption) ?_
      rotate_left
      · (intro w hSw; (try dsimp only at hSw); go_simp; try (with_reducible rfl))
      try simp only [Act.put, Array.reduceGetElem, List.setIfInBounds_toArray, List.set_cons_zero, List.set_cons_succ]
      refine wpAnyH_take (i := 9) (oi := _) (v := ?_) rfl (by kernel_rfl) (by kernel_rfl) (by kernel_rfl) (fun _ _ _ h => h) (Or.inl ⟨by rfl, ?_⟩) (by assumption) ?_
      rotate_left
      · (intro w hSw; (try dsimp only at hSw); go_simp; try (with_reducible rfl))
      try simp only [Act.put, Array.reduceGetElem, List.setIfInBounds_toArray, List.set_cons_zero, List.set_cons_succ]
      refine wpAnyH_ready (rs := [10]) (by kernel_rfl) (by simp) ?_
      refine AllReadyH.cons (o := _) rfl (fun K9 hK => ?_) ?_
      rotate_left
      · exact AllReadyH.nil
      go_simp
      refine hK.out _ _ ?_ (fun hHeld => ?_)
      · (try dsimp only); go_keep
      clear hK K9
      try simp only [Act.put, Array.reduceGetElem, List.setIfInBounds_toArray, List.set_cons_zero, List.set_cons_succ]
      refine wpAnyH_done (by kernel_rfl) ?_ _
      refine NoPanic.normal ?_
      go_wp2_with fail
      go_meet
      obtain ⟨o9, z1, z2, z3⟩ := HS5.out.push ((Below.refl _ W5).drew.alloc (Nat.le_refl _) _) ⟨.bare p, .slice none 0 0, .slice none 0 0⟩ (BytesIn.none _ _) (BytesIn.none _ _) HAP.out
      exact ⟨o9, _, _, z1, z2, z3⟩
    go_simp
    refine hK.out _ _ ?_ (fun hHeld => ?_)
    · (try dsimp only); go_keep
    clear hK K9
    try simp only [Act.put, Array.reduceGetElem, List.setIfInBounds_toArray, List.set_cons_zero, List.set_cons_succ]
    refine wpAnyH_ready (rs := [6]) (by kernel_rfl) (by simp) ?_
    refine AllReadyH.cons (o := _) rfl (fun K9 hK => ?_) ?_
    rotate_left
    · exact AllReadyH.nil
    go_simp
    refine hK.out _ _ ?_ (fun hHeld => ?_)
    · (try dsimp only); go_keep
    clear hK K9
    try simp only [Act.put, Array.reduceGetElem, List.setIfInBounds_toArray, List.set_cons_zero, List.set_cons_succ]
    refine wpAnyH_ready (rs := [7]) (by kernel_rfl) (by simp) ?_
    refine AllReadyH.cons (o := _) rfl (fun K9 hK => ?_) ?_
    rotate_left
    · exact AllReadyH.nil
    refine step_app_ev rfl _ _ rfl tv ts.length _ ⟨.bare p, .slice none 0 0, .slice none 0 0⟩ _ _ rfl rfl (HS5.out.below ((Below.refl _ W5).drew.alloc (Nat.le_refl _) _)).trow (Go.Deep.blk_alloc_new _ _) rfl rfl HL.out ?_
    intro v7 w7 happ
    obtain ⟨g7, q7, rfl⟩ := happ.form
    have kf7 := fun (q : Addr) (hq : q.block < W5.heap.size) (hnq : tv.ownBlock ≠ some q.block) => app_cell ((Below.refl _ W5).drew.alloc (Nat.le_refl _) _) happ hq hnq
    have kg7 := (kf7 ⟨gp, 3, none⟩ hgw5 nng).trans w35
    have kw0 := (kf7 ⟨eB, 0, none⟩ hls5 nn5).trans v0
    have kw1 := (kf7 ⟨eB, 1, none⟩ hls5 nn5).trans v1
    have kw2 := (kf7 ⟨eB, 2, none⟩ hls5 nn5).trans v2
    have kw3 := (kf7 ⟨eB, 3, none⟩ hls5 nn5).trans v3
    have kw4 := (kf7 ⟨eB, 4, none⟩ hls5 nn5).trans v4
    have kw5 := (kf7 ⟨eB, 5, none⟩ hls5 nn5).trans v5
    have kw6 := (kf7 ⟨eB, 6, none⟩ hls5 nn5).trans v6
    have kw7 := (kf7 ⟨eB, 7, none⟩ hls5 nn5).trans v7
    have kw8 := (kf7 ⟨eB, 8, none⟩ hls5 nn5).trans v8
    have kw9 := (kf7 ⟨eB, 9, none⟩ hls5 nn5).trans v9
    have kw10 := (kf7 ⟨eB, 10, none⟩ hls5 nn5).trans v10
    have kw11 := (kf7 ⟨eB, 11, none⟩ hls5 nn5).trans v11
    have kz7 := (app_frozen ((Below.refl _ W5).drew.alloc (Nat.le_refl _) _) happ (q := ⟨gp, 3, none⟩) hgw5 nng).trans hz3
    clear kf7
    have HAP := Lib.hid happ
    clear happ
    try go_simp
    refine hK.out _ _ ?_ (fun hHeld => ?_)
    · (try dsimp only); go_keep
    clear hK K9
    try simp only [Act.put, Array.reduceGetElem, List.setIfInBounds_toArray, List.set_cons_zero, List.set_cons_succ]
    refine wpAnyH_take (i := 8) (oi := _) (v := ?_) rfl (by kernel_rfl) (by kernel_rfl) (by kernel_rfl) (fun _ _ _ h => h) (Or.inl ⟨by rfl, ?_⟩) (by assumption) ?_
    rotate_left
    · (intro w hSw; (try dsimp only at hSw); go_simp; try (with_reducible rfl))
    try simp only [Act.put, Array.reduceGetElem, List.setIfInBounds_toArray, List.set_cons_zero, List.set_cons_succ]
    refine wpAnyH_take (i := 9) (oi := _) (v := ?_) rfl (by kernel_rfl) (by kernel_rfl) (by kernel_rfl) (fun _ _ _ h => h) (Or.inl ⟨by rfl, ?_⟩) (by assumption) ?_
    rotate_left
    · (intro w hSw; (try dsimp only at hSw); go_simp; try (with_reducible rfl))
    try simp only [Act.put, Array.reduceGetElem, List.setIfInBounds_toArray, List.set_cons_zero, List.set_cons_succ]
    refine wpAnyH_ready (rs := [10]) (by kernel_rfl) (by simp) ?_
    refine AllReadyH.cons (o := _) rfl (fun K9 hK => ?_) ?_
    rotate_left
    · exact AllReadyH.nil
    go_simp
    refine hK.out _ _ ?_ (fun hHeld => ?_)
    · (try dsimp only); go_keep
    clear hK K9
    try simp only [Act.put, Array.reduceGetElem, List.setIfInBounds_toArray, List.set_cons_zero, List.set_cons_succ]
    refine wpAnyH_done (by kernel_rfl) ?_ _
    refine NoPanic.normal ?_
    go_wp2_with fail
    go_meet
    obtain ⟨o9, z1, z2, z3⟩ := HS5.out.push ((Below.refl _ W5).drew.alloc (Nat.le_refl _) _) ⟨.bare p, .slice none 0 0, .slice none 0 0⟩ (BytesIn.none _ _) (BytesIn.none _ _) HAP.out
    exact ⟨o9, _, _, z1, z2, z3⟩
  case rest =>
    obtain ⟨o2, tv2, ts2, hs2, ht2, ho2⟩ := hcut
    have hnm : ∀ k, w.heap.size ≤ k → ¬ Mut o k := fun k hk e => e.1 (HS.out.new_no hk)
    have hE := HE5.out.of_block (ht2.block _ hls5 (hnm _ (by omega)))
    have hV := HV5.out.of_block (ht2.block _ hlr (hnm _ (by omega)))
    have HS7 := Lib.hid hs2
    have HT7 := Lib.hid (And.intro ht2 ho2)
    have e0 : wc.cell? ⟨eB, 0, none⟩ = some (.int .i64 p.K) := hE.e0
    have e1 : wc.cell? ⟨eB, 1, none⟩ = some (.int .i64 p.A) := hE.e1
    have e2 : wc.cell? ⟨eB, 2, none⟩ = some (.int .i64 p.N) := hE.e2
    have e3 : wc.cell? ⟨eB, 3, none⟩ = some (.int .i64 0) := hE.e3
    have e4 : wc.cell? ⟨eB, 4, none⟩ = some (.int .i64 0) := hE.e4
    have e5 : wc.cell? ⟨eB, 5, none⟩ = some (.int .i64 0) := hE.e5
    have e6 : wc.cell? ⟨eB, 6, none⟩ = some (.int .u64 0) := hE.e6
    have e7 : wc.cell? ⟨eB, 7, none⟩ = some (.int .u64 0) := hE.e7
    have e8 : wc.cell? ⟨eB, 8, none⟩ = some (.slice none 0 0) := hE.e8
    have e9 : wc.cell? ⟨eB, 9, none⟩ = some (.int .u64 0) := hE.e9
    have e10 : wc.cell? ⟨eB, 10, none⟩ = some (.bool false) := hE.e10
    have e11 : wc.cell? ⟨eB, 11, none⟩ = some (.slice none 0 0) := hE.e11
    have r0 : wc.cell? ⟨w.heap.size + 1, 0, none⟩ = some (.int .i64 0) := hV.e0
    have f0 := hV.free 0
    have r1 : wc.cell? ⟨w.heap.size + 1, 1, none⟩ = some (.int .i64 0) := hV.e1
    have f1 := hV.free 1
    have r2 : wc.cell? ⟨w.heap.size + 1, 2, none⟩ = some (.int .i64 0) := hV.e2
    have f2 := hV.free 2
    have r3 : wc.cell? ⟨w.heap.size + 1, 3, none⟩ = some (.int .i64 0) := hV.e3
    have f3 := hV.free 3
    have r4 : wc.cell? ⟨w.heap.size + 1, 4, none⟩ = some (.int .i64 0) := hV.e4
    have f4 := hV.free 4
    have r5 : wc.cell? ⟨w.heap.size + 1, 5, none⟩ = some (.int .i64 0) := hV.e5
    have f5 := hV.free 5
    have r6 : wc.cell? ⟨w.heap.size + 1, 6, none⟩ = some (.int .u64 0) := hV.e6
    have f6 := hV.free 6
    have r7 : wc.cell? ⟨w.heap.size + 1, 7, none⟩ = some (.int .u64 0) := hV.e7
    have f7 := hV.free 7
    have r8 : wc.cell? ⟨w.heap.size + 1, 8, none⟩ = some (.slice none 0 0) := hV.e8
    have f8 := hV.free 8
    have r9 : wc.cell? ⟨w.heap.size + 1, 9, none⟩ = some (.int .u64 0) := hV.e9
    have f9 := hV.free 9
    have r10 : wc.cell? ⟨w.heap.size + 1, 10, none⟩ = some (.bool false) := hV.e10
    have f10 := hV.free 10
    have r11 : wc.cell? ⟨w.heap.size + 1, 11, none⟩ = some (.slice none 0 0) := hV.e11
    have f11 := hV.free 11
    have hlc := ht2.size
    clear hE hV hs2 ht2 ho2 v0 v1 v2 v3 v4 v5 v6 v7 v8 v9 v10 v11 w35 hz3
    go_wp2
    refine bodyPost_ret (v := .tuple #[.agg #[.int .i64 p.K, .int .i64 p.A, .int .i64 p.N, .int .i64 0, .int .i64 0, .int .i64 0, .int .u64 0, .int .u64 0, .slice none 0 0, .int .u64 0, .bool false, .slice none 0 0], .int .i64 0]) (by simp [results, Try.results12, go_sem, r0, r1, r2, r3, r4, r5, r6, r7, r8, r9, r10, r11]) rfl ?_
    have ht12 := twelve_touch wc (w.heap.size + 1) (.int .i64 p.K) (.int .i64 p.A) (.int .i64 p.N) (.int .i64 0) (.int .i64 0) (.int .i64 0) (.int .u64 0) (.int .u64 0) (.slice none 0 0) (.int .u64 0) (.bool false) (.slice none 0 0)
    refine ⟨o2, none, 0, 0, none, 0, 0, pj, tv2, ts2, rfl, BytesAt.nil _, BytesAt.nil _, HS7.out.touch ht12 fun k hk e => ?_, (HT5.out.trans HT7.out.1).trans' ht12 (Nat.le_succ _), fun k hk => HT7.out.2 k (by omega)⟩
    have e' : k = w.heap.size + 1 := e
    exact hk ((HT7.out.2 k (by omega)).trans (HS.out.new_no (by omega)))
end Go.Proofs.Ytegjnejekakeiaa
