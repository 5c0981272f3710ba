/-
  The calls whose answers layer 5's document fixes, walked.
-/
import Derived.Test.YtplomefkmgkdjaaCopySteps
import Derived.Test.YtplomefkmgkdjaaCopyTook
import Derived.Test.YtplomefkmgkdjaaCopyMake
import Derived.Test.YtplomefkmgkdjaaCopyBytes
import Derived.Lib.SlBytesConst
namespace Go.Proofs.Ytplomefkmgkdjaa
open Go.RowKit

/-- The bytes of "123456789". -/
def digits (i : Nat) : Nat := 49 + i

/-- Six cells of an access, in block b. -/
structure AcAt (b : Nat) (W : World) (K P N V U : Int) (s : Value) : Prop where
  c0 : W.cell? ⟨b, 0, none⟩ = some (.int .i64 K)
  c1 : W.cell? ⟨b, 1, none⟩ = some (.int .i64 P)
  c2 : W.cell? ⟨b, 2, none⟩ = some (.int .i64 N)
  c3 : W.cell? ⟨b, 3, none⟩ = some (.int .u64 V)
  c4 : W.cell? ⟨b, 4, none⟩ = some (.int .u64 U)
  c5 : W.cell? ⟨b, 5, none⟩ = some s
namespace AcAt
variable {b : Nat} {W W' : World} {K P N V U : Int} {s : Value}
theorem lt (h : AcAt b W K P N V U s) : b < W.heap.size := lt_of_cell h.c0
theorem of_block (h : AcAt b W K P N V U s) (hb : W'.heap[b]? = W.heap[b]?) : AcAt b W' K P N V U s := by
  have hc := fun i => World.cell?_of_block (w := W) (w' := W') (a := ⟨b, i, none⟩) hb
  exact ⟨(hc 0).trans h.c0, (hc 1).trans h.c1, (hc 2).trans h.c2, (hc 3).trans h.c3, (hc 4).trans h.c4, (hc 5).trans h.c5⟩
theorem below (h : AcAt b W K P N V U s) (hb : Below W.heap.size W W') : AcAt b W' K P N V U s := h.of_block (hb.block b h.lt)
theorem touch {S : Nat → Prop} (h : AcAt b W K P N V U s) (ht : Touch S W W') (hn : ¬ S b) : AcAt b W' K P N V U s := h.of_block (ht.block b h.lt hn)
theorem made (w : World) (K P N V U : Int) (s : Value) : AcAt w.heap.size (w.alloc (.cells #[.int .i64 K, .int .i64 P, .int .i64 N, .int .u64 V, .int .u64 U, s] 30)) K P N V U s := by
  refine ⟨?_, ?_, ?_, ?_, ?_, ?_⟩
  all_goals go_simp
end AcAt

theorem digits_isB9 : Mb.bl digits 0 9 = [49, 50, 51, 52, 53, 54, 55, 56, 57] := by decide
theorem digits_0 : Mb.bl digits 0 8 = [49, 50, 51, 52, 53, 54, 55, 56] := by decide
theorem digits_8 : Mb.bl digits 8 1 = [57] := by decide

theorem nine_made (w : World) : BytesAt (w.alloc (.cells #[.int .u8 49, .int .u8 50, .int .u8 51, .int .u8 52, .int .u8 53, .int .u8 54, .int .u8 55, .int .u8 56, .int .u8 57] 5 (9, 10))) (.slice (some ⟨w.heap.size, 0, none⟩) 9 9) (Mb.bl digits 0 9) := by
  rw [digits_isB9]
  refine ⟨_, _, rfl, fun _ => ⟨w.heap.size, 0, rfl, by simp, fun i hi => ?_⟩⟩
  simp only [List.length_cons, List.length_nil] at hi
  rw [Nat.zero_add, World.cell?_alloc_mark]
  match i, hi with
  | 0, _ | 1, _ | 2, _ | 3, _ | 4, _ | 5, _ | 6, _ | 7, _ | 8, _ => rfl

/-- What is left of the machine behind a part of nine bytes. -/
theorem nx_9 : Cy.nx 9 = 8 := rfl
theorem nx_1 : Cy.nx 1 = 1 := rfl

set_option maxRecDepth 100000 in
set_option maxHeartbeats 1000000 in
theorem copiesFixed_any (w : World) : Calls Try.prog 6 #[] w (TrueBelow w) := by
  have HW := (Below.refl w.heap.size w).alloc (Nat.le_refl _) (.cells #[.int .u8 49, .int .u8 50, .int .u8 51, .int .u8 52, .int .u8 53, .int .u8 54, .int .u8 55, .int .u8 56, .int .u8 57] 5 (9, 10))
  have HB := Lib.hid (nine_made w)
  have hconv : (convert 22 22 (.slice (some ⟨w.heap.size, 0, none⟩) 9 9)).run Try.prog (w.alloc (.cells #[.int .u8 49, .int .u8 50, .int .u8 51, .int .u8 52, .int .u8 53, .int .u8 54, .int .u8 55, .int .u8 56, .int .u8 57] 5)) = .ok (.slice (some ⟨w.heap.size, 0, none⟩) 9 9) (w.alloc (.cells #[.int .u8 49, .int .u8 50, .int .u8 51, .int .u8 52, .int .u8 53, .int .u8 54, .int .u8 55, .int .u8 56, .int .u8 57] 5 (9, 10))) := Lib.run_convert_bytes_const w 22 5 _ 9 9 Try.underlying22 Try.underlying5
  go_enter Try.func6, Try.ntmps6
  go_wp2_with fail
  generalize w.alloc (.cells #[.int .u8 49, .int .u8 50, .int .u8 51, .int .u8 52, .int .u8 53, .int .u8 54, .int .u8 55, .int .u8 56, .int .u8 57] 5 (9, 10)) = W at HW HB ⊢
  refine (in_any 0 _ 9 9 digits W (by omega) HB.out (by omega)).mono ?_
  rintro e w1 ⟨g, rfl, hc1, hb1⟩
  have HW1 := HW.trans (hb1.mono HW.size)
  have HC1 := Lib.hid hc1
  have hzW := HW.size
  clear HW hc1 hb1 HB
  go_wp2_with fail
  refine (next_as HC1.out (by omega) (K := 6) (P := 0) (N := 8) (b := [49, 50, 51, 52, 53, 54, 55, 56]) rfl rfl rfl digits_0).mono ?_
  rintro e w2 ⟨A2, l2, c2, rfl, ho2, hb2⟩
  have HC2 := Lib.hid ((HC1.out.below hb2).alloc (.cells #[.int .i64 6, .int .i64 0, .int .i64 8, .int .u64 0, .int .u64 0, .slice A2 l2 c2] 30))
  have HW2 := Lib.hid ((HW1.trans (hb2.mono HW1.size)).alloc (by have := HW1.size; have := hb2.size; omega) (.cells #[.int .i64 6, .int .i64 0, .int .i64 8, .int .u64 0, .int .u64 0, .slice A2 l2 c2] 30))
  have HA2 := Lib.hid (AcAt.made w2 6 0 8 0 0 (.slice A2 l2 c2))
  have HO2 := Lib.hid (Owns.alloc ho2 (.cells #[.int .i64 6, .int .i64 0, .int .i64 8, .int .u64 0, .int .u64 0, .slice A2 l2 c2] 30))
  have hz2 := hb2.size
  clear ho2 hb2
  go_wp2_with fail
  generalize hx2 : w2.heap.size = x2 at HA2 hz2 ⊢
  clear hx2
  generalize w2.alloc (.cells #[.int .i64 6, .int .i64 0, .int .i64 8, .int .u64 0, .int .u64 0, .slice A2 l2 c2] 30) = W2 at HC2 HW2 HA2 HO2 ⊢
  refine (take_any HC2.out (by omega) 0 false none 0 0 (BytesAt.nil W2) (by simp)).mono ?_
  rintro e w3 ⟨v3, rfl, hc3, ht3, hlie3⟩
  have HL3 := Lib.hid hlie3
  clear hlie3
  have hmine : ∀ k, w1.heap.size ≤ k → ¬ Mine g (.slice none 0 0) k := fun k hk hm => by
    rcases hm with hm | hm
    · have := HC1.out.lt; omega
    · cases hm
  have HC3 := Lib.hid hc3
  have hs23 := ht3.size
  have hxW2 := HA2.out.lt
  have HA3 := Lib.hid (HA2.out.touch ht3 (hmine _ hz2))
  have HO3 := Lib.hid (HO2.out.keepTouch ht3 fun k hk => hmine k (HO2.out.ge hk).1)
  have HW3 := Lib.hid (Touch.below HW2.out ht3 HW2.out.size fun k hk => by rcases hk with hk | hk; (have := HC1.out.above; omega); cases hk)
  clear hc3 ht3
  go_wp2_with fail
  have hz3 := HW3.out.size
  refine (next_as HC3.out (by decide) (K := 6) (P := 8) (N := 1) (b := [57]) rfl rfl rfl digits_8).mono ?_
  rintro e w4 ⟨A4, l4, c4, rfl, ho4, hb4⟩
  have HC4 := Lib.hid ((HC3.out.below hb4).alloc (.cells #[.int .i64 6, .int .i64 8, .int .i64 1, .int .u64 0, .int .u64 0, .slice A4 l4 c4] 30))
  have HW4 := Lib.hid ((HW3.out.trans (hb4.mono HW3.out.size)).alloc (by have := hb4.size; omega) (.cells #[.int .i64 6, .int .i64 8, .int .i64 1, .int .u64 0, .int .u64 0, .slice A4 l4 c4] 30))
  have HA4 := Lib.hid ((HA3.out.below hb4).below ((Below.refl _ _).alloc (Nat.le_refl _) (.cells #[.int .i64 6, .int .i64 8, .int .i64 1, .int .u64 0, .int .u64 0, .slice A4 l4 c4] 30)))
  have HB4 := Lib.hid (AcAt.made w4 6 8 1 0 0 (.slice A4 l4 c4))
  have HO4 := Lib.hid (Owns.alloc (HO3.out.below hb4) (.cells #[.int .i64 6, .int .i64 8, .int .i64 1, .int .u64 0, .int .u64 0, .slice A4 l4 c4] 30))
  have HP4 := Lib.hid (Owns.alloc ho4 (.cells #[.int .i64 6, .int .i64 8, .int .i64 1, .int .u64 0, .int .u64 0, .slice A4 l4 c4] 30))
  have hz4 := hb4.size
  have hl3 := HC3.out.lt
  have hown3 := Lib.hid (fun k hk => HC3.out.own.ge (k := k) hk)
  clear ho4 hb4
  go_wp2_with fail
  generalize hx4 : w4.heap.size = x4 at HB4 hz4 ⊢
  clear hx4
  generalize w4.alloc (.cells #[.int .i64 6, .int .i64 8, .int .i64 1, .int .u64 0, .int .u64 0, .slice A4 l4 c4] 30) = W4 at HC4 HW4 HA4 HB4 HO4 HP4 ⊢
  refine (take_any HC4.out (by decide) 0 false none 0 0 (BytesAt.nil W4) (by simp [Kd.reads])).mono ?_
  rintro e w5 ⟨v5, rfl, hc5, ht5, _⟩
  have hmine3 : ∀ k, (k < W2.heap.size ∧ w1.heap.size ≤ k) ∨ w3.heap.size ≤ k → ¬ Mine g v3 k := fun k hk hm => by
    have := HC1.out.lt
    rcases hm with hm | hm
    · omega
    · have h3 := (hown3.out k hm).2
      rcases HL3.out k hm with e | e
      · cases e
      · omega
  have HC5 := Lib.hid hc5
  have HA5 := Lib.hid (HA4.out.touch ht5 (hmine3 _ (.inl ⟨hxW2, hz2⟩)))
  have HB5 := Lib.hid (HB4.out.touch ht5 (hmine3 _ (.inr hz4)))
  have HO5 := Lib.hid (HO4.out.keepTouch ht5 fun k hk => hmine3 k (.inl ⟨(HO2.out.ge hk).2, (HO2.out.ge hk).1⟩))
  have HP5 := Lib.hid (HP4.out.keepTouch ht5 fun k hk => hmine3 k (.inr (HP4.out.ge hk).1))
  have HW5 := Lib.hid (Touch.below HW4.out ht5 HW4.out.size fun k hk => by rcases hk with hk | hk; (have := HC1.out.above; omega); (have := HC1.out.under; have := HC1.out.above; have := (hown3.out k hk).1; omega))
  clear hc5 ht5
  go_wp2_with fail
  refine (next_no HC5.out).mono ?_
  rintro e w6 ⟨rfl, hb6⟩
  have HB6 := (Below.refl w6.heap.size w6).alloc (Nat.le_refl _) (.cells #[.int .i64 0, .int .i64 0, .int .i64 0, .int .u64 0, .int .u64 0, .slice none 0 0] 30)
  have HA7 := (HA5.out.below hb6).below HB6
  have HB7 := (HB5.out.below hb6).below HB6
  have hk1 := ((HO5.out.below hb6).below HB6).bytes.conv
  have hk2 := ((HP5.out.below hb6).below HB6).bytes.conv
  have HW7 := (HW5.out.trans (hb6.mono HW5.out.size)).alloc (by have := HW5.out.size; have := hb6.size; omega) (.cells #[.int .i64 0, .int .i64 0, .int .i64 0, .int .u64 0, .int .u64 0, .slice none 0 0] 30)
  have e1 : strOfNums [49, 50, 51, 52, 53, 54, 55, 56] = { data := #[49, 50, 51, 52, 53, 54, 55, 56] } := rfl
  have e2 : strOfNums [57] = { data := #[57] } := rfl
  rw [e1] at hk1
  rw [e2] at hk2
  obtain ⟨p0, p1, p2, p3, p4, p5⟩ := HA7
  obtain ⟨q0, q1, q2, q3, q4, q5⟩ := HB7
  clear e1 e2 hb6 HB6
  go_wp2_with fail
  generalize w6.alloc (.cells #[.int .i64 0, .int .i64 0, .int .i64 0, .int .u64 0, .int .u64 0, .slice none 0 0] 30) = W6 at p0 p1 p2 p3 p4 p5 q0 q1 q2 q3 q4 q5 hk1 hk2 HW7 ⊢
  go_wp2
  go_ret
  exact ⟨rfl, HW7⟩
end Go.Proofs.Ytplomefkmgkdjaa
