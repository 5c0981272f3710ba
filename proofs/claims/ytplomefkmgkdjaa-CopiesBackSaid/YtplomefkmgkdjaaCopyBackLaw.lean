/-
  The statement that what was copied in is copied out (layer 5), walked.
-/
import Derived.Test.YtplomefkmgkdjaaCopyBack
import Derived.Deep.RegionHeld3
namespace Go.Proofs.Ytplomefkmgkdjaa
open Go.RowKit

/-- The bytes that the statement writes first. -/
def pat (i : Nat) : Nat := (i * 7 + 1) % 256
theorem pat_isB : Mb.IsB pat := fun _ => Nat.mod_lt _ (by decide)
theorem pat_wrap (i : Nat) : IntKind.u8.wrap ((i : Int) * 7 + 1) = ((pat i : Nat) : Int) := by
  rw [IntKind.wrap_u8]
  unfold pat
  omega

theorem lay_next (m f : Nat → Nat) (a i j : Nat) : (if j = a + i then ((f i : Nat) : Int) else ((Cy.lay m f a i j : Nat) : Int)) = ((Cy.lay m f a (i + 1) j : Nat) : Int) := by
  unfold Cy.lay
  by_cases h : j = a + i
  · rw [if_pos h, if_pos (by omega)]; subst h; rw [Nat.add_sub_cancel_left]
  · rw [if_neg h]
    by_cases h2 : a ≤ j ∧ j < a + i
    · rw [if_pos h2, if_pos (by omega)]
    · rw [if_neg h2, if_neg (by omega)]

theorem bl_congr {m m' : Nat → Nat} (a n : Nat) (h : ∀ i, i < n → m (a + i) = m' (a + i)) : Mb.bl m a n = Mb.bl m' a n := by
  unfold Mb.bl
  refine List.map_congr_left fun i hi => ?_
  rw [h i (List.mem_range.1 hi)]

theorem bl_lay (m f : Nat → Nat) (a L : Nat) : Mb.bl (Cy.lay m f a L) a L = Mb.bl f 0 L := by
  have h1 : Mb.bl (Cy.lay m f a L) a L = Mb.bl (fun j => f (j - a)) a L := bl_congr a L fun i hi => by
    unfold Cy.lay
    rw [if_pos (by omega)]
  rw [h1]
  unfold Mb.bl
  refine List.map_congr_left fun i _ => ?_
  show ((f (a + i - a) : Nat) : Int) = ((f (0 + i) : Nat) : Int)
  rw [Nat.add_sub_cancel_left, Nat.zero_add]

theorem bl_same (U f : Nat → Nat) (a L i : Nat) : Mb.bl (Cy.lay (Cy.lay (Cy.lay (fun _ => 0) U 0 512) f a L) (fun _ => 0) a i) 0 512 = Mb.bl (Cy.lay (Cy.lay U f a L) (fun _ => 0) a i) 0 512 :=
  bl_congr 0 512 fun j hj => by
    unfold Cy.lay
    rw [Nat.zero_add]
    split
    · rfl
    · split
      · rfl
      · rw [if_pos (by omega)]; rfl

set_option linter.unusedSimpArgs false in
set_option maxRecDepth 100000 in
set_option maxHeartbeats 4000000 in
theorem backLaw_main (w : World) (a : Nat) (B : Option Addr) (L cp : Nat) (f : Nat → Nat) (k : Nat) (hf : Mb.IsB f) (hB : BytesAt w (.slice B L cp) (Mb.bl f 0 L)) (ha : a ≤ 255) (hk : k ≤ 255) (hL : L ≤ 200) :
    Calls Try.prog 4 #[.int .u8 a, .slice B L cp, .int .u8 k] w (TrueBelow w) := by
  have HB := Lib.hid hB
  have HF := Lib.hid hf
  have hmk : ∀ W : World, (Instr.makeSlice 22 (.int .i64 512) (.int .i64 512)).run Try.prog W = .ok (.slice (some ⟨W.heap.size, 0, none⟩) 512 512) (W.alloc (.cells (madeCells #[.int .u8 0] 512) 5)) := make_bytes 512 (by decide)
  clear hB hf
  go_enter Try.func4, Try.ntmps4
  go_wp2_with fail
  refine (copiesFixed_any w).mono ?_
  rintro e w1 ⟨rfl, hq1⟩
  have HW1 := Lib.hid hq1
  have hs1 := hq1.size
  clear hq1
  go_wp2_with fail
  refine (new_yes 512 64 w1 (by decide) (by decide) (by decide) (by decide)).mono ?_
  rintro e w2 ⟨gb, hb, rfl, hbuf2, hgb, hhb, hq2⟩
  have hgbl := hbuf2.g_lt
  have hhbl := hbuf2.h_lt
  have hs2 := hq2.size
  have HBU2 := Lib.hid hbuf2
  have HW2 := Lib.hid (HW1.out.trans (hq2.mono hs1))
  clear hbuf2 hq2
  have hrow3 := World.rowIs_made w2 (.int .u8 0) 512 5
  have hb3 := (Below.refl w2.heap.size w2).alloc (Nat.le_refl _) (.cells (madeCells #[.int .u8 0] 512) 5)
  have HBU3 := Lib.hid (HBU2.out.below hb3)
  have HW3 := Lib.hid (HW2.out.trans (hb3.mono (by omega)))
  have HR3 : Hid ((w2.alloc (.cells (madeCells #[.int .u8 0] 512) 5)).rowIs w2.heap.size 5 512 (fun j => .int .u8 ((Cy.lay (fun _ => 0) pat 0 0 j : Nat) : Int))) := by
    rw [Cy.lay_zero]
    exact hrow3
  clear hrow3 hb3
  go_wp2_with fail
  generalize hwb : w2.heap.size = wb at HR3 hgbl hhbl ⊢
  have HWB := Lib.hid hwb
  clear hwb hmk
  generalize w2.alloc (.cells (madeCells #[.int .u8 0] 512) 5) = w3 at HBU3 HW3 HR3 ⊢
  go_loopw [27] (fun t wr => ∃ i : Nat, t = .int .i64 i ∧ i ≤ 512 ∧ wr.rowIs wb 5 512 (fun j => .int .u8 ((Cy.lay (fun _ => 0) pat 0 i j : Nat) : Int)) ∧ Touch (Lone wb) w3 wr) (fun t _ => 512 - (intOf t).toNat)
  case atStart => exact ⟨0, rfl, by omega, HR3.out, Touch.refl _ _⟩
  case round =>
    obtain ⟨i, rfl, hi, hrow, htt⟩ := hrel
    by_cases hlt : i < 512
    · have hc := hrow.cell hlt
      have hfz := hrow.frozen i
      have hpw := pat_wrap i
      have hi2 : (i : Int) < 512 := by omega
      have HRW := Lib.hid hrow
      have HTT := Lib.hid htt
      clear hrow htt
      go_wp2
      go_roundw
      case rel =>
        exact ⟨i + 1, by go_num, by omega, (HRW.out.set i _).congr (fun j _ => by
          have := lay_next (fun _ => 0) pat 0 i j
          rw [Nat.zero_add] at this
          show (if j = i then Value.int .u8 _ else Value.int .u8 _) = _
          rw [← this]
          split <;> rfl), HTT.out.setCell (p := ⟨wb, i, none⟩) rfl _⟩
      case measure => simp [intOf]; omega
    · obtain rfl : i = 512 := by omega
      have hi3 : (512 : Int) ≤ ((512 : Nat) : Int) := by decide
      have HRW := Lib.hid hrow
      have HTT := Lib.hid htt
      clear hrow htt
      go_wp2_with fail
      have hs3 := HW3.out.size
      have hst := HTT.out.size
      have hwbt := HRW.out.lt
      refine (out_any a L wr (by omega)).mono ?_
      rintro e w5 ⟨g1, rfl, hc5, hb5⟩
      rw [Cy.few_nat (by omega)] at hc5
      have HC5 := Lib.hid hc5
      have HQ5 := Lib.hid hb5
      have hs5 := hb5.size
      clear hc5 hb5
      go_wp2_with fail
      refine (out_any 0 512 w5 (by omega)).mono ?_
      rintro e w6 ⟨g2, rfl, hc6, hb6⟩
      have e512 : Cy.few 512 = 512 := by decide
      rw [e512] at hc6
      have hs6 := hb6.size
      have hb56 := (HQ5.out.trans (hb6.mono hs5))
      have HST6 : Hid (St w w6 a gb hb wb wr.heap.size w5.heap.size g1 w5.heap.size w6.heap.size g2 (fun _ => 0) 0 (Cy.lay (fun _ => 0) pat 0 512) 0 L (.slice none 0 0) [] 0 512 (.slice none 0 0) []) := by
        have hwl := HWB.out
        refine ⟨?_, ?_, HRW.out.of_block (hb56.block _ hwbt), HC5.out.below hb6, hc6, ⟨by omega, by omega⟩, ⟨hgbl, hhbl, hwbt, Nat.le_refl _⟩, (fun q hq => by cases hq), (fun q hq => by cases hq)⟩
        · exact (Touch.below HW3.out HTT.out hs3 (fun q hq => by have : q = wb := hq; omega)).trans (hb56.mono (by omega))
        · exact (HBU3.out.touch HTT.out (fun e => by have : gb = wb := e; omega) (fun e => by have : hb = wb := e; omega)).below hb56
      have hUB : Mb.IsB (Cy.lay (fun _ => 0) pat 0 512) := Cy.lay_isB Mb.zero_isB pat_isB _ _
      have HUB := Lib.hid hUB
      clear hc6 hb6 hb56 e512 hUB HC5 HQ5 HRW HTT HBU3 HR3 hst
      generalize Cy.lay (fun _ => 0) pat 0 512 = U at HST6 HUB
      have hgb6 : gb < w6.heap.size := by omega
      have hhb6 : hb < w6.heap.size := by omega
      go_wp2_with fail
      refine (in_any 0 (some ⟨wb, 0, none⟩) 512 512 U w6 (by omega) (row_bytes HST6.out.row) (by omega)).mono ?_
      rintro e w7 ⟨g3, rfl, hc7, hb7⟩
      have HRUN := Lib.hid (run_any (.wr 0 U) (a := 0) (nw := 64) HUB.out rfl (HST6.out.below hb7).buf hc7 hgb6 hhb6 (by omega) (by omega))
      have HST7 := Lib.hid (HST6.out.below hb7)
      have hg3 := hc7.above
      clear hc7 hb7
      go_wp2_with fail
      refine HRUN.out.mono ?_
      intro e w8 hr8
      obtain ⟨c8, rfl, hst8⟩ := HST7.out.ran hr8 (by have := hg3; omega) (fun q hq => by cases hq) (fun q hq => by cases hq)
      have HST8 := Lib.hid hst8
      clear hr8 hst8 HST7 HRUN HST6
      have hs8 := HST8.out.order
      go_wp2_with fail
      refine (in_any a B L cp f w8 (by omega) (HB.out.below HST8.out.bel) (by omega)).mono ?_
      rintro e w9 ⟨g4, rfl, hc9, hb9⟩
      have HRUN := Lib.hid (run_any (.wr a f) (a := a) (nw := 64) HF.out rfl (HST8.out.below hb9).buf hc9 (by have := HST8.out.mid; omega) (by have := HST8.out.mid; omega) (by omega) (by omega))
      have HST9 := Lib.hid (HST8.out.below hb9)
      have hg4 := hc9.above
      clear hc9 hb9
      go_wp2_with fail
      refine HRUN.out.mono ?_
      intro e w10 hr10
      obtain ⟨c10, rfl, hst10⟩ := HST9.out.ran hr10 (by have := hg4; omega) (fun q hq => by cases hq) (fun q hq => by cases hq)
      have HST10 := Lib.hid hst10
      clear hr10 hst10 HST9 HRUN HST8
      have hs10 := HST10.out.order
      have HRUN := Lib.hid (run_any (.rd a) (a := a) (nw := 64) trivial rfl HST10.out.buf HST10.out.out (by have := HST10.out.mid; omega) (by have := HST10.out.mid; omega) (by omega) (by omega))
      go_wp2_with fail
      refine HRUN.out.mono ?_
      intro e w11 hr11
      obtain ⟨c11, v11, rfl, hst11⟩ := HST10.out.ranOut hr11
      have HST11 := Lib.hid hst11
      clear hr11 hst11 HST10 HRUN
      have hs11 := HST11.out.order
      go_wp2_with fail
      refine (zero_any a k w11 (by omega)).mono ?_
      rintro e w12 ⟨g5, rfl, hc12, hb12⟩
      rw [Cy.few_nat (by omega)] at hc12
      have HRUN := Lib.hid (run_any (.ze a) (a := a) (nw := 64) trivial rfl (HST11.out.below hb12).buf hc12 (by have := HST11.out.mid; omega) (by have := HST11.out.mid; omega) (by omega) (by omega))
      have HST12 := Lib.hid (HST11.out.below hb12)
      have hg5 := hc12.above
      have hown12 : ∀ q, v11.ownBlock = some q → q ≠ g5 := fun q hq => by have := (HST11.out.out.own.ge hq).2; omega
      clear hc12 hb12
      go_wp2_with fail
      refine HRUN.out.mono ?_
      intro e w13 hr13
      obtain ⟨c13, rfl, hst13⟩ := HST12.out.ran hr13 (by have := hg5; omega) hown12 (fun q hq => by cases hq)
      have HST13 := Lib.hid hst13
      clear hr13 hst13 HST12 HRUN HST11 hown12
      have HRUN := Lib.hid (run_any (.rd (0 : Nat)) (a := 0) (nw := 64) trivial rfl HST13.out.buf HST13.out.back (by have := HST13.out.mid; have := HST13.out.order; omega) (by have := HST13.out.mid; have := HST13.out.order; omega) (by omega) (by omega))
      go_wp2_with fail
      refine HRUN.out.mono ?_
      intro e w14 hr14
      obtain ⟨c14, v14, rfl, hst14⟩ := HST13.out.ranBack hr14
      have HST14 := Lib.hid hst14
      clear hr14 hst14 HST13 HRUN
      have hs14 := HST14.out.order
      have hsl1 : (a : Int) ≤ 512 := by omega
      have hsl2 : (0 : Int) ≤ a := by omega
      have hsl3 : ¬ (512 = a) := by omega
      obtain ⟨w15, hrun15, hrow15, ht15⟩ := run_copy_bytes (dLen := 512 - a) (dCap := 512 - a) (off := a) HST14.out.row B L cp (HB.out.below HST14.out.bel) (by omega) (by omega) 3
      have HST15 := Lib.hid (HST14.out.rowed ht15 hrow15)
      clear hrow15 ht15 HST14
      go_wp2_with fail
      clear hrun15
      have hs15 := HST15.out.order
      go_loopw [90] (fun t wr => ∃ i : Nat, t = .int .i64 i ∧ i ≤ k ∧ wr.rowIs wb 5 512 (fun j => .int .u8 ((Cy.lay (Cy.lay U f a L) (fun _ => 0) a i j : Nat) : Int)) ∧ Touch (Lone wb) w15 wr) (fun t _ => k - (intOf t).toNat)
      case atStart =>
        refine ⟨0, rfl, Nat.zero_le _, ?_, Touch.refl _ _⟩
        rw [Cy.lay_zero]
        exact HST15.out.row
      case round =>
        obtain ⟨i, rfl, hi, hrow, htt⟩ := hrel
        by_cases hlt : i < k
        · have hc := hrow.cell (i := a + i) (by omega)
          have hfz := hrow.frozen (a + i)
          have hi2 : (i : Int) < k := by omega
          have hw2 : IntKind.i64.wrap ((a : Int) + (i : Int)) = ((a + i : Nat) : Int) := by rw [IntWalk.i64_in _ (by omega)]; omega
          have hin : ((a : Int) + (i : Int)) < 512 := by omega
          have HRW := Lib.hid hrow
          have HTT := Lib.hid htt
          clear hrow htt
          go_wp2_with fail
          go_roundw
          case rel =>
            exact ⟨i + 1, by go_num, by omega, (HRW.out.set (a + i) _).congr (fun j _ => by
              have := lay_next (Cy.lay U f a L) (fun _ => 0) a i j
              show (if j = a + i then Value.int .u8 _ else Value.int .u8 _) = _
              rw [← this]
              split <;> rfl), HTT.out.setCell (p := ⟨wb, a + i, none⟩) rfl _⟩
          case measure => simp [intOf]; omega
        · obtain rfl : i = k := by omega
          have hi3 : ¬ ((i : Int) < (i : Int)) := by omega
          have HST16 := Lib.hid (HST15.out.rowed htt hrow)
          clear hrow htt
          go_wp2_with fail
          have hc1 := HST16.out.out
          have hc2 := HST16.out.back
          have hww := row_bytes HST16.out.row
          have hbb := HB.out.below HST16.out.bel
          have e1 : Mb.bl (aftK (.wr a f) (aftK (.wr 0 U) (fun _ => 0) 0 512) a L) a L = Mb.bl f 0 L := bl_lay _ f a L
          have e2 : Mb.bl (aftK (.ze a) (aftK (.wr a f) (aftK (.wr 0 U) (fun _ => 0) 0 512) a L) a i) 0 512 = Mb.bl (Cy.lay (Cy.lay U f a L) (fun _ => 0) a i) 0 512 := bl_same U f a L i
          rw [e1] at hc1
          rw [e2] at hc2
          have hy1 := Mb.bl_length f 0 L
          have hy2 := Mb.bl_length (Cy.lay (Cy.lay U f a L) (fun _ => 0) a i) 0 512
          generalize Mb.bl f 0 L = ys1 at hc1 hbb hy1
          generalize Mb.bl (Cy.lay (Cy.lay U f a L) (fun _ => 0) a i) 0 512 = ys2 at hc2 hww hy2
          have HC1 := Lib.hid hc1
          have HC2 := Lib.hid hc2
          have HY1 := Lib.hid hy1
          have HY2 := Lib.hid hy2
          have HBB := Lib.hid hbb
          have HWW := Lib.hid hww
          have HBE := Lib.hid HST16.out.bel
          have kb := hbb.drew.conv
          have kw := hww.drew.conv
          clear hc1 hc2 hww hbb e1 e2 hy1 hy2
          refine wp_region_noPanic ?_
          refine wp_region_held_drew (S := (fun w' => (convert 22 9 (.slice B L cp)).run Try.prog w' = .ok (.string (strOfNums ys1)) w' ∧ (convert 22 9 (.slice (some ⟨wb, 0, none⟩) 512 512)).run Try.prog w' = .ok (.string (strOfNums ys2)) w')) (by kernel_rfl) ?_ (fun hHeld => ?_)
          · (try dsimp only); go_keep
          refine wpAnyH_take (i := 0) (oi := _) (v := ?_) rfl (by kernel_rfl) (by kernel_rfl) (by kernel_rfl) (fun _ _ _ h => h) (Or.inl ⟨by rfl, ?_⟩) (by assumption) ?_
          rotate_left
          · (intro w hSw; (try dsimp only at hSw); go_simp; try (with_reducible rfl))
          try simp only [Act.put, Array.reduceGetElem, List.setIfInBounds_toArray, List.set_cons_zero, List.set_cons_succ]
          refine wpAnyH_take (i := 3) (oi := _) (v := ?_) rfl (by kernel_rfl) (by kernel_rfl) (by kernel_rfl) (fun _ _ _ h => h) (Or.inl ⟨by rfl, ?_⟩) (by assumption) ?_
          rotate_left
          · (intro w hSw; (try dsimp only at hSw); go_simp; try (with_reducible rfl))
          try simp only [Act.put, Array.reduceGetElem, List.setIfInBounds_toArray, List.set_cons_zero, List.set_cons_succ]
          refine wpAnyH_take (i := 4) (oi := _) (v := ?_) rfl (by kernel_rfl) (by kernel_rfl) (by kernel_rfl) (fun _ _ _ h => h) (Or.inl ⟨by rfl, ?_⟩) (by assumption) ?_
          rotate_left
          · (intro w hSw; (try dsimp only at hSw); go_simp; try (with_reducible rfl))
          try simp only [Act.put, Array.reduceGetElem, List.setIfInBounds_toArray, List.set_cons_zero, List.set_cons_succ]
          refine wpAnyH_ready (rs := [1]) (by kernel_rfl) (by simp) ?_
          refine AllReadyH.cons (o := _) rfl (fun K9 hK => ?_) ?_
          rotate_left
          · exact AllReadyH.nil
          go_simp
          go_at_call 11
          refine (bytes_any HC1.out.drew (by have := HY1.out; omega)).mono ?_
          rintro e w20 ⟨A20, c20, rfl, ho20, hb20⟩
          have hd20 := below_drew hb20
          have HC2' := Lib.hid (HC2.out.below hd20)
          have HBB2 := Lib.hid (HBB.out.below hd20)
          have HWW2 := Lib.hid (HWW.out.below hd20)
          have HBE2 := Lib.hid (HBE.out.trans (hd20.mono HBE.out.size))
          have k20 := ho20.bytes.conv
          have kb20 := HBB2.out.conv
          have kw20 := HWW2.out.conv
          clear hb20 hd20
          refine hK.out _ _ ?_ (fun hHeld => ?_)
          · (try dsimp only); go_keep
          clear hK K9
          try simp only [Act.put, Array.reduceGetElem, List.setIfInBounds_toArray, List.set_cons_zero, List.set_cons_succ]
          refine wpAnyH_ready (rs := [2]) (by kernel_rfl) (by simp) ?_
          refine AllReadyH.cons (o := _) rfl (fun K9 hK => ?_) ?_
          rotate_left
          · exact AllReadyH.nil
          go_simp
          refine hK.out _ _ ?_ (fun hHeld => ?_)
          · (try dsimp only); go_keep
          clear hK K9
          try simp only [Act.put, Array.reduceGetElem, List.setIfInBounds_toArray, List.set_cons_zero, List.set_cons_succ]
          refine wpAnyH_take (i := 5) (oi := _) (v := ?_) rfl (by kernel_rfl) (by kernel_rfl) (by kernel_rfl) (fun _ _ _ h => h) (Or.inl ⟨by rfl, ?_⟩) (by assumption) ?_
          rotate_left
          · (intro w hSw; (try dsimp only at hSw); go_simp; try (with_reducible rfl))
          try simp only [Act.put, Array.reduceGetElem, List.setIfInBounds_toArray, List.set_cons_zero, List.set_cons_succ]
          refine wpAnyH_take (i := 6) (oi := _) (v := ?_) rfl (by kernel_rfl) (by kernel_rfl) (by kernel_rfl) (fun _ _ _ h => h) (Or.inl ⟨by rfl, ?_⟩) (by assumption) ?_
          rotate_left
          · (intro w hSw; (try dsimp only at hSw); go_simp; try (with_reducible rfl))
          try simp only [Act.put, Array.reduceGetElem, List.setIfInBounds_toArray, List.set_cons_zero, List.set_cons_succ]
          refine wpAnyH_take (i := 7) (oi := _) (v := ?_) rfl (by kernel_rfl) (by kernel_rfl) (by kernel_rfl) (fun _ _ _ h => h) (Or.inl ⟨by rfl, ?_⟩) (by assumption) ?_
          rotate_left
          · (intro w hSw; (try dsimp only at hSw); go_simp; try (with_reducible rfl))
          try simp only [Act.put, Array.reduceGetElem, List.setIfInBounds_toArray, List.set_cons_zero, List.set_cons_succ]
          refine wpAnyH_take (i := 10) (oi := _) (v := ?_) rfl (by kernel_rfl) (by kernel_rfl) (by kernel_rfl) (fun _ _ _ h => h) (Or.inl ⟨by rfl, ?_⟩) (by assumption) ?_
          rotate_left
          · (intro w hSw; (try dsimp only at hSw); go_simp; try (with_reducible rfl))
          try simp only [Act.put, Array.reduceGetElem, List.setIfInBounds_toArray, List.set_cons_zero, List.set_cons_succ]
          refine wpAnyH_take (i := 11) (oi := _) (v := ?_) rfl (by kernel_rfl) (by kernel_rfl) (by kernel_rfl) (fun _ _ _ h => h) (Or.inl ⟨by rfl, ?_⟩) (by assumption) ?_
          rotate_left
          · (intro w hSw; (try dsimp only at hSw); go_simp; try (with_reducible rfl))
          try simp only [Act.put, Array.reduceGetElem, List.setIfInBounds_toArray, List.set_cons_zero, List.set_cons_succ]
          refine wpAnyH_ready (rs := [8]) (by kernel_rfl) (by simp) ?_
          refine AllReadyH.cons (o := _) rfl (fun K9 hK => ?_) ?_
          rotate_left
          · exact AllReadyH.nil
          go_simp
          go_at_call 11
          refine (bytes_any HC2'.out (by have := HY2.out; omega)).mono ?_
          rintro e w21 ⟨A21, c21, rfl, ho21, hd21⟩
          have HBB3 := Lib.hid (HBB2.out.below hd21)
          have HWW3 := Lib.hid (HWW2.out.below hd21)
          have HBE3 := Lib.hid (HBE2.out.trans (hd21.mono HBE2.out.size))
          have k21 := ho21.bytes.conv
          have kb21 := HBB3.out.conv
          have kw21 := HWW3.out.conv
          clear hd21
          refine hK.out _ _ ?_ (fun hHeld => ?_)
          · (try dsimp only); go_keep
          clear hK K9
          try simp only [Act.put, Array.reduceGetElem, List.setIfInBounds_toArray, List.set_cons_zero, List.set_cons_succ]
          refine wpAnyH_ready (rs := [9]) (by kernel_rfl) (by simp) ?_
          refine AllReadyH.cons (o := _) rfl (fun K9 hK => ?_) ?_
          rotate_left
          · exact AllReadyH.nil
          go_simp
          refine hK.out _ _ ?_ (fun hHeld => ?_)
          · (try dsimp only); go_keep
          clear hK K9
          try simp only [Act.put, Array.reduceGetElem, List.setIfInBounds_toArray, List.set_cons_zero, List.set_cons_succ]
          refine wpAnyH_take (i := 12) (oi := _) (v := ?_) rfl (by kernel_rfl) (by kernel_rfl) (by kernel_rfl) (fun _ _ _ h => h) (Or.inl ⟨by rfl, ?_⟩) (by assumption) ?_
          rotate_left
          · (intro w hSw; (try dsimp only at hSw); go_simp; try (with_reducible rfl))
          try simp only [Act.put, Array.reduceGetElem, List.setIfInBounds_toArray, List.set_cons_zero, List.set_cons_succ]
          refine wpAnyH_take (i := 13) (oi := _) (v := ?_) rfl (by kernel_rfl) (by kernel_rfl) (by kernel_rfl) (fun _ _ _ h => h) (Or.inl ⟨by rfl, ?_⟩) (by assumption) ?_
          rotate_left
          · (intro w hSw; (try dsimp only at hSw); go_simp; try (with_reducible rfl))
          try simp only [Act.put, Array.reduceGetElem, List.setIfInBounds_toArray, List.set_cons_zero, List.set_cons_succ]
          refine wpAnyH_take (i := 14) (oi := _) (v := ?_) rfl (by kernel_rfl) (by kernel_rfl) (by kernel_rfl) (fun _ _ _ h => h) (Or.inl ⟨by rfl, ?_⟩) (by assumption) ?_
          rotate_left
          · (intro w hSw; (try dsimp only at hSw); go_simp; try (with_reducible rfl))
          try simp only [Act.put, Array.reduceGetElem, List.setIfInBounds_toArray, List.set_cons_zero, List.set_cons_succ]
          refine wpAnyH_done (by kernel_rfl) ?_ _
          refine NoPanic.normal ?_
          go_wp2
          go_ret
          exact ⟨rfl, HBE3.out⟩

set_option maxRecDepth 100000 in
set_option maxHeartbeats 1000000 in
theorem backLaw_long (w : World) (a k : Int) (B : Option Addr) (L cp : Nat) (hL : 200 < L) (hL2 : L ≤ 9223372036854775807) :
    Calls Try.prog 4 #[.int .u8 a, .slice B L cp, .int .u8 k] w (TrueBelow w) := by
  go_enter Try.func4, Try.ntmps4
  go_wp2_with (go_at_call 6; refine (copiesFixed_any w).mono ?_; rintro e w1 ⟨rfl, hq1⟩)
  go_ret
  exact ⟨rfl, hq1⟩

theorem backLaw_all (w : World) (a : Int) (B : Option Addr) (L cp : Nat) (f : Nat → Nat) (hf : Mb.IsB f) (hB : BytesAt w (.slice B L cp) (Mb.bl f 0 L)) (hcp : L ≤ cp) (hcp2 : cp ≤ 9223372036854775807) (k : Int) (ha : 0 ≤ a ∧ a ≤ 255) (hk : 0 ≤ k ∧ k ≤ 255) :
    Calls Try.prog 4 #[.int .u8 a, .slice B L cp, .int .u8 k] w (TrueBelow w) := by
  by_cases hL : 200 < L
  · exact backLaw_long w a k B L cp hL (by omega)
  · obtain ⟨a, rfl⟩ := Int.eq_ofNat_of_zero_le ha.1
    obtain ⟨k, rfl⟩ := Int.eq_ofNat_of_zero_le hk.1
    exact backLaw_main w a B L cp f k hf hB (by omega) (by omega) (by omega)
end Go.Proofs.Ytplomefkmgkdjaa
