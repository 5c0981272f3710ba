/-
  Layer 5's closures that tell the next access, walked.
-/
import Derived.Test.YtplomefkmgkdjaaCopyMath
import Derived.Test.YtplomefkmgkdjaaCopyMem
import Derived.Deep.RegionHeld3
namespace Go.Proofs.Ytplomefkmgkdjaa
open Go.RowKit

/-- An access of kind k to n bytes at p, with those bytes b in new memory (or none). -/
def MadeAcc (k p n : Int) (b : List Int) (w : World) (e : Ending) (w' : World) : Prop :=
  ∃ A l c, e = .returned (.agg #[.int .i64 k, .int .i64 p, .int .i64 n, .int .u64 0, .int .u64 0, .slice A l c]) ∧ Owns w.heap.size w' (.slice A l c) b ∧ Below w.heap.size w w'

theorem lt_of_cell {w : World} {b o : Nat} {v : Value} (h : w.cell? ⟨b, o, none⟩ = some v) : b < w.heap.size := World.block_lt_of_cell? w ⟨b, o, none⟩ h

set_option maxRecDepth 100000 in
set_option maxHeartbeats 400000 in
theorem writeAcc_any (p : Int) (A : Option Addr) (L cap : Nat) (w : World) :
    Calls Try.prog 30 #[.int .i64 p, .slice A L cap] w (Made (.agg #[.int .i64 6, .int .i64 p, .int .i64 L, .int .u64 0, .int .u64 0, .slice A L cap]) w) := by
  go_enter Try.func30, Try.ntmps30
  go_wp2
  refine bodyPost_ret (v := .agg #[.int .i64 6, .int .i64 p, .int .i64 L, .int .u64 0, .int .u64 0, .slice A L cap]) (by simp [results, Try.results30, go_sem]) rfl ?_
  exact ⟨rfl, (Below.refl _ w).alloc (Nat.le_refl _) _⟩

set_option maxRecDepth 100000 in
set_option maxHeartbeats 400000 in
theorem outNext_any (d n : Nat) (a : Nat) (at_ : Int) (w : World) (hc : w.cell? ⟨a, 0, none⟩ = some (.int .i64 at_)) (h0 : -4611686018427387904 ≤ at_) (h1 : at_ ≤ 4611686018427387904) (hd : d ≤ 131072) :
    Calls Try.prog 25 #[.int .i64 d, .int .i64 n, .pointer (some ⟨a, 0, none⟩)] w (MadeAcc 5 (at_ + d) n [] w) := by
  have hlt := lt_of_cell hc
  go_enter Try.func25, Try.ntmps25
  go_wp2
  refine bodyPost_ret (v := .agg #[.int .i64 5, .int .i64 (at_ + d), .int .i64 n, .int .u64 0, .int .u64 0, .slice none 0 0]) (by simp [results, Try.results25, go_sem]) rfl ?_
  exact ⟨_, _, _, rfl, World.ownsRow_nil _ _ _ _, (Below.refl _ w).alloc (Nat.le_refl _) _⟩

/-- A place for an access, in block b: it is there, and may be written. -/
structure AccNew (b : Nat) (W : World) : Prop where
  c0 : W.cell? ⟨b, 0, none⟩ = some (.int .i64 0)
  c1 : W.cell? ⟨b, 1, none⟩ = some (.int .i64 0)
  c2 : W.cell? ⟨b, 2, none⟩ = some (.int .i64 0)
  c3 : W.cell? ⟨b, 3, none⟩ = some (.int .u64 0)
  c4 : W.cell? ⟨b, 4, none⟩ = some (.int .u64 0)
  c5 : W.cell? ⟨b, 5, none⟩ = some (.slice none 0 0)
  f0 : W.frozen? ⟨b, 0, none⟩ = false
  f1 : W.frozen? ⟨b, 1, none⟩ = false
  f2 : W.frozen? ⟨b, 2, none⟩ = false
  f3 : W.frozen? ⟨b, 3, none⟩ = false
  f4 : W.frozen? ⟨b, 4, none⟩ = false
  f5 : W.frozen? ⟨b, 5, none⟩ = false
  blk : W.heap[b]? = some (.cells #[.int .i64 0, .int .i64 0, .int .i64 0, .int .u64 0, .int .u64 0, .slice none 0 0] 30 (0, 0))
theorem AccNew.of_blk {b : Nat} {W : World} (h : W.heap[b]? = some (.cells #[.int .i64 0, .int .i64 0, .int .i64 0, .int .u64 0, .int .u64 0, .slice none 0 0] 30 (0, 0))) : AccNew b W := by
  refine ⟨?_, ?_, ?_, ?_, ?_, ?_, ?_, ?_, ?_, ?_, ?_, ?_, h⟩
  all_goals first | simp [World.cell?, h] | simp [World.frozen?, h]
theorem AccNew.later {b : Nat} {W W' : World} (h : AccNew b W) (hb : Below W.heap.size W W') : AccNew b W' := by
  have hlt : b < W.heap.size := (Array.getElem?_eq_some_iff.1 h.blk).1
  exact .of_blk ((hb.block b hlt).trans h.blk)
theorem AccNew.made (w : World) : AccNew w.heap.size (w.alloc (.cells #[.int .i64 0, .int .i64 0, .int .i64 0, .int .u64 0, .int .u64 0, .slice none 0 0] 30)) := .of_blk (Go.Deep.blk_alloc_new _ _)
theorem AccNew.alloc {b : Nat} {W : World} (h : AccNew b W) (o : Obj) : AccNew b (W.alloc o) := h.later ((Below.refl _ _).alloc (Nat.le_refl _) _)

theorem Owns.setCell {base : Nat} {w : World} {v : Value} {xs : List Int} (h : Owns base w v xs) {p : Addr} (hp : p.block < base) (u : Value) : Owns base (w.setCell p u) v xs := by
  obtain ⟨h1, h2⟩ := h
  refine ⟨h1, ?_⟩
  rcases h2 with h2 | ⟨g, cap, cur, hv, hg, hh, r⟩
  · exact .inl h2
  · exact .inr ⟨g, cap, cur, hv, hg, (Below.heap_setCell w p u g (by omega)).trans hh, r⟩

theorem Owns.of_block {base : Nat} {w w' : World} {v : Value} {xs : List Int} (h : Owns base w v xs) (hb : ∀ k, v.ownBlock = some k → w'.heap[k]? = w.heap[k]?) : Owns base w' v xs := by
  obtain ⟨h1, h2⟩ := h
  refine ⟨h1, ?_⟩
  rcases h2 with h2 | ⟨g, cap, cur, hv, hg, hh, r⟩
  · exact .inl h2
  · exact .inr ⟨g, cap, cur, hv, hg, (hb g (by rw [hv]; rfl)).trans hh, r⟩

theorem Owns.ge {base : Nat} {w : World} {v : Value} {xs : List Int} (h : Owns base w v xs) {k : Nat} (hk : v.ownBlock = some k) : base ≤ k ∧ k < w.heap.size := World.ownsRow.lt h k hk

theorem Owns.keepTouch {S : Nat → Prop} {base : Nat} {w w' : World} {v : Value} {xs : List Int} (h : Owns base w v xs) (ht : Touch S w w') (hn : ∀ k, v.ownBlock = some k → ¬ S k) : Owns base w' v xs :=
  h.of_block fun k hk => ht.block k (h.ge hk).2 (hn k hk)

/-- An access is stored in its place: the world behind it. -/
def six (w : World) (b : Nat) (u0 u1 u2 u3 u4 u5 : Value) : World :=
  (((((w.setCell ⟨b, 0, none⟩ u0).setCell ⟨b, 1, none⟩ u1).setCell ⟨b, 2, none⟩ u2).setCell ⟨b, 3, none⟩ u3).setCell ⟨b, 4, none⟩ u4).setCell ⟨b, 5, none⟩ u5

theorem six_own {base b : Nat} {w : World} {v : Value} {xs : List Int} (h : Owns base w v xs) (hb : b < base) (u0 u1 u2 u3 u4 u5 : Value) : Owns base (six w b u0 u1 u2 u3 u4 u5) v xs :=
  (((((h.setCell (p := ⟨b, 0, none⟩) hb u0).setCell (p := ⟨b, 1, none⟩) hb u1).setCell (p := ⟨b, 2, none⟩) hb u2).setCell (p := ⟨b, 3, none⟩) hb u3).setCell (p := ⟨b, 4, none⟩) hb u4).setCell (p := ⟨b, 5, none⟩) hb u5

theorem six_below {B b : Nat} {w W : World} (h : Below B w W) (hb : B ≤ b) (u0 u1 u2 u3 u4 u5 : Value) : Below B w (six W b u0 u1 u2 u3 u4 u5) :=
  (((((h.setCell (p := ⟨b, 0, none⟩) hb u0).setCell (p := ⟨b, 1, none⟩) hb u1).setCell (p := ⟨b, 2, none⟩) hb u2).setCell (p := ⟨b, 3, none⟩) hb u3).setCell (p := ⟨b, 4, none⟩) hb u4).setCell (p := ⟨b, 5, none⟩) hb u5

theorem zeros_len (n : Nat) : (Mb.bl (fun _ => 0) 0 n).length = n := Mb.bl_length _ _ _

/-- Bytes that are 0, in new memory. -/
theorem zeros_made (w : World) (n : Nat) (hn : n ≤ 1073741824) : Owns w.heap.size (w.alloc (.cells (madeCells #[.int .u8 0] n) 5)) (.slice (some ⟨w.heap.size, 0, none⟩) n n) (Mb.bl (fun _ => 0) 0 n) := by
  have e : (Mb.bl (fun _ => 0) 0 n).map (Value.int .u8) = (madeCells #[.int .u8 0] n).toList := by
    apply List.ext_getElem
    · simp [Mb.bl, size_madeCells]
    · intro i h1 h2
      simp [Mb.bl, madeCells, Nat.mod_one]
  unfold Owns
  rw [zeros_len]
  refine ⟨by simp [Mb.bl_length], .inr ⟨w.heap.size, n, _, rfl, Nat.le_refl _, Go.Deep.blk_alloc_new _ _, Nat.le_refl _, by unfold maxLen; omega, ?_, ?_⟩⟩
  · simp [size_madeCells]
  · rw [e, Nat.mul_one, List.take_of_length_le (by simp [size_madeCells])]

theorem make_bytes (n : Nat) (hn : n ≤ 1073741824) (W : World) :
    (Instr.makeSlice 22 (.int .i64 (n : Int)) (.int .i64 (n : Int))).run Try.prog W = .ok (.slice (some ⟨W.heap.size, 0, none⟩) n n) (W.alloc (.cells (madeCells #[.int .u8 0] n) 5)) := by
  obtain ⟨i, hi, hz, hs, hby⟩ := info_parts infoU8
  have hr := run_make (P := Try.prog) W 22 5 i (.int .u8 0) Try.underlying22 hi hz .i64 .i64 (n : Int) (n : Int) (by omega) (Int.le_refl _) (by rw [hby]; omega) (by omega)
  rw [hs] at hr
  simpa [Value.cells] using hr

set_option maxRecDepth 100000 in
set_option maxHeartbeats 400000 in
theorem zeroNext_any (d n : Nat) (a : Nat) (at_ : Int) (w : World) (hc : w.cell? ⟨a, 0, none⟩ = some (.int .i64 at_)) (h0 : -4611686018427387904 ≤ at_) (h1 : at_ ≤ 4611686018427387904) (hd : d ≤ 131072) (hn : n ≤ 131072) :
    Calls Try.prog 31 #[.int .i64 d, .int .i64 n, .pointer (some ⟨a, 0, none⟩)] w (MadeAcc 6 (at_ + d) n (Mb.bl (fun _ => 0) 0 n) w) := by
  have hlt := lt_of_cell hc
  have hmk := make_bytes n (by omega)
  have hw1 : IntKind.i64.wrap (at_ + (d : Int)) = at_ + d := IntWalk.i64_in _ (by omega)
  have HA := AccNew.made w
  have hnew : w.heap.size ≠ a := by omega
  have hz := zeros_made (w.alloc (.cells #[.int .i64 0, .int .i64 0, .int .i64 0, .int .u64 0, .int .u64 0, .slice none 0 0] 30)) n (by omega)
  have HZ := Lib.hid hz
  have HW := (Below.refl w.heap.size w).alloc (Nat.le_refl _) (.cells #[.int .i64 0, .int .i64 0, .int .i64 0, .int .u64 0, .int .u64 0, .slice none 0 0] 30)
  have hc1 : (w.alloc (.cells #[.int .i64 0, .int .i64 0, .int .i64 0, .int .u64 0, .int .u64 0, .slice none 0 0] 30)).cell? ⟨a, 0, none⟩ = some (.int .i64 at_) := (HW.cell (p := ⟨a, 0, none⟩) hlt).trans hc
  clear hz
  go_enter Try.func31, Try.ntmps31
  go_wp2
  generalize w.alloc (.cells #[.int .i64 0, .int .i64 0, .int .i64 0, .int .u64 0, .int .u64 0, .slice none 0 0] 30) = W at hc1 HA HZ HW ⊢
  have hltW := lt_of_cell hc1
  go_region_held3 (fun w' => w'.cell? ⟨a, 0, none⟩ = some (.int .i64 at_)) (go_keep) (first | (go_at_call 30; refine (writeAcc_any _ _ _ _ _).mono ?_; rintro e w1 ⟨rfl, hb1⟩; have hkc : w1.cell? ⟨a, 0, none⟩ = some (.int .i64 at_) := (hb1.cell (p := ⟨a, 0, none⟩) (by simp; omega)).trans (by go_keep); have HA1 := HA.later (((Below.refl _ W).drew.alloc (Nat.le_refl _) _).trans (hb1.mono (by simp))); obtain ⟨a0, a1, a2, a3, a4, a5, f0, f1, f2, f3, f4, f5, _⟩ := HA1))
  go_wp2
  refine bodyPost_ret (v := .agg #[.int .i64 6, .int .i64 (at_ + d), .int .i64 n, .int .u64 0, .int .u64 0, .slice (some ⟨W.heap.size, 0, none⟩) n n]) (by simp [results, Try.results31, go_sem, a0, a1, a2, a3, a4, a5]) rfl ?_
  refine ⟨_, _, _, rfl, (six_own (base := W.heap.size) ?_ (by have := HA.blk; exact (Array.getElem?_eq_some_iff.1 this).1) _ _ _ _ _ _).down HW.size, six_below ((HW.trans ?_)) (Nat.le_refl _) _ _ _ _ _ _⟩
  · exact HZ.out.drew.below hb1
  · exact ((Below.refl _ W).drew.alloc HW.size _).trans (hb1.mono (by have := HW.size; simp; omega))

theorem cut_bl (f : Nat → Nat) (d n L : Nat) (h : d + n ≤ L) : ((Mb.bl f 0 L).drop d).take n = Mb.bl f d n := by
  have e : L = d + (n + (L - d - n)) := by omega
  rw [e, Mb.bl_append, Mb.bl_append, List.drop_left' (Mb.bl_length _ _ _), List.take_left' (by rw [Mb.bl_length]), Nat.zero_add]

set_option maxRecDepth 100000 in
set_option maxHeartbeats 400000 in
theorem inNext_any (d n L cap : Nat) (a b g : Nat) (f : Nat → Nat) (at_ : Int) (w : World) (hc : w.cell? ⟨a, 0, none⟩ = some (.int .i64 at_)) (hk : w.cell? ⟨b, 0, none⟩ = some (.slice (some ⟨g, 0, none⟩) L cap))
    (hB : BytesAt w (.slice (some ⟨g, 0, none⟩) L cap) (Mb.bl f 0 L)) (h0 : -4611686018427387904 ≤ at_) (h1 : at_ ≤ 4611686018427387904) (hn : 0 < n) (hL : L ≤ 131072) (hdn : d + n ≤ L) (hcap : L ≤ cap) (hm : cap ≤ maxLen) :
    Calls Try.prog 29 #[.int .i64 d, .int .i64 n, .pointer (some ⟨a, 0, none⟩), .pointer (some ⟨b, 0, none⟩)] w (MadeAcc 6 (at_ + d) n (Mb.bl f d n) w) := by
  have hlt := lt_of_cell hc
  have hltb := lt_of_cell hk
  have hm2 : cap ≤ 9223372036854775807 := by unfold maxLen at hm; omega
  have hw1 : IntKind.i64.wrap (at_ + (d : Int)) = at_ + d := IntWalk.i64_in _ (by omega)
  have hw2 : IntKind.i64.wrap ((d : Int) + (n : Int)) = d + n := IntWalk.i64_in _ (by omega)
  have hs1 : (0 : Int) ≤ d := by omega
  have hs2 : (d : Int) ≤ d + n := by omega
  have hs3 : (d : Int) + n ≤ cap := by omega
  have hs4 : ((d : Int) + (n : Int)).toNat - d = n := by omega
  have hs5 : cap ≠ d := by omega
  have HA := AccNew.made w
  have HW := (Below.refl w.heap.size w).alloc (Nat.le_refl _) (.cells #[.int .i64 0, .int .i64 0, .int .i64 0, .int .u64 0, .int .u64 0, .slice none 0 0] 30)
  have hc1 : (w.alloc (.cells #[.int .i64 0, .int .i64 0, .int .i64 0, .int .u64 0, .int .u64 0, .slice none 0 0] 30)).cell? ⟨a, 0, none⟩ = some (.int .i64 at_) := (HW.cell (p := ⟨a, 0, none⟩) hlt).trans hc
  have hk1 : (w.alloc (.cells #[.int .i64 0, .int .i64 0, .int .i64 0, .int .u64 0, .int .u64 0, .slice none 0 0] 30)).cell? ⟨b, 0, none⟩ = some (.slice (some ⟨g, 0, none⟩) L cap) := (HW.cell (p := ⟨b, 0, none⟩) hltb).trans hk
  have hnew : w.heap.size ≠ a := by omega
  have hnew2 : w.heap.size ≠ b := by omega
  have HB := Lib.hid (hB.below HW)
  clear hB
  go_enter Try.func29, Try.ntmps29
  go_wp2
  generalize w.alloc (.cells #[.int .i64 0, .int .i64 0, .int .i64 0, .int .u64 0, .int .u64 0, .slice none 0 0] 30) = W at hc1 hk1 HA HB HW ⊢
  have hltW := lt_of_cell hc1
  have hltbW := lt_of_cell hk1
  go_region_held3 (fun w' => w'.cell? ⟨a, 0, none⟩ = some (.int .i64 at_) ∧ w'.cell? ⟨b, 0, none⟩ = some (.slice (some ⟨g, 0, none⟩) L cap)) (go_keep)
    (first
      | (go_at_call 22; refine (clone_sl _ _ _ (Mb.bl f d n) _ ?_ ?_).mono ?_; (have := HB.out.cut d n (cap - d) (by rw [Mb.bl_length]; omega); rw [Nat.zero_add, cut_bl f d n L hdn] at this; exact this.drew); omega; rintro e w1 ⟨A5, c5, rfl, ho1, hb1⟩; have hkc1 : w1.cell? ⟨a, 0, none⟩ = some (.int .i64 at_) := (hb1.cell (p := ⟨a, 0, none⟩) (by simp; omega)).trans (by go_keep); have hkb1 : w1.cell? ⟨b, 0, none⟩ = some (.slice (some ⟨g, 0, none⟩) L cap) := (hb1.cell (p := ⟨b, 0, none⟩) (by simp; omega)).trans (by go_keep))
      | (go_at_call 30; refine (writeAcc_any _ _ _ _ _).mono ?_; rintro e w2 ⟨rfl, hb2⟩; have hkc2 : w2.cell? ⟨a, 0, none⟩ = some (.int .i64 at_) := (hb2.cell (p := ⟨a, 0, none⟩) (by have := hb1.size; simp at this; simp; omega)).trans (by go_keep); have hkb2 : w2.cell? ⟨b, 0, none⟩ = some (.slice (some ⟨g, 0, none⟩) L cap) := (hb2.cell (p := ⟨b, 0, none⟩) (by have := hb1.size; simp at this; simp; omega)).trans (by go_keep); have HA1 := HA.later ((below_drew hb1).trans (hb2.mono (below_drew hb1).size)); obtain ⟨a0, a1, a2, a3, a4, a5, f0, f1, f2, f3, f4, f5, _⟩ := HA1))
  go_wp2
  refine bodyPost_ret (v := .agg #[.int .i64 6, .int .i64 (at_ + d), .int .i64 n, .int .u64 0, .int .u64 0, .slice A5 n c5]) (by simp [results, Try.results29, go_sem, a0, a1, a2, a3, a4, a5]) rfl ?_
  refine ⟨_, _, _, rfl, (six_own (base := W.heap.size) (ho1.below hb2) (by have := HA.blk; exact (Array.getElem?_eq_some_iff.1 this).1) _ _ _ _ _ _).down HW.size, six_below ((HW.trans ?_)) (Nat.le_refl _) _ _ _ _ _ _⟩
  exact ((below_drew hb1).trans (hb2.mono (below_drew hb1).size)).mono HW.size
end Go.Proofs.Ytplomefkmgkdjaa
