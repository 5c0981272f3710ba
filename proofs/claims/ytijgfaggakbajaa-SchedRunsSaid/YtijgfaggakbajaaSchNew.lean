/-
  Layer 6's New, walked: a scheduler is made.
-/
import Derived.Test.YtijgfaggakbajaaSchPickAll
namespace Go.Proofs.Ytijgfaggakbajaa
open Go.RowKit

/-- A slice of n machines stands in memory: the interfaces' values. -/
def MsAt (w : World) (A : Option Addr) (n : Nat) (xs : Nat → Value) : Prop := 0 < n → ∃ b, A = some ⟨b, 0, none⟩ ∧ b < w.heap.size ∧ ∀ i, i < n → w.cell? ⟨b, i, none⟩ = some (xs i)

theorem MsAt.below {w w' : World} {A : Option Addr} {n : Nat} {xs : Nat → Value} (h : MsAt w A n xs) (hb : Below w.heap.size w w') : MsAt w' A n xs := fun hp => by
  obtain ⟨b, e, hl, hc⟩ := h hp
  exact ⟨b, e, Nat.lt_of_lt_of_le hl hb.size, fun i hi => (hb.cell (p := ⟨b, i, none⟩) hl).trans (hc i hi)⟩

/-- A new scheduler's state. -/
def St.made (n : Nat) (ms : Nat → Mc) (m : Nat → Nat) (nw : Nat) (c : Int) : St := ⟨n, ms, fun _ => false, m, nw, c, 0, []⟩

/-- A scheduler was made. -/
def MadeSw (o : Nat → Pt) (gb hb : Nat) (xs : Nat → Value) (st : St) (w : World) (e : Ending) (w' : World) : Prop :=
  ∃ gw ga o', e = .returned (.pointer (some ⟨gw, 0, none⟩)) ∧ w.heap.size ≤ gw ∧ Sw w' o' gw ga gb hb xs (.slice none 0 0) [] st ∧ Below w.heap.size w w' ∧ ∀ k, k < w.heap.size → o' k = o k

theorem infoActor : (Try.prog.info? 87).map (fun i => (i.zero, i.size, i.bytes)) = some (some (.agg #[.nilIface, .bool false]), 2, 24) := by kernel_rfl

theorem make_actors (n : Nat) (hn : n ≤ 1000) (W : World) :
    (Instr.makeSlice 81 (.int .i64 (n : Int)) (.int .i64 (n : Int))).run Try.prog W = .ok (.slice (some ⟨W.heap.size, 0, none⟩) n n) (W.alloc (.cells (madeCells #[.nilIface, .bool false] (n * 2)) 87)) := by
  obtain ⟨i, hi, hz, hs, hby⟩ := info_parts infoActor
  have hr := run_make (P := Try.prog) W 81 87 i (.agg #[.nilIface, .bool false]) Try.underlying81 hi hz .i64 .i64 (n : Int) (n : Int) (by omega) (Int.le_refl _) (by rw [hby]; omega) (by omega)
  rw [hs] at hr
  simpa [Value.cells] using hr

theorem made_actors (w : World) (n : Nat) : (w.alloc (.cells (madeCells #[.nilIface, .bool false] (n * 2)) 87)).rowIs w.heap.size 87 (2 * n) (acCell (fun _ => .nilIface) (fun _ => false)) :=
  ⟨_, Go.Deep.blk_alloc_new _ _, by rw [size_madeCells]; omega, fun i hi => by
    unfold acCell madeCells
    have hm : i % 2 < 2 := Nat.mod_lt _ (by decide)
    have hi2 : i < n * 2 := by omega
    simp [hi2]
    rcases Nat.mod_two_eq_zero_or_one i with e | e
    · simp [e]
    · simp [e]⟩

theorem acCell_set (ax : Nat → Value) (dead : Nat → Bool) (i : Nat) (x : Value) (j : Nat) : (if j = i * 2 then x else acCell ax dead j) = acCell (upd ax i x) dead j := by
  unfold acCell
  by_cases e : j = i * 2
  · subst e
    rw [if_pos rfl, if_pos (by omega), show i * 2 / 2 = i by omega, upd_same]
  · rw [if_neg e]
    by_cases e2 : j % 2 = 0
    · rw [if_pos e2, if_pos e2, upd_other _ _ _ (by omega)]
    · rw [if_neg e2, if_neg e2]

set_option maxRecDepth 100000 in
set_option maxHeartbeats 2000000 in
theorem schedNew_any {w : World} {o : Nat → Pt} {gb hb nw : Nat} {m : Nat → Nat} {c : Int} (B : Buf w gb hb m nw c) (A : Option Addr) (n cap : Nat) (xs : Nat → Value) (ms : Nat → Mc) (hn : n ≤ 1000) (hcap : n ≤ cap) (hcap2 : cap ≤ 9223372036854775807) (hl : MsAt w A n xs)
    (hm : ∀ i, i < n → MRep w (fun k => o k = .ma i) (xs i) (ms i)) (hog : o gb = .bf) (hoh : o hb = .bf) (hlt : ∀ k, o k ≠ .no → k < w.heap.size) :
    Calls Try.prog 10 #[.pointer (some ⟨gb, 0, none⟩), .slice A n cap] w (MadeSw o gb hb xs (St.made n ms m nw c) w) := by
  have hmk := make_actors n hn
  have HH := Lib.hid (And.intro B (And.intro hm (And.intro hog (And.intro hoh hlt))))
  have HL := Lib.hid hl
  have HN := Lib.hid hn
  clear B hm hog hoh hlt hl
  have ha := made_actors w n
  have e1 : (w.alloc (.cells (madeCells #[.nilIface, .bool false] (n * 2)) 87)).heap.size = w.heap.size + 1 := by simp
  have HB1 := (Below.refl w.heap.size w).alloc (Nat.le_refl _) (.cells (madeCells #[.nilIface, .bool false] (n * 2)) 87)
  go_enter Try.func10, Try.ntmps10
  go_wp2
  generalize hW1 : w.alloc (.cells (madeCells #[.nilIface, .bool false] (n * 2)) 87) = W1 at *
  have hh := Go.Deep.blk_alloc_new W1 (.cells #[.pointer (some ⟨gb, 0, none⟩), .slice (some ⟨w.heap.size, 0, none⟩) n n, .int .i64 0, .slice none 0 0] 83)
  rw [e1] at hh
  have ha2 := ha.alloc (.cells #[.pointer (some ⟨gb, 0, none⟩), .slice (some ⟨w.heap.size, 0, none⟩) n n, .int .i64 0, .slice none 0 0] 83)
  have HB2 := HB1.alloc HB1.size (.cells #[.pointer (some ⟨gb, 0, none⟩), .slice (some ⟨w.heap.size, 0, none⟩) n n, .int .i64 0, .slice none 0 0] 83)
  generalize W1.alloc (.cells #[.pointer (some ⟨gb, 0, none⟩), .slice (some ⟨w.heap.size, 0, none⟩) n n, .int .i64 0, .slice none 0 0] 83) = W2 at hh ha2 HB2 ⊢
  have HST := Lib.hid (And.intro hh (And.intro ha2 HB2))
  clear hmk hW1 ha HB1 hh ha2 HB2
  go_loopw [16] (fun t16 wr => ∃ (i : Nat) (ax : Nat → Value), t16 = .int .i64 i ∧ i ≤ n ∧ (∀ j, j < i → ax j = xs j) ∧ wr.heap[w.heap.size + 1]? = some (.cells #[.pointer (some ⟨gb, 0, none⟩), .slice (some ⟨w.heap.size, 0, none⟩) n n, .int .i64 0, .slice none 0 0] 83 (0, 0)) ∧ wr.rowIs w.heap.size 87 (2 * n) (acCell ax (fun _ => false)) ∧ Below w.heap.size w wr) (fun t16 _ => n - (intOf t16).toNat)
  case atStart => exact ⟨0, _, rfl, Nat.zero_le _, fun j hj => absurd hj (Nat.not_lt_zero _), HST.out.1, HST.out.2.1, HST.out.2.2⟩
  case round =>
    obtain ⟨i, ax, rfl, hi, hax, hhd, hrow, hbw⟩ := hrel
    have HAX := Lib.hid hax
    have HHD := Lib.hid (And.intro hhd (And.intro hrow hbw))
    by_cases hlt : i < n
    · obtain ⟨bl, rfl, hbl, hcl⟩ := HL.out (by omega)
      have hcx := (hbw.cell (p := ⟨bl, i, none⟩) hbl).trans (hcl i hlt)
      have hc1 : wr.cell? ⟨w.heap.size + 1, 1, none⟩ = some (.slice (some ⟨w.heap.size, 0, none⟩) n n) := by simp [World.cell?, hhd]
      have hr0 := hrow.cell (i := i * 2) (by omega)
      have hf0 := hrow.frozen (i * 2)
      have hsh := (HH.out.2.1 i hlt).shape
      generalize hx : xs i = x at hcx hsh
      have HX := Lib.hid hx
      clear hax hhd hrow hbw hcl hx
      rcases hsh with ⟨rfl, _⟩ | ⟨T, y, rfl⟩
      all_goals
        go_wp2
        go_roundw
        case rel =>
          refine ⟨i + 1, upd ax i (xs i), by go_num, by omega, fun j hj => ?_, blkF HHD.out.1 (by omega) _, (HHD.out.2.1.set (i * 2) _).congr fun j _ => ?_, HHD.out.2.2.setCell (p := ⟨w.heap.size, i * 2, none⟩) (Nat.le_refl _) _⟩
          · by_cases e : j = i
            · subst e; exact upd_same _ _ _
            · rw [upd_other _ _ _ e]; exact HAX.out j (by omega)
          · rw [HX.out]; exact acCell_set _ _ _ _ _
        case measure => simp [intOf]; omega
    · obtain rfl : i = n := by omega
      clear hax hhd hrow hbw
      go_wp2
      go_ret
      obtain ⟨hhd, hrow, hbw⟩ := HHD.out
      obtain ⟨B, hm, hog, hoh, hlk⟩ := HH.out
      have hsz := (Array.getElem?_eq_some_iff.1 hhd).1
      have hold : ∀ k, k < w.heap.size → claimed (claimed o w.heap.size (fun k => k = w.heap.size) .ac) w.heap.size (fun k => k = w.heap.size + 1) .wd k = o k := fun k hk => (claimed_old hk).trans (claimed_old hk)
      refine ⟨w.heap.size + 1, w.heap.size, claimed (claimed o w.heap.size (fun k => k = w.heap.size) .ac) w.heap.size (fun k => k = w.heap.size + 1) .wd, rfl, Nat.le_succ _, ⟨hhd, hrow.congr fun j hj => ?_, B.below hbw, fun j hj => ?_, ⟨World.ownsRow_nil _ _ _ _, fun t ht => absurd ht (by simp), fun k hk => absurd hk (by simp [Value.ownBlock])⟩, rfl, claimed_new (Nat.le_succ _) rfl, (claimed_not fun e => by omega).trans (claimed_new (Nat.le_refl _) rfl), (hold gb B.g_lt).trans hog, (hold hb B.h_lt).trans hoh, fun k hk => ?_, HN.out, fun e he => absurd he (by simp [St.made])⟩, hbw, hold⟩
      · unfold acCell
        by_cases e : j % 2 = 0
        · rw [if_pos e, if_pos e]; exact HAX.out _ (by omega)
        · rw [if_neg e, if_neg e]; rfl
      · exact ((hm j hj).keep hbw.size fun k hk => hbw.block k (hlk k (by rw [hk]; simp))).mono fun k hk => (hold k (hlk k (by rw [hk]; simp))).trans hk
      · by_cases e : w.heap.size ≤ k ∧ k = w.heap.size + 1
        · omega
        · rw [claimed_not e] at hk
          by_cases e2 : w.heap.size ≤ k ∧ k = w.heap.size
          · omega
          · rw [claimed_not e2] at hk
            have := hlk k hk
            omega
end Go.Proofs.Ytijgfaggakbajaa
