/-
  Proved: for every ring, type, list of bytes and list of answers the statement RingputSteps (each access of a put, and what it tells of itself, is the document's) answers true, and its arguments read as before.
  Conditions: none beyond the row's own.
-/
import Derived.Test.YthpppoalnanmjaaGreatP09
import Derived.Test.YthpppoalnanmjaaGreatP05
import Derived.Test.YthpppoalnanmjaaGreatP07
import Derived.Test.YthpppoalnanmjaaGreatP03
namespace Go.Proofs.YthpppoalnanmjaaGreat
open Go.RowKit

/-- A slice of n machines stands in memory: the interfaces' values. -/
def MsAt (w : World) (A : Option Addr) (n : Nat) (xs : Nat → Value) : Prop := 0 < n → ∃ b, A = some ⟨b, 0, none⟩ ∧ b < w.heap.size ∧ ∀ i, i < n → w.cell? ⟨b, i, none⟩ = some (xs i)

theorem MsAt.below {w w' : World} {A : Option Addr} {n : Nat} {xs : Nat → Value} (h : MsAt w A n xs) (hb : Below w.heap.size w w') : MsAt w' A n xs := fun hp => by
  obtain ⟨b, e, hl, hc⟩ := h hp
  exact ⟨b, e, Nat.lt_of_lt_of_le hl hb.size, fun i hi => (hb.cell (p := ⟨b, i, none⟩) hl).trans (hc i hi)⟩

/-- A new scheduler's state. -/
def St.made (n : Nat) (ms : Nat → Mc) (m : Nat → Nat) (nw : Nat) (c : Int) : St := ⟨n, ms, fun _ => false, m, nw, c, 0, []⟩

/-- A scheduler was made. -/
def MadeSw (o : Nat → Pt) (gb hb : Nat) (xs : Nat → Value) (st : St) (w : World) (e : Ending) (w' : World) : Prop :=
  ∃ gw ga o', e = .returned (.pointer (some ⟨gw, 0, none⟩)) ∧ w.heap.size ≤ gw ∧ Sw w' o' gw ga gb hb xs (.slice none 0 0) [] st ∧ Below w.heap.size w w' ∧ ∀ k, k < w.heap.size → o' k = o k

theorem infoActor : (Tryz.prog.info? 84).map (fun i => (i.zero, i.size, i.bytes)) = some (some (.agg #[.nilIface, .bool false]), 2, 24) := by kernel_rfl

theorem make_actors (n : Nat) (hn : n ≤ 1000) (W : World) :
    (Instr.makeSlice 77 (.int .i64 (n : Int)) (.int .i64 (n : Int))).run Tryz.prog W = .ok (.slice (some ⟨W.heap.size, 0, none⟩) n n) (W.alloc (.cells (madeCells #[.nilIface, .bool false] (n * 2)) 84)) := by
  obtain ⟨i, hi, hz, hs, hby⟩ := info_parts infoActor
  have hr := run_make (P := Tryz.prog) W 77 84 i (.agg #[.nilIface, .bool false]) Tryz.underlying77 hi hz .i64 .i64 (n : Int) (n : Int) (by omega) (Int.le_refl _) (by rw [hby]; omega) (by omega)
  rw [hs] at hr
  simpa [Value.cells] using hr

theorem made_actors (w : World) (n : Nat) : (w.alloc (.cells (madeCells #[.nilIface, .bool false] (n * 2)) 84)).rowIs w.heap.size 84 (2 * n) (acCell (fun _ => .nilIface) (fun _ => false)) :=
  ⟨_, Go.Deep.blk_alloc_new _ _, by rw [size_madeCells]; omega, fun i hi => by
    unfold acCell madeCells
    have hm : i % 2 < 2 := Nat.mod_lt _ (by decide)
    have hi2 : i < n * 2 := by omega
    simp [hi2]
    rcases Nat.mod_two_eq_zero_or_one i with e | e
    · simp [e]
    · simp [e]⟩

theorem acCell_set (ax : Nat → Value) (dead : Nat → Bool) (i : Nat) (x : Value) (j : Nat) : (if j = i * 2 then x else acCell ax dead j) = acCell (upd ax i x) dead j := by
  unfold acCell
  by_cases e : j = i * 2
  · subst e
    rw [if_pos rfl, if_pos (by omega), show i * 2 / 2 = i by omega, upd_same]
  · rw [if_neg e]
    by_cases e2 : j % 2 = 0
    · rw [if_pos e2, if_pos e2, upd_other _ _ _ (by omega)]
    · rw [if_neg e2, if_neg e2]

set_option maxRecDepth 100000 in
set_option maxHeartbeats 2000000 in
theorem schedNew_any {w : World} {o : Nat → Pt} {gb hb nw : Nat} {m : Nat → Nat} {c : Int} (B : Buf w gb hb m nw c) (A : Option Addr) (n cap : Nat) (xs : Nat → Value) (ms : Nat → Mc) (hn : n ≤ 1000) (hcap : n ≤ cap) (hcap2 : cap ≤ 9223372036854775807) (hl : MsAt w A n xs)
    (hm : ∀ i, i < n → MRep w (fun k => o k = .ma i) (xs i) (ms i)) (hog : o gb = .bf) (hoh : o hb = .bf) (hlt : ∀ k, o k ≠ .no → k < w.heap.size) :
    Calls Tryz.prog 12 #[.pointer (some ⟨gb, 0, none⟩), .slice A n cap] w (MadeSw o gb hb xs (St.made n ms m nw c) w) := by
  have hmk := make_actors n hn
  have HH := Lib.hid (And.intro B (And.intro hm (And.intro hog (And.intro hoh hlt))))
  have HL := Lib.hid hl
  have HN := Lib.hid hn
  clear B hm hog hoh hlt hl
  have ha := made_actors w n
  have e1 : (w.alloc (.cells (madeCells #[.nilIface, .bool false] (n * 2)) 84)).heap.size = w.heap.size + 1 := by simp
  have HB1 := (Below.refl w.heap.size w).alloc (Nat.le_refl _) (.cells (madeCells #[.nilIface, .bool false] (n * 2)) 84)
  go_enter Tryz.func12, Tryz.ntmps12
  go_wp2
  generalize hW1 : w.alloc (.cells (madeCells #[.nilIface, .bool false] (n * 2)) 84) = W1 at *
  have hh := Go.Deep.blk_alloc_new W1 (.cells #[.pointer (some ⟨gb, 0, none⟩), .slice (some ⟨w.heap.size, 0, none⟩) n n, .int .i64 0, .slice none 0 0] 80)
  rw [e1] at hh
  have ha2 := ha.alloc (.cells #[.pointer (some ⟨gb, 0, none⟩), .slice (some ⟨w.heap.size, 0, none⟩) n n, .int .i64 0, .slice none 0 0] 80)
  have HB2 := HB1.alloc HB1.size (.cells #[.pointer (some ⟨gb, 0, none⟩), .slice (some ⟨w.heap.size, 0, none⟩) n n, .int .i64 0, .slice none 0 0] 80)
  generalize W1.alloc (.cells #[.pointer (some ⟨gb, 0, none⟩), .slice (some ⟨w.heap.size, 0, none⟩) n n, .int .i64 0, .slice none 0 0] 80) = W2 at hh ha2 HB2 ⊢
  have HST := Lib.hid (And.intro hh (And.intro ha2 HB2))
  clear hmk hW1 ha HB1 hh ha2 HB2
  go_loopw [16] (fun t16 wr => ∃ (i : Nat) (ax : Nat → Value), t16 = .int .i64 i ∧ i ≤ n ∧ (∀ j, j < i → ax j = xs j) ∧ wr.heap[w.heap.size + 1]? = some (.cells #[.pointer (some ⟨gb, 0, none⟩), .slice (some ⟨w.heap.size, 0, none⟩) n n, .int .i64 0, .slice none 0 0] 80 (0, 0)) ∧ wr.rowIs w.heap.size 84 (2 * n) (acCell ax (fun _ => false)) ∧ Below w.heap.size w wr) (fun t16 _ => n - (intOf t16).toNat)
  case atStart => exact ⟨0, _, rfl, Nat.zero_le _, fun j hj => absurd hj (Nat.not_lt_zero _), HST.out.1, HST.out.2.1, HST.out.2.2⟩
  case round =>
    obtain ⟨i, ax, rfl, hi, hax, hhd, hrow, hbw⟩ := hrel
    have HAX := Lib.hid hax
    have HHD := Lib.hid (And.intro hhd (And.intro hrow hbw))
    by_cases hlt : i < n
    · obtain ⟨bl, rfl, hbl, hcl⟩ := HL.out (by omega)
      have hcx := (hbw.cell (p := ⟨bl, i, none⟩) hbl).trans (hcl i hlt)
      have hc1 : wr.cell? ⟨w.heap.size + 1, 1, none⟩ = some (.slice (some ⟨w.heap.size, 0, none⟩) n n) := by simp [World.cell?, hhd]
      have hr0 := hrow.cell (i := i * 2) (by omega)
      have hf0 := hrow.frozen (i * 2)
      have hsh := (HH.out.2.1 i hlt).shape
      generalize hx : xs i = x at hcx hsh
      have HX := Lib.hid hx
      clear hax hhd hrow hbw hcl hx
      rcases hsh with ⟨rfl, _⟩ | ⟨T, y, rfl⟩
      all_goals
        go_wp2
        go_roundw
        case rel =>
          refine ⟨i + 1, upd ax i (xs i), by go_num, by omega, fun j hj => ?_, blkF HHD.out.1 (by omega) _, (HHD.out.2.1.set (i * 2) _).congr fun j _ => ?_, HHD.out.2.2.setCell (p := ⟨w.heap.size, i * 2, none⟩) (Nat.le_refl _) _⟩
          · by_cases e : j = i
            · subst e; exact upd_same _ _ _
            · rw [upd_other _ _ _ e]; exact HAX.out j (by omega)
          · rw [HX.out]; exact acCell_set _ _ _ _ _
        case measure => simp [intOf]; omega
    · obtain rfl : i = n := by omega
      clear hax hhd hrow hbw
      go_wp2
      go_ret
      obtain ⟨hhd, hrow, hbw⟩ := HHD.out
      obtain ⟨B, hm, hog, hoh, hlk⟩ := HH.out
      have hsz := (Array.getElem?_eq_some_iff.1 hhd).1
      have hold : ∀ k, k < w.heap.size → claimed (claimed o w.heap.size (fun k => k = w.heap.size) .ac) w.heap.size (fun k => k = w.heap.size + 1) .wd k = o k := fun k hk => (claimed_old hk).trans (claimed_old hk)
      refine ⟨w.heap.size + 1, w.heap.size, claimed (claimed o w.heap.size (fun k => k = w.heap.size) .ac) w.heap.size (fun k => k = w.heap.size + 1) .wd, rfl, Nat.le_succ _, ⟨hhd, hrow.congr fun j hj => ?_, B.below hbw, fun j hj => ?_, ⟨World.ownsRow_nil _ _ _ _, fun t ht => absurd ht (by simp), fun k hk => absurd hk (by simp [Value.ownBlock])⟩, rfl, claimed_new (Nat.le_succ _) rfl, (claimed_not fun e => by omega).trans (claimed_new (Nat.le_refl _) rfl), (hold gb B.g_lt).trans hog, (hold hb B.h_lt).trans hoh, fun k hk => ?_, HN.out, fun e he => absurd he (by simp [St.made])⟩, hbw, hold⟩
      · unfold acCell
        by_cases e : j % 2 = 0
        · rw [if_pos e, if_pos e]; exact HAX.out _ (by omega)
        · rw [if_neg e, if_neg e]; rfl
      · exact ((hm j hj).keep hbw.size fun k hk => hbw.block k (hlk k (by rw [hk]; simp))).mono fun k hk => (hold k (hlk k (by rw [hk]; simp))).trans hk
      · by_cases e : w.heap.size ≤ k ∧ k = w.heap.size + 1
        · omega
        · rw [claimed_not e] at hk
          by_cases e2 : w.heap.size ≤ k ∧ k = w.heap.size
          · omega
          · rw [claimed_not e2] at hk
            have := hlk k hk
            omega
end Go.Proofs.YthpppoalnanmjaaGreat
namespace Go.Proofs.YthpppoalnanmjaaGreat
open Go.RowKit

/-- A scheduler stands; all that was below stands as it was. -/
structure Stood (w0 w : World) (o : Nat → Pt) (gw ga gb hb : Nat) (ax : Nat → Value) (st : St) : Prop where
  sw : ∃ tv ts, Sw w o gw ga gb hb ax tv ts st
  low : Below w0.heap.size w0 w
  out : ∀ k, k < w0.heap.size → o k = .no

namespace Stood
variable {w0 w w' : World} {o o' : Nat → Pt} {gw ga gb hb : Nat} {ax : Nat → Value} {st st' : St}
theorem below (h : Stood w0 w o gw ga gb hb ax st) (hb' : Below w.heap.size w w') : Stood w0 w' o gw ga gb hb ax st := by
  obtain ⟨⟨tv, ts, hs⟩, h1, h2⟩ := h
  exact ⟨⟨tv, ts, hs.below hb'⟩, h1.trans (hb'.mono h1.size), h2⟩
theorem alloc (h : Stood w0 w o gw ga gb hb ax st) (q : Obj) : Stood w0 (w.alloc q) o gw ga gb hb ax st := h.below ((Below.refl _ _).alloc (Nat.le_refl _) q)
theorem after (h : Stood w0 w o gw ga gb hb ax st) (ht : Touch (Own o) w w') (hs : ∃ tv ts, Sw w' o' gw ga gb hb ax tv ts st') (ho : ∀ k, k < w.heap.size → o' k = o k) : Stood w0 w' o' gw ga gb hb ax st' :=
  ⟨hs, ⟨ht.os.trans h.low.os, ht.tape.trans h.low.tape, ht.output.trans h.low.output, Nat.le_trans h.low.size ht.size, fun k hk => (ht.block k (Nat.lt_of_lt_of_le hk h.low.size) fun e => e (h.out k hk)).trans (h.low.block k hk)⟩,
    fun k hk => (ho k (Nat.lt_of_lt_of_le hk h.low.size)).trans (h.out k hk)⟩
theorem new_no (h : Stood w0 w o gw ga gb hb ax st) {k : Nat} (hk : w.heap.size ≤ k) : o k = .no := by
  obtain ⟨⟨tv, ts, hs⟩, _, _⟩ := h
  exact hs.new_no hk
end Stood

/-- A block that is nobody's keeps its cells. -/
theorem nobody_cell {w w' : World} {o : Nat → Pt} (ht : Touch (Own o) w w') {q : Addr} (hq : q.block < w.heap.size) (hn : o q.block = .no) : w'.cell? q = w.cell? q :=
  World.cell?_of_block (ht.block q.block hq fun e => e hn)
end Go.Proofs.YthpppoalnanmjaaGreat
namespace Go.Proofs.YthpppoalnanmjaaGreat
open Go.RowKit

/-- A put's machine, if it is one. -/
def Mc.putOf : Mc → Pm
  | .put m => m
  | _ => .dead 0 0
def Mc.isPut : Mc → Bool
  | .put _ => true
  | _ => false
theorem Mc.put_is {s : Mc} (h : s.isPut = true) : s = .put s.putOf := by
  cases s with
  | put m => rfl
  | none => cases h
  | copy _ _ _ _ => cases h

/-- The states. -/
def rx0 : St := St.made 1 (fun i => if i = 0 then .put (Pm.new 0 64 1 (fun _ => 0) 8) else .none) (fun _ => 0) 12 0
def rx1 : St := (rx0.robin 99).1
theorem rx_n : (rx0.robin 99).2 = 6 := by decide +kernel
theorem rx_is : (rx1.ms 0).isPut = true := by decide +kernel
theorem rx_res : (rx1.ms 0).putOf.result = (0, 0) := by decide +kernel
theorem rx_busy : (Pm.new 0 64 1 (fun _ => 0) 8).result = (0, 10) := by decide +kernel
theorem rx_tail : Mb.nm rx1.m 64 8 = 16 := by decide +kernel
theorem rx_len : rx0.tr.length + 99 ≤ 1000000 := by decide +kernel
theorem rx_nw : rx1.nw = 12 := by decide +kernel

/-- One put, of a new scheduler. -/
theorem fixed7_made {w0 w1 w3 : World} {g h gp : Nat} (B : Buf w1 g h (fun _ => 0) 12 0) (h1 : w0.heap.size ≤ g) (h2 : w0.heap.size ≤ h) (hb1 : Below w0.heap.size w0 w1) {m : Pm} {n2 : Nat} (hn2 : w1.heap.size ≤ n2)
    (hp : PmAt w3 (fun k => n2 ≤ k ∧ k < w3.heap.size) gp m) (hb3 : Below w1.heap.size w1 w3) :
    ∀ T, Calls Tryz.prog 12 #[.pointer (some ⟨g, 0, none⟩), .slice (some ⟨w3.heap.size, 0, none⟩) 1 1] (w3.alloc (.cells #[.iface 27 (.pointer (some ⟨gp, 0, none⟩))] T)) fun e w' => ∃ gw ga o', e = .returned (.pointer (some ⟨gw, 0, none⟩)) ∧ Stood w0 w' o' gw ga g h (fun i => if i = 0 then .iface 27 (.pointer (some ⟨gp, 0, none⟩)) else .nilIface) (St.made 1 (fun i => if i = 0 then .put m else .none) (fun _ => 0) 12 0) ∧ Below w3.heap.size w3 w' := by
  intro T
  have s1 := hb1.size
  have s3 := hb3.size
  have hgl := B.g_lt
  have hhl := B.h_lt
  have hba := (Below.refl w3.heap.size w3).alloc (Nat.le_refl _) (.cells #[.iface 27 (.pointer (some ⟨gp, 0, none⟩))] T)
  have e0 : (w3.alloc (.cells #[.iface 27 (.pointer (some ⟨gp, 0, none⟩))] T)).heap.size = w3.heap.size + 1 := by simp
  have x0 := Go.Deep.blk_alloc_new w3 (.cells #[.iface 27 (.pointer (some ⟨gp, 0, none⟩))] T)
  generalize w3.alloc (.cells #[.iface 27 (.pointer (some ⟨gp, 0, none⟩))] T) = w4 at *
  have B4 := (B.below hb3).below hba
  refine (schedNew_any B4 (some ⟨w3.heap.size, 0, none⟩) 1 1 (fun i => if i = 0 then .iface 27 (.pointer (some ⟨gp, 0, none⟩)) else .nilIface) (fun i => if i = 0 then .put m else .none) (by decide) (by decide) (by decide)
    (fun _ => ⟨w3.heap.size, rfl, by omega, fun i hi => ?_⟩) (o := fun k => if k = g ∨ k = h then .bf else if n2 ≤ k ∧ k < w3.heap.size then .ma 0 else .no) (fun i hi => ?_) ?_ ?_ (fun k hk => ?_)).mono ?_
  · match i, hi with
    | 0, _ => simp [World.cell?, x0]
  · match i, hi with
    | 0, _ =>
      refine MRep.mono (F := fun k => n2 ≤ k ∧ k < w3.heap.size) ⟨gp, rfl, hp.keep hba.size fun k hk => hba.block k hk.2⟩ fun k hk => ?_
      show (if _ then _ else _) = _
      rw [if_neg (by omega), if_pos hk]
  · exact if_pos (.inl rfl)
  · exact if_pos (.inr rfl)
  · by_cases e1 : k = g ∨ k = h
    · omega
    · rw [if_neg e1] at hk
      by_cases e2 : n2 ≤ k ∧ k < w3.heap.size
      · omega
      · rw [if_neg e2] at hk
        exact absurd rfl hk
  · rintro e w' ⟨gw, ga, o', rfl, _, hs, hbl, ho⟩
    have hbl2 : Below w3.heap.size w3 w' := hba.trans (hbl.mono (by omega))
    refine ⟨gw, ga, o', rfl, ⟨⟨_, _, hs⟩, (hb1.trans (hb3.mono s1)).trans (hbl2.mono (by omega)), fun k hk => ?_⟩, hbl2⟩
    rw [ho k (by omega)]
    show (if _ then _ else _) = _
    rw [if_neg (by omega), if_neg (by omega)]

set_option maxRecDepth 100000 in
set_option maxHeartbeats 2000000 in
theorem fixed7_any (w : World) : Calls Tryz.prog 4 #[] w (TrueBelow w) := by
  have hmk : ∀ W : World, (Instr.makeSlice 24 (.int .i64 8) (.int .i64 8)).run Tryz.prog W = .ok (.slice (some ⟨W.heap.size, 0, none⟩) 8 8) (W.alloc (.cells (madeCells #[.int .u8 0] 8) 5)) := make_bytes 8 (by decide)
  go_enter Tryz.func4, Tryz.ntmps4
  go_upto_region 2 with (go_at_call 10; refine (new_yes 96 12 _ (by decide) (by decide) (by decide) (by decide)).mono ?_; rintro e w1 ⟨g, h, rfl, B, hg, hh, hb1⟩)
  go_wp2_with fail
  have HZ := Lib.hid (zeros_made w1 8 (by decide)).bytes
  have hbz := (Below.refl w1.heap.size w1).alloc (Nat.le_refl _) (.cells (madeCells #[.int .u8 0] 8) 5)
  clear hmk
  generalize w1.alloc (.cells (madeCells #[.int .u8 0] 8) 5) = W at HZ hbz ⊢
  refine (rpNew 0 64 1 (by decide) (by decide) (by decide) _ 8 8 (fun _ => 0) Mb.zero_isB W HZ.out).mono ?_
  rintro e w3 ⟨gp, rfl, hp, hbp⟩
  have HP := Lib.hid hp
  have hb3 := hbz.trans (hbp.mono hbz.size)
  have hq3 := hbz.size
  have HQ := Lib.hid (And.intro hb3 (And.intro hb1 (And.intro hg hh)))
  clear hp hbp hbz
  go_upto_region 4 with (go_at_call 11; refine (putResult HP.out).mono ?_; rintro e w4 ⟨rfl, j4, rfl⟩; rw [rx_busy])
  have hbj := drewN_below w3 j4
  have hnew : ∀ T, _ := fixed7_made (w0 := w) (w1 := w1) (w3 := w3.drewN j4) (n2 := W.heap.size) B HQ.out.2.2.1 HQ.out.2.2.2 HQ.out.2.1 hq3 ((HP.out.keep hbj.size fun k hk => hbj.block k hk.2).wide fun k hk => ⟨hk.1, Nat.lt_of_lt_of_le hk.2 hbj.size⟩) (HQ.out.1.trans (hbj.mono HQ.out.1.size))
  have HNEW := Lib.hid hnew
  clear hnew hbj B HP hq3
  go_upto_region 5 with (first
    | (go_at_call 12; refine (HNEW.out _).mono ?_; rintro e w5 ⟨gw, ga, o5, rfl, hs5, hb5⟩)
    | (go_at_call 13; obtain ⟨⟨tv, ts, hsw⟩, hlw, hot⟩ := hs5; refine (robin_any (st := rx0) hsw 99 rx_len).mono ?_; rintro e w6 ⟨rfl, o6, tv6, ts6, hsw6, ht6, ho6⟩; rw [rx_n]))
  have hlow := (Stood.after ⟨⟨tv, ts, hsw⟩, hlw, hot⟩ ht6 ⟨tv6, ts6, hsw6⟩ ho6).low
  obtain ⟨s1, h1⟩ : ∃ s, s = rx1 := ⟨_, rfl⟩
  have hsw7 : Sw w6 o6 gw ga g h (fun i => if i = 0 then .iface 27 (.pointer (some ⟨gp, 0, none⟩)) else .nilIface) tv6 ts6 rx1 := hsw6
  rw [← h1] at hsw7
  have fis := h1 ▸ rx_is
  have fres := h1 ▸ rx_res
  have ftail := h1 ▸ rx_tail
  have fnw := h1 ▸ rx_nw
  have fna := h1 ▸ (show 0 < rx1.na by decide +kernel)
  have hm6 := hsw7.mach 0 fna
  have hbuf := hsw7.buf
  rw [Mc.put_is fis, if_pos rfl] at hm6
  obtain ⟨g', e', hp6⟩ := hm6
  injection e' with _ e'
  injection e' with e'
  injection e' with e'
  injection e' with e'
  subst e'
  have HP := Lib.hid hp6
  have HB := Lib.hid hbuf
  have HR := Lib.hid fres
  have HT := Lib.hid ftail
  have HNW := Lib.hid fnw
  have HLOW := Lib.hid hlow
  clear hp6 hbuf fres ftail fnw hlow hsw6 hsw7 h1 fis fna hsw hlw hot ht6 ho6 HNEW HQ hb5
  go_wp2_with (first
    | (go_at_call 11; refine (putResult HP.out).mono ?_; rintro e w7 ⟨rfl, j7, rfl⟩; rw [HR.out]; have hb7 := drewN_below w6 j7)
    | (go_at_call 8; refine (rpCheck 0 0 (by decide) (by decide) _).mono ?_; rintro e w9 ⟨rfl, hb9⟩; rw [show (if Rg.right 0 0 then (0 : Int) else 1) = 1 by decide])
    | (go_at_call 14; refine (do_plain (HB.out.below hb7) 1 64 8 0 0 (by decide) (by rw [HNW.out]; decide)).mono ?_; rintro e w8 ⟨sl, rfl, hby, hst8⟩; rw [show Mb.ansV s1.m 1 64 8 = 16 from HT.out]; obtain ⟨Asl, csl, rfl, _⟩ := hby))
  go_ret
  have hb8 : Below w.heap.size w w8 := hst8.2.below (HLOW.out.trans (hb7.mono HLOW.out.size)) (Nat.le_trans HLOW.out.size hb7.size) fun k hk => by rcases hk with rfl | rfl <;> assumption
  have hb8a := hb8.alloc hb8.size (.cells #[.int .u64 (16 : Nat), .bool (Mb.ansD s1.m 1 64 8 0), .slice Asl (Mb.ansB s1.m 1 64 8).length csl] 33)
  exact ⟨rfl, hb8a.trans (hb9.mono hb8a.size)⟩
end Go.Proofs.YthpppoalnanmjaaGreat
namespace Go.Proofs.YthpppoalnanmjaaGreat
open Go.RowKit

/-- A row of L bytes in block g that may be written. -/
def PutRow (w : World) (g L : Nat) : Prop := ∃ cur, w.heap[g]? = some (.cells cur 5 (0, 0)) ∧ ∀ j, j < L → ∃ x, cur[j]? = some (.int .u8 x)

theorem PutRow.set {w : World} {g L i : Nat} (h : PutRow w g L) (y : Int) : PutRow (w.setCell ⟨g, i, none⟩ (.int .u8 y)) g L := by
  obtain ⟨cur, hb, hc⟩ := h
  refine ⟨_, blk_set hb _, fun j hj => ?_⟩
  obtain ⟨x, hx⟩ := hc j hj
  by_cases e : i = j
  · subst e
    exact ⟨y, by rw [Array.getElem?_setIfInBounds_self]; rw [if_pos (Array.getElem?_eq_some_iff.1 hx).1]⟩
  · exact ⟨x, by rw [Array.getElem?_setIfInBounds_ne e]; exact hx⟩

theorem PutRow.cell {w : World} {g L i : Nat} (h : PutRow w g L) (hi : i < L) : ∃ x, w.cell? ⟨g, i, none⟩ = some (.int .u8 x) ∧ w.frozen? ⟨g, i, none⟩ = false := by
  obtain ⟨cur, hb, hc⟩ := h
  obtain ⟨x, hx⟩ := hc i hi
  exact ⟨x, by simp [World.cell?, hb, hx], by simp [World.frozen?, hb]⟩

theorem Owns.putRow {base : Nat} {w : World} {A : Option Addr} {L c : Nat} {xs : List Int} (h : Owns base w (.slice A L c) xs) (hl : xs.length = L) (hp : 0 < L) : ∃ g, A = some ⟨g, 0, none⟩ ∧ base ≤ g ∧ g < w.heap.size ∧ PutRow w g L := by
  obtain ⟨g, cap, hv, _, _, hg, hgl, hc⟩ := h.form (by omega)
  injection hv with e1 _ _
  subst e1
  rcases h.2 with ⟨_, h0⟩ | ⟨g', cap', cur, hv', _, hh, _⟩
  · omega
  · injection hv' with e1 _ _
    injection e1 with e1
    injection e1 with e1 _
    subst e1
    refine ⟨g, rfl, hg, hgl, cur, hh, fun j hj => ?_⟩
    have := hc j (by omega)
    simp only [World.cell?, hh] at this
    exact ⟨_, this⟩

theorem ToldAt.less {w : World} {A : Option Addr} {n m : Nat} {T : Nat → Ans} (h : ToldAt w A n T) (hm : m ≤ n) : ToldAt w A m T := by
  intro hp
  obtain ⟨b, off, e, hlt, hc⟩ := h (by omega)
  exact ⟨b, off, e, hlt, fun i hi => hc i (by omega)⟩

set_option linter.unusedSimpArgs false in
set_option maxRecDepth 100000 in
set_option maxHeartbeats 4000000 in
theorem ringputSteps_main (B Z typ : Int) (hB : -9223372036854775808 ≤ B ∧ B ≤ 9223372036854775807) (hZ : -9223372036854775808 ≤ Z ∧ Z ≤ 9223372036854775807) (htyp2 : typ ≤ 2147483647) (Ab : Option Addr) (L c : Nat) (hLc : L ≤ c) (hc : c ≤ 9223372036854775807) (f : Nat → Nat) (hf : Mb.IsB f)
    (A : Option Addr) (M cap : Nat) (hM : M ≤ cap) (hcap : cap ≤ 9223372036854775807) (T : Nat → Ans) (w : World) (hby : BytesAt w (.slice Ab L c) (Mb.bl f 0 L)) (hT : ToldAt w A M T) (hL : L ≤ 1100) (hM2 : M ≤ 60) :
    Calls Tryz.prog 3 #[.agg #[.int .i64 B, .int .i64 Z], .int .i32 typ, .slice Ab L c, .slice A M cap] w (TrueBelow w) := by
  have HA := Lib.hid (And.intro hB (And.intro hZ (And.intro htyp2 (And.intro hLc (And.intro hc (And.intro hf (And.intro hM hcap)))))))
  have HB := Lib.hid hby
  have HT := Lib.hid hT
  clear hB hZ htyp2 hf hby hT
  go_enter Tryz.func3, Tryz.ntmps3
  go_wp2_with fail
  have hr0 := un_below w (.int .i64 B) (.int .i64 Z) 23
  have hx0 := Go.Deep.blk_alloc_new w (.cells #[.int .i64 B, .int .i64 Z] 23)
  have HR0 := Lib.hid hr0
  have HX0 := Lib.hid hx0
  have hsz0 : w.heap.size < (w.alloc (.cells #[.int .i64 B, .int .i64 Z] 23)).heap.size := by simp
  clear hr0 hx0
  generalize w.alloc (.cells #[.int .i64 B, .int .i64 Z] 23) = w0 at HR0 HX0 hsz0 ⊢
  refine (fixed7_any w0).mono ?_
  rintro e w1 ⟨rfl, hq1⟩
  have HW1 := Lib.hid (HR0.out.trans (hq1.mono HR0.out.size))
  have HX1 := Lib.hid ((hq1.block _ hsz0).trans HX0.out)
  have HB1 := Lib.hid ((HB.out.below HR0.out).below hq1)
  have hown := Lib.hid (own_empty w1)
  have hs1 := hq1.size
  clear hq1
  have hlen : (Mb.bl f 0 L).length = L := Mb.bl_length _ _ _
  have HLEN := Lib.hid hlen
  clear hlen
  go_upto_region 6 with (at_builtin; refine wpList_app_any rfl _ _ rfl w1.heap.size _ _ [] (Mb.bl f 0 L) rfl rfl hown.out (HB1.out.below ((Below.refl _ _).alloc (Nat.le_refl _) _)) (by have := HLEN.out; simp; omega) (by simp) ?_; intro v2 w2 happ)
  have hbel2 := happ.below hown.out ((Below.refl w1.heap.size w1).alloc (Nat.le_refl _) (.cells #[] 5)) (by simp)
  obtain ⟨A2, c2, rfl, _⟩ := happ.own.bytes
  have hxx := (hbel2.block _ (Nat.lt_of_lt_of_le hsz0 hs1)).trans HX1.out
  have r0 : w2.cell? ⟨w.heap.size, 0, none⟩ = some (.int .i64 B) := by simp [World.cell?, hxx]
  have r1 : w2.cell? ⟨w.heap.size, 1, none⟩ = some (.int .i64 Z) := by simp [World.cell?, hxx]
  clear hxx
  have ho2 := happ.own
  rw [List.nil_append, HLEN.out] at ho2 ⊢
  have HO2 := Lib.hid ho2
  have HW2 := Lib.hid (HW1.out.trans (hbel2.mono HW1.out.size))
  have HX2 := Lib.hid ((hbel2.block _ (Nat.lt_of_lt_of_le hsz0 hs1)).trans HX1.out)
  have hs2 := hbel2.size
  clear happ ho2 hbel2
  go_wp2_with fail
  refine (rpNew B Z typ HA.out.1 HA.out.2.1 HA.out.2.2.1 A2 L c2 f HA.out.2.2.2.2.2.1 w2 HO2.out.bytes).mono ?_
  rintro e w3 ⟨g, rfl, hp3, hb3⟩
  have HP3 := Lib.hid hp3
  have HO3 := Lib.hid (HO2.out.below hb3)
  have HW3 := Lib.hid (HW2.out.trans (hb3.mono HW2.out.size))
  have HX3 := Lib.hid ((hb3.block _ (by have := HW2.out.size; omega)).trans HX2.out)
  have hs3 := hb3.size
  clear hp3 hb3 r0 r1
  go_wp2_with fail
  go_loopw [32] (fun t wr => ∃ i : Nat, t = .int .i64 i ∧ i ≤ L ∧ Touch (fun q => (Value.slice A2 L c2).ownBlock = some q) w3 wr ∧ ∀ g2, A2 = some ⟨g2, 0, none⟩ → 0 < L → PutRow wr g2 L) (fun t _ => L - (intOf t).toNat)
  case atStart =>
    refine ⟨0, rfl, Nat.zero_le _, Touch.refl _ _, fun g2 hg2 hp => ?_⟩
    obtain ⟨g3, e3, _, _, hr⟩ := HO3.out.putRow HLEN.out hp
    rw [hg2] at e3
    injection e3 with e3
    injection e3 with e3
    rw [e3]
    exact hr
  case round =>
    obtain ⟨i, rfl, hi, htt, hrow⟩ := hrel
    by_cases hlt : i < L
    · obtain ⟨g2, rfl, hg2, hg3, _⟩ := HO3.out.putRow HLEN.out (by omega)
      have hr := hrow g2 rfl (by omega)
      obtain ⟨x, hcx, hfx⟩ := hr.cell hlt
      have HR := Lib.hid hr
      have HTT := Lib.hid htt
      have hg4 : (i : Int) < L := by omega
      clear hrow hr htt
      go_wp2
      go_roundw
      case rel =>
        exact ⟨i + 1, by go_num, by omega, HTT.out.setCell (p := ⟨g2, i, none⟩) rfl _, fun g5 e5 _ => by injection e5 with e5; injection e5 with e5; subst e5; exact HR.out.set _⟩
      case measure => simp [intOf]; omega
    · have hiL : (L : Int) ≤ i := by omega
      have hnear : ∀ q, (Value.slice A2 L c2).ownBlock = some q → w1.heap.size ≤ q ∧ q < w2.heap.size := fun q hq => HO2.out.ge hq
      have hs0 : w.heap.size < w1.heap.size := by omega
      have HP4 := Lib.hid (HP3.out.keep htt.size fun k hk => htt.block k hk.2 (fun h3 => by have := (hnear k h3).2; omega))
      have HX4 := Lib.hid ((htt.block _ (by omega) (fun h3 => by have := (hnear _ h3).1; omega)).trans HX3.out)
      have HW4 := Lib.hid (Touch.below HW3.out htt HW3.out.size (fun q hq => by have := (hnear q hq).1; omega))
      have hs4 := htt.size
      clear hnear htt hrow
      rename World => w4
      go_wp2_with fail
      go_loopw [44] (fun t wr => ∃ (i : Nat) (F : Nat → Prop), t = .int .i64 i ∧ i ≤ M ∧ Below w2.heap.size w4 wr ∧ PmAt wr F g ((Pm.new B Z typ f L).at T i) ∧ ∀ k, F k → w2.heap.size ≤ k ∧ k < wr.heap.size) (fun t _ => M - (intOf t).toNat)
      case atStart =>
        exact ⟨0, _, rfl, Nat.zero_le _, Below.refl _ _, HP4.out, fun k hk => ⟨hk.1, by omega⟩⟩
      case round =>
        obtain ⟨i, F, rfl, hi, hbel, hpm, hF⟩ := hrel
        have hrr := (hbel.block _ (by omega)).trans HX4.out
        have r0 : wr.cell? ⟨w.heap.size, 0, none⟩ = some (.int .i64 B) := by simp [World.cell?, hrr]
        have r1 : wr.cell? ⟨w.heap.size, 1, none⟩ = some (.int .i64 Z) := by simp [World.cell?, hrr]
        clear hrr
        have HBEL := Lib.hid hbel
        have HPM := Lib.hid hpm
        have HF := Lib.hid hF
        have HW := Lib.hid (HW4.out.trans (hbel.mono (by omega)))
        have hsz := hbel.size
        clear hbel hpm hF
        by_cases hlt : i < M
        · have hg5 : (i : Int) < M := by omega
          have hg6 : (0 : Int) ≤ i := by omega
          have hg7 : (i : Int) ≤ cap := by omega
          have HTW := Lib.hid (HT.out.below HW.out)
          have HYW := Lib.hid (HB.out.below HW.out)
          have hdr := (Below.refl wr.heap.size wr).drew
          have HSA := Lib.hid (same7_any B Z typ HA.out.1 HA.out.2.1 HA.out.2.2.1 Ab L c hLc hc f HA.out.2.2.2.2.2.1 cap i A (by omega) hcap T wr.drew (HYW.out.below hdr) ((HTW.out.less (Nat.le_of_lt hlt)).below hdr) (HPM.out.keep hdr.size fun k hk => hdr.block k (HF.out k hk).2) (fun k hk => Nat.lt_of_lt_of_le (HF.out k hk).2 hdr.size))
          clear hdr
          go_wp2_with fail
          go_region_held3 (fun w' => w'.cell? ⟨w.heap.size, 0, none⟩ = some (.int .i64 B) ∧ w'.cell? ⟨w.heap.size, 1, none⟩ = some (.int .i64 Z)) (go_keep)
            (first | (go_at_call 6; refine HSA.out.mono ?_; rintro e w6 ⟨rfl, hb6d⟩; have hb6 := below_drew hb6d; have k0 := (hb6.cell (p := ⟨w.heap.size, 0, none⟩) (lt_of_cell r0)).trans r0; have k1 := (hb6.cell (p := ⟨w.heap.size, 1, none⟩) (lt_of_cell r1)).trans r1))
          have HP6 := Lib.hid (HPM.out.keep hb6.size fun k hk => hb6.block k (HF.out k hk).2)
          have HT6 := HTW.out.below hb6
          have HW6 := Lib.hid (HW.out.trans (hb6.mono HW.out.size))
          have HE6 := Lib.hid (HBEL.out.trans (hb6.mono (by omega)))
          have hs6 := hb6.size
          obtain ⟨tb, tz, rfl, htb, htc⟩ := HT6 (by omega)
          obtain ⟨y0, y1, y2, hyi⟩ := htc i hlt
          have HYI := Lib.hid hyi
          have hlen9 : ((T i).L : Int) ≤ 9223372036854775807 := by have := hyi.room; have := hyi.few; omega
          clear htc hyi hb6 hb6d r0 r1 k0 k1
          go_wp2_with fail
          refine (putTake HP6.out (fun k hk => Nat.lt_of_lt_of_le (HF.out k hk).2 hs6) (T i).an HYI.out.num (T i).A (T i).L (T i).cap HYI.out.bytes).mono ?_
          rintro e w7 ⟨rfl, F7, hp7, ht7, hF7⟩
          have HP7 := Lib.hid hp7
          have HT7 := Lib.hid ht7
          have hs7 := ht7.size
          have HF7 := Lib.hid hF7
          clear hp7 ht7 hF7
          go_wp2
          go_roundw
          case rel =>
            refine ⟨i + 1, F7, by go_num, by omega, Touch.below HE6.out HT7.out (by omega) (fun q hq => (HF.out q hq).1), HP7.out, fun k hk => ?_⟩
            rcases HF7.out k hk with h | h
            · have := HF.out k h; omega
            · omega
          case measure => simp [intOf]; omega
        · have hge : (M : Int) ≤ i := by omega
          have hiM : i = M := by omega
          subst hiM
          have hdr := (Below.refl wr.heap.size wr).drew
          have HSA := Lib.hid (same7_any B Z typ HA.out.1 HA.out.2.1 HA.out.2.2.1 Ab L c hLc hc f HA.out.2.2.2.2.2.1 cap i A (by omega) hcap T wr.drew ((HB.out.below HW.out).below hdr) ((HT.out.below HW.out).below hdr) (HPM.out.keep hdr.size fun k hk => hdr.block k (HF.out k hk).2) (fun k hk => Nat.lt_of_lt_of_le (HF.out k hk).2 hdr.size))
          clear hdr
          obtain ⟨q, r, hCK, hRT, hqr⟩ : ∃ (q : Int) (r : Bool), (∀ W, Calls Tryz.prog 8 #[.agg #[.int .i64 B, .int .i64 Z]] W (Made (.int .i64 q) W)) ∧ (∀ W, Calls Tryz.prog 9 #[.agg #[.int .i64 B, .int .i64 Z]] W (Made (.bool r) W)) ∧ (q = 0 ∧ r = true ∨ q = 1 ∧ r = false) := by
            refine ⟨_, _, fun W => rpCheck B Z HA.out.1 HA.out.2.1 W, fun W => refRight_any B Z HA.out.1 HA.out.2.1 W, ?_⟩
            by_cases h : Rg.right B Z <;> simp [h]
          have HCK := Lib.hid hCK
          have HRT := Lib.hid hRT
          clear hCK hRT
          rcases hqr with ⟨rfl, rfl⟩ | ⟨rfl, rfl⟩
          all_goals
            go_wp2_with fail
            go_region_held3 (fun w' => w'.cell? ⟨w.heap.size, 0, none⟩ = some (.int .i64 B) ∧ w'.cell? ⟨w.heap.size, 1, none⟩ = some (.int .i64 Z)) (go_keep)
              (first | (go_at_call 6; refine HSA.out.mono ?_; rintro e w6 ⟨rfl, hb6d⟩; have hb6 := below_drew hb6d; have k0 := (hb6.cell (p := ⟨w.heap.size, 0, none⟩) (lt_of_cell r0)).trans r0; have k1 := (hb6.cell (p := ⟨w.heap.size, 1, none⟩) (lt_of_cell r1)).trans r1) | (go_at_call 8; refine (HCK.out _).mono ?_; rintro e w7 ⟨rfl, hb7⟩; have q0 := (hb7.cell (p := ⟨w.heap.size, 0, none⟩) (lt_of_cell k0)).trans k0; have q1 := (hb7.cell (p := ⟨w.heap.size, 1, none⟩) (lt_of_cell k1)).trans k1) | (go_at_call 9; refine (HRT.out _).mono ?_; rintro e w8 ⟨rfl, hb8⟩; have p0 := (hb8.cell (p := ⟨w.heap.size, 0, none⟩) (lt_of_cell q0)).trans q0; have p1 := (hb8.cell (p := ⟨w.heap.size, 1, none⟩) (lt_of_cell q1)).trans q1))
            have h7 := hb6.trans (hb7.mono hb6.size)
            have h8 := h7.trans (hb8.mono h7.size)
            have h9 := HW.out.trans (h8.mono HW.out.size)
            go_wp2
            go_ret
            exact ⟨rfl, h9⟩
end Go.Proofs.YthpppoalnanmjaaGreat
namespace Go.Proofs.YthpppoalnanmjaaGreat
open Go.ChangeShapes Go.WideShapes Go.ChangeAt Go.RowKit Go.Deep

theorem ringOne : Tryz.prog.cellsOf 23 = 2 := by kernel_rfl

set_option maxRecDepth 100000 in
theorem open_ring {H : Type} {enc : TypeId × Value → H} {W : World} {base : Nat} {v : Value} {d : DataW H} {ps : List MemPlace}
    (hv : Value.okWide Tryz.prog W .any base 23 v) (h : DataW.Trod enc Tryz.prog W 0 (fun _ => true) true 23 v d ps) :
    ∃ B Z : Int, v = .agg #[.int .i64 B, .int .i64 Z] ∧ (-9223372036854775808 ≤ B ∧ B ≤ 9223372036854775807) ∧ (-9223372036854775808 ≤ Z ∧ Z ≤ 9223372036854775807) := by
  obtain ⟨cs, rfl, hsz⟩ := okWide_struct Tryz.underlying23 hv
  obtain ⟨l⟩ := cs
  rw [ringOne] at hsz
  match l, hsz with
  | [v0, v1], _ =>
    obtain ⟨fuel, hf⟩ := h
    obtain ⟨xs, n, _, _, _, hlen, hg⟩ := DataW.trod_struct Tryz.underlying23 hf
    have g0 := hg 0 _ rfl
    have g1 := hg 1 _ rfl
    have cInt : Tryz.prog.cellsOf 3 = 1 := by kernel_rfl
    match xs, hlen with
    | [y0, y1], _ =>
      simp [Value.cells, cInt] at g0 g1
      obtain ⟨B, e0, _, w0⟩ := DataW.trod_int Tryz.underlying3 g0
      obtain ⟨Z, e1, _, w1⟩ := DataW.trod_int Tryz.underlying3 g1
      simp only [List.cons.injEq, and_true] at e0 e1
      subst e0 e1
      exact ⟨B, Z, rfl, i64_wide w0, i64_wide w1⟩

set_option linter.unusedSimpArgs false in
set_option maxRecDepth 100000 in
set_option maxHeartbeats 2000000 in
theorem ringputSteps_out (B Z typ : Int) (Ab : Option Addr) (L c : Nat) (A : Option Addr) (M cap : Nat) (w : World) (h : 1100 < L ∨ 60 < M) :
    Calls Tryz.prog 3 #[.agg #[.int .i64 B, .int .i64 Z], .int .i32 typ, .slice Ab L c, .slice A M cap] w (TrueBelow w) := by
  have hr0 := un_below w (.int .i64 B) (.int .i64 Z) 23
  by_cases h1 : 1100 < L
  · clear h
    have h1' : (1100 : Int) < L := by omega
    go_enter Tryz.func3, Tryz.ntmps3
    go_wp2_with fail
    generalize w.alloc (.cells #[.int .i64 B, .int .i64 Z] 23) = w0 at hr0 ⊢
    refine (fixed7_any w0).mono ?_
    rintro e w1 ⟨rfl, hq1⟩
    go_wp2_with fail
    go_ret
    exact ⟨rfl, hr0.trans (hq1.mono hr0.size)⟩
  · have h2 : 60 < M := by omega
    have h1' : (L : Int) ≤ 1100 := by omega
    have h2' : (60 : Int) < M := by omega
    clear h
    go_enter Tryz.func3, Tryz.ntmps3
    go_wp2_with fail
    generalize w.alloc (.cells #[.int .i64 B, .int .i64 Z] 23) = w0 at hr0 ⊢
    refine (fixed7_any w0).mono ?_
    rintro e w1 ⟨rfl, hq1⟩
    go_wp2_with fail
    go_ret
    exact ⟨rfl, hr0.trans (hq1.mono hr0.size)⟩

theorem ringputSteps_any (B Z typ : Int) (hB : -9223372036854775808 ≤ B ∧ B ≤ 9223372036854775807) (hZ : -9223372036854775808 ≤ Z ∧ Z ≤ 9223372036854775807) (htyp2 : typ ≤ 2147483647) (Ab : Option Addr) (L c : Nat) (hLc : L ≤ c) (hc : c ≤ 9223372036854775807) (f : Nat → Nat) (hf : Mb.IsB f)
    (A : Option Addr) (M cap : Nat) (hM : M ≤ cap) (hcap : cap ≤ 9223372036854775807) (T : Nat → Ans) (w : World) (hby : BytesAt w (.slice Ab L c) (Mb.bl f 0 L)) (hT : ToldAt w A M T) :
    Calls Tryz.prog 3 #[.agg #[.int .i64 B, .int .i64 Z], .int .i32 typ, .slice Ab L c, .slice A M cap] w (TrueBelow w) := by
  by_cases h : 1100 < L ∨ 60 < M
  · exact ringputSteps_out B Z typ Ab L c A M cap w h
  · exact ringputSteps_main B Z typ hB hZ htyp2 Ab L c hLc hc f hf A M cap hM hcap T w hby hT (by omega) (by omega)
end Go.Proofs.YthpppoalnanmjaaGreat
namespace Go.Proofs.YthpppoalnanmjaaGreat
open Go.ChangeShapes Go.WideShapes Go.ChangeAt Go.RowKit

set_option maxRecDepth 100000 in
theorem ringputSteps_lifted (os : Os) (started : os.Started) (H : Type) (enc : TypeId × Value → H) :
    ReturnsInHanded {} Tryz.checked os 3 .any (Rows.ringputStepsSpec.pre6 enc Tryz.prog Tryz.f3 Rows.ringputStepsRow.domain false) (Rows.ringputStepsSpec.post enc Tryz.prog Tryz.f3 false true false false) := by
  refine returnsInHanded_of_change (C := Tryz.checked) own started (by kernel_rfl) Tryz.func3
    (ChangeSpec.witness6 (enc := enc) (C := Tryz.checked) false ⟨#[], #[.agg #[.int .i64 0, .int .i64 0], .int .i32 0, .slice none 0 0, .slice none 0 0], []⟩ 8 (by kernel_rfl) (by kernel_rfl) (by kernel_rfl) (by kernel_rfl)) ?_
  intro W base args ds gs before hval0 hW _ _
  have hval : ∀ (j : Nat) t v, Tryz.f3.params[j]? = some t → args[j]? = some v → Value.okWide Tryz.prog W .any base t v := hval0
  have hW' := hW
  obtain ⟨p, q, hA0, hV, rfl, hfz, hnd⟩ := hW
  have hA : DataW.TrodAll enc Tryz.prog W 0 (fun _ => true) true Tryz.f3.params.toList args.toList ds p := hA0
  rw [Tryz.params3] at hA hval
  obtain ⟨v0, v1, v2, v3, d0, d1, d2, d3, p0, p1, p2, p3, rfl, rfl, rfl, h0, h1, h2, h3⟩ := trodAll_four hA
  obtain ⟨rfl, rfl⟩ := trodVars_none hV
  obtain ⟨B0, Z0, rfl, hB0, hZ0⟩ := open_ring (hval 0 23 v0 rfl rfl) h0
  obtain ⟨a1, rfl, rfl, rfl, wa1⟩ := open_int Tryz.underlying21 (hval 1 21 v1 rfl rfl) h1
  have k1 := bounds_i32 wa1
  obtain ⟨A2, L2, cap2, f2, rfl, hf2, hb2, hl2, hc2⟩ := open_bl (hval 2 24 v2 rfl rfl) h2
  obtain ⟨A3, L3, cap3, T3, rfl, hT3, hl3, hc3⟩ := open_answers (hval 3 25 v3 rfl rfl) h3
  clear hA0 hval0
  exact (ringputSteps_any B0 Z0 a1 hB0 hZ0 k1.2 A2 L2 cap2 hl2 hc2 f2 hf2 A3 L3 cap3 hl3 hc3 T3 W hb2 hT3).mono fun e W' ⟨he, hbel⟩ => ⟨_, he, law_post laidOut (by kernel_rfl) rfl Tryz.underlying4 rfl hW' rfl hbel⟩

theorem ringputSteps_row : Rows.RingputStepsSaid :=
  OpenClaim.holds_of_wide 3 Tryz.f3 rfl rfl rfl rfl rfl rfl rfl ⟨rfl, rfl, rfl, rfl, rfl⟩ rfl rfl rfl rfl rfl (by kernel_rfl) Tryz.func3 (by kernel_rfl)
    (of_decide_eq_true (by kernel_rfl)) (by unfold Func.isWrapper; first | (rw [if_pos (by decide +kernel)]; kernel_rfl) | (rw [if_neg (by decide +kernel)]; exact ⟨rfl, rfl⟩))
    (fun os started H enc _ => ringputSteps_lifted os started H enc)

theorem ringputSteps_holds : Rows.RingputStepsSaid := ringputSteps_row
end Go.Proofs.YthpppoalnanmjaaGreat
