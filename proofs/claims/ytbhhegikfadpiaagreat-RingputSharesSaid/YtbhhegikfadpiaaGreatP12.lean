/-
  Proved: for every list of bytes, every ring, type and list of bytes to put, and every list of writes of somebody else's the statement RingputShares (on a buffer that somebody else writes in between each access of a put, and all bytes, are the document's) answers true, and its arguments read as before.
  Conditions: none beyond the row's own.
-/
import Derived.Test.YtbhhegikfadpiaaGreatP11
import Derived.Test.YtbhhegikfadpiaaGreatP06
import Derived.Test.YtbhhegikfadpiaaGreatP10
import Derived.Test.YtbhhegikfadpiaaGreatP08
import Derived.Deep.RegionHeld3
import Derived.Test.YtbhhegikfadpiaaGreatP07
import Derived.Test.YtbhhegikfadpiaaGreatP03
namespace Go.Proofs.YtbhhegikfadpiaaGreat
open Go.RowKit

/-- A slice of n machines stands in memory: the interfaces' values. -/
def MsAt (w : World) (A : Option Addr) (n : Nat) (xs : Nat → Value) : Prop := 0 < n → ∃ b, A = some ⟨b, 0, none⟩ ∧ b < w.heap.size ∧ ∀ i, i < n → w.cell? ⟨b, i, none⟩ = some (xs i)

theorem MsAt.below {w w' : World} {A : Option Addr} {n : Nat} {xs : Nat → Value} (h : MsAt w A n xs) (hb : Below w.heap.size w w') : MsAt w' A n xs := fun hp => by
  obtain ⟨b, e, hl, hc⟩ := h hp
  exact ⟨b, e, Nat.lt_of_lt_of_le hl hb.size, fun i hi => (hb.cell (p := ⟨b, i, none⟩) hl).trans (hc i hi)⟩

/-- A new scheduler's state. -/
def St.made (n : Nat) (ms : Nat → Mc) (m : Nat → Nat) (nw : Nat) (c : Int) : St := ⟨n, ms, fun _ => false, m, nw, c, 0, []⟩

/-- A scheduler was made. -/
def MadeSw (o : Nat → Pt) (gb hb : Nat) (xs : Nat → Value) (st : St) (w : World) (e : Ending) (w' : World) : Prop :=
  ∃ gw ga o', e = .returned (.pointer (some ⟨gw, 0, none⟩)) ∧ w.heap.size ≤ gw ∧ Sw w' o' gw ga gb hb xs (.slice none 0 0) [] st ∧ Below w.heap.size w w' ∧ ∀ k, k < w.heap.size → o' k = o k

theorem infoActor : (Tryz.prog.info? 105).map (fun i => (i.zero, i.size, i.bytes)) = some (some (.agg #[.nilIface, .bool false]), 2, 24) := by kernel_rfl

theorem make_actors (n : Nat) (hn : n ≤ 1000) (W : World) :
    (Instr.makeSlice 98 (.int .i64 (n : Int)) (.int .i64 (n : Int))).run Tryz.prog W = .ok (.slice (some ⟨W.heap.size, 0, none⟩) n n) (W.alloc (.cells (madeCells #[.nilIface, .bool false] (n * 2)) 105)) := by
  obtain ⟨i, hi, hz, hs, hby⟩ := info_parts infoActor
  have hr := run_make (P := Tryz.prog) W 98 105 i (.agg #[.nilIface, .bool false]) Tryz.underlying98 hi hz .i64 .i64 (n : Int) (n : Int) (by omega) (Int.le_refl _) (by rw [hby]; omega) (by omega)
  rw [hs] at hr
  simpa [Value.cells] using hr

theorem made_actors (w : World) (n : Nat) : (w.alloc (.cells (madeCells #[.nilIface, .bool false] (n * 2)) 105)).rowIs w.heap.size 105 (2 * n) (acCell (fun _ => .nilIface) (fun _ => false)) :=
  ⟨_, Go.Deep.blk_alloc_new _ _, by rw [size_madeCells]; omega, fun i hi => by
    unfold acCell madeCells
    have hm : i % 2 < 2 := Nat.mod_lt _ (by decide)
    have hi2 : i < n * 2 := by omega
    simp [hi2]
    rcases Nat.mod_two_eq_zero_or_one i with e | e
    · simp [e]
    · simp [e]⟩

theorem acCell_set (ax : Nat → Value) (dead : Nat → Bool) (i : Nat) (x : Value) (j : Nat) : (if j = i * 2 then x else acCell ax dead j) = acCell (upd ax i x) dead j := by
  unfold acCell
  by_cases e : j = i * 2
  · subst e
    rw [if_pos rfl, if_pos (by omega), show i * 2 / 2 = i by omega, upd_same]
  · rw [if_neg e]
    by_cases e2 : j % 2 = 0
    · rw [if_pos e2, if_pos e2, upd_other _ _ _ (by omega)]
    · rw [if_neg e2, if_neg e2]

set_option maxRecDepth 100000 in
set_option maxHeartbeats 2000000 in
theorem schedNew_any {w : World} {o : Nat → Pt} {gb hb nw : Nat} {m : Nat → Nat} {c : Int} (B : Buf w gb hb m nw c) (A : Option Addr) (n cap : Nat) (xs : Nat → Value) (ms : Nat → Mc) (hn : n ≤ 1000) (hcap : n ≤ cap) (hcap2 : cap ≤ 9223372036854775807) (hl : MsAt w A n xs)
    (hm : ∀ i, i < n → MRep w (fun k => o k = .ma i) (xs i) (ms i)) (hog : o gb = .bf) (hoh : o hb = .bf) (hlt : ∀ k, o k ≠ .no → k < w.heap.size) :
    Calls Tryz.prog 20 #[.pointer (some ⟨gb, 0, none⟩), .slice A n cap] w (MadeSw o gb hb xs (St.made n ms m nw c) w) := by
  have hmk := make_actors n hn
  have HH := Lib.hid (And.intro B (And.intro hm (And.intro hog (And.intro hoh hlt))))
  have HL := Lib.hid hl
  have HN := Lib.hid hn
  clear B hm hog hoh hlt hl
  have ha := made_actors w n
  have e1 : (w.alloc (.cells (madeCells #[.nilIface, .bool false] (n * 2)) 105)).heap.size = w.heap.size + 1 := by simp
  have HB1 := (Below.refl w.heap.size w).alloc (Nat.le_refl _) (.cells (madeCells #[.nilIface, .bool false] (n * 2)) 105)
  go_enter Tryz.func20, Tryz.ntmps20
  go_wp2
  generalize hW1 : w.alloc (.cells (madeCells #[.nilIface, .bool false] (n * 2)) 105) = W1 at *
  have hh := Go.Deep.blk_alloc_new W1 (.cells #[.pointer (some ⟨gb, 0, none⟩), .slice (some ⟨w.heap.size, 0, none⟩) n n, .int .i64 0, .slice none 0 0] 101)
  rw [e1] at hh
  have ha2 := ha.alloc (.cells #[.pointer (some ⟨gb, 0, none⟩), .slice (some ⟨w.heap.size, 0, none⟩) n n, .int .i64 0, .slice none 0 0] 101)
  have HB2 := HB1.alloc HB1.size (.cells #[.pointer (some ⟨gb, 0, none⟩), .slice (some ⟨w.heap.size, 0, none⟩) n n, .int .i64 0, .slice none 0 0] 101)
  generalize W1.alloc (.cells #[.pointer (some ⟨gb, 0, none⟩), .slice (some ⟨w.heap.size, 0, none⟩) n n, .int .i64 0, .slice none 0 0] 101) = W2 at hh ha2 HB2 ⊢
  have HST := Lib.hid (And.intro hh (And.intro ha2 HB2))
  clear hmk hW1 ha HB1 hh ha2 HB2
  go_loopw [16] (fun t16 wr => ∃ (i : Nat) (ax : Nat → Value), t16 = .int .i64 i ∧ i ≤ n ∧ (∀ j, j < i → ax j = xs j) ∧ wr.heap[w.heap.size + 1]? = some (.cells #[.pointer (some ⟨gb, 0, none⟩), .slice (some ⟨w.heap.size, 0, none⟩) n n, .int .i64 0, .slice none 0 0] 101 (0, 0)) ∧ wr.rowIs w.heap.size 105 (2 * n) (acCell ax (fun _ => false)) ∧ Below w.heap.size w wr) (fun t16 _ => n - (intOf t16).toNat)
  case atStart => exact ⟨0, _, rfl, Nat.zero_le _, fun j hj => absurd hj (Nat.not_lt_zero _), HST.out.1, HST.out.2.1, HST.out.2.2⟩
  case round =>
    obtain ⟨i, ax, rfl, hi, hax, hhd, hrow, hbw⟩ := hrel
    have HAX := Lib.hid hax
    have HHD := Lib.hid (And.intro hhd (And.intro hrow hbw))
    by_cases hlt : i < n
    · obtain ⟨bl, rfl, hbl, hcl⟩ := HL.out (by omega)
      have hcx := (hbw.cell (p := ⟨bl, i, none⟩) hbl).trans (hcl i hlt)
      have hc1 : wr.cell? ⟨w.heap.size + 1, 1, none⟩ = some (.slice (some ⟨w.heap.size, 0, none⟩) n n) := by simp [World.cell?, hhd]
      have hr0 := hrow.cell (i := i * 2) (by omega)
      have hf0 := hrow.frozen (i * 2)
      have hsh := (HH.out.2.1 i hlt).shape
      generalize hx : xs i = x at hcx hsh
      have HX := Lib.hid hx
      clear hax hhd hrow hbw hcl hx
      rcases hsh with ⟨rfl, _⟩ | ⟨T, y, rfl⟩
      all_goals
        go_wp2
        go_roundw
        case rel =>
          refine ⟨i + 1, upd ax i (xs i), by go_num, by omega, fun j hj => ?_, blkF HHD.out.1 (by omega) _, (HHD.out.2.1.set (i * 2) _).congr fun j _ => ?_, HHD.out.2.2.setCell (p := ⟨w.heap.size, i * 2, none⟩) (Nat.le_refl _) _⟩
          · by_cases e : j = i
            · subst e; exact upd_same _ _ _
            · rw [upd_other _ _ _ e]; exact HAX.out j (by omega)
          · rw [HX.out]; exact acCell_set _ _ _ _ _
        case measure => simp [intOf]; omega
    · obtain rfl : i = n := by omega
      clear hax hhd hrow hbw
      go_wp2
      go_ret
      obtain ⟨hhd, hrow, hbw⟩ := HHD.out
      obtain ⟨B, hm, hog, hoh, hlk⟩ := HH.out
      have hsz := (Array.getElem?_eq_some_iff.1 hhd).1
      have hold : ∀ k, k < w.heap.size → claimed (claimed o w.heap.size (fun k => k = w.heap.size) .ac) w.heap.size (fun k => k = w.heap.size + 1) .wd k = o k := fun k hk => (claimed_old hk).trans (claimed_old hk)
      refine ⟨w.heap.size + 1, w.heap.size, claimed (claimed o w.heap.size (fun k => k = w.heap.size) .ac) w.heap.size (fun k => k = w.heap.size + 1) .wd, rfl, Nat.le_succ _, ⟨hhd, hrow.congr fun j hj => ?_, B.below hbw, fun j hj => ?_, ⟨World.ownsRow_nil _ _ _ _, fun t ht => absurd ht (by simp), fun k hk => absurd hk (by simp [Value.ownBlock])⟩, rfl, claimed_new (Nat.le_succ _) rfl, (claimed_not fun e => by omega).trans (claimed_new (Nat.le_refl _) rfl), (hold gb B.g_lt).trans hog, (hold hb B.h_lt).trans hoh, fun k hk => ?_, HN.out, fun e he => absurd he (by simp [St.made])⟩, hbw, hold⟩
      · unfold acCell
        by_cases e : j % 2 = 0
        · rw [if_pos e, if_pos e]; exact HAX.out _ (by omega)
        · rw [if_neg e, if_neg e]; rfl
      · exact ((hm j hj).keep hbw.size fun k hk => hbw.block k (hlk k (by rw [hk]; simp))).mono fun k hk => (hold k (hlk k (by rw [hk]; simp))).trans hk
      · by_cases e : w.heap.size ≤ k ∧ k = w.heap.size + 1
        · omega
        · rw [claimed_not e] at hk
          by_cases e2 : w.heap.size ≤ k ∧ k = w.heap.size
          · omega
          · rw [claimed_not e2] at hk
            have := hlk k hk
            omega
end Go.Proofs.YtbhhegikfadpiaaGreat
namespace Go.Proofs.YtbhhegikfadpiaaGreat
open Go.RowKit

/-- A scheduler stands; all that was below stands as it was. -/
structure Stood (w0 w : World) (o : Nat → Pt) (gw ga gb hb : Nat) (ax : Nat → Value) (st : St) : Prop where
  sw : ∃ tv ts, Sw w o gw ga gb hb ax tv ts st
  low : Below w0.heap.size w0 w
  out : ∀ k, k < w0.heap.size → o k = .no

namespace Stood
variable {w0 w w' : World} {o o' : Nat → Pt} {gw ga gb hb : Nat} {ax : Nat → Value} {st st' : St}
theorem below (h : Stood w0 w o gw ga gb hb ax st) (hb' : Below w.heap.size w w') : Stood w0 w' o gw ga gb hb ax st := by
  obtain ⟨⟨tv, ts, hs⟩, h1, h2⟩ := h
  exact ⟨⟨tv, ts, hs.below hb'⟩, h1.trans (hb'.mono h1.size), h2⟩
theorem alloc (h : Stood w0 w o gw ga gb hb ax st) (q : Obj) : Stood w0 (w.alloc q) o gw ga gb hb ax st := h.below ((Below.refl _ _).alloc (Nat.le_refl _) q)
theorem after (h : Stood w0 w o gw ga gb hb ax st) (ht : Touch (Own o) w w') (hs : ∃ tv ts, Sw w' o' gw ga gb hb ax tv ts st') (ho : ∀ k, k < w.heap.size → o' k = o k) : Stood w0 w' o' gw ga gb hb ax st' :=
  ⟨hs, ⟨ht.os.trans h.low.os, ht.tape.trans h.low.tape, ht.output.trans h.low.output, Nat.le_trans h.low.size ht.size, fun k hk => (ht.block k (Nat.lt_of_lt_of_le hk h.low.size) fun e => e (h.out k hk)).trans (h.low.block k hk)⟩,
    fun k hk => (ho k (Nat.lt_of_lt_of_le hk h.low.size)).trans (h.out k hk)⟩
theorem new_no (h : Stood w0 w o gw ga gb hb ax st) {k : Nat} (hk : w.heap.size ≤ k) : o k = .no := by
  obtain ⟨⟨tv, ts, hs⟩, _, _⟩ := h
  exact hs.new_no hk
end Stood

/-- A block that is nobody's keeps its cells. -/
theorem nobody_cell {w w' : World} {o : Nat → Pt} (ht : Touch (Own o) w w') {q : Addr} (hq : q.block < w.heap.size) (hn : o q.block = .no) : w'.cell? q = w.cell? q :=
  World.cell?_of_block (ht.block q.block hq fun e => e hn)
end Go.Proofs.YtbhhegikfadpiaaGreat
namespace Go.Proofs.YtbhhegikfadpiaaGreat
open Go.RowKit

/-- A put's machine, if it is one. -/
def Mc.putOf : Mc → Pm
  | .put m => m
  | _ => .dead 0 0
def Mc.isPut : Mc → Bool
  | .put _ => true
  | _ => false
theorem Mc.put_is {s : Mc} (h : s.isPut = true) : s = .put s.putOf := by
  cases s with
  | put m => rfl
  | _ => cases h

/-- The states. -/
def rx0 : St := St.made 1 (fun i => if i = 0 then .put (Pm.new 0 64 1 (fun _ => 0) 8) else .none) (fun _ => 0) 12 0
def rx1 : St := (rx0.robin 99).1
theorem rx_n : (rx0.robin 99).2 = 6 := by decide +kernel
theorem rx_is : (rx1.ms 0).isPut = true := by decide +kernel
theorem rx_res : (rx1.ms 0).putOf.result = (0, 0) := by decide +kernel
theorem rx_busy : (Pm.new 0 64 1 (fun _ => 0) 8).result = (0, 10) := by decide +kernel
theorem rx_tail : Mb.nm rx1.m 64 8 = 16 := by decide +kernel
theorem rx_len : rx0.tr.length + 99 ≤ 1000000 := by decide +kernel
theorem rx_nw : rx1.nw = 12 := by decide +kernel

/-- One put, of a new scheduler. -/
theorem fixed7_made {w0 w1 w3 : World} {g h gp : Nat} (B : Buf w1 g h (fun _ => 0) 12 0) (h1 : w0.heap.size ≤ g) (h2 : w0.heap.size ≤ h) (hb1 : Below w0.heap.size w0 w1) {m : Pm} {n2 : Nat} (hn2 : w1.heap.size ≤ n2)
    (hp : PmAt w3 (fun k => n2 ≤ k ∧ k < w3.heap.size) gp m) (hb3 : Below w1.heap.size w1 w3) :
    ∀ T, Calls Tryz.prog 20 #[.pointer (some ⟨g, 0, none⟩), .slice (some ⟨w3.heap.size, 0, none⟩) 1 1] (w3.alloc (.cells #[.iface 52 (.pointer (some ⟨gp, 0, none⟩))] T)) fun e w' => ∃ gw ga o', e = .returned (.pointer (some ⟨gw, 0, none⟩)) ∧ Stood w0 w' o' gw ga g h (fun i => if i = 0 then .iface 52 (.pointer (some ⟨gp, 0, none⟩)) else .nilIface) (St.made 1 (fun i => if i = 0 then .put m else .none) (fun _ => 0) 12 0) ∧ Below w3.heap.size w3 w' := by
  intro T
  have s1 := hb1.size
  have s3 := hb3.size
  have hgl := B.g_lt
  have hhl := B.h_lt
  have hba := (Below.refl w3.heap.size w3).alloc (Nat.le_refl _) (.cells #[.iface 52 (.pointer (some ⟨gp, 0, none⟩))] T)
  have e0 : (w3.alloc (.cells #[.iface 52 (.pointer (some ⟨gp, 0, none⟩))] T)).heap.size = w3.heap.size + 1 := by simp
  have x0 := Go.Deep.blk_alloc_new w3 (.cells #[.iface 52 (.pointer (some ⟨gp, 0, none⟩))] T)
  generalize w3.alloc (.cells #[.iface 52 (.pointer (some ⟨gp, 0, none⟩))] T) = w4 at *
  have B4 := (B.below hb3).below hba
  refine (schedNew_any B4 (some ⟨w3.heap.size, 0, none⟩) 1 1 (fun i => if i = 0 then .iface 52 (.pointer (some ⟨gp, 0, none⟩)) else .nilIface) (fun i => if i = 0 then .put m else .none) (by decide) (by decide) (by decide)
    (fun _ => ⟨w3.heap.size, rfl, by omega, fun i hi => ?_⟩) (o := fun k => if k = g ∨ k = h then .bf else if n2 ≤ k ∧ k < w3.heap.size then .ma 0 else .no) (fun i hi => ?_) ?_ ?_ (fun k hk => ?_)).mono ?_
  · match i, hi with
    | 0, _ => simp [World.cell?, x0]
  · match i, hi with
    | 0, _ =>
      refine MRep.mono (F := fun k => n2 ≤ k ∧ k < w3.heap.size) ⟨gp, rfl, hp.keep hba.size fun k hk => hba.block k hk.2⟩ fun k hk => ?_
      show (if _ then _ else _) = _
      rw [if_neg (by omega), if_pos hk]
  · exact if_pos (.inl rfl)
  · exact if_pos (.inr rfl)
  · by_cases e1 : k = g ∨ k = h
    · omega
    · rw [if_neg e1] at hk
      by_cases e2 : n2 ≤ k ∧ k < w3.heap.size
      · omega
      · rw [if_neg e2] at hk
        exact absurd rfl hk
  · rintro e w' ⟨gw, ga, o', rfl, _, hs, hbl, ho⟩
    have hbl2 : Below w3.heap.size w3 w' := hba.trans (hbl.mono (by omega))
    refine ⟨gw, ga, o', rfl, ⟨⟨_, _, hs⟩, (hb1.trans (hb3.mono s1)).trans (hbl2.mono (by omega)), fun k hk => ?_⟩, hbl2⟩
    rw [ho k (by omega)]
    show (if _ then _ else _) = _
    rw [if_neg (by omega), if_neg (by omega)]

set_option maxRecDepth 100000 in
set_option maxHeartbeats 2000000 in
theorem fixed7_any (w : World) : Calls Tryz.prog 15 #[] w (TrueBelow w) := by
  have hmk : ∀ W : World, (Instr.makeSlice 22 (.int .i64 8) (.int .i64 8)).run Tryz.prog W = .ok (.slice (some ⟨W.heap.size, 0, none⟩) 8 8) (W.alloc (.cells (madeCells #[.int .u8 0] 8) 5)) := make_bytes 8 (by decide)
  go_enter Tryz.func15, Tryz.ntmps15
  go_upto_region 2 with (go_at_call 6; refine (new_yes 96 12 _ (by decide) (by decide) (by decide) (by decide)).mono ?_; rintro e w1 ⟨g, h, rfl, B, hg, hh, hb1⟩)
  go_wp2_with fail
  have HZ := Lib.hid (zeros_made w1 8 (by decide)).bytes
  have hbz := (Below.refl w1.heap.size w1).alloc (Nat.le_refl _) (.cells (madeCells #[.int .u8 0] 8) 5)
  clear hmk
  generalize w1.alloc (.cells (madeCells #[.int .u8 0] 8) 5) = W at HZ hbz ⊢
  refine (rpNew 0 64 1 (by decide) (by decide) (by decide) _ 8 8 (fun _ => 0) Mb.zero_isB W HZ.out).mono ?_
  rintro e w3 ⟨gp, rfl, hp, hbp⟩
  have HP := Lib.hid hp
  have hb3 := hbz.trans (hbp.mono hbz.size)
  have hq3 := hbz.size
  have HQ := Lib.hid (And.intro hb3 (And.intro hb1 (And.intro hg hh)))
  clear hp hbp hbz
  go_upto_region 4 with (go_at_call 38; refine (putResult HP.out).mono ?_; rintro e w4 ⟨rfl, j4, rfl⟩; rw [rx_busy])
  have hbj := drewN_below w3 j4
  have hnew : ∀ T, _ := fixed7_made (w0 := w) (w1 := w1) (w3 := w3.drewN j4) (n2 := W.heap.size) B HQ.out.2.2.1 HQ.out.2.2.2 HQ.out.2.1 hq3 ((HP.out.keep hbj.size fun k hk => hbj.block k hk.2).wide fun k hk => ⟨hk.1, Nat.lt_of_lt_of_le hk.2 hbj.size⟩) (HQ.out.1.trans (hbj.mono HQ.out.1.size))
  have HNEW := Lib.hid hnew
  clear hnew hbj B HP hq3
  go_upto_region 5 with (first
    | (go_at_call 20; refine (HNEW.out _).mono ?_; rintro e w5 ⟨gw, ga, o5, rfl, hs5, hb5⟩)
    | (go_at_call 21; obtain ⟨⟨tv, ts, hsw⟩, hlw, hot⟩ := hs5; refine (robin_any (st := rx0) hsw 99 rx_len).mono ?_; rintro e w6 ⟨rfl, o6, tv6, ts6, hsw6, ht6, ho6⟩; rw [rx_n]))
  have hlow := (Stood.after ⟨⟨tv, ts, hsw⟩, hlw, hot⟩ ht6 ⟨tv6, ts6, hsw6⟩ ho6).low
  obtain ⟨s1, h1⟩ : ∃ s, s = rx1 := ⟨_, rfl⟩
  have hsw7 : Sw w6 o6 gw ga g h (fun i => if i = 0 then .iface 52 (.pointer (some ⟨gp, 0, none⟩)) else .nilIface) tv6 ts6 rx1 := hsw6
  rw [← h1] at hsw7
  have fis := h1 ▸ rx_is
  have fres := h1 ▸ rx_res
  have ftail := h1 ▸ rx_tail
  have fnw := h1 ▸ rx_nw
  have fna := h1 ▸ (show 0 < rx1.na by decide +kernel)
  have hm6 := hsw7.mach 0 fna
  have hbuf := hsw7.buf
  rw [Mc.put_is fis, if_pos rfl] at hm6
  obtain ⟨g', e', hp6⟩ := hm6
  injection e' with _ e'
  injection e' with e'
  injection e' with e'
  injection e' with e'
  subst e'
  have HP := Lib.hid hp6
  have HB := Lib.hid hbuf
  have HR := Lib.hid fres
  have HT := Lib.hid ftail
  have HNW := Lib.hid fnw
  have HLOW := Lib.hid hlow
  clear hp6 hbuf fres ftail fnw hlow hsw6 hsw7 h1 fis fna hsw hlw hot ht6 ho6 HNEW HQ hb5
  go_wp2_with (first
    | (go_at_call 38; refine (putResult HP.out).mono ?_; rintro e w7 ⟨rfl, j7, rfl⟩; rw [HR.out]; have hb7 := drewN_below w6 j7)
    | (go_at_call 27; refine (rpCheck 0 0 (by decide) (by decide) _).mono ?_; rintro e w9 ⟨rfl, hb9⟩; rw [show (if Rg.right 0 0 then (0 : Int) else 1) = 1 by decide])
    | (go_at_call 7; refine (do_plain (HB.out.below hb7) 1 64 8 0 0 (by decide) (by rw [HNW.out]; decide)).mono ?_; rintro e w8 ⟨sl, rfl, hby, hst8⟩; rw [show Mb.ansV s1.m 1 64 8 = 16 from HT.out]; obtain ⟨Asl, csl, rfl, _⟩ := hby))
  go_ret
  have hb8 : Below w.heap.size w w8 := hst8.2.below (HLOW.out.trans (hb7.mono HLOW.out.size)) (Nat.le_trans HLOW.out.size hb7.size) fun k hk => by rcases hk with rfl | rfl <;> assumption
  have hb8a := hb8.alloc hb8.size (.cells #[.int .u64 (16 : Nat), .bool (Mb.ansD s1.m 1 64 8 0), .slice Asl (Mb.ansB s1.m 1 64 8).length csl] 33)
  exact ⟨rfl, hb8a.trans (hb9.mono hb8a.size)⟩
end Go.Proofs.YtbhhegikfadpiaaGreat
namespace Go.Proofs.YtbhhegikfadpiaaGreat
open Go.RowKit

/-- A row of L bytes in block g that may be written. -/
def PutRow (w : World) (g L : Nat) : Prop := ∃ cur, w.heap[g]? = some (.cells cur 5 (0, 0)) ∧ ∀ j, j < L → ∃ x, cur[j]? = some (.int .u8 x)

theorem PutRow.set {w : World} {g L i : Nat} (h : PutRow w g L) (y : Int) : PutRow (w.setCell ⟨g, i, none⟩ (.int .u8 y)) g L := by
  obtain ⟨cur, hb, hc⟩ := h
  refine ⟨_, blk_set hb _, fun j hj => ?_⟩
  obtain ⟨x, hx⟩ := hc j hj
  by_cases e : i = j
  · subst e
    exact ⟨y, by rw [Array.getElem?_setIfInBounds_self]; rw [if_pos (Array.getElem?_eq_some_iff.1 hx).1]⟩
  · exact ⟨x, by rw [Array.getElem?_setIfInBounds_ne e]; exact hx⟩

theorem PutRow.cell {w : World} {g L i : Nat} (h : PutRow w g L) (hi : i < L) : ∃ x, w.cell? ⟨g, i, none⟩ = some (.int .u8 x) ∧ w.frozen? ⟨g, i, none⟩ = false := by
  obtain ⟨cur, hb, hc⟩ := h
  obtain ⟨x, hx⟩ := hc i hi
  exact ⟨x, by simp [World.cell?, hb, hx], by simp [World.frozen?, hb]⟩

theorem Owns.putRow {base : Nat} {w : World} {A : Option Addr} {L c : Nat} {xs : List Int} (h : Owns base w (.slice A L c) xs) (hl : xs.length = L) (hp : 0 < L) : ∃ g, A = some ⟨g, 0, none⟩ ∧ base ≤ g ∧ g < w.heap.size ∧ PutRow w g L := by
  obtain ⟨g, cap, hv, _, _, hg, hgl, hc⟩ := h.form (by omega)
  injection hv with e1 _ _
  subst e1
  rcases h.2 with ⟨_, h0⟩ | ⟨g', cap', cur, hv', _, hh, _⟩
  · omega
  · injection hv' with e1 _ _
    injection e1 with e1
    injection e1 with e1 _
    subst e1
    refine ⟨g, rfl, hg, hgl, cur, hh, fun j hj => ?_⟩
    have := hc j (by omega)
    simp only [World.cell?, hh] at this
    exact ⟨_, this⟩

theorem ToldAt.less {w : World} {A : Option Addr} {n m : Nat} {T : Nat → Ans} (h : ToldAt w A n T) (hm : m ≤ n) : ToldAt w A m T := by
  intro hp
  obtain ⟨b, off, e, hlt, hc⟩ := h (by omega)
  exact ⟨b, off, e, hlt, fun i hi => hc i (by omega)⟩

end Go.Proofs.YtbhhegikfadpiaaGreat
namespace Go.Proofs.YtbhhegikfadpiaaGreat
open Go.RowKit

theorem put_keeps {gp : Nat} {mm : Pm} : Keeps (fun W F => PmAt W F gp mm) := fun hs hb h => h.keep hs hb

theorem owns_cap {base l c : Nat} {w : World} {A : Option Addr} {xs : List Int} (h : Owns base w (.slice A l c) xs) : l = xs.length ∧ l ≤ c ∧ c ≤ 9223372036854775807 := by
  obtain ⟨h0, e | ⟨g, cap, cur, e, _, _, e2, e3, _⟩⟩ := h
  · obtain ⟨e1, e2⟩ := e
    injection e1 with _ e3 e4
    refine ⟨?_, by omega, by omega⟩
    rw [e3]
    simpa using e2.symm
  · injection e with _ e4 e5
    unfold maxLen at e3
    exact ⟨e4, by omega, by omega⟩

theorem putNextW {w : World} {F : Nat → Prop} {g : Nat} {m : Pm} (h : PmAt w F g m) (hF : ∀ k, F k → k < w.heap.size) {a : Ac} (ha : m.next = some a) :
    Calls Tryz.prog 17 #[.pointer (some ⟨g, 0, none⟩)] w (fun e w' => ∃ A c, e = .returned (.tuple #[.agg #[.int .i64 a.K, .int .i64 a.P, .int .i64 a.N, .int .u64 a.V, .int .u64 a.U, .slice A a.bs.length c], .bool true]) ∧ a.bs.length ≤ c ∧ c ≤ 9223372036854775807 ∧ Owns w.heap.size w' (.slice A a.bs.length c) a.bs ∧ Below w.heap.size w w') := by
  have := putNext h hF
  rw [ha] at this
  refine this.mono ?_
  rintro e w' ⟨hbl, A, l, c, rfl, ho⟩
  obtain ⟨e1, e2, e3⟩ := owns_cap ho
  subst e1
  exact ⟨A, c, rfl, e2, e3, ho, hbl⟩

theorem bl_from' (u : Nat → Nat) (a n : Nat) : Mb.bl u a n = Mb.bl (fun j => u (a + j)) 0 n := by
  unfold Mb.bl
  refine List.map_congr_left fun i _ => ?_
  rw [Nat.zero_add]

/-- What a put asks for: a word, or bytes to be written, in its ring or close behind it. -/
theorem Pm.shape {w : World} {F : Nat → Prop} {g : Nat} {m : Pm} (h : PmAt w F g m) {a : Ac} (ha : m.next = some a) {S : Nat} (hin : ∀ s, m = .live s → s.B + s.Z + s.L + 24 ≤ S) :
    ∃ (P N : Nat) (f' : Nat → Nat), a.P = (P : Int) ∧ a.N = (N : Int) ∧ a.bs = Mb.bl f' 0 a.bs.length ∧ ShAcc S a.K P N a.bs.length f' := by
  cases m with
  | dead Z er => cases ha
  | live s =>
    have hs := hin s rfl
    obtain ⟨A, L, c, a0, av, th, h1, h2, ok, h4, h5, h6, h7, h8⟩ := h
    obtain ⟨hp0, hz0, hz1, hb0, hb1, ht0, ht1, hfew, hB, hh, htl, hps⟩ := ok
    have okr : Rg.Ok s.B s.Z := ⟨hp0, hz0, hz1, hb0, hb1⟩
    have num : ∀ k : Int, 0 ≤ k → k ≤ 16 → ∃ P : Nat, s.num k = P ∧ P + 8 ≤ S := fun k _ _ => ⟨(s.num k).toNat, by unfold Rs.num Rg.num; omega, by unfold Rs.num Rg.num; omega⟩
    have spot : ∀ v : Int, ∃ P : Nat, s.spot v = P ∧ P + 8 ≤ S ∧ P + 1 ≤ s.B + s.Z := fun v => by
      have := okr.place_in v
      exact ⟨(s.spot v).toNat, by unfold Rs.spot Rg.spot; omega, by unfold Rs.spot Rg.spot; omega, by unfold Rs.spot Rg.spot; omega⟩
    have word : ∀ (K : Int) (P N : Nat) (V U : Nat), P + N ≤ S → (K = 1 ∨ K = 2 ∨ K = 4) → (N = 4 ∨ N = 8) → ∀ b : Ac, b = ⟨K, (P : Int), (N : Int), V, U, []⟩ → ∃ (P N : Nat) (f' : Nat → Nat), b.P = (P : Int) ∧ b.N = (N : Int) ∧ b.bs = Mb.bl f' 0 b.bs.length ∧ ShAcc S b.K P N b.bs.length f' := by
      rintro K P N V U h1 h2 h3 b rfl
      exact ⟨P, N, fun _ => 0, rfl, rfl, rfl, h1, .inl ⟨rfl, h2, h3⟩, Mb.zero_isB⟩
    have ha' : s.next = some a := ha
    unfold Rs.next at ha'
    unfold ThenIs at h7
    cases hph : s.ph with
    | fin => rw [hph] at ha'; cases ha'
    | ask => rw [hph] at ha'; injection ha' with e; obtain ⟨P, h1, h2⟩ := num 8 (by omega) (by omega); exact word 1 P 8 0 0 h2 (.inl rfl) (.inr rfl) a (by rw [← e, h1]; rfl)
    | tail => rw [hph] at ha'; injection ha' with e; obtain ⟨P, h1, h2⟩ := num 0 (by omega) (by omega); exact word 1 P 8 0 0 h2 (.inl rfl) (.inr rfl) a (by rw [← e, h1]; rfl)
    | head1 => rw [hph] at ha'; injection ha' with e; obtain ⟨P, h1, h2⟩ := num 16 (by omega) (by omega); exact word 1 P 8 0 0 h2 (.inl rfl) (.inr rfl) a (by rw [← e, h1]; rfl)
    | head2 gap => rw [hph] at ha'; injection ha' with e; obtain ⟨P, h1, h2⟩ := num 16 (by omega) (by omega); exact word 1 P 8 0 0 h2 (.inl rfl) (.inr rfl) a (by rw [← e, h1]; rfl)
    | copy1 => rw [hph] at ha'; injection ha' with e; obtain ⟨P, h1, h2⟩ := num 8 (by omega) (by omega); exact word 2 P 8 _ 0 h2 (.inr (.inl rfl)) (.inr rfl) a (by rw [← e, h1]; rfl)
    | copy2 gap => rw [hph] at ha'; injection ha' with e; obtain ⟨P, h1, h2⟩ := num 8 (by omega) (by omega); exact word 2 P 8 _ 0 h2 (.inr (.inl rfl)) (.inr rfl) a (by rw [← e, h1]; rfl)
    | cas pad => rw [hph] at ha'; injection ha' with e; obtain ⟨P, h1, h2⟩ := num 0 (by omega) (by omega); exact word 4 P 8 _ _ h2 (.inr (.inr rfl)) (.inr rfl) a (by rw [← e, h1]; rfl)
    | padd pad => rw [hph] at ha'; injection ha' with e; obtain ⟨P, h1, h2, _⟩ := spot s.t; exact word 2 P 8 _ 0 h2 (.inr (.inl rfl)) (.inr rfl) a (by rw [← e, h1]; rfl)
    | hdr => rw [hph] at ha'; injection ha' with e; obtain ⟨P, h1, h2, _⟩ := spot s.p; exact word 2 P 8 _ 0 h2 (.inr (.inl rfl)) (.inr rfl) a (by rw [← e, h1]; rfl)
    | len => rw [hph] at ha'; injection ha' with e; obtain ⟨P, h1, h2, _⟩ := spot s.p; exact word 2 P 4 _ 0 (by omega) (.inr (.inl rfl)) (.inl rfl) a (by rw [← e, h1]; rfl)
    | byt d =>
      rw [hph] at ha' h7
      obtain ⟨_, _, _, _, _, _, _, _, _, _, _, _, _, _, _, _, _, hdl⟩ := h7
      injection ha' with e
      obtain ⟨P, h1, h2, h3⟩ := spot s.p
      have hn := Cy.nx_le (s.L - d)
      have hn0 := Cy.nx_pos (r := s.L - d) (by omega)
      have hlen : a.bs.length = Cy.nx (s.L - d) := by rw [← e]; exact Mb.bl_length _ _ _
      refine ⟨P + 8 + d, Cy.nx (s.L - d), fun j => s.f (d + j), ?_, by rw [← e], ?_, ?_⟩
      · rw [← e]
        show s.spot s.p + 8 + (d : Int) = _
        rw [h1]
        omega
      · rw [hlen, ← bl_from', ← e]
      · rw [hlen]
        refine ⟨by omega, .inr ⟨by rw [← e], rfl, by omega, by omega⟩, fun j => hB _⟩

/-- The ring of a put, and its length, stay. -/
def Kp (s s' : Rs) : Prop := s'.B = s.B ∧ s'.Z = s.Z ∧ s'.L = s.L
theorem Kp.trans {a b c : Rs} (h : Kp a b) (k : Kp b c) : Kp a c := ⟨k.1.trans h.1, k.2.1.trans h.2.1, k.2.2.trans h.2.2⟩
theorem Kp.ite {c : Prop} [Decidable c] {s a b : Rs} (ha : Kp s a) (hb : Kp s b) : Kp s (if c then a else b) := by
  by_cases h : c
  · rw [if_pos h]; exact ha
  · rw [if_neg h]; exact hb
theorem Kp.refl (s : Rs) : Kp s s := ⟨rfl, rfl, rfl⟩
theorem Kp.h (s : Rs) (v : Int) : Kp s { s with h := v } := ⟨rfl, rfl, rfl⟩
theorem Kp.t (s : Rs) (v : Int) : Kp s { s with t := v } := ⟨rfl, rfl, rfl⟩
theorem Kp.ph (s : Rs) (v : Ph) : Kp s { s with ph := v } := ⟨rfl, rfl, rfl⟩
theorem Kp.hp (s : Rs) (v : Int) (p : Ph) : Kp s { s with h := v, ph := p } := ⟨rfl, rfl, rfl⟩
theorem Kp.tp (s : Rs) (v : Int) (p : Ph) : Kp s { s with t := v, ph := p } := ⟨rfl, rfl, rfl⟩
theorem Kp.he (s : Rs) (v : Int) (p : Ph) (e : Int) : Kp s { s with h := v, ph := p, er := e } := ⟨rfl, rfl, rfl⟩
theorem Kp.pc (s : Rs) (v : Int) (c : Bool) (p : Ph) : Kp s { s with p := v, cl := c, ph := p } := ⟨rfl, rfl, rfl⟩
theorem Kp.choose (s : Rs) : Kp s s.choose := by
  unfold Rs.choose
  exact Kp.ite (Kp.ph s _) (Kp.ite (Kp.ph s _) (Kp.ph s _))
theorem Kp.take (s : Rs) (x : An) : Kp s (s.take x) := by
  unfold Rs.take
  cases hph : s.ph with
  | ask => exact Kp.hp s _ _
  | tail => exact Kp.ite ((Kp.t s _).trans (Kp.choose _)) (Kp.tp s _ _)
  | head1 => exact Kp.ite (Kp.hp s _ _) (Kp.he s _ _ _)
  | copy1 => exact Kp.choose s
  | head2 gap => exact Kp.ite (Kp.hp s _ _) (Kp.he s _ _ _)
  | copy2 gap => exact Kp.ph s _
  | cas pad => exact Kp.ite (Kp.ph s _) (Kp.ite (Kp.pc s _ _ _) (Kp.pc s _ _ _))
  | padd pad => exact Kp.ph s _
  | hdr => exact Kp.ite (Kp.ph s _) (Kp.ph s _)
  | byt d => exact Kp.ite (Kp.ph s _) (Kp.ph s _)
  | len => exact Kp.ph s _
  | fin => exact Kp.refl s
theorem Rs.take_BZL (s : Rs) (x : An) : (s.take x).B = s.B ∧ (s.take x).Z = s.Z ∧ (s.take x).L = s.L := Kp.take s x

theorem Pm.at_in {B Z typ : Int} {f : Nat → Nat} {L S : Nat} {T : Nat → Ans} (hin : B.toNat + Z.toNat + L + 24 ≤ S) : ∀ n s, (Pm.new B Z typ f L).at T n = .live s → s.B + s.Z + s.L + 24 ≤ S := by
  have key : ∀ n, ∀ s, (Pm.new B Z typ f L).at T n = .live s → s.B = B.toNat ∧ s.Z = Z.toNat ∧ s.L = L := by
    intro n
    induction n with
    | zero =>
      intro s hs
      have hs' : Pm.new B Z typ f L = .live s := hs
      unfold Pm.new at hs'
      by_cases h1 : ¬ Rg.right B Z ∨ typ < 1
      · rw [if_pos h1] at hs'; cases hs'
      · rw [if_neg h1] at hs'
        by_cases h2 : Z < 8 * (L : Int)
        · rw [if_pos h2] at hs'; cases hs'
        · rw [if_neg h2] at hs'
          injection hs' with hs'
          subst hs'
          exact ⟨rfl, rfl, rfl⟩
    | succ n ih =>
      intro s hs
      cases hm : (Pm.new B Z typ f L).at T n with
      | dead Z2 er =>
        have h2 : ((Pm.new B Z typ f L).at T n).take (T n).an = .live s := hs
        rw [hm] at h2
        cases h2
      | live s0 =>
        have h2 := Pm.at_succ hm
        rw [hs] at h2
        injection h2 with h2
        obtain ⟨e1, e2, e3⟩ := ih s0 hm
        obtain ⟨g1, g2, g3⟩ := s0.take_BZL (T n).an
        rw [h2]
        exact ⟨g1.trans e1, g2.trans e2, g3.trans e3⟩
  intro n s hs
  obtain ⟨e1, e2, e3⟩ := key n s hs
  omega

theorem Pm.at_congr {m : Pm} {T T' : Nat → Ans} {i : Nat} (h : ∀ j, j < i → T j = T' j) : m.at T i = m.at T' i := by
  induction i with
  | zero => rfl
  | succ i ih =>
    show (m.at T i).take (T i).an = (m.at T' i).take (T' i).an
    rw [ih fun j hj => h j (by omega), h i (by omega)]

/-- A step of a put beside a buffer and plain bytes. -/
theorem putStep {w : World} {F : Nat → Prop} {g : Nat} {m : Pm} (h : PmAt w F g m) (hF : ∀ k, F k → k < w.heap.size) {a : Ac} (ha : m.next = some a) {nw : Nat} {u : Nat → Nat} (hu : Mb.IsB u) (hnw : 8 * nw ≤ 1000000) (hin : ∀ s, m = .live s → s.B + s.Z + s.L + 24 ≤ 8 * nw) :
    ∃ (K : Int) (P N V U L : Nat) (f : Nat → Nat) (er : Int) (v : Nat) (d : Bool) (u2 : Nat → Nat), v < 18446744073709551616 ∧ Mb.IsB u2 ∧
      Calls Tryz.prog 17 #[.pointer (some ⟨g, 0, none⟩)] w (fun e w' => ∃ A cap, e = .returned (.tuple #[.agg #[.int .i64 K, .int .i64 P, .int .i64 N, .int .u64 V, .int .u64 U, .slice A L cap], .bool true]) ∧ Owns w.heap.size w' (.slice A L cap) (Mb.bl f 0 L) ∧ Below w.heap.size w w' ∧
        (∀ (W : World) (g h : Nat) (c : Int), Buf W g h u nw c → BytesAt W (.slice A L cap) (Mb.bl f 0 L) →
          Calls Tryz.prog 7 #[.pointer (some ⟨g, 0, none⟩), .agg #[.int .i64 K, .int .i64 P, .int .i64 N, .int .u64 V, .int .u64 U, .slice A L cap]] W
            fun e W' => ∃ A2 c2 c', e = .returned (.tuple #[.agg #[.int .u64 v, .bool d, .slice A2 0 c2], .int .i64 er]) ∧ Buf W' g h u2 nw c' ∧ Touch (Two g h) W W') ∧
        (∀ (W : World) (q : Nat), PlainAt W q (8 * nw) u → BytesAt W (.slice A L cap) (Mb.bl f 0 L) →
          Calls Tryz.prog 10 #[.slice (some ⟨q, 0, none⟩) ((8 * nw : Nat)) ((8 * nw : Nat)), .agg #[.int .i64 K, .int .i64 P, .int .i64 N, .int .u64 V, .int .u64 U, .slice A L cap]] W
            fun e W' => e = .returned (.tuple #[.agg #[.int .u64 v, .bool d, .slice none 0 0], .int .i64 er]) ∧ PlainAt W' q (8 * nw) u2 ∧ Touch (Lone q) W W')) := by
  obtain ⟨hV, hU, _⟩ := Pm.fine h ha
  obtain ⟨P, N, f, hP, hN, hbs, hacc⟩ := Pm.shape h ha hin
  have hnx := putNextW h hF ha
  obtain ⟨K, P', N', V, U, bs⟩ := a
  simp only at hV hU hP hN hbs hacc hnx
  subst hP hN
  obtain ⟨L, hL⟩ : ∃ L, L = bs.length := ⟨_, rfl⟩
  rw [← hL] at hbs hacc hnx
  subst hbs
  obtain ⟨er, v, d, u2, hv, hu2, hpair⟩ := shPair (f := f) hu hnw hacc hV hU
  refine ⟨K, P, N, V, U, L, f, er, v, d, u2, hv, hu2, hnx.mono ?_⟩
  rintro e w' ⟨A, cap, rfl, hc1, hc2, ho, hb⟩
  obtain ⟨h1, h2⟩ := hpair A cap hc1 hc2
  exact ⟨A, cap, rfl, ho, hb, fun W g h c B hb => h1 B hb, fun W q hr hb => h2 hr hb⟩

/-- The answers that were told have no bytes of their own. -/
def Bare (n : Nat) (T : Nat → Ans) : Prop := ∀ j, j < n → (T j).V < 18446744073709551616 ∧ T j = ⟨(T j).V, (T j).D, none, 0, 0, fun _ => 0⟩
theorem Bare.is {n : Nat} {T : Nat → Ans} (h : Bare n T) (w : World) : ∀ i, i < n → (T i).Is w := fun i hi => by
  obtain ⟨h1, h2⟩ := h i hi
  rw [h2]
  exact ⟨h1, Mb.zero_isB, ⟨none, 0, rfl, fun h => absurd h (by simp [Mb.bl])⟩, Nat.le_refl _, by show (0 : Nat) ≤ _; omega⟩

theorem zero_row512 (w : World) : PlainAt (w.alloc (.cells (madeCells #[.int .u8 0] 512) 5)) w.heap.size 512 (fun _ => 0) := World.rowIs_made w (.int .u8 0) 512 5
end Go.Proofs.YtbhhegikfadpiaaGreat
namespace Go.Proofs.YtbhhegikfadpiaaGreat
open Go.RowKit

/-- A scheduler of one machine x stands; but for the buffer's two blocks nothing has turned since w1. -/
def OneAt (w1 w : World) (gw g h : Nat) (x : Value) (st : St) : Prop :=
  ∃ ga o, (∃ tv ts, Sw w o gw ga g h (fun i => if i = 0 then x else .nilIface) tv ts st) ∧ Touch (Two g h) w1 w ∧ ∀ k, k < w1.heap.size → k ≠ g → k ≠ h → o k = .no

theorem OneAt.buf {w1 w : World} {gw g h : Nat} {x : Value} {st : St} (hs : OneAt w1 w gw g h x st) : Buf w g h st.m st.nw st.c := by
  obtain ⟨ga, o, ⟨tv, ts, hs⟩, _⟩ := hs
  exact hs.buf
theorem OneAt.mach {w1 w : World} {gw g h : Nat} {x : Value} {st : St} (hs : OneAt w1 w gw g h x st) (hn : 0 < st.na) : ∃ F : Nat → Prop, MRep w F x (st.ms 0) ∧ ∀ k, F k → k < w.heap.size := by
  obtain ⟨ga, o, ⟨tv, ts, hs⟩, _⟩ := hs
  have h0 := hs.mach 0 hn
  rw [if_pos rfl] at h0
  exact ⟨_, h0, fun k hk => hs.lt k (by rw [hk]; simp)⟩
theorem OneAt.touch {w1 w : World} {gw g h : Nat} {x : Value} {st : St} (hs : OneAt w1 w gw g h x st) : Touch (Two g h) w1 w := by
  obtain ⟨ga, o, _, ht, _⟩ := hs
  exact ht

theorem oneNew {w1 w3 : World} {g h : Nat} {m : Nat → Nat} {nw : Nat} {c : Int} (B : Buf w1 g h m nw c) {T0 : TypeId} {y : Value} {mc : Mc} (hp : MRep w3 (fun k => w1.heap.size ≤ k ∧ k < w3.heap.size) (.iface T0 y) mc) (hb3 : Below w1.heap.size w1 w3) :
    ∀ T, Calls Tryz.prog 20 #[.pointer (some ⟨g, 0, none⟩), .slice (some ⟨w3.heap.size, 0, none⟩) 1 1] (w3.alloc (.cells #[.iface T0 y] T)) fun e w' => ∃ gw, e = .returned (.pointer (some ⟨gw, 0, none⟩)) ∧ OneAt w1 w' gw g h (.iface T0 y) (St.made 1 (fun i => if i = 0 then mc else .none) m nw c) := by
  intro T
  have s3 := hb3.size
  have hgl := B.g_lt
  have hhl := B.h_lt
  have hba := (Below.refl w3.heap.size w3).alloc (Nat.le_refl _) (.cells #[.iface T0 y] T)
  have e0 : (w3.alloc (.cells #[.iface T0 y] T)).heap.size = w3.heap.size + 1 := by simp
  have x0 := Go.Deep.blk_alloc_new w3 (.cells #[.iface T0 y] T)
  generalize w3.alloc (.cells #[.iface T0 y] T) = w4 at *
  have B4 := (B.below hb3).below hba
  refine (schedNew_any B4 (some ⟨w3.heap.size, 0, none⟩) 1 1 (fun i => if i = 0 then .iface T0 y else .nilIface) (fun i => if i = 0 then mc else .none) (by decide) (by decide) (by decide)
    (fun _ => ⟨w3.heap.size, rfl, by omega, fun i hi => ?_⟩) (o := fun k => if k = g ∨ k = h then .bf else if w1.heap.size ≤ k ∧ k < w3.heap.size then .ma 0 else .no) (fun i hi => ?_) ?_ ?_ (fun k hk => ?_)).mono ?_
  · match i, hi with
    | 0, _ => simp [World.cell?, x0]
  · match i, hi with
    | 0, _ =>
      refine MRep.mono (F := fun k => w1.heap.size ≤ k ∧ k < w3.heap.size) (hp.keep hba.size fun k hk => hba.block k hk.2) fun k hk => ?_
      show (if _ then _ else _) = _
      rw [if_neg (by omega), if_pos hk]
  · exact if_pos (.inl rfl)
  · exact if_pos (.inr rfl)
  · by_cases e1 : k = g ∨ k = h
    · omega
    · rw [if_neg e1] at hk
      by_cases e2 : w1.heap.size ≤ k ∧ k < w3.heap.size
      · omega
      · rw [if_neg e2] at hk
        exact absurd rfl hk
  · rintro e w' ⟨gw, ga, o', rfl, _, hs, hbl, ho⟩
    have hbl2 : Below w3.heap.size w3 w' := hba.trans (hbl.mono (by omega))
    refine ⟨gw, rfl, ga, o', ⟨_, _, hs⟩, Touch.of_below (hb3.trans (hbl2.mono s3)), fun k hk hg hh => ?_⟩
    rw [ho k (by omega)]
    show (if _ then _ else _) = _
    rw [if_neg (by omega), if_neg (by omega)]

theorem oneRobin {w1 w : World} {gw g h : Nat} {x : Value} {st : St} (hs : OneAt w1 w gw g h x st) (most : Nat) (hlong : st.tr.length + most ≤ 1000000) :
    Calls Tryz.prog 21 #[.pointer (some ⟨gw, 0, none⟩), .int .i64 most] w fun e w' => e = .returned (.int .i64 (st.robin most).2) ∧ OneAt w1 w' gw g h x (st.robin most).1 := by
  obtain ⟨ga, o, ⟨tv, ts, hs⟩, ht, ho⟩ := hs
  refine (robin_any hs most hlong).mono ?_
  rintro e w' ⟨rfl, o', tv', ts', hs', ht', ho'⟩
  refine ⟨rfl, ga, o', ⟨tv', ts', hs'⟩, ⟨ht'.os.trans ht.os, ht'.tape.trans ht.tape, ht'.output.trans ht.output, Nat.le_trans ht.size ht'.size, fun k hk hn => (ht'.block k (Nat.lt_of_lt_of_le hk ht.size) fun e => ?_).trans (ht.block k hk hn)⟩, fun k hk hg hh => ?_⟩
  · have h0 := ho k hk (fun e => hn (.inl e)) (fun e => hn (.inr e))
    exact e h0
  · rw [ho' k (Nat.lt_of_lt_of_le hk ht.size)]
    exact ho k hk hg hh

theorem rg_cells (w : World) (B Z : Int) :
    (w.alloc (.cells #[.int .i64 B, .int .i64 Z] 26)).cell? ⟨w.heap.size, 0, none⟩ = some (.int .i64 B) ∧ (w.alloc (.cells #[.int .i64 B, .int .i64 Z] 26)).cell? ⟨w.heap.size, 1, none⟩ = some (.int .i64 Z) := by
  have h := Go.Deep.blk_alloc_new w (.cells #[.int .i64 B, .int .i64 Z] 26)
  refine ⟨?_, ?_⟩ <;> (unfold World.cell?; simp only [h]; rfl)
end Go.Proofs.YtbhhegikfadpiaaGreat
namespace Go.Proofs.YtbhhegikfadpiaaGreat
open Go.RowKit

theorem write_ok {S : Int} {P : Nat} {N : Nat} (hN : N ≤ 8) (h : (P : Int) + N ≤ S) : chk S 6 P N N = 0 := chk_writes hN h

set_option linter.unusedSimpArgs false in
set_option maxRecDepth 100000 in
set_option maxHeartbeats 8000000 in
theorem ringputShares_main (A1 : Option Addr) (L1 cp1 : Nat) (f1 : Nat → Nat) (hf1 : Mb.IsB f1) (bb bq : Nat) (typ : Int) (hty : typ ≤ 2147483647) (A2 : Option Addr) (L2 cp2 : Nat) (hL2 : L2 ≤ cp2) (hcp2 : cp2 ≤ 9223372036854775807) (f2 : Nat → Nat) (hf2 : Mb.IsB f2) (A3 : Option Addr) (M cp3 : Nat) (hM : M ≤ cp3) (hcp3 : cp3 ≤ 9223372036854775807) (O : Nat → Ow) (w : World)
    (hby : BytesAt w (.slice A1 L1 cp1) (Mb.bl f1 0 L1)) (hby2 : BytesAt w (.slice A2 L2 cp2) (Mb.bl f2 0 L2)) (hO : OwsAt w A3 M O) (hL1 : L1 ≤ 400) (hL60 : L2 ≤ 60) (hM2 : M ≤ 150) (B Z : Nat) (hB : B ≤ 64) (hbq : (8 : Int) * ((bb : Int) % 9) = (B : Int)) (hZ : Z = 64 ∨ Z = 128 ∨ Z = 256) (hzq : wrap64 (64 * 2 ^ (bq % 3)) = (Z : Int)) :
    Calls Tryz.prog 4 #[.slice A1 L1 cp1, .int .u8 bb, .int .u8 bq, .int .i32 typ, .slice A2 L2 cp2, .slice A3 M cp3] w (TrueBelow w) := by
  have HBY := Lib.hid hby
  have HBY2 := Lib.hid hby2
  have HO := Lib.hid hO
  have HF1 := Lib.hid hf1
  have HM := Lib.hid (And.intro hM hcp3)
  have HA := Lib.hid (And.intro hty (And.intro hL2 (And.intro hcp2 (And.intro hf2 hB))))
  have hL1' : (L1 : Int) ≤ 400 := by omega
  have hL2' : (L2 : Int) ≤ 60 := by omega
  have hM2' : (M : Int) ≤ 150 := by omega
  have hmk : ∀ W : World, (Instr.makeSlice 22 (.int .i64 512) (.int .i64 512)).run Tryz.prog W = .ok (.slice (some ⟨W.heap.size, 0, none⟩) 512 512) (W.alloc (.cells (madeCells #[.int .u8 0] 512) 5)) := make_bytes 512 (by decide)
  have HZ0 := Lib.hid hZ
  have HZQ := Lib.hid hzq
  have HBQ := Lib.hid hbq
  have HLN : Hid (B ≤ 64 ∧ Z ≤ 256 ∧ L2 ≤ 60 ∧ B + Z + L2 + 24 ≤ 8 * 64) := Lib.hid ⟨hB, by omega, hL60, by omega⟩
  clear hby hby2 hO hf1 hf2 hZ hzq hbq hM hcp3 hty hL2 hcp2 hB hL60
  go_enter Tryz.func4, Tryz.ntmps4
  go_wp2_with fail
  refine (fixed7_any w).mono ?_
  rintro e w1 ⟨rfl, hq1⟩
  have HW1 := Lib.hid hq1
  have hsw1 := hq1.size
  clear hq1
  go_upto_region 6 with (fail)
  simp only [HZQ.out, HBQ.out]
  have hrb := un_below w1 (.int .i64 B) (.int .i64 Z) 26
  obtain ⟨r0, r1⟩ := rg_cells w1 B Z
  have hsz2 : (w1.alloc (.cells #[.int .i64 B, .int .i64 Z] 26)).heap.size = w1.heap.size + 1 := by simp
  generalize w1.alloc (.cells #[.int .i64 B, .int .i64 Z] 26) = w2 at hrb r0 r1 hsz2 ⊢
  go_upto_region 7 with (go_at_call 6; refine (new_yes 512 64 w2 (by decide) (by decide) (by decide) (by decide)).mono ?_; rintro e w3 ⟨gb, hb, rfl, hB3, hgb, hhb, hb3⟩)
  have q0 := (hb3.cell (p := ⟨w1.heap.size, 0, none⟩) (lt_of_cell r0)).trans r0
  have q1 := (hb3.cell (p := ⟨w1.heap.size, 1, none⟩) (lt_of_cell r0)).trans r1
  have HW3 := Lib.hid ((HW1.out.trans (hrb.mono hsw1)).trans (hb3.mono (by have := hrb.size; omega)))
  have hs3 := hb3.size
  have HB3 := Lib.hid hB3
  have hgl3 := hB3.g_lt
  have hhl3 := hB3.h_lt
  clear r0 r1 hrb hb3 hB3
  go_upto_region 8 with (fail)
  have hb4 := (Below.refl w3.heap.size w3).alloc (Nat.le_refl _) (.cells (madeCells #[.int .u8 0] 512) 5)
  have hrow4 := zero_row512 w3
  have hsz4 : (w3.alloc (.cells (madeCells #[.int .u8 0] 512) 5)).heap.size = w3.heap.size + 1 := by simp
  generalize w3.alloc (.cells (madeCells #[.int .u8 0] 512) 5) = w4 at hb4 hrow4 hsz4 ⊢
  obtain ⟨q, hq⟩ : ∃ q, q = w3.heap.size := ⟨_, rfl⟩
  rw [← hq] at hrow4 ⊢
  have p0 := (hb4.cell (p := ⟨w1.heap.size, 0, none⟩) (lt_of_cell q0)).trans q0
  have p1 := (hb4.cell (p := ⟨w1.heap.size, 1, none⟩) (lt_of_cell q0)).trans q1
  have HB4 := Lib.hid (HB3.out.below hb4)
  have HW4 := Lib.hid (HW3.out.trans (hb4.mono HW3.out.size))
  have HR4 := Lib.hid hrow4
  have HY4 := Lib.hid (HBY.out.below HW4.out)
  have hs4 := hb4.size
  have HQ := Lib.hid (And.intro hq (And.intro hgb (And.intro hhb (And.intro hgl3 hhl3))))
  have hqrb : ¬ Lone q w1.heap.size := fun e => by have e : w1.heap.size = q := e; omega
  have hq1 : w3.heap.size ≤ q := by omega
  have hq2 : q ≤ w3.heap.size := by omega
  clear q0 q1 hb4 hrow4 hmk HB3 hq
  obtain ⟨w5, hrun5, hr5, ht5⟩ := run_copy_cut (u := fun _ => 0) (f := f1) (dLen := 512) (dCap := 512) HR4.out A1 L1 cp1 HY4.out (Nat.le_refl _) 3
  go_upto_region 9 with (fail)
  clear hrun5
  have HU : Hid (Mb.IsB (Cy.lay (fun _ => 0) f1 0 (min L1 512))) := Lib.hid (Cy.lay_isB Mb.zero_isB HF1.out _ _)
  generalize Cy.lay (fun _ => 0) f1 0 (min L1 512) = u at hr5 HU
  have HR5 := Lib.hid hr5
  have HB5 : Hid (Buf w5 gb hb (fun _ => 0) 64 0) := Lib.hid (HB4.out.of_blocks (ht5.block gb HB4.out.g_lt fun e => by have e : gb = q := e; omega) (ht5.block hb HB4.out.h_lt fun e => by have e : hb = q := e; omega))
  have r0 := (ht5.cell (p := ⟨w1.heap.size, 0, none⟩) (lt_of_cell p0) hqrb).trans p0
  have r1 := (ht5.cell (p := ⟨w1.heap.size, 1, none⟩) (lt_of_cell p0) hqrb).trans p1
  have HW5 := Lib.hid (ht5.below HW4.out HW4.out.size fun k hk => by have e : k = q := hk; rw [e, HQ.out.1]; exact HW3.out.size)
  have hs5 := ht5.size
  clear p0 p1 hr5 ht5 HB4 HR4 HY4
  go_wp2_with fail
  go_loopw [17] (fun t wr => ∃ i : Nat, t = .int .i64 i ∧ i ≤ 512 ∧ i % 8 = 0 ∧ (∃ c, Buf wr gb hb (Cy.lay (fun _ => 0) u 0 i) 64 c) ∧ Touch (Two gb hb) w5 wr) (fun t _ => 512 - (intOf t).toNat)
  case atStart => exact ⟨0, rfl, by omega, rfl, ⟨0, by rw [Cy.lay_zero]; exact HB5.out⟩, Touch.refl _ _⟩
  case round =>
    obtain ⟨i, rfl, hi, hi8, ⟨c, hbi⟩, hti⟩ := hrel
    have HBI := Lib.hid hbi
    have HTI := Lib.hid hti
    have hqn : ¬ Two gb hb q := fun e => by rcases e with e | e <;> omega
    have HRI : Hid (PlainAt wr q 512 u) := Lib.hid (HR5.out.of_block (hti.block q HR5.out.lt hqn))
    have hsi := hti.size
    clear hbi hti
    by_cases hlt : i < 512
    · have hg1 : (i : Int) < 512 := by omega
      have hg2 : (i : Int) + 8 ≤ 512 := by omega
      have hg3 : (0 : Int) ≤ i := by omega
      have hg4 : (i : Int) ≤ i + 8 := by omega
      have hpart := HRI.out.part i 8 (512 - i) (by omega)
      rw [bl_from'] at hpart
      have HPT := Lib.hid hpart
      clear hpart
      go_wp2_with fail
      refine (do_ok HBI.out 6 i 8 0 0 (f := fun j => u (i + j)) (fun j => HU.out _) (some ⟨q, i, none⟩) 8 (512 - i) (by omega) (by omega) HPT.out (by decide) (write_ok (by decide) (by omega))).mono ?_
      rintro e w6 ⟨s6, rfl, _, hst6, htt6⟩
      have HST : Hid (∃ c, Buf w6 gb hb (Cy.lay (fun _ => 0) u 0 (i + 8)) 64 c) := Lib.hid ⟨_, by
        have h := Cy.lay_step (m := fun _ => 0) HU.out 0 i 8
        rw [Nat.zero_add] at h
        rw [← h]
        exact hst6⟩
      have HT6 := Lib.hid (HTI.out.trans htt6)
      clear hst6 htt6 HPT
      go_wp2
      go_roundw
      case rel => exact ⟨i + 8, by go_num, by omega, by omega, HST.out, HT6.out⟩
      case measure => simp [intOf]; omega
    · have hge : (512 : Int) ≤ i := by omega
      obtain rfl : i = 512 := by omega
      obtain ⟨m0, hm0⟩ : ∃ m0, m0 = Cy.lay (fun _ => 0) u 0 512 := ⟨_, rfl⟩
      have hbi := HBI.out
      obtain ⟨c0, hc0⟩ : ∃ c0, c0 = c := ⟨_, rfl⟩
      have hri : PlainAt wr q (8 * 64) m0 := HRI.out.congr fun j hj => by
        rw [hm0]
        unfold Cy.lay
        rw [if_pos (by omega), Nat.sub_zero]
      rw [← hm0] at hbi
      have HMB : Hid (Mb.IsB m0) := Lib.hid (by rw [hm0]; exact Cy.lay_isB Mb.zero_isB HU.out _ _)
      have p0 := (HTI.out.cell (p := ⟨w1.heap.size, 0, none⟩) (lt_of_cell r0) (fun e => by rcases e with e | e <;> (have e2 : w1.heap.size = _ := e; omega))).trans r0
      have p1 := (HTI.out.cell (p := ⟨w1.heap.size, 1, none⟩) (lt_of_cell r0) (fun e => by rcases e with e | e <;> (have e2 : w1.heap.size = _ := e; omega))).trans r1
      have HBW := Lib.hid hbi
      have HRW := Lib.hid hri
      have HWW := Lib.hid (HTI.out.below HW5.out HW5.out.size fun k hk => by rcases hk with e | e <;> omega)
      clear hm0 hbi hri HBI HRI hc0 r0 r1 HR5 HB5
      rename World => w7
      go_upto_region 14 with (go_at_call 16; refine (rpNew B Z typ ⟨by omega, by have := HLN.out.1; omega⟩ ⟨by omega, by have := HLN.out.2.1; omega⟩ HA.out.1 A2 L2 cp2 f2 HA.out.2.2.2.1 w7 (HBY2.out.below HWW.out)).mono ?_; rintro e w8 ⟨gp, rfl, hp8, hb8⟩)
      have hs8 := hb8.size
      have hsw7 := HWW.out.size
      have hgl7 := HBW.out.g_lt
      have hhl7 := HBW.out.h_lt
      have hql7 := HRW.out.lt
      have hrl7 := lt_of_cell p0
      have hshw : ShW w w8 gb hb q w1.heap.size w8.heap.size B Z 64 m0 m0 c (fun W F => PmAt W F gp ((Pm.new B Z typ f2 L2).at (fun _ => ⟨0, false, none, 0, 0, fun _ => 0⟩) 0)) (fun k => w7.heap.size ≤ k ∧ k < w8.heap.size) 0 (fun _ => ⟨0, false, none, 0, 0, fun _ => 0⟩) (.slice none 0 0) :=
        ⟨HBW.out.below hb8, HRW.out.of_block (hb8.block q HRW.out.lt), hp8, put_keeps, ⟨rfl, .inl ⟨rfl, rfl⟩⟩, (hb8.cell (p := ⟨w1.heap.size, 0, none⟩) hrl7).trans p0, (hb8.cell (p := ⟨w1.heap.size, 1, none⟩) hrl7).trans p1, HWW.out.trans (hb8.mono hsw7), fun k hk => ⟨hk.2, by omega, by omega, by omega, by omega, by omega, fun e => by cases e⟩, by omega, by omega⟩
      have HS := Lib.hid hshw
      have HIN : Hid (∀ (T : Nat → Ans) n s, (Pm.new B Z typ f2 L2).at T n = .live s → s.B + s.Z + s.L + 24 ≤ 8 * 64) := Lib.hid fun T n s hs => Pm.at_in (by have := HLN.out.2.2.2; omega) n s hs
      clear hshw p0 p1 hp8 hb8 HBW HRW HTI hgl3 hhl3 hgb hhb
      go_wp2_with fail
      go_loopw [19, 79] (fun vT t wr => ∃ (i n : Nat) (F : Nat → Prop) (T : Nat → Ans) (m : Nat → Nat) (c : Int), t = .int .i64 i ∧ i ≤ M ∧ n ≤ i ∧ ShW w wr gb hb q w1.heap.size w8.heap.size B Z 64 m m c (fun W F => PmAt W F gp ((Pm.new B Z typ f2 L2).at T n)) F n T vT ∧ Mb.IsB m ∧ Bare n T) (fun _ t _ => M - (intOf t).toNat)
      case atStart => exact ⟨0, 0, _, _, m0, c, rfl, Nat.zero_le _, Nat.le_refl _, HS.out, HMB.out, fun j hj => absurd hj (Nat.not_lt_zero _)⟩
      case round =>
        obtain ⟨i, n, F, T, m, c, rfl, hi, hni, hsw, hmb, hwd⟩ := hrel
        have HSW := Lib.hid hsw
        have HM2 := Lib.hid (And.intro hmb hwd)
        clear hsw hmb hwd HS HMB
        by_cases hlt : i < M
        · have hg5 : (i : Int) < M := by omega
          have hg6 : (0 : Int) ≤ i := by omega
          obtain ⟨b3, off3, hA3, hl3, hc3⟩ := (HO.out.below HSW.out.low) (by omega)
          subst hA3
          obtain ⟨o0, o1, ho2, ho3⟩ := hc3 i hlt
          clear hc3
          go_wp2_with fail
          have hwb := (Below.refl wr.heap.size wr).alloc (Nat.le_refl _) (.cells #[.int .u16 (O i).P, .int .u64 (O i).V] 43)
          have hwx := Go.Deep.blk_alloc_new wr (.cells #[.int .u16 (O i).P, .int .u64 (O i).V] 43)
          have hfr := HSW.out.fresh (Nat.le_refl _)
          obtain ⟨bx, hbx⟩ : ∃ bx, bx = wr.heap.size := ⟨_, rfl⟩
          generalize wr.alloc (.cells #[.int .u16 (O i).P, .int .u64 (O i).V] 43) = v1 at hwb hwx ⊢
          have HS1 := Lib.hid (HSW.out.below hwb)
          rw [← hbx] at hwx hfr ⊢
          have HBX := Lib.hid hfr
          have x0 : v1.cell? ⟨bx, 0, none⟩ = some (.int .u16 (O i).P) := by simp [World.cell?, hwx]
          have x1 : v1.cell? ⟨bx, 1, none⟩ = some (.int .u64 (O i).V) := by simp [World.cell?, hwx]
          clear hwb hwx hfr hbx o0 o1
          have hpm : PmAt v1 F gp ((Pm.new B Z typ f2 L2).at T n) := HS1.out.mach
          have HNX := Lib.hid (putNext hpm (fun k hk => (HS1.out.sep k hk).1))
          have HNW := fun a (ha : ((Pm.new B Z typ f2 L2).at T n).next = some a) => putStep hpm (fun k hk => (HS1.out.sep k hk).1) ha (nw := 64) HM2.out.1 (by decide) (HIN.out T n)
          clear hpm
          cases hnx : ((Pm.new B Z typ f2 L2).at T n).next with
          | none =>
            rw [hnx] at HNX
            clear HNW hnx
            refine HNX.out.mono ?_
            rintro e v2 ⟨hb2, rfl⟩
            have HS2 := Lib.hid (HS1.out.below hb2)
            have hb3 := (Below.refl v2.heap.size v2).alloc (Nat.le_refl _) (.cells #[.int .i64 0, .int .i64 0, .int .i64 0, .int .u64 0, .int .u64 0, .slice none 0 0] 37)
            clear hb2
            go_wp2_with fail
            generalize v2.alloc (.cells #[.int .i64 0, .int .i64 0, .int .i64 0, .int .u64 0, .int .u64 0, .slice none 0 0] 37) = W at hb3 ⊢
            have HZ := Lib.hid (HS2.out.below hb3)
            clear hb3
            have hcvo : (convert 22 9 (.slice (some ⟨q, 0, none⟩) 512 512)).run Tryz.prog W.drew = .ok (.string (strOfNums (Mb.bl m 0 512))) W.drew := ((HZ.out.below (Below.refl W.heap.size W).drew).row.part 0 512 512 (by omega)).conv
            go_wp2_with fail
            refine wp_region_noPanic ?_
            refine wp_region_held_drew (S := fun w' => (convert 22 9 (.slice (some ⟨q, 0, none⟩) 512 512)).run Tryz.prog w' = .ok (.string (strOfNums (Mb.bl m 0 512))) w') (by kernel_rfl) ?_ (fun hHeld => ?_)
            · (try dsimp only); go_keep
            refine wpAnyH_take (i := 0) (oi := _) (v := ?_) rfl (by kernel_rfl) (by kernel_rfl) (by kernel_rfl) (fun _ _ _ h => h) (Or.inl ⟨by rfl, ?_⟩) (by assumption) ?_
            rotate_left
            · (intro w hSw; (try dsimp only at hSw); go_simp; try (with_reducible rfl))
            try simp only [Act.put, Array.reduceGetElem, List.setIfInBounds_toArray, List.set_cons_zero, List.set_cons_succ]
            refine wpAnyH_take (i := 1) (oi := _) (v := ?_) rfl (by kernel_rfl) (by kernel_rfl) (by kernel_rfl) (fun _ _ _ h => h) (Or.inl ⟨by rfl, ?_⟩) (by assumption) ?_
            rotate_left
            · (intro w hSw; (try dsimp only at hSw); go_simp; try (with_reducible rfl))
            try simp only [Act.put, Array.reduceGetElem, List.setIfInBounds_toArray, List.set_cons_zero, List.set_cons_succ]
            refine wpAnyH_take (i := 2) (oi := _) (v := ?_) rfl (by kernel_rfl) (by kernel_rfl) (by kernel_rfl) (fun _ _ _ h => h) (Or.inl ⟨by rfl, ?_⟩) (by assumption) ?_
            rotate_left
            · (intro w hSw; (try dsimp only at hSw); go_simp; try (with_reducible rfl))
            try simp only [Act.put, Array.reduceGetElem, List.setIfInBounds_toArray, List.set_cons_zero, List.set_cons_succ]
            refine wpAnyH_take (i := 3) (oi := _) (v := ?_) rfl (by kernel_rfl) (by kernel_rfl) (by kernel_rfl) (fun _ _ _ h => h) (Or.inl ⟨by rfl, ?_⟩) (by assumption) ?_
            rotate_left
            · (intro w hSw; (try dsimp only at hSw); go_simp; try (with_reducible rfl))
            try simp only [Act.put, Array.reduceGetElem, List.setIfInBounds_toArray, List.set_cons_zero, List.set_cons_succ]
            refine wpAnyH_take (i := 6) (oi := _) (v := ?_) rfl (by kernel_rfl) (by kernel_rfl) (by kernel_rfl) (fun _ _ _ h => h) (Or.inl ⟨by rfl, ?_⟩) (by assumption) ?_
            rotate_left
            · (intro w hSw; (try dsimp only at hSw); go_simp; try (with_reducible rfl))
            try simp only [Act.put, Array.reduceGetElem, List.setIfInBounds_toArray, List.set_cons_zero, List.set_cons_succ]
            refine wpAnyH_take (i := 7) (oi := _) (v := ?_) rfl (by kernel_rfl) (by kernel_rfl) (by kernel_rfl) (fun _ _ _ h => h) (Or.inl ⟨by rfl, ?_⟩) (by assumption) ?_
            rotate_left
            · (intro w hSw; (try dsimp only at hSw); go_simp; try (with_reducible rfl))
            try simp only [Act.put, Array.reduceGetElem, List.setIfInBounds_toArray, List.set_cons_zero, List.set_cons_succ]
            refine wpAnyH_ready (rs := [4]) (by kernel_rfl) (by simp) ?_
            refine AllReadyH.cons (o := _) rfl (fun K9 hK => ?_) ?_
            rotate_left
            · exact AllReadyH.nil
            go_simp
            go_at_call 14
            refine (allBytes_any (HZ.out.buf.below (Below.refl _ _).drew)).mono ?_
            rintro e w40 ⟨v40, rfl, hby40, hb40⟩
            have hconv40 : (convert 22 9 v40).run Tryz.prog w40 = .ok (.string (strOfNums (Mb.bl m 0 512))) w40 := hby40.conv
            have hb41 := below_drew hb40
            have kc : (convert 22 9 (.slice (some ⟨q, 0, none⟩) 512 512)).run Tryz.prog w40 = .ok (.string (strOfNums (Mb.bl m 0 512))) w40 := (((HZ.out.below hb41).row).part 0 512 512 (by omega)).conv
            have HB41 := Lib.hid hb41
            clear hb40 hb41 hby40 hcvo
            refine hK.out _ _ ?_ (fun hHeld => ?_)
            · (try dsimp only); go_keep
            clear hK K9
            try simp only [Act.put, Array.reduceGetElem, List.setIfInBounds_toArray, List.set_cons_zero, List.set_cons_succ]
            refine wpAnyH_ready (rs := [5]) (by kernel_rfl) (by simp) ?_
            refine AllReadyH.cons (o := _) rfl (fun K9 hK => ?_) ?_
            rotate_left
            · exact AllReadyH.nil
            go_simp
            refine hK.out _ _ ?_ (fun hHeld => ?_)
            · (try dsimp only); go_keep
            clear hK K9
            try simp only [Act.put, Array.reduceGetElem, List.setIfInBounds_toArray, List.set_cons_zero, List.set_cons_succ]
            refine wpAnyH_take (i := 8) (oi := _) (v := ?_) rfl (by kernel_rfl) (by kernel_rfl) (by kernel_rfl) (fun _ _ _ h => h) (Or.inl ⟨by rfl, ?_⟩) (by assumption) ?_
            rotate_left
            · (intro w hSw; (try dsimp only at hSw); go_simp; try (with_reducible rfl))
            try simp only [Act.put, Array.reduceGetElem, List.setIfInBounds_toArray, List.set_cons_zero, List.set_cons_succ]
            refine wpAnyH_take (i := 9) (oi := _) (v := ?_) rfl (by kernel_rfl) (by kernel_rfl) (by kernel_rfl) (fun _ _ _ h => h) (Or.inl ⟨by rfl, ?_⟩) (by assumption) ?_
            rotate_left
            · (intro w hSw; (try dsimp only at hSw); go_simp; try (with_reducible rfl))
            try simp only [Act.put, Array.reduceGetElem, List.setIfInBounds_toArray, List.set_cons_zero, List.set_cons_succ]
            refine wpAnyH_take (i := 10) (oi := _) (v := ?_) rfl (by kernel_rfl) (by kernel_rfl) (by kernel_rfl) (fun _ _ _ h => h) (Or.inl ⟨by rfl, ?_⟩) (by assumption) ?_
            rotate_left
            · (intro w hSw; (try dsimp only at hSw); go_simp; try (with_reducible rfl))
            try simp only [Act.put, Array.reduceGetElem, List.setIfInBounds_toArray, List.set_cons_zero, List.set_cons_succ]
            refine wpAnyH_done (by kernel_rfl) ?_ _
            refine NoPanic.normal ?_
            go_wp2
            go_ret
            exact ⟨by simp, HZ.out.low.trans (HB41.out.mono HZ.out.low.size)⟩
          | some a =>
            obtain ⟨K, P, N, V, U, Lb, fb, er, vv, dd, m2, hvb1, hm2, hcall⟩ := HNW a hnx
            have HM3 := Lib.hid hm2
            have HVB := Lib.hid hvb1
            clear HNX HNW hnx hm2
            refine hcall.mono ?_
            rintro e v2 ⟨Aa, ca, rfl, ho2, hb2, hDO, hRF⟩
            have hb3 := hb2.alloc hb2.size (.cells #[.int .i64 K, .int .i64 P, .int .i64 N, .int .u64 V, .int .u64 U, .slice Aa Lb ca] 37)
            have hbo := (Below.refl v2.heap.size v2).alloc (Nat.le_refl _) (.cells #[.int .i64 K, .int .i64 P, .int .i64 N, .int .u64 V, .int .u64 U, .slice Aa Lb ca] 37)
            have hax := Go.Deep.blk_alloc_new v2 (.cells #[.int .i64 K, .int .i64 P, .int .i64 N, .int .u64 V, .int .u64 U, .slice Aa Lb ca] 37)
            have hfr := HS1.out.fresh hb2.size
            have HDO := Lib.hid hDO
            have HRF := Lib.hid hRF
            clear hDO hRF hcall
            go_upto_region 20 with (fail)
            generalize v2.alloc (.cells #[.int .i64 K, .int .i64 P, .int .i64 N, .int .u64 V, .int .u64 U, .slice Aa Lb ca] 37) = v3 at hb3 hbo hax ⊢
            obtain ⟨ab, hab⟩ : ∃ ab, ab = v2.heap.size := ⟨_, rfl⟩
            rw [← hab] at hax hfr ⊢
            have HAB := Lib.hid hfr
            have HO3 := Lib.hid (ho2.below hbo)
            have HS3 := Lib.hid (HS1.out.below hb3)
            have HGE := Lib.hid (And.intro HS1.out.buf.g_lt (And.intro HS1.out.buf.h_lt HS1.out.row.lt))
            have y0 := (hb3.cell (p := ⟨bx, 0, none⟩) (lt_of_cell x0)).trans x0
            have y1 := (hb3.cell (p := ⟨bx, 1, none⟩) (lt_of_cell x1)).trans x1
            have d0 : v3.cell? ⟨ab, 0, none⟩ = some (.int .i64 K) := by simp [World.cell?, hax]
            have d1 : v3.cell? ⟨ab, 1, none⟩ = some (.int .i64 P) := by simp [World.cell?, hax]
            have d2 : v3.cell? ⟨ab, 2, none⟩ = some (.int .i64 N) := by simp [World.cell?, hax]
            have d3 : v3.cell? ⟨ab, 3, none⟩ = some (.int .u64 V) := by simp [World.cell?, hax]
            have d4 : v3.cell? ⟨ab, 4, none⟩ = some (.int .u64 U) := by simp [World.cell?, hax]
            have d5 : v3.cell? ⟨ab, 5, none⟩ = some (.slice Aa Lb ca) := by simp [World.cell?, hax]
            clear x0 x1 hb2 hb3 hbo hax hfr hab ho2
            go_wp2_with fail
            refine (HDO.out v3 gb hb c HS3.out.buf HO3.out.bytes).mono ?_
            rintro e v4 ⟨Ax, cx, c4, rfl, hB4, ht4⟩
            have HO4 := Lib.hid (HO3.out.of_block fun k hk => ht4.block k (HO3.out.ge hk).2 fun e => by
              have h1 := (HO3.out.ge hk).1
              have h2 := HGE.out
              rcases e with e | e <;> omega)
            have HS4 := Lib.hid (HS3.out.bufTo hB4 ht4)
            have hb5 := (Below.refl v4.heap.size v4).alloc (Nat.le_refl _) (.cells #[.int .u64 vv, .bool dd, .slice Ax 0 cx] 33)
            have hx5 := Go.Deep.blk_alloc_new v4 (.cells #[.int .u64 vv, .bool dd, .slice Ax 0 cx] 33)
            have hfr := HS4.out.fresh (Nat.le_refl _)
            have p0 := (ht4.cell (p := ⟨bx, 0, none⟩) (lt_of_cell y0) HBX.out.1).trans y0
            have p1 := (ht4.cell (p := ⟨bx, 1, none⟩) (lt_of_cell y1) HBX.out.1).trans y1
            have e0 := (ht4.cell (p := ⟨ab, 0, none⟩) (lt_of_cell d0) HAB.out.1).trans d0
            have e1 := (ht4.cell (p := ⟨ab, 1, none⟩) (lt_of_cell d1) HAB.out.1).trans d1
            have e2 := (ht4.cell (p := ⟨ab, 2, none⟩) (lt_of_cell d2) HAB.out.1).trans d2
            have e3 := (ht4.cell (p := ⟨ab, 3, none⟩) (lt_of_cell d3) HAB.out.1).trans d3
            have e4 := (ht4.cell (p := ⟨ab, 4, none⟩) (lt_of_cell d4) HAB.out.1).trans d4
            have e5 := (ht4.cell (p := ⟨ab, 5, none⟩) (lt_of_cell d5) HAB.out.1).trans d5
            clear y0 y1 d0 d1 d2 d3 d4 d5 hB4 ht4 HDO HO3
            go_upto_region 21 with (fail)
            generalize v4.alloc (.cells #[.int .u64 vv, .bool dd, .slice Ax 0 cx] 33) = v5 at hb5 hx5 ⊢
            obtain ⟨xb, hxbq⟩ : ∃ xb, xb = v4.heap.size := ⟨_, rfl⟩
            rw [← hxbq] at hx5 hfr ⊢
            have HXB := Lib.hid hfr
            have HS5 := Lib.hid (HS4.out.below hb5)
            have HO5 := Lib.hid (HO4.out.below hb5)
            have y0 := (hb5.cell (p := ⟨bx, 0, none⟩) (lt_of_cell p0)).trans p0
            have y1 := (hb5.cell (p := ⟨bx, 1, none⟩) (lt_of_cell p1)).trans p1
            have d0 := (hb5.cell (p := ⟨ab, 0, none⟩) (lt_of_cell e0)).trans e0
            have d1 := (hb5.cell (p := ⟨ab, 1, none⟩) (lt_of_cell e1)).trans e1
            have d2 := (hb5.cell (p := ⟨ab, 2, none⟩) (lt_of_cell e2)).trans e2
            have d3 := (hb5.cell (p := ⟨ab, 3, none⟩) (lt_of_cell e3)).trans e3
            have d4 := (hb5.cell (p := ⟨ab, 4, none⟩) (lt_of_cell e4)).trans e4
            have d5 := (hb5.cell (p := ⟨ab, 5, none⟩) (lt_of_cell e5)).trans e5
            have z0 : v5.cell? ⟨xb, 0, none⟩ = some (.int .u64 vv) := by simp [World.cell?, hx5]
            have z1 : v5.cell? ⟨xb, 1, none⟩ = some (.bool dd) := by simp [World.cell?, hx5]
            have z2 : v5.cell? ⟨xb, 2, none⟩ = some (.slice Ax 0 cx) := by simp [World.cell?, hx5]
            clear p0 p1 e0 e1 e2 e3 e4 e5 hb5 hx5 hfr hxbq HS4 HO4
            go_wp2_with fail
            refine (HRF.out v5 q HS5.out.row HO5.out.bytes).mono ?_
            rintro e v6 ⟨rfl, hr6, ht6⟩
            have HS6 := Lib.hid (HS5.out.rowTo hr6 ht6)
            have hb7 := (Below.refl v6.heap.size v6).alloc (Nat.le_refl _) (.cells #[.int .u64 vv, .bool dd, .slice none 0 0] 33)
            have hx7 := Go.Deep.blk_alloc_new v6 (.cells #[.int .u64 vv, .bool dd, .slice none 0 0] 33)
            have hfr := HS6.out.fresh (Nat.le_refl _)
            have p0 := (ht6.cell (p := ⟨bx, 0, none⟩) (lt_of_cell y0) HBX.out.2.1).trans y0
            have p1 := (ht6.cell (p := ⟨bx, 1, none⟩) (lt_of_cell y1) HBX.out.2.1).trans y1
            have e0 := (ht6.cell (p := ⟨xb, 0, none⟩) (lt_of_cell z0) HXB.out.2.1).trans z0
            have e1 := (ht6.cell (p := ⟨xb, 1, none⟩) (lt_of_cell z1) HXB.out.2.1).trans z1
            have e2 := (ht6.cell (p := ⟨xb, 2, none⟩) (lt_of_cell z2) HXB.out.2.1).trans z2
            clear y0 y1 d0 d1 d2 d3 d4 d5 z0 z1 z2 hr6 ht6 HRF HO5
            go_upto_region 22 with (fail)
            generalize v6.alloc (.cells #[.int .u64 vv, .bool dd, .slice none 0 0] 33) = v7 at hb7 hx7 ⊢
            obtain ⟨yb, hyb⟩ : ∃ yb, yb = v6.heap.size := ⟨_, rfl⟩
            rw [← hyb] at hx7 hfr ⊢
            have HYB := Lib.hid hfr
            have HS7 := Lib.hid (HS6.out.below hb7)
            have HX7 : Hid (BytesAt v7 (.slice Ax 0 cx) []) := Lib.hid ⟨Ax, cx, rfl, fun h => absurd h (by simp)⟩
            have y0 := (hb7.cell (p := ⟨bx, 0, none⟩) (lt_of_cell p0)).trans p0
            have y1 := (hb7.cell (p := ⟨bx, 1, none⟩) (lt_of_cell p1)).trans p1
            have z0 := (hb7.cell (p := ⟨xb, 0, none⟩) (lt_of_cell e0)).trans e0
            have z1 := (hb7.cell (p := ⟨xb, 1, none⟩) (lt_of_cell e1)).trans e1
            have z2 := (hb7.cell (p := ⟨xb, 2, none⟩) (lt_of_cell e2)).trans e2
            have d0 : v7.cell? ⟨yb, 0, none⟩ = some (.int .u64 vv) := by simp [World.cell?, hx7]
            have d1 : v7.cell? ⟨yb, 1, none⟩ = some (.bool dd) := by simp [World.cell?, hx7]
            have d2 : v7.cell? ⟨yb, 2, none⟩ = some (.slice none 0 0) := by simp [World.cell?, hx7]
            clear p0 p1 e0 e1 e2 hb7 hx7 hfr hyb HS6 HS5
            go_wp2_with fail
            refine (same_ans2 vv dd Ax none 0 0 cx 0 [] v7 HX7.out (BytesAt.nil v7)).mono ?_
            rintro e v8 ⟨rfl, hb8⟩
            have HS8 := Lib.hid (HS7.out.below hb8)
            have HX8 := Lib.hid (HX7.out.below hb8)
            have p0 := (hb8.cell (p := ⟨bx, 0, none⟩) (lt_of_cell y0)).trans y0
            have p1 := (hb8.cell (p := ⟨bx, 1, none⟩) (lt_of_cell y1)).trans y1
            have e0 := (hb8.cell (p := ⟨xb, 0, none⟩) (lt_of_cell z0)).trans z0
            have e1 := (hb8.cell (p := ⟨xb, 1, none⟩) (lt_of_cell z1)).trans z1
            have e2 := (hb8.cell (p := ⟨xb, 2, none⟩) (lt_of_cell z2)).trans z2
            have s0 := (hb8.cell (p := ⟨yb, 0, none⟩) (lt_of_cell d0)).trans d0
            have s1 := (hb8.cell (p := ⟨yb, 1, none⟩) (lt_of_cell d1)).trans d1
            have s2 := (hb8.cell (p := ⟨yb, 2, none⟩) (lt_of_cell d2)).trans d2
            clear y0 y1 z0 z1 z2 d0 d1 d2 hb8 HS7 HX7
            have HTK := Lib.hid (putTake HS8.out.mach (fun k hk => (HS8.out.sep k hk).1) ⟨vv, dd, []⟩ hvb1 Ax 0 cx HX8.out)
            go_wp2_with fail
            refine HTK.out.mono ?_
            rintro e v9 ⟨rfl, F9, hp9, ht9, hF9⟩
            have HS9 := Lib.hid (HS8.out.machTo (At' := fun W F => PmAt W F gp (((Pm.new B Z typ f2 L2).at T n).take ⟨vv, dd, []⟩)) put_keeps hp9 ht9 hF9)
            have hbg : ¬ F bx := HBX.out.2.2.1
            have hyg : ¬ F yb := HYB.out.2.2.1
            have y0 := (ht9.cell (p := ⟨bx, 0, none⟩) (lt_of_cell p0) hbg).trans p0
            have y1 := (ht9.cell (p := ⟨bx, 1, none⟩) (lt_of_cell p1) hbg).trans p1
            have d0 := (ht9.cell (p := ⟨yb, 0, none⟩) (lt_of_cell s0) hyg).trans s0
            have d1 := (ht9.cell (p := ⟨yb, 1, none⟩) (lt_of_cell s1) hyg).trans s1
            have d2 := (ht9.cell (p := ⟨yb, 2, none⟩) (lt_of_cell s2) hyg).trans s2
            clear p0 p1 e0 e1 e2 s0 s1 s2 hp9 ht9 hF9 HTK hbg hyg HS8 HX8
            have hb10 := (Below.refl v9.heap.size v9).alloc (Nat.le_refl _) (.cells #[.int .u64 vv, .bool dd, .slice none 0 0] 33)
            have HS10 := Lib.hid (HS9.out.below hb10)
            have hx10 := Lib.hid (Go.Deep.blk_alloc_new v9 (.cells #[.int .u64 vv, .bool dd, .slice none 0 0] 33))
            have hbase : w8.heap.size ≤ (v9.alloc (.cells #[.int .u64 vv, .bool dd, .slice none 0 0] 33)).heap.size := HS10.out.fix.2.2.2.2.2.2.2.2
            have hn150 : n ≤ 1000000 := by omega
            have p0 := (hb10.cell (p := ⟨bx, 0, none⟩) (lt_of_cell y0)).trans y0
            have p1 := (hb10.cell (p := ⟨bx, 1, none⟩) (lt_of_cell y1)).trans y1
            go_upto_region 26 with (at_builtin; refine wpList_app_more rfl _ _ rfl w8.heap.size n _ (Ans.row T n) ⟨vv, dd, none, 0, 0, fun _ => 0⟩ v9.heap.size 1 rfl rfl HS10.out.tell hx10.out hn150 hbase ?_; intro gr cr v11 ho hgr hl hc1 hcb)
            have hrw := Ans.add_row T n ⟨vv, dd, none, 0, 0, fun _ => 0⟩
            have HS11a := HS10.out.tellTo (T' := Ans.add T n ⟨vv, dd, none, 0, 0, fun _ => 0⟩) (vT' := .slice (some ⟨gr, 0, none⟩) (n + 1) cr) (n' := n + 1) (by rw [hrw]; exact ho) hgr hl
            have y0 := (hgr.cell_far ⟨bx, 0, none⟩ (lt_of_cell p0) (fun e => HBX.out.2.2.2 e.symm)).trans p0
            have y1 := (hgr.cell_far ⟨bx, 1, none⟩ (lt_of_cell p1) (fun e => HBX.out.2.2.2 e.symm)).trans p1
            have hold : ∀ j, j < n → T j = Ans.add T n ⟨vv, dd, none, 0, 0, fun _ => 0⟩ j := fun j hj => (Ans.add_old T n _ hj).symm
            have hnew : Ans.add T n ⟨vv, dd, none, 0, 0, fun _ => 0⟩ n = ⟨vv, dd, none, 0, 0, fun _ => 0⟩ := Ans.add_at T n _
            generalize Ans.add T n ⟨vv, dd, none, 0, 0, fun _ => 0⟩ = T2 at HS11a hold hnew
            have hat : (Pm.new B Z typ f2 L2).at T2 (n + 1) = ((Pm.new B Z typ f2 L2).at T n).take ⟨vv, dd, []⟩ := by
              show ((Pm.new B Z typ f2 L2).at T2 n).take (T2 n).an = _
              rw [← Pm.at_congr hold, hnew]
              rfl
            rw [← hat] at HS11a
            have HS11 := Lib.hid HS11a
            have hwd2 : Bare (n + 1) T2 := fun j hj => by
              by_cases e : j = n
              · subst e
                rw [hnew]
                exact ⟨HVB.out, rfl⟩
              · rw [← hold j (by omega)]
                exact HM2.out.2 j (by omega)
            have HT2 := Lib.hid hwd2
            have HTO := Lib.hid (HS11.out.told (hwd2.is v11) rfl)
            have HSA := Lib.hid (same7_any B Z typ ⟨by omega, by have := HLN.out.1; omega⟩ ⟨by omega, by have := HLN.out.2.1; omega⟩ HA.out.1 A2 L2 cp2 HA.out.2.1 HA.out.2.2.1 f2 HA.out.2.2.2.1 cr (n + 1) (some ⟨gr, 0, none⟩) hc1 hcb T2 v11 (HBY2.out.below HS11.out.low) HTO.out HS11.out.mach (fun k hk => (HS11.out.sep k hk).1))
            have r0 := HS11.out.r0
            have r1 := HS11.out.r1
            clear p0 p1 d0 d1 d2 hb10 hbase ho hgr hl HS11a hrw hold hnew hat hwd2 HS10 HS9 HTO hx10
            go_wp2_with fail
            refine HSA.out.mono ?_
            rintro e v12 ⟨rfl, hb12⟩
            have HS12 := Lib.hid (HS11.out.below hb12)
            have p0 := (hb12.cell (p := ⟨bx, 0, none⟩) (lt_of_cell y0)).trans y0
            have p1 := (hb12.cell (p := ⟨bx, 1, none⟩) (lt_of_cell y1)).trans y1
            clear y0 y1 r0 r1 hb12 HS11 HSA
            go_upto_region 29 with (fail)
            obtain ⟨k, hk⟩ : ∃ k, k = 8 * ((O i).P % 200) := ⟨_, rfl⟩
            have hkq : (8 : Int) * (((O i).P : Int) % 200) = (k : Int) := by omega
            simp only [hkq]
            have hk8 : k % 8 = 0 := by omega
            obtain ⟨ov, hov⟩ : ∃ ov, ov = (O i).V := ⟨_, rfl⟩
            rw [← hov] at p1 ho3
            clear hk hkq hov p0
            by_cases hk3 : k < 512
            · have hg8 : (k : Int) < 512 := by omega
              have HDO2 := Lib.hid (bufWord HS12.out.buf 2 k 8 ov 0 none 0 (by decide) (.inr rfl) (.inr rfl) ho3 hk8 (by omega))
              have HRF2 := Lib.hid (fun (W : World) (hr : PlainAt W q (8 * 64) m2) => refWord hr HM3.out 2 k 8 ov 0 none 0 0 (.inr rfl) (.inr rfl) ho3 hk8 (by omega) (by omega))
              have HM4 := Lib.hid (shM_isB HM3.out 2 k 8 ov)
              clear hk8
              go_wp2_with fail
              refine HDO2.out.mono ?_
              rintro e v13 ⟨Ay, cy, rfl, _, hB13, ht13⟩
              have HS13 := Lib.hid (HS12.out.bufTo hB13 ht13)
              have y1 := (ht13.cell (p := ⟨bx, 1, none⟩) (lt_of_cell p1) HBX.out.1).trans p1
              clear p1 hB13 ht13 HDO2 HS12
              go_wp2_with fail
              refine (HRF2.out v13 HS13.out.row).mono ?_
              rintro e v14 ⟨rfl, hr14, ht14⟩
              have HS14 := Lib.hid (HS13.out.rowTo hr14 ht14)
              clear y1 hr14 ht14 HRF2 HS13
              go_wp2
              go_roundw
              case rel => exact ⟨i + 1, n + 1, F9, T2, _, _, by go_num, by omega, by omega, HS14.out, HM4.out, HT2.out⟩
              case measure => simp [intOf]; omega
            · have hg8 : ¬ (k : Int) < 512 := by omega
              clear hk8 p1
              go_wp2
              go_roundw
              case rel => exact ⟨i + 1, n + 1, F9, T2, _, _, by go_num, by omega, by omega, HS12.out, HM3.out, HT2.out⟩
              case measure => simp [intOf]; omega
        · have hge : (M : Int) ≤ i := by omega
          go_wp2_with fail
          obtain ⟨W, hW⟩ : ∃ W, W = wr := ⟨_, rfl⟩
          rw [← hW] at HSW ⊢
          clear hW
          have HZ := HSW
          have hcvo : (convert 22 9 (.slice (some ⟨q, 0, none⟩) 512 512)).run Tryz.prog W.drew = .ok (.string (strOfNums (Mb.bl m 0 512))) W.drew := ((HZ.out.below (Below.refl W.heap.size W).drew).row.part 0 512 512 (by omega)).conv
          go_wp2_with fail
          refine wp_region_noPanic ?_
          refine wp_region_held_drew (S := fun w' => (convert 22 9 (.slice (some ⟨q, 0, none⟩) 512 512)).run Tryz.prog w' = .ok (.string (strOfNums (Mb.bl m 0 512))) w') (by kernel_rfl) ?_ (fun hHeld => ?_)
          · (try dsimp only); go_keep
          refine wpAnyH_take (i := 0) (oi := _) (v := ?_) rfl (by kernel_rfl) (by kernel_rfl) (by kernel_rfl) (fun _ _ _ h => h) (Or.inl ⟨by rfl, ?_⟩) (by assumption) ?_
          rotate_left
          · (intro w hSw; (try dsimp only at hSw); go_simp; try (with_reducible rfl))
          try simp only [Act.put, Array.reduceGetElem, List.setIfInBounds_toArray, List.set_cons_zero, List.set_cons_succ]
          refine wpAnyH_take (i := 1) (oi := _) (v := ?_) rfl (by kernel_rfl) (by kernel_rfl) (by kernel_rfl) (fun _ _ _ h => h) (Or.inl ⟨by rfl, ?_⟩) (by assumption) ?_
          rotate_left
          · (intro w hSw; (try dsimp only at hSw); go_simp; try (with_reducible rfl))
          try simp only [Act.put, Array.reduceGetElem, List.setIfInBounds_toArray, List.set_cons_zero, List.set_cons_succ]
          refine wpAnyH_take (i := 2) (oi := _) (v := ?_) rfl (by kernel_rfl) (by kernel_rfl) (by kernel_rfl) (fun _ _ _ h => h) (Or.inl ⟨by rfl, ?_⟩) (by assumption) ?_
          rotate_left
          · (intro w hSw; (try dsimp only at hSw); go_simp; try (with_reducible rfl))
          try simp only [Act.put, Array.reduceGetElem, List.setIfInBounds_toArray, List.set_cons_zero, List.set_cons_succ]
          refine wpAnyH_take (i := 3) (oi := _) (v := ?_) rfl (by kernel_rfl) (by kernel_rfl) (by kernel_rfl) (fun _ _ _ h => h) (Or.inl ⟨by rfl, ?_⟩) (by assumption) ?_
          rotate_left
          · (intro w hSw; (try dsimp only at hSw); go_simp; try (with_reducible rfl))
          try simp only [Act.put, Array.reduceGetElem, List.setIfInBounds_toArray, List.set_cons_zero, List.set_cons_succ]
          refine wpAnyH_take (i := 6) (oi := _) (v := ?_) rfl (by kernel_rfl) (by kernel_rfl) (by kernel_rfl) (fun _ _ _ h => h) (Or.inl ⟨by rfl, ?_⟩) (by assumption) ?_
          rotate_left
          · (intro w hSw; (try dsimp only at hSw); go_simp; try (with_reducible rfl))
          try simp only [Act.put, Array.reduceGetElem, List.setIfInBounds_toArray, List.set_cons_zero, List.set_cons_succ]
          refine wpAnyH_take (i := 7) (oi := _) (v := ?_) rfl (by kernel_rfl) (by kernel_rfl) (by kernel_rfl) (fun _ _ _ h => h) (Or.inl ⟨by rfl, ?_⟩) (by assumption) ?_
          rotate_left
          · (intro w hSw; (try dsimp only at hSw); go_simp; try (with_reducible rfl))
          try simp only [Act.put, Array.reduceGetElem, List.setIfInBounds_toArray, List.set_cons_zero, List.set_cons_succ]
          refine wpAnyH_ready (rs := [4]) (by kernel_rfl) (by simp) ?_
          refine AllReadyH.cons (o := _) rfl (fun K9 hK => ?_) ?_
          rotate_left
          · exact AllReadyH.nil
          go_simp
          go_at_call 14
          refine (allBytes_any (HZ.out.buf.below (Below.refl _ _).drew)).mono ?_
          rintro e w40 ⟨v40, rfl, hby40, hb40⟩
          have hconv40 : (convert 22 9 v40).run Tryz.prog w40 = .ok (.string (strOfNums (Mb.bl m 0 512))) w40 := hby40.conv
          have hb41 := below_drew hb40
          have kc : (convert 22 9 (.slice (some ⟨q, 0, none⟩) 512 512)).run Tryz.prog w40 = .ok (.string (strOfNums (Mb.bl m 0 512))) w40 := (((HZ.out.below hb41).row).part 0 512 512 (by omega)).conv
          have HB41 := Lib.hid hb41
          clear hb40 hb41 hby40 hcvo
          refine hK.out _ _ ?_ (fun hHeld => ?_)
          · (try dsimp only); go_keep
          clear hK K9
          try simp only [Act.put, Array.reduceGetElem, List.setIfInBounds_toArray, List.set_cons_zero, List.set_cons_succ]
          refine wpAnyH_ready (rs := [5]) (by kernel_rfl) (by simp) ?_
          refine AllReadyH.cons (o := _) rfl (fun K9 hK => ?_) ?_
          rotate_left
          · exact AllReadyH.nil
          go_simp
          refine hK.out _ _ ?_ (fun hHeld => ?_)
          · (try dsimp only); go_keep
          clear hK K9
          try simp only [Act.put, Array.reduceGetElem, List.setIfInBounds_toArray, List.set_cons_zero, List.set_cons_succ]
          refine wpAnyH_take (i := 8) (oi := _) (v := ?_) rfl (by kernel_rfl) (by kernel_rfl) (by kernel_rfl) (fun _ _ _ h => h) (Or.inl ⟨by rfl, ?_⟩) (by assumption) ?_
          rotate_left
          · (intro w hSw; (try dsimp only at hSw); go_simp; try (with_reducible rfl))
          try simp only [Act.put, Array.reduceGetElem, List.setIfInBounds_toArray, List.set_cons_zero, List.set_cons_succ]
          refine wpAnyH_take (i := 9) (oi := _) (v := ?_) rfl (by kernel_rfl) (by kernel_rfl) (by kernel_rfl) (fun _ _ _ h => h) (Or.inl ⟨by rfl, ?_⟩) (by assumption) ?_
          rotate_left
          · (intro w hSw; (try dsimp only at hSw); go_simp; try (with_reducible rfl))
          try simp only [Act.put, Array.reduceGetElem, List.setIfInBounds_toArray, List.set_cons_zero, List.set_cons_succ]
          refine wpAnyH_take (i := 10) (oi := _) (v := ?_) rfl (by kernel_rfl) (by kernel_rfl) (by kernel_rfl) (fun _ _ _ h => h) (Or.inl ⟨by rfl, ?_⟩) (by assumption) ?_
          rotate_left
          · (intro w hSw; (try dsimp only at hSw); go_simp; try (with_reducible rfl))
          try simp only [Act.put, Array.reduceGetElem, List.setIfInBounds_toArray, List.set_cons_zero, List.set_cons_succ]
          refine wpAnyH_done (by kernel_rfl) ?_ _
          refine NoPanic.normal ?_
          go_wp2
          go_ret
          exact ⟨by simp, HZ.out.low.trans (HB41.out.mono HZ.out.low.size)⟩

end Go.Proofs.YtbhhegikfadpiaaGreat
namespace Go.Proofs.YtbhhegikfadpiaaGreat
open Go.RowKit

set_option linter.unusedSimpArgs false in
set_option maxRecDepth 100000 in
set_option maxHeartbeats 2000000 in
theorem ringputShares_out (A1 : Option Addr) (L1 cp1 : Nat) (bb bq typ : Int) (A2 : Option Addr) (L2 cp2 : Nat) (A3 : Option Addr) (M cp3 : Nat) (w : World) (h : 400 < L1 ∨ 60 < L2 ∨ 150 < M) :
    Calls Tryz.prog 4 #[.slice A1 L1 cp1, .int .u8 bb, .int .u8 bq, .int .i32 typ, .slice A2 L2 cp2, .slice A3 M cp3] w (TrueBelow w) := by
  by_cases h1 : 400 < L1
  · have h1' : (400 : Int) < L1 := by omega
    clear h
    go_enter Tryz.func4, Tryz.ntmps4
    go_wp2_with fail
    refine (fixed7_any w).mono ?_
    rintro e w1 ⟨rfl, hq1⟩
    go_wp2_with fail
    go_ret
    exact ⟨rfl, hq1⟩
  · by_cases h2 : 60 < L2
    · have h1' : (L1 : Int) ≤ 400 := by omega
      have h2' : (60 : Int) < L2 := by omega
      clear h
      go_enter Tryz.func4, Tryz.ntmps4
      go_wp2_with fail
      refine (fixed7_any w).mono ?_
      rintro e w1 ⟨rfl, hq1⟩
      go_wp2_with fail
      go_ret
      exact ⟨rfl, hq1⟩
    · have h1' : (L1 : Int) ≤ 400 := by omega
      have h2' : (L2 : Int) ≤ 60 := by omega
      have h3' : (150 : Int) < M := by omega
      clear h
      go_enter Tryz.func4, Tryz.ntmps4
      go_wp2_with fail
      refine (fixed7_any w).mono ?_
      rintro e w1 ⟨rfl, hq1⟩
      go_wp2_with fail
      go_ret
      exact ⟨rfl, hq1⟩

theorem ringputShares_any (A1 : Option Addr) (L1 cp1 : Nat) (f1 : Nat → Nat) (hf1 : Mb.IsB f1) (bb : Int) (hbb : 0 ≤ bb) (bq : Int) (hb0 : 0 ≤ bq) (typ : Int) (hty : typ ≤ 2147483647) (A2 : Option Addr) (L2 cp2 : Nat) (hL2 : L2 ≤ cp2) (hcp2 : cp2 ≤ 9223372036854775807) (f2 : Nat → Nat) (hf2 : Mb.IsB f2) (A3 : Option Addr) (M cp3 : Nat) (hM : M ≤ cp3) (hcp3 : cp3 ≤ 9223372036854775807) (O : Nat → Ow) (w : World)
    (hby : BytesAt w (.slice A1 L1 cp1) (Mb.bl f1 0 L1)) (hby2 : BytesAt w (.slice A2 L2 cp2) (Mb.bl f2 0 L2)) (hO : OwsAt w A3 M O) :
    Calls Tryz.prog 4 #[.slice A1 L1 cp1, .int .u8 bb, .int .u8 bq, .int .i32 typ, .slice A2 L2 cp2, .slice A3 M cp3] w (TrueBelow w) := by
  by_cases h : 400 < L1 ∨ 60 < L2 ∨ 150 < M
  · exact ringputShares_out A1 L1 cp1 bb bq typ A2 L2 cp2 A3 M cp3 w h
  · obtain ⟨a, rfl⟩ := Int.eq_ofNat_of_zero_le hbb
    obtain ⟨b, rfl⟩ := Int.eq_ofNat_of_zero_le hb0
    have h3 : b % 3 = 0 ∨ b % 3 = 1 ∨ b % 3 = 2 := by omega
    rcases h3 with e | e | e
    · exact ringputShares_main A1 L1 cp1 f1 hf1 a b typ hty A2 L2 cp2 hL2 hcp2 f2 hf2 A3 M cp3 hM hcp3 O w hby hby2 hO (by omega) (by omega) (by omega) (8 * (a % 9)) 64 (by omega) (by omega) (.inl rfl) (by rw [e]; unfold wrap64; omega)
    · exact ringputShares_main A1 L1 cp1 f1 hf1 a b typ hty A2 L2 cp2 hL2 hcp2 f2 hf2 A3 M cp3 hM hcp3 O w hby hby2 hO (by omega) (by omega) (by omega) (8 * (a % 9)) 128 (by omega) (by omega) (.inr (.inl rfl)) (by rw [e]; unfold wrap64; omega)
    · exact ringputShares_main A1 L1 cp1 f1 hf1 a b typ hty A2 L2 cp2 hL2 hcp2 f2 hf2 A3 M cp3 hM hcp3 O w hby hby2 hO (by omega) (by omega) (by omega) (8 * (a % 9)) 256 (by omega) (by omega) (.inr (.inr rfl)) (by rw [e]; unfold wrap64; omega)
end Go.Proofs.YtbhhegikfadpiaaGreat
namespace Go.Proofs.YtbhhegikfadpiaaGreat
open Go.ChangeShapes Go.WideShapes Go.ChangeAt Go.RowKit

set_option maxRecDepth 100000 in
theorem ringputShares_lifted (os : Os) (started : os.Started) (H : Type) (enc : TypeId × Value → H) :
    ReturnsInHanded {} Tryz.checked os 4 .any (Rows.ringputSharesSpec.pre6 enc Tryz.prog Tryz.f4 Rows.ringputSharesRow.domain false) (Rows.ringputSharesSpec.post enc Tryz.prog Tryz.f4 false true false false) := by
  refine returnsInHanded_of_change (C := Tryz.checked) own started (by kernel_rfl) Tryz.func4
    (ChangeSpec.witness6 (enc := enc) (C := Tryz.checked) false ⟨#[], #[.slice none 0 0, .int .u8 0, .int .u8 0, .int .i32 0, .slice none 0 0, .slice none 0 0], []⟩ 8 (by kernel_rfl) (by kernel_rfl) (by kernel_rfl) (by kernel_rfl)) ?_
  intro W base args ds gs before hval0 hW _ _
  have hval : ∀ (j : Nat) t v, Tryz.f4.params[j]? = some t → args[j]? = some v → Value.okWide Tryz.prog W .any base t v := hval0
  have hW' := hW
  obtain ⟨p, q, hA0, hV, rfl, hfz, hnd⟩ := hW
  have hA : DataW.TrodAll enc Tryz.prog W 0 (fun _ => true) true Tryz.f4.params.toList args.toList ds p := hA0
  rw [Tryz.params4] at hA hval
  obtain ⟨v0, w0, d0, e0, p0, q0, hargs0, hds0, hps0, h0, hr1⟩ := trodAll_cons hA
  obtain ⟨v1, w1, d1, e1, p1, q1, rfl, rfl, rfl, h1, hr2⟩ := trodAll_cons hr1
  obtain ⟨v2, w2, d2, e2, p2, q2, rfl, rfl, rfl, h2, hr3⟩ := trodAll_cons hr2
  obtain ⟨v3, w3, d3, e3, p3, q3, rfl, rfl, rfl, h3, hr4⟩ := trodAll_cons hr3
  obtain ⟨v4, w4, d4, e4, p4, q4, rfl, rfl, rfl, h4, hr5⟩ := trodAll_cons hr4
  obtain ⟨v5, w5, d5, e5, p5, q5, rfl, rfl, rfl, h5, hr6⟩ := trodAll_cons hr5
  obtain ⟨rfl, rfl, rfl⟩ := trodAll_nil hr6
  obtain rfl : args = #[v0, v1, v2, v3, v4, v5] := Array.ext' hargs0
  subst hds0 hps0
  obtain ⟨rfl, rfl⟩ := trodVars_none hV
  obtain ⟨A0, L0, cap0, f0, rfl, hf0, hb0, hl0, hc0⟩ := open_bl (hval 0 22 v0 rfl rfl) h0
  obtain ⟨a1, rfl, rfl, rfl, wa1⟩ := open_int Tryz.underlying5 (hval 1 5 v1 rfl rfl) h1
  have k1 := bounds_u8 wa1
  obtain ⟨a2, rfl, rfl, rfl, wa2⟩ := open_int Tryz.underlying5 (hval 2 5 v2 rfl rfl) h2
  have k2 := bounds_u8 wa2
  obtain ⟨a3, rfl, rfl, rfl, wa3⟩ := open_int Tryz.underlying21 (hval 3 21 v3 rfl rfl) h3
  have k3 := bounds_i32 wa3
  obtain ⟨A4, L4, cap4, f4, rfl, hf4, hb4, hl4, hc4⟩ := open_bl (hval 4 22 v4 rfl rfl) h4
  obtain ⟨A5, L5, cap5, T5, rfl, hT5, hl5, hc5⟩ := open_writes (hval 5 23 v5 rfl rfl) h5
  clear hA0 hval0
  exact (ringputShares_any A0 L0 cap0 f0 hf0 a1 k1.1 a2 k2.1 a3 k3.2 A4 L4 cap4 hl4 hc4 f4 hf4 A5 L5 cap5 hl5 hc5 T5 W hb0 hb4 hT5).mono fun e W' ⟨he, hbel⟩ => ⟨_, he, law_post laidOut (by kernel_rfl) rfl Tryz.underlying4 rfl hW' rfl hbel⟩

theorem ringputShares_row : Rows.RingputSharesSaid :=
  OpenClaim.holds_of_wide 4 Tryz.f4 rfl rfl rfl rfl rfl rfl rfl ⟨rfl, rfl, rfl, rfl, rfl⟩ rfl rfl rfl rfl rfl (by kernel_rfl) Tryz.func4 (by kernel_rfl)
    (of_decide_eq_true (by kernel_rfl)) (by unfold Func.isWrapper; first | (rw [if_pos (by decide +kernel)]; kernel_rfl) | (rw [if_neg (by decide +kernel)]; exact ⟨rfl, rfl⟩))
    (fun os started H enc _ => ringputShares_lifted os started H enc)

theorem ringputShares_holds : Rows.RingputSharesSaid := ringputShares_row
end Go.Proofs.YtbhhegikfadpiaaGreat
