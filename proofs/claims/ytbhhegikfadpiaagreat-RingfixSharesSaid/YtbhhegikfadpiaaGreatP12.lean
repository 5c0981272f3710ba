/-
  Layer 6's New, walked: a scheduler is made.
  A scheduler that stands, while what was there before it stands as it was.
  One machine alone on a buffer, told by a scheduler of its own: made, and run round by round.
  The calls whose answers layer 9's document fixes, walked.
  The document's put over a tape, and the machine that was told the same, held against each other (layer 7).
  The calls whose answers layer 7's document fixes, walked.
  The statement that each access of a put is the document's (layer 7), walked.
  The statement that each access of a fix is the document's (layer 9), walked.
  The statement that each access of a fix, on a buffer that somebody else writes in between, and all bytes, are the document's (layer 9), walked.
-/
import Derived.Test.YtbhhegikfadpiaaGreatP11
import Derived.Test.YtbhhegikfadpiaaGreatP06
import Derived.Lib.SlBytesConst
import Derived.Test.YtbhhegikfadpiaaGreatP09
import Derived.Test.YtbhhegikfadpiaaGreatP10
import Derived.Test.YtbhhegikfadpiaaGreatP08
import Derived.Deep.RegionHeld3
namespace Go.Proofs.YtbhhegikfadpiaaGreat
open Go.RowKit

/-- A slice of n machines stands in memory: the interfaces' values. -/
def MsAt (w : World) (A : Option Addr) (n : Nat) (xs : Nat → Value) : Prop := 0 < n → ∃ b, A = some ⟨b, 0, none⟩ ∧ b < w.heap.size ∧ ∀ i, i < n → w.cell? ⟨b, i, none⟩ = some (xs i)

theorem MsAt.below {w w' : World} {A : Option Addr} {n : Nat} {xs : Nat → Value} (h : MsAt w A n xs) (hb : Below w.heap.size w w') : MsAt w' A n xs := fun hp => by
  obtain ⟨b, e, hl, hc⟩ := h hp
  exact ⟨b, e, Nat.lt_of_lt_of_le hl hb.size, fun i hi => (hb.cell (p := ⟨b, i, none⟩) hl).trans (hc i hi)⟩

/-- A new scheduler's state. -/
def St.made (n : Nat) (ms : Nat → Mc) (m : Nat → Nat) (nw : Nat) (c : Int) : St := ⟨n, ms, fun _ => false, m, nw, c, 0, []⟩

/-- A scheduler was made. -/
def MadeSw (o : Nat → Pt) (gb hb : Nat) (xs : Nat → Value) (st : St) (w : World) (e : Ending) (w' : World) : Prop :=
  ∃ gw ga o', e = .returned (.pointer (some ⟨gw, 0, none⟩)) ∧ w.heap.size ≤ gw ∧ Sw w' o' gw ga gb hb xs (.slice none 0 0) [] st ∧ Below w.heap.size w w' ∧ ∀ k, k < w.heap.size → o' k = o k

theorem infoActor : (Tryz.prog.info? 105).map (fun i => (i.zero, i.size, i.bytes)) = some (some (.agg #[.nilIface, .bool false]), 2, 24) := by kernel_rfl

theorem make_actors (n : Nat) (hn : n ≤ 1000) (W : World) :
    (Instr.makeSlice 98 (.int .i64 (n : Int)) (.int .i64 (n : Int))).run Tryz.prog W = .ok (.slice (some ⟨W.heap.size, 0, none⟩) n n) (W.alloc (.cells (madeCells #[.nilIface, .bool false] (n * 2)) 105)) := by
  obtain ⟨i, hi, hz, hs, hby⟩ := info_parts infoActor
  have hr := run_make (P := Tryz.prog) W 98 105 i (.agg #[.nilIface, .bool false]) Tryz.underlying98 hi hz .i64 .i64 (n : Int) (n : Int) (by omega) (Int.le_refl _) (by rw [hby]; omega) (by omega)
  rw [hs] at hr
  simpa [Value.cells] using hr

theorem made_actors (w : World) (n : Nat) : (w.alloc (.cells (madeCells #[.nilIface, .bool false] (n * 2)) 105)).rowIs w.heap.size 105 (2 * n) (acCell (fun _ => .nilIface) (fun _ => false)) :=
  ⟨_, Go.Deep.blk_alloc_new _ _, by rw [size_madeCells]; omega, fun i hi => by
    unfold acCell madeCells
    have hm : i % 2 < 2 := Nat.mod_lt _ (by decide)
    have hi2 : i < n * 2 := by omega
    simp [hi2]
    rcases Nat.mod_two_eq_zero_or_one i with e | e
    · simp [e]
    · simp [e]⟩

theorem acCell_set (ax : Nat → Value) (dead : Nat → Bool) (i : Nat) (x : Value) (j : Nat) : (if j = i * 2 then x else acCell ax dead j) = acCell (upd ax i x) dead j := by
  unfold acCell
  by_cases e : j = i * 2
  · subst e
    rw [if_pos rfl, if_pos (by omega), show i * 2 / 2 = i by omega, upd_same]
  · rw [if_neg e]
    by_cases e2 : j % 2 = 0
    · rw [if_pos e2, if_pos e2, upd_other _ _ _ (by omega)]
    · rw [if_neg e2, if_neg e2]

set_option maxRecDepth 100000 in
set_option maxHeartbeats 2000000 in
theorem schedNew_any {w : World} {o : Nat → Pt} {gb hb nw : Nat} {m : Nat → Nat} {c : Int} (B : Buf w gb hb m nw c) (A : Option Addr) (n cap : Nat) (xs : Nat → Value) (ms : Nat → Mc) (hn : n ≤ 1000) (hcap : n ≤ cap) (hcap2 : cap ≤ 9223372036854775807) (hl : MsAt w A n xs)
    (hm : ∀ i, i < n → MRep w (fun k => o k = .ma i) (xs i) (ms i)) (hog : o gb = .bf) (hoh : o hb = .bf) (hlt : ∀ k, o k ≠ .no → k < w.heap.size) :
    Calls Tryz.prog 20 #[.pointer (some ⟨gb, 0, none⟩), .slice A n cap] w (MadeSw o gb hb xs (St.made n ms m nw c) w) := by
  have hmk := make_actors n hn
  have HH := Lib.hid (And.intro B (And.intro hm (And.intro hog (And.intro hoh hlt))))
  have HL := Lib.hid hl
  have HN := Lib.hid hn
  clear B hm hog hoh hlt hl
  have ha := made_actors w n
  have e1 : (w.alloc (.cells (madeCells #[.nilIface, .bool false] (n * 2)) 105)).heap.size = w.heap.size + 1 := by simp
  have HB1 := (Below.refl w.heap.size w).alloc (Nat.le_refl _) (.cells (madeCells #[.nilIface, .bool false] (n * 2)) 105)
  go_enter Tryz.func20, Tryz.ntmps20
  go_wp2
  generalize hW1 : w.alloc (.cells (madeCells #[.nilIface, .bool false] (n * 2)) 105) = W1 at *
  have hh := Go.Deep.blk_alloc_new W1 (.cells #[.pointer (some ⟨gb, 0, none⟩), .slice (some ⟨w.heap.size, 0, none⟩) n n, .int .i64 0, .slice none 0 0] 101)
  rw [e1] at hh
  have ha2 := ha.alloc (.cells #[.pointer (some ⟨gb, 0, none⟩), .slice (some ⟨w.heap.size, 0, none⟩) n n, .int .i64 0, .slice none 0 0] 101)
  have HB2 := HB1.alloc HB1.size (.cells #[.pointer (some ⟨gb, 0, none⟩), .slice (some ⟨w.heap.size, 0, none⟩) n n, .int .i64 0, .slice none 0 0] 101)
  generalize W1.alloc (.cells #[.pointer (some ⟨gb, 0, none⟩), .slice (some ⟨w.heap.size, 0, none⟩) n n, .int .i64 0, .slice none 0 0] 101) = W2 at hh ha2 HB2 ⊢
  have HST := Lib.hid (And.intro hh (And.intro ha2 HB2))
  clear hmk hW1 ha HB1 hh ha2 HB2
  go_loopw [16] (fun t16 wr => ∃ (i : Nat) (ax : Nat → Value), t16 = .int .i64 i ∧ i ≤ n ∧ (∀ j, j < i → ax j = xs j) ∧ wr.heap[w.heap.size + 1]? = some (.cells #[.pointer (some ⟨gb, 0, none⟩), .slice (some ⟨w.heap.size, 0, none⟩) n n, .int .i64 0, .slice none 0 0] 101 (0, 0)) ∧ wr.rowIs w.heap.size 105 (2 * n) (acCell ax (fun _ => false)) ∧ Below w.heap.size w wr) (fun t16 _ => n - (intOf t16).toNat)
  case atStart => exact ⟨0, _, rfl, Nat.zero_le _, fun j hj => absurd hj (Nat.not_lt_zero _), HST.out.1, HST.out.2.1, HST.out.2.2⟩
  case round =>
    obtain ⟨i, ax, rfl, hi, hax, hhd, hrow, hbw⟩ := hrel
    have HAX := Lib.hid hax
    have HHD := Lib.hid (And.intro hhd (And.intro hrow hbw))
    by_cases hlt : i < n
    · obtain ⟨bl, rfl, hbl, hcl⟩ := HL.out (by omega)
      have hcx := (hbw.cell (p := ⟨bl, i, none⟩) hbl).trans (hcl i hlt)
      have hc1 : wr.cell? ⟨w.heap.size + 1, 1, none⟩ = some (.slice (some ⟨w.heap.size, 0, none⟩) n n) := by simp [World.cell?, hhd]
      have hr0 := hrow.cell (i := i * 2) (by omega)
      have hf0 := hrow.frozen (i * 2)
      have hsh := (HH.out.2.1 i hlt).shape
      generalize hx : xs i = x at hcx hsh
      have HX := Lib.hid hx
      clear hax hhd hrow hbw hcl hx
      rcases hsh with ⟨rfl, _⟩ | ⟨T, y, rfl⟩
      all_goals
        go_wp2
        go_roundw
        case rel =>
          refine ⟨i + 1, upd ax i (xs i), by go_num, by omega, fun j hj => ?_, blkF HHD.out.1 (by omega) _, (HHD.out.2.1.set (i * 2) _).congr fun j _ => ?_, HHD.out.2.2.setCell (p := ⟨w.heap.size, i * 2, none⟩) (Nat.le_refl _) _⟩
          · by_cases e : j = i
            · subst e; exact upd_same _ _ _
            · rw [upd_other _ _ _ e]; exact HAX.out j (by omega)
          · rw [HX.out]; exact acCell_set _ _ _ _ _
        case measure => simp [intOf]; omega
    · obtain rfl : i = n := by omega
      clear hax hhd hrow hbw
      go_wp2
      go_ret
      obtain ⟨hhd, hrow, hbw⟩ := HHD.out
      obtain ⟨B, hm, hog, hoh, hlk⟩ := HH.out
      have hsz := (Array.getElem?_eq_some_iff.1 hhd).1
      have hold : ∀ k, k < w.heap.size → claimed (claimed o w.heap.size (fun k => k = w.heap.size) .ac) w.heap.size (fun k => k = w.heap.size + 1) .wd k = o k := fun k hk => (claimed_old hk).trans (claimed_old hk)
      refine ⟨w.heap.size + 1, w.heap.size, claimed (claimed o w.heap.size (fun k => k = w.heap.size) .ac) w.heap.size (fun k => k = w.heap.size + 1) .wd, rfl, Nat.le_succ _, ⟨hhd, hrow.congr fun j hj => ?_, B.below hbw, fun j hj => ?_, ⟨World.ownsRow_nil _ _ _ _, fun t ht => absurd ht (by simp), fun k hk => absurd hk (by simp [Value.ownBlock])⟩, rfl, claimed_new (Nat.le_succ _) rfl, (claimed_not fun e => by omega).trans (claimed_new (Nat.le_refl _) rfl), (hold gb B.g_lt).trans hog, (hold hb B.h_lt).trans hoh, fun k hk => ?_, HN.out, fun e he => absurd he (by simp [St.made])⟩, hbw, hold⟩
      · unfold acCell
        by_cases e : j % 2 = 0
        · rw [if_pos e, if_pos e]; exact HAX.out _ (by omega)
        · rw [if_neg e, if_neg e]; rfl
      · exact ((hm j hj).keep hbw.size fun k hk => hbw.block k (hlk k (by rw [hk]; simp))).mono fun k hk => (hold k (hlk k (by rw [hk]; simp))).trans hk
      · by_cases e : w.heap.size ≤ k ∧ k = w.heap.size + 1
        · omega
        · rw [claimed_not e] at hk
          by_cases e2 : w.heap.size ≤ k ∧ k = w.heap.size
          · omega
          · rw [claimed_not e2] at hk
            have := hlk k hk
            omega
end Go.Proofs.YtbhhegikfadpiaaGreat
namespace Go.Proofs.YtbhhegikfadpiaaGreat
open Go.RowKit

/-- A scheduler stands; all that was below stands as it was. -/
structure Stood (w0 w : World) (o : Nat → Pt) (gw ga gb hb : Nat) (ax : Nat → Value) (st : St) : Prop where
  sw : ∃ tv ts, Sw w o gw ga gb hb ax tv ts st
  low : Below w0.heap.size w0 w
  out : ∀ k, k < w0.heap.size → o k = .no

namespace Stood
variable {w0 w w' : World} {o o' : Nat → Pt} {gw ga gb hb : Nat} {ax : Nat → Value} {st st' : St}
theorem below (h : Stood w0 w o gw ga gb hb ax st) (hb' : Below w.heap.size w w') : Stood w0 w' o gw ga gb hb ax st := by
  obtain ⟨⟨tv, ts, hs⟩, h1, h2⟩ := h
  exact ⟨⟨tv, ts, hs.below hb'⟩, h1.trans (hb'.mono h1.size), h2⟩
theorem alloc (h : Stood w0 w o gw ga gb hb ax st) (q : Obj) : Stood w0 (w.alloc q) o gw ga gb hb ax st := h.below ((Below.refl _ _).alloc (Nat.le_refl _) q)
theorem after (h : Stood w0 w o gw ga gb hb ax st) (ht : Touch (Own o) w w') (hs : ∃ tv ts, Sw w' o' gw ga gb hb ax tv ts st') (ho : ∀ k, k < w.heap.size → o' k = o k) : Stood w0 w' o' gw ga gb hb ax st' :=
  ⟨hs, ⟨ht.os.trans h.low.os, ht.tape.trans h.low.tape, ht.output.trans h.low.output, Nat.le_trans h.low.size ht.size, fun k hk => (ht.block k (Nat.lt_of_lt_of_le hk h.low.size) fun e => e (h.out k hk)).trans (h.low.block k hk)⟩,
    fun k hk => (ho k (Nat.lt_of_lt_of_le hk h.low.size)).trans (h.out k hk)⟩
theorem new_no (h : Stood w0 w o gw ga gb hb ax st) {k : Nat} (hk : w.heap.size ≤ k) : o k = .no := by
  obtain ⟨⟨tv, ts, hs⟩, _, _⟩ := h
  exact hs.new_no hk
end Stood

/-- A block that is nobody's keeps its cells. -/
theorem nobody_cell {w w' : World} {o : Nat → Pt} (ht : Touch (Own o) w w') {q : Addr} (hq : q.block < w.heap.size) (hn : o q.block = .no) : w'.cell? q = w.cell? q :=
  World.cell?_of_block (ht.block q.block hq fun e => e hn)
end Go.Proofs.YtbhhegikfadpiaaGreat
namespace Go.Proofs.YtbhhegikfadpiaaGreat
open Go.RowKit

/-- A scheduler of one machine x stands; but for the buffer's two blocks nothing has turned since w1. -/
def OneAt (w1 w : World) (gw g h : Nat) (x : Value) (st : St) : Prop :=
  ∃ ga o, (∃ tv ts, Sw w o gw ga g h (fun i => if i = 0 then x else .nilIface) tv ts st) ∧ Touch (Two g h) w1 w ∧ ∀ k, k < w1.heap.size → k ≠ g → k ≠ h → o k = .no

theorem OneAt.buf {w1 w : World} {gw g h : Nat} {x : Value} {st : St} (hs : OneAt w1 w gw g h x st) : Buf w g h st.m st.nw st.c := by
  obtain ⟨ga, o, ⟨tv, ts, hs⟩, _⟩ := hs
  exact hs.buf
theorem OneAt.mach {w1 w : World} {gw g h : Nat} {x : Value} {st : St} (hs : OneAt w1 w gw g h x st) (hn : 0 < st.na) : ∃ F : Nat → Prop, MRep w F x (st.ms 0) ∧ ∀ k, F k → k < w.heap.size := by
  obtain ⟨ga, o, ⟨tv, ts, hs⟩, _⟩ := hs
  have h0 := hs.mach 0 hn
  rw [if_pos rfl] at h0
  exact ⟨_, h0, fun k hk => hs.lt k (by rw [hk]; simp)⟩
theorem OneAt.touch {w1 w : World} {gw g h : Nat} {x : Value} {st : St} (hs : OneAt w1 w gw g h x st) : Touch (Two g h) w1 w := by
  obtain ⟨ga, o, _, ht, _⟩ := hs
  exact ht

theorem oneNew {w1 w3 : World} {g h : Nat} {m : Nat → Nat} {nw : Nat} {c : Int} (B : Buf w1 g h m nw c) {T0 : TypeId} {y : Value} {mc : Mc} (hp : MRep w3 (fun k => w1.heap.size ≤ k ∧ k < w3.heap.size) (.iface T0 y) mc) (hb3 : Below w1.heap.size w1 w3) :
    ∀ T, Calls Tryz.prog 20 #[.pointer (some ⟨g, 0, none⟩), .slice (some ⟨w3.heap.size, 0, none⟩) 1 1] (w3.alloc (.cells #[.iface T0 y] T)) fun e w' => ∃ gw, e = .returned (.pointer (some ⟨gw, 0, none⟩)) ∧ OneAt w1 w' gw g h (.iface T0 y) (St.made 1 (fun i => if i = 0 then mc else .none) m nw c) := by
  intro T
  have s3 := hb3.size
  have hgl := B.g_lt
  have hhl := B.h_lt
  have hba := (Below.refl w3.heap.size w3).alloc (Nat.le_refl _) (.cells #[.iface T0 y] T)
  have e0 : (w3.alloc (.cells #[.iface T0 y] T)).heap.size = w3.heap.size + 1 := by simp
  have x0 := Go.Deep.blk_alloc_new w3 (.cells #[.iface T0 y] T)
  generalize w3.alloc (.cells #[.iface T0 y] T) = w4 at *
  have B4 := (B.below hb3).below hba
  refine (schedNew_any B4 (some ⟨w3.heap.size, 0, none⟩) 1 1 (fun i => if i = 0 then .iface T0 y else .nilIface) (fun i => if i = 0 then mc else .none) (by decide) (by decide) (by decide)
    (fun _ => ⟨w3.heap.size, rfl, by omega, fun i hi => ?_⟩) (o := fun k => if k = g ∨ k = h then .bf else if w1.heap.size ≤ k ∧ k < w3.heap.size then .ma 0 else .no) (fun i hi => ?_) ?_ ?_ (fun k hk => ?_)).mono ?_
  · match i, hi with
    | 0, _ => simp [World.cell?, x0]
  · match i, hi with
    | 0, _ =>
      refine MRep.mono (F := fun k => w1.heap.size ≤ k ∧ k < w3.heap.size) (hp.keep hba.size fun k hk => hba.block k hk.2) fun k hk => ?_
      show (if _ then _ else _) = _
      rw [if_neg (by omega), if_pos hk]
  · exact if_pos (.inl rfl)
  · exact if_pos (.inr rfl)
  · by_cases e1 : k = g ∨ k = h
    · omega
    · rw [if_neg e1] at hk
      by_cases e2 : w1.heap.size ≤ k ∧ k < w3.heap.size
      · omega
      · rw [if_neg e2] at hk
        exact absurd rfl hk
  · rintro e w' ⟨gw, ga, o', rfl, _, hs, hbl, ho⟩
    have hbl2 : Below w3.heap.size w3 w' := hba.trans (hbl.mono (by omega))
    refine ⟨gw, rfl, ga, o', ⟨_, _, hs⟩, Touch.of_below (hb3.trans (hbl2.mono s3)), fun k hk hg hh => ?_⟩
    rw [ho k (by omega)]
    show (if _ then _ else _) = _
    rw [if_neg (by omega), if_neg (by omega)]

theorem oneRobin {w1 w : World} {gw g h : Nat} {x : Value} {st : St} (hs : OneAt w1 w gw g h x st) (most : Nat) (hlong : st.tr.length + most ≤ 1000000) :
    Calls Tryz.prog 21 #[.pointer (some ⟨gw, 0, none⟩), .int .i64 most] w fun e w' => e = .returned (.int .i64 (st.robin most).2) ∧ OneAt w1 w' gw g h x (st.robin most).1 := by
  obtain ⟨ga, o, ⟨tv, ts, hs⟩, ht, ho⟩ := hs
  refine (robin_any hs most hlong).mono ?_
  rintro e w' ⟨rfl, o', tv', ts', hs', ht', ho'⟩
  refine ⟨rfl, ga, o', ⟨tv', ts', hs'⟩, ⟨ht'.os.trans ht.os, ht'.tape.trans ht.tape, ht'.output.trans ht.output, Nat.le_trans ht.size ht'.size, fun k hk hn => (ht'.block k (Nat.lt_of_lt_of_le hk ht.size) fun e => ?_).trans (ht.block k hk hn)⟩, fun k hk hg hh => ?_⟩
  · have h0 := ho k hk (fun e => hn (.inl e)) (fun e => hn (.inr e))
    exact e h0
  · rw [ho' k (Nat.lt_of_lt_of_le hk ht.size)]
    exact ho k hk hg hh

theorem rg_cells (w : World) (B Z : Int) :
    (w.alloc (.cells #[.int .i64 B, .int .i64 Z] 26)).cell? ⟨w.heap.size, 0, none⟩ = some (.int .i64 B) ∧ (w.alloc (.cells #[.int .i64 B, .int .i64 Z] 26)).cell? ⟨w.heap.size, 1, none⟩ = some (.int .i64 Z) := by
  have h := Go.Deep.blk_alloc_new w (.cells #[.int .i64 B, .int .i64 Z] 26)
  refine ⟨?_, ?_⟩ <;> (unfold World.cell?; simp only [h]; rfl)
end Go.Proofs.YtbhhegikfadpiaaGreat
namespace Go.Proofs.YtbhhegikfadpiaaGreat
open Go.RowKit

/-- A fix's machine, if it is one. -/
def Mc.fixOf : Mc → Fm
  | .fix m => m
  | _ => .dead
def Mc.isFix : Mc → Bool
  | .fix _ => true
  | _ => false
theorem Mc.fix_is {s : Mc} (h : s.isFix = true) : s = .fix s.fixOf := by
  cases s with
  | fix m => rfl
  | _ => cases h

/-- The bytes "ab". -/
def fxAb (k : Nat) : Nat := if k = 0 then 97 else if k = 1 then 98 else 0
theorem fxAb_isB : Mb.IsB fxAb := fun k => by unfold fxAb; split <;> (try split) <;> decide
theorem fxAb_at (w : World) : BytesAt (w.alloc (.cells #[.int .u8 97, .int .u8 98] 5 (2, 3))) (.slice (some ⟨w.heap.size, 0, none⟩) 2 2) (Mb.bl fxAb 0 2) := by
  have h := Go.Deep.blk_alloc_new w (.cells #[.int .u8 97, .int .u8 98] 5 (2, 3))
  refine ⟨_, _, rfl, fun _ => ⟨w.heap.size, 0, rfl, by simp, fun i hi => ?_⟩⟩
  have hi2 : i < 2 := hi
  match i, hi2 with
  | 0, _ => unfold World.cell?; simp only [h]; rfl
  | 1, _ => unfold World.cell?; simp only [h]; rfl
/-- The states. -/
def fy0 : St := St.made 1 (fun i => if i = 0 then .fix (Fm.new 0 64) else .none) (fun _ => 0) 12 0
def fy1 : St := (fy0.robin 99).1
def fy2 : St := St.made 1 (fun i => if i = 0 then .put (Pm.new 0 64 1 fxAb 2) else .none) fy1.m fy1.nw fy1.c
def fy3 : St := (fy2.robin 4).1
def fy4 : St := St.made 1 (fun i => if i = 0 then .fix (Fm.new 0 64) else .none) fy3.m fy3.nw fy3.c
def fy5 : St := (fy4.robin 99).1
theorem fy1_is : (fy1.ms 0).isFix = true := by decide +kernel
theorem fy1_res : (fy1.ms 0).fixOf.result = (0, 0) := by decide +kernel
theorem fy1_na : 0 < fy1.na := by decide +kernel
theorem fy5_is : (fy5.ms 0).isFix = true := by decide +kernel
theorem fy5_res : (fy5.ms 0).fixOf.result = (10, 0) := by decide +kernel
theorem fy5_na : 0 < fy5.na := by decide +kernel
theorem fy0_len : fy0.tr.length + 99 ≤ 1000000 := by decide +kernel
theorem fy2_len : fy2.tr.length + 4 ≤ 1000000 := by decide +kernel
theorem fy4_len : fy4.tr.length + 99 ≤ 1000000 := by decide +kernel

/-- What the machine of a scheduler of one, a fix, tells of its end. -/
theorem OneAt.fixed {w1 w : World} {gw g h gp : Nat} {st : St} (hs : OneAt w1 w gw g h (.iface 38 (.pointer (some ⟨gp, 0, none⟩))) st) (hn : 0 < st.na) (hi : (st.ms 0).isFix = true) {r : Int × Int} (hr : (st.ms 0).fixOf.result = r) :
    Calls Tryz.prog 22 #[.pointer (some ⟨gp, 0, none⟩)] w (fun e w' => e = .returned (.tuple #[.int .i64 r.1, .int .i64 r.2]) ∧ w = w') := by
  obtain ⟨F, hm, _⟩ := hs.mach hn
  rw [Mc.fix_is hi] at hm
  obtain ⟨g', e, hp⟩ := hm
  injection e with _ e
  injection e with e
  injection e with e
  injection e with e
  subst e
  have := fixResult hp
  rw [hr] at this
  exact this

set_option maxRecDepth 100000 in
set_option maxHeartbeats 2000000 in
theorem fixed9_any (w : World) : Calls Tryz.prog 5 #[] w (TrueBelow w) := by
  go_enter Tryz.func5, Tryz.ntmps5
  go_upto_region 2 with (go_at_call 6; refine (new_yes 96 12 _ (by decide) (by decide) (by decide) (by decide)).mono ?_; rintro e w1 ⟨g, h, rfl, B, hg, hh, hb1⟩)
  go_upto_region 3 with (fail)
  have hb2 := un_below w1 (.int .i64 0) (.int .i64 64) 26
  obtain ⟨r0, r1⟩ := rg_cells w1 0 64
  have B2 := B.below hb2
  have hgl := B.g_lt
  have hhl := B.h_lt
  generalize w1.alloc (.cells #[.int .i64 0, .int .i64 64] 26) = w2 at hb2 r0 r1 B2 ⊢
  have HQ := Lib.hid (And.intro hg (And.intro hh (And.intro hgl hhl)))
  have HB2 := Lib.hid (hb1.trans (hb2.mono hb1.size))
  have HBUF := Lib.hid B2
  have hrg : ¬ Two g h w1.heap.size := fun e => by rcases e with e | e <;> omega
  have HRG := Lib.hid hrg
  clear B B2 hb1 hb2 hg hh hgl hhl hrg
  go_upto_region 4 with (go_at_call 8; refine (fxNew 0 64 (by decide) (by decide) w2).mono ?_; rintro e w3 ⟨gp, rfl, hp, hb3⟩; have HP := Lib.hid hp; have HB3 := Lib.hid hb3; clear hp hb3)
  have HNEW := Lib.hid (oneNew (y := .pointer (some ⟨gp, 0, none⟩)) (T0 := 38) (mc := .fix (Fm.new 0 64)) HBUF.out ⟨gp, rfl, HP.out⟩ HB3.out)
  go_upto_region 5 with (first
    | (go_at_call 20; refine (HNEW.out _).mono ?_; rintro e w5 ⟨gw, rfl, hs5⟩; have HS5 := Lib.hid hs5; clear hs5)
    | (go_at_call 21; refine (oneRobin (st := fy0) HS5.out 99 fy0_len).mono ?_; rintro e w6 ⟨rfl, hs6⟩; have HS6 : Hid (OneAt w2 w6 gw g h (.iface 38 (.pointer (some ⟨gp, 0, none⟩))) fy1) := Lib.hid hs6; clear hs6))
  clear HNEW HP HS5 HBUF
  go_upto_region 6 with (go_at_call 22; refine (HS6.out.fixed fy1_na fy1_is fy1_res).mono ?_; rintro e w7 ⟨rfl, rfl⟩)
  have hlr := lt_of_cell r0
  have q0 := (HS6.out.touch.cell (p := ⟨w1.heap.size, 0, none⟩) hlr HRG.out).trans r0
  have q1 := (HS6.out.touch.cell (p := ⟨w1.heap.size, 1, none⟩) hlr HRG.out).trans r1
  have HL6 := Lib.hid (HS6.out.touch.below HB2.out HB2.out.size fun k hk => by rcases hk with e | e <;> rw [e] <;> first | exact HQ.out.1 | exact HQ.out.2.1)
  have HBUF6 := Lib.hid HS6.out.buf
  have hlr6 := lt_of_cell q0
  clear r0 r1 hlr HS6 HB2 HB3
  have hbz := (Below.refl w6.heap.size w6).alloc (Nat.le_refl _) (.cells #[.int .u8 97, .int .u8 98] 5 (2, 3))
  have HBY := Lib.hid (fxAb_at w6)
  have hconv : (convert 22 22 (.slice (some ⟨w6.heap.size, 0, none⟩) 2 2)).run Tryz.prog (w6.alloc (.cells #[.int .u8 97, .int .u8 98] 5))
      = .ok (.slice (some ⟨w6.heap.size, 0, none⟩) 2 2) (w6.alloc (.cells #[.int .u8 97, .int .u8 98] 5 (2, 3))) := Lib.run_convert_bytes_const w6 22 5 #[.int .u8 97, .int .u8 98] 2 2 Tryz.underlying22 Tryz.underlying5
  go_upto_region 7 with (first
    | (go_at_call 16; refine (rpNew 0 64 1 (by decide) (by decide) (by decide) _ 2 2 fxAb fxAb_isB _ HBY.out).mono ?_; rintro e w8 ⟨gp2, rfl, hp8, hb8⟩; have HB8 := Lib.hid (hbz.trans (hb8.mono hbz.size)); have HNEW2 := Lib.hid (oneNew (y := .pointer (some ⟨gp2, 0, none⟩)) (T0 := 52) (mc := .put (Pm.new 0 64 1 fxAb 2)) HBUF6.out ⟨gp2, rfl, hp8.wide fun k hk => ⟨Nat.le_trans hbz.size hk.1, hk.2⟩⟩ HB8.out); clear hp8 hb8)
    | (go_at_call 20; refine (HNEW2.out _).mono ?_; rintro e w9 ⟨gw2, rfl, hs9⟩; have HS9 : Hid (OneAt w6 w9 gw2 g h (.iface 52 (.pointer (some ⟨gp2, 0, none⟩))) fy2) := Lib.hid hs9; clear hs9)
    | (go_at_call 21; refine (oneRobin (st := fy2) HS9.out 4 fy2_len).mono ?_; rintro e w10 ⟨rfl, hs10⟩; have HS10 : Hid (OneAt w6 w10 gw2 g h (.iface 52 (.pointer (some ⟨gp2, 0, none⟩))) fy3) := Lib.hid hs10; clear hs10))
  have s0 := (HS10.out.touch.cell (p := ⟨w1.heap.size, 0, none⟩) hlr6 HRG.out).trans q0
  have s1 := (HS10.out.touch.cell (p := ⟨w1.heap.size, 1, none⟩) hlr6 HRG.out).trans q1
  have HL10 := Lib.hid (HS10.out.touch.below HL6.out HL6.out.size fun k hk => by rcases hk with e | e <;> rw [e] <;> first | exact HQ.out.1 | exact HQ.out.2.1)
  have HBUF10 := Lib.hid HS10.out.buf
  clear hconv q0 q1 hlr6 HS10 HS9 HNEW2 HB8 HBY hbz HBUF6 HL6
  go_upto_region 8 with (go_at_call 8; refine (fxNew 0 64 (by decide) (by decide) w10).mono ?_; rintro e w11 ⟨gp3, rfl, hp, hb11⟩; have HP := Lib.hid hp; have HB11 := Lib.hid hb11; clear hp hb11)
  have HNEW := Lib.hid (oneNew (y := .pointer (some ⟨gp3, 0, none⟩)) (T0 := 38) (mc := .fix (Fm.new 0 64)) HBUF10.out ⟨gp3, rfl, HP.out⟩ HB11.out)
  go_upto_region 9 with (first
    | (go_at_call 20; refine (HNEW.out _).mono ?_; rintro e w12 ⟨gw3, rfl, hs12⟩; have HS12 : Hid (OneAt w10 w12 gw3 g h (.iface 38 (.pointer (some ⟨gp3, 0, none⟩))) fy4) := Lib.hid hs12; clear hs12)
    | (go_at_call 21; refine (oneRobin (st := fy4) HS12.out 99 fy4_len).mono ?_; rintro e w13 ⟨rfl, hs13⟩; have HS13 : Hid (OneAt w10 w13 gw3 g h (.iface 38 (.pointer (some ⟨gp3, 0, none⟩))) fy5) := Lib.hid hs13; clear hs13))
  have HL13 := Lib.hid (HS13.out.touch.below HL10.out HL10.out.size fun k hk => by rcases hk with e | e <;> rw [e] <;> first | exact HQ.out.1 | exact HQ.out.2.1)
  clear s0 s1
  go_wp2_with (go_at_call 22; refine (HS13.out.fixed fy5_na fy5_is fy5_res).mono ?_; rintro e w14 ⟨rfl, rfl⟩)
  go_ret
  exact ⟨rfl, HL13.out⟩
end Go.Proofs.YtbhhegikfadpiaaGreat
namespace Go.Proofs.YtbhhegikfadpiaaGreat
open Go.RowKit

theorem putSays_dead {p cap i : Nat} {A : Option Addr} {m : Pm} {Z er : Int} {w w' : World} (hm : m = .dead Z er) (er' : Int) (he : er' = if Z = 0 then 1 else er) (hne : er' ≠ 0) (ht : Touch (One p) w w') (htp : Tp w' p A cap i 0 0 0 0 0 0 (.slice none 0 0) false) :
    PutSays p A cap i m w (.returned (.tuple #[.int .i64 0, .bool false, .int .i64 er'])) w' := by
  subst hm
  refine ⟨0, false, er', rfl, ht, rfl, ?_, fun h => absurd h hne, Ac.zero, none, 0, 0, 0, htp, BytesAt.nil _, rfl⟩
  unfold Pm.result
  show er' = (if Z = 0 then ((0 : Int), (1 : Int)) else if false = true then (0, 10) else if er = 0 then (0, 0) else (0, er)).2
  by_cases hz : Z = 0
  · rw [he, if_pos hz, if_pos hz]
  · rw [he, if_neg hz] at hne
    rw [he, if_neg hz, if_neg hz, if_neg (by decide), if_neg hne]

set_option maxRecDepth 100000 in
set_option maxHeartbeats 1000000 in
theorem refPut_dead (B Z typ : Int) (hB : -9223372036854775808 ≤ B ∧ B ≤ 9223372036854775807) (hZ : -9223372036854775808 ≤ Z ∧ Z ≤ 9223372036854775807) (Ab : Option Addr) (L c : Nat) (f : Nat → Nat) (p cap i : Nat) (A : Option Addr) (w : World) (ht : Tp w p A cap i 0 0 0 0 0 0 (.slice none 0 0) false)
    (T : Nat → Ans) (hbad : ¬ Rg.right B Z ∨ typ < 1 ∨ Z < 8 * (L : Int)) :
    Calls Tryz.prog 42 #[.pointer (some ⟨p, 0, none⟩), .agg #[.int .i64 B, .int .i64 Z], .int .i32 typ, .slice Ab L c] w (PutSays p A cap i ((Pm.new B Z typ f L).at T i) w) := by
  have hb0 := un_below w (.int .i64 B) (.int .i64 Z) 26
  have hx := Go.Deep.blk_alloc_new w (.cells #[.int .i64 B, .int .i64 Z] 26)
  have HBZ := Lib.hid (And.intro hB hZ)
  have HTP := Lib.hid (ht.below hb0)
  obtain ⟨m, hm⟩ : ∃ m : Pm, m = (Pm.new B Z typ f L).at T i := ⟨_, rfl⟩
  rw [← hm]
  have HM := Lib.hid hm
  clear hB hZ ht hm
  by_cases h1 : Rg.right B Z
  · have HOK := Lib.hid h1
    have hz0 : 64 ≤ Z := h1.2.1
    have hz1 : Z ≤ 8192 := h1.2.2.1
    have HR := Lib.hid (decide_eq_true h1)
    clear h1
    by_cases h2 : typ < 1
    · have HT := Lib.hid h2
      have hdt : decide (typ < 1) = true := by simpa using h2
      clear h2 hbad
      go_enter Tryz.func42, Tryz.ntmps42
      go_upto_region 1 with (fail)
      generalize w.alloc (.cells #[.int .i64 B, .int .i64 Z] 26) = W at hb0 hx HTP ⊢
      have x0 : W.cell? ⟨w.heap.size, 0, none⟩ = some (.int .i64 B) := by simp [World.cell?, hx]
      have x1 : W.cell? ⟨w.heap.size, 1, none⟩ = some (.int .i64 Z) := by simp [World.cell?, hx]
      clear hx
      go_wp2_with (go_at_call 62; refine (refRight_any B Z HBZ.out.1 HBZ.out.2 W).mono ?_; rintro e w1 ⟨rfl, hb1⟩; rw [HR.out])
      refine bodyPost_ret (v := .tuple #[.int .i64 0, .bool false, .int .i64 1]) (by simp [results, Tryz.results42, go_sem]) rfl ?_
      exact putSays_dead (Z := 0) (er := 0) (by rw [HM.out]; exact Pm.at_dead (by unfold Pm.new; rw [if_pos (.inr HT.out)]) i) 1 rfl (by decide) ((Touch.of_below hb0).trans (Touch.of_below hb1)) (HTP.out.below hb1)
    · have HT := Lib.hid h2
      have hdt : decide (typ < 1) = false := by simpa using h2
      have h3 : Z < 8 * (L : Int) := by
        rcases hbad with h | h | h
        · exact absurd HOK.out h
        · exact absurd h h2
        · exact h
      have HL := Lib.hid h3
      have hdl : Z / 8 < (L : Int) := by omega
      have hdd : decide (Z / 8 < (L : Int)) = true := by simpa using hdl
      clear h2 hbad h3
      go_enter Tryz.func42, Tryz.ntmps42
      go_upto_region 1 with (fail)
      generalize w.alloc (.cells #[.int .i64 B, .int .i64 Z] 26) = W at hb0 hx HTP ⊢
      have x0 : W.cell? ⟨w.heap.size, 0, none⟩ = some (.int .i64 B) := by simp [World.cell?, hx]
      have x1 : W.cell? ⟨w.heap.size, 1, none⟩ = some (.int .i64 Z) := by simp [World.cell?, hx]
      have hlx := (Array.getElem?_eq_some_iff.1 hx).1
      clear hx
      go_wp2_with (go_at_call 62; refine (refRight_any B Z HBZ.out.1 HBZ.out.2 W).mono ?_; rintro e w1 ⟨rfl, hb1⟩; rw [HR.out]; have y0 := (hb1.cell (p := ⟨w.heap.size, 0, none⟩) hlx).trans x0; have y1 := (hb1.cell (p := ⟨w.heap.size, 1, none⟩) hlx).trans x1)
      refine bodyPost_ret (v := .tuple #[.int .i64 0, .bool false, .int .i64 4]) (by simp [results, Tryz.results42, go_sem]) rfl ?_
      exact putSays_dead (Z := Z) (er := 4) (by rw [HM.out]; exact Pm.at_dead (by unfold Pm.new; rw [if_neg (fun h => h.elim (fun h => h HOK.out) (fun h => by have := HT.out; omega)), if_pos HL.out]) i) 4 (by rw [if_neg (by omega)]) (by decide) ((Touch.of_below hb0).trans (Touch.of_below hb1)) (HTP.out.below hb1)
  · have HR := Lib.hid (decide_eq_false h1)
    have HN := Lib.hid h1
    clear h1 hbad
    go_enter Tryz.func42, Tryz.ntmps42
    go_upto_region 1 with (fail)
    generalize w.alloc (.cells #[.int .i64 B, .int .i64 Z] 26) = W at hb0 hx HTP ⊢
    have x0 : W.cell? ⟨w.heap.size, 0, none⟩ = some (.int .i64 B) := by simp [World.cell?, hx]
    have x1 : W.cell? ⟨w.heap.size, 1, none⟩ = some (.int .i64 Z) := by simp [World.cell?, hx]
    clear hx
    go_wp2_with (go_at_call 62; refine (refRight_any B Z HBZ.out.1 HBZ.out.2 W).mono ?_; rintro e w1 ⟨rfl, hb1⟩; rw [HR.out])
    refine bodyPost_ret (v := .tuple #[.int .i64 0, .bool false, .int .i64 1]) (by simp [results, Tryz.results42, go_sem]) rfl ?_
    exact putSays_dead (Z := 0) (er := 0) (by rw [HM.out]; exact Pm.at_dead (by unfold Pm.new; rw [if_pos (.inl HN.out)]) i) 1 rfl (by decide) ((Touch.of_below hb0).trans (Touch.of_below hb1)) (HTP.out.below hb1)

/-- The document's put, of whatever ring, type and bytes, on a tape that was told i answers. -/
theorem refPut_any (B Z typ : Int) (hB : -9223372036854775808 ≤ B ∧ B ≤ 9223372036854775807) (hZ : -9223372036854775808 ≤ Z ∧ Z ≤ 9223372036854775807) (htyp2 : typ ≤ 2147483647) (Ab : Option Addr) (L c : Nat) (hLc : L ≤ c) (hc : c ≤ 9223372036854775807) (f : Nat → Nat) (hf : Mb.IsB f)
    (p cap i : Nat) (A : Option Addr) (hi : i ≤ cap) (hcap : cap ≤ 9223372036854775807) (T : Nat → Ans) (hA : 0 < i → ∀ a, A = some a → a.block ≠ p) (w : World) (hby : BytesAt w (.slice Ab L c) (Mb.bl f 0 L)) (hT : ToldAt w A i T) (ht : Tp w p A cap i 0 0 0 0 0 0 (.slice none 0 0) false) :
    Calls Tryz.prog 42 #[.pointer (some ⟨p, 0, none⟩), .agg #[.int .i64 B, .int .i64 Z], .int .i32 typ, .slice Ab L c] w (PutSays p A cap i ((Pm.new B Z typ f L).at T i) w) := by
  by_cases hbad : ¬ Rg.right B Z ∨ typ < 1 ∨ Z < 8 * (L : Int)
  · exact refPut_dead B Z typ hB hZ Ab L c f p cap i A w ht T hbad
  · have h1 : Rg.right B Z := Classical.byContradiction fun h => hbad (.inl h)
    have h2 : ¬ typ < 1 := fun h => hbad (.inr (.inl h))
    have h3 : ¬ Z < 8 * (L : Int) := fun h => hbad (.inr (.inr h))
    have hb : ((B.toNat : Nat) : Int) = B := Int.toNat_of_nonneg h1.2.2.2.1
    have hz : ((Z.toNat : Nat) : Int) = Z := Int.toNat_of_nonneg (by have := h1.2.1; omega)
    have hm : Pm.new B Z typ f L = .live ⟨B.toNat, Z.toNat, typ, f, L, 0, 0, 0, false, .ask, 0⟩ := by
      unfold Pm.new
      rw [if_neg (fun h => h.elim (fun h => h h1) h2), if_neg h3]
    have := refPut_live B.toNat Z.toNat typ (by rw [hb]; exact hB) (by rw [hz]; exact hZ) (by rw [hb, hz]; exact h1) h2 htyp2 Ab L c (by rw [hz]; exact h3) hLc hc f hf p cap i A hi hcap T hA w hby hT ht _ hm
    rw [hb, hz] at this
    exact this

theorem putNextU {w : World} {F : Nat → Prop} {g : Nat} {m : Pm} (h : PmAt w F g m) (hF : ∀ k, F k → k < w.heap.size) {a : Ac} (ha : a = m.next.getD Ac.zero) :
    Calls Tryz.prog 17 #[.pointer (some ⟨g, 0, none⟩)] w (fun e w' => ∃ A l c, e = .returned (.tuple #[.agg #[.int .i64 a.K, .int .i64 a.P, .int .i64 a.N, .int .u64 a.V, .int .u64 a.U, .slice A l c], .bool m.busy]) ∧ BytesAt w' (.slice A l c) a.bs ∧ Below w.heap.size w w') := by
  have hb : m.busy = m.next.isSome := by cases m <;> rfl
  refine (putNext h hF).mono ?_
  subst ha
  rw [hb]
  cases m.next with
  | none =>
    rintro e w' ⟨hb, rfl⟩
    exact ⟨none, 0, 0, rfl, BytesAt.nil _, hb⟩
  | some a =>
    rintro e w' ⟨hb, A, l, c, rfl, ho⟩
    exact ⟨A, l, c, rfl, ho.bytes, hb⟩

theorem Pm.result_pos (m : Pm) : (m.result.2 = 0 → m.result.1 = m.pos) ∧ (m.result.2 ≠ 0 → m.result.1 = 0) := by
  unfold Pm.result
  split
  · exact ⟨(fun h => by cases h), fun _ => rfl⟩
  · split
    · exact ⟨(fun h => by cases h), fun _ => rfl⟩
    · split
      · exact ⟨fun _ => rfl, fun h => absurd rfl h⟩
      · rename_i h
        exact ⟨fun h2 => absurd h2 h, fun _ => rfl⟩

set_option linter.unusedSimpArgs false in
set_option maxRecDepth 100000 in
set_option maxHeartbeats 2000000 in
theorem same7_any (B Z typ : Int) (hB : -9223372036854775808 ≤ B ∧ B ≤ 9223372036854775807) (hZ : -9223372036854775808 ≤ Z ∧ Z ≤ 9223372036854775807) (htyp2 : typ ≤ 2147483647) (Ab : Option Addr) (L c : Nat) (hLc : L ≤ c) (hc : c ≤ 9223372036854775807) (f : Nat → Nat) (hf : Mb.IsB f)
    (cap i : Nat) (A : Option Addr) (hi : i ≤ cap) (hcap : cap ≤ 9223372036854775807) (T : Nat → Ans) (w : World) (hby : BytesAt w (.slice Ab L c) (Mb.bl f 0 L)) (hT : ToldAt w A i T) {F : Nat → Prop} {g : Nat} (hp : PmAt w F g ((Pm.new B Z typ f L).at T i)) (hF : ∀ k, F k → k < w.heap.size) :
    Calls Tryz.prog 19 #[.pointer (some ⟨g, 0, none⟩), .slice A i cap, .agg #[.int .i64 B, .int .i64 Z], .int .i32 typ, .slice Ab L c] w (TrueBelow w) := by
  obtain ⟨m, hm⟩ : ∃ m : Pm, m = (Pm.new B Z typ f L).at T i := ⟨_, rfl⟩
  rw [← hm] at hp
  obtain ⟨W, hW⟩ : ∃ W, W = (w.alloc (.cells #[.int .i64 B, .int .i64 Z] 26)).alloc (.cells #[.slice A i cap, .int .i64 0, .int .i64 0, .int .i64 0, .int .i64 0, .int .u64 0, .int .u64 0, .slice none 0 0, .bool false] 84) := ⟨_, rfl⟩
  have hbW : Below w.heap.size w W := by rw [hW]; exact (un_below w (.int .i64 B) (.int .i64 Z) 26).alloc (un_below w (.int .i64 B) (.int .i64 Z) 26).size _
  have htp : Tp W (w.heap.size + 1) A cap i 0 0 0 0 0 0 (.slice none 0 0) false := ⟨by
    rw [hW]
    have := Go.Deep.blk_alloc_new (w.alloc (.cells #[.int .i64 B, .int .i64 Z] 26)) (.cells #[.slice A i cap, .int .i64 0, .int .i64 0, .int .i64 0, .int .i64 0, .int .u64 0, .int .u64 0, .slice none 0 0, .bool false] 84)
    rw [show (w.alloc (.cells #[.int .i64 B, .int .i64 Z] 26)).heap.size = w.heap.size + 1 by simp] at this
    exact this⟩
  have hA : 0 < i → ∀ a, A = some a → a.block ≠ w.heap.size + 1 := fun h0 a ha e => by
    obtain ⟨b, off, e2, hlt, _⟩ := hT h0
    rw [ha] at e2
    injection e2 with e2
    rw [e2] at e
    simp only at e
    omega
  have HPUT := Lib.hid (refPut_any B Z typ hB hZ htyp2 Ab L c hLc hc f hf (w.heap.size + 1) cap i A hi hcap T hA W (hby.below hbW) (hT.below hbW) htp)
  rw [← hm] at HPUT
  have HPW := Lib.hid (hp.keep hbW.size fun k hk => hbW.block k (hF k hk))
  have HFW := Lib.hid hF
  have HBW := Lib.hid hbW
  clear hB hZ htyp2 hLc hc hf hi hcap hby hT hp hF hbW htp hA hm
  go_enter Tryz.func19, Tryz.ntmps19
  go_wp2_with fail
  rw [← hW]
  clear hW
  refine HPUT.out.mono ?_
  rintro e w3 ⟨pos, hs, er, rfl, hto, h1, h2, h3, a, Bs, ls, cs, j, htq, hbq, ha⟩
  have HT3 := Lib.hid hto
  have hlow : Below w.heap.size w w3 := hto.below HBW.out HBW.out.size fun k hk => by have e : k = w.heap.size + 1 := hk; omega
  have HL3 := Lib.hid hlow
  have HP3 := Lib.hid (HPW.out.keep hto.size fun k hk => hto.block k (Nat.lt_of_lt_of_le (HFW.out k hk) HBW.out.size) fun e => by have := HFW.out k hk; have e : k = w.heap.size + 1 := e; omega)
  have HQ := Lib.hid (And.intro htq hbq)
  have HS := Lib.hid (And.intro h1 (And.intro h2 h3))
  have HAA := Lib.hid ha
  clear hto hlow htq hbq h1 h2 h3 ha HPUT HPW
  go_wp2_with fail
  refine (putNextU HP3.out (fun k hk => Nat.lt_of_lt_of_le (HFW.out k hk) HL3.out.size) HAA.out).mono ?_
  rintro e w4 ⟨An, ln, cn, rfl, hbn, hb4⟩
  have HN4 := Lib.hid hbn
  have HB4 := Lib.hid hb4
  clear hbn hb4
  go_wp2_with fail
  have hx5 := Go.Deep.blk_alloc_new w4 (.cells #[.int .i64 a.K, .int .i64 a.P, .int .i64 a.N, .int .u64 a.V, .int .u64 a.U, .slice An ln cn] 37)
  have hb5 := (Below.refl w4.heap.size w4).alloc (Nat.le_refl _) (.cells #[.int .i64 a.K, .int .i64 a.P, .int .i64 a.N, .int .u64 a.V, .int .u64 a.U, .slice An ln cn] 37)
  generalize w4.alloc (.cells #[.int .i64 a.K, .int .i64 a.P, .int .i64 a.N, .int .u64 a.V, .int .u64 a.U, .slice An ln cn] 37) = w5 at hx5 hb5 ⊢
  have hb35 := HB4.out.trans (hb5.mono HB4.out.size)
  have HP5 := Lib.hid (HP3.out.keep hb35.size fun k hk => hb35.block k (Nat.lt_of_lt_of_le (HFW.out k hk) HL3.out.size))
  have HX5 := Lib.hid hx5
  have HQ5 := Lib.hid (HQ.out.1.below hb35)
  have HB5 := Lib.hid (And.intro (HN4.out.below hb5) (HQ.out.2.below hb35))
  have HL5 := Lib.hid (HL3.out.trans (hb35.mono HL3.out.size))
  have hlx5 := (Array.getElem?_eq_some_iff.1 hx5).1
  clear hx5 hb5 hb35 HP3 HQ HN4 HB4 HL3 HT3
  refine (putAt HP5.out).mono ?_
  rintro e w6 ⟨rfl, j6, rfl⟩
  have hd6 := drewN_below w5 j6
  have HP6 := Lib.hid (HP5.out.keep hd6.size fun k hk => hd6.block k (Nat.lt_of_lt_of_le (HFW.out k hk) HL5.out.size))
  have HD6 := Lib.hid hd6
  clear hd6
  go_wp2_with fail
  refine (putResult HP6.out).mono ?_
  rintro e w7 ⟨rfl, j7, rfl⟩
  have hd7 := HD6.out.trans ((drewN_below (w5.drewN j6) j7).mono HD6.out.size)
  have HL7 := Lib.hid (HL5.out.trans (hd7.mono HL5.out.size))
  have htape := HQ5.out.below hd7
  have hxb := (hd7.block _ hlx5).trans HX5.out
  have HS1 := Lib.hid (HB5.out.1.below hd7)
  have HS2 := Lib.hid (HB5.out.2.below hd7)
  obtain ⟨h1, h2, h3⟩ := HS.out
  obtain ⟨p1, p2⟩ := m.result_pos
  rw [← h2] at p1 p2 ⊢
  clear HP5 HP6 HX5 HQ5 HB5 HL5 HD6 HS hd7 HAA
  generalize (w5.drewN j6).drewN j7 = w8 at htape hxb HS1 HS2 HL7 ⊢
  have d0 : w8.cell? ⟨w4.heap.size, 0, none⟩ = some (.int .i64 a.K) := by simp [World.cell?, hxb]
  have d1 : w8.cell? ⟨w4.heap.size, 1, none⟩ = some (.int .i64 a.P) := by simp [World.cell?, hxb]
  have d2 : w8.cell? ⟨w4.heap.size, 2, none⟩ = some (.int .i64 a.N) := by simp [World.cell?, hxb]
  have d3 : w8.cell? ⟨w4.heap.size, 3, none⟩ = some (.int .u64 a.V) := by simp [World.cell?, hxb]
  have d4 : w8.cell? ⟨w4.heap.size, 4, none⟩ = some (.int .u64 a.U) := by simp [World.cell?, hxb]
  have d5 : w8.cell? ⟨w4.heap.size, 5, none⟩ = some (.slice An ln cn) := by simp [World.cell?, hxb]
  have t2 := htape.c2
  have t3 := htape.c3
  have t4 := htape.c4
  have t5 := htape.c5
  have t6 := htape.c6
  have t7 := htape.c7
  have t8 := htape.c8
  subst h1
  generalize m.has = mh at *
  generalize m.busy = mb at *
  generalize m.result.1 = r1 at *
  generalize m.pos = mp at *
  clear htape hxb h2
  by_cases he : er = 0
  · have hp1 := p1 he
    have hp3 := h3 he
    subst he hp1 hp3
    go_wp2_with fail
    go_region_held3 (fun w' => w'.cell? ⟨w.heap.size + 1, 8, none⟩ = some (.bool mb) ∧ w'.cell? ⟨w.heap.size + 1, 2, none⟩ = some (.int .i64 a.K) ∧ w'.cell? ⟨w.heap.size + 1, 3, none⟩ = some (.int .i64 a.P) ∧ w'.cell? ⟨w.heap.size + 1, 4, none⟩ = some (.int .i64 a.N) ∧ w'.cell? ⟨w.heap.size + 1, 5, none⟩ = some (.int .u64 (a.V : Int)) ∧ w'.cell? ⟨w.heap.size + 1, 6, none⟩ = some (.int .u64 (a.U : Int)) ∧ w'.cell? ⟨w.heap.size + 1, 7, none⟩ = some (.slice Bs ls cs) ∧ w'.cell? ⟨w4.heap.size, 0, none⟩ = some (.int .i64 a.K) ∧ w'.cell? ⟨w4.heap.size, 1, none⟩ = some (.int .i64 a.P) ∧ w'.cell? ⟨w4.heap.size, 2, none⟩ = some (.int .i64 a.N) ∧ w'.cell? ⟨w4.heap.size, 3, none⟩ = some (.int .u64 a.V) ∧ w'.cell? ⟨w4.heap.size, 4, none⟩ = some (.int .u64 a.U) ∧ w'.cell? ⟨w4.heap.size, 5, none⟩ = some (.slice An ln cn)) (go_keep)
      (first | (go_at_call 36; refine (same_any a.K a.P a.N (a.V : Int) (a.U : Int) An Bs ln ls cn cs a.bs w8.drew (HS1.out.below (Below.refl w8.heap.size w8).drew) (HS2.out.below (Below.refl w8.heap.size w8).drew)).mono ?_; rintro e w9 ⟨rfl, hb9⟩; have hb9d := below_drew hb9; have kt8 := (hb9d.cell (p := ⟨w.heap.size + 1, 8, none⟩) (lt_of_cell t8)).trans t8; have kt2 := (hb9d.cell (p := ⟨w.heap.size + 1, 2, none⟩) (lt_of_cell t2)).trans t2; have kt3 := (hb9d.cell (p := ⟨w.heap.size + 1, 3, none⟩) (lt_of_cell t3)).trans t3; have kt4 := (hb9d.cell (p := ⟨w.heap.size + 1, 4, none⟩) (lt_of_cell t4)).trans t4; have kt5 := (hb9d.cell (p := ⟨w.heap.size + 1, 5, none⟩) (lt_of_cell t5)).trans t5; have kt6 := (hb9d.cell (p := ⟨w.heap.size + 1, 6, none⟩) (lt_of_cell t6)).trans t6; have kt7 := (hb9d.cell (p := ⟨w.heap.size + 1, 7, none⟩) (lt_of_cell t7)).trans t7; have kd0 := (hb9d.cell (p := ⟨w4.heap.size, 0, none⟩) (lt_of_cell d0)).trans d0; have kd1 := (hb9d.cell (p := ⟨w4.heap.size, 1, none⟩) (lt_of_cell d1)).trans d1; have kd2 := (hb9d.cell (p := ⟨w4.heap.size, 2, none⟩) (lt_of_cell d2)).trans d2; have kd3 := (hb9d.cell (p := ⟨w4.heap.size, 3, none⟩) (lt_of_cell d3)).trans d3; have kd4 := (hb9d.cell (p := ⟨w4.heap.size, 4, none⟩) (lt_of_cell d4)).trans d4; have kd5 := (hb9d.cell (p := ⟨w4.heap.size, 5, none⟩) (lt_of_cell d5)).trans d5))
    all_goals
      go_wp2
      go_ret
      exact ⟨rfl, HL7.out.trans (hb9d.mono HL7.out.size)⟩
  · have hp2 := p2 he
    subst hp2
    go_wp2_with fail
    refine wp_region_noPanic ?_
    refine wp_region_held_drew (S := fun w' => w'.cell? ⟨w.heap.size + 1, 8, none⟩ = some (.bool mb) ∧ w'.cell? ⟨w.heap.size + 1, 2, none⟩ = some (.int .i64 a.K) ∧ w'.cell? ⟨w.heap.size + 1, 3, none⟩ = some (.int .i64 a.P) ∧ w'.cell? ⟨w.heap.size + 1, 4, none⟩ = some (.int .i64 a.N) ∧ w'.cell? ⟨w.heap.size + 1, 5, none⟩ = some (.int .u64 (a.V : Int)) ∧ w'.cell? ⟨w.heap.size + 1, 6, none⟩ = some (.int .u64 (a.U : Int)) ∧ w'.cell? ⟨w.heap.size + 1, 7, none⟩ = some (.slice Bs ls cs) ∧ w'.cell? ⟨w4.heap.size, 0, none⟩ = some (.int .i64 a.K) ∧ w'.cell? ⟨w4.heap.size, 1, none⟩ = some (.int .i64 a.P) ∧ w'.cell? ⟨w4.heap.size, 2, none⟩ = some (.int .i64 a.N) ∧ w'.cell? ⟨w4.heap.size, 3, none⟩ = some (.int .u64 a.V) ∧ w'.cell? ⟨w4.heap.size, 4, none⟩ = some (.int .u64 a.U) ∧ w'.cell? ⟨w4.heap.size, 5, none⟩ = some (.slice An ln cn)) (by kernel_rfl) ?_ (fun hHeld => ?_)
    · (try dsimp only); go_keep
    refine wpAnyH_take (i := 0) (oi := _) (v := ?_) rfl (by kernel_rfl) (by kernel_rfl) (by kernel_rfl) (fun _ _ _ h => h) (Or.inl ⟨by rfl, ?_⟩) (by assumption) ?_
    rotate_left
    · (intro w hSw; (try dsimp only at hSw); go_simp; try (with_reducible rfl))
    try simp only [Act.put, Array.reduceGetElem, List.setIfInBounds_toArray, List.set_cons_zero, List.set_cons_succ]
    refine wpAnyH_take (i := 1) (oi := _) (v := ?_) rfl (by kernel_rfl) (by kernel_rfl) (by kernel_rfl) (fun _ _ _ h => h) (Or.inl ⟨by rfl, ?_⟩) (by assumption) ?_
    rotate_left
    · (intro w hSw; (try dsimp only at hSw); go_simp; try (with_reducible rfl))
    try simp only [Act.put, Array.reduceGetElem, List.setIfInBounds_toArray, List.set_cons_zero, List.set_cons_succ]
    refine wpAnyH_take (i := 2) (oi := _) (v := ?_) rfl (by kernel_rfl) (by kernel_rfl) (by kernel_rfl) (fun _ _ _ h => h) (Or.inl ⟨by rfl, ?_⟩) (by assumption) ?_
    rotate_left
    · (intro w hSw; (try dsimp only at hSw); go_simp; try (with_reducible rfl))
    try simp only [Act.put, Array.reduceGetElem, List.setIfInBounds_toArray, List.set_cons_zero, List.set_cons_succ]
    refine wpAnyH_take (i := 3) (oi := _) (v := ?_) rfl (by kernel_rfl) (by kernel_rfl) (by kernel_rfl) (fun _ _ _ h => h) (Or.inl ⟨by rfl, ?_⟩) (by assumption) ?_
    rotate_left
    · (intro w hSw; (try dsimp only at hSw); go_simp; try (with_reducible rfl))
    try simp only [Act.put, Array.reduceGetElem, List.setIfInBounds_toArray, List.set_cons_zero, List.set_cons_succ]
    refine wpAnyH_take (i := 4) (oi := _) (v := ?_) rfl (by kernel_rfl) (by kernel_rfl) (by kernel_rfl) (fun _ _ _ h => h) (Or.inl ⟨by rfl, ?_⟩) (by assumption) ?_
    rotate_left
    · (intro w hSw; (try dsimp only at hSw); go_simp; try (with_reducible rfl))
    try simp only [Act.put, Array.reduceGetElem, List.setIfInBounds_toArray, List.set_cons_zero, List.set_cons_succ]
    refine wpAnyH_take (i := 5) (oi := _) (v := ?_) rfl (by kernel_rfl) (by kernel_rfl) (by kernel_rfl) (fun _ _ _ h => h) (Or.inl ⟨by rfl, ?_⟩) (by assumption) ?_
    rotate_left
    · (intro w hSw; (try dsimp only at hSw); go_simp; try (with_reducible rfl))
    try simp only [Act.put, Array.reduceGetElem, List.setIfInBounds_toArray, List.set_cons_zero, List.set_cons_succ]
    refine wpAnyH_take (i := 6) (oi := _) (v := ?_) rfl (by kernel_rfl) (by kernel_rfl) (by kernel_rfl) (fun _ _ _ h => h) (Or.inl ⟨by rfl, ?_⟩) (by assumption) ?_
    rotate_left
    · (intro w hSw; (try dsimp only at hSw); go_simp; try (with_reducible rfl))
    try simp only [Act.put, Array.reduceGetElem, List.setIfInBounds_toArray, List.set_cons_zero, List.set_cons_succ]
    refine wpAnyH_take (i := 7) (oi := _) (v := ?_) rfl (by kernel_rfl) (by kernel_rfl) (by kernel_rfl) (fun _ _ _ h => h) (Or.inl ⟨by rfl, ?_⟩) (by assumption) ?_
    rotate_left
    · (intro w hSw; (try dsimp only at hSw); go_simp; try (with_reducible rfl))
    try simp only [Act.put, Array.reduceGetElem, List.setIfInBounds_toArray, List.set_cons_zero, List.set_cons_succ]
    refine wpAnyH_take (i := 8) (oi := _) (v := ?_) rfl (by kernel_rfl) (by kernel_rfl) (by kernel_rfl) (fun _ _ _ h => h) (Or.inl ⟨by rfl, ?_⟩) (by assumption) ?_
    rotate_left
    · (intro w hSw; (try dsimp only at hSw); go_simp; try (with_reducible rfl))
    try simp only [Act.put, Array.reduceGetElem, List.setIfInBounds_toArray, List.set_cons_zero, List.set_cons_succ]
    refine wpAnyH_take (i := 9) (oi := _) (v := ?_) rfl (by kernel_rfl) (by kernel_rfl) (by kernel_rfl) (fun _ _ _ h => h) (Or.inl ⟨by rfl, ?_⟩) (by assumption) ?_
    rotate_left
    · (intro w hSw; (try dsimp only at hSw); go_simp; try (with_reducible rfl))
    try simp only [Act.put, Array.reduceGetElem, List.setIfInBounds_toArray, List.set_cons_zero, List.set_cons_succ]
    refine wpAnyH_take (i := 10) (oi := _) (v := ?_) rfl (by kernel_rfl) (by kernel_rfl) (by kernel_rfl) (fun _ _ _ h => h) (Or.inl ⟨by rfl, ?_⟩) (by assumption) ?_
    rotate_left
    · (intro w hSw; (try dsimp only at hSw); go_simp; try (with_reducible rfl))
    try simp only [Act.put, Array.reduceGetElem, List.setIfInBounds_toArray, List.set_cons_zero, List.set_cons_succ]
    refine wpAnyH_take (i := 11) (oi := _) (v := ?_) rfl (by kernel_rfl) (by kernel_rfl) (by kernel_rfl) (fun _ _ _ h => h) (Or.inl ⟨by rfl, ?_⟩) (by assumption) ?_
    rotate_left
    · (intro w hSw; (try dsimp only at hSw); go_simp; try (with_reducible rfl))
    try simp only [Act.put, Array.reduceGetElem, List.setIfInBounds_toArray, List.set_cons_zero, List.set_cons_succ]
    refine wpAnyH_ready (rs := [12]) (by kernel_rfl) (by simp) ?_
    refine AllReadyH.cons (o := _) rfl (fun K9 hK => ?_) ?_
    rotate_left
    · exact AllReadyH.nil
    go_simp
    refine (same_any a.K a.P a.N (a.V : Int) (a.U : Int) An Bs ln ls cn cs a.bs w8.drew (HS1.out.below (Below.refl w8.heap.size w8).drew) (HS2.out.below (Below.refl w8.heap.size w8).drew)).mono ?_
    rintro e w9 ⟨rfl, hb9⟩
    have hb9d := below_drew hb9
    have kt8 := (hb9d.cell (p := ⟨w.heap.size + 1, 8, none⟩) (lt_of_cell t8)).trans t8
    have kt2 := (hb9d.cell (p := ⟨w.heap.size + 1, 2, none⟩) (lt_of_cell t2)).trans t2
    have kt3 := (hb9d.cell (p := ⟨w.heap.size + 1, 3, none⟩) (lt_of_cell t3)).trans t3
    have kt4 := (hb9d.cell (p := ⟨w.heap.size + 1, 4, none⟩) (lt_of_cell t4)).trans t4
    have kt5 := (hb9d.cell (p := ⟨w.heap.size + 1, 5, none⟩) (lt_of_cell t5)).trans t5
    have kt6 := (hb9d.cell (p := ⟨w.heap.size + 1, 6, none⟩) (lt_of_cell t6)).trans t6
    have kt7 := (hb9d.cell (p := ⟨w.heap.size + 1, 7, none⟩) (lt_of_cell t7)).trans t7
    have kd0 := (hb9d.cell (p := ⟨w4.heap.size, 0, none⟩) (lt_of_cell d0)).trans d0
    have kd1 := (hb9d.cell (p := ⟨w4.heap.size, 1, none⟩) (lt_of_cell d1)).trans d1
    have kd2 := (hb9d.cell (p := ⟨w4.heap.size, 2, none⟩) (lt_of_cell d2)).trans d2
    have kd3 := (hb9d.cell (p := ⟨w4.heap.size, 3, none⟩) (lt_of_cell d3)).trans d3
    have kd4 := (hb9d.cell (p := ⟨w4.heap.size, 4, none⟩) (lt_of_cell d4)).trans d4
    have kd5 := (hb9d.cell (p := ⟨w4.heap.size, 5, none⟩) (lt_of_cell d5)).trans d5
    refine hK.out _ _ ?_ (fun hHeld => ?_)
    · (try dsimp only); go_keep
    clear hK K9
    try simp only [Act.put, Array.reduceGetElem, List.setIfInBounds_toArray, List.set_cons_zero, List.set_cons_succ]
    refine wpAnyH_take (i := 13) (oi := _) (v := ?_) rfl (by kernel_rfl) (by kernel_rfl) (by kernel_rfl) (fun _ _ _ h => h) (Or.inl ⟨by rfl, ?_⟩) (by assumption) ?_
    rotate_left
    · (intro w hSw; (try dsimp only at hSw); go_simp; try (with_reducible rfl))
    try simp only [Act.put, Array.reduceGetElem, List.setIfInBounds_toArray, List.set_cons_zero, List.set_cons_succ]
    refine wpAnyH_take (i := 14) (oi := _) (v := ?_) rfl (by kernel_rfl) (by kernel_rfl) (by kernel_rfl) (fun _ _ _ h => h) (Or.inl ⟨by rfl, ?_⟩) (by assumption) ?_
    rotate_left
    · (intro w hSw; (try dsimp only at hSw); go_simp; try (with_reducible rfl))
    try simp only [Act.put, Array.reduceGetElem, List.setIfInBounds_toArray, List.set_cons_zero, List.set_cons_succ]
    refine wpAnyH_take (i := 15) (oi := _) (v := ?_) rfl (by kernel_rfl) (by kernel_rfl) (by kernel_rfl) (fun _ _ _ h => h) (Or.inl ⟨by rfl, ?_⟩) (by assumption) ?_
    rotate_left
    · (intro w hSw; (try dsimp only at hSw); go_simp; try (with_reducible rfl))
    try simp only [Act.put, Array.reduceGetElem, List.setIfInBounds_toArray, List.set_cons_zero, List.set_cons_succ]
    refine wpAnyH_take (i := 16) (oi := _) (v := ?_) rfl (by kernel_rfl) (by kernel_rfl) (by kernel_rfl) (fun _ _ _ h => h) (Or.inl ⟨by rfl, ?_⟩) (by assumption) ?_
    rotate_left
    · (intro w hSw; (try dsimp only at hSw); go_simp; try (with_reducible rfl))
    try simp only [Act.put, Array.reduceGetElem, List.setIfInBounds_toArray, List.set_cons_zero, List.set_cons_succ]
    refine wpAnyH_take (i := 17) (oi := _) (v := ?_) rfl (by kernel_rfl) (by kernel_rfl) (by kernel_rfl) (fun _ _ _ h => h) (Or.inl ⟨by rfl, ?_⟩) (by assumption) ?_
    rotate_left
    · (intro w hSw; (try dsimp only at hSw); go_simp; try (with_reducible rfl))
    try simp only [Act.put, Array.reduceGetElem, List.setIfInBounds_toArray, List.set_cons_zero, List.set_cons_succ]
    refine wpAnyH_take (i := 18) (oi := _) (v := ?_) rfl (by kernel_rfl) (by kernel_rfl) (by kernel_rfl) (fun _ _ _ h => h) (Or.inl ⟨by rfl, ?_⟩) (by assumption) ?_
    rotate_left
    · (intro w hSw; (try dsimp only at hSw); go_simp; try (with_reducible rfl))
    try simp only [Act.put, Array.reduceGetElem, List.setIfInBounds_toArray, List.set_cons_zero, List.set_cons_succ]
    refine wpAnyH_take (i := 19) (oi := _) (v := ?_) rfl (by kernel_rfl) (by kernel_rfl) (by kernel_rfl) (fun _ _ _ h => h) (Or.inl ⟨by rfl, ?_⟩) (by assumption) ?_
    rotate_left
    · (intro w hSw; (try dsimp only at hSw); go_simp; try (with_reducible rfl))
    try simp only [Act.put, Array.reduceGetElem, List.setIfInBounds_toArray, List.set_cons_zero, List.set_cons_succ]
    refine wpAnyH_take (i := 20) (oi := _) (v := ?_) rfl (by kernel_rfl) (by kernel_rfl) (by kernel_rfl) (fun _ _ _ h => h) (Or.inl ⟨by rfl, ?_⟩) (by assumption) ?_
    rotate_left
    · (intro w hSw; (try dsimp only at hSw); go_simp; try (with_reducible rfl))
    try simp only [Act.put, Array.reduceGetElem, List.setIfInBounds_toArray, List.set_cons_zero, List.set_cons_succ]
    refine wpAnyH_take (i := 21) (oi := _) (v := ?_) rfl (by kernel_rfl) (by kernel_rfl) (by kernel_rfl) (fun _ _ _ h => h) (Or.inl ⟨by rfl, ?_⟩) (by assumption) ?_
    rotate_left
    · (intro w hSw; (try dsimp only at hSw); go_simp; try (with_reducible rfl))
    try simp only [Act.put, Array.reduceGetElem, List.setIfInBounds_toArray, List.set_cons_zero, List.set_cons_succ]
    refine wpAnyH_take (i := 22) (oi := _) (v := ?_) rfl (by kernel_rfl) (by kernel_rfl) (by kernel_rfl) (fun _ _ _ h => h) (Or.inl ⟨by rfl, ?_⟩) (by assumption) ?_
    rotate_left
    · (intro w hSw; (try dsimp only at hSw); go_simp; try (with_reducible rfl))
    try simp only [Act.put, Array.reduceGetElem, List.setIfInBounds_toArray, List.set_cons_zero, List.set_cons_succ]
    refine wpAnyH_take (i := 23) (oi := _) (v := ?_) rfl (by kernel_rfl) (by kernel_rfl) (by kernel_rfl) (fun _ _ _ h => h) (Or.inl ⟨by rfl, ?_⟩) (by assumption) ?_
    rotate_left
    · (intro w hSw; (try dsimp only at hSw); go_simp; try (with_reducible rfl))
    try simp only [Act.put, Array.reduceGetElem, List.setIfInBounds_toArray, List.set_cons_zero, List.set_cons_succ]
    refine wpAnyH_take (i := 24) (oi := _) (v := ?_) rfl (by kernel_rfl) (by kernel_rfl) (by kernel_rfl) (fun _ _ _ h => h) (Or.inl ⟨by rfl, ?_⟩) (by assumption) ?_
    rotate_left
    · (intro w hSw; (try dsimp only at hSw); go_simp; try (with_reducible rfl))
    try simp only [Act.put, Array.reduceGetElem, List.setIfInBounds_toArray, List.set_cons_zero, List.set_cons_succ]
    refine wpAnyH_take (i := 25) (oi := _) (v := ?_) rfl (by kernel_rfl) (by kernel_rfl) (by kernel_rfl) (fun _ _ _ h => h) (Or.inl ⟨by rfl, ?_⟩) (by assumption) ?_
    rotate_left
    · (intro w hSw; (try dsimp only at hSw); go_simp; try (with_reducible rfl))
    try simp only [Act.put, Array.reduceGetElem, List.setIfInBounds_toArray, List.set_cons_zero, List.set_cons_succ]
    refine wpAnyH_take (i := 26) (oi := _) (v := ?_) rfl (by kernel_rfl) (by kernel_rfl) (by kernel_rfl) (fun _ _ _ h => h) (Or.inl ⟨by rfl, ?_⟩) (by assumption) ?_
    rotate_left
    · (intro w hSw; (try dsimp only at hSw); go_simp; try (with_reducible rfl))
    try simp only [Act.put, Array.reduceGetElem, List.setIfInBounds_toArray, List.set_cons_zero, List.set_cons_succ]
    refine wpAnyH_take (i := 27) (oi := _) (v := ?_) rfl (by kernel_rfl) (by kernel_rfl) (by kernel_rfl) (fun _ _ _ h => h) (Or.inl ⟨by rfl, ?_⟩) (by assumption) ?_
    rotate_left
    · (intro w hSw; (try dsimp only at hSw); go_simp; try (with_reducible rfl))
    try simp only [Act.put, Array.reduceGetElem, List.setIfInBounds_toArray, List.set_cons_zero, List.set_cons_succ]
    refine wpAnyH_take (i := 28) (oi := _) (v := ?_) rfl (by kernel_rfl) (by kernel_rfl) (by kernel_rfl) (fun _ _ _ h => h) (Or.inl ⟨by rfl, ?_⟩) (by assumption) ?_
    rotate_left
    · (intro w hSw; (try dsimp only at hSw); go_simp; try (with_reducible rfl))
    try simp only [Act.put, Array.reduceGetElem, List.setIfInBounds_toArray, List.set_cons_zero, List.set_cons_succ]
    refine wpAnyH_take (i := 29) (oi := _) (v := ?_) rfl (by kernel_rfl) (by kernel_rfl) (by kernel_rfl) (fun _ _ _ h => h) (Or.inl ⟨by rfl, ?_⟩) (by assumption) ?_
    rotate_left
    · (intro w hSw; (try dsimp only at hSw); go_simp; try (with_reducible rfl))
    try simp only [Act.put, Array.reduceGetElem, List.setIfInBounds_toArray, List.set_cons_zero, List.set_cons_succ]
    refine wpAnyH_take (i := 30) (oi := _) (v := ?_) rfl (by kernel_rfl) (by kernel_rfl) (by kernel_rfl) (fun _ _ _ h => h) (Or.inl ⟨by rfl, ?_⟩) (by assumption) ?_
    rotate_left
    · (intro w hSw; (try dsimp only at hSw); go_simp; try (with_reducible rfl))
    try simp only [Act.put, Array.reduceGetElem, List.setIfInBounds_toArray, List.set_cons_zero, List.set_cons_succ]
    refine wpAnyH_take (i := 31) (oi := _) (v := ?_) rfl (by kernel_rfl) (by kernel_rfl) (by kernel_rfl) (fun _ _ _ h => h) (Or.inl ⟨by rfl, ?_⟩) (by assumption) ?_
    rotate_left
    · (intro w hSw; (try dsimp only at hSw); go_simp; try (with_reducible rfl))
    try simp only [Act.put, Array.reduceGetElem, List.setIfInBounds_toArray, List.set_cons_zero, List.set_cons_succ]
    try simp only [hd2]
    refine wpAnyH_take (i := 32) (oi := _) (v := ?_) rfl (by kernel_rfl) (by kernel_rfl) (by kernel_rfl) (fun _ _ _ h => h) (Or.inl ⟨by rfl, ?_⟩) (by assumption) ?_
    rotate_left
    · (intro w hSw; (try dsimp only at hSw); go_simp; try (with_reducible rfl))
    try simp only [Act.put, Array.reduceGetElem, List.setIfInBounds_toArray, List.set_cons_zero, List.set_cons_succ]
    refine wpAnyH_take (i := 33) (oi := _) (v := undef) rfl (by kernel_rfl) (by kernel_rfl) (by kernel_rfl) (fun _ _ _ h => h) (Or.inr ⟨by rfl, rfl⟩) (by assumption) ?_
    try simp only [Act.put, Array.reduceGetElem, List.setIfInBounds_toArray, List.set_cons_zero, List.set_cons_succ]
    refine wpAnyH_take (i := 34) (oi := _) (v := undef) rfl (by kernel_rfl) (by kernel_rfl) (by kernel_rfl) (fun _ _ _ h => h) (Or.inr ⟨by rfl, rfl⟩) (by assumption) ?_
    try simp only [Act.put, Array.reduceGetElem, List.setIfInBounds_toArray, List.set_cons_zero, List.set_cons_succ]
    refine wpAnyH_take (i := 35) (oi := _) (v := undef) rfl (by kernel_rfl) (by kernel_rfl) (by kernel_rfl) (fun _ _ _ h => h) (Or.inr ⟨by rfl, rfl⟩) (by assumption) ?_
    try simp only [Act.put, Array.reduceGetElem, List.setIfInBounds_toArray, List.set_cons_zero, List.set_cons_succ]
    refine wpAnyH_take (i := 36) (oi := _) (v := ?_) rfl (by kernel_rfl) (by kernel_rfl) (by kernel_rfl) (fun _ _ _ h => h) (Or.inl ⟨by rfl, ?_⟩) (by assumption) ?_
    rotate_left
    · (intro w hSw; (try dsimp only at hSw); go_simp; try (with_reducible rfl))
    try simp only [Act.put, Array.reduceGetElem, List.setIfInBounds_toArray, List.set_cons_zero, List.set_cons_succ]
    refine wpAnyH_take (i := 37) (oi := _) (v := ?_) rfl (by kernel_rfl) (by kernel_rfl) (by kernel_rfl) (fun _ _ _ h => h) (Or.inl ⟨by rfl, ?_⟩) (by assumption) ?_
    rotate_left
    · (intro w hSw; (try dsimp only at hSw); go_simp; try (with_reducible rfl))
    try simp only [Act.put, Array.reduceGetElem, List.setIfInBounds_toArray, List.set_cons_zero, List.set_cons_succ]
    refine wpAnyH_take (i := 38) (oi := _) (v := ?_) rfl (by kernel_rfl) (by kernel_rfl) (by kernel_rfl) (fun _ _ _ h => h) (Or.inl ⟨by rfl, ?_⟩) (by assumption) ?_
    rotate_left
    · (intro w hSw; (try dsimp only at hSw); go_simp; try (with_reducible rfl))
    try simp only [Act.put, Array.reduceGetElem, List.setIfInBounds_toArray, List.set_cons_zero, List.set_cons_succ]
    refine wpAnyH_done (by kernel_rfl) ?_ _
    refine NoPanic.normal ?_
    go_wp2
    go_ret
    exact ⟨rfl, HL7.out.trans (hb9d.mono HL7.out.size)⟩
end Go.Proofs.YtbhhegikfadpiaaGreat
namespace Go.Proofs.YtbhhegikfadpiaaGreat
open Go.RowKit

/-- A put's machine, if it is one. -/
def Mc.putOf : Mc → Pm
  | .put m => m
  | _ => .dead 0 0
def Mc.isPut : Mc → Bool
  | .put _ => true
  | _ => false
theorem Mc.put_is {s : Mc} (h : s.isPut = true) : s = .put s.putOf := by
  cases s with
  | put m => rfl
  | _ => cases h

/-- The states. -/
def rx0 : St := St.made 1 (fun i => if i = 0 then .put (Pm.new 0 64 1 (fun _ => 0) 8) else .none) (fun _ => 0) 12 0
def rx1 : St := (rx0.robin 99).1
theorem rx_n : (rx0.robin 99).2 = 6 := by decide +kernel
theorem rx_is : (rx1.ms 0).isPut = true := by decide +kernel
theorem rx_res : (rx1.ms 0).putOf.result = (0, 0) := by decide +kernel
theorem rx_busy : (Pm.new 0 64 1 (fun _ => 0) 8).result = (0, 10) := by decide +kernel
theorem rx_tail : Mb.nm rx1.m 64 8 = 16 := by decide +kernel
theorem rx_len : rx0.tr.length + 99 ≤ 1000000 := by decide +kernel
theorem rx_nw : rx1.nw = 12 := by decide +kernel

/-- One put, of a new scheduler. -/
theorem fixed7_made {w0 w1 w3 : World} {g h gp : Nat} (B : Buf w1 g h (fun _ => 0) 12 0) (h1 : w0.heap.size ≤ g) (h2 : w0.heap.size ≤ h) (hb1 : Below w0.heap.size w0 w1) {m : Pm} {n2 : Nat} (hn2 : w1.heap.size ≤ n2)
    (hp : PmAt w3 (fun k => n2 ≤ k ∧ k < w3.heap.size) gp m) (hb3 : Below w1.heap.size w1 w3) :
    ∀ T, Calls Tryz.prog 20 #[.pointer (some ⟨g, 0, none⟩), .slice (some ⟨w3.heap.size, 0, none⟩) 1 1] (w3.alloc (.cells #[.iface 52 (.pointer (some ⟨gp, 0, none⟩))] T)) fun e w' => ∃ gw ga o', e = .returned (.pointer (some ⟨gw, 0, none⟩)) ∧ Stood w0 w' o' gw ga g h (fun i => if i = 0 then .iface 52 (.pointer (some ⟨gp, 0, none⟩)) else .nilIface) (St.made 1 (fun i => if i = 0 then .put m else .none) (fun _ => 0) 12 0) ∧ Below w3.heap.size w3 w' := by
  intro T
  have s1 := hb1.size
  have s3 := hb3.size
  have hgl := B.g_lt
  have hhl := B.h_lt
  have hba := (Below.refl w3.heap.size w3).alloc (Nat.le_refl _) (.cells #[.iface 52 (.pointer (some ⟨gp, 0, none⟩))] T)
  have e0 : (w3.alloc (.cells #[.iface 52 (.pointer (some ⟨gp, 0, none⟩))] T)).heap.size = w3.heap.size + 1 := by simp
  have x0 := Go.Deep.blk_alloc_new w3 (.cells #[.iface 52 (.pointer (some ⟨gp, 0, none⟩))] T)
  generalize w3.alloc (.cells #[.iface 52 (.pointer (some ⟨gp, 0, none⟩))] T) = w4 at *
  have B4 := (B.below hb3).below hba
  refine (schedNew_any B4 (some ⟨w3.heap.size, 0, none⟩) 1 1 (fun i => if i = 0 then .iface 52 (.pointer (some ⟨gp, 0, none⟩)) else .nilIface) (fun i => if i = 0 then .put m else .none) (by decide) (by decide) (by decide)
    (fun _ => ⟨w3.heap.size, rfl, by omega, fun i hi => ?_⟩) (o := fun k => if k = g ∨ k = h then .bf else if n2 ≤ k ∧ k < w3.heap.size then .ma 0 else .no) (fun i hi => ?_) ?_ ?_ (fun k hk => ?_)).mono ?_
  · match i, hi with
    | 0, _ => simp [World.cell?, x0]
  · match i, hi with
    | 0, _ =>
      refine MRep.mono (F := fun k => n2 ≤ k ∧ k < w3.heap.size) ⟨gp, rfl, hp.keep hba.size fun k hk => hba.block k hk.2⟩ fun k hk => ?_
      show (if _ then _ else _) = _
      rw [if_neg (by omega), if_pos hk]
  · exact if_pos (.inl rfl)
  · exact if_pos (.inr rfl)
  · by_cases e1 : k = g ∨ k = h
    · omega
    · rw [if_neg e1] at hk
      by_cases e2 : n2 ≤ k ∧ k < w3.heap.size
      · omega
      · rw [if_neg e2] at hk
        exact absurd rfl hk
  · rintro e w' ⟨gw, ga, o', rfl, _, hs, hbl, ho⟩
    have hbl2 : Below w3.heap.size w3 w' := hba.trans (hbl.mono (by omega))
    refine ⟨gw, ga, o', rfl, ⟨⟨_, _, hs⟩, (hb1.trans (hb3.mono s1)).trans (hbl2.mono (by omega)), fun k hk => ?_⟩, hbl2⟩
    rw [ho k (by omega)]
    show (if _ then _ else _) = _
    rw [if_neg (by omega), if_neg (by omega)]

set_option maxRecDepth 100000 in
set_option maxHeartbeats 2000000 in
theorem fixed7_any (w : World) : Calls Tryz.prog 15 #[] w (TrueBelow w) := by
  have hmk : ∀ W : World, (Instr.makeSlice 22 (.int .i64 8) (.int .i64 8)).run Tryz.prog W = .ok (.slice (some ⟨W.heap.size, 0, none⟩) 8 8) (W.alloc (.cells (madeCells #[.int .u8 0] 8) 5)) := make_bytes 8 (by decide)
  go_enter Tryz.func15, Tryz.ntmps15
  go_upto_region 2 with (go_at_call 6; refine (new_yes 96 12 _ (by decide) (by decide) (by decide) (by decide)).mono ?_; rintro e w1 ⟨g, h, rfl, B, hg, hh, hb1⟩)
  go_wp2_with fail
  have HZ := Lib.hid (zeros_made w1 8 (by decide)).bytes
  have hbz := (Below.refl w1.heap.size w1).alloc (Nat.le_refl _) (.cells (madeCells #[.int .u8 0] 8) 5)
  clear hmk
  generalize w1.alloc (.cells (madeCells #[.int .u8 0] 8) 5) = W at HZ hbz ⊢
  refine (rpNew 0 64 1 (by decide) (by decide) (by decide) _ 8 8 (fun _ => 0) Mb.zero_isB W HZ.out).mono ?_
  rintro e w3 ⟨gp, rfl, hp, hbp⟩
  have HP := Lib.hid hp
  have hb3 := hbz.trans (hbp.mono hbz.size)
  have hq3 := hbz.size
  have HQ := Lib.hid (And.intro hb3 (And.intro hb1 (And.intro hg hh)))
  clear hp hbp hbz
  go_upto_region 4 with (go_at_call 38; refine (putResult HP.out).mono ?_; rintro e w4 ⟨rfl, j4, rfl⟩; rw [rx_busy])
  have hbj := drewN_below w3 j4
  have hnew : ∀ T, _ := fixed7_made (w0 := w) (w1 := w1) (w3 := w3.drewN j4) (n2 := W.heap.size) B HQ.out.2.2.1 HQ.out.2.2.2 HQ.out.2.1 hq3 ((HP.out.keep hbj.size fun k hk => hbj.block k hk.2).wide fun k hk => ⟨hk.1, Nat.lt_of_lt_of_le hk.2 hbj.size⟩) (HQ.out.1.trans (hbj.mono HQ.out.1.size))
  have HNEW := Lib.hid hnew
  clear hnew hbj B HP hq3
  go_upto_region 5 with (first
    | (go_at_call 20; refine (HNEW.out _).mono ?_; rintro e w5 ⟨gw, ga, o5, rfl, hs5, hb5⟩)
    | (go_at_call 21; obtain ⟨⟨tv, ts, hsw⟩, hlw, hot⟩ := hs5; refine (robin_any (st := rx0) hsw 99 rx_len).mono ?_; rintro e w6 ⟨rfl, o6, tv6, ts6, hsw6, ht6, ho6⟩; rw [rx_n]))
  have hlow := (Stood.after ⟨⟨tv, ts, hsw⟩, hlw, hot⟩ ht6 ⟨tv6, ts6, hsw6⟩ ho6).low
  obtain ⟨s1, h1⟩ : ∃ s, s = rx1 := ⟨_, rfl⟩
  have hsw7 : Sw w6 o6 gw ga g h (fun i => if i = 0 then .iface 52 (.pointer (some ⟨gp, 0, none⟩)) else .nilIface) tv6 ts6 rx1 := hsw6
  rw [← h1] at hsw7
  have fis := h1 ▸ rx_is
  have fres := h1 ▸ rx_res
  have ftail := h1 ▸ rx_tail
  have fnw := h1 ▸ rx_nw
  have fna := h1 ▸ (show 0 < rx1.na by decide +kernel)
  have hm6 := hsw7.mach 0 fna
  have hbuf := hsw7.buf
  rw [Mc.put_is fis, if_pos rfl] at hm6
  obtain ⟨g', e', hp6⟩ := hm6
  injection e' with _ e'
  injection e' with e'
  injection e' with e'
  injection e' with e'
  subst e'
  have HP := Lib.hid hp6
  have HB := Lib.hid hbuf
  have HR := Lib.hid fres
  have HT := Lib.hid ftail
  have HNW := Lib.hid fnw
  have HLOW := Lib.hid hlow
  clear hp6 hbuf fres ftail fnw hlow hsw6 hsw7 h1 fis fna hsw hlw hot ht6 ho6 HNEW HQ hb5
  go_wp2_with (first
    | (go_at_call 38; refine (putResult HP.out).mono ?_; rintro e w7 ⟨rfl, j7, rfl⟩; rw [HR.out]; have hb7 := drewN_below w6 j7)
    | (go_at_call 27; refine (rpCheck 0 0 (by decide) (by decide) _).mono ?_; rintro e w9 ⟨rfl, hb9⟩; rw [show (if Rg.right 0 0 then (0 : Int) else 1) = 1 by decide])
    | (go_at_call 7; refine (do_plain (HB.out.below hb7) 1 64 8 0 0 (by decide) (by rw [HNW.out]; decide)).mono ?_; rintro e w8 ⟨sl, rfl, hby, hst8⟩; rw [show Mb.ansV s1.m 1 64 8 = 16 from HT.out]; obtain ⟨Asl, csl, rfl, _⟩ := hby))
  go_ret
  have hb8 : Below w.heap.size w w8 := hst8.2.below (HLOW.out.trans (hb7.mono HLOW.out.size)) (Nat.le_trans HLOW.out.size hb7.size) fun k hk => by rcases hk with rfl | rfl <;> assumption
  have hb8a := hb8.alloc hb8.size (.cells #[.int .u64 (16 : Nat), .bool (Mb.ansD s1.m 1 64 8 0), .slice Asl (Mb.ansB s1.m 1 64 8).length csl] 33)
  exact ⟨rfl, hb8a.trans (hb9.mono hb8a.size)⟩
end Go.Proofs.YtbhhegikfadpiaaGreat
namespace Go.Proofs.YtbhhegikfadpiaaGreat
open Go.RowKit

/-- A row of L bytes in block g that may be written. -/
def PutRow (w : World) (g L : Nat) : Prop := ∃ cur, w.heap[g]? = some (.cells cur 5 (0, 0)) ∧ ∀ j, j < L → ∃ x, cur[j]? = some (.int .u8 x)

theorem PutRow.set {w : World} {g L i : Nat} (h : PutRow w g L) (y : Int) : PutRow (w.setCell ⟨g, i, none⟩ (.int .u8 y)) g L := by
  obtain ⟨cur, hb, hc⟩ := h
  refine ⟨_, blk_set hb _, fun j hj => ?_⟩
  obtain ⟨x, hx⟩ := hc j hj
  by_cases e : i = j
  · subst e
    exact ⟨y, by rw [Array.getElem?_setIfInBounds_self]; rw [if_pos (Array.getElem?_eq_some_iff.1 hx).1]⟩
  · exact ⟨x, by rw [Array.getElem?_setIfInBounds_ne e]; exact hx⟩

theorem PutRow.cell {w : World} {g L i : Nat} (h : PutRow w g L) (hi : i < L) : ∃ x, w.cell? ⟨g, i, none⟩ = some (.int .u8 x) ∧ w.frozen? ⟨g, i, none⟩ = false := by
  obtain ⟨cur, hb, hc⟩ := h
  obtain ⟨x, hx⟩ := hc i hi
  exact ⟨x, by simp [World.cell?, hb, hx], by simp [World.frozen?, hb]⟩

theorem Owns.putRow {base : Nat} {w : World} {A : Option Addr} {L c : Nat} {xs : List Int} (h : Owns base w (.slice A L c) xs) (hl : xs.length = L) (hp : 0 < L) : ∃ g, A = some ⟨g, 0, none⟩ ∧ base ≤ g ∧ g < w.heap.size ∧ PutRow w g L := by
  obtain ⟨g, cap, hv, _, _, hg, hgl, hc⟩ := h.form (by omega)
  injection hv with e1 _ _
  subst e1
  rcases h.2 with ⟨_, h0⟩ | ⟨g', cap', cur, hv', _, hh, _⟩
  · omega
  · injection hv' with e1 _ _
    injection e1 with e1
    injection e1 with e1 _
    subst e1
    refine ⟨g, rfl, hg, hgl, cur, hh, fun j hj => ?_⟩
    have := hc j (by omega)
    simp only [World.cell?, hh] at this
    exact ⟨_, this⟩

theorem ToldAt.less {w : World} {A : Option Addr} {n m : Nat} {T : Nat → Ans} (h : ToldAt w A n T) (hm : m ≤ n) : ToldAt w A m T := by
  intro hp
  obtain ⟨b, off, e, hlt, hc⟩ := h (by omega)
  exact ⟨b, off, e, hlt, fun i hi => hc i (by omega)⟩

end Go.Proofs.YtbhhegikfadpiaaGreat
namespace Go.Proofs.YtbhhegikfadpiaaGreat
open Go.RowKit

theorem Fm.at_congr {m : Fm} {T T' : Nat → Ans} {i : Nat} (h : ∀ j, j < i → T j = T' j) : m.at T i = m.at T' i := by
  induction i with
  | zero => rfl
  | succ i ih =>
    show (m.at T i).take (T i).an = (m.at T' i).take (T' i).an
    rw [ih fun j hj => h j (by omega), h i (by omega)]
theorem Fm.Half.congr {m : Fm} {T T' : Nat → Ans} {i : Nat} (hh : m.Half T i) (h : ∀ j, j < i → T j = T' j) : m.Half T' i := fun j hj a ha hn => by
  rw [← h j hj]
  exact hh j hj a (by rw [Fm.at_congr (T' := T') fun k hk => h k (by omega)]; exact ha) hn

theorem fx_u32 (V : Nat) : IntKind.u64.wrap (IntKind.u32.wrap (V : Int)) = ((V % 4294967296 : Nat) : Int) := by
  rw [Hd.u32_wrap, Hd.u64_small _ (by omega) (by omega)]
  omega

end Go.Proofs.YtbhhegikfadpiaaGreat
namespace Go.Proofs.YtbhhegikfadpiaaGreat
open Go.RowKit

theorem own_cap {base l c : Nat} {w : World} {A : Option Addr} {xs : List Int} (h : Owns base w (.slice A l c) xs) : l = xs.length ∧ c ≤ 9223372036854775807 := by
  obtain ⟨h0, e | ⟨g, cap, cur, e, _, _, e2, e3, _⟩⟩ := h
  · obtain ⟨e1, e2⟩ := e
    injection e1 with _ e3 e4
    refine ⟨?_, by omega⟩
    rw [e3]
    simpa using e2.symm
  · injection e with _ e4 e5
    unfold maxLen at e3
    exact ⟨e4, by omega⟩

theorem fixNextW {w : World} {F : Nat → Prop} {g : Nat} {m : Fm} (h : FmAt w F g m) (hF : ∀ k, F k → k < w.heap.size) {a : Ac} (ha : m.next = some a) (hb : a.bs = []) :
    Calls Tryz.prog 9 #[.pointer (some ⟨g, 0, none⟩)] w (fun e w' => ∃ A c, e = .returned (.tuple #[.agg #[.int .i64 a.K, .int .i64 a.P, .int .i64 a.N, .int .u64 a.V, .int .u64 a.U, .slice A 0 c], .bool true]) ∧ c ≤ 9223372036854775807 ∧ Below w.heap.size w w') := by
  have := fixNext h hF
  rw [ha] at this
  refine this.mono ?_
  rintro e w' ⟨hbl, A, l, c, rfl, ho⟩
  obtain ⟨e1, e2⟩ := own_cap ho
  rw [hb] at e1
  simp only [List.length_nil] at e1
  subst e1
  exact ⟨A, c, rfl, e2, hbl⟩

/-- What a fix asks for: a word, or half of one, of its ring. -/
theorem Fs.word {s : Fs} (ok : s.Ok) {a : Ac} (h : s.next = some a) {S : Nat} (hin : s.B + s.Z + 24 ≤ S) : ∃ P N : Nat, a.P = P ∧ a.N = N ∧ (a.K = 1 ∨ a.K = 2) ∧ (N = 4 ∨ N = 8) ∧ P + N ≤ S ∧ a.bs = [] ∧ (N = 4 → a.K = 1) := by
  have okr := ok.rg
  have num : ∀ k : Int, 0 ≤ k → k ≤ 16 → ∃ P : Nat, Rg.num s.B s.Z k = P ∧ P + 8 ≤ S := fun k h0 h1 => ⟨(Rg.num s.B s.Z k).toNat, by unfold Rg.num; omega, by unfold Rg.num; omega⟩
  have spot : ∀ v : Int, ∃ P : Nat, Rg.spot s.B s.Z v = P ∧ P + 8 ≤ S := fun v => by
    have := okr.place_in v
    exact ⟨(Rg.spot s.B s.Z v).toNat, by unfold Rg.spot; omega, by unfold Rg.spot; omega⟩
  unfold Fs.next at h
  cases hph : s.ph with
  | fin => rw [hph] at h; cases h
  | head => rw [hph] at h; injection h with e; subst e; obtain ⟨P, h1, h2⟩ := num 16 (by omega) (by omega); exact ⟨P, 8, h1, rfl, .inl rfl, .inr rfl, h2, rfl, fun e => by cases e⟩
  | tail d => rw [hph] at h; injection h with e; subst e; obtain ⟨P, h1, h2⟩ := num 0 (by omega) (by omega); exact ⟨P, 8, h1, rfl, .inl rfl, .inr rfl, h2, rfl, fun e => by cases e⟩
  | hdr => rw [hph] at h; injection h with e; subst e; obtain ⟨P, h1, h2⟩ := spot s.a; exact ⟨P, 8, h1, rfl, .inl rfl, .inr rfl, h2, rfl, fun e => by cases e⟩
  | up x => rw [hph] at h; injection h with e; subst e; obtain ⟨P, h1, h2⟩ := spot x; exact ⟨P, 4, h1, rfl, .inl rfl, .inl rfl, by omega, rfl, fun _ => rfl⟩
  | down x => rw [hph] at h; injection h with e; subst e; obtain ⟨P, h1, h2⟩ := spot x; exact ⟨P, 4, h1, rfl, .inl rfl, .inl rfl, by omega, rfl, fun _ => rfl⟩
  | padd n => rw [hph] at h; injection h with e; subst e; obtain ⟨P, h1, h2⟩ := spot s.a; exact ⟨P, 8, h1, rfl, .inr rfl, .inr rfl, h2, rfl, fun e => by cases e⟩

theorem chk_write {S : Int} {P : Nat} {N : Nat} (hN : N ≤ 8) (h : (P : Int) + N ≤ S) : chk S 6 P N N = 0 := by
  have hf : formed 6 N N = true := by
    unfold formed
    rw [if_neg (by decide), if_neg (by decide), if_neg (by decide), if_pos rfl]
    simp
    omega
  have hb : numB 6 = false := rfl
  unfold chk
  rw [hf, if_neg (by decide), if_neg (by omega), hb, if_neg (fun h => by cases h.1)]

theorem Fs.ahead_BZ (s : Fs) (q : Int) : (s.ahead q).B = s.B ∧ (s.ahead q).Z = s.Z := by
  unfold Fs.ahead
  by_cases h : s.b ≤ q
  · rw [if_pos h]; exact ⟨rfl, rfl⟩
  · rw [if_neg h]; exact ⟨rfl, rfl⟩
theorem Fs.back_BZ (s : Fs) (q : Int) : (s.back q).B = s.B ∧ (s.back q).Z = s.Z := by
  unfold Fs.back
  by_cases h : q - 8 < s.a
  · rw [if_pos h]; exact ⟨rfl, rfl⟩
  · rw [if_neg h]; exact ⟨rfl, rfl⟩
theorem Fs.judge_BZ (s : Fs) (l : Int) : (s.judge l).B = s.B ∧ (s.judge l).Z = s.Z := by
  unfold Fs.judge
  by_cases h : l = 0
  · rw [if_pos h]; exact s.ahead_BZ _
  · rw [if_neg h]
    by_cases h2 : l < 0 ∧ s.a - l ≤ s.Z
    · rw [if_pos h2]; exact ⟨rfl, rfl⟩
    · rw [if_neg h2]; exact ⟨rfl, rfl⟩
theorem fx_take_down {s : Fs} {q : Int} {x : An} (hp : s.ph = .down q) : s.take x = if x.V % 4294967296 = 0 then s.back q else { s with ph := .fin } := by unfold Fs.take; rw [hp]
theorem fx_take_tail {s : Fs} {d : Nat} {x : An} (hp : s.ph = .tail d) : s.take x = if x.V = d then { s with ph := .fin } else s.span (Rs.wr d) (Rs.wr x.V) := by unfold Fs.take; rw [hp]
theorem fx_take_head {s : Fs} {x : An} (hp : s.ph = .head) : s.take x = { s with ph := .tail x.V } := by unfold Fs.take; rw [hp]
theorem fx_take_hdr {s : Fs} {x : An} (hp : s.ph = .hdr) : s.take x = s.judge (Hd.s32 x.V) := by unfold Fs.take; rw [hp]
theorem fx_take_fin {s : Fs} {x : An} (hp : s.ph = .fin) : s.take x = s := by unfold Fs.take; rw [hp]
theorem Fs.take_BZ (s : Fs) (x : An) : (s.take x).B = s.B ∧ (s.take x).Z = s.Z := by
  cases hph : s.ph with
  | head => rw [fx_take_head hph]; exact ⟨rfl, rfl⟩
  | tail d =>
    rw [fx_take_tail hph]
    by_cases h : x.V = d
    · rw [if_pos h]; exact ⟨rfl, rfl⟩
    · rw [if_neg h]; unfold Fs.span; exact ⟨rfl, rfl⟩
  | hdr => rw [fx_take_hdr hph]; exact s.judge_BZ _
  | up q =>
    rw [fx_take_up hph]
    by_cases h : x.V % 4294967296 = 0
    · rw [if_pos h]; exact s.ahead_BZ _
    · rw [if_neg h]; exact Fs.back_BZ _ _
  | down q =>
    rw [fx_take_down hph]
    by_cases h : x.V % 4294967296 = 0
    · rw [if_pos h]; exact s.back_BZ _
    · rw [if_neg h]; exact ⟨rfl, rfl⟩
  | padd n => rw [fx_take_padd hph]; exact ⟨rfl, rfl⟩
  | fin => rw [fx_take_fin hph]; exact ⟨rfl, rfl⟩
theorem Fm.at_BZ {B Z : Nat} {T : Nat → Ans} {m : Fm} (hm : m = .live ⟨B, Z, 0, 0, 0, 0, .head⟩) : ∀ n, ∃ s : Fs, m.at T n = .live s ∧ s.B = B ∧ s.Z = Z := by
  intro n
  induction n with
  | zero => exact ⟨_, hm, rfl, rfl⟩
  | succ n ih =>
    obtain ⟨s, h1, h2, h3⟩ := ih
    obtain ⟨e1, e2⟩ := s.take_BZ (T n).an
    exact ⟨_, Fm.at_succ h1, e1.trans h2, e2.trans h3⟩

/-- The answers that were told are words. -/
def Wordy (n : Nat) (T : Nat → Ans) : Prop := ∀ j, j < n → (T j).V < 18446744073709551616 ∧ T j = ⟨(T j).V, (T j).D, none, 0, 0, fun _ => 0⟩
theorem Wordy.is {n : Nat} {T : Nat → Ans} (h : Wordy n T) (w : World) : ∀ i, i < n → (T i).Is w := fun i hi => by
  obtain ⟨h1, h2⟩ := h i hi
  rw [h2]
  exact ⟨h1, Mb.zero_isB, ⟨none, 0, rfl, fun h => absurd h (by simp [Mb.bl])⟩, Nat.le_refl _, by show (0 : Nat) ≤ _; omega⟩

theorem bl_from (u : Nat → Nat) (a n : Nat) : Mb.bl u a n = Mb.bl (fun j => u (a + j)) 0 n := by
  unfold Mb.bl
  refine List.map_congr_left fun i _ => ?_
  rw [Nat.zero_add]

theorem zero_row320 (w : World) : PlainAt (w.alloc (.cells (madeCells #[.int .u8 0] 320) 5)) w.heap.size 320 (fun _ => 0) := World.rowIs_made w (.int .u8 0) 320 5
end Go.Proofs.YtbhhegikfadpiaaGreat
