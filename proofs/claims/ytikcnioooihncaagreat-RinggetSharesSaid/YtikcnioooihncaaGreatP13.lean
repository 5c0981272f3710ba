/-
  Proved: for every list of bytes, every size of a ring, every most and every list of writes of somebody else's the statement RinggetShares (on a buffer that somebody else writes in between each access of a get, all bytes, and the messages, are the document's) answers true, and its arguments read as before.
  Conditions: none beyond the row's own.
-/
import Derived.Test.YtikcnioooihncaaGreatP12
import Derived.Test.YtikcnioooihncaaGreatP11
import Derived.Lib.SlBytesConst
import Derived.Test.YtikcnioooihncaaGreatP09
import Derived.Deep.RegionHeld3
import Derived.Test.YtikcnioooihncaaGreatP08
import Derived.Test.YtikcnioooihncaaGreatP03
namespace Go.Proofs.YtikcnioooihncaaGreat
open Go.RowKit

/-- A slice of n machines stands in memory: the interfaces' values. -/
def MachsAt (w : World) (A : Option Addr) (n : Nat) (xs : Nat → Value) : Prop := 0 < n → ∃ b, A = some ⟨b, 0, none⟩ ∧ b < w.heap.size ∧ ∀ i, i < n → w.cell? ⟨b, i, none⟩ = some (xs i)

theorem MachsAt.below {w w' : World} {A : Option Addr} {n : Nat} {xs : Nat → Value} (h : MachsAt w A n xs) (hb : Below w.heap.size w w') : MachsAt w' A n xs := fun hp => by
  obtain ⟨b, e, hl, hc⟩ := h hp
  exact ⟨b, e, Nat.lt_of_lt_of_le hl hb.size, fun i hi => (hb.cell (p := ⟨b, i, none⟩) hl).trans (hc i hi)⟩

/-- A new scheduler's state. -/
def St.made (n : Nat) (ms : Nat → Mc) (m : Nat → Nat) (nw : Nat) (c : Int) : St := ⟨n, ms, fun _ => false, m, nw, c, 0, []⟩

/-- A scheduler was made. -/
def MadeSw (o : Nat → Pt) (gb hb : Nat) (xs : Nat → Value) (st : St) (w : World) (e : Ending) (w' : World) : Prop :=
  ∃ gw ga o', e = .returned (.pointer (some ⟨gw, 0, none⟩)) ∧ w.heap.size ≤ gw ∧ Sw w' o' gw ga gb hb xs (.slice none 0 0) [] st ∧ Below w.heap.size w w' ∧ ∀ k, k < w.heap.size → o' k = o k

theorem infoActor : (Tryz.prog.info? 115).map (fun i => (i.zero, i.size, i.bytes)) = some (some (.agg #[.nilIface, .bool false]), 2, 24) := by kernel_rfl

theorem make_actors (n : Nat) (hn : n ≤ 1000) (W : World) :
    (Instr.makeSlice 108 (.int .i64 (n : Int)) (.int .i64 (n : Int))).run Tryz.prog W = .ok (.slice (some ⟨W.heap.size, 0, none⟩) n n) (W.alloc (.cells (madeCells #[.nilIface, .bool false] (n * 2)) 115)) := by
  obtain ⟨i, hi, hz, hs, hby⟩ := info_parts infoActor
  have hr := run_make (P := Tryz.prog) W 108 115 i (.agg #[.nilIface, .bool false]) Tryz.underlying108 hi hz .i64 .i64 (n : Int) (n : Int) (by omega) (Int.le_refl _) (by rw [hby]; omega) (by omega)
  rw [hs] at hr
  simpa [Value.cells] using hr

theorem made_actors (w : World) (n : Nat) : (w.alloc (.cells (madeCells #[.nilIface, .bool false] (n * 2)) 115)).rowIs w.heap.size 115 (2 * n) (acCell (fun _ => .nilIface) (fun _ => false)) :=
  ⟨_, Go.Deep.blk_alloc_new _ _, by rw [size_madeCells]; omega, fun i hi => by
    unfold acCell madeCells
    have hm : i % 2 < 2 := Nat.mod_lt _ (by decide)
    have hi2 : i < n * 2 := by omega
    simp [hi2]
    rcases Nat.mod_two_eq_zero_or_one i with e | e
    · simp [e]
    · simp [e]⟩

theorem acCell_set (ax : Nat → Value) (dead : Nat → Bool) (i : Nat) (x : Value) (j : Nat) : (if j = i * 2 then x else acCell ax dead j) = acCell (upd ax i x) dead j := by
  unfold acCell
  by_cases e : j = i * 2
  · subst e
    rw [if_pos rfl, if_pos (by omega), show i * 2 / 2 = i by omega, upd_same]
  · rw [if_neg e]
    by_cases e2 : j % 2 = 0
    · rw [if_pos e2, if_pos e2, upd_other _ _ _ (by omega)]
    · rw [if_neg e2, if_neg e2]

set_option maxRecDepth 100000 in
set_option maxHeartbeats 2000000 in
theorem schedNew_any {w : World} {o : Nat → Pt} {gb hb nw : Nat} {m : Nat → Nat} {c : Int} (B : Buf w gb hb m nw c) (A : Option Addr) (n cap : Nat) (xs : Nat → Value) (ms : Nat → Mc) (hn : n ≤ 1000) (hcap : n ≤ cap) (hcap2 : cap ≤ 9223372036854775807) (hl : MachsAt w A n xs)
    (hm : ∀ i, i < n → MRep w (fun k => o k = .ma i) (xs i) (ms i)) (hog : o gb = .bf) (hoh : o hb = .bf) (hlt : ∀ k, o k ≠ .no → k < w.heap.size) :
    Calls Tryz.prog 25 #[.pointer (some ⟨gb, 0, none⟩), .slice A n cap] w (MadeSw o gb hb xs (St.made n ms m nw c) w) := by
  have hmk := make_actors n hn
  have HH := Lib.hid (And.intro B (And.intro hm (And.intro hog (And.intro hoh hlt))))
  have HL := Lib.hid hl
  have HN := Lib.hid hn
  clear B hm hog hoh hlt hl
  have ha := made_actors w n
  have e1 : (w.alloc (.cells (madeCells #[.nilIface, .bool false] (n * 2)) 115)).heap.size = w.heap.size + 1 := by simp
  have HB1 := (Below.refl w.heap.size w).alloc (Nat.le_refl _) (.cells (madeCells #[.nilIface, .bool false] (n * 2)) 115)
  go_enter Tryz.func25, Tryz.ntmps25
  go_wp2
  generalize hW1 : w.alloc (.cells (madeCells #[.nilIface, .bool false] (n * 2)) 115) = W1 at *
  have hh := Go.Deep.blk_alloc_new W1 (.cells #[.pointer (some ⟨gb, 0, none⟩), .slice (some ⟨w.heap.size, 0, none⟩) n n, .int .i64 0, .slice none 0 0] 111)
  rw [e1] at hh
  have ha2 := ha.alloc (.cells #[.pointer (some ⟨gb, 0, none⟩), .slice (some ⟨w.heap.size, 0, none⟩) n n, .int .i64 0, .slice none 0 0] 111)
  have HB2 := HB1.alloc HB1.size (.cells #[.pointer (some ⟨gb, 0, none⟩), .slice (some ⟨w.heap.size, 0, none⟩) n n, .int .i64 0, .slice none 0 0] 111)
  generalize W1.alloc (.cells #[.pointer (some ⟨gb, 0, none⟩), .slice (some ⟨w.heap.size, 0, none⟩) n n, .int .i64 0, .slice none 0 0] 111) = W2 at hh ha2 HB2 ⊢
  have HST := Lib.hid (And.intro hh (And.intro ha2 HB2))
  clear hmk hW1 ha HB1 hh ha2 HB2
  go_loopw [16] (fun t16 wr => ∃ (i : Nat) (ax : Nat → Value), t16 = .int .i64 i ∧ i ≤ n ∧ (∀ j, j < i → ax j = xs j) ∧ wr.heap[w.heap.size + 1]? = some (.cells #[.pointer (some ⟨gb, 0, none⟩), .slice (some ⟨w.heap.size, 0, none⟩) n n, .int .i64 0, .slice none 0 0] 111 (0, 0)) ∧ wr.rowIs w.heap.size 115 (2 * n) (acCell ax (fun _ => false)) ∧ Below w.heap.size w wr) (fun t16 _ => n - (intOf t16).toNat)
  case atStart => exact ⟨0, _, rfl, Nat.zero_le _, fun j hj => absurd hj (Nat.not_lt_zero _), HST.out.1, HST.out.2.1, HST.out.2.2⟩
  case round =>
    obtain ⟨i, ax, rfl, hi, hax, hhd, hrow, hbw⟩ := hrel
    have HAX := Lib.hid hax
    have HHD := Lib.hid (And.intro hhd (And.intro hrow hbw))
    by_cases hlt : i < n
    · obtain ⟨bl, rfl, hbl, hcl⟩ := HL.out (by omega)
      have hcx := (hbw.cell (p := ⟨bl, i, none⟩) hbl).trans (hcl i hlt)
      have hc1 : wr.cell? ⟨w.heap.size + 1, 1, none⟩ = some (.slice (some ⟨w.heap.size, 0, none⟩) n n) := by simp [World.cell?, hhd]
      have hr0 := hrow.cell (i := i * 2) (by omega)
      have hf0 := hrow.frozen (i * 2)
      have hsh := (HH.out.2.1 i hlt).shape
      generalize hx : xs i = x at hcx hsh
      have HX := Lib.hid hx
      clear hax hhd hrow hbw hcl hx
      rcases hsh with ⟨rfl, _⟩ | ⟨T, y, rfl⟩
      all_goals
        go_wp2
        go_roundw
        case rel =>
          refine ⟨i + 1, upd ax i (xs i), by go_num, by omega, fun j hj => ?_, blkF HHD.out.1 (by omega) _, (HHD.out.2.1.set (i * 2) _).congr fun j _ => ?_, HHD.out.2.2.setCell (p := ⟨w.heap.size, i * 2, none⟩) (Nat.le_refl _) _⟩
          · by_cases e : j = i
            · subst e; exact upd_same _ _ _
            · rw [upd_other _ _ _ e]; exact HAX.out j (by omega)
          · rw [HX.out]; exact acCell_set _ _ _ _ _
        case measure => simp [intOf]; omega
    · obtain rfl : i = n := by omega
      clear hax hhd hrow hbw
      go_wp2
      go_ret
      obtain ⟨hhd, hrow, hbw⟩ := HHD.out
      obtain ⟨B, hm, hog, hoh, hlk⟩ := HH.out
      have hsz := (Array.getElem?_eq_some_iff.1 hhd).1
      have hold : ∀ k, k < w.heap.size → claimed (claimed o w.heap.size (fun k => k = w.heap.size) .ac) w.heap.size (fun k => k = w.heap.size + 1) .wd k = o k := fun k hk => (claimed_old hk).trans (claimed_old hk)
      refine ⟨w.heap.size + 1, w.heap.size, claimed (claimed o w.heap.size (fun k => k = w.heap.size) .ac) w.heap.size (fun k => k = w.heap.size + 1) .wd, rfl, Nat.le_succ _, ⟨hhd, hrow.congr fun j hj => ?_, B.below hbw, fun j hj => ?_, ⟨World.ownsRow_nil _ _ _ _, fun t ht => absurd ht (by simp), fun k hk => absurd hk (by simp [Value.ownBlock])⟩, rfl, claimed_new (Nat.le_succ _) rfl, (claimed_not fun e => by omega).trans (claimed_new (Nat.le_refl _) rfl), (hold gb B.g_lt).trans hog, (hold hb B.h_lt).trans hoh, fun k hk => ?_, HN.out, fun e he => absurd he (by simp [St.made])⟩, hbw, hold⟩
      · unfold acCell
        by_cases e : j % 2 = 0
        · rw [if_pos e, if_pos e]; exact HAX.out _ (by omega)
        · rw [if_neg e, if_neg e]; rfl
      · exact ((hm j hj).keep hbw.size fun k hk => hbw.block k (hlk k (by rw [hk]; simp))).mono fun k hk => (hold k (hlk k (by rw [hk]; simp))).trans hk
      · by_cases e : w.heap.size ≤ k ∧ k = w.heap.size + 1
        · omega
        · rw [claimed_not e] at hk
          by_cases e2 : w.heap.size ≤ k ∧ k = w.heap.size
          · omega
          · rw [claimed_not e2] at hk
            have := hlk k hk
            omega
end Go.Proofs.YtikcnioooihncaaGreat
namespace Go.Proofs.YtikcnioooihncaaGreat
open Go.RowKit

/-- A scheduler stands; all that was below stands as it was. -/
structure Stood (w0 w : World) (o : Nat → Pt) (gw ga gb hb : Nat) (ax : Nat → Value) (st : St) : Prop where
  sw : ∃ tv ts, Sw w o gw ga gb hb ax tv ts st
  low : Below w0.heap.size w0 w
  out : ∀ k, k < w0.heap.size → o k = .no

namespace Stood
variable {w0 w w' : World} {o o' : Nat → Pt} {gw ga gb hb : Nat} {ax : Nat → Value} {st st' : St}
theorem below (h : Stood w0 w o gw ga gb hb ax st) (hb' : Below w.heap.size w w') : Stood w0 w' o gw ga gb hb ax st := by
  obtain ⟨⟨tv, ts, hs⟩, h1, h2⟩ := h
  exact ⟨⟨tv, ts, hs.below hb'⟩, h1.trans (hb'.mono h1.size), h2⟩
theorem alloc (h : Stood w0 w o gw ga gb hb ax st) (q : Obj) : Stood w0 (w.alloc q) o gw ga gb hb ax st := h.below ((Below.refl _ _).alloc (Nat.le_refl _) q)
theorem after (h : Stood w0 w o gw ga gb hb ax st) (ht : Touch (Own o) w w') (hs : ∃ tv ts, Sw w' o' gw ga gb hb ax tv ts st') (ho : ∀ k, k < w.heap.size → o' k = o k) : Stood w0 w' o' gw ga gb hb ax st' :=
  ⟨hs, ⟨ht.os.trans h.low.os, ht.tape.trans h.low.tape, ht.output.trans h.low.output, Nat.le_trans h.low.size ht.size, fun k hk => (ht.block k (Nat.lt_of_lt_of_le hk h.low.size) fun e => e (h.out k hk)).trans (h.low.block k hk)⟩,
    fun k hk => (ho k (Nat.lt_of_lt_of_le hk h.low.size)).trans (h.out k hk)⟩
theorem new_no (h : Stood w0 w o gw ga gb hb ax st) {k : Nat} (hk : w.heap.size ≤ k) : o k = .no := by
  obtain ⟨⟨tv, ts, hs⟩, _, _⟩ := h
  exact hs.new_no hk
end Stood

/-- A block that is nobody's keeps its cells. -/
theorem nobody_cell {w w' : World} {o : Nat → Pt} (ht : Touch (Own o) w w') {q : Addr} (hq : q.block < w.heap.size) (hn : o q.block = .no) : w'.cell? q = w.cell? q :=
  World.cell?_of_block (ht.block q.block hq fun e => e hn)
end Go.Proofs.YtikcnioooihncaaGreat
namespace Go.Proofs.YtikcnioooihncaaGreat
open Go.RowKit

/-- A scheduler of one machine x stands; but for the buffer's two blocks nothing has turned since w1. -/
def OneAt (w1 w : World) (gw g h : Nat) (x : Value) (st : St) : Prop :=
  ∃ ga o, (∃ tv ts, Sw w o gw ga g h (fun i => if i = 0 then x else .nilIface) tv ts st) ∧ Touch (Two g h) w1 w ∧ ∀ k, k < w1.heap.size → k ≠ g → k ≠ h → o k = .no

theorem OneAt.buf {w1 w : World} {gw g h : Nat} {x : Value} {st : St} (hs : OneAt w1 w gw g h x st) : Buf w g h st.m st.nw st.c := by
  obtain ⟨ga, o, ⟨tv, ts, hs⟩, _⟩ := hs
  exact hs.buf
theorem OneAt.mach {w1 w : World} {gw g h : Nat} {x : Value} {st : St} (hs : OneAt w1 w gw g h x st) (hn : 0 < st.na) : ∃ F : Nat → Prop, MRep w F x (st.ms 0) ∧ ∀ k, F k → k < w.heap.size := by
  obtain ⟨ga, o, ⟨tv, ts, hs⟩, _⟩ := hs
  have h0 := hs.mach 0 hn
  rw [if_pos rfl] at h0
  exact ⟨_, h0, fun k hk => hs.lt k (by rw [hk]; simp)⟩
theorem OneAt.touch {w1 w : World} {gw g h : Nat} {x : Value} {st : St} (hs : OneAt w1 w gw g h x st) : Touch (Two g h) w1 w := by
  obtain ⟨ga, o, _, ht, _⟩ := hs
  exact ht

theorem oneNew {w1 w3 : World} {g h : Nat} {m : Nat → Nat} {nw : Nat} {c : Int} (B : Buf w1 g h m nw c) {T0 : TypeId} {y : Value} {mc : Mc} (hp : MRep w3 (fun k => w1.heap.size ≤ k ∧ k < w3.heap.size) (.iface T0 y) mc) (hb3 : Below w1.heap.size w1 w3) :
    ∀ T, Calls Tryz.prog 25 #[.pointer (some ⟨g, 0, none⟩), .slice (some ⟨w3.heap.size, 0, none⟩) 1 1] (w3.alloc (.cells #[.iface T0 y] T)) fun e w' => ∃ gw, e = .returned (.pointer (some ⟨gw, 0, none⟩)) ∧ OneAt w1 w' gw g h (.iface T0 y) (St.made 1 (fun i => if i = 0 then mc else .none) m nw c) := by
  intro T
  have s3 := hb3.size
  have hgl := B.g_lt
  have hhl := B.h_lt
  have hba := (Below.refl w3.heap.size w3).alloc (Nat.le_refl _) (.cells #[.iface T0 y] T)
  have e0 : (w3.alloc (.cells #[.iface T0 y] T)).heap.size = w3.heap.size + 1 := by simp
  have x0 := Go.Deep.blk_alloc_new w3 (.cells #[.iface T0 y] T)
  generalize w3.alloc (.cells #[.iface T0 y] T) = w4 at *
  have B4 := (B.below hb3).below hba
  refine (schedNew_any B4 (some ⟨w3.heap.size, 0, none⟩) 1 1 (fun i => if i = 0 then .iface T0 y else .nilIface) (fun i => if i = 0 then mc else .none) (by decide) (by decide) (by decide)
    (fun _ => ⟨w3.heap.size, rfl, by omega, fun i hi => ?_⟩) (o := fun k => if k = g ∨ k = h then .bf else if w1.heap.size ≤ k ∧ k < w3.heap.size then .ma 0 else .no) (fun i hi => ?_) ?_ ?_ (fun k hk => ?_)).mono ?_
  · match i, hi with
    | 0, _ => simp [World.cell?, x0]
  · match i, hi with
    | 0, _ =>
      refine MRep.mono (F := fun k => w1.heap.size ≤ k ∧ k < w3.heap.size) (hp.keep hba.size fun k hk => hba.block k hk.2) fun k hk => ?_
      show (if _ then _ else _) = _
      rw [if_neg (by omega), if_pos hk]
  · exact if_pos (.inl rfl)
  · exact if_pos (.inr rfl)
  · by_cases e1 : k = g ∨ k = h
    · omega
    · rw [if_neg e1] at hk
      by_cases e2 : w1.heap.size ≤ k ∧ k < w3.heap.size
      · omega
      · rw [if_neg e2] at hk
        exact absurd rfl hk
  · rintro e w' ⟨gw, ga, o', rfl, _, hs, hbl, ho⟩
    have hbl2 : Below w3.heap.size w3 w' := hba.trans (hbl.mono (by omega))
    refine ⟨gw, rfl, ga, o', ⟨_, _, hs⟩, Touch.of_below (hb3.trans (hbl2.mono s3)), fun k hk hg hh => ?_⟩
    rw [ho k (by omega)]
    show (if _ then _ else _) = _
    rw [if_neg (by omega), if_neg (by omega)]

theorem oneRobin {w1 w : World} {gw g h : Nat} {x : Value} {st : St} (hs : OneAt w1 w gw g h x st) (most : Nat) (hlong : st.tr.length + most ≤ 1000000) :
    Calls Tryz.prog 26 #[.pointer (some ⟨gw, 0, none⟩), .int .i64 most] w fun e w' => e = .returned (.int .i64 (st.robin most).2) ∧ OneAt w1 w' gw g h x (st.robin most).1 := by
  obtain ⟨ga, o, ⟨tv, ts, hs⟩, ht, ho⟩ := hs
  refine (robin_any hs most hlong).mono ?_
  rintro e w' ⟨rfl, o', tv', ts', hs', ht', ho'⟩
  refine ⟨rfl, ga, o', ⟨tv', ts', hs'⟩, ⟨ht'.os.trans ht.os, ht'.tape.trans ht.tape, ht'.output.trans ht.output, Nat.le_trans ht.size ht'.size, fun k hk hn => (ht'.block k (Nat.lt_of_lt_of_le hk ht.size) fun e => ?_).trans (ht.block k hk hn)⟩, fun k hk hg hh => ?_⟩
  · have h0 := ho k hk (fun e => hn (.inl e)) (fun e => hn (.inr e))
    exact e h0
  · rw [ho' k (Nat.lt_of_lt_of_le hk ht.size)]
    exact ho k hk hg hh

theorem rg_cells (w : World) (B Z : Int) :
    (w.alloc (.cells #[.int .i64 B, .int .i64 Z] 38)).cell? ⟨w.heap.size, 0, none⟩ = some (.int .i64 B) ∧ (w.alloc (.cells #[.int .i64 B, .int .i64 Z] 38)).cell? ⟨w.heap.size, 1, none⟩ = some (.int .i64 Z) := by
  have h := Go.Deep.blk_alloc_new w (.cells #[.int .i64 B, .int .i64 Z] 38)
  refine ⟨?_, ?_⟩ <;> (unfold World.cell?; simp only [h]; rfl)
end Go.Proofs.YtikcnioooihncaaGreat
namespace Go.Proofs.YtikcnioooihncaaGreat
open Go.RowKit

/-- A get's machine, if it is one. -/
def Mc.getOf : Mc → Gm
  | .get m => m
  | _ => .dead
def Mc.isGet : Mc → Bool
  | .get _ => true
  | _ => false
theorem Mc.get_is {s : Mc} (h : s.isGet = true) : s = .get s.getOf := by
  cases s with
  | get m => rfl
  | _ => cases h

/-- The bytes "hello". -/
def gtHi (k : Nat) : Nat := if k = 0 then 104 else if k = 1 then 101 else if k = 2 then 108 else if k = 3 then 108 else if k = 4 then 111 else 0
theorem gtHi_isB : Mb.IsB gtHi := fun k => by unfold gtHi; split <;> (try split) <;> (try split) <;> (try split) <;> (try split) <;> decide
theorem gtHi_at (w : World) : BytesAt (w.alloc (.cells #[.int .u8 104, .int .u8 101, .int .u8 108, .int .u8 108, .int .u8 111] 5 (5, 6))) (.slice (some ⟨w.heap.size, 0, none⟩) 5 5) (Mb.bl gtHi 0 5) := by
  have h := Go.Deep.blk_alloc_new w (.cells #[.int .u8 104, .int .u8 101, .int .u8 108, .int .u8 108, .int .u8 111] 5 (5, 6))
  refine ⟨_, _, rfl, fun _ => ⟨w.heap.size, 0, rfl, by simp, fun i hi => ?_⟩⟩
  have hi2 : i < 5 := hi
  match i, hi2 with
  | 0, _ => unfold World.cell?; simp only [h]; rfl
  | 1, _ => unfold World.cell?; simp only [h]; rfl
  | 2, _ => unfold World.cell?; simp only [h]; rfl
  | 3, _ => unfold World.cell?; simp only [h]; rfl
  | 4, _ => unfold World.cell?; simp only [h]; rfl
/-- The states. -/
def gz0 : St := St.made 1 (fun i => if i = 0 then .get (Gm.new 0 64 9) else .none) (fun _ => 0) 12 0
def gz1 : St := (gz0.robin 99).1
def gz2 : St := St.made 1 (fun i => if i = 0 then .put (Pm.new 0 64 3 gtHi 5) else .none) gz1.m gz1.nw gz1.c
def gz3 : St := (gz2.robin 99).1
def gz4 : St := St.made 1 (fun i => if i = 0 then .get (Gm.new 0 64 9) else .none) gz3.m gz3.nw gz3.c
def gz5 : St := (gz4.robin 99).1
theorem gz1_is : (gz1.ms 0).isGet = true := by decide +kernel
theorem gz1_res : (gz1.ms 0).getOf.result = (0, 0) := by decide +kernel
theorem gz1_na : 0 < gz1.na := by decide +kernel
theorem gz5_is : (gz5.ms 0).isGet = true := by decide +kernel
theorem gz5_res : (gz5.ms 0).getOf.result = (16, 0) := by decide +kernel
theorem gz5_na : 0 < gz5.na := by decide +kernel
theorem gz5_told : (gz5.ms 0).getOf.told = [(3, [104, 101, 108, 108, 111])] := by decide +kernel
theorem gz0_len : gz0.tr.length + 99 ≤ 1000000 := by decide +kernel
theorem gz2_len : gz2.tr.length + 99 ≤ 1000000 := by decide +kernel
theorem gz4_len : gz4.tr.length + 99 ≤ 1000000 := by decide +kernel

/-- What the machine of a scheduler of one, a get, stands as. -/
theorem OneAt.getAt {w1 w : World} {gw g h gp : Nat} {st : St} (hs : OneAt w1 w gw g h (.iface 27 (.pointer (some ⟨gp, 0, none⟩))) st) (hn : 0 < st.na) (hi : (st.ms 0).isGet = true) : ∃ F : Nat → Prop, GmAt w F gp (st.ms 0).getOf ∧ ∀ k, F k → k < w.heap.size := by
  obtain ⟨F, hm, hF⟩ := hs.mach hn
  rw [Mc.get_is hi] at hm
  obtain ⟨g', e, hp, _⟩ := hm
  injection e with _ e
  injection e with e
  injection e with e
  injection e with e
  subst e
  exact ⟨F, hp, hF⟩
/-- What it tells of its end. -/
theorem OneAt.got {w1 w : World} {gw g h gp : Nat} {st : St} (hs : OneAt w1 w gw g h (.iface 27 (.pointer (some ⟨gp, 0, none⟩))) st) (hn : 0 < st.na) (hi : (st.ms 0).isGet = true) {r : Int × Int} (hr : (st.ms 0).getOf.result = r) :
    Calls Tryz.prog 10 #[.pointer (some ⟨gp, 0, none⟩)] w (fun e w' => e = .returned (.tuple #[.int .i64 r.1, .int .i64 r.2]) ∧ Below w.heap.size w w') := by
  obtain ⟨F, hp, _⟩ := hs.getAt hn hi
  have := getResult hp
  rw [hr] at this
  refine this.mono ?_
  rintro e w' ⟨rfl, j, rfl⟩
  exact ⟨rfl, below_drewN (Below.refl _ _) j⟩

set_option maxRecDepth 100000 in
set_option maxHeartbeats 2000000 in
theorem fixed8_any (w : World) : Calls Tryz.prog 7 #[] w (TrueBelow w) := by
  go_enter Tryz.func7, Tryz.ntmps7
  go_upto_region 2 with (go_at_call 14; refine (new_yes 96 12 _ (by decide) (by decide) (by decide) (by decide)).mono ?_; rintro e w1 ⟨g, h, rfl, B, hg, hh, hb1⟩)
  go_upto_region 3 with (fail)
  have hb2 := un_below w1 (.int .i64 0) (.int .i64 64) 38
  obtain ⟨r0, r1⟩ := rg_cells w1 0 64
  have B2 := B.below hb2
  have hgl := B.g_lt
  have hhl := B.h_lt
  generalize w1.alloc (.cells #[.int .i64 0, .int .i64 64] 38) = w2 at hb2 r0 r1 B2 ⊢
  have HQ := Lib.hid (And.intro hg (And.intro hh (And.intro hgl hhl)))
  have HB2 := Lib.hid (hb1.trans (hb2.mono hb1.size))
  have HBUF := Lib.hid B2
  have hrg : ¬ Two g h w1.heap.size := fun e => by rcases e with e | e <;> omega
  have HRG := Lib.hid hrg
  clear B B2 hb1 hb2 hg hh hgl hhl hrg
  go_upto_region 4 with (go_at_call 11; refine (gtNew 0 64 9 (by decide) (by decide) (by decide) w2).mono ?_; rintro e w3 ⟨gp, rfl, hp, hb3⟩; have HP := Lib.hid hp; have HB3 := Lib.hid hb3; clear hp hb3)
  have HNEW := Lib.hid (oneNew (y := .pointer (some ⟨gp, 0, none⟩)) (T0 := 27) (mc := .get (Gm.new 0 64 9)) HBUF.out ⟨gp, rfl, HP.out, Gm.new_short 0 64 9⟩ HB3.out)
  go_upto_region 5 with (first
    | (go_at_call 25; refine (HNEW.out _).mono ?_; rintro e w5 ⟨gw, rfl, hs5⟩; have HS5 := Lib.hid hs5; clear hs5)
    | (go_at_call 26; refine (oneRobin (st := gz0) HS5.out 99 gz0_len).mono ?_; rintro e w6 ⟨rfl, hs6⟩; have HS6 : Hid (OneAt w2 w6 gw g h (.iface 27 (.pointer (some ⟨gp, 0, none⟩))) gz1) := Lib.hid hs6; clear hs6))
  clear HNEW HP HS5 HBUF
  go_upto_region 6 with (go_at_call 10; refine (HS6.out.got gz1_na gz1_is gz1_res).mono ?_; rintro e w7 ⟨rfl, hb7⟩)
  have hlr := lt_of_cell r0
  have q0' := (HS6.out.touch.cell (p := ⟨w1.heap.size, 0, none⟩) hlr HRG.out).trans r0
  have q0 := (hb7.cell (p := ⟨w1.heap.size, 0, none⟩) (lt_of_cell q0')).trans q0'
  have q1 := (hb7.cell (p := ⟨w1.heap.size, 1, none⟩) (lt_of_cell q0')).trans ((HS6.out.touch.cell (p := ⟨w1.heap.size, 1, none⟩) hlr HRG.out).trans r1)
  have HL6' := HS6.out.touch.below HB2.out HB2.out.size fun k hk => by rcases hk with e | e <;> rw [e] <;> first | exact HQ.out.1 | exact HQ.out.2.1
  have HL6 := Lib.hid (HL6'.trans (hb7.mono HL6'.size))
  have HBUF6 := Lib.hid (HS6.out.buf.below hb7)
  have hlr6 := lt_of_cell q0
  clear r0 r1 hlr HS6 HB2 HB3 q0' HL6' hb7
  have hbz := (Below.refl w7.heap.size w7).alloc (Nat.le_refl _) (.cells #[.int .u8 104, .int .u8 101, .int .u8 108, .int .u8 108, .int .u8 111] 5 (5, 6))
  have HBY := Lib.hid (gtHi_at w7)
  have hconv : (convert 23 23 (.slice (some ⟨w7.heap.size, 0, none⟩) 5 5)).run Tryz.prog (w7.alloc (.cells #[.int .u8 104, .int .u8 101, .int .u8 108, .int .u8 108, .int .u8 111] 5))
      = .ok (.slice (some ⟨w7.heap.size, 0, none⟩) 5 5) (w7.alloc (.cells #[.int .u8 104, .int .u8 101, .int .u8 108, .int .u8 108, .int .u8 111] 5 (5, 6))) := Lib.run_convert_bytes_const w7 23 5 #[.int .u8 104, .int .u8 101, .int .u8 108, .int .u8 108, .int .u8 111] 5 5 Tryz.underlying23 Tryz.underlying5
  go_upto_region 7 with (first
    | (go_at_call 20; refine (rpNew 0 64 3 (by decide) (by decide) (by decide) _ 5 5 gtHi gtHi_isB _ HBY.out).mono ?_; rintro e w8 ⟨gp2, rfl, hp8, hb8⟩; have HB8 := Lib.hid (hbz.trans (hb8.mono hbz.size)); have HNEW2 := Lib.hid (oneNew (y := .pointer (some ⟨gp2, 0, none⟩)) (T0 := 58) (mc := .put (Pm.new 0 64 3 gtHi 5)) HBUF6.out ⟨gp2, rfl, hp8.wide fun k hk => ⟨Nat.le_trans hbz.size hk.1, hk.2⟩⟩ HB8.out); clear hp8 hb8)
    | (go_at_call 25; refine (HNEW2.out _).mono ?_; rintro e w9 ⟨gw2, rfl, hs9⟩; have HS9 : Hid (OneAt w7 w9 gw2 g h (.iface 58 (.pointer (some ⟨gp2, 0, none⟩))) gz2) := Lib.hid hs9; clear hs9)
    | (go_at_call 26; refine (oneRobin (st := gz2) HS9.out 99 gz2_len).mono ?_; rintro e w10 ⟨rfl, hs10⟩; have HS10 : Hid (OneAt w7 w10 gw2 g h (.iface 58 (.pointer (some ⟨gp2, 0, none⟩))) gz3) := Lib.hid hs10; clear hs10))
  have s0 := (HS10.out.touch.cell (p := ⟨w1.heap.size, 0, none⟩) hlr6 HRG.out).trans q0
  have s1 := (HS10.out.touch.cell (p := ⟨w1.heap.size, 1, none⟩) hlr6 HRG.out).trans q1
  have HL10 := Lib.hid (HS10.out.touch.below HL6.out HL6.out.size fun k hk => by rcases hk with e | e <;> rw [e] <;> first | exact HQ.out.1 | exact HQ.out.2.1)
  have HBUF10 := Lib.hid HS10.out.buf
  clear hconv q0 q1 hlr6 HS10 HS9 HNEW2 HB8 HBY hbz HBUF6 HL6
  go_upto_region 8 with (go_at_call 11; refine (gtNew 0 64 9 (by decide) (by decide) (by decide) w10).mono ?_; rintro e w11 ⟨gp3, rfl, hp, hb11⟩; have HP := Lib.hid hp; have HB11 := Lib.hid hb11; clear hp hb11)
  have HNEW := Lib.hid (oneNew (y := .pointer (some ⟨gp3, 0, none⟩)) (T0 := 27) (mc := .get (Gm.new 0 64 9)) HBUF10.out ⟨gp3, rfl, HP.out, Gm.new_short 0 64 9⟩ HB11.out)
  go_upto_region 9 with (first
    | (go_at_call 25; refine (HNEW.out _).mono ?_; rintro e w12 ⟨gw3, rfl, hs12⟩; have HS12 : Hid (OneAt w10 w12 gw3 g h (.iface 27 (.pointer (some ⟨gp3, 0, none⟩))) gz4) := Lib.hid hs12; clear hs12)
    | (go_at_call 26; refine (oneRobin (st := gz4) HS12.out 99 gz4_len).mono ?_; rintro e w13 ⟨rfl, hs13⟩; have HS13 : Hid (OneAt w10 w13 gw3 g h (.iface 27 (.pointer (some ⟨gp3, 0, none⟩))) gz5) := Lib.hid hs13; clear hs13))
  have HL13 := Lib.hid (HS13.out.touch.below HL10.out HL10.out.size fun k hk => by rcases hk with e | e <;> rw [e] <;> first | exact HQ.out.1 | exact HQ.out.2.1)
  clear s0 s1
  obtain ⟨F, hp13, hF13⟩ := HS13.out.getAt gz5_na gz5_is
  have HP13 := Lib.hid (And.intro hp13 hF13)
  clear hp13 hF13
  go_wp2_with (go_at_call 10; refine (HS13.out.got gz5_na gz5_is gz5_res).mono ?_; rintro e w14 ⟨rfl, hb14⟩; have HB14 := Lib.hid hb14; clear hb14)
  refine (getMessages (HP13.out.1.keep HB14.out.size fun k hk => HB14.out.block k (HP13.out.2 k hk)) (by rw [gz5_told]; decide)).mono ?_
  rw [gz5_told]
  rintro e w15 ⟨v, rfl, ⟨A, c, hv, _, _, hm⟩, hb15⟩
  obtain ⟨b, rfl, hbn, hbl, hcells⟩ := hm (by decide)
  obtain ⟨d, m0, m1, hd⟩ := hcells 0 _ rfl
  obtain ⟨A2, c2, hv2⟩ := hd.length
  have hcv := hd.bytes.conv
  have HL15 := HL13.out.trans ((HB14.out.trans (hb15.mono HB14.out.size)).mono HL13.out.size)
  have HL := Lib.hid HL15
  have hv' : v = .slice (some ⟨b, 0, none⟩) 1 c := hv
  have hd' : d = .slice A2 5 c2 := hv2
  subst hv' hd'
  clear hv hv2 hd hbn hbl hcells hm HL15 hb15
  have hstr : ((strOfNums [104, 101, 108, 108, 111]).toList == [104, 101, 108, 108, 111]) = true := by decide +kernel
  go_wp2
  go_ret
  exact ⟨rfl, HL.out⟩
end Go.Proofs.YtikcnioooihncaaGreat
namespace Go.Proofs.YtikcnioooihncaaGreat
open Go.RowKit

theorem told_less {w : World} {A : Option Addr} {n m : Nat} {T : Nat → Ans} (h : ToldAt w A n T) (hm : m ≤ n) : ToldAt w A m T := by
  intro hp
  obtain ⟨b, off, e, hlt, hc⟩ := h (by omega)
  exact ⟨b, off, e, hlt, fun i hi => hc i (by omega)⟩

theorem bytes_len {w : World} {A : Option Addr} {L c : Nat} {xs : List Int} (h : BytesAt w (.slice A L c) xs) : xs.length = L := by
  obtain ⟨_, _, e, _⟩ := h
  injection e with _ e _
  exact e.symm

set_option linter.unusedSimpArgs false in
set_option maxRecDepth 100000 in
set_option maxHeartbeats 4000000 in
theorem ringgetSteps_main (B Z : Int) (hB : -9223372036854775808 ≤ B ∧ B ≤ 9223372036854775807) (hZ : -9223372036854775808 ≤ Z ∧ Z ≤ 9223372036854775807) (most : Int) (hmost : most ≤ 9223372036854775807)
    (A : Option Addr) (M cap : Nat) (hM : M ≤ cap) (hcap : cap ≤ 9223372036854775807) (T : Nat → Ans) (w : World) (hT : ToldAt w A M T) (hM2 : M ≤ 60) :
    Calls Tryz.prog 4 #[.agg #[.int .i64 B, .int .i64 Z], .int .i64 most, .slice A M cap] w (TrueBelow w) := by
  have HA := Lib.hid (And.intro hB (And.intro hZ (And.intro hmost (And.intro hM hcap))))
  have HT := Lib.hid hT
  have hr0 := un_below w (.int .i64 B) (.int .i64 Z) 38
  have hx0 := Go.Deep.blk_alloc_new w (.cells #[.int .i64 B, .int .i64 Z] 38)
  have HR0 := Lib.hid hr0
  have HX0 := Lib.hid hx0
  have hsz0 : w.heap.size < (w.alloc (.cells #[.int .i64 B, .int .i64 Z] 38)).heap.size := by simp
  clear hB hZ hmost hT hr0 hx0
  go_enter Tryz.func4, Tryz.ntmps4
  go_wp2_with fail
  generalize w.alloc (.cells #[.int .i64 B, .int .i64 Z] 38) = w0 at HR0 HX0 hsz0 ⊢
  refine (fixed8_any w0).mono ?_
  rintro e w1 ⟨rfl, hq1⟩
  have HW1 := Lib.hid (HR0.out.trans (hq1.mono HR0.out.size))
  have HX1 := Lib.hid ((hq1.block _ hsz0).trans HX0.out)
  have hs1 := hq1.size
  have r0 : w1.cell? ⟨w.heap.size, 0, none⟩ = some (.int .i64 B) := by simp [World.cell?, HX1.out]
  have r1 : w1.cell? ⟨w.heap.size, 1, none⟩ = some (.int .i64 Z) := by simp [World.cell?, HX1.out]
  clear hq1
  go_wp2_with fail
  refine (gtNew B Z most HA.out.1 HA.out.2.1 HA.out.2.2.1 w1).mono ?_
  rintro e w3 ⟨g, rfl, hp3, hb3⟩
  have HP3 := Lib.hid hp3
  have HW3 := Lib.hid (HW1.out.trans (hb3.mono HW1.out.size))
  have HX3 := Lib.hid ((hb3.block _ (by omega)).trans HX1.out)
  have hs3 := hb3.size
  clear hp3 hb3 r0 r1
  go_wp2_with fail
  go_loopw [19] (fun t wr => ∃ (i : Nat) (F : Nat → Prop), t = .int .i64 i ∧ i ≤ M ∧ Below w1.heap.size w3 wr ∧ GmAt wr F g ((Gm.new B Z most).at T i) ∧ (∀ k, F k → w1.heap.size ≤ k ∧ k < wr.heap.size) ∧ ∀ j, j < i → (T j).bs.length ≤ 100) (fun t _ => M - (intOf t).toNat)
  case atStart => exact ⟨0, _, rfl, Nat.zero_le _, Below.refl _ _, HP3.out, fun k hk => hk, fun j hj => absurd hj (Nat.not_lt_zero _)⟩
  case round =>
    obtain ⟨i, F, rfl, hi, hbel, hpm, hF, hlen⟩ := hrel
    have hrr := (hbel.block _ (by omega)).trans HX3.out
    have r0 : wr.cell? ⟨w.heap.size, 0, none⟩ = some (.int .i64 B) := by simp [World.cell?, hrr]
    have r1 : wr.cell? ⟨w.heap.size, 1, none⟩ = some (.int .i64 Z) := by simp [World.cell?, hrr]
    clear hrr
    have HBEL := Lib.hid hbel
    have HPM := Lib.hid hpm
    have HF := Lib.hid hF
    have HLE := Lib.hid hlen
    have HW := Lib.hid (HW3.out.trans (hbel.mono (by have := HW3.out.size; omega)))
    have hsz := hbel.size
    clear hbel hpm hF hlen
    have HTW := Lib.hid (HT.out.below HW.out)
    by_cases hlt : i < M
    · have hg5 : (i : Int) < M := by omega
      have hg6 : (0 : Int) ≤ i := by omega
      have hg7 : (i : Int) ≤ cap := by omega
      have hdr := (Below.refl wr.heap.size wr).drew
      have HSA := Lib.hid (same8_any B Z most HA.out.1 HA.out.2.1 HA.out.2.2.1 cap i A (by omega) hcap T wr.drew ((told_less HTW.out (Nat.le_of_lt hlt)).below hdr) (by omega) HLE.out (HPM.out.keep hdr.size fun k hk => hdr.block k (HF.out k hk).2) (fun k hk => Nat.lt_of_lt_of_le (HF.out k hk).2 hdr.size))
      clear hdr
      obtain ⟨tb, tz, rfl, htb, htc⟩ := HTW.out (by omega)
      obtain ⟨y0, y1, y2, hyi⟩ := htc i hlt
      have HYI := Lib.hid hyi
      have hlen9 : ((T i).L : Int) ≤ 9223372036854775807 := by have := hyi.room; have := hyi.few; omega
      have HYL : Hid ((T i).bs.length = (T i).L) := Lib.hid (bytes_len hyi.bytes)
      have HTC := Lib.hid htc
      clear htc hyi
      by_cases hl : 100 < (T i).L
      · go_wp2
        go_ret
        exact ⟨rfl, HW.out⟩
      have hl2 : (T i).L ≤ 100 := by omega
      clear hl
      go_upto_region 11 with (fail)
      go_region_held3 (fun w' => w'.cell? ⟨w.heap.size, 0, none⟩ = some (.int .i64 B) ∧ w'.cell? ⟨w.heap.size, 1, none⟩ = some (.int .i64 Z)) (go_keep)
        (first | (go_at_call 13; refine HSA.out.mono ?_; rintro e w6 ⟨rfl, hb6d⟩; have hb6 := below_drew hb6d; have k0 := (hb6.cell (p := ⟨w.heap.size, 0, none⟩) (lt_of_cell r0)).trans r0; have k1 := (hb6.cell (p := ⟨w.heap.size, 1, none⟩) (lt_of_cell r1)).trans r1))
      have HP6 := Lib.hid (HPM.out.keep hb6.size fun k hk => hb6.block k (HF.out k hk).2)
      have HW6 := Lib.hid (HW.out.trans (hb6.mono HW.out.size))
      have HE6 := Lib.hid (HBEL.out.trans (hb6.mono (by omega)))
      have hs6 := hb6.size
      have z0 := (hb6.cell (lt_of_cell y0)).trans y0
      have z1 := (hb6.cell (lt_of_cell y1)).trans y1
      have z2 := (hb6.cell (lt_of_cell y2)).trans y2
      have HYI6 := Lib.hid (HYI.out.bytes.below hb6)
      clear hb6 hb6d r0 r1 k0 k1 y0 y1 y2
      have HFIT : Hid (((Gm.new B Z most).at T i).Fits (T i).an.bs.length) := Lib.hid (Gm.Few.fits (Gm.at_few (Gm.new_few B Z most) i HLE.out) (by show i * 100 + (T i).bs.length ≤ _; rw [HYL.out]; omega))
      go_wp2_with fail
      refine (getTake HP6.out (fun k hk => Nat.lt_of_lt_of_le (HF.out k hk).2 hs6) (T i).an (T i).A (T i).L (T i).cap HYI6.out HFIT.out).mono ?_
      rintro e w7 ⟨rfl, F7, hp7, ht7, hF7⟩
      have HP7 := Lib.hid hp7
      have HT7 := Lib.hid ht7
      have hs7 := ht7.size
      have HF7 := Lib.hid hF7
      clear hp7 ht7 hF7
      go_wp2
      go_roundw
      case rel =>
        refine ⟨i + 1, F7, by go_num, by omega, Touch.below HE6.out HT7.out (by omega) (fun q hq => (HF.out q hq).1), HP7.out, fun k hk => ?_, fun j hj => ?_⟩
        · rcases HF7.out k hk with h | h
          · have := HF.out k h; omega
          · omega
        · by_cases e : j = i
          · subst e; rw [HYL.out]; exact hl2
          · exact HLE.out j (by omega)
      case measure => simp [intOf]; omega
    · have hge : (M : Int) ≤ i := by omega
      have hiM : i = M := by omega
      subst hiM
      have HSA := Lib.hid (same8_any B Z most HA.out.1 HA.out.2.1 HA.out.2.2.1 cap i A (by omega) hcap T wr HTW.out (by omega) HLE.out HPM.out (fun k hk => (HF.out k hk).2))
      go_wp2_with fail
      refine HSA.out.mono ?_
      rintro e w6 ⟨rfl, hb6⟩
      go_wp2
      go_ret
      exact ⟨rfl, HW.out.trans (hb6.mono HW.out.size)⟩

set_option linter.unusedSimpArgs false in
set_option maxRecDepth 100000 in
set_option maxHeartbeats 2000000 in
theorem ringgetSteps_out (B Z most : Int) (A : Option Addr) (M cap : Nat) (w : World) (h : 60 < M) :
    Calls Tryz.prog 4 #[.agg #[.int .i64 B, .int .i64 Z], .int .i64 most, .slice A M cap] w (TrueBelow w) := by
  have hr0 := un_below w (.int .i64 B) (.int .i64 Z) 38
  have h2' : (60 : Int) < M := by omega
  clear h
  go_enter Tryz.func4, Tryz.ntmps4
  go_wp2_with fail
  generalize w.alloc (.cells #[.int .i64 B, .int .i64 Z] 38) = w0 at hr0 ⊢
  refine (fixed8_any w0).mono ?_
  rintro e w1 ⟨rfl, hq1⟩
  go_wp2_with fail
  go_ret
  exact ⟨rfl, hr0.trans (hq1.mono hr0.size)⟩

theorem ringgetSteps_any (B Z : Int) (hB : -9223372036854775808 ≤ B ∧ B ≤ 9223372036854775807) (hZ : -9223372036854775808 ≤ Z ∧ Z ≤ 9223372036854775807) (most : Int) (hmost : most ≤ 9223372036854775807)
    (A : Option Addr) (M cap : Nat) (hM : M ≤ cap) (hcap : cap ≤ 9223372036854775807) (T : Nat → Ans) (w : World) (hT : ToldAt w A M T) :
    Calls Tryz.prog 4 #[.agg #[.int .i64 B, .int .i64 Z], .int .i64 most, .slice A M cap] w (TrueBelow w) := by
  by_cases h : 60 < M
  · exact ringgetSteps_out B Z most A M cap w h
  · exact ringgetSteps_main B Z hB hZ most hmost A M cap hM hcap T w hT (by omega)
end Go.Proofs.YtikcnioooihncaaGreat
namespace Go.Proofs.YtikcnioooihncaaGreat
open Go.RowKit

theorem owns_room {base l c : Nat} {w : World} {A : Option Addr} {xs : List Int} (h : Owns base w (.slice A l c) xs) : l = xs.length ∧ l ≤ c ∧ c ≤ 9223372036854775807 := by
  obtain ⟨h0, e | ⟨g, cap, cur, e, _, _, e2, e3, _⟩⟩ := h
  · obtain ⟨e1, e2⟩ := e
    injection e1 with _ e3 e4
    refine ⟨?_, by omega, by omega⟩
    rw [e3]
    simpa using e2.symm
  · injection e with _ e4 e5
    unfold maxLen at e3
    exact ⟨e4, by omega, by omega⟩

theorem getNextW {w : World} {F : Nat → Prop} {g : Nat} {m : Gm} (h : GmAt w F g m) (hF : ∀ k, F k → k < w.heap.size) {a : Ac} (ha : m.next = some a) :
    Calls Tryz.prog 9 #[.pointer (some ⟨g, 0, none⟩)] w (fun e w' => ∃ A c, e = .returned (.tuple #[.agg #[.int .i64 a.K, .int .i64 a.P, .int .i64 a.N, .int .u64 a.V, .int .u64 a.U, .slice A a.bs.length c], .bool true]) ∧ a.bs.length ≤ c ∧ c ≤ 9223372036854775807 ∧ Owns w.heap.size w' (.slice A a.bs.length c) a.bs ∧ Below w.heap.size w w') := by
  have := getNext h hF
  rw [ha] at this
  refine this.mono ?_
  rintro e w' ⟨hbl, A, l, c, rfl, ho⟩
  obtain ⟨e1, e2, e3⟩ := owns_room ho
  subst e1
  exact ⟨A, c, rfl, e2, e3, ho, hbl⟩

/-- What a get asks for: a word, bytes to be written, or bytes to be read, in its ring or close behind it. -/
theorem Gm.shape {w : World} {F : Nat → Prop} {g : Nat} {m : Gm} (h : GmAt w F g m) {a : Ac} (ha : m.next = some a) {S : Nat} (hin : ∀ s, m = .live s → s.B + s.Z + 24 ≤ S) :
    ∃ (P N : Nat) (f' : Nat → Nat), a.P = (P : Int) ∧ a.N = (N : Int) ∧ a.bs = Mb.bl f' 0 a.bs.length ∧ ShAny S a.K P N a.bs.length f' := by
  cases m with
  | dead => cases ha
  | live s =>
    have hs := hin s rfl
    obtain ⟨M, a0, av, th, mv, h1, h2, ok, h4, _⟩ := h
    have okr := ok.rg
    have dn := ok.dn0
    have hpl := okr.place_in s.h
    have spot : Rg.spot s.B s.Z s.h = (s.B : Int) + Rg.place s.Z s.h := rfl
    have num : ∃ P : Nat, Rg.num s.B s.Z 16 = P ∧ P + 8 ≤ S := ⟨(Rg.num s.B s.Z 16).toNat, by unfold Rg.num; omega, by unfold Rg.num; omega⟩
    have hat : ∃ P : Nat, s.at_ = P ∧ P + 8 ≤ S := ⟨s.at_.toNat, by unfold Gs.at_; omega, by unfold Gs.at_; omega⟩
    have word : ∀ (K : Int) (P N : Nat) (V U : Nat), P + N ≤ S → (K = 1 ∨ K = 2 ∨ K = 4) → (N = 4 ∨ N = 8) → ∀ b : Ac, b = ⟨K, (P : Int), (N : Int), V, U, []⟩ → ∃ (P N : Nat) (f' : Nat → Nat), b.P = (P : Int) ∧ b.N = (N : Int) ∧ b.bs = Mb.bl f' 0 b.bs.length ∧ ShAny S b.K P N b.bs.length f' := by
      rintro K P N V U h1 h2 h3 b rfl
      exact ⟨P, N, fun _ => 0, rfl, rfl, rfl, .inl ⟨h1, .inl ⟨rfl, h2, h3⟩, Mb.zero_isB⟩⟩
    have ha' : s.next = some a := ha
    unfold Gs.next at ha'
    unfold Gs.PhOk at h4
    cases hph : s.ph with
    | fin => rw [hph] at ha'; cases ha'
    | head => rw [hph] at ha'; injection ha' with e; obtain ⟨P, h1, h2⟩ := num; exact word 1 P 8 0 0 h2 (.inl rfl) (.inr rfl) a (by rw [← e, h1]; rfl)
    | look => rw [hph] at ha'; injection ha' with e; obtain ⟨P, h1, h2⟩ := hat; exact word 1 P 8 0 0 h2 (.inl rfl) (.inr rfl) a (by rw [← e, h1]; rfl)
    | set => rw [hph] at ha'; injection ha' with e; obtain ⟨P, h1, h2⟩ := num; exact word 2 P 8 _ 0 h2 (.inr (.inl rfl)) (.inr rfl) a (by rw [← e, h1]; rfl)
    | read typ sz n d ys =>
      rw [hph] at ha' h4
      obtain ⟨k1, k2, k3, k4⟩ := h4
      unfold Gs.left at k3
      have hn := Cy.nx_le (n - d)
      have hn0 := Cy.nx_pos (r := n - d) (by omega)
      injection ha' with e
      subst e
      refine ⟨(s.at_ + 8 + (d : Nat)).toNat, Cy.nx (n - d), fun _ => 0, ?_, rfl, rfl, .inr ⟨rfl, rfl, by omega, by omega, ?_, Mb.zero_isB⟩⟩
      · show s.at_ + 8 + ((d : Nat) : Int) = _
        unfold Gs.at_
        omega
      · unfold Gs.at_
        omega
    | zero d =>
      rw [hph] at ha' h4
      have hd : d < s.dn := h4
      have hn := Cy.nx_le (s.dn - d)
      have hn0 := Cy.nx_pos (r := s.dn - d) (by omega)
      injection ha' with e
      have hlen : a.bs.length = Cy.nx (s.dn - d) := by
        rw [← e]
        show (Mb.bl (fun _ => 0) d (Cy.nx (s.dn - d))).length = _
        rw [Mb.bl_length]
      refine ⟨(Rg.spot s.B s.Z s.h + (d : Nat)).toNat, Cy.nx (s.dn - d), fun _ => 0, ?_, by rw [← e], ?_, .inl ?_⟩
      · rw [← e]
        show Rg.spot s.B s.Z s.h + ((d : Nat) : Int) = _
        omega
      · rw [hlen, ← e]
        show Mb.bl (fun _ => 0) d (Cy.nx (s.dn - d)) = _
        rw [bl_from0]
      · rw [hlen]
        exact ⟨by omega, .inr ⟨by rw [← e], rfl, by omega, by omega⟩, Mb.zero_isB⟩

/-- The ring of a get stays. -/
def Kg (s s' : Gs) : Prop := s'.B = s.B ∧ s'.Z = s.Z
theorem Kg.drain {s s' : Gs} (h : Kg s s') : Kg s s'.drain := by unfold Gs.drain; split <;> exact h
theorem Kg.looks {s s' : Gs} (h : Kg s s') : Kg s s'.looks := by
  unfold Gs.looks
  split
  · exact h.drain
  · exact h
theorem Kg.pass {s s' : Gs} (h : Kg s s') (sz : Nat) : Kg s (s'.pass sz) := Kg.looks (s' := { s' with dn := s'.dn + sz }) h
theorem Kg.got {s s' : Gs} (h : Kg s s') (typ : Int) (sz : Nat) (ys : List Int) : Kg s (s'.got typ sz ys) := Kg.pass (s' := { s' with ms := s'.ms ++ [(typ, ys)] }) h sz
theorem Kg.tell {s s' : Gs} (h : Kg s s') (l typ : Int) : Kg s (s'.tell l typ) := by
  unfold Gs.tell
  split
  · exact h.drain
  · split
    · exact Kg.drain (s' := { s' with er := 13 }) h
    · split
      · exact h.pass _
      · split
        · exact h.got _ _ _
        · exact h
theorem Kg.refl (s : Gs) : Kg s s := ⟨rfl, rfl⟩
theorem Kg.h (s : Gs) (v : Int) : Kg s { s with h := v } := ⟨rfl, rfl⟩
theorem Kg.ph (s : Gs) (v : Gh) : Kg s { s with ph := v } := ⟨rfl, rfl⟩
theorem Kg.take (s : Gs) (x : An) : Kg s (s.take x) := by
  unfold Gs.take
  cases hph : s.ph with
  | head =>
    show Kg s ({ s with h := Rs.wr x.V } : Gs).looks
    generalize Rs.wr x.V = v
    exact (Kg.h s v).looks
  | look =>
    show Kg s (s.tell (Hd.s32 x.V) (Hd.s32 (x.V / 4294967296)))
    generalize Hd.s32 x.V = l
    generalize Hd.s32 (x.V / 4294967296) = typ
    exact (Kg.refl s).tell l typ
  | read typ sz n d ys =>
    by_cases hq : d + Cy.nx (n - d) = n
    · simp only [if_pos hq]; exact (Kg.refl s).got _ _ _
    · simp only [if_neg hq]; exact Kg.ph s _
  | zero d =>
    by_cases hq : d + Cy.nx (s.dn - d) = s.dn
    · simp only [if_pos hq]; exact Kg.ph s _
    · simp only [if_neg hq]; exact Kg.ph s _
  | set => exact Kg.ph s _
  | fin => exact Kg.refl s

theorem Gm.at_in {B Z most : Int} {S : Nat} {T : Nat → Ans} (hin : B.toNat + Z.toNat + 24 ≤ S) : ∀ n s, (Gm.new B Z most).at T n = .live s → s.B + s.Z + 24 ≤ S := by
  have key : ∀ n, ∀ s, (Gm.new B Z most).at T n = .live s → s.B = B.toNat ∧ s.Z = Z.toNat := by
    intro n
    induction n with
    | zero =>
      intro s hs
      have hs' : Gm.new B Z most = .live s := hs
      unfold Gm.new at hs'
      by_cases h1 : Rg.right B Z ∧ 1 ≤ most
      · rw [if_pos h1] at hs'
        injection hs' with hs'
        subst hs'
        exact ⟨rfl, rfl⟩
      · rw [if_neg h1] at hs'; cases hs'
    | succ n ih =>
      intro s hs
      cases hm : (Gm.new B Z most).at T n with
      | dead =>
        have h2 : ((Gm.new B Z most).at T n).take (T n).an = .live s := hs
        rw [hm] at h2
        cases h2
      | live s0 =>
        have h2 := Gm.at_succ hm
        rw [hs] at h2
        injection h2 with h2
        obtain ⟨e1, e2⟩ := ih s0 hm
        obtain ⟨g1, g2⟩ := Kg.take s0 (T n).an
        rw [h2]
        exact ⟨g1.trans e1, g2.trans e2⟩
  intro n s hs
  obtain ⟨e1, e2⟩ := key n s hs
  omega

theorem Gm.at_congr {m : Gm} {T T' : Nat → Ans} {i : Nat} (h : ∀ j, j < i → T j = T' j) : m.at T i = m.at T' i := by
  induction i with
  | zero => rfl
  | succ i ih =>
    show (m.at T i).take (T i).an = (m.at T' i).take (T' i).an
    rw [ih fun j hj => h j (by omega), h i (by omega)]

/-- A step of a get beside a buffer and plain bytes. -/
theorem getStep {w : World} {F : Nat → Prop} {g : Nat} {m : Gm} (h : GmAt w F g m) (hF : ∀ k, F k → k < w.heap.size) {a : Ac} (ha : m.next = some a) {nw : Nat} {u : Nat → Nat} (hu : Mb.IsB u) (hnw : 8 * nw ≤ 1000000) (hin : ∀ s, m = .live s → s.B + s.Z + 24 ≤ 8 * nw) :
    ∃ (K : Int) (P N V U L : Nat) (f : Nat → Nat) (er : Int) (v : Nat) (d : Bool) (u2 : Nat → Nat) (nb : Nat) (fa : Nat → Nat), v < 18446744073709551616 ∧ Mb.IsB u2 ∧ Mb.IsB fa ∧ nb ≤ 8 ∧
      Calls Tryz.prog 9 #[.pointer (some ⟨g, 0, none⟩)] w (fun e w' => ∃ A cap, e = .returned (.tuple #[.agg #[.int .i64 K, .int .i64 P, .int .i64 N, .int .u64 V, .int .u64 U, .slice A L cap], .bool true]) ∧ Owns w.heap.size w' (.slice A L cap) (Mb.bl f 0 L) ∧ Below w.heap.size w w' ∧ ShBoth nw u u2 K P N V U L f er v d nb fa A cap) := by
  obtain ⟨hV, hU, _⟩ := Gm.fine h ha
  obtain ⟨P, N, f, hP, hN, hbs, hacc⟩ := Gm.shape h ha hin
  have hnx := getNextW h hF ha
  obtain ⟨K, P', N', V, U, bs⟩ := a
  simp only at hV hU hP hN hbs hacc hnx
  subst hP hN
  obtain ⟨L, hL⟩ : ∃ L, L = bs.length := ⟨_, rfl⟩
  rw [← hL] at hbs hacc hnx
  subst hbs
  obtain ⟨er, v, d, u2, nb, fa, hv, hu2, hfa, hnb, hpair⟩ := shPairB (f := f) hu hnw hacc hV hU
  refine ⟨K, P, N, V, U, L, f, er, v, d, u2, nb, fa, hv, hu2, hfa, hnb, hnx.mono ?_⟩
  rintro e w' ⟨A, cap, rfl, hc1, hc2, ho, hb⟩
  exact ⟨A, cap, rfl, ho, hb, hpair A cap hc1 hc2⟩

/-- The answers that were told read as they did, in blocks that K names. -/
def Told8 (K : Nat → Prop) (w : World) (n : Nat) (T : Nat → Ans) : Prop := ∀ j, j < n → (T j).V < 18446744073709551616 ∧ Mb.IsB (T j).f ∧ (T j).L ≤ (T j).cap ∧ (T j).cap ≤ 9223372036854775807 ∧ (T j).bs.length ≤ 8 ∧ BytesIn K w (.slice (T j).A (T j).L (T j).cap) (T j).bs
theorem Told8.is {K : Nat → Prop} {w : World} {n : Nat} {T : Nat → Ans} (h : Told8 K w n T) : ∀ i, i < n → (T i).Is w := fun i hi => by
  obtain ⟨h1, h2, h3, h4, h5, h6⟩ := h i hi
  exact ⟨h1, h2, h6.bytes, h3, h4⟩
/-- A get and what it was told, in blocks apart. -/
def GetWith (gp n : Nat) (T : Nat → Ans) (mm : Gm) (w : World) (F : Nat → Prop) : Prop :=
  ∃ F1 F2 : Nat → Prop, (∀ k, F1 k → F k ∧ ¬ F2 k) ∧ (∀ k, F2 k → F k) ∧ GmAt w F1 gp mm ∧ Told8 F2 w n T
theorem getWith_keeps {gp n : Nat} {T : Nat → Ans} {mm : Gm} : Keeps (GetWith gp n T mm) := fun hs hb h => by
  obtain ⟨F1, F2, h1, h2, h3, h4⟩ := h
  exact ⟨F1, F2, h1, h2, h3.keep hs fun k hk => hb k (h1 k hk).1, fun j hj => by
    obtain ⟨k1, k2, k3, k4, k5, k6⟩ := h4 j hj
    exact ⟨k1, k2, k3, k4, k5, k6.keep hs fun k hk _ => hb k (h2 k hk)⟩⟩

/-- More blocks are the machine's. -/
theorem ShW.more {w0 wr : World} {gb hb q rb base nw n : Nat} {B Z : Int} {m u : Nat → Nat} {c : Int} {At At' : World → (Nat → Prop) → Prop} {F Y : Nat → Prop} {T : Nat → Ans} {vT : Value} (h : ShW w0 wr gb hb q rb base B Z nw m u c At F n T vT) (hk : Keeps At') (ha : At' wr (fun k => F k ∨ Y k))
    (hY : ∀ k, Y k → k < wr.heap.size ∧ w0.heap.size ≤ k ∧ k ≠ gb ∧ k ≠ hb ∧ k ≠ q ∧ k ≠ rb ∧ vT.ownBlock ≠ some k) : ShW w0 wr gb hb q rb base B Z nw m u c At' (fun k => F k ∨ Y k) n T vT :=
  ⟨h.buf, h.row, ha, hk, h.tell, h.r0, h.r1, h.low, fun k hk => hk.elim (h.sep k) (hY k), h.fix, h.apart⟩

/-- An answer that was just told is kept with the machine. -/
theorem ShW.answer {w0 v5 v6 : World} {gb hb q rb base nw n : Nat} {B Z : Int} {m u m' u' : Nat → Nat} {c c' : Int} {At : World → (Nat → Prop) → Prop} {gp : Nat} {mm : Gm} {F : Nat → Prop} {T : Nat → Ans} {vT : Value}
    (h5 : ShW w0 v5 gb hb q rb base B Z nw m u c At F n T vT) (h6 : ShW w0 v6 gb hb q rb base B Z nw m' u' c' (GetWith gp n T mm) F n T vT) {y : Ans} (hV : y.V < 18446744073709551616) (hf : Mb.IsB y.f) (h1 : y.L ≤ y.cap) (h2 : y.cap ≤ 9223372036854775807) (h3 : y.bs.length ≤ 8) (hb' : BytesIn (fun k => v5.heap.size ≤ k) v6 (.slice y.A y.L y.cap) y.bs) :
    ShW w0 v6 gb hb q rb base B Z nw m' u' c' (GetWith gp (n + 1) (Ans.add T n y) mm) (fun k => F k ∨ (v5.heap.size ≤ k ∧ k < v6.heap.size)) n T vT := by
  obtain ⟨F1, F2, g1, g2, g3, g4⟩ := h6.mach
  have hgl := h5.buf.g_lt
  have hhl := h5.buf.h_lt
  have hql := h5.row.lt
  have hrl := h5.rlt
  have hlo := h5.low.size
  refine h6.more getWith_keeps ⟨F1, fun k => F2 k ∨ (v5.heap.size ≤ k ∧ k < v6.heap.size), fun k hk => ⟨.inl (g1 k hk).1, fun e => ?_⟩, fun k hk => hk.imp (g2 k) id, g3, fun j hj => ?_⟩ fun k hk => ⟨hk.2, by omega, by omega, by omega, by omega, by omega, fun e => by have := (row_lt h5.tell e).2; omega⟩
  · rcases e with e | e
    · exact (g1 k hk).2 e
    · have := (h5.sep k (g1 k hk).1).1
      omega
  · by_cases e : j = n
    · subst e
      rw [Ans.add_at]
      exact ⟨hV, hf, h1, h2, h3, hb'.mono fun k hk hl => .inr ⟨hk, hl⟩⟩
    · rw [Ans.add_old T n y (by omega)]
      obtain ⟨k1, k2, k3, k4, k5, k6⟩ := g4 j (by omega)
      exact ⟨k1, k2, k3, k4, k5, k6.mono fun k hk _ => .inl hk⟩

/-- The get took an answer. -/
theorem ShW.took {w0 v8 v9 : World} {gb hb q rb base nw n n2 : Nat} {B Z : Int} {m u : Nat → Nat} {c : Int} {gp : Nat} {mm mm' : Gm} {F : Nat → Prop} {T T2 : Nat → Ans} {vT : Value}
    (h : ShW w0 v8 gb hb q rb base B Z nw m u c (GetWith gp n2 T2 mm) F n T vT) {F1 F2 F9 : Nat → Prop} (g1 : ∀ k, F1 k → F k ∧ ¬ F2 k) (g2 : ∀ k, F2 k → F k) (g4 : Told8 F2 v8 n2 T2) (hp9 : GmAt v9 F9 gp mm') (ht9 : Touch F1 v8 v9) (hF9 : ∀ k, F9 k → F1 k ∨ (v8.heap.size ≤ k ∧ k < v9.heap.size)) :
    ShW w0 v9 gb hb q rb base B Z nw m u c (GetWith gp n2 T2 mm') (fun k => F9 k ∨ F2 k) n T vT := by
  refine h.machTo getWith_keeps ⟨F9, F2, fun k hk => ⟨.inl hk, fun e => ?_⟩, fun k hk => .inr hk, hp9, fun j hj => ?_⟩ (ht9.mono fun k hk => (g1 k hk).1) fun k hk => ?_
  · rcases hF9 k hk with h1 | h1
    · exact (g1 k h1).2 e
    · have := (h.sep k (g2 k e)).1
      omega
  · obtain ⟨k1, k2, k3, k4, k5, k6⟩ := g4 j hj
    exact ⟨k1, k2, k3, k4, k5, k6.touch ht9 fun k hk e => (g1 k e).2 hk⟩
  · rcases hk with hk | hk
    · exact (hF9 k hk).imp (fun e => (g1 k e).1) id
    · exact .inl (g2 k hk)

theorem zero_row320g (w : World) : PlainAt (w.alloc (.cells (madeCells #[.int .u8 0] 320) 5)) w.heap.size 320 (fun _ => 0) := World.rowIs_made w (.int .u8 0) 320 5
end Go.Proofs.YtikcnioooihncaaGreat
namespace Go.Proofs.YtikcnioooihncaaGreat
open Go.RowKit

set_option linter.unusedSimpArgs false in
set_option maxRecDepth 100000 in
set_option maxHeartbeats 8000000 in
theorem ringgetShares_main (A1 : Option Addr) (L1 cp1 : Nat) (f1 : Nat → Nat) (hf1 : Mb.IsB f1) (bq bm : Nat) (hbm : bm ≤ 255) (A3 : Option Addr) (M cp3 : Nat) (hM : M ≤ cp3) (hcp3 : cp3 ≤ 9223372036854775807) (O : Nat → Ow) (w : World)
    (hby : BytesAt w (.slice A1 L1 cp1) (Mb.bl f1 0 L1)) (hO : OwsAt w A3 M O) (hL1 : L1 ≤ 400) (hM2 : M ≤ 150) (Z : Nat) (hZ : Z = 64 ∨ Z = 128 ∨ Z = 256) (hzq : wrap64 (64 * 2 ^ (bq % 3)) = (Z : Int)) :
    Calls Tryz.prog 5 #[.slice A1 L1 cp1, .int .u8 bq, .int .u8 bm, .slice A3 M cp3] w (TrueBelow w) := by
  have HBY := Lib.hid hby
  have HO := Lib.hid hO
  have HF1 := Lib.hid hf1
  have HM := Lib.hid (And.intro hM hcp3)
  have hL1' : (L1 : Int) ≤ 400 := by omega
  have hM2' : (M : Int) ≤ 150 := by omega
  have hmk : ∀ W : World, (Instr.makeSlice 23 (.int .i64 320) (.int .i64 320)).run Tryz.prog W = .ok (.slice (some ⟨W.heap.size, 0, none⟩) 320 320) (W.alloc (.cells (madeCells #[.int .u8 0] 320) 5)) := make_bytes 320 (by decide)
  have HZ0 := Lib.hid hZ
  have HZQ := Lib.hid hzq
  clear hby hO hf1 hZ hzq hM hcp3
  go_enter Tryz.func5, Tryz.ntmps5
  go_wp2_with fail
  refine (fixed8_any w).mono ?_
  rintro e w1 ⟨rfl, hq1⟩
  have HW1 := Lib.hid hq1
  have hsw1 := hq1.size
  clear hq1
  go_upto_region 6 with (fail)
  simp only [HZQ.out]
  have hrb := un_below w1 (.int .i64 8) (.int .i64 Z) 38
  obtain ⟨r0, r1⟩ := rg_cells w1 8 Z
  have hsz2 : (w1.alloc (.cells #[.int .i64 8, .int .i64 Z] 38)).heap.size = w1.heap.size + 1 := by simp
  generalize w1.alloc (.cells #[.int .i64 8, .int .i64 Z] 38) = w2 at hrb r0 r1 hsz2 ⊢
  go_upto_region 7 with (go_at_call 14; refine (new_yes 320 40 w2 (by decide) (by decide) (by decide) (by decide)).mono ?_; rintro e w3 ⟨gb, hb, rfl, hB3, hgb, hhb, hb3⟩)
  have q0 := (hb3.cell (p := ⟨w1.heap.size, 0, none⟩) (lt_of_cell r0)).trans r0
  have q1 := (hb3.cell (p := ⟨w1.heap.size, 1, none⟩) (lt_of_cell r0)).trans r1
  have HW3 := Lib.hid ((HW1.out.trans (hrb.mono hsw1)).trans (hb3.mono (by have := hrb.size; omega)))
  have hs3 := hb3.size
  have HB3 := Lib.hid hB3
  have hgl3 := hB3.g_lt
  have hhl3 := hB3.h_lt
  clear r0 r1 hrb hb3 hB3
  go_upto_region 8 with (fail)
  have hb4 := (Below.refl w3.heap.size w3).alloc (Nat.le_refl _) (.cells (madeCells #[.int .u8 0] 320) 5)
  have hrow4 := zero_row320g w3
  have hsz4 : (w3.alloc (.cells (madeCells #[.int .u8 0] 320) 5)).heap.size = w3.heap.size + 1 := by simp
  generalize w3.alloc (.cells (madeCells #[.int .u8 0] 320) 5) = w4 at hb4 hrow4 hsz4 ⊢
  obtain ⟨q, hq⟩ : ∃ q, q = w3.heap.size := ⟨_, rfl⟩
  rw [← hq] at hrow4 ⊢
  have p0 := (hb4.cell (p := ⟨w1.heap.size, 0, none⟩) (lt_of_cell q0)).trans q0
  have p1 := (hb4.cell (p := ⟨w1.heap.size, 1, none⟩) (lt_of_cell q0)).trans q1
  have HB4 := Lib.hid (HB3.out.below hb4)
  have HW4 := Lib.hid (HW3.out.trans (hb4.mono HW3.out.size))
  have HR4 := Lib.hid hrow4
  have HY4 := Lib.hid (HBY.out.below HW4.out)
  have hs4 := hb4.size
  have HQ := Lib.hid (And.intro hq (And.intro hgb (And.intro hhb (And.intro hgl3 hhl3))))
  have hqrb : ¬ Lone q w1.heap.size := fun e => by have e : w1.heap.size = q := e; omega
  have hq1 : w3.heap.size ≤ q := by omega
  have hq2 : q ≤ w3.heap.size := by omega
  clear q0 q1 hb4 hrow4 hmk HB3 hq
  obtain ⟨w5, hrun5, hr5, ht5⟩ := run_copy_cut (u := fun _ => 0) (f := f1) (dLen := 320) (dCap := 320) HR4.out A1 L1 cp1 HY4.out (Nat.le_refl _) 3
  go_upto_region 9 with (fail)
  clear hrun5
  have HU : Hid (Mb.IsB (Cy.lay (fun _ => 0) f1 0 (min L1 320))) := Lib.hid (Cy.lay_isB Mb.zero_isB HF1.out _ _)
  generalize Cy.lay (fun _ => 0) f1 0 (min L1 320) = u at hr5 HU
  have HR5 := Lib.hid hr5
  have HB5 : Hid (Buf w5 gb hb (fun _ => 0) 40 0) := Lib.hid (HB4.out.of_blocks (ht5.block gb HB4.out.g_lt fun e => by have e : gb = q := e; omega) (ht5.block hb HB4.out.h_lt fun e => by have e : hb = q := e; omega))
  have r0 := (ht5.cell (p := ⟨w1.heap.size, 0, none⟩) (lt_of_cell p0) hqrb).trans p0
  have r1 := (ht5.cell (p := ⟨w1.heap.size, 1, none⟩) (lt_of_cell p0) hqrb).trans p1
  have HW5 := Lib.hid (ht5.below HW4.out HW4.out.size fun k hk => by have e : k = q := hk; rw [e, HQ.out.1]; exact HW3.out.size)
  have hs5 := ht5.size
  clear p0 p1 hr5 ht5 HB4 HR4 HY4
  go_wp2_with fail
  go_loopw [13] (fun t wr => ∃ i : Nat, t = .int .i64 i ∧ i ≤ 320 ∧ i % 8 = 0 ∧ (∃ c, Buf wr gb hb (Cy.lay (fun _ => 0) u 0 i) 40 c) ∧ Touch (Two gb hb) w5 wr) (fun t _ => 320 - (intOf t).toNat)
  case atStart => exact ⟨0, rfl, by omega, rfl, ⟨0, by rw [Cy.lay_zero]; exact HB5.out⟩, Touch.refl _ _⟩
  case round =>
    obtain ⟨i, rfl, hi, hi8, ⟨c, hbi⟩, hti⟩ := hrel
    have HBI := Lib.hid hbi
    have HTI := Lib.hid hti
    have hqn : ¬ Two gb hb q := fun e => by rcases e with e | e <;> omega
    have HRI : Hid (PlainAt wr q 320 u) := Lib.hid (HR5.out.of_block (hti.block q HR5.out.lt hqn))
    have hsi := hti.size
    clear hbi hti
    by_cases hlt : i < 320
    · have hg1 : (i : Int) < 320 := by omega
      have hg2 : (i : Int) + 8 ≤ 320 := by omega
      have hg3 : (0 : Int) ≤ i := by omega
      have hg4 : (i : Int) ≤ i + 8 := by omega
      have hpart := HRI.out.part i 8 (320 - i) (by omega)
      rw [bl_from0] at hpart
      have HPT := Lib.hid hpart
      clear hpart
      go_wp2_with fail
      refine (do_ok HBI.out 6 i 8 0 0 (f := fun j => u (i + j)) (fun j => HU.out _) (some ⟨q, i, none⟩) 8 (320 - i) (by omega) (by omega) HPT.out (by decide) (chk_writes (by decide) (by omega))).mono ?_
      rintro e w6 ⟨s6, rfl, _, hst6, htt6⟩
      have HST : Hid (∃ c, Buf w6 gb hb (Cy.lay (fun _ => 0) u 0 (i + 8)) 40 c) := Lib.hid ⟨_, by
        have h := Cy.lay_step (m := fun _ => 0) HU.out 0 i 8
        rw [Nat.zero_add] at h
        rw [← h]
        exact hst6⟩
      have HT6 := Lib.hid (HTI.out.trans htt6)
      clear hst6 htt6 HPT
      go_wp2
      go_roundw
      case rel => exact ⟨i + 8, by go_num, by omega, by omega, HST.out, HT6.out⟩
      case measure => simp [intOf]; omega
    · have hge : (320 : Int) ≤ i := by omega
      obtain rfl : i = 320 := by omega
      obtain ⟨m0, hm0⟩ : ∃ m0, m0 = Cy.lay (fun _ => 0) u 0 320 := ⟨_, rfl⟩
      have hbi := HBI.out
      obtain ⟨c0, hc0⟩ : ∃ c0, c0 = c := ⟨_, rfl⟩
      have hri : PlainAt wr q (8 * 40) m0 := HRI.out.congr fun j hj => by
        rw [hm0]
        unfold Cy.lay
        rw [if_pos (by omega), Nat.sub_zero]
      rw [← hm0] at hbi
      have HMB : Hid (Mb.IsB m0) := Lib.hid (by rw [hm0]; exact Cy.lay_isB Mb.zero_isB HU.out _ _)
      have p0 := (HTI.out.cell (p := ⟨w1.heap.size, 0, none⟩) (lt_of_cell r0) (fun e => by rcases e with e | e <;> (have e2 : w1.heap.size = _ := e; omega))).trans r0
      have p1 := (HTI.out.cell (p := ⟨w1.heap.size, 1, none⟩) (lt_of_cell r0) (fun e => by rcases e with e | e <;> (have e2 : w1.heap.size = _ := e; omega))).trans r1
      have HBW := Lib.hid hbi
      have HRW := Lib.hid hri
      have HWW := Lib.hid (HTI.out.below HW5.out HW5.out.size fun k hk => by rcases hk with e | e <;> omega)
      clear hm0 hbi hri HBI HRI hc0 r0 r1 HR5 HB5
      rename World => w7
      have hbw : IntKind.i64.wrap ((bm : Nat) : Int) = (bm : Int) := IntWalk.i64_in _ (by omega)
      go_upto_region 14 with (go_at_call 11; refine (gtNew 8 Z bm (by decide) (by have := HZ0.out; omega) (by omega) w7).mono ?_; rintro e w8 ⟨gp, rfl, hp8, hb8⟩)
      have hs8 := hb8.size
      have hsw7 := HWW.out.size
      have hgl7 := HBW.out.g_lt
      have hhl7 := HBW.out.h_lt
      have hql7 := HRW.out.lt
      have hrl7 := lt_of_cell p0
      have hshw : ShW w w8 gb hb q w1.heap.size w8.heap.size 8 Z 40 m0 m0 c (GetWith gp 0 (fun _ => ⟨0, false, none, 0, 0, fun _ => 0⟩) ((Gm.new 8 Z bm).at (fun _ => ⟨0, false, none, 0, 0, fun _ => 0⟩) 0)) (fun k => w7.heap.size ≤ k ∧ k < w8.heap.size) 0 (fun _ => ⟨0, false, none, 0, 0, fun _ => 0⟩) (.slice none 0 0) :=
        ⟨HBW.out.below hb8, HRW.out.of_block (hb8.block q HRW.out.lt), ⟨_, fun _ => False, fun k hk => ⟨hk, id⟩, fun k hk => False.elim hk, hp8, fun j hj => absurd hj (Nat.not_lt_zero _)⟩, getWith_keeps, ⟨rfl, .inl ⟨rfl, rfl⟩⟩, (hb8.cell (p := ⟨w1.heap.size, 0, none⟩) hrl7).trans p0, (hb8.cell (p := ⟨w1.heap.size, 1, none⟩) hrl7).trans p1, HWW.out.trans (hb8.mono hsw7), fun k hk => ⟨hk.2, by omega, by omega, by omega, by omega, by omega, fun e => by cases e⟩, by omega, by omega⟩
      have HS := Lib.hid hshw
      have HZ1 : Hid (Z ≤ 256 ∧ 64 ≤ Z) := Lib.hid (by have := HZ0.out; omega)
      have HIN : Hid (∀ (T : Nat → Ans) n s, (Gm.new 8 Z bm).at T n = .live s → s.B + s.Z + 24 ≤ 8 * 40) := Lib.hid fun T n s hs => Gm.at_in (by have := HZ1.out; omega) n s hs
      clear hshw p0 p1 hp8 hb8 HBW HRW HTI hgl3 hhl3 hgb hhb
      go_wp2_with fail
      go_loopw [15, 66] (fun vT t wr => ∃ (i n : Nat) (F : Nat → Prop) (T : Nat → Ans) (m : Nat → Nat) (c : Int), t = .int .i64 i ∧ i ≤ M ∧ n ≤ i ∧ ShW w wr gb hb q w1.heap.size w8.heap.size 8 Z 40 m m c (GetWith gp n T ((Gm.new 8 Z bm).at T n)) F n T vT ∧ Mb.IsB m) (fun _ t _ => M - (intOf t).toNat)
      case atStart => exact ⟨0, 0, _, _, m0, c, rfl, Nat.zero_le _, Nat.le_refl _, HS.out, HMB.out⟩
      case round =>
        obtain ⟨i, n, F, T, m, c, rfl, hi, hni, hsw, hmb⟩ := hrel
        have HSW := Lib.hid hsw
        have HM2 := Lib.hid hmb
        clear hsw hmb HS HMB
        by_cases hlt : i < M
        · have hg5 : (i : Int) < M := by omega
          have hg6 : (0 : Int) ≤ i := by omega
          obtain ⟨b3, off3, hA3, hl3, hc3⟩ := (HO.out.below HSW.out.low) (by omega)
          subst hA3
          obtain ⟨o0, o1, ho2, ho3⟩ := hc3 i hlt
          clear hc3
          go_wp2_with fail
          have hwb := (Below.refl wr.heap.size wr).alloc (Nat.le_refl _) (.cells #[.int .u16 (O i).P, .int .u64 (O i).V] 53)
          have hwx := Go.Deep.blk_alloc_new wr (.cells #[.int .u16 (O i).P, .int .u64 (O i).V] 53)
          have hfr := HSW.out.fresh (Nat.le_refl _)
          obtain ⟨bx, hbx⟩ : ∃ bx, bx = wr.heap.size := ⟨_, rfl⟩
          generalize wr.alloc (.cells #[.int .u16 (O i).P, .int .u64 (O i).V] 53) = v1 at hwb hwx ⊢
          have HS1 := Lib.hid (HSW.out.below hwb)
          rw [← hbx] at hwx hfr ⊢
          have HBX := Lib.hid hfr
          have x0 : v1.cell? ⟨bx, 0, none⟩ = some (.int .u16 (O i).P) := by simp [World.cell?, hwx]
          have x1 : v1.cell? ⟨bx, 1, none⟩ = some (.int .u64 (O i).V) := by simp [World.cell?, hwx]
          clear hwb hwx hfr hbx o0 o1
          obtain ⟨F1, F2, gf1, gf2, hpm, htl⟩ := HS1.out.mach
          have HNX := Lib.hid (getNext hpm (fun k hk => (HS1.out.sep k (gf1 k hk).1).1))
          have HNW := fun a (ha : ((Gm.new 8 Z bm).at T n).next = some a) => getStep hpm (fun k hk => (HS1.out.sep k (gf1 k hk).1).1) ha (nw := 40) HM2.out (by decide) (HIN.out T n)
          clear hpm htl gf1 gf2 F1 F2
          cases hnx : ((Gm.new 8 Z bm).at T n).next with
          | none =>
            rw [hnx] at HNX
            clear HNW hnx
            refine HNX.out.mono ?_
            rintro e v2 ⟨hb2, rfl⟩
            have HS2 := Lib.hid (HS1.out.below hb2)
            have hb3 := (Below.refl v2.heap.size v2).alloc (Nat.le_refl _) (.cells #[.int .i64 0, .int .i64 0, .int .i64 0, .int .u64 0, .int .u64 0, .slice none 0 0] 30)
            clear hb2
            go_wp2_with fail
            generalize v2.alloc (.cells #[.int .i64 0, .int .i64 0, .int .i64 0, .int .u64 0, .int .u64 0, .slice none 0 0] 30) = W at hb3 ⊢
            have HZ := Lib.hid (HS2.out.below hb3)
            clear hb3
            have hcvo : (convert 23 9 (.slice (some ⟨q, 0, none⟩) 320 320)).run Tryz.prog W.drew = .ok (.string (strOfNums (Mb.bl m 0 320))) W.drew := ((HZ.out.below (Below.refl W.heap.size W).drew).row.part 0 320 320 (by omega)).conv
            go_wp2_with fail
            refine wp_region_noPanic ?_
            refine wp_region_held_drew (S := fun w' => (convert 23 9 (.slice (some ⟨q, 0, none⟩) 320 320)).run Tryz.prog w' = .ok (.string (strOfNums (Mb.bl m 0 320))) w') (by kernel_rfl) ?_ (fun hHeld => ?_)
            · (try dsimp only); go_keep
            refine wpAnyH_take (i := 0) (oi := _) (v := ?_) rfl (by kernel_rfl) (by kernel_rfl) (by kernel_rfl) (fun _ _ _ h => h) (Or.inl ⟨by rfl, ?_⟩) (by assumption) ?_
            rotate_left
            · (intro w hSw; (try dsimp only at hSw); go_simp; try (with_reducible rfl))
            try simp only [Act.put, Array.reduceGetElem, List.setIfInBounds_toArray, List.set_cons_zero, List.set_cons_succ]
            refine wpAnyH_take (i := 1) (oi := _) (v := ?_) rfl (by kernel_rfl) (by kernel_rfl) (by kernel_rfl) (fun _ _ _ h => h) (Or.inl ⟨by rfl, ?_⟩) (by assumption) ?_
            rotate_left
            · (intro w hSw; (try dsimp only at hSw); go_simp; try (with_reducible rfl))
            try simp only [Act.put, Array.reduceGetElem, List.setIfInBounds_toArray, List.set_cons_zero, List.set_cons_succ]
            refine wpAnyH_take (i := 2) (oi := _) (v := ?_) rfl (by kernel_rfl) (by kernel_rfl) (by kernel_rfl) (fun _ _ _ h => h) (Or.inl ⟨by rfl, ?_⟩) (by assumption) ?_
            rotate_left
            · (intro w hSw; (try dsimp only at hSw); go_simp; try (with_reducible rfl))
            try simp only [Act.put, Array.reduceGetElem, List.setIfInBounds_toArray, List.set_cons_zero, List.set_cons_succ]
            refine wpAnyH_take (i := 3) (oi := _) (v := ?_) rfl (by kernel_rfl) (by kernel_rfl) (by kernel_rfl) (fun _ _ _ h => h) (Or.inl ⟨by rfl, ?_⟩) (by assumption) ?_
            rotate_left
            · (intro w hSw; (try dsimp only at hSw); go_simp; try (with_reducible rfl))
            try simp only [Act.put, Array.reduceGetElem, List.setIfInBounds_toArray, List.set_cons_zero, List.set_cons_succ]
            refine wpAnyH_take (i := 6) (oi := _) (v := ?_) rfl (by kernel_rfl) (by kernel_rfl) (by kernel_rfl) (fun _ _ _ h => h) (Or.inl ⟨by rfl, ?_⟩) (by assumption) ?_
            rotate_left
            · (intro w hSw; (try dsimp only at hSw); go_simp; try (with_reducible rfl))
            try simp only [Act.put, Array.reduceGetElem, List.setIfInBounds_toArray, List.set_cons_zero, List.set_cons_succ]
            refine wpAnyH_take (i := 7) (oi := _) (v := ?_) rfl (by kernel_rfl) (by kernel_rfl) (by kernel_rfl) (fun _ _ _ h => h) (Or.inl ⟨by rfl, ?_⟩) (by assumption) ?_
            rotate_left
            · (intro w hSw; (try dsimp only at hSw); go_simp; try (with_reducible rfl))
            try simp only [Act.put, Array.reduceGetElem, List.setIfInBounds_toArray, List.set_cons_zero, List.set_cons_succ]
            refine wpAnyH_ready (rs := [4]) (by kernel_rfl) (by simp) ?_
            refine AllReadyH.cons (o := _) rfl (fun K9 hK => ?_) ?_
            rotate_left
            · exact AllReadyH.nil
            go_simp
            go_at_call 18
            refine (allBytes_any (HZ.out.buf.below (Below.refl _ _).drew)).mono ?_
            rintro e w40 ⟨v40, rfl, hby40, hb40⟩
            have hconv40 : (convert 23 9 v40).run Tryz.prog w40 = .ok (.string (strOfNums (Mb.bl m 0 320))) w40 := hby40.conv
            have hb41 := below_drew hb40
            have kc : (convert 23 9 (.slice (some ⟨q, 0, none⟩) 320 320)).run Tryz.prog w40 = .ok (.string (strOfNums (Mb.bl m 0 320))) w40 := (((HZ.out.below hb41).row).part 0 320 320 (by omega)).conv
            have HB41 := Lib.hid hb41
            clear hb40 hb41 hby40 hcvo
            refine hK.out _ _ ?_ (fun hHeld => ?_)
            · (try dsimp only); go_keep
            clear hK K9
            try simp only [Act.put, Array.reduceGetElem, List.setIfInBounds_toArray, List.set_cons_zero, List.set_cons_succ]
            refine wpAnyH_ready (rs := [5]) (by kernel_rfl) (by simp) ?_
            refine AllReadyH.cons (o := _) rfl (fun K9 hK => ?_) ?_
            rotate_left
            · exact AllReadyH.nil
            go_simp
            refine hK.out _ _ ?_ (fun hHeld => ?_)
            · (try dsimp only); go_keep
            clear hK K9
            try simp only [Act.put, Array.reduceGetElem, List.setIfInBounds_toArray, List.set_cons_zero, List.set_cons_succ]
            refine wpAnyH_take (i := 8) (oi := _) (v := ?_) rfl (by kernel_rfl) (by kernel_rfl) (by kernel_rfl) (fun _ _ _ h => h) (Or.inl ⟨by rfl, ?_⟩) (by assumption) ?_
            rotate_left
            · (intro w hSw; (try dsimp only at hSw); go_simp; try (with_reducible rfl))
            try simp only [Act.put, Array.reduceGetElem, List.setIfInBounds_toArray, List.set_cons_zero, List.set_cons_succ]
            refine wpAnyH_take (i := 9) (oi := _) (v := ?_) rfl (by kernel_rfl) (by kernel_rfl) (by kernel_rfl) (fun _ _ _ h => h) (Or.inl ⟨by rfl, ?_⟩) (by assumption) ?_
            rotate_left
            · (intro w hSw; (try dsimp only at hSw); go_simp; try (with_reducible rfl))
            try simp only [Act.put, Array.reduceGetElem, List.setIfInBounds_toArray, List.set_cons_zero, List.set_cons_succ]
            refine wpAnyH_take (i := 10) (oi := _) (v := ?_) rfl (by kernel_rfl) (by kernel_rfl) (by kernel_rfl) (fun _ _ _ h => h) (Or.inl ⟨by rfl, ?_⟩) (by assumption) ?_
            rotate_left
            · (intro w hSw; (try dsimp only at hSw); go_simp; try (with_reducible rfl))
            try simp only [Act.put, Array.reduceGetElem, List.setIfInBounds_toArray, List.set_cons_zero, List.set_cons_succ]
            refine wpAnyH_done (by kernel_rfl) ?_ _
            refine NoPanic.normal ?_
            go_wp2
            go_ret
            exact ⟨by simp, HZ.out.low.trans (HB41.out.mono HZ.out.low.size)⟩
          | some a =>
            obtain ⟨K, P, N, V, U, Lb, fb, er, vv, dd, m2, nb, fa, hvb1, hm2, hfa, hnb, hcall⟩ := HNW a hnx
            have HFA := Lib.hid (And.intro hfa hnb)
            have HM3 := Lib.hid hm2
            have HVB := Lib.hid hvb1
            clear HNX HNW hnx hm2 hfa hnb
            refine hcall.mono ?_
            rintro e v2 ⟨Aa, ca, rfl, ho2, hb2, hDO, hRF⟩
            have hb3 := hb2.alloc hb2.size (.cells #[.int .i64 K, .int .i64 P, .int .i64 N, .int .u64 V, .int .u64 U, .slice Aa Lb ca] 30)
            have hbo := (Below.refl v2.heap.size v2).alloc (Nat.le_refl _) (.cells #[.int .i64 K, .int .i64 P, .int .i64 N, .int .u64 V, .int .u64 U, .slice Aa Lb ca] 30)
            have hax := Go.Deep.blk_alloc_new v2 (.cells #[.int .i64 K, .int .i64 P, .int .i64 N, .int .u64 V, .int .u64 U, .slice Aa Lb ca] 30)
            have hfr := HS1.out.fresh hb2.size
            have HDO := Lib.hid hDO
            have HRF := Lib.hid hRF
            clear hDO hRF hcall
            go_upto_region 20 with (fail)
            generalize v2.alloc (.cells #[.int .i64 K, .int .i64 P, .int .i64 N, .int .u64 V, .int .u64 U, .slice Aa Lb ca] 30) = v3 at hb3 hbo hax ⊢
            obtain ⟨ab, hab⟩ : ∃ ab, ab = v2.heap.size := ⟨_, rfl⟩
            rw [← hab] at hax hfr ⊢
            have HAB := Lib.hid hfr
            have HO3 := Lib.hid (ho2.below hbo)
            have HS3 := Lib.hid (HS1.out.below hb3)
            have HGE := Lib.hid (And.intro HS1.out.buf.g_lt (And.intro HS1.out.buf.h_lt HS1.out.row.lt))
            have y0 := (hb3.cell (p := ⟨bx, 0, none⟩) (lt_of_cell x0)).trans x0
            have y1 := (hb3.cell (p := ⟨bx, 1, none⟩) (lt_of_cell x1)).trans x1
            have d0 : v3.cell? ⟨ab, 0, none⟩ = some (.int .i64 K) := by simp [World.cell?, hax]
            have d1 : v3.cell? ⟨ab, 1, none⟩ = some (.int .i64 P) := by simp [World.cell?, hax]
            have d2 : v3.cell? ⟨ab, 2, none⟩ = some (.int .i64 N) := by simp [World.cell?, hax]
            have d3 : v3.cell? ⟨ab, 3, none⟩ = some (.int .u64 V) := by simp [World.cell?, hax]
            have d4 : v3.cell? ⟨ab, 4, none⟩ = some (.int .u64 U) := by simp [World.cell?, hax]
            have d5 : v3.cell? ⟨ab, 5, none⟩ = some (.slice Aa Lb ca) := by simp [World.cell?, hax]
            clear x0 x1 hb2 hb3 hbo hax hfr hab ho2
            go_wp2_with fail
            refine (HDO.out v3 gb hb c HS3.out.buf HO3.out.bytes).mono ?_
            rintro e v4 ⟨Ax, cx, c4, rfl, hxi, hB4, ht4⟩
            have HXI4 := Lib.hid hxi
            have HQ3 := Lib.hid HS3.out.row.lt
            clear hxi
            have HO4 := Lib.hid (HO3.out.of_block fun k hk => ht4.block k (HO3.out.ge hk).2 fun e => by
              have h1 := (HO3.out.ge hk).1
              have h2 := HGE.out
              rcases e with e | e <;> omega)
            have HS4 := Lib.hid (HS3.out.bufTo hB4 ht4)
            have hb5 := (Below.refl v4.heap.size v4).alloc (Nat.le_refl _) (.cells #[.int .u64 vv, .bool dd, .slice Ax nb cx] 25)
            have hx5 := Go.Deep.blk_alloc_new v4 (.cells #[.int .u64 vv, .bool dd, .slice Ax nb cx] 25)
            have hfr := HS4.out.fresh (Nat.le_refl _)
            have p0 := (ht4.cell (p := ⟨bx, 0, none⟩) (lt_of_cell y0) HBX.out.1).trans y0
            have p1 := (ht4.cell (p := ⟨bx, 1, none⟩) (lt_of_cell y1) HBX.out.1).trans y1
            have e0 := (ht4.cell (p := ⟨ab, 0, none⟩) (lt_of_cell d0) HAB.out.1).trans d0
            have e1 := (ht4.cell (p := ⟨ab, 1, none⟩) (lt_of_cell d1) HAB.out.1).trans d1
            have e2 := (ht4.cell (p := ⟨ab, 2, none⟩) (lt_of_cell d2) HAB.out.1).trans d2
            have e3 := (ht4.cell (p := ⟨ab, 3, none⟩) (lt_of_cell d3) HAB.out.1).trans d3
            have e4 := (ht4.cell (p := ⟨ab, 4, none⟩) (lt_of_cell d4) HAB.out.1).trans d4
            have e5 := (ht4.cell (p := ⟨ab, 5, none⟩) (lt_of_cell d5) HAB.out.1).trans d5
            clear y0 y1 d0 d1 d2 d3 d4 d5 hB4 ht4 HDO HO3
            go_upto_region 21 with (fail)
            generalize v4.alloc (.cells #[.int .u64 vv, .bool dd, .slice Ax nb cx] 25) = v5 at hb5 hx5 ⊢
            obtain ⟨xb, hxbq⟩ : ∃ xb, xb = v4.heap.size := ⟨_, rfl⟩
            rw [← hxbq] at hx5 hfr ⊢
            have HXB := Lib.hid hfr
            have HS5 := Lib.hid (HS4.out.below hb5)
            have HO5 := Lib.hid (HO4.out.below hb5)
            have HXI5 := Lib.hid (HXI4.out.below hb5)
            have y0 := (hb5.cell (p := ⟨bx, 0, none⟩) (lt_of_cell p0)).trans p0
            have y1 := (hb5.cell (p := ⟨bx, 1, none⟩) (lt_of_cell p1)).trans p1
            have d0 := (hb5.cell (p := ⟨ab, 0, none⟩) (lt_of_cell e0)).trans e0
            have d1 := (hb5.cell (p := ⟨ab, 1, none⟩) (lt_of_cell e1)).trans e1
            have d2 := (hb5.cell (p := ⟨ab, 2, none⟩) (lt_of_cell e2)).trans e2
            have d3 := (hb5.cell (p := ⟨ab, 3, none⟩) (lt_of_cell e3)).trans e3
            have d4 := (hb5.cell (p := ⟨ab, 4, none⟩) (lt_of_cell e4)).trans e4
            have d5 := (hb5.cell (p := ⟨ab, 5, none⟩) (lt_of_cell e5)).trans e5
            have z0 : v5.cell? ⟨xb, 0, none⟩ = some (.int .u64 vv) := by simp [World.cell?, hx5]
            have z1 : v5.cell? ⟨xb, 1, none⟩ = some (.bool dd) := by simp [World.cell?, hx5]
            have z2 : v5.cell? ⟨xb, 2, none⟩ = some (.slice Ax nb cx) := by simp [World.cell?, hx5]
            clear p0 p1 e0 e1 e2 e3 e4 e5 hb5 hx5 hfr hxbq HS4 HO4
            go_wp2_with fail
            refine (HRF.out v5 q HS5.out.row HO5.out.bytes).mono ?_
            rintro e v6 ⟨Ay, cy, rfl, hoy, hr6, ht6⟩
            obtain ⟨hny, hy1, hy2⟩ := owns_room hoy
            have hs56 := ht6.size
            have HS6a := Lib.hid (HS5.out.rowTo hr6 ht6)
            obtain ⟨T2, hT2⟩ : ∃ T2, T2 = Ans.add T n ⟨vv, dd, Ay, nb, cy, fa⟩ := ⟨_, rfl⟩
            have hS6 := HS5.out.answer HS6a.out (y := ⟨vv, dd, Ay, nb, cy, fa⟩) HVB.out HFA.out.1 hy1 hy2 (by show (Mb.bl fa 0 nb).length ≤ 8; rw [Mb.bl_length]; exact HFA.out.2) (BytesIn.of_own hoy)
            rw [← hT2] at hS6
            obtain ⟨G, hG⟩ : ∃ G : Nat → Prop, G = (fun k => F k ∨ (v5.heap.size ≤ k ∧ k < v6.heap.size)) := ⟨_, rfl⟩
            rw [← hG] at hS6
            have HG : Hid (∀ k, k < v5.heap.size → ¬ F k → ¬ G k) := Lib.hid fun k hk hn e => by rw [hG] at e; rcases e with e | e; exact hn e; omega
            have HS6 := Lib.hid hS6
            have HTT := Lib.hid hT2
            have HXI6 := Lib.hid (HXI5.out.touch ht6 fun k hk e => by have e : k = q := e; have := HQ3.out; omega)
            have HOY := Lib.hid hoy.bytes
            have hbxl : bx < v5.heap.size := lt_of_cell y0
            have hxbl : xb < v5.heap.size := lt_of_cell z0
            have HBXG : Hid (¬ G bx) := Lib.hid (HG.out bx hbxl HBX.out.2.2.1)
            clear hS6 hG hT2 hoy hny HS6a hbxl hxbl
            have hb7 := (Below.refl v6.heap.size v6).alloc (Nat.le_refl _) (.cells #[.int .u64 vv, .bool dd, .slice Ay nb cy] 25)
            have hx7 := Go.Deep.blk_alloc_new v6 (.cells #[.int .u64 vv, .bool dd, .slice Ay nb cy] 25)
            have hfr := HS6.out.fresh (Nat.le_refl _)
            have p0 := (ht6.cell (p := ⟨bx, 0, none⟩) (lt_of_cell y0) HBX.out.2.1).trans y0
            have p1 := (ht6.cell (p := ⟨bx, 1, none⟩) (lt_of_cell y1) HBX.out.2.1).trans y1
            have e0 := (ht6.cell (p := ⟨xb, 0, none⟩) (lt_of_cell z0) HXB.out.2.1).trans z0
            have e1 := (ht6.cell (p := ⟨xb, 1, none⟩) (lt_of_cell z1) HXB.out.2.1).trans z1
            have e2 := (ht6.cell (p := ⟨xb, 2, none⟩) (lt_of_cell z2) HXB.out.2.1).trans z2
            clear y0 y1 d0 d1 d2 d3 d4 d5 z0 z1 z2 hr6 ht6 HRF HO5
            go_upto_region 22 with (fail)
            generalize v6.alloc (.cells #[.int .u64 vv, .bool dd, .slice Ay nb cy] 25) = v7 at hb7 hx7 ⊢
            obtain ⟨yb, hyb⟩ : ∃ yb, yb = v6.heap.size := ⟨_, rfl⟩
            rw [← hyb] at hx7 hfr ⊢
            have HYB := Lib.hid hfr
            have HS7 := Lib.hid (HS6.out.below hb7)
            have HX7 := Lib.hid (HXI6.out.below hb7)
            have HY7 := Lib.hid (HOY.out.below hb7)
            have y0 := (hb7.cell (p := ⟨bx, 0, none⟩) (lt_of_cell p0)).trans p0
            have y1 := (hb7.cell (p := ⟨bx, 1, none⟩) (lt_of_cell p1)).trans p1
            have z0 := (hb7.cell (p := ⟨xb, 0, none⟩) (lt_of_cell e0)).trans e0
            have z1 := (hb7.cell (p := ⟨xb, 1, none⟩) (lt_of_cell e1)).trans e1
            have z2 := (hb7.cell (p := ⟨xb, 2, none⟩) (lt_of_cell e2)).trans e2
            have d0 : v7.cell? ⟨yb, 0, none⟩ = some (.int .u64 vv) := by simp [World.cell?, hx7]
            have d1 : v7.cell? ⟨yb, 1, none⟩ = some (.bool dd) := by simp [World.cell?, hx7]
            have d2 : v7.cell? ⟨yb, 2, none⟩ = some (.slice Ay nb cy) := by simp [World.cell?, hx7]
            clear p0 p1 e0 e1 e2 hb7 hx7 hfr hyb HS6 HS5 HXI6 HXI5 HXI4 HOY
            go_wp2_with fail
            refine (same_ans2 vv dd Ax Ay nb nb cx cy (Mb.bl fa 0 nb) v7 HX7.out.bytes HY7.out).mono ?_
            rintro e v8 ⟨rfl, hb8⟩
            have HS8 := Lib.hid (HS7.out.below hb8)
            have HX8 := Lib.hid (HX7.out.below hb8)
            have hs78 := hb8.size
            have p0 := (hb8.cell (p := ⟨bx, 0, none⟩) (lt_of_cell y0)).trans y0
            have p1 := (hb8.cell (p := ⟨bx, 1, none⟩) (lt_of_cell y1)).trans y1
            have e0 := (hb8.cell (p := ⟨xb, 0, none⟩) (lt_of_cell z0)).trans z0
            have e1 := (hb8.cell (p := ⟨xb, 1, none⟩) (lt_of_cell z1)).trans z1
            have e2 := (hb8.cell (p := ⟨xb, 2, none⟩) (lt_of_cell z2)).trans z2
            have s0 := (hb8.cell (p := ⟨yb, 0, none⟩) (lt_of_cell d0)).trans d0
            have s1 := (hb8.cell (p := ⟨yb, 1, none⟩) (lt_of_cell d1)).trans d1
            have s2 := (hb8.cell (p := ⟨yb, 2, none⟩) (lt_of_cell d2)).trans d2
            clear y0 y1 z0 z1 z2 d0 d1 d2 hb8 HS7 HX7 HY7
            by_cases her : er = 0
            rotate_left
            · have hne : (er != 0) = true := by simpa using her
              go_wp2_with fail
              obtain ⟨W, hW⟩ : ∃ W, W = v8 := ⟨_, rfl⟩
              rw [← hW] at HS8 ⊢
              clear hW p0 p1 e0 e1 e2 s0 s1 s2
              have HZ := HS8
              have hcvo : (convert 23 9 (.slice (some ⟨q, 0, none⟩) 320 320)).run Tryz.prog W.drew = .ok (.string (strOfNums (Mb.bl m2 0 320))) W.drew := ((HZ.out.below (Below.refl W.heap.size W).drew).row.part 0 320 320 (by omega)).conv
              go_wp2_with fail
              refine wp_region_noPanic ?_
              refine wp_region_held_drew (S := fun w' => (convert 23 9 (.slice (some ⟨q, 0, none⟩) 320 320)).run Tryz.prog w' = .ok (.string (strOfNums (Mb.bl m2 0 320))) w') (by kernel_rfl) ?_ (fun hHeld => ?_)
              · (try dsimp only); go_keep
              refine wpAnyH_take (i := 0) (oi := _) (v := ?_) rfl (by kernel_rfl) (by kernel_rfl) (by kernel_rfl) (fun _ _ _ h => h) (Or.inl ⟨by rfl, ?_⟩) (by assumption) ?_
              rotate_left
              · (intro w hSw; (try dsimp only at hSw); go_simp; try (with_reducible rfl))
              try simp only [Act.put, Array.reduceGetElem, List.setIfInBounds_toArray, List.set_cons_zero, List.set_cons_succ]
              refine wpAnyH_take (i := 1) (oi := _) (v := ?_) rfl (by kernel_rfl) (by kernel_rfl) (by kernel_rfl) (fun _ _ _ h => h) (Or.inl ⟨by rfl, ?_⟩) (by assumption) ?_
              rotate_left
              · (intro w hSw; (try dsimp only at hSw); go_simp; try (with_reducible rfl))
              try simp only [Act.put, Array.reduceGetElem, List.setIfInBounds_toArray, List.set_cons_zero, List.set_cons_succ]
              refine wpAnyH_take (i := 2) (oi := _) (v := ?_) rfl (by kernel_rfl) (by kernel_rfl) (by kernel_rfl) (fun _ _ _ h => h) (Or.inl ⟨by rfl, ?_⟩) (by assumption) ?_
              rotate_left
              · (intro w hSw; (try dsimp only at hSw); go_simp; try (with_reducible rfl))
              try simp only [Act.put, Array.reduceGetElem, List.setIfInBounds_toArray, List.set_cons_zero, List.set_cons_succ]
              refine wpAnyH_take (i := 3) (oi := _) (v := ?_) rfl (by kernel_rfl) (by kernel_rfl) (by kernel_rfl) (fun _ _ _ h => h) (Or.inl ⟨by rfl, ?_⟩) (by assumption) ?_
              rotate_left
              · (intro w hSw; (try dsimp only at hSw); go_simp; try (with_reducible rfl))
              try simp only [Act.put, Array.reduceGetElem, List.setIfInBounds_toArray, List.set_cons_zero, List.set_cons_succ]
              refine wpAnyH_take (i := 6) (oi := _) (v := ?_) rfl (by kernel_rfl) (by kernel_rfl) (by kernel_rfl) (fun _ _ _ h => h) (Or.inl ⟨by rfl, ?_⟩) (by assumption) ?_
              rotate_left
              · (intro w hSw; (try dsimp only at hSw); go_simp; try (with_reducible rfl))
              try simp only [Act.put, Array.reduceGetElem, List.setIfInBounds_toArray, List.set_cons_zero, List.set_cons_succ]
              refine wpAnyH_take (i := 7) (oi := _) (v := ?_) rfl (by kernel_rfl) (by kernel_rfl) (by kernel_rfl) (fun _ _ _ h => h) (Or.inl ⟨by rfl, ?_⟩) (by assumption) ?_
              rotate_left
              · (intro w hSw; (try dsimp only at hSw); go_simp; try (with_reducible rfl))
              try simp only [Act.put, Array.reduceGetElem, List.setIfInBounds_toArray, List.set_cons_zero, List.set_cons_succ]
              refine wpAnyH_ready (rs := [4]) (by kernel_rfl) (by simp) ?_
              refine AllReadyH.cons (o := _) rfl (fun K9 hK => ?_) ?_
              rotate_left
              · exact AllReadyH.nil
              go_simp
              go_at_call 18
              refine (allBytes_any (HZ.out.buf.below (Below.refl _ _).drew)).mono ?_
              rintro e w40 ⟨v40, rfl, hby40, hb40⟩
              have hconv40 : (convert 23 9 v40).run Tryz.prog w40 = .ok (.string (strOfNums (Mb.bl m2 0 320))) w40 := hby40.conv
              have hb41 := below_drew hb40
              have kc : (convert 23 9 (.slice (some ⟨q, 0, none⟩) 320 320)).run Tryz.prog w40 = .ok (.string (strOfNums (Mb.bl m2 0 320))) w40 := (((HZ.out.below hb41).row).part 0 320 320 (by omega)).conv
              have HB41 := Lib.hid hb41
              clear hb40 hb41 hby40 hcvo
              refine hK.out _ _ ?_ (fun hHeld => ?_)
              · (try dsimp only); go_keep
              clear hK K9
              try simp only [Act.put, Array.reduceGetElem, List.setIfInBounds_toArray, List.set_cons_zero, List.set_cons_succ]
              refine wpAnyH_ready (rs := [5]) (by kernel_rfl) (by simp) ?_
              refine AllReadyH.cons (o := _) rfl (fun K9 hK => ?_) ?_
              rotate_left
              · exact AllReadyH.nil
              go_simp
              refine hK.out _ _ ?_ (fun hHeld => ?_)
              · (try dsimp only); go_keep
              clear hK K9
              try simp only [Act.put, Array.reduceGetElem, List.setIfInBounds_toArray, List.set_cons_zero, List.set_cons_succ]
              refine wpAnyH_take (i := 8) (oi := _) (v := ?_) rfl (by kernel_rfl) (by kernel_rfl) (by kernel_rfl) (fun _ _ _ h => h) (Or.inl ⟨by rfl, ?_⟩) (by assumption) ?_
              rotate_left
              · (intro w hSw; (try dsimp only at hSw); go_simp; try (with_reducible rfl))
              try simp only [Act.put, Array.reduceGetElem, List.setIfInBounds_toArray, List.set_cons_zero, List.set_cons_succ]
              refine wpAnyH_take (i := 9) (oi := _) (v := ?_) rfl (by kernel_rfl) (by kernel_rfl) (by kernel_rfl) (fun _ _ _ h => h) (Or.inl ⟨by rfl, ?_⟩) (by assumption) ?_
              rotate_left
              · (intro w hSw; (try dsimp only at hSw); go_simp; try (with_reducible rfl))
              try simp only [Act.put, Array.reduceGetElem, List.setIfInBounds_toArray, List.set_cons_zero, List.set_cons_succ]
              refine wpAnyH_take (i := 10) (oi := _) (v := ?_) rfl (by kernel_rfl) (by kernel_rfl) (by kernel_rfl) (fun _ _ _ h => h) (Or.inl ⟨by rfl, ?_⟩) (by assumption) ?_
              rotate_left
              · (intro w hSw; (try dsimp only at hSw); go_simp; try (with_reducible rfl))
              try simp only [Act.put, Array.reduceGetElem, List.setIfInBounds_toArray, List.set_cons_zero, List.set_cons_succ]
              refine wpAnyH_done (by kernel_rfl) ?_ _
              refine NoPanic.normal ?_
              go_wp2
              go_ret
              exact ⟨by simp, HZ.out.low.trans (HB41.out.mono HZ.out.low.size)⟩
            subst her
            obtain ⟨F1, F2, gf1, gf2, hpm, htl⟩ := HS8.out.mach
            have HTL := Lib.hid (And.intro gf1 (And.intro gf2 htl))
            have hfit : ((Gm.new 8 Z bm).at T n).Fits (Mb.bl fa 0 nb).length := by
              have hT : ∀ j, j < n → (T j).bs.length ≤ 8 := fun j hj => by
                have := (htl j (by omega)).2.2.2.2.1
                rw [HTT.out, Ans.add_old T n _ hj] at this
                exact this
              exact Gm.Few.fits (Gm.at_few (Gm.new_few 8 Z bm) n hT) (by rw [Mb.bl_length]; have := HFA.out.2; omega)
            have HTK := Lib.hid (getTake hpm (fun k hk => (HS8.out.sep k (gf1 k hk).1).1) ⟨vv, dd, Mb.bl fa 0 nb⟩ Ax nb cx HX8.out.bytes hfit)
            clear hpm htl gf1 gf2 hfit
            go_wp2_with fail
            refine HTK.out.mono ?_
            rintro e v9 ⟨rfl, F9, hp9, ht9, hF9⟩
            have HS9 := Lib.hid (HS8.out.took HTL.out.1 HTL.out.2.1 HTL.out.2.2 hp9 ht9 hF9)
            have hbg : ¬ F1 bx := fun e => HBXG.out (HTL.out.1 bx e).1
            have hyg : ¬ F1 yb := fun e => HYB.out.2.2.1 (HTL.out.1 yb e).1
            have y0 := (ht9.cell (p := ⟨bx, 0, none⟩) (lt_of_cell p0) hbg).trans p0
            have y1 := (ht9.cell (p := ⟨bx, 1, none⟩) (lt_of_cell p1) hbg).trans p1
            have d0 := (ht9.cell (p := ⟨yb, 0, none⟩) (lt_of_cell s0) hyg).trans s0
            have d1 := (ht9.cell (p := ⟨yb, 1, none⟩) (lt_of_cell s1) hyg).trans s1
            have d2 := (ht9.cell (p := ⟨yb, 2, none⟩) (lt_of_cell s2) hyg).trans s2
            clear p0 p1 e0 e1 e2 s0 s1 s2 hp9 ht9 hF9 HTK hbg hyg HS8 HX8 HTL HBXG
            have hb10 := (Below.refl v9.heap.size v9).alloc (Nat.le_refl _) (.cells #[.int .u64 vv, .bool dd, .slice Ay nb cy] 25)
            have HS10 := Lib.hid (HS9.out.below hb10)
            have hx10 := Lib.hid (Go.Deep.blk_alloc_new v9 (.cells #[.int .u64 vv, .bool dd, .slice Ay nb cy] 25))
            have hbase : w8.heap.size ≤ (v9.alloc (.cells #[.int .u64 vv, .bool dd, .slice Ay nb cy] 25)).heap.size := HS10.out.fix.2.2.2.2.2.2.2.2
            have hn150 : n ≤ 1000000 := by omega
            have p0 := (hb10.cell (p := ⟨bx, 0, none⟩) (lt_of_cell y0)).trans y0
            have p1 := (hb10.cell (p := ⟨bx, 1, none⟩) (lt_of_cell y1)).trans y1
            go_upto_region 27 with (at_builtin; refine wpList_app_more rfl _ _ rfl w8.heap.size n _ (Ans.row T n) ⟨vv, dd, Ay, nb, cy, fa⟩ v9.heap.size 1 rfl rfl HS10.out.tell hx10.out hn150 hbase ?_; intro gr cr v11 ho hgr hl hc1 hcb)
            have hrw := Ans.add_row T n ⟨vv, dd, Ay, nb, cy, fa⟩
            have HS11a := HS10.out.tellTo (T' := Ans.add T n ⟨vv, dd, Ay, nb, cy, fa⟩) (vT' := .slice (some ⟨gr, 0, none⟩) (n + 1) cr) (n' := n + 1) (by rw [hrw]; exact ho) hgr hl
            have y0 := (hgr.cell_far ⟨bx, 0, none⟩ (lt_of_cell p0) (fun e => HBX.out.2.2.2 e.symm)).trans p0
            have y1 := (hgr.cell_far ⟨bx, 1, none⟩ (lt_of_cell p1) (fun e => HBX.out.2.2.2 e.symm)).trans p1
            have hold : ∀ j, j < n → T j = Ans.add T n ⟨vv, dd, Ay, nb, cy, fa⟩ j := fun j hj => (Ans.add_old T n _ hj).symm
            have hnew : Ans.add T n ⟨vv, dd, Ay, nb, cy, fa⟩ n = ⟨vv, dd, Ay, nb, cy, fa⟩ := Ans.add_at T n _
            rw [← HTT.out] at HS11a hold hnew
            have hat : (Gm.new 8 Z bm).at T2 (n + 1) = ((Gm.new 8 Z bm).at T n).take ⟨vv, dd, Mb.bl fa 0 nb⟩ := by
              show ((Gm.new 8 Z bm).at T2 n).take (T2 n).an = _
              rw [← Gm.at_congr hold, hnew]
              rfl
            rw [← hat] at HS11a
            have HS11 := Lib.hid HS11a
            obtain ⟨F1, F2, gf1, gf2, hpm, htl⟩ := HS11.out.mach
            have HTO := Lib.hid (HS11.out.told htl.is rfl)
            have HSA := Lib.hid (same8_any 8 Z bm (by decide) (by have := HZ1.out; omega) (by omega) cr (n + 1) (some ⟨gr, 0, none⟩) hc1 hcb T2 v11 HTO.out (by omega) (fun j hj => Nat.le_trans (htl j hj).2.2.2.2.1 (by decide)) hpm (fun k hk => (HS11.out.sep k (gf1 k hk).1).1))
            have r0 := HS11.out.r0
            have r1 := HS11.out.r1
            clear p0 p1 d0 d1 d2 hb10 hbase ho hgr hl HS11a hrw hold hnew hat hpm htl gf1 gf2 HS10 HS9 HTO hx10 HTT
            go_wp2_with fail
            refine HSA.out.mono ?_
            rintro e v12 ⟨rfl, hb12⟩
            have HS12 := Lib.hid (HS11.out.below hb12)
            have p0 := (hb12.cell (p := ⟨bx, 0, none⟩) (lt_of_cell y0)).trans y0
            have p1 := (hb12.cell (p := ⟨bx, 1, none⟩) (lt_of_cell y1)).trans y1
            clear y0 y1 r0 r1 hb12 HS11 HSA
            go_upto_region 30 with (fail)
            obtain ⟨k, hk⟩ : ∃ k, k = 8 * ((O i).P % 200) := ⟨_, rfl⟩
            have hkq : (8 : Int) * (((O i).P : Int) % 200) = (k : Int) := by omega
            simp only [hkq]
            have hk8 : k % 8 = 0 := by omega
            obtain ⟨ov, hov⟩ : ∃ ov, ov = (O i).V := ⟨_, rfl⟩
            rw [← hov] at p1 ho3
            clear hk hkq hov p0
            by_cases hk3 : k < 320
            · have hg8 : (k : Int) < 320 := by omega
              have HDO2 := Lib.hid (bufWord HS12.out.buf 2 k 8 ov 0 none 0 (by decide) (.inr rfl) (.inr rfl) ho3 hk8 (by omega))
              have HRF2 := Lib.hid (fun (W : World) (hr : PlainAt W q (8 * 40) m2) => refWord hr HM3.out 2 k 8 ov 0 none 0 0 (.inr rfl) (.inr rfl) ho3 hk8 (by omega) (by omega))
              have HM4 := Lib.hid (shM_isB HM3.out 2 k 8 ov)
              clear hk8
              go_wp2_with fail
              refine HDO2.out.mono ?_
              rintro e v13 ⟨Ay, cy, rfl, _, hB13, ht13⟩
              have HS13 := Lib.hid (HS12.out.bufTo hB13 ht13)
              have y1 := (ht13.cell (p := ⟨bx, 1, none⟩) (lt_of_cell p1) HBX.out.1).trans p1
              clear p1 hB13 ht13 HDO2 HS12
              go_wp2_with fail
              refine (HRF2.out v13 HS13.out.row).mono ?_
              rintro e v14 ⟨rfl, hr14, ht14⟩
              have HS14 := Lib.hid (HS13.out.rowTo hr14 ht14)
              clear y1 hr14 ht14 HRF2 HS13
              go_wp2
              go_roundw
              case rel => exact ⟨i + 1, n + 1, _, T2, _, _, by go_num, by omega, by omega, HS14.out, HM4.out⟩
              case measure => simp [intOf]; omega
            · have hg8 : ¬ (k : Int) < 320 := by omega
              clear hk8 p1
              go_wp2
              go_roundw
              case rel => exact ⟨i + 1, n + 1, _, T2, _, _, by go_num, by omega, by omega, HS12.out, HM3.out⟩
              case measure => simp [intOf]; omega
        · have hge : (M : Int) ≤ i := by omega
          go_wp2_with fail
          obtain ⟨W, hW⟩ : ∃ W, W = wr := ⟨_, rfl⟩
          rw [← hW] at HSW ⊢
          clear hW
          have HZ := HSW
          have hcvo : (convert 23 9 (.slice (some ⟨q, 0, none⟩) 320 320)).run Tryz.prog W.drew = .ok (.string (strOfNums (Mb.bl m 0 320))) W.drew := ((HZ.out.below (Below.refl W.heap.size W).drew).row.part 0 320 320 (by omega)).conv
          go_wp2_with fail
          refine wp_region_noPanic ?_
          refine wp_region_held_drew (S := fun w' => (convert 23 9 (.slice (some ⟨q, 0, none⟩) 320 320)).run Tryz.prog w' = .ok (.string (strOfNums (Mb.bl m 0 320))) w') (by kernel_rfl) ?_ (fun hHeld => ?_)
          · (try dsimp only); go_keep
          refine wpAnyH_take (i := 0) (oi := _) (v := ?_) rfl (by kernel_rfl) (by kernel_rfl) (by kernel_rfl) (fun _ _ _ h => h) (Or.inl ⟨by rfl, ?_⟩) (by assumption) ?_
          rotate_left
          · (intro w hSw; (try dsimp only at hSw); go_simp; try (with_reducible rfl))
          try simp only [Act.put, Array.reduceGetElem, List.setIfInBounds_toArray, List.set_cons_zero, List.set_cons_succ]
          refine wpAnyH_take (i := 1) (oi := _) (v := ?_) rfl (by kernel_rfl) (by kernel_rfl) (by kernel_rfl) (fun _ _ _ h => h) (Or.inl ⟨by rfl, ?_⟩) (by assumption) ?_
          rotate_left
          · (intro w hSw; (try dsimp only at hSw); go_simp; try (with_reducible rfl))
          try simp only [Act.put, Array.reduceGetElem, List.setIfInBounds_toArray, List.set_cons_zero, List.set_cons_succ]
          refine wpAnyH_take (i := 2) (oi := _) (v := ?_) rfl (by kernel_rfl) (by kernel_rfl) (by kernel_rfl) (fun _ _ _ h => h) (Or.inl ⟨by rfl, ?_⟩) (by assumption) ?_
          rotate_left
          · (intro w hSw; (try dsimp only at hSw); go_simp; try (with_reducible rfl))
          try simp only [Act.put, Array.reduceGetElem, List.setIfInBounds_toArray, List.set_cons_zero, List.set_cons_succ]
          refine wpAnyH_take (i := 3) (oi := _) (v := ?_) rfl (by kernel_rfl) (by kernel_rfl) (by kernel_rfl) (fun _ _ _ h => h) (Or.inl ⟨by rfl, ?_⟩) (by assumption) ?_
          rotate_left
          · (intro w hSw; (try dsimp only at hSw); go_simp; try (with_reducible rfl))
          try simp only [Act.put, Array.reduceGetElem, List.setIfInBounds_toArray, List.set_cons_zero, List.set_cons_succ]
          refine wpAnyH_take (i := 6) (oi := _) (v := ?_) rfl (by kernel_rfl) (by kernel_rfl) (by kernel_rfl) (fun _ _ _ h => h) (Or.inl ⟨by rfl, ?_⟩) (by assumption) ?_
          rotate_left
          · (intro w hSw; (try dsimp only at hSw); go_simp; try (with_reducible rfl))
          try simp only [Act.put, Array.reduceGetElem, List.setIfInBounds_toArray, List.set_cons_zero, List.set_cons_succ]
          refine wpAnyH_take (i := 7) (oi := _) (v := ?_) rfl (by kernel_rfl) (by kernel_rfl) (by kernel_rfl) (fun _ _ _ h => h) (Or.inl ⟨by rfl, ?_⟩) (by assumption) ?_
          rotate_left
          · (intro w hSw; (try dsimp only at hSw); go_simp; try (with_reducible rfl))
          try simp only [Act.put, Array.reduceGetElem, List.setIfInBounds_toArray, List.set_cons_zero, List.set_cons_succ]
          refine wpAnyH_ready (rs := [4]) (by kernel_rfl) (by simp) ?_
          refine AllReadyH.cons (o := _) rfl (fun K9 hK => ?_) ?_
          rotate_left
          · exact AllReadyH.nil
          go_simp
          go_at_call 18
          refine (allBytes_any (HZ.out.buf.below (Below.refl _ _).drew)).mono ?_
          rintro e w40 ⟨v40, rfl, hby40, hb40⟩
          have hconv40 : (convert 23 9 v40).run Tryz.prog w40 = .ok (.string (strOfNums (Mb.bl m 0 320))) w40 := hby40.conv
          have hb41 := below_drew hb40
          have kc : (convert 23 9 (.slice (some ⟨q, 0, none⟩) 320 320)).run Tryz.prog w40 = .ok (.string (strOfNums (Mb.bl m 0 320))) w40 := (((HZ.out.below hb41).row).part 0 320 320 (by omega)).conv
          have HB41 := Lib.hid hb41
          clear hb40 hb41 hby40 hcvo
          refine hK.out _ _ ?_ (fun hHeld => ?_)
          · (try dsimp only); go_keep
          clear hK K9
          try simp only [Act.put, Array.reduceGetElem, List.setIfInBounds_toArray, List.set_cons_zero, List.set_cons_succ]
          refine wpAnyH_ready (rs := [5]) (by kernel_rfl) (by simp) ?_
          refine AllReadyH.cons (o := _) rfl (fun K9 hK => ?_) ?_
          rotate_left
          · exact AllReadyH.nil
          go_simp
          refine hK.out _ _ ?_ (fun hHeld => ?_)
          · (try dsimp only); go_keep
          clear hK K9
          try simp only [Act.put, Array.reduceGetElem, List.setIfInBounds_toArray, List.set_cons_zero, List.set_cons_succ]
          refine wpAnyH_take (i := 8) (oi := _) (v := ?_) rfl (by kernel_rfl) (by kernel_rfl) (by kernel_rfl) (fun _ _ _ h => h) (Or.inl ⟨by rfl, ?_⟩) (by assumption) ?_
          rotate_left
          · (intro w hSw; (try dsimp only at hSw); go_simp; try (with_reducible rfl))
          try simp only [Act.put, Array.reduceGetElem, List.setIfInBounds_toArray, List.set_cons_zero, List.set_cons_succ]
          refine wpAnyH_take (i := 9) (oi := _) (v := ?_) rfl (by kernel_rfl) (by kernel_rfl) (by kernel_rfl) (fun _ _ _ h => h) (Or.inl ⟨by rfl, ?_⟩) (by assumption) ?_
          rotate_left
          · (intro w hSw; (try dsimp only at hSw); go_simp; try (with_reducible rfl))
          try simp only [Act.put, Array.reduceGetElem, List.setIfInBounds_toArray, List.set_cons_zero, List.set_cons_succ]
          refine wpAnyH_take (i := 10) (oi := _) (v := ?_) rfl (by kernel_rfl) (by kernel_rfl) (by kernel_rfl) (fun _ _ _ h => h) (Or.inl ⟨by rfl, ?_⟩) (by assumption) ?_
          rotate_left
          · (intro w hSw; (try dsimp only at hSw); go_simp; try (with_reducible rfl))
          try simp only [Act.put, Array.reduceGetElem, List.setIfInBounds_toArray, List.set_cons_zero, List.set_cons_succ]
          refine wpAnyH_done (by kernel_rfl) ?_ _
          refine NoPanic.normal ?_
          go_wp2
          go_ret
          exact ⟨by simp, HZ.out.low.trans (HB41.out.mono HZ.out.low.size)⟩

set_option linter.unusedSimpArgs false in
set_option maxRecDepth 100000 in
set_option maxHeartbeats 2000000 in
theorem ringgetShares_out (A1 : Option Addr) (L1 cp1 : Nat) (bq bm : Int) (A3 : Option Addr) (M cp3 : Nat) (w : World) (h : 400 < L1 ∨ 150 < M) :
    Calls Tryz.prog 5 #[.slice A1 L1 cp1, .int .u8 bq, .int .u8 bm, .slice A3 M cp3] w (TrueBelow w) := by
  by_cases h1 : 400 < L1
  · have h1' : (400 : Int) < L1 := by omega
    clear h
    go_enter Tryz.func5, Tryz.ntmps5
    go_wp2_with fail
    refine (fixed8_any w).mono ?_
    rintro e w1 ⟨rfl, hq1⟩
    go_wp2_with fail
    go_ret
    exact ⟨rfl, hq1⟩
  · have h1' : (L1 : Int) ≤ 400 := by omega
    have h3' : (150 : Int) < M := by omega
    clear h
    go_enter Tryz.func5, Tryz.ntmps5
    go_wp2_with fail
    refine (fixed8_any w).mono ?_
    rintro e w1 ⟨rfl, hq1⟩
    go_wp2_with fail
    go_ret
    exact ⟨rfl, hq1⟩

theorem ringgetShares_any (A1 : Option Addr) (L1 cp1 : Nat) (f1 : Nat → Nat) (hf1 : Mb.IsB f1) (bq : Int) (hb0 : 0 ≤ bq) (bm : Int) (hm0 : 0 ≤ bm) (hm1 : bm ≤ 255) (A3 : Option Addr) (M cp3 : Nat) (hM : M ≤ cp3) (hcp3 : cp3 ≤ 9223372036854775807) (O : Nat → Ow) (w : World)
    (hby : BytesAt w (.slice A1 L1 cp1) (Mb.bl f1 0 L1)) (hO : OwsAt w A3 M O) :
    Calls Tryz.prog 5 #[.slice A1 L1 cp1, .int .u8 bq, .int .u8 bm, .slice A3 M cp3] w (TrueBelow w) := by
  by_cases h : 400 < L1 ∨ 150 < M
  · exact ringgetShares_out A1 L1 cp1 bq bm A3 M cp3 w h
  · obtain ⟨b, rfl⟩ := Int.eq_ofNat_of_zero_le hb0
    obtain ⟨bn, rfl⟩ := Int.eq_ofNat_of_zero_le hm0
    have hbn : bn ≤ 255 := by omega
    have h3 : b % 3 = 0 ∨ b % 3 = 1 ∨ b % 3 = 2 := by omega
    rcases h3 with e | e | e
    · exact ringgetShares_main A1 L1 cp1 f1 hf1 b bn hbn A3 M cp3 hM hcp3 O w hby hO (by omega) (by omega) 64 (.inl rfl) (by rw [e]; unfold wrap64; omega)
    · exact ringgetShares_main A1 L1 cp1 f1 hf1 b bn hbn A3 M cp3 hM hcp3 O w hby hO (by omega) (by omega) 128 (.inr (.inl rfl)) (by rw [e]; unfold wrap64; omega)
    · exact ringgetShares_main A1 L1 cp1 f1 hf1 b bn hbn A3 M cp3 hM hcp3 O w hby hO (by omega) (by omega) 256 (.inr (.inr rfl)) (by rw [e]; unfold wrap64; omega)
end Go.Proofs.YtikcnioooihncaaGreat
namespace Go.Proofs.YtikcnioooihncaaGreat
open Go.ChangeShapes Go.WideShapes Go.ChangeAt Go.RowKit

set_option maxRecDepth 100000 in
theorem ringgetShares_lifted (os : Os) (started : os.Started) (H : Type) (enc : TypeId × Value → H) :
    ReturnsInHanded {} Tryz.checked os 5 .any (Rows.ringgetSharesSpec.pre6 enc Tryz.prog Tryz.f5 Rows.ringgetSharesRow.domain false) (Rows.ringgetSharesSpec.post enc Tryz.prog Tryz.f5 false true false false) := by
  refine returnsInHanded_of_change (C := Tryz.checked) own started (by kernel_rfl) Tryz.func5
    (ChangeSpec.witness6 (enc := enc) (C := Tryz.checked) false ⟨#[], #[.slice none 0 0, .int .u8 0, .int .u8 0, .slice none 0 0], []⟩ 8 (by kernel_rfl) (by kernel_rfl) (by kernel_rfl) (by kernel_rfl)) ?_
  intro W base args ds gs before hval0 hW _ _
  have hval : ∀ (j : Nat) t v, Tryz.f5.params[j]? = some t → args[j]? = some v → Value.okWide Tryz.prog W .any base t v := hval0
  have hW' := hW
  obtain ⟨p, q, hA0, hV, rfl, hfz, hnd⟩ := hW
  have hA : DataW.TrodAll enc Tryz.prog W 0 (fun _ => true) true Tryz.f5.params.toList args.toList ds p := hA0
  rw [Tryz.params5] at hA hval
  obtain ⟨v0, v1, v2, v3, d0, d1, d2, d3, p0, p1, p2, p3, rfl, rfl, rfl, h0, h1, h2, h3⟩ := trodAll_four hA
  obtain ⟨rfl, rfl⟩ := trodVars_none hV
  obtain ⟨A0, L0, cap0, f0, rfl, hf0, hb0, hl0, hc0⟩ := open_bl (hval 0 23 v0 rfl rfl) h0
  obtain ⟨a1, rfl, rfl, rfl, wa1⟩ := open_int Tryz.underlying5 (hval 1 5 v1 rfl rfl) h1
  have k1 := bounds_u8 wa1
  obtain ⟨a2, rfl, rfl, rfl, wa2⟩ := open_int Tryz.underlying5 (hval 2 5 v2 rfl rfl) h2
  have k2 := bounds_u8 wa2
  obtain ⟨A3, L3, cap3, T3, rfl, hT3, hl3, hc3⟩ := open_writes (hval 3 45 v3 rfl rfl) h3
  clear hA0 hval0
  exact (ringgetShares_any A0 L0 cap0 f0 hf0 a1 k1.1 a2 k2.1 k2.2 A3 L3 cap3 hl3 hc3 T3 W hb0 hT3).mono fun e W' ⟨he, hbel⟩ => ⟨_, he, law_post laidOut (by kernel_rfl) rfl Tryz.underlying4 rfl hW' rfl hbel⟩

theorem ringgetShares_row : Rows.RinggetSharesSaid :=
  OpenClaim.holds_of_wide 5 Tryz.f5 rfl rfl rfl rfl rfl rfl rfl ⟨rfl, rfl, rfl, rfl, rfl⟩ rfl rfl rfl rfl rfl (by kernel_rfl) Tryz.func5 (by kernel_rfl)
    (of_decide_eq_true (by kernel_rfl)) (by unfold Func.isWrapper; first | (rw [if_pos (by decide +kernel)]; kernel_rfl) | (rw [if_neg (by decide +kernel)]; exact ⟨rfl, rfl⟩))
    (fun os started H enc _ => ringgetShares_lifted os started H enc)

theorem ringgetShares_holds : Rows.RinggetSharesSaid := ringgetShares_row
end Go.Proofs.YtikcnioooihncaaGreat
