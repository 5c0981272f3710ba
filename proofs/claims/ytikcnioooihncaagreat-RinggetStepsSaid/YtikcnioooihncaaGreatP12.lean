/-
  Proved: for every ring, every most and every list of answers the statement RinggetSteps (each access of a get, and what it tells of itself, is the document's) answers true, and its arguments read as before.
  Conditions: none beyond the row's own.
-/
import Derived.Test.YtikcnioooihncaaGreatP11
import Derived.Test.YtikcnioooihncaaGreatP09
import Derived.Lib.SlBytesConst
import Derived.Test.YtikcnioooihncaaGreatP03
import Derived.Test.YtikcnioooihncaaGreatP07
namespace Go.Proofs.YtikcnioooihncaaGreat
open Go.RowKit

/-- A slice of n machines stands in memory: the interfaces' values. -/
def MachsAt (w : World) (A : Option Addr) (n : Nat) (xs : Nat → Value) : Prop := 0 < n → ∃ b, A = some ⟨b, 0, none⟩ ∧ b < w.heap.size ∧ ∀ i, i < n → w.cell? ⟨b, i, none⟩ = some (xs i)

theorem MachsAt.below {w w' : World} {A : Option Addr} {n : Nat} {xs : Nat → Value} (h : MachsAt w A n xs) (hb : Below w.heap.size w w') : MachsAt w' A n xs := fun hp => by
  obtain ⟨b, e, hl, hc⟩ := h hp
  exact ⟨b, e, Nat.lt_of_lt_of_le hl hb.size, fun i hi => (hb.cell (p := ⟨b, i, none⟩) hl).trans (hc i hi)⟩

/-- A new scheduler's state. -/
def St.made (n : Nat) (ms : Nat → Mc) (m : Nat → Nat) (nw : Nat) (c : Int) : St := ⟨n, ms, fun _ => false, m, nw, c, 0, []⟩

/-- A scheduler was made. -/
def MadeSw (o : Nat → Pt) (gb hb : Nat) (xs : Nat → Value) (st : St) (w : World) (e : Ending) (w' : World) : Prop :=
  ∃ gw ga o', e = .returned (.pointer (some ⟨gw, 0, none⟩)) ∧ w.heap.size ≤ gw ∧ Sw w' o' gw ga gb hb xs (.slice none 0 0) [] st ∧ Below w.heap.size w w' ∧ ∀ k, k < w.heap.size → o' k = o k

theorem infoActor : (Tryz.prog.info? 115).map (fun i => (i.zero, i.size, i.bytes)) = some (some (.agg #[.nilIface, .bool false]), 2, 24) := by kernel_rfl

theorem make_actors (n : Nat) (hn : n ≤ 1000) (W : World) :
    (Instr.makeSlice 108 (.int .i64 (n : Int)) (.int .i64 (n : Int))).run Tryz.prog W = .ok (.slice (some ⟨W.heap.size, 0, none⟩) n n) (W.alloc (.cells (madeCells #[.nilIface, .bool false] (n * 2)) 115)) := by
  obtain ⟨i, hi, hz, hs, hby⟩ := info_parts infoActor
  have hr := run_make (P := Tryz.prog) W 108 115 i (.agg #[.nilIface, .bool false]) Tryz.underlying108 hi hz .i64 .i64 (n : Int) (n : Int) (by omega) (Int.le_refl _) (by rw [hby]; omega) (by omega)
  rw [hs] at hr
  simpa [Value.cells] using hr

theorem made_actors (w : World) (n : Nat) : (w.alloc (.cells (madeCells #[.nilIface, .bool false] (n * 2)) 115)).rowIs w.heap.size 115 (2 * n) (acCell (fun _ => .nilIface) (fun _ => false)) :=
  ⟨_, Go.Deep.blk_alloc_new _ _, by rw [size_madeCells]; omega, fun i hi => by
    unfold acCell madeCells
    have hm : i % 2 < 2 := Nat.mod_lt _ (by decide)
    have hi2 : i < n * 2 := by omega
    simp [hi2]
    rcases Nat.mod_two_eq_zero_or_one i with e | e
    · simp [e]
    · simp [e]⟩

theorem acCell_set (ax : Nat → Value) (dead : Nat → Bool) (i : Nat) (x : Value) (j : Nat) : (if j = i * 2 then x else acCell ax dead j) = acCell (upd ax i x) dead j := by
  unfold acCell
  by_cases e : j = i * 2
  · subst e
    rw [if_pos rfl, if_pos (by omega), show i * 2 / 2 = i by omega, upd_same]
  · rw [if_neg e]
    by_cases e2 : j % 2 = 0
    · rw [if_pos e2, if_pos e2, upd_other _ _ _ (by omega)]
    · rw [if_neg e2, if_neg e2]

set_option maxRecDepth 100000 in
set_option maxHeartbeats 2000000 in
theorem schedNew_any {w : World} {o : Nat → Pt} {gb hb nw : Nat} {m : Nat → Nat} {c : Int} (B : Buf w gb hb m nw c) (A : Option Addr) (n cap : Nat) (xs : Nat → Value) (ms : Nat → Mc) (hn : n ≤ 1000) (hcap : n ≤ cap) (hcap2 : cap ≤ 9223372036854775807) (hl : MachsAt w A n xs)
    (hm : ∀ i, i < n → MRep w (fun k => o k = .ma i) (xs i) (ms i)) (hog : o gb = .bf) (hoh : o hb = .bf) (hlt : ∀ k, o k ≠ .no → k < w.heap.size) :
    Calls Tryz.prog 25 #[.pointer (some ⟨gb, 0, none⟩), .slice A n cap] w (MadeSw o gb hb xs (St.made n ms m nw c) w) := by
  have hmk := make_actors n hn
  have HH := Lib.hid (And.intro B (And.intro hm (And.intro hog (And.intro hoh hlt))))
  have HL := Lib.hid hl
  have HN := Lib.hid hn
  clear B hm hog hoh hlt hl
  have ha := made_actors w n
  have e1 : (w.alloc (.cells (madeCells #[.nilIface, .bool false] (n * 2)) 115)).heap.size = w.heap.size + 1 := by simp
  have HB1 := (Below.refl w.heap.size w).alloc (Nat.le_refl _) (.cells (madeCells #[.nilIface, .bool false] (n * 2)) 115)
  go_enter Tryz.func25, Tryz.ntmps25
  go_wp2
  generalize hW1 : w.alloc (.cells (madeCells #[.nilIface, .bool false] (n * 2)) 115) = W1 at *
  have hh := Go.Deep.blk_alloc_new W1 (.cells #[.pointer (some ⟨gb, 0, none⟩), .slice (some ⟨w.heap.size, 0, none⟩) n n, .int .i64 0, .slice none 0 0] 111)
  rw [e1] at hh
  have ha2 := ha.alloc (.cells #[.pointer (some ⟨gb, 0, none⟩), .slice (some ⟨w.heap.size, 0, none⟩) n n, .int .i64 0, .slice none 0 0] 111)
  have HB2 := HB1.alloc HB1.size (.cells #[.pointer (some ⟨gb, 0, none⟩), .slice (some ⟨w.heap.size, 0, none⟩) n n, .int .i64 0, .slice none 0 0] 111)
  generalize W1.alloc (.cells #[.pointer (some ⟨gb, 0, none⟩), .slice (some ⟨w.heap.size, 0, none⟩) n n, .int .i64 0, .slice none 0 0] 111) = W2 at hh ha2 HB2 ⊢
  have HST := Lib.hid (And.intro hh (And.intro ha2 HB2))
  clear hmk hW1 ha HB1 hh ha2 HB2
  go_loopw [16] (fun t16 wr => ∃ (i : Nat) (ax : Nat → Value), t16 = .int .i64 i ∧ i ≤ n ∧ (∀ j, j < i → ax j = xs j) ∧ wr.heap[w.heap.size + 1]? = some (.cells #[.pointer (some ⟨gb, 0, none⟩), .slice (some ⟨w.heap.size, 0, none⟩) n n, .int .i64 0, .slice none 0 0] 111 (0, 0)) ∧ wr.rowIs w.heap.size 115 (2 * n) (acCell ax (fun _ => false)) ∧ Below w.heap.size w wr) (fun t16 _ => n - (intOf t16).toNat)
  case atStart => exact ⟨0, _, rfl, Nat.zero_le _, fun j hj => absurd hj (Nat.not_lt_zero _), HST.out.1, HST.out.2.1, HST.out.2.2⟩
  case round =>
    obtain ⟨i, ax, rfl, hi, hax, hhd, hrow, hbw⟩ := hrel
    have HAX := Lib.hid hax
    have HHD := Lib.hid (And.intro hhd (And.intro hrow hbw))
    by_cases hlt : i < n
    · obtain ⟨bl, rfl, hbl, hcl⟩ := HL.out (by omega)
      have hcx := (hbw.cell (p := ⟨bl, i, none⟩) hbl).trans (hcl i hlt)
      have hc1 : wr.cell? ⟨w.heap.size + 1, 1, none⟩ = some (.slice (some ⟨w.heap.size, 0, none⟩) n n) := by simp [World.cell?, hhd]
      have hr0 := hrow.cell (i := i * 2) (by omega)
      have hf0 := hrow.frozen (i * 2)
      have hsh := (HH.out.2.1 i hlt).shape
      generalize hx : xs i = x at hcx hsh
      have HX := Lib.hid hx
      clear hax hhd hrow hbw hcl hx
      rcases hsh with ⟨rfl, _⟩ | ⟨T, y, rfl⟩
      all_goals
        go_wp2
        go_roundw
        case rel =>
          refine ⟨i + 1, upd ax i (xs i), by go_num, by omega, fun j hj => ?_, blkF HHD.out.1 (by omega) _, (HHD.out.2.1.set (i * 2) _).congr fun j _ => ?_, HHD.out.2.2.setCell (p := ⟨w.heap.size, i * 2, none⟩) (Nat.le_refl _) _⟩
          · by_cases e : j = i
            · subst e; exact upd_same _ _ _
            · rw [upd_other _ _ _ e]; exact HAX.out j (by omega)
          · rw [HX.out]; exact acCell_set _ _ _ _ _
        case measure => simp [intOf]; omega
    · obtain rfl : i = n := by omega
      clear hax hhd hrow hbw
      go_wp2
      go_ret
      obtain ⟨hhd, hrow, hbw⟩ := HHD.out
      obtain ⟨B, hm, hog, hoh, hlk⟩ := HH.out
      have hsz := (Array.getElem?_eq_some_iff.1 hhd).1
      have hold : ∀ k, k < w.heap.size → claimed (claimed o w.heap.size (fun k => k = w.heap.size) .ac) w.heap.size (fun k => k = w.heap.size + 1) .wd k = o k := fun k hk => (claimed_old hk).trans (claimed_old hk)
      refine ⟨w.heap.size + 1, w.heap.size, claimed (claimed o w.heap.size (fun k => k = w.heap.size) .ac) w.heap.size (fun k => k = w.heap.size + 1) .wd, rfl, Nat.le_succ _, ⟨hhd, hrow.congr fun j hj => ?_, B.below hbw, fun j hj => ?_, ⟨World.ownsRow_nil _ _ _ _, fun t ht => absurd ht (by simp), fun k hk => absurd hk (by simp [Value.ownBlock])⟩, rfl, claimed_new (Nat.le_succ _) rfl, (claimed_not fun e => by omega).trans (claimed_new (Nat.le_refl _) rfl), (hold gb B.g_lt).trans hog, (hold hb B.h_lt).trans hoh, fun k hk => ?_, HN.out, fun e he => absurd he (by simp [St.made])⟩, hbw, hold⟩
      · unfold acCell
        by_cases e : j % 2 = 0
        · rw [if_pos e, if_pos e]; exact HAX.out _ (by omega)
        · rw [if_neg e, if_neg e]; rfl
      · exact ((hm j hj).keep hbw.size fun k hk => hbw.block k (hlk k (by rw [hk]; simp))).mono fun k hk => (hold k (hlk k (by rw [hk]; simp))).trans hk
      · by_cases e : w.heap.size ≤ k ∧ k = w.heap.size + 1
        · omega
        · rw [claimed_not e] at hk
          by_cases e2 : w.heap.size ≤ k ∧ k = w.heap.size
          · omega
          · rw [claimed_not e2] at hk
            have := hlk k hk
            omega
end Go.Proofs.YtikcnioooihncaaGreat
namespace Go.Proofs.YtikcnioooihncaaGreat
open Go.RowKit

/-- A scheduler stands; all that was below stands as it was. -/
structure Stood (w0 w : World) (o : Nat → Pt) (gw ga gb hb : Nat) (ax : Nat → Value) (st : St) : Prop where
  sw : ∃ tv ts, Sw w o gw ga gb hb ax tv ts st
  low : Below w0.heap.size w0 w
  out : ∀ k, k < w0.heap.size → o k = .no

namespace Stood
variable {w0 w w' : World} {o o' : Nat → Pt} {gw ga gb hb : Nat} {ax : Nat → Value} {st st' : St}
theorem below (h : Stood w0 w o gw ga gb hb ax st) (hb' : Below w.heap.size w w') : Stood w0 w' o gw ga gb hb ax st := by
  obtain ⟨⟨tv, ts, hs⟩, h1, h2⟩ := h
  exact ⟨⟨tv, ts, hs.below hb'⟩, h1.trans (hb'.mono h1.size), h2⟩
theorem alloc (h : Stood w0 w o gw ga gb hb ax st) (q : Obj) : Stood w0 (w.alloc q) o gw ga gb hb ax st := h.below ((Below.refl _ _).alloc (Nat.le_refl _) q)
theorem after (h : Stood w0 w o gw ga gb hb ax st) (ht : Touch (Own o) w w') (hs : ∃ tv ts, Sw w' o' gw ga gb hb ax tv ts st') (ho : ∀ k, k < w.heap.size → o' k = o k) : Stood w0 w' o' gw ga gb hb ax st' :=
  ⟨hs, ⟨ht.os.trans h.low.os, ht.tape.trans h.low.tape, ht.output.trans h.low.output, Nat.le_trans h.low.size ht.size, fun k hk => (ht.block k (Nat.lt_of_lt_of_le hk h.low.size) fun e => e (h.out k hk)).trans (h.low.block k hk)⟩,
    fun k hk => (ho k (Nat.lt_of_lt_of_le hk h.low.size)).trans (h.out k hk)⟩
theorem new_no (h : Stood w0 w o gw ga gb hb ax st) {k : Nat} (hk : w.heap.size ≤ k) : o k = .no := by
  obtain ⟨⟨tv, ts, hs⟩, _, _⟩ := h
  exact hs.new_no hk
end Stood

/-- A block that is nobody's keeps its cells. -/
theorem nobody_cell {w w' : World} {o : Nat → Pt} (ht : Touch (Own o) w w') {q : Addr} (hq : q.block < w.heap.size) (hn : o q.block = .no) : w'.cell? q = w.cell? q :=
  World.cell?_of_block (ht.block q.block hq fun e => e hn)
end Go.Proofs.YtikcnioooihncaaGreat
namespace Go.Proofs.YtikcnioooihncaaGreat
open Go.RowKit

/-- A scheduler of one machine x stands; but for the buffer's two blocks nothing has turned since w1. -/
def OneAt (w1 w : World) (gw g h : Nat) (x : Value) (st : St) : Prop :=
  ∃ ga o, (∃ tv ts, Sw w o gw ga g h (fun i => if i = 0 then x else .nilIface) tv ts st) ∧ Touch (Two g h) w1 w ∧ ∀ k, k < w1.heap.size → k ≠ g → k ≠ h → o k = .no

theorem OneAt.buf {w1 w : World} {gw g h : Nat} {x : Value} {st : St} (hs : OneAt w1 w gw g h x st) : Buf w g h st.m st.nw st.c := by
  obtain ⟨ga, o, ⟨tv, ts, hs⟩, _⟩ := hs
  exact hs.buf
theorem OneAt.mach {w1 w : World} {gw g h : Nat} {x : Value} {st : St} (hs : OneAt w1 w gw g h x st) (hn : 0 < st.na) : ∃ F : Nat → Prop, MRep w F x (st.ms 0) ∧ ∀ k, F k → k < w.heap.size := by
  obtain ⟨ga, o, ⟨tv, ts, hs⟩, _⟩ := hs
  have h0 := hs.mach 0 hn
  rw [if_pos rfl] at h0
  exact ⟨_, h0, fun k hk => hs.lt k (by rw [hk]; simp)⟩
theorem OneAt.touch {w1 w : World} {gw g h : Nat} {x : Value} {st : St} (hs : OneAt w1 w gw g h x st) : Touch (Two g h) w1 w := by
  obtain ⟨ga, o, _, ht, _⟩ := hs
  exact ht

theorem oneNew {w1 w3 : World} {g h : Nat} {m : Nat → Nat} {nw : Nat} {c : Int} (B : Buf w1 g h m nw c) {T0 : TypeId} {y : Value} {mc : Mc} (hp : MRep w3 (fun k => w1.heap.size ≤ k ∧ k < w3.heap.size) (.iface T0 y) mc) (hb3 : Below w1.heap.size w1 w3) :
    ∀ T, Calls Tryz.prog 25 #[.pointer (some ⟨g, 0, none⟩), .slice (some ⟨w3.heap.size, 0, none⟩) 1 1] (w3.alloc (.cells #[.iface T0 y] T)) fun e w' => ∃ gw, e = .returned (.pointer (some ⟨gw, 0, none⟩)) ∧ OneAt w1 w' gw g h (.iface T0 y) (St.made 1 (fun i => if i = 0 then mc else .none) m nw c) := by
  intro T
  have s3 := hb3.size
  have hgl := B.g_lt
  have hhl := B.h_lt
  have hba := (Below.refl w3.heap.size w3).alloc (Nat.le_refl _) (.cells #[.iface T0 y] T)
  have e0 : (w3.alloc (.cells #[.iface T0 y] T)).heap.size = w3.heap.size + 1 := by simp
  have x0 := Go.Deep.blk_alloc_new w3 (.cells #[.iface T0 y] T)
  generalize w3.alloc (.cells #[.iface T0 y] T) = w4 at *
  have B4 := (B.below hb3).below hba
  refine (schedNew_any B4 (some ⟨w3.heap.size, 0, none⟩) 1 1 (fun i => if i = 0 then .iface T0 y else .nilIface) (fun i => if i = 0 then mc else .none) (by decide) (by decide) (by decide)
    (fun _ => ⟨w3.heap.size, rfl, by omega, fun i hi => ?_⟩) (o := fun k => if k = g ∨ k = h then .bf else if w1.heap.size ≤ k ∧ k < w3.heap.size then .ma 0 else .no) (fun i hi => ?_) ?_ ?_ (fun k hk => ?_)).mono ?_
  · match i, hi with
    | 0, _ => simp [World.cell?, x0]
  · match i, hi with
    | 0, _ =>
      refine MRep.mono (F := fun k => w1.heap.size ≤ k ∧ k < w3.heap.size) (hp.keep hba.size fun k hk => hba.block k hk.2) fun k hk => ?_
      show (if _ then _ else _) = _
      rw [if_neg (by omega), if_pos hk]
  · exact if_pos (.inl rfl)
  · exact if_pos (.inr rfl)
  · by_cases e1 : k = g ∨ k = h
    · omega
    · rw [if_neg e1] at hk
      by_cases e2 : w1.heap.size ≤ k ∧ k < w3.heap.size
      · omega
      · rw [if_neg e2] at hk
        exact absurd rfl hk
  · rintro e w' ⟨gw, ga, o', rfl, _, hs, hbl, ho⟩
    have hbl2 : Below w3.heap.size w3 w' := hba.trans (hbl.mono (by omega))
    refine ⟨gw, rfl, ga, o', ⟨_, _, hs⟩, Touch.of_below (hb3.trans (hbl2.mono s3)), fun k hk hg hh => ?_⟩
    rw [ho k (by omega)]
    show (if _ then _ else _) = _
    rw [if_neg (by omega), if_neg (by omega)]

theorem oneRobin {w1 w : World} {gw g h : Nat} {x : Value} {st : St} (hs : OneAt w1 w gw g h x st) (most : Nat) (hlong : st.tr.length + most ≤ 1000000) :
    Calls Tryz.prog 26 #[.pointer (some ⟨gw, 0, none⟩), .int .i64 most] w fun e w' => e = .returned (.int .i64 (st.robin most).2) ∧ OneAt w1 w' gw g h x (st.robin most).1 := by
  obtain ⟨ga, o, ⟨tv, ts, hs⟩, ht, ho⟩ := hs
  refine (robin_any hs most hlong).mono ?_
  rintro e w' ⟨rfl, o', tv', ts', hs', ht', ho'⟩
  refine ⟨rfl, ga, o', ⟨tv', ts', hs'⟩, ⟨ht'.os.trans ht.os, ht'.tape.trans ht.tape, ht'.output.trans ht.output, Nat.le_trans ht.size ht'.size, fun k hk hn => (ht'.block k (Nat.lt_of_lt_of_le hk ht.size) fun e => ?_).trans (ht.block k hk hn)⟩, fun k hk hg hh => ?_⟩
  · have h0 := ho k hk (fun e => hn (.inl e)) (fun e => hn (.inr e))
    exact e h0
  · rw [ho' k (Nat.lt_of_lt_of_le hk ht.size)]
    exact ho k hk hg hh

theorem rg_cells (w : World) (B Z : Int) :
    (w.alloc (.cells #[.int .i64 B, .int .i64 Z] 38)).cell? ⟨w.heap.size, 0, none⟩ = some (.int .i64 B) ∧ (w.alloc (.cells #[.int .i64 B, .int .i64 Z] 38)).cell? ⟨w.heap.size, 1, none⟩ = some (.int .i64 Z) := by
  have h := Go.Deep.blk_alloc_new w (.cells #[.int .i64 B, .int .i64 Z] 38)
  refine ⟨?_, ?_⟩ <;> (unfold World.cell?; simp only [h]; rfl)
end Go.Proofs.YtikcnioooihncaaGreat
namespace Go.Proofs.YtikcnioooihncaaGreat
open Go.RowKit

/-- A get's machine, if it is one. -/
def Mc.getOf : Mc → Gm
  | .get m => m
  | _ => .dead
def Mc.isGet : Mc → Bool
  | .get _ => true
  | _ => false
theorem Mc.get_is {s : Mc} (h : s.isGet = true) : s = .get s.getOf := by
  cases s with
  | get m => rfl
  | _ => cases h

/-- The bytes "hello". -/
def gtHi (k : Nat) : Nat := if k = 0 then 104 else if k = 1 then 101 else if k = 2 then 108 else if k = 3 then 108 else if k = 4 then 111 else 0
theorem gtHi_isB : Mb.IsB gtHi := fun k => by unfold gtHi; split <;> (try split) <;> (try split) <;> (try split) <;> (try split) <;> decide
theorem gtHi_at (w : World) : BytesAt (w.alloc (.cells #[.int .u8 104, .int .u8 101, .int .u8 108, .int .u8 108, .int .u8 111] 5 (5, 6))) (.slice (some ⟨w.heap.size, 0, none⟩) 5 5) (Mb.bl gtHi 0 5) := by
  have h := Go.Deep.blk_alloc_new w (.cells #[.int .u8 104, .int .u8 101, .int .u8 108, .int .u8 108, .int .u8 111] 5 (5, 6))
  refine ⟨_, _, rfl, fun _ => ⟨w.heap.size, 0, rfl, by simp, fun i hi => ?_⟩⟩
  have hi2 : i < 5 := hi
  match i, hi2 with
  | 0, _ => unfold World.cell?; simp only [h]; rfl
  | 1, _ => unfold World.cell?; simp only [h]; rfl
  | 2, _ => unfold World.cell?; simp only [h]; rfl
  | 3, _ => unfold World.cell?; simp only [h]; rfl
  | 4, _ => unfold World.cell?; simp only [h]; rfl
/-- The states. -/
def gz0 : St := St.made 1 (fun i => if i = 0 then .get (Gm.new 0 64 9) else .none) (fun _ => 0) 12 0
def gz1 : St := (gz0.robin 99).1
def gz2 : St := St.made 1 (fun i => if i = 0 then .put (Pm.new 0 64 3 gtHi 5) else .none) gz1.m gz1.nw gz1.c
def gz3 : St := (gz2.robin 99).1
def gz4 : St := St.made 1 (fun i => if i = 0 then .get (Gm.new 0 64 9) else .none) gz3.m gz3.nw gz3.c
def gz5 : St := (gz4.robin 99).1
theorem gz1_is : (gz1.ms 0).isGet = true := by decide +kernel
theorem gz1_res : (gz1.ms 0).getOf.result = (0, 0) := by decide +kernel
theorem gz1_na : 0 < gz1.na := by decide +kernel
theorem gz5_is : (gz5.ms 0).isGet = true := by decide +kernel
theorem gz5_res : (gz5.ms 0).getOf.result = (16, 0) := by decide +kernel
theorem gz5_na : 0 < gz5.na := by decide +kernel
theorem gz5_told : (gz5.ms 0).getOf.told = [(3, [104, 101, 108, 108, 111])] := by decide +kernel
theorem gz0_len : gz0.tr.length + 99 ≤ 1000000 := by decide +kernel
theorem gz2_len : gz2.tr.length + 99 ≤ 1000000 := by decide +kernel
theorem gz4_len : gz4.tr.length + 99 ≤ 1000000 := by decide +kernel

/-- What the machine of a scheduler of one, a get, stands as. -/
theorem OneAt.getAt {w1 w : World} {gw g h gp : Nat} {st : St} (hs : OneAt w1 w gw g h (.iface 27 (.pointer (some ⟨gp, 0, none⟩))) st) (hn : 0 < st.na) (hi : (st.ms 0).isGet = true) : ∃ F : Nat → Prop, GmAt w F gp (st.ms 0).getOf ∧ ∀ k, F k → k < w.heap.size := by
  obtain ⟨F, hm, hF⟩ := hs.mach hn
  rw [Mc.get_is hi] at hm
  obtain ⟨g', e, hp, _⟩ := hm
  injection e with _ e
  injection e with e
  injection e with e
  injection e with e
  subst e
  exact ⟨F, hp, hF⟩
/-- What it tells of its end. -/
theorem OneAt.got {w1 w : World} {gw g h gp : Nat} {st : St} (hs : OneAt w1 w gw g h (.iface 27 (.pointer (some ⟨gp, 0, none⟩))) st) (hn : 0 < st.na) (hi : (st.ms 0).isGet = true) {r : Int × Int} (hr : (st.ms 0).getOf.result = r) :
    Calls Tryz.prog 10 #[.pointer (some ⟨gp, 0, none⟩)] w (fun e w' => e = .returned (.tuple #[.int .i64 r.1, .int .i64 r.2]) ∧ Below w.heap.size w w') := by
  obtain ⟨F, hp, _⟩ := hs.getAt hn hi
  have := getResult hp
  rw [hr] at this
  refine this.mono ?_
  rintro e w' ⟨rfl, j, rfl⟩
  exact ⟨rfl, below_drewN (Below.refl _ _) j⟩

set_option maxRecDepth 100000 in
set_option maxHeartbeats 2000000 in
theorem fixed8_any (w : World) : Calls Tryz.prog 7 #[] w (TrueBelow w) := by
  go_enter Tryz.func7, Tryz.ntmps7
  go_upto_region 2 with (go_at_call 14; refine (new_yes 96 12 _ (by decide) (by decide) (by decide) (by decide)).mono ?_; rintro e w1 ⟨g, h, rfl, B, hg, hh, hb1⟩)
  go_upto_region 3 with (fail)
  have hb2 := un_below w1 (.int .i64 0) (.int .i64 64) 38
  obtain ⟨r0, r1⟩ := rg_cells w1 0 64
  have B2 := B.below hb2
  have hgl := B.g_lt
  have hhl := B.h_lt
  generalize w1.alloc (.cells #[.int .i64 0, .int .i64 64] 38) = w2 at hb2 r0 r1 B2 ⊢
  have HQ := Lib.hid (And.intro hg (And.intro hh (And.intro hgl hhl)))
  have HB2 := Lib.hid (hb1.trans (hb2.mono hb1.size))
  have HBUF := Lib.hid B2
  have hrg : ¬ Two g h w1.heap.size := fun e => by rcases e with e | e <;> omega
  have HRG := Lib.hid hrg
  clear B B2 hb1 hb2 hg hh hgl hhl hrg
  go_upto_region 4 with (go_at_call 11; refine (gtNew 0 64 9 (by decide) (by decide) (by decide) w2).mono ?_; rintro e w3 ⟨gp, rfl, hp, hb3⟩; have HP := Lib.hid hp; have HB3 := Lib.hid hb3; clear hp hb3)
  have HNEW := Lib.hid (oneNew (y := .pointer (some ⟨gp, 0, none⟩)) (T0 := 27) (mc := .get (Gm.new 0 64 9)) HBUF.out ⟨gp, rfl, HP.out, Gm.new_short 0 64 9⟩ HB3.out)
  go_upto_region 5 with (first
    | (go_at_call 25; refine (HNEW.out _).mono ?_; rintro e w5 ⟨gw, rfl, hs5⟩; have HS5 := Lib.hid hs5; clear hs5)
    | (go_at_call 26; refine (oneRobin (st := gz0) HS5.out 99 gz0_len).mono ?_; rintro e w6 ⟨rfl, hs6⟩; have HS6 : Hid (OneAt w2 w6 gw g h (.iface 27 (.pointer (some ⟨gp, 0, none⟩))) gz1) := Lib.hid hs6; clear hs6))
  clear HNEW HP HS5 HBUF
  go_upto_region 6 with (go_at_call 10; refine (HS6.out.got gz1_na gz1_is gz1_res).mono ?_; rintro e w7 ⟨rfl, hb7⟩)
  have hlr := lt_of_cell r0
  have q0' := (HS6.out.touch.cell (p := ⟨w1.heap.size, 0, none⟩) hlr HRG.out).trans r0
  have q0 := (hb7.cell (p := ⟨w1.heap.size, 0, none⟩) (lt_of_cell q0')).trans q0'
  have q1 := (hb7.cell (p := ⟨w1.heap.size, 1, none⟩) (lt_of_cell q0')).trans ((HS6.out.touch.cell (p := ⟨w1.heap.size, 1, none⟩) hlr HRG.out).trans r1)
  have HL6' := HS6.out.touch.below HB2.out HB2.out.size fun k hk => by rcases hk with e | e <;> rw [e] <;> first | exact HQ.out.1 | exact HQ.out.2.1
  have HL6 := Lib.hid (HL6'.trans (hb7.mono HL6'.size))
  have HBUF6 := Lib.hid (HS6.out.buf.below hb7)
  have hlr6 := lt_of_cell q0
  clear r0 r1 hlr HS6 HB2 HB3 q0' HL6' hb7
  have hbz := (Below.refl w7.heap.size w7).alloc (Nat.le_refl _) (.cells #[.int .u8 104, .int .u8 101, .int .u8 108, .int .u8 108, .int .u8 111] 5 (5, 6))
  have HBY := Lib.hid (gtHi_at w7)
  have hconv : (convert 23 23 (.slice (some ⟨w7.heap.size, 0, none⟩) 5 5)).run Tryz.prog (w7.alloc (.cells #[.int .u8 104, .int .u8 101, .int .u8 108, .int .u8 108, .int .u8 111] 5))
      = .ok (.slice (some ⟨w7.heap.size, 0, none⟩) 5 5) (w7.alloc (.cells #[.int .u8 104, .int .u8 101, .int .u8 108, .int .u8 108, .int .u8 111] 5 (5, 6))) := Lib.run_convert_bytes_const w7 23 5 #[.int .u8 104, .int .u8 101, .int .u8 108, .int .u8 108, .int .u8 111] 5 5 Tryz.underlying23 Tryz.underlying5
  go_upto_region 7 with (first
    | (go_at_call 20; refine (rpNew 0 64 3 (by decide) (by decide) (by decide) _ 5 5 gtHi gtHi_isB _ HBY.out).mono ?_; rintro e w8 ⟨gp2, rfl, hp8, hb8⟩; have HB8 := Lib.hid (hbz.trans (hb8.mono hbz.size)); have HNEW2 := Lib.hid (oneNew (y := .pointer (some ⟨gp2, 0, none⟩)) (T0 := 58) (mc := .put (Pm.new 0 64 3 gtHi 5)) HBUF6.out ⟨gp2, rfl, hp8.wide fun k hk => ⟨Nat.le_trans hbz.size hk.1, hk.2⟩⟩ HB8.out); clear hp8 hb8)
    | (go_at_call 25; refine (HNEW2.out _).mono ?_; rintro e w9 ⟨gw2, rfl, hs9⟩; have HS9 : Hid (OneAt w7 w9 gw2 g h (.iface 58 (.pointer (some ⟨gp2, 0, none⟩))) gz2) := Lib.hid hs9; clear hs9)
    | (go_at_call 26; refine (oneRobin (st := gz2) HS9.out 99 gz2_len).mono ?_; rintro e w10 ⟨rfl, hs10⟩; have HS10 : Hid (OneAt w7 w10 gw2 g h (.iface 58 (.pointer (some ⟨gp2, 0, none⟩))) gz3) := Lib.hid hs10; clear hs10))
  have s0 := (HS10.out.touch.cell (p := ⟨w1.heap.size, 0, none⟩) hlr6 HRG.out).trans q0
  have s1 := (HS10.out.touch.cell (p := ⟨w1.heap.size, 1, none⟩) hlr6 HRG.out).trans q1
  have HL10 := Lib.hid (HS10.out.touch.below HL6.out HL6.out.size fun k hk => by rcases hk with e | e <;> rw [e] <;> first | exact HQ.out.1 | exact HQ.out.2.1)
  have HBUF10 := Lib.hid HS10.out.buf
  clear hconv q0 q1 hlr6 HS10 HS9 HNEW2 HB8 HBY hbz HBUF6 HL6
  go_upto_region 8 with (go_at_call 11; refine (gtNew 0 64 9 (by decide) (by decide) (by decide) w10).mono ?_; rintro e w11 ⟨gp3, rfl, hp, hb11⟩; have HP := Lib.hid hp; have HB11 := Lib.hid hb11; clear hp hb11)
  have HNEW := Lib.hid (oneNew (y := .pointer (some ⟨gp3, 0, none⟩)) (T0 := 27) (mc := .get (Gm.new 0 64 9)) HBUF10.out ⟨gp3, rfl, HP.out, Gm.new_short 0 64 9⟩ HB11.out)
  go_upto_region 9 with (first
    | (go_at_call 25; refine (HNEW.out _).mono ?_; rintro e w12 ⟨gw3, rfl, hs12⟩; have HS12 : Hid (OneAt w10 w12 gw3 g h (.iface 27 (.pointer (some ⟨gp3, 0, none⟩))) gz4) := Lib.hid hs12; clear hs12)
    | (go_at_call 26; refine (oneRobin (st := gz4) HS12.out 99 gz4_len).mono ?_; rintro e w13 ⟨rfl, hs13⟩; have HS13 : Hid (OneAt w10 w13 gw3 g h (.iface 27 (.pointer (some ⟨gp3, 0, none⟩))) gz5) := Lib.hid hs13; clear hs13))
  have HL13 := Lib.hid (HS13.out.touch.below HL10.out HL10.out.size fun k hk => by rcases hk with e | e <;> rw [e] <;> first | exact HQ.out.1 | exact HQ.out.2.1)
  clear s0 s1
  obtain ⟨F, hp13, hF13⟩ := HS13.out.getAt gz5_na gz5_is
  have HP13 := Lib.hid (And.intro hp13 hF13)
  clear hp13 hF13
  go_wp2_with (go_at_call 10; refine (HS13.out.got gz5_na gz5_is gz5_res).mono ?_; rintro e w14 ⟨rfl, hb14⟩; have HB14 := Lib.hid hb14; clear hb14)
  refine (getMessages (HP13.out.1.keep HB14.out.size fun k hk => HB14.out.block k (HP13.out.2 k hk)) (by rw [gz5_told]; decide)).mono ?_
  rw [gz5_told]
  rintro e w15 ⟨v, rfl, ⟨A, c, hv, _, _, hm⟩, hb15⟩
  obtain ⟨b, rfl, hbn, hbl, hcells⟩ := hm (by decide)
  obtain ⟨d, m0, m1, hd⟩ := hcells 0 _ rfl
  obtain ⟨A2, c2, hv2⟩ := hd.length
  have hcv := hd.bytes.conv
  have HL15 := HL13.out.trans ((HB14.out.trans (hb15.mono HB14.out.size)).mono HL13.out.size)
  have HL := Lib.hid HL15
  have hv' : v = .slice (some ⟨b, 0, none⟩) 1 c := hv
  have hd' : d = .slice A2 5 c2 := hv2
  subst hv' hd'
  clear hv hv2 hd hbn hbl hcells hm HL15 hb15
  have hstr : ((strOfNums [104, 101, 108, 108, 111]).toList == [104, 101, 108, 108, 111]) = true := by decide +kernel
  go_wp2
  go_ret
  exact ⟨rfl, HL.out⟩
end Go.Proofs.YtikcnioooihncaaGreat
namespace Go.Proofs.YtikcnioooihncaaGreat
open Go.RowKit

theorem told_less {w : World} {A : Option Addr} {n m : Nat} {T : Nat → Ans} (h : ToldAt w A n T) (hm : m ≤ n) : ToldAt w A m T := by
  intro hp
  obtain ⟨b, off, e, hlt, hc⟩ := h (by omega)
  exact ⟨b, off, e, hlt, fun i hi => hc i (by omega)⟩

theorem bytes_len {w : World} {A : Option Addr} {L c : Nat} {xs : List Int} (h : BytesAt w (.slice A L c) xs) : xs.length = L := by
  obtain ⟨_, _, e, _⟩ := h
  injection e with _ e _
  exact e.symm

set_option linter.unusedSimpArgs false in
set_option maxRecDepth 100000 in
set_option maxHeartbeats 4000000 in
theorem ringgetSteps_main (B Z : Int) (hB : -9223372036854775808 ≤ B ∧ B ≤ 9223372036854775807) (hZ : -9223372036854775808 ≤ Z ∧ Z ≤ 9223372036854775807) (most : Int) (hmost : most ≤ 9223372036854775807)
    (A : Option Addr) (M cap : Nat) (hM : M ≤ cap) (hcap : cap ≤ 9223372036854775807) (T : Nat → Ans) (w : World) (hT : ToldAt w A M T) (hM2 : M ≤ 60) :
    Calls Tryz.prog 4 #[.agg #[.int .i64 B, .int .i64 Z], .int .i64 most, .slice A M cap] w (TrueBelow w) := by
  have HA := Lib.hid (And.intro hB (And.intro hZ (And.intro hmost (And.intro hM hcap))))
  have HT := Lib.hid hT
  have hr0 := un_below w (.int .i64 B) (.int .i64 Z) 38
  have hx0 := Go.Deep.blk_alloc_new w (.cells #[.int .i64 B, .int .i64 Z] 38)
  have HR0 := Lib.hid hr0
  have HX0 := Lib.hid hx0
  have hsz0 : w.heap.size < (w.alloc (.cells #[.int .i64 B, .int .i64 Z] 38)).heap.size := by simp
  clear hB hZ hmost hT hr0 hx0
  go_enter Tryz.func4, Tryz.ntmps4
  go_wp2_with fail
  generalize w.alloc (.cells #[.int .i64 B, .int .i64 Z] 38) = w0 at HR0 HX0 hsz0 ⊢
  refine (fixed8_any w0).mono ?_
  rintro e w1 ⟨rfl, hq1⟩
  have HW1 := Lib.hid (HR0.out.trans (hq1.mono HR0.out.size))
  have HX1 := Lib.hid ((hq1.block _ hsz0).trans HX0.out)
  have hs1 := hq1.size
  have r0 : w1.cell? ⟨w.heap.size, 0, none⟩ = some (.int .i64 B) := by simp [World.cell?, HX1.out]
  have r1 : w1.cell? ⟨w.heap.size, 1, none⟩ = some (.int .i64 Z) := by simp [World.cell?, HX1.out]
  clear hq1
  go_wp2_with fail
  refine (gtNew B Z most HA.out.1 HA.out.2.1 HA.out.2.2.1 w1).mono ?_
  rintro e w3 ⟨g, rfl, hp3, hb3⟩
  have HP3 := Lib.hid hp3
  have HW3 := Lib.hid (HW1.out.trans (hb3.mono HW1.out.size))
  have HX3 := Lib.hid ((hb3.block _ (by omega)).trans HX1.out)
  have hs3 := hb3.size
  clear hp3 hb3 r0 r1
  go_wp2_with fail
  go_loopw [19] (fun t wr => ∃ (i : Nat) (F : Nat → Prop), t = .int .i64 i ∧ i ≤ M ∧ Below w1.heap.size w3 wr ∧ GmAt wr F g ((Gm.new B Z most).at T i) ∧ (∀ k, F k → w1.heap.size ≤ k ∧ k < wr.heap.size) ∧ ∀ j, j < i → (T j).bs.length ≤ 100) (fun t _ => M - (intOf t).toNat)
  case atStart => exact ⟨0, _, rfl, Nat.zero_le _, Below.refl _ _, HP3.out, fun k hk => hk, fun j hj => absurd hj (Nat.not_lt_zero _)⟩
  case round =>
    obtain ⟨i, F, rfl, hi, hbel, hpm, hF, hlen⟩ := hrel
    have hrr := (hbel.block _ (by omega)).trans HX3.out
    have r0 : wr.cell? ⟨w.heap.size, 0, none⟩ = some (.int .i64 B) := by simp [World.cell?, hrr]
    have r1 : wr.cell? ⟨w.heap.size, 1, none⟩ = some (.int .i64 Z) := by simp [World.cell?, hrr]
    clear hrr
    have HBEL := Lib.hid hbel
    have HPM := Lib.hid hpm
    have HF := Lib.hid hF
    have HLE := Lib.hid hlen
    have HW := Lib.hid (HW3.out.trans (hbel.mono (by have := HW3.out.size; omega)))
    have hsz := hbel.size
    clear hbel hpm hF hlen
    have HTW := Lib.hid (HT.out.below HW.out)
    by_cases hlt : i < M
    · have hg5 : (i : Int) < M := by omega
      have hg6 : (0 : Int) ≤ i := by omega
      have hg7 : (i : Int) ≤ cap := by omega
      have hdr := (Below.refl wr.heap.size wr).drew
      have HSA := Lib.hid (same8_any B Z most HA.out.1 HA.out.2.1 HA.out.2.2.1 cap i A (by omega) hcap T wr.drew ((told_less HTW.out (Nat.le_of_lt hlt)).below hdr) (by omega) HLE.out (HPM.out.keep hdr.size fun k hk => hdr.block k (HF.out k hk).2) (fun k hk => Nat.lt_of_lt_of_le (HF.out k hk).2 hdr.size))
      clear hdr
      obtain ⟨tb, tz, rfl, htb, htc⟩ := HTW.out (by omega)
      obtain ⟨y0, y1, y2, hyi⟩ := htc i hlt
      have HYI := Lib.hid hyi
      have hlen9 : ((T i).L : Int) ≤ 9223372036854775807 := by have := hyi.room; have := hyi.few; omega
      have HYL : Hid ((T i).bs.length = (T i).L) := Lib.hid (bytes_len hyi.bytes)
      have HTC := Lib.hid htc
      clear htc hyi
      by_cases hl : 100 < (T i).L
      · go_wp2
        go_ret
        exact ⟨rfl, HW.out⟩
      have hl2 : (T i).L ≤ 100 := by omega
      clear hl
      go_upto_region 11 with (fail)
      go_region_held3 (fun w' => w'.cell? ⟨w.heap.size, 0, none⟩ = some (.int .i64 B) ∧ w'.cell? ⟨w.heap.size, 1, none⟩ = some (.int .i64 Z)) (go_keep)
        (first | (go_at_call 13; refine HSA.out.mono ?_; rintro e w6 ⟨rfl, hb6d⟩; have hb6 := below_drew hb6d; have k0 := (hb6.cell (p := ⟨w.heap.size, 0, none⟩) (lt_of_cell r0)).trans r0; have k1 := (hb6.cell (p := ⟨w.heap.size, 1, none⟩) (lt_of_cell r1)).trans r1))
      have HP6 := Lib.hid (HPM.out.keep hb6.size fun k hk => hb6.block k (HF.out k hk).2)
      have HW6 := Lib.hid (HW.out.trans (hb6.mono HW.out.size))
      have HE6 := Lib.hid (HBEL.out.trans (hb6.mono (by omega)))
      have hs6 := hb6.size
      have z0 := (hb6.cell (lt_of_cell y0)).trans y0
      have z1 := (hb6.cell (lt_of_cell y1)).trans y1
      have z2 := (hb6.cell (lt_of_cell y2)).trans y2
      have HYI6 := Lib.hid (HYI.out.bytes.below hb6)
      clear hb6 hb6d r0 r1 k0 k1 y0 y1 y2
      have HFIT : Hid (((Gm.new B Z most).at T i).Fits (T i).an.bs.length) := Lib.hid (Gm.Few.fits (Gm.at_few (Gm.new_few B Z most) i HLE.out) (by show i * 100 + (T i).bs.length ≤ _; rw [HYL.out]; omega))
      go_wp2_with fail
      refine (getTake HP6.out (fun k hk => Nat.lt_of_lt_of_le (HF.out k hk).2 hs6) (T i).an (T i).A (T i).L (T i).cap HYI6.out HFIT.out).mono ?_
      rintro e w7 ⟨rfl, F7, hp7, ht7, hF7⟩
      have HP7 := Lib.hid hp7
      have HT7 := Lib.hid ht7
      have hs7 := ht7.size
      have HF7 := Lib.hid hF7
      clear hp7 ht7 hF7
      go_wp2
      go_roundw
      case rel =>
        refine ⟨i + 1, F7, by go_num, by omega, Touch.below HE6.out HT7.out (by omega) (fun q hq => (HF.out q hq).1), HP7.out, fun k hk => ?_, fun j hj => ?_⟩
        · rcases HF7.out k hk with h | h
          · have := HF.out k h; omega
          · omega
        · by_cases e : j = i
          · subst e; rw [HYL.out]; exact hl2
          · exact HLE.out j (by omega)
      case measure => simp [intOf]; omega
    · have hge : (M : Int) ≤ i := by omega
      have hiM : i = M := by omega
      subst hiM
      have HSA := Lib.hid (same8_any B Z most HA.out.1 HA.out.2.1 HA.out.2.2.1 cap i A (by omega) hcap T wr HTW.out (by omega) HLE.out HPM.out (fun k hk => (HF.out k hk).2))
      go_wp2_with fail
      refine HSA.out.mono ?_
      rintro e w6 ⟨rfl, hb6⟩
      go_wp2
      go_ret
      exact ⟨rfl, HW.out.trans (hb6.mono HW.out.size)⟩

set_option linter.unusedSimpArgs false in
set_option maxRecDepth 100000 in
set_option maxHeartbeats 2000000 in
theorem ringgetSteps_out (B Z most : Int) (A : Option Addr) (M cap : Nat) (w : World) (h : 60 < M) :
    Calls Tryz.prog 4 #[.agg #[.int .i64 B, .int .i64 Z], .int .i64 most, .slice A M cap] w (TrueBelow w) := by
  have hr0 := un_below w (.int .i64 B) (.int .i64 Z) 38
  have h2' : (60 : Int) < M := by omega
  clear h
  go_enter Tryz.func4, Tryz.ntmps4
  go_wp2_with fail
  generalize w.alloc (.cells #[.int .i64 B, .int .i64 Z] 38) = w0 at hr0 ⊢
  refine (fixed8_any w0).mono ?_
  rintro e w1 ⟨rfl, hq1⟩
  go_wp2_with fail
  go_ret
  exact ⟨rfl, hr0.trans (hq1.mono hr0.size)⟩

theorem ringgetSteps_any (B Z : Int) (hB : -9223372036854775808 ≤ B ∧ B ≤ 9223372036854775807) (hZ : -9223372036854775808 ≤ Z ∧ Z ≤ 9223372036854775807) (most : Int) (hmost : most ≤ 9223372036854775807)
    (A : Option Addr) (M cap : Nat) (hM : M ≤ cap) (hcap : cap ≤ 9223372036854775807) (T : Nat → Ans) (w : World) (hT : ToldAt w A M T) :
    Calls Tryz.prog 4 #[.agg #[.int .i64 B, .int .i64 Z], .int .i64 most, .slice A M cap] w (TrueBelow w) := by
  by_cases h : 60 < M
  · exact ringgetSteps_out B Z most A M cap w h
  · exact ringgetSteps_main B Z hB hZ most hmost A M cap hM hcap T w hT (by omega)
end Go.Proofs.YtikcnioooihncaaGreat
namespace Go.Proofs.YtikcnioooihncaaGreat
open Go.ChangeShapes Go.WideShapes Go.ChangeAt Go.RowKit Go.Deep

theorem ringOne : Tryz.prog.cellsOf 38 = 2 := by kernel_rfl

set_option maxRecDepth 100000 in
theorem open_ring {H : Type} {enc : TypeId × Value → H} {W : World} {base : Nat} {v : Value} {d : DataW H} {ps : List MemPlace}
    (hv : Value.okWide Tryz.prog W .any base 38 v) (h : DataW.Trod enc Tryz.prog W 0 (fun _ => true) true 38 v d ps) :
    ∃ B Z : Int, v = .agg #[.int .i64 B, .int .i64 Z] ∧ (-9223372036854775808 ≤ B ∧ B ≤ 9223372036854775807) ∧ (-9223372036854775808 ≤ Z ∧ Z ≤ 9223372036854775807) := by
  obtain ⟨cs, rfl, hsz⟩ := okWide_struct Tryz.underlying38 hv
  obtain ⟨l⟩ := cs
  rw [ringOne] at hsz
  match l, hsz with
  | [v0, v1], _ =>
    obtain ⟨fuel, hf⟩ := h
    obtain ⟨xs, n, _, _, _, hlen, hg⟩ := DataW.trod_struct Tryz.underlying38 hf
    have g0 := hg 0 _ rfl
    have g1 := hg 1 _ rfl
    have cInt : Tryz.prog.cellsOf 3 = 1 := by kernel_rfl
    match xs, hlen with
    | [y0, y1], _ =>
      simp [Value.cells, cInt] at g0 g1
      obtain ⟨B, e0, _, w0⟩ := DataW.trod_int Tryz.underlying3 g0
      obtain ⟨Z, e1, _, w1⟩ := DataW.trod_int Tryz.underlying3 g1
      simp only [List.cons.injEq, and_true] at e0 e1
      subst e0 e1
      exact ⟨B, Z, rfl, i64_wide w0, i64_wide w1⟩
end Go.Proofs.YtikcnioooihncaaGreat
namespace Go.Proofs.YtikcnioooihncaaGreat
open Go.ChangeShapes Go.WideShapes Go.ChangeAt Go.RowKit

set_option maxRecDepth 100000 in
theorem ringgetSteps_lifted (os : Os) (started : os.Started) (H : Type) (enc : TypeId × Value → H) :
    ReturnsInHanded {} Tryz.checked os 4 .any (Rows.ringgetStepsSpec.pre6 enc Tryz.prog Tryz.f4 Rows.ringgetStepsRow.domain false) (Rows.ringgetStepsSpec.post enc Tryz.prog Tryz.f4 false true false false) := by
  refine returnsInHanded_of_change (C := Tryz.checked) own started (by kernel_rfl) Tryz.func4
    (ChangeSpec.witness6 (enc := enc) (C := Tryz.checked) false ⟨#[], #[.agg #[.int .i64 0, .int .i64 0], .int .i64 0, .slice none 0 0], []⟩ 8 (by kernel_rfl) (by kernel_rfl) (by kernel_rfl) (by kernel_rfl)) ?_
  intro W base args ds gs before hval0 hW _ _
  have hval : ∀ (j : Nat) t v, Tryz.f4.params[j]? = some t → args[j]? = some v → Value.okWide Tryz.prog W .any base t v := hval0
  have hW' := hW
  obtain ⟨p, q, hA0, hV, rfl, hfz, hnd⟩ := hW
  have hA : DataW.TrodAll enc Tryz.prog W 0 (fun _ => true) true Tryz.f4.params.toList args.toList ds p := hA0
  rw [Tryz.params4] at hA hval
  obtain ⟨v0, v1, v2, d0, d1, d2, p0, p1, p2, rfl, rfl, rfl, h0, h1, h2⟩ := trodAll_three hA
  obtain ⟨rfl, rfl⟩ := trodVars_none hV
  obtain ⟨B0, Z0, rfl, hB0, hZ0⟩ := open_ring (hval 0 38 v0 rfl rfl) h0
  obtain ⟨a1, rfl, rfl, rfl, wa1⟩ := open_int Tryz.underlying3 (hval 1 3 v1 rfl rfl) h1
  have k1 := bounds_i64 wa1
  obtain ⟨A2, L2, cap2, T2, rfl, hT2, hl2, hc2⟩ := open_answers (hval 2 42 v2 rfl rfl) h2
  clear hA0 hval0
  exact (ringgetSteps_any B0 Z0 hB0 hZ0 a1 k1.2 A2 L2 cap2 hl2 hc2 T2 W hT2).mono fun e W' ⟨he, hbel⟩ => ⟨_, he, law_post laidOut (by kernel_rfl) rfl Tryz.underlying4 rfl hW' rfl hbel⟩

theorem ringgetSteps_row : Rows.RinggetStepsSaid :=
  OpenClaim.holds_of_wide 4 Tryz.f4 rfl rfl rfl rfl rfl rfl rfl ⟨rfl, rfl, rfl, rfl, rfl⟩ rfl rfl rfl rfl rfl (by kernel_rfl) Tryz.func4 (by kernel_rfl)
    (of_decide_eq_true (by kernel_rfl)) (by unfold Func.isWrapper; first | (rw [if_pos (by decide +kernel)]; kernel_rfl) | (rw [if_neg (by decide +kernel)]; exact ⟨rfl, rfl⟩))
    (fun os started H enc _ => ringgetSteps_lifted os started H enc)

theorem ringgetSteps_holds : Rows.RinggetStepsSaid := ringgetSteps_row
end Go.Proofs.YtikcnioooihncaaGreat
