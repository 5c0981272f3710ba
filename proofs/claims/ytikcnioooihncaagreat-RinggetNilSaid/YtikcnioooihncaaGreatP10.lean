/-
  Proved: for every answer and every most the statement RinggetNil (a nil machine is at its end) answers true, and its arguments read as before.
  Conditions: none beyond the row's own.
-/
import Derived.Test.YtikcnioooihncaaGreatP09
import Derived.Test.YtikcnioooihncaaGreatP07
import Derived.Laws.IdiomCopy
import Derived.Lib.LazyBuf
import Derived.Deep.RegionHeld3
import Derived.Lib.SlBytesConst
import Derived.Test.YtikcnioooihncaaGreatP03
import Derived.Deep.Slices
namespace Go.Proofs.YtikcnioooihncaaGreat
open Go.RowKit

/-- A slice of n machines stands in memory: the interfaces' values. -/
def MachsAt (w : World) (A : Option Addr) (n : Nat) (xs : Nat → Value) : Prop := 0 < n → ∃ b, A = some ⟨b, 0, none⟩ ∧ b < w.heap.size ∧ ∀ i, i < n → w.cell? ⟨b, i, none⟩ = some (xs i)

theorem MachsAt.below {w w' : World} {A : Option Addr} {n : Nat} {xs : Nat → Value} (h : MachsAt w A n xs) (hb : Below w.heap.size w w') : MachsAt w' A n xs := fun hp => by
  obtain ⟨b, e, hl, hc⟩ := h hp
  exact ⟨b, e, Nat.lt_of_lt_of_le hl hb.size, fun i hi => (hb.cell (p := ⟨b, i, none⟩) hl).trans (hc i hi)⟩

/-- A new scheduler's state. -/
def St.made (n : Nat) (ms : Nat → Mc) (m : Nat → Nat) (nw : Nat) (c : Int) : St := ⟨n, ms, fun _ => false, m, nw, c, 0, []⟩

/-- A scheduler was made. -/
def MadeSw (o : Nat → Pt) (gb hb : Nat) (xs : Nat → Value) (st : St) (w : World) (e : Ending) (w' : World) : Prop :=
  ∃ gw ga o', e = .returned (.pointer (some ⟨gw, 0, none⟩)) ∧ w.heap.size ≤ gw ∧ Sw w' o' gw ga gb hb xs (.slice none 0 0) [] st ∧ Below w.heap.size w w' ∧ ∀ k, k < w.heap.size → o' k = o k

theorem infoActor : (Tryz.prog.info? 115).map (fun i => (i.zero, i.size, i.bytes)) = some (some (.agg #[.nilIface, .bool false]), 2, 24) := by kernel_rfl

theorem make_actors (n : Nat) (hn : n ≤ 1000) (W : World) :
    (Instr.makeSlice 108 (.int .i64 (n : Int)) (.int .i64 (n : Int))).run Tryz.prog W = .ok (.slice (some ⟨W.heap.size, 0, none⟩) n n) (W.alloc (.cells (madeCells #[.nilIface, .bool false] (n * 2)) 115)) := by
  obtain ⟨i, hi, hz, hs, hby⟩ := info_parts infoActor
  have hr := run_make (P := Tryz.prog) W 108 115 i (.agg #[.nilIface, .bool false]) Tryz.underlying108 hi hz .i64 .i64 (n : Int) (n : Int) (by omega) (Int.le_refl _) (by rw [hby]; omega) (by omega)
  rw [hs] at hr
  simpa [Value.cells] using hr

theorem made_actors (w : World) (n : Nat) : (w.alloc (.cells (madeCells #[.nilIface, .bool false] (n * 2)) 115)).rowIs w.heap.size 115 (2 * n) (acCell (fun _ => .nilIface) (fun _ => false)) :=
  ⟨_, Go.Deep.blk_alloc_new _ _, by rw [size_madeCells]; omega, fun i hi => by
    unfold acCell madeCells
    have hm : i % 2 < 2 := Nat.mod_lt _ (by decide)
    have hi2 : i < n * 2 := by omega
    simp [hi2]
    rcases Nat.mod_two_eq_zero_or_one i with e | e
    · simp [e]
    · simp [e]⟩

theorem acCell_set (ax : Nat → Value) (dead : Nat → Bool) (i : Nat) (x : Value) (j : Nat) : (if j = i * 2 then x else acCell ax dead j) = acCell (upd ax i x) dead j := by
  unfold acCell
  by_cases e : j = i * 2
  · subst e
    rw [if_pos rfl, if_pos (by omega), show i * 2 / 2 = i by omega, upd_same]
  · rw [if_neg e]
    by_cases e2 : j % 2 = 0
    · rw [if_pos e2, if_pos e2, upd_other _ _ _ (by omega)]
    · rw [if_neg e2, if_neg e2]

set_option maxRecDepth 100000 in
set_option maxHeartbeats 2000000 in
theorem schedNew_any {w : World} {o : Nat → Pt} {gb hb nw : Nat} {m : Nat → Nat} {c : Int} (B : Buf w gb hb m nw c) (A : Option Addr) (n cap : Nat) (xs : Nat → Value) (ms : Nat → Mc) (hn : n ≤ 1000) (hcap : n ≤ cap) (hcap2 : cap ≤ 9223372036854775807) (hl : MachsAt w A n xs)
    (hm : ∀ i, i < n → MRep w (fun k => o k = .ma i) (xs i) (ms i)) (hog : o gb = .bf) (hoh : o hb = .bf) (hlt : ∀ k, o k ≠ .no → k < w.heap.size) :
    Calls Tryz.prog 25 #[.pointer (some ⟨gb, 0, none⟩), .slice A n cap] w (MadeSw o gb hb xs (St.made n ms m nw c) w) := by
  have hmk := make_actors n hn
  have HH := Lib.hid (And.intro B (And.intro hm (And.intro hog (And.intro hoh hlt))))
  have HL := Lib.hid hl
  have HN := Lib.hid hn
  clear B hm hog hoh hlt hl
  have ha := made_actors w n
  have e1 : (w.alloc (.cells (madeCells #[.nilIface, .bool false] (n * 2)) 115)).heap.size = w.heap.size + 1 := by simp
  have HB1 := (Below.refl w.heap.size w).alloc (Nat.le_refl _) (.cells (madeCells #[.nilIface, .bool false] (n * 2)) 115)
  go_enter Tryz.func25, Tryz.ntmps25
  go_wp2
  generalize hW1 : w.alloc (.cells (madeCells #[.nilIface, .bool false] (n * 2)) 115) = W1 at *
  have hh := Go.Deep.blk_alloc_new W1 (.cells #[.pointer (some ⟨gb, 0, none⟩), .slice (some ⟨w.heap.size, 0, none⟩) n n, .int .i64 0, .slice none 0 0] 111)
  rw [e1] at hh
  have ha2 := ha.alloc (.cells #[.pointer (some ⟨gb, 0, none⟩), .slice (some ⟨w.heap.size, 0, none⟩) n n, .int .i64 0, .slice none 0 0] 111)
  have HB2 := HB1.alloc HB1.size (.cells #[.pointer (some ⟨gb, 0, none⟩), .slice (some ⟨w.heap.size, 0, none⟩) n n, .int .i64 0, .slice none 0 0] 111)
  generalize W1.alloc (.cells #[.pointer (some ⟨gb, 0, none⟩), .slice (some ⟨w.heap.size, 0, none⟩) n n, .int .i64 0, .slice none 0 0] 111) = W2 at hh ha2 HB2 ⊢
  have HST := Lib.hid (And.intro hh (And.intro ha2 HB2))
  clear hmk hW1 ha HB1 hh ha2 HB2
  go_loopw [16] (fun t16 wr => ∃ (i : Nat) (ax : Nat → Value), t16 = .int .i64 i ∧ i ≤ n ∧ (∀ j, j < i → ax j = xs j) ∧ wr.heap[w.heap.size + 1]? = some (.cells #[.pointer (some ⟨gb, 0, none⟩), .slice (some ⟨w.heap.size, 0, none⟩) n n, .int .i64 0, .slice none 0 0] 111 (0, 0)) ∧ wr.rowIs w.heap.size 115 (2 * n) (acCell ax (fun _ => false)) ∧ Below w.heap.size w wr) (fun t16 _ => n - (intOf t16).toNat)
  case atStart => exact ⟨0, _, rfl, Nat.zero_le _, fun j hj => absurd hj (Nat.not_lt_zero _), HST.out.1, HST.out.2.1, HST.out.2.2⟩
  case round =>
    obtain ⟨i, ax, rfl, hi, hax, hhd, hrow, hbw⟩ := hrel
    have HAX := Lib.hid hax
    have HHD := Lib.hid (And.intro hhd (And.intro hrow hbw))
    by_cases hlt : i < n
    · obtain ⟨bl, rfl, hbl, hcl⟩ := HL.out (by omega)
      have hcx := (hbw.cell (p := ⟨bl, i, none⟩) hbl).trans (hcl i hlt)
      have hc1 : wr.cell? ⟨w.heap.size + 1, 1, none⟩ = some (.slice (some ⟨w.heap.size, 0, none⟩) n n) := by simp [World.cell?, hhd]
      have hr0 := hrow.cell (i := i * 2) (by omega)
      have hf0 := hrow.frozen (i * 2)
      have hsh := (HH.out.2.1 i hlt).shape
      generalize hx : xs i = x at hcx hsh
      have HX := Lib.hid hx
      clear hax hhd hrow hbw hcl hx
      rcases hsh with ⟨rfl, _⟩ | ⟨T, y, rfl⟩
      all_goals
        go_wp2
        go_roundw
        case rel =>
          refine ⟨i + 1, upd ax i (xs i), by go_num, by omega, fun j hj => ?_, blkF HHD.out.1 (by omega) _, (HHD.out.2.1.set (i * 2) _).congr fun j _ => ?_, HHD.out.2.2.setCell (p := ⟨w.heap.size, i * 2, none⟩) (Nat.le_refl _) _⟩
          · by_cases e : j = i
            · subst e; exact upd_same _ _ _
            · rw [upd_other _ _ _ e]; exact HAX.out j (by omega)
          · rw [HX.out]; exact acCell_set _ _ _ _ _
        case measure => simp [intOf]; omega
    · obtain rfl : i = n := by omega
      clear hax hhd hrow hbw
      go_wp2
      go_ret
      obtain ⟨hhd, hrow, hbw⟩ := HHD.out
      obtain ⟨B, hm, hog, hoh, hlk⟩ := HH.out
      have hsz := (Array.getElem?_eq_some_iff.1 hhd).1
      have hold : ∀ k, k < w.heap.size → claimed (claimed o w.heap.size (fun k => k = w.heap.size) .ac) w.heap.size (fun k => k = w.heap.size + 1) .wd k = o k := fun k hk => (claimed_old hk).trans (claimed_old hk)
      refine ⟨w.heap.size + 1, w.heap.size, claimed (claimed o w.heap.size (fun k => k = w.heap.size) .ac) w.heap.size (fun k => k = w.heap.size + 1) .wd, rfl, Nat.le_succ _, ⟨hhd, hrow.congr fun j hj => ?_, B.below hbw, fun j hj => ?_, ⟨World.ownsRow_nil _ _ _ _, fun t ht => absurd ht (by simp), fun k hk => absurd hk (by simp [Value.ownBlock])⟩, rfl, claimed_new (Nat.le_succ _) rfl, (claimed_not fun e => by omega).trans (claimed_new (Nat.le_refl _) rfl), (hold gb B.g_lt).trans hog, (hold hb B.h_lt).trans hoh, fun k hk => ?_, HN.out, fun e he => absurd he (by simp [St.made])⟩, hbw, hold⟩
      · unfold acCell
        by_cases e : j % 2 = 0
        · rw [if_pos e, if_pos e]; exact HAX.out _ (by omega)
        · rw [if_neg e, if_neg e]; rfl
      · exact ((hm j hj).keep hbw.size fun k hk => hbw.block k (hlk k (by rw [hk]; simp))).mono fun k hk => (hold k (hlk k (by rw [hk]; simp))).trans hk
      · by_cases e : w.heap.size ≤ k ∧ k = w.heap.size + 1
        · omega
        · rw [claimed_not e] at hk
          by_cases e2 : w.heap.size ≤ k ∧ k = w.heap.size
          · omega
          · rw [claimed_not e2] at hk
            have := hlk k hk
            omega
end Go.Proofs.YtikcnioooihncaaGreat
namespace Go.Proofs.YtikcnioooihncaaGreat
open Go.RowKit

/-- A scheduler stands; all that was below stands as it was. -/
structure Stood (w0 w : World) (o : Nat → Pt) (gw ga gb hb : Nat) (ax : Nat → Value) (st : St) : Prop where
  sw : ∃ tv ts, Sw w o gw ga gb hb ax tv ts st
  low : Below w0.heap.size w0 w
  out : ∀ k, k < w0.heap.size → o k = .no

namespace Stood
variable {w0 w w' : World} {o o' : Nat → Pt} {gw ga gb hb : Nat} {ax : Nat → Value} {st st' : St}
theorem below (h : Stood w0 w o gw ga gb hb ax st) (hb' : Below w.heap.size w w') : Stood w0 w' o gw ga gb hb ax st := by
  obtain ⟨⟨tv, ts, hs⟩, h1, h2⟩ := h
  exact ⟨⟨tv, ts, hs.below hb'⟩, h1.trans (hb'.mono h1.size), h2⟩
theorem alloc (h : Stood w0 w o gw ga gb hb ax st) (q : Obj) : Stood w0 (w.alloc q) o gw ga gb hb ax st := h.below ((Below.refl _ _).alloc (Nat.le_refl _) q)
theorem after (h : Stood w0 w o gw ga gb hb ax st) (ht : Touch (Own o) w w') (hs : ∃ tv ts, Sw w' o' gw ga gb hb ax tv ts st') (ho : ∀ k, k < w.heap.size → o' k = o k) : Stood w0 w' o' gw ga gb hb ax st' :=
  ⟨hs, ⟨ht.os.trans h.low.os, ht.tape.trans h.low.tape, ht.output.trans h.low.output, Nat.le_trans h.low.size ht.size, fun k hk => (ht.block k (Nat.lt_of_lt_of_le hk h.low.size) fun e => e (h.out k hk)).trans (h.low.block k hk)⟩,
    fun k hk => (ho k (Nat.lt_of_lt_of_le hk h.low.size)).trans (h.out k hk)⟩
theorem new_no (h : Stood w0 w o gw ga gb hb ax st) {k : Nat} (hk : w.heap.size ≤ k) : o k = .no := by
  obtain ⟨⟨tv, ts, hs⟩, _, _⟩ := h
  exact hs.new_no hk
end Stood

/-- A block that is nobody's keeps its cells. -/
theorem nobody_cell {w w' : World} {o : Nat → Pt} (ht : Touch (Own o) w w') {q : Addr} (hq : q.block < w.heap.size) (hn : o q.block = .no) : w'.cell? q = w.cell? q :=
  World.cell?_of_block (ht.block q.block hq fun e => e hn)
end Go.Proofs.YtikcnioooihncaaGreat
namespace Go.Proofs.YtikcnioooihncaaGreat
open Go.RowKit

/-- A scheduler of one machine x stands; but for the buffer's two blocks nothing has turned since w1. -/
def OneAt (w1 w : World) (gw g h : Nat) (x : Value) (st : St) : Prop :=
  ∃ ga o, (∃ tv ts, Sw w o gw ga g h (fun i => if i = 0 then x else .nilIface) tv ts st) ∧ Touch (Two g h) w1 w ∧ ∀ k, k < w1.heap.size → k ≠ g → k ≠ h → o k = .no

theorem OneAt.buf {w1 w : World} {gw g h : Nat} {x : Value} {st : St} (hs : OneAt w1 w gw g h x st) : Buf w g h st.m st.nw st.c := by
  obtain ⟨ga, o, ⟨tv, ts, hs⟩, _⟩ := hs
  exact hs.buf
theorem OneAt.mach {w1 w : World} {gw g h : Nat} {x : Value} {st : St} (hs : OneAt w1 w gw g h x st) (hn : 0 < st.na) : ∃ F : Nat → Prop, MRep w F x (st.ms 0) ∧ ∀ k, F k → k < w.heap.size := by
  obtain ⟨ga, o, ⟨tv, ts, hs⟩, _⟩ := hs
  have h0 := hs.mach 0 hn
  rw [if_pos rfl] at h0
  exact ⟨_, h0, fun k hk => hs.lt k (by rw [hk]; simp)⟩
theorem OneAt.touch {w1 w : World} {gw g h : Nat} {x : Value} {st : St} (hs : OneAt w1 w gw g h x st) : Touch (Two g h) w1 w := by
  obtain ⟨ga, o, _, ht, _⟩ := hs
  exact ht

theorem oneNew {w1 w3 : World} {g h : Nat} {m : Nat → Nat} {nw : Nat} {c : Int} (B : Buf w1 g h m nw c) {T0 : TypeId} {y : Value} {mc : Mc} (hp : MRep w3 (fun k => w1.heap.size ≤ k ∧ k < w3.heap.size) (.iface T0 y) mc) (hb3 : Below w1.heap.size w1 w3) :
    ∀ T, Calls Tryz.prog 25 #[.pointer (some ⟨g, 0, none⟩), .slice (some ⟨w3.heap.size, 0, none⟩) 1 1] (w3.alloc (.cells #[.iface T0 y] T)) fun e w' => ∃ gw, e = .returned (.pointer (some ⟨gw, 0, none⟩)) ∧ OneAt w1 w' gw g h (.iface T0 y) (St.made 1 (fun i => if i = 0 then mc else .none) m nw c) := by
  intro T
  have s3 := hb3.size
  have hgl := B.g_lt
  have hhl := B.h_lt
  have hba := (Below.refl w3.heap.size w3).alloc (Nat.le_refl _) (.cells #[.iface T0 y] T)
  have e0 : (w3.alloc (.cells #[.iface T0 y] T)).heap.size = w3.heap.size + 1 := by simp
  have x0 := Go.Deep.blk_alloc_new w3 (.cells #[.iface T0 y] T)
  generalize w3.alloc (.cells #[.iface T0 y] T) = w4 at *
  have B4 := (B.below hb3).below hba
  refine (schedNew_any B4 (some ⟨w3.heap.size, 0, none⟩) 1 1 (fun i => if i = 0 then .iface T0 y else .nilIface) (fun i => if i = 0 then mc else .none) (by decide) (by decide) (by decide)
    (fun _ => ⟨w3.heap.size, rfl, by omega, fun i hi => ?_⟩) (o := fun k => if k = g ∨ k = h then .bf else if w1.heap.size ≤ k ∧ k < w3.heap.size then .ma 0 else .no) (fun i hi => ?_) ?_ ?_ (fun k hk => ?_)).mono ?_
  · match i, hi with
    | 0, _ => simp [World.cell?, x0]
  · match i, hi with
    | 0, _ =>
      refine MRep.mono (F := fun k => w1.heap.size ≤ k ∧ k < w3.heap.size) (hp.keep hba.size fun k hk => hba.block k hk.2) fun k hk => ?_
      show (if _ then _ else _) = _
      rw [if_neg (by omega), if_pos hk]
  · exact if_pos (.inl rfl)
  · exact if_pos (.inr rfl)
  · by_cases e1 : k = g ∨ k = h
    · omega
    · rw [if_neg e1] at hk
      by_cases e2 : w1.heap.size ≤ k ∧ k < w3.heap.size
      · omega
      · rw [if_neg e2] at hk
        exact absurd rfl hk
  · rintro e w' ⟨gw, ga, o', rfl, _, hs, hbl, ho⟩
    have hbl2 : Below w3.heap.size w3 w' := hba.trans (hbl.mono (by omega))
    refine ⟨gw, rfl, ga, o', ⟨_, _, hs⟩, Touch.of_below (hb3.trans (hbl2.mono s3)), fun k hk hg hh => ?_⟩
    rw [ho k (by omega)]
    show (if _ then _ else _) = _
    rw [if_neg (by omega), if_neg (by omega)]

theorem oneRobin {w1 w : World} {gw g h : Nat} {x : Value} {st : St} (hs : OneAt w1 w gw g h x st) (most : Nat) (hlong : st.tr.length + most ≤ 1000000) :
    Calls Tryz.prog 26 #[.pointer (some ⟨gw, 0, none⟩), .int .i64 most] w fun e w' => e = .returned (.int .i64 (st.robin most).2) ∧ OneAt w1 w' gw g h x (st.robin most).1 := by
  obtain ⟨ga, o, ⟨tv, ts, hs⟩, ht, ho⟩ := hs
  refine (robin_any hs most hlong).mono ?_
  rintro e w' ⟨rfl, o', tv', ts', hs', ht', ho'⟩
  refine ⟨rfl, ga, o', ⟨tv', ts', hs'⟩, ⟨ht'.os.trans ht.os, ht'.tape.trans ht.tape, ht'.output.trans ht.output, Nat.le_trans ht.size ht'.size, fun k hk hn => (ht'.block k (Nat.lt_of_lt_of_le hk ht.size) fun e => ?_).trans (ht.block k hk hn)⟩, fun k hk hg hh => ?_⟩
  · have h0 := ho k hk (fun e => hn (.inl e)) (fun e => hn (.inr e))
    exact e h0
  · rw [ho' k (Nat.lt_of_lt_of_le hk ht.size)]
    exact ho k hk hg hh

theorem rg_cells (w : World) (B Z : Int) :
    (w.alloc (.cells #[.int .i64 B, .int .i64 Z] 38)).cell? ⟨w.heap.size, 0, none⟩ = some (.int .i64 B) ∧ (w.alloc (.cells #[.int .i64 B, .int .i64 Z] 38)).cell? ⟨w.heap.size, 1, none⟩ = some (.int .i64 Z) := by
  have h := Go.Deep.blk_alloc_new w (.cells #[.int .i64 B, .int .i64 Z] 38)
  refine ⟨?_, ?_⟩ <;> (unfold World.cell?; simp only [h]; rfl)
end Go.Proofs.YtikcnioooihncaaGreat
namespace Go.Proofs.YtikcnioooihncaaGreat
open Go.RowKit

/-- A slice that reads as messages, in blocks that K names. -/
def MgsAt (K : Nat → Prop) (w : World) (v : Value) (ms : List (Int × List Int)) : Prop :=
  ∃ A c, v = .slice A ms.length c ∧ ms.length ≤ c ∧ c ≤ 9223372036854775807 ∧ (0 < ms.length → ∃ b, A = some ⟨b, 0, none⟩ ∧ K b ∧ b < w.heap.size ∧
    ∀ i t, ms[i]? = some t → ∃ d, w.cell? ⟨b, i * 2, none⟩ = some (.int .i32 t.1) ∧ w.cell? ⟨b, i * 2 + 1, none⟩ = some d ∧ BytesIn K w d t.2)

theorem msCells_at (l : List (Int × Value)) : ∀ (i : Nat) (t : Int × Value), l[i]? = some t → (msCells l)[i * 2]? = some (.int .i32 t.1) ∧ (msCells l)[i * 2 + 1]? = some t.2 := by
  induction l with
  | nil => intro i t h; simp at h
  | cons x l ih =>
    intro i t h
    obtain ⟨t0, v0⟩ := x
    cases i with
    | zero =>
      rw [List.getElem?_cons_zero] at h
      injection h with h
      subst h
      exact ⟨rfl, rfl⟩
    | succ i =>
      rw [List.getElem?_cons_succ] at h
      have := ih i t h
      show (Value.int .i32 t0 :: v0 :: msCells l)[(i + 1) * 2]? = _ ∧ (Value.int .i32 t0 :: v0 :: msCells l)[(i + 1) * 2 + 1]? = _
      rw [show (i + 1) * 2 = i * 2 + 1 + 1 by omega]
      simpa using this

theorem msCells_len (l : List (Int × Value)) : (msCells l).length = l.length * 2 := by
  induction l with
  | nil => rfl
  | cons x l ih =>
    obtain ⟨t0, v0⟩ := x
    show (Value.int .i32 t0 :: v0 :: msCells l).length = _
    rw [List.length_cons, List.length_cons, ih, List.length_cons]
    omega

namespace MgsAt
variable {K K' : Nat → Prop} {w w' : World} {v : Value} {ms : List (Int × List Int)}
theorem keep (h : MgsAt K w v ms) (hs : w.heap.size ≤ w'.heap.size) (hb : ∀ k, K k → k < w.heap.size → w'.heap[k]? = w.heap[k]?) : MgsAt K w' v ms := by
  obtain ⟨A, c, hv, h1, h2, h3⟩ := h
  refine ⟨A, c, hv, h1, h2, fun hp => ?_⟩
  obtain ⟨b, e, hk, hl, hr⟩ := h3 hp
  refine ⟨b, e, hk, Nat.lt_of_lt_of_le hl hs, fun i t hi => ?_⟩
  obtain ⟨d, h4, h5, h6⟩ := hr i t hi
  exact ⟨d, (World.cell?_of_block (w := w) (a := ⟨b, i * 2, none⟩) (hb b hk hl)).trans h4, (World.cell?_of_block (w := w) (a := ⟨b, i * 2 + 1, none⟩) (hb b hk hl)).trans h5, h6.keep hs hb⟩
theorem below (h : MgsAt K w v ms) (hb : Below w.heap.size w w') : MgsAt K w' v ms := h.keep hb.size fun k _ hl => hb.block k hl
theorem touch {S : Nat → Prop} (h : MgsAt K w v ms) (ht : Touch S w w') (hn : ∀ k, K k → k < w.heap.size → ¬ S k) : MgsAt K w' v ms := h.keep ht.size fun k hk hl => ht.block k hl (hn k hk hl)
theorem mono (h : MgsAt K w v ms) (hK : ∀ k, K k → k < w.heap.size → K' k) : MgsAt K' w v ms := by
  obtain ⟨A, c, hv, h1, h2, h3⟩ := h
  refine ⟨A, c, hv, h1, h2, fun hp => ?_⟩
  obtain ⟨b, e, hk, hl, hr⟩ := h3 hp
  refine ⟨b, e, hK b hk hl, hl, fun i t hi => ?_⟩
  obtain ⟨d, h4, h5, h6⟩ := hr i t hi
  exact ⟨d, h4, h5, h6.mono hK⟩
theorem none (K : Nat → Prop) (w : World) : MgsAt K w (.slice Option.none 0 0) [] := ⟨Option.none, 0, rfl, Nat.le_refl _, by decide, fun h => absurd h (by simp)⟩
end MgsAt

/-- A row of its own reads as messages. -/
theorem MsAt.read {K : Nat → Prop} {w : World} {mv : Value} {ms : List (Int × List Int)} (h : MsAt K w mv ms) : MgsAt K w mv ms := by
  obtain ⟨vs, h1, h2, h3, h4⟩ := h
  have h0 := h2
  rcases h2.2 with ⟨hv, hn⟩ | ⟨g, cap, cur, hv, _, h5, h6, h7, _⟩
  · have hms : ms = [] := List.eq_nil_of_length_eq_zero hn
    subst hms
    rw [hv]
    exact MgsAt.none K w
  · refine ⟨some ⟨g, 0, none⟩, cap, hv, h6, by unfold maxLen at h7; omega, fun _ => ⟨g, rfl, h3 g (by rw [hv]; rfl), (Array.getElem?_eq_some_iff.1 h5).1, fun i t hi => ?_⟩⟩
    have hil : i < ms.length := (List.getElem?_eq_some_iff.1 hi).1
    have hiv : i < vs.length := by omega
    have hit : ms[i] = t := (List.getElem?_eq_some_iff.1 hi).2
    have hz : ((ms.map Prod.fst).zip vs)[i]? = some (t.1, vs[i]) := by
      rw [List.getElem?_eq_getElem (by simp; omega), List.getElem_zip, List.getElem_map, hit]
    obtain ⟨e1, e2⟩ := msCells_at _ i _ hz
    have add : ∀ j, (⟨g, 0, none⟩ : Addr).add j = ⟨g, j, none⟩ := fun j => by unfold Addr.add; split <;> simp_all
    have c1 := h0.cells (g := g) (by rw [hv]; rfl) _ _ e1
    have c2 := h0.cells (g := g) (by rw [hv]; rfl) _ _ e2
    rw [add] at c1 c2
    refine ⟨vs[i], c1, c2, ?_⟩
    have := (h4 i hil hiv).mono (K' := K) fun k hk _ => hk.1
    rw [hit] at this
    exact this

/-- Cells stored in one block turn no other. -/
theorem mgSet_far (w : World) (b : Nat) : ∀ (vs : List Value) (o : Nat) {k : Nat}, k ≠ b → (w.setCells b o vs).heap[k]? = w.heap[k]? := by
  intro vs
  induction vs generalizing w with
  | nil => intro o k _; rfl
  | cons v r ih =>
    intro o k hk
    show ((w.setCell ⟨b, o, none⟩ v).setCells b (o + 1) r).heap[k]? = _
    rw [ih _ _ hk, Below.heap_setCell _ _ _ _ hk]
theorem mgSet_size (w : World) (b : Nat) : ∀ (vs : List Value) (o : Nat), (w.setCells b o vs).heap.size = w.heap.size := by
  intro vs
  induction vs generalizing w with
  | nil => intro o; rfl
  | cons v r ih =>
    intro o
    show ((w.setCell ⟨b, o, none⟩ v).setCells b (o + 1) r).heap.size = _
    rw [ih]
    simp [World.setCell]

/-- The zeros of new messages. -/
def zmg (j : Nat) : Value := ([.int .i32 0, .slice none 0 0] : List Value).getD (j % 2) undef
/-- A copy: a message, its bytes' slice. -/
abbrev Mx := (Int × List Int) × Value
def mxCells (qs : List Mx) : List Value := msCells (qs.map fun q => (q.1.1, q.2))
/-- A row of messages whose first are copied. -/
def mrowF (qs : List Mx) (j : Nat) : Value := (mxCells qs).getD j (zmg j)

theorem mrowF_nil (j : Nat) : mrowF [] j = zmg j := by simp [mrowF, mxCells, msCells]
theorem mrowF_next (qs : List Mx) (t : Int) (ys : List Int) (v : Value) (j : Nat) : mrowF (qs ++ [((t, ys), v)]) j = if qs.length * 2 ≤ j ∧ j < qs.length * 2 + ([.int .i32 t, v] : List Value).length then ([.int .i32 t, v] : List Value)[j - qs.length * 2]?.getD default else mrowF qs j := by
  unfold mrowF
  have hl : (mxCells qs).length = qs.length * 2 := by unfold mxCells; rw [msCells_len, List.length_map]
  have he : mxCells (qs ++ [((t, ys), v)]) = mxCells qs ++ [.int .i32 t, v] := by
    unfold mxCells
    rw [List.map_append, List.map_cons, List.map_nil, msCells_app]
  rw [he]
  by_cases h1 : j < qs.length * 2
  · rw [if_neg (by omega), List.getD_eq_getElem?_getD, List.getD_eq_getElem?_getD, List.getElem?_append_left (by omega)]
  · by_cases h2 : j < qs.length * 2 + ([.int .i32 t, v] : List Value).length
    · rw [if_pos ⟨by omega, h2⟩, List.getD_eq_getElem?_getD, List.getElem?_append_right (by omega), hl]
      have h3 : j - qs.length * 2 < ([.int .i32 t, v] : List Value).length := by omega
      rw [List.getElem?_eq_getElem h3]
      rfl
    · rw [if_neg (by omega), List.getD_eq_getElem?_getD, List.getD_eq_getElem?_getD, List.getElem?_eq_none (by rw [List.length_append]; omega), List.getElem?_eq_none (by omega)]

theorem make_mgs (n : Nat) (hn : n ≤ 1000001) (W : World) :
    (Instr.makeSlice 39 (.int .i64 (n : Int)) (.int .i64 (n : Int))).run Tryz.prog W = .ok (.slice (some ⟨W.heap.size, 0, none⟩) n n) (W.alloc (.cells (madeCells #[.int .i32 0, .slice none 0 0] (n * 2)) 69)) := by
  obtain ⟨i, hi, hz, hs, hby⟩ := info_parts infoMsg
  have hr := run_make (P := Tryz.prog) W 39 69 i (.agg #[.int .i32 0, .slice none 0 0]) Tryz.underlying39 hi hz .i64 .i64 (n : Int) (n : Int) (by omega) (Int.le_refl _) (by rw [hby]; omega) (by omega)
  rw [hs] at hr
  simpa [Value.cells] using hr

theorem made_mgs (w : World) (n : Nat) : (w.alloc (.cells (madeCells #[.int .i32 0, .slice none 0 0] (n * 2)) 69)).rowIs w.heap.size 69 (n * 2) (mrowF []) :=
  ⟨_, Go.Deep.blk_alloc_new _ _, size_madeCells _ _, fun i hi => by
    rw [mrowF_nil]
    unfold zmg madeCells
    have hm : i % 2 < 2 := Nat.mod_lt _ (by decide)
    simp [hi, hm, List.getD]⟩

/-- Messages were told, in new memory. -/
def MsgsTold (ms : List (Int × List Int)) (w : World) (e : Ending) (w' : World) : Prop :=
  ∃ v, e = .returned v ∧ MgsAt (fun k => w.heap.size ≤ k) w' v ms ∧ Below w.heap.size w w'

theorem mg_take {α : Type} {l : List α} {i : Nat} {t : α} (h : l[i]? = some t) : l.take (i + 1) = l.take i ++ [t] := by
  rw [List.take_add_one, h]; rfl
end Go.Proofs.YtikcnioooihncaaGreat
namespace Go.Proofs.YtikcnioooihncaaGreat
open Go.RowKit

set_option linter.unusedSimpArgs false in
set_option maxRecDepth 100000 in
set_option maxHeartbeats 4000000 in
theorem msgsCopy {K : Nat → Prop} {w : World} {v : Value} {ms : List (Int × List Int)} (h : MgsAt K w v ms) (hlong : ms.length ≤ 1000000) (hbytes : ∀ t ∈ ms, t.2.length ≤ 1073741824) :
    Calls Tryz.prog 31 #[v] w (MsgsTold ms w) := by
  obtain ⟨A, c, rfl, hlc, hcm, hcells⟩ := h
  have HTB := Lib.hid hbytes
  clear hbytes
  have hHW := (Below.refl w.heap.size w).alloc (Nat.le_refl _) (.cells (madeCells #[.int .i32 0, .slice none 0 0] (ms.length * 2)) 69)
  have HM := Lib.hid (And.intro hHW (made_mgs w ms.length))
  have hmk := make_mgs ms.length (by omega)
  have HC := Lib.hid hcells
  clear hHW hcells
  go_enter Tryz.func31, Tryz.ntmps31
  go_wp2
  generalize w.alloc (.cells (madeCells #[.int .i32 0, .slice none 0 0] (ms.length * 2)) 69) = W at HM ⊢
  clear hmk
  go_loopw [11] (fun t wr => ∃ (i : Nat) (qs : List Mx), t = .int .i64 i ∧ i ≤ ms.length ∧ qs.length = i ∧ qs.map Prod.fst = ms.take i ∧ Below w.heap.size w wr ∧ wr.rowIs w.heap.size 69 (ms.length * 2) (mrowF qs) ∧ ∀ q ∈ qs, BytesIn (fun k => w.heap.size < k) wr q.2 q.1.2) (fun t _ => ms.length - (intOf t).toNat)
  case atStart => exact ⟨0, [], rfl, Nat.zero_le _, rfl, by simp, HM.out.1, HM.out.2, fun _ h => by cases h⟩
  case round =>
    obtain ⟨i, qs, rfl, hi, hq, hqe, hbw, hri, htx⟩ := hrel
    have HQ := Lib.hid (And.intro hq hqe)
    have HBW := Lib.hid hbw
    have HRI := Lib.hid (And.intro hri htx)
    have hsz := hbw.size
    have hBl := hri.lt
    clear hq hqe hri htx hbw
    by_cases hlt : i < ms.length
    · obtain ⟨b, rfl, _, hbl, hcc⟩ := HC.out (by omega)
      obtain ⟨d, x0, x1, xd⟩ := hcc i ms[i] (List.getElem?_eq_getElem hlt)
      have HT : Hid (ms[i]? = some ms[i]) := Lib.hid (List.getElem?_eq_getElem hlt)
      have hly := HTB.out ms[i] (List.getElem_mem hlt)
      generalize ms[i] = t at x0 x1 xd HT hly
      obtain ⟨ty, ys⟩ := t
      obtain ⟨Ad, cd, e1⟩ := xd.length
      have e1' : d = .slice Ad ys.length cd := e1
      subst e1'
      have c0 : wr.cell? ⟨b, i * 2, none⟩ = some (.int .i32 ty) := (HBW.out.cell (p := ⟨b, i * 2, none⟩) hbl).trans x0
      have c1 : wr.cell? ⟨b, i * 2 + 1, none⟩ = some (.slice Ad ys.length cd) := (HBW.out.cell (p := ⟨b, i * 2 + 1, none⟩) hbl).trans x1
      have HXD := Lib.hid (xd.bytes.below HBW.out)
      clear x0 x1 xd hcc e1
      have hb1 := (Below.refl wr.heap.size wr).alloc (Nat.le_refl _) (.cells #[.int .i32 ty, .slice Ad ys.length cd] 69)
      have hbx := Go.Deep.blk_alloc_new wr (.cells #[.int .i32 ty, .slice Ad ys.length cd] 69)
      have HB1 := Lib.hid hb1
      have HBX := Lib.hid hbx
      have hsz1 : wr.heap.size < (wr.alloc (.cells #[.int .i32 ty, .slice Ad ys.length cd] 69)).heap.size := by simp
      clear hb1 hbx
      go_upto_region 5 with (fail)
      generalize wr.alloc (.cells #[.int .i32 ty, .slice Ad ys.length cd] 69) = w1 at HB1 HBX hsz1 ⊢
      have s0 : w1.cell? ⟨wr.heap.size, 0, none⟩ = some (.int .i32 ty) := by simp [World.cell?, HBX.out]
      have s1 : w1.cell? ⟨wr.heap.size, 1, none⟩ = some (.slice Ad ys.length cd) := by simp [World.cell?, HBX.out]
      have HR1 := Lib.hid (HRI.out.1.of_block (HB1.out.block w.heap.size hBl))
      have r0 := HR1.out.cell (i := i * 2) (by omega)
      have f0 := HR1.out.frozen (i * 2)
      have r1 := HR1.out.cell (i := i * 2 + 1) (by omega)
      have f1 := HR1.out.frozen (i * 2 + 1)
      have hfar : w.heap.size ≠ wr.heap.size := by omega
      clear c0 c1
      go_region_held3 (fun w' => w'.cell? ⟨wr.heap.size, 0, none⟩ = some (.int .i32 ty) ∧ w'.cell? ⟨wr.heap.size, 1, none⟩ = some (.slice Ad ys.length cd)) (first | go_keep | exact ⟨(World.cell?_setCell_far _ _ _ _ hfar).trans ((World.cell?_setCell_far _ _ _ _ hfar).trans q0), (World.cell?_setCell_far _ _ _ _ hfar).trans ((World.cell?_setCell_far _ _ _ _ hfar).trans q1)⟩)
        (first | (go_at_call 46; refine (clone_sl Ad ys.length cd ys _ ((HXD.out.below HB1.out).below (Below.refl _ _).drew) hly).mono ?_; rintro e w2 ⟨B1, m1, rfl, ho1, hbl1⟩; have HR2 := Lib.hid (HR1.out.of_block ((below_drew hbl1).block w.heap.size HR1.out.lt)); have p0 := HR2.out.cell (i := i * 2) (by omega); have p1 := HR2.out.frozen (i * 2); have p2 := HR2.out.cell (i := i * 2 + 1) (by omega); have p3 := HR2.out.frozen (i * 2 + 1); have q0 := (below_drew hbl1).cell (p := ⟨wr.heap.size, 0, none⟩) hsz1 |>.trans s0; have q1 := (below_drew hbl1).cell (p := ⟨wr.heap.size, 1, none⟩) hsz1 |>.trans s1))
      have hb12 := HB1.out.trans ((below_drew hbl1).mono HB1.out.size)
      have hb2 := HBW.out.trans (hb12.mono hsz)
      have hs12 := hb12.size
      have HO := Lib.hid ho1
      have hqn := HQ.out.1
      go_wp2
      refine ⟨⟨i + 1, qs ++ [((ty, ys), .slice B1 ys.length m1)], by go_num, by omega, by rw [List.length_append, hqn]; rfl, ?_, below_setCells (Nat.le_refl _) [.int .i32 ty, .slice B1 ys.length m1] (i * 2) w2 hb2, ?_, fun q hqm => ?_⟩, by simp only [intOf]; omega⟩
      · rw [mg_take HT.out, List.map_append, HQ.out.2]; rfl
      · have hz := rowIs_setCells [.int .i32 ty, .slice B1 ys.length m1] (i * 2) w2 _ HR2.out
        rw [← hqn] at hz ⊢
        exact hz.congr fun j _ => (mrowF_next qs ty ys (.slice B1 ys.length m1) j).symm
      · have hin : BytesIn (fun k => w.heap.size < k) w2 q.2 q.1.2 := by
          rcases List.mem_append.1 hqm with hm | hm
          · exact (HRI.out.2 q hm).below hb12
          · obtain rfl : q = ((ty, ys), .slice B1 ys.length m1) := by simpa using hm
            exact (BytesIn.of_own HO.out).mono fun k hk _ => by have hk2 : w1.heap.size ≤ k := (by simpa using hk); omega
        exact hin.keep (w' := w2.setCells w.heap.size (i * 2) [.int .i32 ty, .slice B1 ys.length m1]) (Nat.le_of_eq (mgSet_size _ _ _ _).symm) fun k hk _ => mgSet_far _ _ _ _ (by omega)
    · obtain rfl : i = ms.length := by omega
      go_wp2
      go_ret
      refine ⟨_, rfl, ?_, HBW.out⟩
      refine ⟨_, _, rfl, Nat.le_refl _, by omega, fun hp => ⟨_, rfl, Nat.le_refl _, hBl, fun j t hj => ?_⟩⟩
      have hj2 : j < ms.length := (List.getElem?_eq_some_iff.1 hj).1
      have hq1 := HQ.out.1
      have hqj : qs[j]? = some qs[j] := List.getElem?_eq_getElem (by omega)
      have hft : qs[j].1 = t := by
        have h2 := congrArg (fun l => l[j]?) HQ.out.2
        simp only [List.getElem?_map, hqj, List.take_of_length_le (Nat.le_refl _), hj, Option.map_some, Option.some.injEq] at h2
        exact h2
      have hx := msCells_at (qs.map fun q => (q.1.1, q.2)) j (qs[j].1.1, qs[j].2) (by rw [List.getElem?_map, hqj]; rfl)
      refine ⟨qs[j].2, ?_, ?_, ?_⟩
      · rw [HRI.out.1.cell (i := j * 2) (by omega)]
        unfold mrowF mxCells
        rw [List.getD_eq_getElem?_getD, hx.1, ← hft]
        rfl
      · rw [HRI.out.1.cell (i := j * 2 + 1) (by omega)]
        unfold mrowF mxCells
        rw [List.getD_eq_getElem?_getD, hx.2]
        rfl
      · have := HRI.out.2 qs[j] (List.getElem_mem (by omega))
        rw [hft] at this
        exact this.mono fun k hk _ => Nat.le_of_lt hk

set_option maxRecDepth 100000 in
set_option maxHeartbeats 800000 in
theorem getMessages {w : World} {F : Nat → Prop} {g : Nat} {m : Gm} (h : GmAt w F g m) (hbytes : ∀ t ∈ m.told, t.2.length ≤ 1073741824) :
    Calls Tryz.prog 12 #[.pointer (some ⟨g, 0, none⟩)] w (MsgsTold m.told w) := by
  obtain ⟨mv, K, hc, hm, hl⟩ : ∃ (mv : Value) (K : Nat → Prop), w.cell? ⟨g, 12, none⟩ = some mv ∧ MgsAt K w mv m.told ∧ m.told.length ≤ 1000000 := by
    cases m with
    | live s =>
      obtain ⟨M, a, av, th, mv, h1, _, h3, _, _, h6, _⟩ := h
      refine ⟨mv, M, h1.c12, h6.read, ?_⟩
      have e1 := h3.few
      have e2 := h3.dn0
      have e3 := h3.rg.z1
      have e4 := h3.rg.place_in s.h
      show s.ms.length ≤ _
      omega
    | dead => exact ⟨_, fun _ => False, h.2.c12, MgsAt.none _ _, Nat.zero_le _⟩
  have HC := Lib.hid (msgsCopy hm hl hbytes)
  clear h hm hl hbytes
  go_enter Tryz.func12, Tryz.ntmps12
  go_wp2_with fail
  refine HC.out.mono ?_
  rintro e w2 ⟨v, rfl, hv⟩
  have HV := Lib.hid hv
  clear hv
  go_wp2
  go_ret
  exact ⟨v, rfl, HV.out⟩

set_option maxRecDepth 100000 in
theorem getMessagesNil (w : World) : Calls Tryz.prog 12 #[.pointer none] w (fun e w' => e = .returned (.slice none 0 0) ∧ w = w') := by
  go_enter Tryz.func12, Tryz.ntmps12
  go_wp2
  go_ret
  exact ⟨rfl, rfl⟩
end Go.Proofs.YtikcnioooihncaaGreat
namespace Go.Proofs.YtikcnioooihncaaGreat
open Go.RowKit

/-- A get's machine, if it is one. -/
def Mc.getOf : Mc → Gm
  | .get m => m
  | _ => .dead
def Mc.isGet : Mc → Bool
  | .get _ => true
  | _ => false
theorem Mc.get_is {s : Mc} (h : s.isGet = true) : s = .get s.getOf := by
  cases s with
  | get m => rfl
  | _ => cases h

/-- The bytes "hello". -/
def gtHi (k : Nat) : Nat := if k = 0 then 104 else if k = 1 then 101 else if k = 2 then 108 else if k = 3 then 108 else if k = 4 then 111 else 0
theorem gtHi_isB : Mb.IsB gtHi := fun k => by unfold gtHi; split <;> (try split) <;> (try split) <;> (try split) <;> (try split) <;> decide
theorem gtHi_at (w : World) : BytesAt (w.alloc (.cells #[.int .u8 104, .int .u8 101, .int .u8 108, .int .u8 108, .int .u8 111] 5 (5, 6))) (.slice (some ⟨w.heap.size, 0, none⟩) 5 5) (Mb.bl gtHi 0 5) := by
  have h := Go.Deep.blk_alloc_new w (.cells #[.int .u8 104, .int .u8 101, .int .u8 108, .int .u8 108, .int .u8 111] 5 (5, 6))
  refine ⟨_, _, rfl, fun _ => ⟨w.heap.size, 0, rfl, by simp, fun i hi => ?_⟩⟩
  have hi2 : i < 5 := hi
  match i, hi2 with
  | 0, _ => unfold World.cell?; simp only [h]; rfl
  | 1, _ => unfold World.cell?; simp only [h]; rfl
  | 2, _ => unfold World.cell?; simp only [h]; rfl
  | 3, _ => unfold World.cell?; simp only [h]; rfl
  | 4, _ => unfold World.cell?; simp only [h]; rfl
/-- The states. -/
def gz0 : St := St.made 1 (fun i => if i = 0 then .get (Gm.new 0 64 9) else .none) (fun _ => 0) 12 0
def gz1 : St := (gz0.robin 99).1
def gz2 : St := St.made 1 (fun i => if i = 0 then .put (Pm.new 0 64 3 gtHi 5) else .none) gz1.m gz1.nw gz1.c
def gz3 : St := (gz2.robin 99).1
def gz4 : St := St.made 1 (fun i => if i = 0 then .get (Gm.new 0 64 9) else .none) gz3.m gz3.nw gz3.c
def gz5 : St := (gz4.robin 99).1
theorem gz1_is : (gz1.ms 0).isGet = true := by decide +kernel
theorem gz1_res : (gz1.ms 0).getOf.result = (0, 0) := by decide +kernel
theorem gz1_na : 0 < gz1.na := by decide +kernel
theorem gz5_is : (gz5.ms 0).isGet = true := by decide +kernel
theorem gz5_res : (gz5.ms 0).getOf.result = (16, 0) := by decide +kernel
theorem gz5_na : 0 < gz5.na := by decide +kernel
theorem gz5_told : (gz5.ms 0).getOf.told = [(3, [104, 101, 108, 108, 111])] := by decide +kernel
theorem gz0_len : gz0.tr.length + 99 ≤ 1000000 := by decide +kernel
theorem gz2_len : gz2.tr.length + 99 ≤ 1000000 := by decide +kernel
theorem gz4_len : gz4.tr.length + 99 ≤ 1000000 := by decide +kernel

/-- What the machine of a scheduler of one, a get, stands as. -/
theorem OneAt.getAt {w1 w : World} {gw g h gp : Nat} {st : St} (hs : OneAt w1 w gw g h (.iface 27 (.pointer (some ⟨gp, 0, none⟩))) st) (hn : 0 < st.na) (hi : (st.ms 0).isGet = true) : ∃ F : Nat → Prop, GmAt w F gp (st.ms 0).getOf ∧ ∀ k, F k → k < w.heap.size := by
  obtain ⟨F, hm, hF⟩ := hs.mach hn
  rw [Mc.get_is hi] at hm
  obtain ⟨g', e, hp, _⟩ := hm
  injection e with _ e
  injection e with e
  injection e with e
  injection e with e
  subst e
  exact ⟨F, hp, hF⟩
/-- What it tells of its end. -/
theorem OneAt.got {w1 w : World} {gw g h gp : Nat} {st : St} (hs : OneAt w1 w gw g h (.iface 27 (.pointer (some ⟨gp, 0, none⟩))) st) (hn : 0 < st.na) (hi : (st.ms 0).isGet = true) {r : Int × Int} (hr : (st.ms 0).getOf.result = r) :
    Calls Tryz.prog 10 #[.pointer (some ⟨gp, 0, none⟩)] w (fun e w' => e = .returned (.tuple #[.int .i64 r.1, .int .i64 r.2]) ∧ Below w.heap.size w w') := by
  obtain ⟨F, hp, _⟩ := hs.getAt hn hi
  have := getResult hp
  rw [hr] at this
  refine this.mono ?_
  rintro e w' ⟨rfl, j, rfl⟩
  exact ⟨rfl, below_drewN (Below.refl _ _) j⟩

set_option maxRecDepth 100000 in
set_option maxHeartbeats 2000000 in
theorem fixed8_any (w : World) : Calls Tryz.prog 7 #[] w (TrueBelow w) := by
  go_enter Tryz.func7, Tryz.ntmps7
  go_upto_region 2 with (go_at_call 14; refine (new_yes 96 12 _ (by decide) (by decide) (by decide) (by decide)).mono ?_; rintro e w1 ⟨g, h, rfl, B, hg, hh, hb1⟩)
  go_upto_region 3 with (fail)
  have hb2 := un_below w1 (.int .i64 0) (.int .i64 64) 38
  obtain ⟨r0, r1⟩ := rg_cells w1 0 64
  have B2 := B.below hb2
  have hgl := B.g_lt
  have hhl := B.h_lt
  generalize w1.alloc (.cells #[.int .i64 0, .int .i64 64] 38) = w2 at hb2 r0 r1 B2 ⊢
  have HQ := Lib.hid (And.intro hg (And.intro hh (And.intro hgl hhl)))
  have HB2 := Lib.hid (hb1.trans (hb2.mono hb1.size))
  have HBUF := Lib.hid B2
  have hrg : ¬ Two g h w1.heap.size := fun e => by rcases e with e | e <;> omega
  have HRG := Lib.hid hrg
  clear B B2 hb1 hb2 hg hh hgl hhl hrg
  go_upto_region 4 with (go_at_call 11; refine (gtNew 0 64 9 (by decide) (by decide) (by decide) w2).mono ?_; rintro e w3 ⟨gp, rfl, hp, hb3⟩; have HP := Lib.hid hp; have HB3 := Lib.hid hb3; clear hp hb3)
  have HNEW := Lib.hid (oneNew (y := .pointer (some ⟨gp, 0, none⟩)) (T0 := 27) (mc := .get (Gm.new 0 64 9)) HBUF.out ⟨gp, rfl, HP.out, Gm.new_short 0 64 9⟩ HB3.out)
  go_upto_region 5 with (first
    | (go_at_call 25; refine (HNEW.out _).mono ?_; rintro e w5 ⟨gw, rfl, hs5⟩; have HS5 := Lib.hid hs5; clear hs5)
    | (go_at_call 26; refine (oneRobin (st := gz0) HS5.out 99 gz0_len).mono ?_; rintro e w6 ⟨rfl, hs6⟩; have HS6 : Hid (OneAt w2 w6 gw g h (.iface 27 (.pointer (some ⟨gp, 0, none⟩))) gz1) := Lib.hid hs6; clear hs6))
  clear HNEW HP HS5 HBUF
  go_upto_region 6 with (go_at_call 10; refine (HS6.out.got gz1_na gz1_is gz1_res).mono ?_; rintro e w7 ⟨rfl, hb7⟩)
  have hlr := lt_of_cell r0
  have q0' := (HS6.out.touch.cell (p := ⟨w1.heap.size, 0, none⟩) hlr HRG.out).trans r0
  have q0 := (hb7.cell (p := ⟨w1.heap.size, 0, none⟩) (lt_of_cell q0')).trans q0'
  have q1 := (hb7.cell (p := ⟨w1.heap.size, 1, none⟩) (lt_of_cell q0')).trans ((HS6.out.touch.cell (p := ⟨w1.heap.size, 1, none⟩) hlr HRG.out).trans r1)
  have HL6' := HS6.out.touch.below HB2.out HB2.out.size fun k hk => by rcases hk with e | e <;> rw [e] <;> first | exact HQ.out.1 | exact HQ.out.2.1
  have HL6 := Lib.hid (HL6'.trans (hb7.mono HL6'.size))
  have HBUF6 := Lib.hid (HS6.out.buf.below hb7)
  have hlr6 := lt_of_cell q0
  clear r0 r1 hlr HS6 HB2 HB3 q0' HL6' hb7
  have hbz := (Below.refl w7.heap.size w7).alloc (Nat.le_refl _) (.cells #[.int .u8 104, .int .u8 101, .int .u8 108, .int .u8 108, .int .u8 111] 5 (5, 6))
  have HBY := Lib.hid (gtHi_at w7)
  have hconv : (convert 23 23 (.slice (some ⟨w7.heap.size, 0, none⟩) 5 5)).run Tryz.prog (w7.alloc (.cells #[.int .u8 104, .int .u8 101, .int .u8 108, .int .u8 108, .int .u8 111] 5))
      = .ok (.slice (some ⟨w7.heap.size, 0, none⟩) 5 5) (w7.alloc (.cells #[.int .u8 104, .int .u8 101, .int .u8 108, .int .u8 108, .int .u8 111] 5 (5, 6))) := Lib.run_convert_bytes_const w7 23 5 #[.int .u8 104, .int .u8 101, .int .u8 108, .int .u8 108, .int .u8 111] 5 5 Tryz.underlying23 Tryz.underlying5
  go_upto_region 7 with (first
    | (go_at_call 20; refine (rpNew 0 64 3 (by decide) (by decide) (by decide) _ 5 5 gtHi gtHi_isB _ HBY.out).mono ?_; rintro e w8 ⟨gp2, rfl, hp8, hb8⟩; have HB8 := Lib.hid (hbz.trans (hb8.mono hbz.size)); have HNEW2 := Lib.hid (oneNew (y := .pointer (some ⟨gp2, 0, none⟩)) (T0 := 58) (mc := .put (Pm.new 0 64 3 gtHi 5)) HBUF6.out ⟨gp2, rfl, hp8.wide fun k hk => ⟨Nat.le_trans hbz.size hk.1, hk.2⟩⟩ HB8.out); clear hp8 hb8)
    | (go_at_call 25; refine (HNEW2.out _).mono ?_; rintro e w9 ⟨gw2, rfl, hs9⟩; have HS9 : Hid (OneAt w7 w9 gw2 g h (.iface 58 (.pointer (some ⟨gp2, 0, none⟩))) gz2) := Lib.hid hs9; clear hs9)
    | (go_at_call 26; refine (oneRobin (st := gz2) HS9.out 99 gz2_len).mono ?_; rintro e w10 ⟨rfl, hs10⟩; have HS10 : Hid (OneAt w7 w10 gw2 g h (.iface 58 (.pointer (some ⟨gp2, 0, none⟩))) gz3) := Lib.hid hs10; clear hs10))
  have s0 := (HS10.out.touch.cell (p := ⟨w1.heap.size, 0, none⟩) hlr6 HRG.out).trans q0
  have s1 := (HS10.out.touch.cell (p := ⟨w1.heap.size, 1, none⟩) hlr6 HRG.out).trans q1
  have HL10 := Lib.hid (HS10.out.touch.below HL6.out HL6.out.size fun k hk => by rcases hk with e | e <;> rw [e] <;> first | exact HQ.out.1 | exact HQ.out.2.1)
  have HBUF10 := Lib.hid HS10.out.buf
  clear hconv q0 q1 hlr6 HS10 HS9 HNEW2 HB8 HBY hbz HBUF6 HL6
  go_upto_region 8 with (go_at_call 11; refine (gtNew 0 64 9 (by decide) (by decide) (by decide) w10).mono ?_; rintro e w11 ⟨gp3, rfl, hp, hb11⟩; have HP := Lib.hid hp; have HB11 := Lib.hid hb11; clear hp hb11)
  have HNEW := Lib.hid (oneNew (y := .pointer (some ⟨gp3, 0, none⟩)) (T0 := 27) (mc := .get (Gm.new 0 64 9)) HBUF10.out ⟨gp3, rfl, HP.out, Gm.new_short 0 64 9⟩ HB11.out)
  go_upto_region 9 with (first
    | (go_at_call 25; refine (HNEW.out _).mono ?_; rintro e w12 ⟨gw3, rfl, hs12⟩; have HS12 : Hid (OneAt w10 w12 gw3 g h (.iface 27 (.pointer (some ⟨gp3, 0, none⟩))) gz4) := Lib.hid hs12; clear hs12)
    | (go_at_call 26; refine (oneRobin (st := gz4) HS12.out 99 gz4_len).mono ?_; rintro e w13 ⟨rfl, hs13⟩; have HS13 : Hid (OneAt w10 w13 gw3 g h (.iface 27 (.pointer (some ⟨gp3, 0, none⟩))) gz5) := Lib.hid hs13; clear hs13))
  have HL13 := Lib.hid (HS13.out.touch.below HL10.out HL10.out.size fun k hk => by rcases hk with e | e <;> rw [e] <;> first | exact HQ.out.1 | exact HQ.out.2.1)
  clear s0 s1
  obtain ⟨F, hp13, hF13⟩ := HS13.out.getAt gz5_na gz5_is
  have HP13 := Lib.hid (And.intro hp13 hF13)
  clear hp13 hF13
  go_wp2_with (go_at_call 10; refine (HS13.out.got gz5_na gz5_is gz5_res).mono ?_; rintro e w14 ⟨rfl, hb14⟩; have HB14 := Lib.hid hb14; clear hb14)
  refine (getMessages (HP13.out.1.keep HB14.out.size fun k hk => HB14.out.block k (HP13.out.2 k hk)) (by rw [gz5_told]; decide)).mono ?_
  rw [gz5_told]
  rintro e w15 ⟨v, rfl, ⟨A, c, hv, _, _, hm⟩, hb15⟩
  obtain ⟨b, rfl, hbn, hbl, hcells⟩ := hm (by decide)
  obtain ⟨d, m0, m1, hd⟩ := hcells 0 _ rfl
  obtain ⟨A2, c2, hv2⟩ := hd.length
  have hcv := hd.bytes.conv
  have HL15 := HL13.out.trans ((HB14.out.trans (hb15.mono HB14.out.size)).mono HL13.out.size)
  have HL := Lib.hid HL15
  have hv' : v = .slice (some ⟨b, 0, none⟩) 1 c := hv
  have hd' : d = .slice A2 5 c2 := hv2
  subst hv' hd'
  clear hv hv2 hd hbn hbl hcells hm HL15 hb15
  have hstr : ((strOfNums [104, 101, 108, 108, 111]).toList == [104, 101, 108, 108, 111]) = true := by decide +kernel
  go_wp2
  go_ret
  exact ⟨rfl, HL.out⟩
end Go.Proofs.YtikcnioooihncaaGreat
namespace Go.Proofs.YtikcnioooihncaaGreat
open Go.RowKit

theorem gt_new0 (most : Int) : (Gm.new 0 0 most).result = (0, 1) := by
  have h : ¬ Rg.right 0 0 := by unfold Rg.right; omega
  unfold Gm.new
  rw [if_neg fun e => h e.1]
  rfl

set_option maxRecDepth 100000 in
set_option maxHeartbeats 1000000 in
theorem ringgetNil_any (V : Nat) (D : Bool) (A : Option Addr) (L cp : Nat) (most : Int) (w : World) (hL : L ≤ 9223372036854775807) (hm : most ≤ 9223372036854775807) :
    Calls Tryz.prog 3 #[.agg #[.int .u64 V, .bool D, .slice A L cp], .int .i64 most] w (TrueBelow w) := by
  have HW := (Below.refl w.heap.size w).alloc (Nat.le_refl _) (.cells #[.int .u64 V, .bool D, .slice A L cp] 25)
  have HX := Lib.hid (Go.Deep.blk_alloc_new w (.cells #[.int .u64 V, .bool D, .slice A L cp] 25))
  go_enter Tryz.func3, Tryz.ntmps3
  go_wp2_with fail
  generalize w.alloc (.cells #[.int .u64 V, .bool D, .slice A L cp] 25) = W at HW HX ⊢
  refine (fixed8_any W).mono ?_
  rintro e w1 ⟨rfl, hq1⟩
  have HW1 := HW.trans (hq1.mono HW.size)
  have hb1 := (hq1.block w.heap.size (Array.getElem?_eq_some_iff.1 HX.out).1).trans HX.out
  have d0 : w1.cell? ⟨w.heap.size, 0, none⟩ = some (.int .u64 V) := by simp [World.cell?, hb1]
  have d1 : w1.cell? ⟨w.heap.size, 1, none⟩ = some (.bool D) := by simp [World.cell?, hb1]
  have d2 : w1.cell? ⟨w.heap.size, 2, none⟩ = some (.slice A L cp) := by simp [World.cell?, hb1]
  clear hq1 HW HX hb1
  by_cases hlong : 100 < L
  · go_wp2
    go_ret
    exact ⟨rfl, HW1⟩
  · have hlong2 : L ≤ 100 := by omega
    clear hlong
    go_wp2_with fail
    refine (getTakeNil V D A L cp w1).mono ?_
    rintro e w2 ⟨rfl, hq2⟩
    go_wp2_with fail
    refine (getNextNil w2).mono ?_
    rintro e w3 ⟨hq3, rfl⟩
    have HW3 := (HW1.trans (hq2.mono HW1.size)).trans (hq3.mono (by have := HW1.size; have := hq2.size; omega))
    have hs3 := HW3.size
    have HMO := Lib.hid hm
    clear hq2 hq3 d0 d1 d2 hm
    go_wp2_with (first
      | (go_at_call 10; refine (getResult HP.out).mono ?_; rintro e w7 ⟨rfl, j7, rfl⟩; rw [gt_new0])
      | (go_at_call 10; refine (getResultNil _).mono ?_; rintro e w5 ⟨rfl, rfl⟩)
      | (go_at_call 12; refine (getMessagesNil _).mono ?_; rintro e w8 ⟨rfl, rfl⟩)
      | (go_at_call 11; refine (gtNew 0 0 most (by decide) (by decide) HMO.out _).mono ?_; rintro e w6 ⟨gp, rfl, hp, hb6⟩; have HP := Lib.hid hp; have HB6 := Lib.hid hb6; clear hp hb6))
    go_ret
    refine ⟨rfl, ?_⟩
    have h8 := HW3.alloc hs3 (.cells #[.int .i64 0, .int .i64 0, .int .i64 0, .int .u64 0, .int .u64 0, .slice none 0 0] 30)
    exact below_drewN (h8.trans (HB6.out.mono h8.size)) _
end Go.Proofs.YtikcnioooihncaaGreat
namespace Go.Proofs.YtikcnioooihncaaGreat
open Go.ChangeShapes Go.WideShapes Go.ChangeAt Go.RowKit Go.Deep

/-- An answer: its number, whether it stored, where its bytes stand, and which they are. -/
structure Ans where
  V : Nat
  D : Bool
  A : Option Addr
  L : Nat
  cap : Nat
  f : Nat → Nat

namespace Ans
/-- Its slice. -/
def sl (x : Ans) : Value := .slice x.A x.L x.cap
/-- Its bytes. -/
def bs (x : Ans) : List Int := Mb.bl x.f 0 x.L
/-- It reads so in w. -/
structure Is (x : Ans) (w : World) : Prop where
  num : x.V < 18446744073709551616
  isB : Mb.IsB x.f
  bytes : BytesAt w (.slice x.A x.L x.cap) (Mb.bl x.f 0 x.L)
  room : x.L ≤ x.cap
  few : x.cap ≤ 9223372036854775807
end Ans

theorem answerOne : Tryz.prog.cellsOf 25 = 3 := by kernel_rfl

set_option maxRecDepth 100000 in
theorem answer_cells {H : Type} {enc : TypeId × Value → H} {W : World} {fuel : Nat} {cs : List Value} {x : DataW H × List MemPlace} (hsz : cs.length = 3)
    (h : DataW.trod enc Tryz.prog W 0 (fun _ => true) true fuel 25 cs = some x) :
    ∃ y : Ans, cs = [.int .u64 y.V, .bool y.D, y.sl] ∧ y.Is W := by
  match cs, hsz with
  | [v0, v1, v2], _ =>
    obtain ⟨xs, n, _, _, _, hlen, hg⟩ := DataW.trod_struct Tryz.underlying25 h
    have g0 := hg 0 _ rfl
    have g1 := hg 1 _ rfl
    have g2 := hg 2 _ rfl
    have cU : Tryz.prog.cellsOf 22 = 1 := by kernel_rfl
    have cD : Tryz.prog.cellsOf 4 = 1 := by kernel_rfl
    have cB : Tryz.prog.cellsOf 23 = 1 := by kernel_rfl
    match xs, hlen with
    | [y0, y1, y2], _ =>
      simp [cU, cD, cB] at g0 g1 g2
      obtain ⟨V, e0, _, w0⟩ := DataW.trod_int Tryz.underlying22 g0
      obtain ⟨D, e1, _⟩ := DataW.trod_bool Tryz.underlying4 g1
      obtain ⟨A, L, cap, f, e2, h1, h2, h3, h4⟩ := bytes_cell g2
      simp only [List.cons.injEq, and_true] at e0 e1 e2
      subst e0 e1 e2
      have b0 := u64_wide w0
      obtain ⟨V, rfl⟩ := Int.eq_ofNat_of_zero_le b0.1
      exact ⟨⟨V, D, A, L, cap, f⟩, rfl, by show V < 18446744073709551616; omega, h1, h2, h3, h4⟩

set_option maxRecDepth 100000 in
theorem open_answer {H : Type} {enc : TypeId × Value → H} {W : World} {base : Nat} {v : Value} {d : DataW H} {ps : List MemPlace}
    (hv : Value.okWide Tryz.prog W .any base 25 v) (h : DataW.Trod enc Tryz.prog W 0 (fun _ => true) true 25 v d ps) :
    ∃ y : Ans, v = .agg #[.int .u64 y.V, .bool y.D, .slice y.A y.L y.cap] ∧ y.Is W := by
  obtain ⟨cs, rfl, hsz⟩ := okWide_struct Tryz.underlying25 hv
  obtain ⟨l⟩ := cs
  rw [answerOne] at hsz
  obtain ⟨fuel, hf⟩ := h
  obtain ⟨y, hy, hi⟩ := answer_cells (by simpa [Value.cells] using hsz) hf
  refine ⟨y, ?_, hi⟩
  simp [Value.cells] at hy
  rw [hy]
  rfl

/-- A slice of n answers that reads as T. -/
def ToldAt (W : World) (A : Option Addr) (n : Nat) (T : Nat → Ans) : Prop :=
  0 < n → ∃ b off, A = some ⟨b, off, none⟩ ∧ b < W.heap.size ∧ ∀ i, i < n → W.cell? ⟨b, off + i * 3, none⟩ = some (.int .u64 (T i).V) ∧ W.cell? ⟨b, off + i * 3 + 1, none⟩ = some (.bool (T i).D) ∧ W.cell? ⟨b, off + i * 3 + 2, none⟩ = some (.slice (T i).A (T i).L (T i).cap) ∧ (T i).Is W

set_option maxRecDepth 100000 in
theorem open_answers {H : Type} {enc : TypeId × Value → H} {W : World} {base : Nat} {v : Value} {d : DataW H} {ps : List MemPlace}
    (hv : Value.okWide Tryz.prog W .any base 42 v) (h : DataW.Trod enc Tryz.prog W 0 (fun _ => true) true 42 v d ps) :
    ∃ (A : Option Addr) (L cap : Nat) (T : Nat → Ans), v = .slice A L cap ∧ ToldAt W A L T ∧ L ≤ cap ∧ cap ≤ 9223372036854775807 := by
  obtain ⟨a0, len0, cap0, rfl⟩ := okWide_slice Tryz.underlying42 hv
  obtain ⟨fuel, hf⟩ := h
  rcases open_slice Tryz.underlying42 hf with ⟨hcs, _⟩ | ⟨a, len, cap, m, n, D, Pl, hcs, hb, hl, hm, hmm, _, hi⟩
  · simp [Value.cells] at hcs
    obtain ⟨rfl, rfl, rfl⟩ := hcs
    exact ⟨none, 0, 0, fun _ => ⟨0, false, none, 0, 0, fun _ => 0⟩, rfl, fun h => absurd h (Nat.lt_irrefl 0), Nat.le_refl _, by decide⟩
  · simp [Value.cells] at hcs
    obtain ⟨rfl, rfl, rfl⟩ := hcs
    simp only [if_true] at hmm
    rw [answerOne] at hi
    have hx : ∀ i, i < m → ∃ y : Ans, (∀ j : Nat, j < 3 → W.cell? ((a.add (i * 3)).add j) = ([.int .u64 y.V, .bool y.D, y.sl] : List Value)[j]?) ∧ y.Is W := by
      intro i him
      obtain ⟨cs', hc, ht'⟩ := hi i him
      obtain ⟨_, hcl, hat⟩ := World.cells?_some hc
      obtain ⟨y, hy, his⟩ := answer_cells hcl ht'
      subst hy
      exact ⟨y, hat, his⟩
    have hT : ∃ T : Nat → Ans, ∀ i, i < m → (∀ j : Nat, j < 3 → W.cell? ((a.add (i * 3)).add j) = ([.int .u64 (T i).V, .bool (T i).D, (T i).sl] : List Value)[j]?) ∧ (T i).Is W := by
      refine ⟨fun i => if h : i < m then Classical.choose (hx i h) else ⟨0, false, none, 0, 0, fun _ => 0⟩, fun i him => ?_⟩
      simp only [dif_pos him]
      exact Classical.choose_spec (hx i him)
    obtain ⟨T, hT⟩ := hT
    refine ⟨some a, _, _, T, rfl, fun hp => ?_, hl, by unfold maxLen at hm; omega⟩
    obtain ⟨b, off, spot⟩ := a
    have h00 := (hT 0 (by omega)).1 0 (by decide)
    have hspot : spot = none := by simpa [Addr.add] using World.cell?_spot h00
    subst hspot
    refine ⟨b, off, rfl, ?_, fun i him => ?_⟩
    · rcases Nat.lt_or_ge b W.heap.size with hlt | hge
      · exact hlt
      · simp [World.cell?, Addr.add, Array.getElem?_eq_none hge] at h00
    · obtain ⟨hc, his⟩ := hT i (by omega)
      have e : ∀ j, ((⟨b, off, none⟩ : Addr).add (i * 3)).add j = ⟨b, off + i * 3 + j, none⟩ := fun j => by
        unfold Addr.add
        split <;> split <;> simp_all
      have c0 := hc 0 (by decide)
      have c1 := hc 1 (by decide)
      have c2 := hc 2 (by decide)
      rw [e] at c0 c1 c2
      exact ⟨c0, c1, c2, his⟩

theorem Ans.Is.below {x : Ans} {w w' : World} (h : x.Is w) (hb : Below w.heap.size w w') : x.Is w' := ⟨h.num, h.isB, h.bytes.below hb, h.room, h.few⟩

theorem ToldAt.below {W W' : World} {A : Option Addr} {n : Nat} {T : Nat → Ans} (h : ToldAt W A n T) (hb : Below W.heap.size W W') : ToldAt W' A n T := by
  intro hp
  obtain ⟨b, off, e, hlt, hc⟩ := h hp
  refine ⟨b, off, e, Nat.lt_of_lt_of_le hlt hb.size, fun i hi => ?_⟩
  obtain ⟨c0, c1, c2, his⟩ := hc i hi
  have k := fun j => hb.cell (p := ⟨b, j, none⟩) hlt
  exact ⟨(k _).trans c0, (k _).trans c1, (k _).trans c2, his.below hb⟩
end Go.Proofs.YtikcnioooihncaaGreat
namespace Go.Proofs.YtikcnioooihncaaGreat
open Go.ChangeShapes Go.WideShapes Go.ChangeAt Go.RowKit

set_option maxRecDepth 100000 in
theorem ringgetNil_lifted (os : Os) (started : os.Started) (H : Type) (enc : TypeId × Value → H) :
    ReturnsInHanded {} Tryz.checked os 3 .any (Rows.ringgetNilSpec.pre6 enc Tryz.prog Tryz.f3 Rows.ringgetNilRow.domain false) (Rows.ringgetNilSpec.post enc Tryz.prog Tryz.f3 false true false false) := by
  refine returnsInHanded_of_change (C := Tryz.checked) own started (by kernel_rfl) Tryz.func3
    (ChangeSpec.witness6 (enc := enc) (C := Tryz.checked) false ⟨#[], #[.agg #[.int .u64 0, .bool false, .slice none 0 0], .int .i64 0], []⟩ 8 (by kernel_rfl) (by kernel_rfl) (by kernel_rfl) (by kernel_rfl)) ?_
  intro W base args ds gs before hval0 hW _ _
  have hval : ∀ (j : Nat) t v, Tryz.f3.params[j]? = some t → args[j]? = some v → Value.okWide Tryz.prog W .any base t v := hval0
  have hW' := hW
  obtain ⟨p, q, hA0, hV, rfl, hfz, hnd⟩ := hW
  have hA : DataW.TrodAll enc Tryz.prog W 0 (fun _ => true) true Tryz.f3.params.toList args.toList ds p := hA0
  rw [Tryz.params3] at hA hval
  obtain ⟨v0, v1, d0, d1, p0, p1, rfl, rfl, rfl, h0, h1⟩ := trodAll_two hA
  obtain ⟨rfl, rfl⟩ := trodVars_none hV
  obtain ⟨y0, rfl, hy0⟩ := open_answer (hval 0 25 v0 rfl rfl) h0
  obtain ⟨a1, rfl, rfl, rfl, wa1⟩ := open_int Tryz.underlying3 (hval 1 3 v1 rfl rfl) h1
  have k1 := bounds_i64 wa1
  clear hA0 hval0
  exact (ringgetNil_any y0.V y0.D y0.A y0.L y0.cap a1 W (by have := hy0.room; have := hy0.few; omega) k1.2).mono fun e W' ⟨he, hbel⟩ => ⟨_, he, law_post laidOut (by kernel_rfl) rfl Tryz.underlying4 rfl hW' rfl hbel⟩

theorem ringgetNil_row : Rows.RinggetNilSaid :=
  OpenClaim.holds_of_wide 3 Tryz.f3 rfl rfl rfl rfl rfl rfl rfl ⟨rfl, rfl, rfl, rfl, rfl⟩ rfl rfl rfl rfl rfl (by kernel_rfl) Tryz.func3 (by kernel_rfl)
    (of_decide_eq_true (by kernel_rfl)) (by unfold Func.isWrapper; first | (rw [if_pos (by decide +kernel)]; kernel_rfl) | (rw [if_neg (by decide +kernel)]; exact ⟨rfl, rfl⟩))
    (fun os started H enc _ => ringgetNil_lifted os started H enc)

theorem ringgetNil_holds : Rows.RinggetNilSaid := ringgetNil_row
end Go.Proofs.YtikcnioooihncaaGreat
