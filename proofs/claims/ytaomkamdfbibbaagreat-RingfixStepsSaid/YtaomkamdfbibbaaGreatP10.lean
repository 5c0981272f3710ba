/-
  Proved: for every ring and list of answers the statement RingfixSteps (each access of a fix, and what it tells of itself, is the document's) answers true, and its arguments read as before.
  Conditions: none beyond the row's own.
-/
import Derived.Test.YtaomkamdfbibbaaGreatP09
import Derived.Test.YtaomkamdfbibbaaGreatP06
import Derived.Lib.SlBytesConst
import Derived.Test.YtaomkamdfbibbaaGreatP02
import Derived.Deep.AppendLies
import Derived.Maps.AppendAt
import Derived.Test.YtaomkamdfbibbaaGreatP07
import Derived.Test.YtaomkamdfbibbaaGreatP03
namespace Go.Proofs.YtaomkamdfbibbaaGreat
open Go.RowKit

/-- A slice of n machines stands in memory: the interfaces' values. -/
def MsAt (w : World) (A : Option Addr) (n : Nat) (xs : Nat → Value) : Prop := 0 < n → ∃ b, A = some ⟨b, 0, none⟩ ∧ b < w.heap.size ∧ ∀ i, i < n → w.cell? ⟨b, i, none⟩ = some (xs i)

theorem MsAt.below {w w' : World} {A : Option Addr} {n : Nat} {xs : Nat → Value} (h : MsAt w A n xs) (hb : Below w.heap.size w w') : MsAt w' A n xs := fun hp => by
  obtain ⟨b, e, hl, hc⟩ := h hp
  exact ⟨b, e, Nat.lt_of_lt_of_le hl hb.size, fun i hi => (hb.cell (p := ⟨b, i, none⟩) hl).trans (hc i hi)⟩

/-- A new scheduler's state. -/
def St.made (n : Nat) (ms : Nat → Mc) (m : Nat → Nat) (nw : Nat) (c : Int) : St := ⟨n, ms, fun _ => false, m, nw, c, 0, []⟩

/-- A scheduler was made. -/
def MadeSw (o : Nat → Pt) (gb hb : Nat) (xs : Nat → Value) (st : St) (w : World) (e : Ending) (w' : World) : Prop :=
  ∃ gw ga o', e = .returned (.pointer (some ⟨gw, 0, none⟩)) ∧ w.heap.size ≤ gw ∧ Sw w' o' gw ga gb hb xs (.slice none 0 0) [] st ∧ Below w.heap.size w w' ∧ ∀ k, k < w.heap.size → o' k = o k

theorem infoActor : (Tryz.prog.info? 78).map (fun i => (i.zero, i.size, i.bytes)) = some (some (.agg #[.nilIface, .bool false]), 2, 24) := by kernel_rfl

theorem make_actors (n : Nat) (hn : n ≤ 1000) (W : World) :
    (Instr.makeSlice 71 (.int .i64 (n : Int)) (.int .i64 (n : Int))).run Tryz.prog W = .ok (.slice (some ⟨W.heap.size, 0, none⟩) n n) (W.alloc (.cells (madeCells #[.nilIface, .bool false] (n * 2)) 78)) := by
  obtain ⟨i, hi, hz, hs, hby⟩ := info_parts infoActor
  have hr := run_make (P := Tryz.prog) W 71 78 i (.agg #[.nilIface, .bool false]) Tryz.underlying71 hi hz .i64 .i64 (n : Int) (n : Int) (by omega) (Int.le_refl _) (by rw [hby]; omega) (by omega)
  rw [hs] at hr
  simpa [Value.cells] using hr

theorem made_actors (w : World) (n : Nat) : (w.alloc (.cells (madeCells #[.nilIface, .bool false] (n * 2)) 78)).rowIs w.heap.size 78 (2 * n) (acCell (fun _ => .nilIface) (fun _ => false)) :=
  ⟨_, Go.Deep.blk_alloc_new _ _, by rw [size_madeCells]; omega, fun i hi => by
    unfold acCell madeCells
    have hm : i % 2 < 2 := Nat.mod_lt _ (by decide)
    have hi2 : i < n * 2 := by omega
    simp [hi2]
    rcases Nat.mod_two_eq_zero_or_one i with e | e
    · simp [e]
    · simp [e]⟩

theorem acCell_set (ax : Nat → Value) (dead : Nat → Bool) (i : Nat) (x : Value) (j : Nat) : (if j = i * 2 then x else acCell ax dead j) = acCell (upd ax i x) dead j := by
  unfold acCell
  by_cases e : j = i * 2
  · subst e
    rw [if_pos rfl, if_pos (by omega), show i * 2 / 2 = i by omega, upd_same]
  · rw [if_neg e]
    by_cases e2 : j % 2 = 0
    · rw [if_pos e2, if_pos e2, upd_other _ _ _ (by omega)]
    · rw [if_neg e2, if_neg e2]

set_option maxRecDepth 100000 in
set_option maxHeartbeats 2000000 in
theorem schedNew_any {w : World} {o : Nat → Pt} {gb hb nw : Nat} {m : Nat → Nat} {c : Int} (B : Buf w gb hb m nw c) (A : Option Addr) (n cap : Nat) (xs : Nat → Value) (ms : Nat → Mc) (hn : n ≤ 1000) (hcap : n ≤ cap) (hcap2 : cap ≤ 9223372036854775807) (hl : MsAt w A n xs)
    (hm : ∀ i, i < n → MRep w (fun k => o k = .ma i) (xs i) (ms i)) (hog : o gb = .bf) (hoh : o hb = .bf) (hlt : ∀ k, o k ≠ .no → k < w.heap.size) :
    Calls Tryz.prog 12 #[.pointer (some ⟨gb, 0, none⟩), .slice A n cap] w (MadeSw o gb hb xs (St.made n ms m nw c) w) := by
  have hmk := make_actors n hn
  have HH := Lib.hid (And.intro B (And.intro hm (And.intro hog (And.intro hoh hlt))))
  have HL := Lib.hid hl
  have HN := Lib.hid hn
  clear B hm hog hoh hlt hl
  have ha := made_actors w n
  have e1 : (w.alloc (.cells (madeCells #[.nilIface, .bool false] (n * 2)) 78)).heap.size = w.heap.size + 1 := by simp
  have HB1 := (Below.refl w.heap.size w).alloc (Nat.le_refl _) (.cells (madeCells #[.nilIface, .bool false] (n * 2)) 78)
  go_enter Tryz.func12, Tryz.ntmps12
  go_wp2
  generalize hW1 : w.alloc (.cells (madeCells #[.nilIface, .bool false] (n * 2)) 78) = W1 at *
  have hh := Go.Deep.blk_alloc_new W1 (.cells #[.pointer (some ⟨gb, 0, none⟩), .slice (some ⟨w.heap.size, 0, none⟩) n n, .int .i64 0, .slice none 0 0] 74)
  rw [e1] at hh
  have ha2 := ha.alloc (.cells #[.pointer (some ⟨gb, 0, none⟩), .slice (some ⟨w.heap.size, 0, none⟩) n n, .int .i64 0, .slice none 0 0] 74)
  have HB2 := HB1.alloc HB1.size (.cells #[.pointer (some ⟨gb, 0, none⟩), .slice (some ⟨w.heap.size, 0, none⟩) n n, .int .i64 0, .slice none 0 0] 74)
  generalize W1.alloc (.cells #[.pointer (some ⟨gb, 0, none⟩), .slice (some ⟨w.heap.size, 0, none⟩) n n, .int .i64 0, .slice none 0 0] 74) = W2 at hh ha2 HB2 ⊢
  have HST := Lib.hid (And.intro hh (And.intro ha2 HB2))
  clear hmk hW1 ha HB1 hh ha2 HB2
  go_loopw [16] (fun t16 wr => ∃ (i : Nat) (ax : Nat → Value), t16 = .int .i64 i ∧ i ≤ n ∧ (∀ j, j < i → ax j = xs j) ∧ wr.heap[w.heap.size + 1]? = some (.cells #[.pointer (some ⟨gb, 0, none⟩), .slice (some ⟨w.heap.size, 0, none⟩) n n, .int .i64 0, .slice none 0 0] 74 (0, 0)) ∧ wr.rowIs w.heap.size 78 (2 * n) (acCell ax (fun _ => false)) ∧ Below w.heap.size w wr) (fun t16 _ => n - (intOf t16).toNat)
  case atStart => exact ⟨0, _, rfl, Nat.zero_le _, fun j hj => absurd hj (Nat.not_lt_zero _), HST.out.1, HST.out.2.1, HST.out.2.2⟩
  case round =>
    obtain ⟨i, ax, rfl, hi, hax, hhd, hrow, hbw⟩ := hrel
    have HAX := Lib.hid hax
    have HHD := Lib.hid (And.intro hhd (And.intro hrow hbw))
    by_cases hlt : i < n
    · obtain ⟨bl, rfl, hbl, hcl⟩ := HL.out (by omega)
      have hcx := (hbw.cell (p := ⟨bl, i, none⟩) hbl).trans (hcl i hlt)
      have hc1 : wr.cell? ⟨w.heap.size + 1, 1, none⟩ = some (.slice (some ⟨w.heap.size, 0, none⟩) n n) := by simp [World.cell?, hhd]
      have hr0 := hrow.cell (i := i * 2) (by omega)
      have hf0 := hrow.frozen (i * 2)
      have hsh := (HH.out.2.1 i hlt).shape
      generalize hx : xs i = x at hcx hsh
      have HX := Lib.hid hx
      clear hax hhd hrow hbw hcl hx
      rcases hsh with ⟨rfl, _⟩ | ⟨T, y, rfl⟩
      all_goals
        go_wp2
        go_roundw
        case rel =>
          refine ⟨i + 1, upd ax i (xs i), by go_num, by omega, fun j hj => ?_, blkF HHD.out.1 (by omega) _, (HHD.out.2.1.set (i * 2) _).congr fun j _ => ?_, HHD.out.2.2.setCell (p := ⟨w.heap.size, i * 2, none⟩) (Nat.le_refl _) _⟩
          · by_cases e : j = i
            · subst e; exact upd_same _ _ _
            · rw [upd_other _ _ _ e]; exact HAX.out j (by omega)
          · rw [HX.out]; exact acCell_set _ _ _ _ _
        case measure => simp [intOf]; omega
    · obtain rfl : i = n := by omega
      clear hax hhd hrow hbw
      go_wp2
      go_ret
      obtain ⟨hhd, hrow, hbw⟩ := HHD.out
      obtain ⟨B, hm, hog, hoh, hlk⟩ := HH.out
      have hsz := (Array.getElem?_eq_some_iff.1 hhd).1
      have hold : ∀ k, k < w.heap.size → claimed (claimed o w.heap.size (fun k => k = w.heap.size) .ac) w.heap.size (fun k => k = w.heap.size + 1) .wd k = o k := fun k hk => (claimed_old hk).trans (claimed_old hk)
      refine ⟨w.heap.size + 1, w.heap.size, claimed (claimed o w.heap.size (fun k => k = w.heap.size) .ac) w.heap.size (fun k => k = w.heap.size + 1) .wd, rfl, Nat.le_succ _, ⟨hhd, hrow.congr fun j hj => ?_, B.below hbw, fun j hj => ?_, ⟨World.ownsRow_nil _ _ _ _, fun t ht => absurd ht (by simp), fun k hk => absurd hk (by simp [Value.ownBlock])⟩, rfl, claimed_new (Nat.le_succ _) rfl, (claimed_not fun e => by omega).trans (claimed_new (Nat.le_refl _) rfl), (hold gb B.g_lt).trans hog, (hold hb B.h_lt).trans hoh, fun k hk => ?_, HN.out, fun e he => absurd he (by simp [St.made])⟩, hbw, hold⟩
      · unfold acCell
        by_cases e : j % 2 = 0
        · rw [if_pos e, if_pos e]; exact HAX.out _ (by omega)
        · rw [if_neg e, if_neg e]; rfl
      · exact ((hm j hj).keep hbw.size fun k hk => hbw.block k (hlk k (by rw [hk]; simp))).mono fun k hk => (hold k (hlk k (by rw [hk]; simp))).trans hk
      · by_cases e : w.heap.size ≤ k ∧ k = w.heap.size + 1
        · omega
        · rw [claimed_not e] at hk
          by_cases e2 : w.heap.size ≤ k ∧ k = w.heap.size
          · omega
          · rw [claimed_not e2] at hk
            have := hlk k hk
            omega
end Go.Proofs.YtaomkamdfbibbaaGreat
namespace Go.Proofs.YtaomkamdfbibbaaGreat
open Go.RowKit

/-- A scheduler stands; all that was below stands as it was. -/
structure Stood (w0 w : World) (o : Nat → Pt) (gw ga gb hb : Nat) (ax : Nat → Value) (st : St) : Prop where
  sw : ∃ tv ts, Sw w o gw ga gb hb ax tv ts st
  low : Below w0.heap.size w0 w
  out : ∀ k, k < w0.heap.size → o k = .no

namespace Stood
variable {w0 w w' : World} {o o' : Nat → Pt} {gw ga gb hb : Nat} {ax : Nat → Value} {st st' : St}
theorem below (h : Stood w0 w o gw ga gb hb ax st) (hb' : Below w.heap.size w w') : Stood w0 w' o gw ga gb hb ax st := by
  obtain ⟨⟨tv, ts, hs⟩, h1, h2⟩ := h
  exact ⟨⟨tv, ts, hs.below hb'⟩, h1.trans (hb'.mono h1.size), h2⟩
theorem alloc (h : Stood w0 w o gw ga gb hb ax st) (q : Obj) : Stood w0 (w.alloc q) o gw ga gb hb ax st := h.below ((Below.refl _ _).alloc (Nat.le_refl _) q)
theorem after (h : Stood w0 w o gw ga gb hb ax st) (ht : Touch (Own o) w w') (hs : ∃ tv ts, Sw w' o' gw ga gb hb ax tv ts st') (ho : ∀ k, k < w.heap.size → o' k = o k) : Stood w0 w' o' gw ga gb hb ax st' :=
  ⟨hs, ⟨ht.os.trans h.low.os, ht.tape.trans h.low.tape, ht.output.trans h.low.output, Nat.le_trans h.low.size ht.size, fun k hk => (ht.block k (Nat.lt_of_lt_of_le hk h.low.size) fun e => e (h.out k hk)).trans (h.low.block k hk)⟩,
    fun k hk => (ho k (Nat.lt_of_lt_of_le hk h.low.size)).trans (h.out k hk)⟩
theorem new_no (h : Stood w0 w o gw ga gb hb ax st) {k : Nat} (hk : w.heap.size ≤ k) : o k = .no := by
  obtain ⟨⟨tv, ts, hs⟩, _, _⟩ := h
  exact hs.new_no hk
end Stood

/-- A block that is nobody's keeps its cells. -/
theorem nobody_cell {w w' : World} {o : Nat → Pt} (ht : Touch (Own o) w w') {q : Addr} (hq : q.block < w.heap.size) (hn : o q.block = .no) : w'.cell? q = w.cell? q :=
  World.cell?_of_block (ht.block q.block hq fun e => e hn)
end Go.Proofs.YtaomkamdfbibbaaGreat
namespace Go.Proofs.YtaomkamdfbibbaaGreat
open Go.RowKit

/-- A scheduler of one machine x stands; but for the buffer's two blocks nothing has turned since w1. -/
def OneAt (w1 w : World) (gw g h : Nat) (x : Value) (st : St) : Prop :=
  ∃ ga o, (∃ tv ts, Sw w o gw ga g h (fun i => if i = 0 then x else .nilIface) tv ts st) ∧ Touch (Two g h) w1 w ∧ ∀ k, k < w1.heap.size → k ≠ g → k ≠ h → o k = .no

theorem OneAt.buf {w1 w : World} {gw g h : Nat} {x : Value} {st : St} (hs : OneAt w1 w gw g h x st) : Buf w g h st.m st.nw st.c := by
  obtain ⟨ga, o, ⟨tv, ts, hs⟩, _⟩ := hs
  exact hs.buf
theorem OneAt.mach {w1 w : World} {gw g h : Nat} {x : Value} {st : St} (hs : OneAt w1 w gw g h x st) (hn : 0 < st.na) : ∃ F : Nat → Prop, MRep w F x (st.ms 0) ∧ ∀ k, F k → k < w.heap.size := by
  obtain ⟨ga, o, ⟨tv, ts, hs⟩, _⟩ := hs
  have h0 := hs.mach 0 hn
  rw [if_pos rfl] at h0
  exact ⟨_, h0, fun k hk => hs.lt k (by rw [hk]; simp)⟩
theorem OneAt.touch {w1 w : World} {gw g h : Nat} {x : Value} {st : St} (hs : OneAt w1 w gw g h x st) : Touch (Two g h) w1 w := by
  obtain ⟨ga, o, _, ht, _⟩ := hs
  exact ht

theorem oneNew {w1 w3 : World} {g h : Nat} {m : Nat → Nat} {nw : Nat} {c : Int} (B : Buf w1 g h m nw c) {T0 : TypeId} {y : Value} {mc : Mc} (hp : MRep w3 (fun k => w1.heap.size ≤ k ∧ k < w3.heap.size) (.iface T0 y) mc) (hb3 : Below w1.heap.size w1 w3) :
    ∀ T, Calls Tryz.prog 12 #[.pointer (some ⟨g, 0, none⟩), .slice (some ⟨w3.heap.size, 0, none⟩) 1 1] (w3.alloc (.cells #[.iface T0 y] T)) fun e w' => ∃ gw, e = .returned (.pointer (some ⟨gw, 0, none⟩)) ∧ OneAt w1 w' gw g h (.iface T0 y) (St.made 1 (fun i => if i = 0 then mc else .none) m nw c) := by
  intro T
  have s3 := hb3.size
  have hgl := B.g_lt
  have hhl := B.h_lt
  have hba := (Below.refl w3.heap.size w3).alloc (Nat.le_refl _) (.cells #[.iface T0 y] T)
  have e0 : (w3.alloc (.cells #[.iface T0 y] T)).heap.size = w3.heap.size + 1 := by simp
  have x0 := Go.Deep.blk_alloc_new w3 (.cells #[.iface T0 y] T)
  generalize w3.alloc (.cells #[.iface T0 y] T) = w4 at *
  have B4 := (B.below hb3).below hba
  refine (schedNew_any B4 (some ⟨w3.heap.size, 0, none⟩) 1 1 (fun i => if i = 0 then .iface T0 y else .nilIface) (fun i => if i = 0 then mc else .none) (by decide) (by decide) (by decide)
    (fun _ => ⟨w3.heap.size, rfl, by omega, fun i hi => ?_⟩) (o := fun k => if k = g ∨ k = h then .bf else if w1.heap.size ≤ k ∧ k < w3.heap.size then .ma 0 else .no) (fun i hi => ?_) ?_ ?_ (fun k hk => ?_)).mono ?_
  · match i, hi with
    | 0, _ => simp [World.cell?, x0]
  · match i, hi with
    | 0, _ =>
      refine MRep.mono (F := fun k => w1.heap.size ≤ k ∧ k < w3.heap.size) (hp.keep hba.size fun k hk => hba.block k hk.2) fun k hk => ?_
      show (if _ then _ else _) = _
      rw [if_neg (by omega), if_pos hk]
  · exact if_pos (.inl rfl)
  · exact if_pos (.inr rfl)
  · by_cases e1 : k = g ∨ k = h
    · omega
    · rw [if_neg e1] at hk
      by_cases e2 : w1.heap.size ≤ k ∧ k < w3.heap.size
      · omega
      · rw [if_neg e2] at hk
        exact absurd rfl hk
  · rintro e w' ⟨gw, ga, o', rfl, _, hs, hbl, ho⟩
    have hbl2 : Below w3.heap.size w3 w' := hba.trans (hbl.mono (by omega))
    refine ⟨gw, rfl, ga, o', ⟨_, _, hs⟩, Touch.of_below (hb3.trans (hbl2.mono s3)), fun k hk hg hh => ?_⟩
    rw [ho k (by omega)]
    show (if _ then _ else _) = _
    rw [if_neg (by omega), if_neg (by omega)]

theorem oneRobin {w1 w : World} {gw g h : Nat} {x : Value} {st : St} (hs : OneAt w1 w gw g h x st) (most : Nat) (hlong : st.tr.length + most ≤ 1000000) :
    Calls Tryz.prog 13 #[.pointer (some ⟨gw, 0, none⟩), .int .i64 most] w fun e w' => e = .returned (.int .i64 (st.robin most).2) ∧ OneAt w1 w' gw g h x (st.robin most).1 := by
  obtain ⟨ga, o, ⟨tv, ts, hs⟩, ht, ho⟩ := hs
  refine (robin_any hs most hlong).mono ?_
  rintro e w' ⟨rfl, o', tv', ts', hs', ht', ho'⟩
  refine ⟨rfl, ga, o', ⟨tv', ts', hs'⟩, ⟨ht'.os.trans ht.os, ht'.tape.trans ht.tape, ht'.output.trans ht.output, Nat.le_trans ht.size ht'.size, fun k hk hn => (ht'.block k (Nat.lt_of_lt_of_le hk ht.size) fun e => ?_).trans (ht.block k hk hn)⟩, fun k hk hg hh => ?_⟩
  · have h0 := ho k hk (fun e => hn (.inl e)) (fun e => hn (.inr e))
    exact e h0
  · rw [ho' k (Nat.lt_of_lt_of_le hk ht.size)]
    exact ho k hk hg hh

theorem rg_cells (w : World) (B Z : Int) :
    (w.alloc (.cells #[.int .i64 B, .int .i64 Z] 23)).cell? ⟨w.heap.size, 0, none⟩ = some (.int .i64 B) ∧ (w.alloc (.cells #[.int .i64 B, .int .i64 Z] 23)).cell? ⟨w.heap.size, 1, none⟩ = some (.int .i64 Z) := by
  have h := Go.Deep.blk_alloc_new w (.cells #[.int .i64 B, .int .i64 Z] 23)
  refine ⟨?_, ?_⟩ <;> (unfold World.cell?; simp only [h]; rfl)
end Go.Proofs.YtaomkamdfbibbaaGreat
namespace Go.Proofs.YtaomkamdfbibbaaGreat
open Go.RowKit

/-- A fix's machine, if it is one. -/
def Mc.fixOf : Mc → Fm
  | .fix m => m
  | _ => .dead
def Mc.isFix : Mc → Bool
  | .fix _ => true
  | _ => false
theorem Mc.fix_is {s : Mc} (h : s.isFix = true) : s = .fix s.fixOf := by
  cases s with
  | fix m => rfl
  | _ => cases h

/-- The bytes "ab". -/
def fxAb (k : Nat) : Nat := if k = 0 then 97 else if k = 1 then 98 else 0
theorem fxAb_isB : Mb.IsB fxAb := fun k => by unfold fxAb; split <;> (try split) <;> decide
theorem fxAb_at (w : World) : BytesAt (w.alloc (.cells #[.int .u8 97, .int .u8 98] 5 (2, 3))) (.slice (some ⟨w.heap.size, 0, none⟩) 2 2) (Mb.bl fxAb 0 2) := by
  have h := Go.Deep.blk_alloc_new w (.cells #[.int .u8 97, .int .u8 98] 5 (2, 3))
  refine ⟨_, _, rfl, fun _ => ⟨w.heap.size, 0, rfl, by simp, fun i hi => ?_⟩⟩
  have hi2 : i < 2 := hi
  match i, hi2 with
  | 0, _ => unfold World.cell?; simp only [h]; rfl
  | 1, _ => unfold World.cell?; simp only [h]; rfl
/-- The states. -/
def fy0 : St := St.made 1 (fun i => if i = 0 then .fix (Fm.new 0 64) else .none) (fun _ => 0) 12 0
def fy1 : St := (fy0.robin 99).1
def fy2 : St := St.made 1 (fun i => if i = 0 then .put (Pm.new 0 64 1 fxAb 2) else .none) fy1.m fy1.nw fy1.c
def fy3 : St := (fy2.robin 4).1
def fy4 : St := St.made 1 (fun i => if i = 0 then .fix (Fm.new 0 64) else .none) fy3.m fy3.nw fy3.c
def fy5 : St := (fy4.robin 99).1
theorem fy1_is : (fy1.ms 0).isFix = true := by decide +kernel
theorem fy1_res : (fy1.ms 0).fixOf.result = (0, 0) := by decide +kernel
theorem fy1_na : 0 < fy1.na := by decide +kernel
theorem fy5_is : (fy5.ms 0).isFix = true := by decide +kernel
theorem fy5_res : (fy5.ms 0).fixOf.result = (10, 0) := by decide +kernel
theorem fy5_na : 0 < fy5.na := by decide +kernel
theorem fy0_len : fy0.tr.length + 99 ≤ 1000000 := by decide +kernel
theorem fy2_len : fy2.tr.length + 4 ≤ 1000000 := by decide +kernel
theorem fy4_len : fy4.tr.length + 99 ≤ 1000000 := by decide +kernel

/-- What the machine of a scheduler of one, a fix, tells of its end. -/
theorem OneAt.fixed {w1 w : World} {gw g h gp : Nat} {st : St} (hs : OneAt w1 w gw g h (.iface 26 (.pointer (some ⟨gp, 0, none⟩))) st) (hn : 0 < st.na) (hi : (st.ms 0).isFix = true) {r : Int × Int} (hr : (st.ms 0).fixOf.result = r) :
    Calls Tryz.prog 10 #[.pointer (some ⟨gp, 0, none⟩)] w (fun e w' => e = .returned (.tuple #[.int .i64 r.1, .int .i64 r.2]) ∧ w = w') := by
  obtain ⟨F, hm, _⟩ := hs.mach hn
  rw [Mc.fix_is hi] at hm
  obtain ⟨g', e, hp⟩ := hm
  injection e with _ e
  injection e with e
  injection e with e
  injection e with e
  subst e
  have := fixResult hp
  rw [hr] at this
  exact this

set_option maxRecDepth 100000 in
set_option maxHeartbeats 2000000 in
theorem fixed9_any (w : World) : Calls Tryz.prog 5 #[] w (TrueBelow w) := by
  go_enter Tryz.func5, Tryz.ntmps5
  go_upto_region 2 with (go_at_call 11; refine (new_yes 96 12 _ (by decide) (by decide) (by decide) (by decide)).mono ?_; rintro e w1 ⟨g, h, rfl, B, hg, hh, hb1⟩)
  go_upto_region 3 with (fail)
  have hb2 := un_below w1 (.int .i64 0) (.int .i64 64) 23
  obtain ⟨r0, r1⟩ := rg_cells w1 0 64
  have B2 := B.below hb2
  have hgl := B.g_lt
  have hhl := B.h_lt
  generalize w1.alloc (.cells #[.int .i64 0, .int .i64 64] 23) = w2 at hb2 r0 r1 B2 ⊢
  have HQ := Lib.hid (And.intro hg (And.intro hh (And.intro hgl hhl)))
  have HB2 := Lib.hid (hb1.trans (hb2.mono hb1.size))
  have HBUF := Lib.hid B2
  have hrg : ¬ Two g h w1.heap.size := fun e => by rcases e with e | e <;> omega
  have HRG := Lib.hid hrg
  clear B B2 hb1 hb2 hg hh hgl hhl hrg
  go_upto_region 4 with (go_at_call 6; refine (fxNew 0 64 (by decide) (by decide) w2).mono ?_; rintro e w3 ⟨gp, rfl, hp, hb3⟩; have HP := Lib.hid hp; have HB3 := Lib.hid hb3; clear hp hb3)
  have HNEW := Lib.hid (oneNew (y := .pointer (some ⟨gp, 0, none⟩)) (T0 := 26) (mc := .fix (Fm.new 0 64)) HBUF.out ⟨gp, rfl, HP.out⟩ HB3.out)
  go_upto_region 5 with (first
    | (go_at_call 12; refine (HNEW.out _).mono ?_; rintro e w5 ⟨gw, rfl, hs5⟩; have HS5 := Lib.hid hs5; clear hs5)
    | (go_at_call 13; refine (oneRobin (st := fy0) HS5.out 99 fy0_len).mono ?_; rintro e w6 ⟨rfl, hs6⟩; have HS6 : Hid (OneAt w2 w6 gw g h (.iface 26 (.pointer (some ⟨gp, 0, none⟩))) fy1) := Lib.hid hs6; clear hs6))
  clear HNEW HP HS5 HBUF
  go_upto_region 6 with (go_at_call 10; refine (HS6.out.fixed fy1_na fy1_is fy1_res).mono ?_; rintro e w7 ⟨rfl, rfl⟩)
  have hlr := lt_of_cell r0
  have q0 := (HS6.out.touch.cell (p := ⟨w1.heap.size, 0, none⟩) hlr HRG.out).trans r0
  have q1 := (HS6.out.touch.cell (p := ⟨w1.heap.size, 1, none⟩) hlr HRG.out).trans r1
  have HL6 := Lib.hid (HS6.out.touch.below HB2.out HB2.out.size fun k hk => by rcases hk with e | e <;> rw [e] <;> first | exact HQ.out.1 | exact HQ.out.2.1)
  have HBUF6 := Lib.hid HS6.out.buf
  have hlr6 := lt_of_cell q0
  clear r0 r1 hlr HS6 HB2 HB3
  have hbz := (Below.refl w6.heap.size w6).alloc (Nat.le_refl _) (.cells #[.int .u8 97, .int .u8 98] 5 (2, 3))
  have HBY := Lib.hid (fxAb_at w6)
  have hconv : (convert 30 30 (.slice (some ⟨w6.heap.size, 0, none⟩) 2 2)).run Tryz.prog (w6.alloc (.cells #[.int .u8 97, .int .u8 98] 5))
      = .ok (.slice (some ⟨w6.heap.size, 0, none⟩) 2 2) (w6.alloc (.cells #[.int .u8 97, .int .u8 98] 5 (2, 3))) := Lib.run_convert_bytes_const w6 30 5 #[.int .u8 97, .int .u8 98] 2 2 Tryz.underlying30 Tryz.underlying5
  go_upto_region 7 with (first
    | (go_at_call 14; refine (rpNew 0 64 1 (by decide) (by decide) (by decide) _ 2 2 fxAb fxAb_isB _ HBY.out).mono ?_; rintro e w8 ⟨gp2, rfl, hp8, hb8⟩; have HB8 := Lib.hid (hbz.trans (hb8.mono hbz.size)); have HNEW2 := Lib.hid (oneNew (y := .pointer (some ⟨gp2, 0, none⟩)) (T0 := 51) (mc := .put (Pm.new 0 64 1 fxAb 2)) HBUF6.out ⟨gp2, rfl, hp8.wide fun k hk => ⟨Nat.le_trans hbz.size hk.1, hk.2⟩⟩ HB8.out); clear hp8 hb8)
    | (go_at_call 12; refine (HNEW2.out _).mono ?_; rintro e w9 ⟨gw2, rfl, hs9⟩; have HS9 : Hid (OneAt w6 w9 gw2 g h (.iface 51 (.pointer (some ⟨gp2, 0, none⟩))) fy2) := Lib.hid hs9; clear hs9)
    | (go_at_call 13; refine (oneRobin (st := fy2) HS9.out 4 fy2_len).mono ?_; rintro e w10 ⟨rfl, hs10⟩; have HS10 : Hid (OneAt w6 w10 gw2 g h (.iface 51 (.pointer (some ⟨gp2, 0, none⟩))) fy3) := Lib.hid hs10; clear hs10))
  have s0 := (HS10.out.touch.cell (p := ⟨w1.heap.size, 0, none⟩) hlr6 HRG.out).trans q0
  have s1 := (HS10.out.touch.cell (p := ⟨w1.heap.size, 1, none⟩) hlr6 HRG.out).trans q1
  have HL10 := Lib.hid (HS10.out.touch.below HL6.out HL6.out.size fun k hk => by rcases hk with e | e <;> rw [e] <;> first | exact HQ.out.1 | exact HQ.out.2.1)
  have HBUF10 := Lib.hid HS10.out.buf
  clear hconv q0 q1 hlr6 HS10 HS9 HNEW2 HB8 HBY hbz HBUF6 HL6
  go_upto_region 8 with (go_at_call 6; refine (fxNew 0 64 (by decide) (by decide) w10).mono ?_; rintro e w11 ⟨gp3, rfl, hp, hb11⟩; have HP := Lib.hid hp; have HB11 := Lib.hid hb11; clear hp hb11)
  have HNEW := Lib.hid (oneNew (y := .pointer (some ⟨gp3, 0, none⟩)) (T0 := 26) (mc := .fix (Fm.new 0 64)) HBUF10.out ⟨gp3, rfl, HP.out⟩ HB11.out)
  go_upto_region 9 with (first
    | (go_at_call 12; refine (HNEW.out _).mono ?_; rintro e w12 ⟨gw3, rfl, hs12⟩; have HS12 : Hid (OneAt w10 w12 gw3 g h (.iface 26 (.pointer (some ⟨gp3, 0, none⟩))) fy4) := Lib.hid hs12; clear hs12)
    | (go_at_call 13; refine (oneRobin (st := fy4) HS12.out 99 fy4_len).mono ?_; rintro e w13 ⟨rfl, hs13⟩; have HS13 : Hid (OneAt w10 w13 gw3 g h (.iface 26 (.pointer (some ⟨gp3, 0, none⟩))) fy5) := Lib.hid hs13; clear hs13))
  have HL13 := Lib.hid (HS13.out.touch.below HL10.out HL10.out.size fun k hk => by rcases hk with e | e <;> rw [e] <;> first | exact HQ.out.1 | exact HQ.out.2.1)
  clear s0 s1
  go_wp2_with (go_at_call 10; refine (HS13.out.fixed fy5_na fy5_is fy5_res).mono ?_; rintro e w14 ⟨rfl, rfl⟩)
  go_ret
  exact ⟨rfl, HL13.out⟩
end Go.Proofs.YtaomkamdfbibbaaGreat
namespace Go.Proofs.YtaomkamdfbibbaaGreat
open Go.RowKit

theorem infoAns3 : (Tryz.prog.info? 37).map (fun i => (i.zero, i.size, i.bytes)) = some (some (.agg #[.int .u64 0, .bool false, .slice none 0 0]), 3, 40) := by kernel_rfl

/-- The cells of the first n answers. -/
def Ans.row (T : Nat → Ans) : Nat → List Value
  | 0 => []
  | n + 1 => Ans.row T n ++ [.int .u64 (T n).V, .bool (T n).D, .slice (T n).A (T n).L (T n).cap]
theorem Ans.row_len (T : Nat → Ans) (n : Nat) : (Ans.row T n).length = n * 3 := by
  induction n with
  | zero => rfl
  | succ n ih =>
    show (Ans.row T n ++ _).length = _
    rw [List.length_append, ih]
    show n * 3 + 3 = _
    omega
theorem Ans.row_get (T : Nat → Ans) (n i j : Nat) (hi : i < n) (hj : j < 3) : (Ans.row T n)[i * 3 + j]? = [Value.int .u64 (T i).V, .bool (T i).D, .slice (T i).A (T i).L (T i).cap][j]? := by
  induction n with
  | zero => omega
  | succ n ih =>
    have hl := Ans.row_len T n
    show (Ans.row T n ++ _)[i * 3 + j]? = _
    rcases Nat.lt_or_ge i n with h | h
    · rw [List.getElem?_append_left (by omega)]
      exact ih h
    · obtain rfl : i = n := by omega
      rw [List.getElem?_append_right (by omega), hl, Nat.add_sub_cancel_left]
theorem Ans.row_one (T : Nat → Ans) (n : Nat) : ∀ u ∈ Ans.row T n, u.oneCell' = true := by
  induction n with
  | zero => intro u hu; cases hu
  | succ n ih =>
    intro u hu
    rcases List.mem_append.1 hu with h | h
    · exact ih u h
    · simp only [List.mem_cons, List.not_mem_nil, or_false] at h
      rcases h with rfl | rfl | rfl <;> rfl

/-- A row of M answers in block g that may be written. -/
def TellRow (w : World) (g M : Nat) (T : Nat → Ans) : Prop :=
  ∃ cur, w.heap[g]? = some (.cells cur 37 (0, 0)) ∧ ∀ i, i < M → cur[i * 3]? = some (.int .u64 (T i).V) ∧ cur[i * 3 + 1]? = some (.bool (T i).D) ∧ cur[i * 3 + 2]? = some (.slice (T i).A (T i).L (T i).cap)

theorem TellRow.of_block {w w' : World} {g M : Nat} {T : Nat → Ans} (h : TellRow w g M T) (hb : w'.heap[g]? = w.heap[g]?) : TellRow w' g M T := by
  obtain ⟨cur, h1, h2⟩ := h
  exact ⟨cur, hb.trans h1, h2⟩
theorem TellRow.lt {w : World} {g M : Nat} {T : Nat → Ans} (h : TellRow w g M T) : g < w.heap.size := by
  obtain ⟨cur, h1, _⟩ := h
  exact (Array.getElem?_eq_some_iff.1 h1).1
theorem TellRow.cells {w : World} {g M i : Nat} {T : Nat → Ans} (h : TellRow w g M T) (hi : i < M) :
    w.cell? ⟨g, i * 3, none⟩ = some (.int .u64 (T i).V) ∧ w.cell? ⟨g, i * 3 + 1, none⟩ = some (.bool (T i).D) ∧ w.cell? ⟨g, i * 3 + 2, none⟩ = some (.slice (T i).A (T i).L (T i).cap) ∧ w.frozen? ⟨g, i * 3, none⟩ = false := by
  obtain ⟨cur, h1, h2⟩ := h
  obtain ⟨a, b, c⟩ := h2 i hi
  exact ⟨by simp [World.cell?, h1, a], by simp [World.cell?, h1, b], by simp [World.cell?, h1, c], by simp [World.frozen?, h1]⟩
theorem TellRow.told {w : World} {g M : Nat} {T : Nat → Ans} (h : TellRow w g M T) (hs : ∀ i, i < M → (T i).Is w) : ToldAt w (some ⟨g, 0, none⟩) M T := fun _ => ⟨g, 0, rfl, h.lt, fun i hi => by
  obtain ⟨a, b, c, _⟩ := h.cells hi
  rw [Nat.zero_add]
  exact ⟨a, b, c, hs i hi⟩⟩
/-- Another number in the i-th answer. -/
def Ans.with (T : Nat → Ans) (i V : Nat) (j : Nat) : Ans := if j = i then ⟨V, (T i).D, (T i).A, (T i).L, (T i).cap, (T i).f⟩ else T j
theorem Ans.with_at (T : Nat → Ans) (i V : Nat) : Ans.with T i V i = ⟨V, (T i).D, (T i).A, (T i).L, (T i).cap, (T i).f⟩ := if_pos rfl
theorem Ans.with_ne (T : Nat → Ans) (i V : Nat) {j : Nat} (h : j ≠ i) : Ans.with T i V j = T j := if_neg h
theorem Ans.with_same (T : Nat → Ans) (i : Nat) : Ans.with T i (T i).V = T := by
  funext j
  by_cases h : j = i
  · subst h; rw [Ans.with_at]
  · rw [Ans.with_ne T i _ h]
theorem TellRow.set {w : World} {g M i : Nat} {T : Nat → Ans} (h : TellRow w g M T) (V : Nat) : TellRow (w.setCell ⟨g, i * 3, none⟩ (.int .u64 V)) g M (Ans.with T i V) := by
  obtain ⟨cur, h1, h2⟩ := h
  refine ⟨_, blk_set h1 _, fun j hj => ?_⟩
  obtain ⟨a, b, c⟩ := h2 j hj
  by_cases e : j = i
  · subst e
    rw [Ans.with_at]
    refine ⟨?_, ?_, ?_⟩
    · rw [Array.getElem?_setIfInBounds_self]; rw [if_pos (Array.getElem?_eq_some_iff.1 a).1]
    · rw [Array.getElem?_setIfInBounds_ne (by omega)]; exact b
    · rw [Array.getElem?_setIfInBounds_ne (by omega)]; exact c
  · rw [Ans.with_ne T i V e]
    refine ⟨?_, ?_, ?_⟩
    · rw [Array.getElem?_setIfInBounds_ne (by omega)]; exact a
    · rw [Array.getElem?_setIfInBounds_ne (by omega)]; exact b
    · rw [Array.getElem?_setIfInBounds_ne (by omega)]; exact c

theorem append_none3 {w : World} {base : Nat} {v : Value} {n : Nat} {xs : List Value} (hv : w.ownsRow base 37 3 v n xs) (c : Nat) (ty : TypeId) :
    (Builtin.append_ #[24, 24] ty #[v, .slice none 0 c]).run Tryz.prog w = .ok v w := by
  obtain ⟨i0, hi, _⟩ := info_parts infoAns3
  have ht := Tryz.underlying24
  rcases hv.2 with ⟨rfl, hx⟩ | ⟨g, cap, cur, rfl, _, _, hnc, _⟩
  · simp [Builtin.append_, run_underlying ht, sizeOf, typeInfo, hi, Builtin.lenOf, Builtin.firstCells]
  · simp [Builtin.append_, run_underlying ht, sizeOf, typeInfo, hi, Builtin.lenOf, Builtin.firstCells, hnc, storeCells]

/-- What the appending of answers left: a row of the call's own, with them. -/
def AnsApp (base M : Nat) (T : Nat → Ans) (g0 : Nat) (w : World) (v' : Value) (w' : World) : Prop :=
  ∃ g cap, v' = .slice (some ⟨g, 0, none⟩) M cap ∧ M ≤ cap ∧ cap ≤ 9223372036854775807 ∧ base ≤ g ∧ TellRow w' g M T ∧ w.grownBy w' (some g0)

theorem ansApp_of {base M g0 : Nat} {T : Nat → Ans} {w w' : World} {v' : Value} (h : w'.ownsRow base 37 3 v' M (Ans.row T M)) (hn : v' ≠ .slice none 0 0) (hg : w.grownBy w' (some g0)) : AnsApp base M T g0 w v' w' := by
  rcases h.2 with ⟨rfl, _⟩ | ⟨g, cap, cur, rfl, hb, hk, h1, h2, h3, h4⟩
  · exact absurd rfl hn
  · refine ⟨g, cap, rfl, h1, by unfold maxLen at h2; omega, hb, ⟨cur, hk, fun i hi => ?_⟩, hg⟩
    have get : ∀ j, j < 3 → cur[i * 3 + j]? = (Ans.row T M)[i * 3 + j]? := fun j hj => by
      rw [← h4, List.getElem?_take_of_lt (by omega)]
      simp
    have e0 := (get 0 (by omega)).trans (Ans.row_get T M i 0 hi (by omega))
    have e1 := (get 1 (by omega)).trans (Ans.row_get T M i 1 hi (by omega))
    have e2 := (get 2 (by omega)).trans (Ans.row_get T M i 2 hi (by omega))
    exact ⟨e0, e1, e2⟩

theorem run_app_answers {w : World} {base g0 : Nat} (hv : w.ownsRow base 37 3 (.slice (some ⟨g0, 0, none⟩) 0 0) 0 []) {A : Option Addr} {n c : Nat} {T : Nat → Ans} (hT : ToldAt w A n T) (hn : n ≤ 1000000) (hb : base ≤ w.heap.size) (ty : TypeId) :
    ∃ v' w', (Builtin.append_ #[24, 24] ty #[.slice (some ⟨g0, 0, none⟩) 0 0, .slice A n c]).run Tryz.prog w = .ok v' w' ∧ AnsApp base n T g0 w v' w' := by
  obtain ⟨i0, hi, hz0, hz1, hz2⟩ := info_parts infoAns3
  have hu := Tryz.underlying24
  by_cases hp : 0 < n
  · obtain ⟨b, off, rfl, hl, hc⟩ := hT hp
    obtain ⟨v', w', hrun, h2, h3, _, h5⟩ := run_append_own_at (P := Tryz.prog) w base 24 ty 37 i0 _ 3 40 hu hi hz0 hz1 hz2 rfl (by decide) _ 0 _ hv ⟨b, off, none⟩ n c (Ans.row T n) (Ans.row_len T n) (by
      intro j u hj
      have e : (⟨b, off, none⟩ : Addr).add j = ⟨b, off + j, none⟩ := by unfold Addr.add; split <;> simp_all
      rw [e]
      have hjl : j < n * 3 := by
        rw [← Ans.row_len T n]
        exact (List.getElem?_eq_some_iff.1 hj).1
      obtain ⟨i, k, rfl, hk⟩ : ∃ i k, j = i * 3 + k ∧ k < 3 := ⟨j / 3, j % 3, by omega, by omega⟩
      rw [Ans.row_get T n i k (by omega) hk] at hj
      obtain ⟨c0, c1, c2, _⟩ := hc i (by omega)
      rw [← Nat.add_assoc]
      match k, hk, hj with
      | 0, _, hj => exact c0.trans hj
      | 1, _, hj => exact c1.trans hj
      | 2, _, hj => exact c2.trans hj) (Ans.row_one T n) (by unfold maxLen; omega) (by omega) hb
    rw [Nat.zero_add] at h2
    refine ⟨v', w', hrun, ansApp_of (by simpa using h2) (fun e => ?_) h3⟩
    obtain ⟨g, cap, e2, _⟩ := h2.form hp
    rw [e] at e2
    cases e2
  · obtain rfl : n = 0 := by omega
    cases A with
    | none => exact ⟨_, w, append_none3 hv c ty, ansApp_of hv (fun e => by cases e) (World.grownBy.refl w _)⟩
    | some a =>
      obtain ⟨v', w', hrun, h2, h3, h4, h5⟩ := run_append_own_at (P := Tryz.prog) w base 24 ty 37 i0 _ 3 40 hu hi hz0 hz1 hz2 rfl (by decide) _ 0 _ hv a 0 c [] (by simp) (by simp) (by simp) (by unfold maxLen; omega) (by omega) hb
      exact ⟨v', w', hrun, ansApp_of h2 (fun e => absurd (h4.1 e).1 (by simp)) h3⟩

set_option maxRecDepth 100000 in
theorem wpList_app_answers {w : World} {ops : Array Oper} {rest : List Oper} {o : Oper} {a : Act} {Q : Exit → Act → World → Prop} (hgd : o.guard = none) (s x : Operand)
    (ho : o.op = .call { callee := .builtin .append, args := #[s, x], argTypes := #[24, 24] }) (base g0 : Nat) (A : Option Addr) (n c : Nat) (T : Nat → Ans)
    (hs : a.eval s = .slice (some ⟨g0, 0, none⟩) 0 0) (hx : a.eval x = .slice A n c) (hv : w.ownsRow base 37 3 (.slice (some ⟨g0, 0, none⟩) 0 0) 0 []) (hT : ToldAt w A n T) (hn : n ≤ 1000000) (hb : base ≤ w.heap.size)
    (h : ∀ v' w', AnsApp base n T g0 w v' w' → wpList Tryz.prog ops Q rest (a.put o.dst v') w') : wpList Tryz.prog ops Q (o :: rest) a w := by
  refine wpList_plain hgd fun K hK => ?_
  obtain ⟨v', w', hrun, h5⟩ := run_app_answers hv (c := c) hT hn hb o.type
  unfold Oper.wp execOp
  simp only [ho, resolve, invoke, builtin, Sem.run_bind, Sem.run_pure, Result.andThen_ok, List.map_toArray, List.map_cons, List.map_nil, hs, hx, hrun]
  exact hK _ _ (h v' w' h5)

theorem ans_empty (w : World) : (w.alloc (.cells #[] 37)).ownsRow w.heap.size 37 3 (.slice (some ⟨w.heap.size, 0, none⟩) 0 0) 0 [] :=
  ⟨by simp, .inr ⟨w.heap.size, 0, #[], rfl, Nat.le_refl _, Go.Deep.blk_alloc_new _ _, Nat.le_refl _, by unfold maxLen; decide, by simp, by simp⟩⟩
end Go.Proofs.YtaomkamdfbibbaaGreat
namespace Go.Proofs.YtaomkamdfbibbaaGreat
open Go.RowKit

theorem putSays_dead {p cap i : Nat} {A : Option Addr} {m : Pm} {Z er : Int} {w w' : World} (hm : m = .dead Z er) (er' : Int) (he : er' = if Z = 0 then 1 else er) (hne : er' ≠ 0) (ht : Touch (One p) w w') (htp : Tp w' p A cap i 0 0 0 0 0 0 (.slice none 0 0) false) :
    PutSays p A cap i m w (.returned (.tuple #[.int .i64 0, .bool false, .int .i64 er'])) w' := by
  subst hm
  refine ⟨0, false, er', rfl, ht, rfl, ?_, fun h => absurd h hne, Ac.zero, none, 0, 0, 0, htp, BytesAt.nil _, rfl⟩
  unfold Pm.result
  show er' = (if Z = 0 then ((0 : Int), (1 : Int)) else if false = true then (0, 10) else if er = 0 then (0, 0) else (0, er)).2
  by_cases hz : Z = 0
  · rw [he, if_pos hz, if_pos hz]
  · rw [he, if_neg hz] at hne
    rw [he, if_neg hz, if_neg hz, if_neg (by decide), if_neg hne]

theorem putNextU {w : World} {F : Nat → Prop} {g : Nat} {m : Pm} (h : PmAt w F g m) (hF : ∀ k, F k → k < w.heap.size) {a : Ac} (ha : a = m.next.getD Ac.zero) :
    Calls Tryz.prog 149 #[.pointer (some ⟨g, 0, none⟩)] w (fun e w' => ∃ A l c, e = .returned (.tuple #[.agg #[.int .i64 a.K, .int .i64 a.P, .int .i64 a.N, .int .u64 a.V, .int .u64 a.U, .slice A l c], .bool m.busy]) ∧ BytesAt w' (.slice A l c) a.bs ∧ Below w.heap.size w w') := by
  have hb : m.busy = m.next.isSome := by cases m <;> rfl
  refine (putNext h hF).mono ?_
  subst ha
  rw [hb]
  cases m.next with
  | none =>
    rintro e w' ⟨hb, rfl⟩
    exact ⟨none, 0, 0, rfl, BytesAt.nil _, hb⟩
  | some a =>
    rintro e w' ⟨hb, A, l, c, rfl, ho⟩
    exact ⟨A, l, c, rfl, ho.bytes, hb⟩

theorem Pm.result_pos (m : Pm) : (m.result.2 = 0 → m.result.1 = m.pos) ∧ (m.result.2 ≠ 0 → m.result.1 = 0) := by
  unfold Pm.result
  split
  · exact ⟨(fun h => by cases h), fun _ => rfl⟩
  · split
    · exact ⟨(fun h => by cases h), fun _ => rfl⟩
    · split
      · exact ⟨fun _ => rfl, fun h => absurd rfl h⟩
      · rename_i h
        exact ⟨fun h2 => absurd h2 h, fun _ => rfl⟩

end Go.Proofs.YtaomkamdfbibbaaGreat
namespace Go.Proofs.YtaomkamdfbibbaaGreat
open Go.RowKit

/-- A put's machine, if it is one. -/
def Mc.putOf : Mc → Pm
  | .put m => m
  | _ => .dead 0 0
def Mc.isPut : Mc → Bool
  | .put _ => true
  | _ => false
theorem Mc.put_is {s : Mc} (h : s.isPut = true) : s = .put s.putOf := by
  cases s with
  | put m => rfl
  | _ => cases h

/-- The states. -/
def rx0 : St := St.made 1 (fun i => if i = 0 then .put (Pm.new 0 64 1 (fun _ => 0) 8) else .none) (fun _ => 0) 12 0
def rx1 : St := (rx0.robin 99).1
theorem rx_n : (rx0.robin 99).2 = 6 := by decide +kernel
theorem rx_is : (rx1.ms 0).isPut = true := by decide +kernel
theorem rx_res : (rx1.ms 0).putOf.result = (0, 0) := by decide +kernel
theorem rx_busy : (Pm.new 0 64 1 (fun _ => 0) 8).result = (0, 10) := by decide +kernel
theorem rx_tail : Mb.nm rx1.m 64 8 = 16 := by decide +kernel
theorem rx_len : rx0.tr.length + 99 ≤ 1000000 := by decide +kernel
theorem rx_nw : rx1.nw = 12 := by decide +kernel

/-- One put, of a new scheduler. -/
theorem fixed7_made {w0 w1 w3 : World} {g h gp : Nat} (B : Buf w1 g h (fun _ => 0) 12 0) (h1 : w0.heap.size ≤ g) (h2 : w0.heap.size ≤ h) (hb1 : Below w0.heap.size w0 w1) {m : Pm} {n2 : Nat} (hn2 : w1.heap.size ≤ n2)
    (hp : PmAt w3 (fun k => n2 ≤ k ∧ k < w3.heap.size) gp m) (hb3 : Below w1.heap.size w1 w3) :
    ∀ T, Calls Tryz.prog 12 #[.pointer (some ⟨g, 0, none⟩), .slice (some ⟨w3.heap.size, 0, none⟩) 1 1] (w3.alloc (.cells #[.iface 51 (.pointer (some ⟨gp, 0, none⟩))] T)) fun e w' => ∃ gw ga o', e = .returned (.pointer (some ⟨gw, 0, none⟩)) ∧ Stood w0 w' o' gw ga g h (fun i => if i = 0 then .iface 51 (.pointer (some ⟨gp, 0, none⟩)) else .nilIface) (St.made 1 (fun i => if i = 0 then .put m else .none) (fun _ => 0) 12 0) ∧ Below w3.heap.size w3 w' := by
  intro T
  have s1 := hb1.size
  have s3 := hb3.size
  have hgl := B.g_lt
  have hhl := B.h_lt
  have hba := (Below.refl w3.heap.size w3).alloc (Nat.le_refl _) (.cells #[.iface 51 (.pointer (some ⟨gp, 0, none⟩))] T)
  have e0 : (w3.alloc (.cells #[.iface 51 (.pointer (some ⟨gp, 0, none⟩))] T)).heap.size = w3.heap.size + 1 := by simp
  have x0 := Go.Deep.blk_alloc_new w3 (.cells #[.iface 51 (.pointer (some ⟨gp, 0, none⟩))] T)
  generalize w3.alloc (.cells #[.iface 51 (.pointer (some ⟨gp, 0, none⟩))] T) = w4 at *
  have B4 := (B.below hb3).below hba
  refine (schedNew_any B4 (some ⟨w3.heap.size, 0, none⟩) 1 1 (fun i => if i = 0 then .iface 51 (.pointer (some ⟨gp, 0, none⟩)) else .nilIface) (fun i => if i = 0 then .put m else .none) (by decide) (by decide) (by decide)
    (fun _ => ⟨w3.heap.size, rfl, by omega, fun i hi => ?_⟩) (o := fun k => if k = g ∨ k = h then .bf else if n2 ≤ k ∧ k < w3.heap.size then .ma 0 else .no) (fun i hi => ?_) ?_ ?_ (fun k hk => ?_)).mono ?_
  · match i, hi with
    | 0, _ => simp [World.cell?, x0]
  · match i, hi with
    | 0, _ =>
      refine MRep.mono (F := fun k => n2 ≤ k ∧ k < w3.heap.size) ⟨gp, rfl, hp.keep hba.size fun k hk => hba.block k hk.2⟩ fun k hk => ?_
      show (if _ then _ else _) = _
      rw [if_neg (by omega), if_pos hk]
  · exact if_pos (.inl rfl)
  · exact if_pos (.inr rfl)
  · by_cases e1 : k = g ∨ k = h
    · omega
    · rw [if_neg e1] at hk
      by_cases e2 : n2 ≤ k ∧ k < w3.heap.size
      · omega
      · rw [if_neg e2] at hk
        exact absurd rfl hk
  · rintro e w' ⟨gw, ga, o', rfl, _, hs, hbl, ho⟩
    have hbl2 : Below w3.heap.size w3 w' := hba.trans (hbl.mono (by omega))
    refine ⟨gw, ga, o', rfl, ⟨⟨_, _, hs⟩, (hb1.trans (hb3.mono s1)).trans (hbl2.mono (by omega)), fun k hk => ?_⟩, hbl2⟩
    rw [ho k (by omega)]
    show (if _ then _ else _) = _
    rw [if_neg (by omega), if_neg (by omega)]

end Go.Proofs.YtaomkamdfbibbaaGreat
namespace Go.Proofs.YtaomkamdfbibbaaGreat
open Go.RowKit

/-- A row of L bytes in block g that may be written. -/
def PutRow (w : World) (g L : Nat) : Prop := ∃ cur, w.heap[g]? = some (.cells cur 5 (0, 0)) ∧ ∀ j, j < L → ∃ x, cur[j]? = some (.int .u8 x)

theorem PutRow.set {w : World} {g L i : Nat} (h : PutRow w g L) (y : Int) : PutRow (w.setCell ⟨g, i, none⟩ (.int .u8 y)) g L := by
  obtain ⟨cur, hb, hc⟩ := h
  refine ⟨_, blk_set hb _, fun j hj => ?_⟩
  obtain ⟨x, hx⟩ := hc j hj
  by_cases e : i = j
  · subst e
    exact ⟨y, by rw [Array.getElem?_setIfInBounds_self]; rw [if_pos (Array.getElem?_eq_some_iff.1 hx).1]⟩
  · exact ⟨x, by rw [Array.getElem?_setIfInBounds_ne e]; exact hx⟩

theorem PutRow.cell {w : World} {g L i : Nat} (h : PutRow w g L) (hi : i < L) : ∃ x, w.cell? ⟨g, i, none⟩ = some (.int .u8 x) ∧ w.frozen? ⟨g, i, none⟩ = false := by
  obtain ⟨cur, hb, hc⟩ := h
  obtain ⟨x, hx⟩ := hc i hi
  exact ⟨x, by simp [World.cell?, hb, hx], by simp [World.frozen?, hb]⟩

theorem Owns.putRow {base : Nat} {w : World} {A : Option Addr} {L c : Nat} {xs : List Int} (h : Owns base w (.slice A L c) xs) (hl : xs.length = L) (hp : 0 < L) : ∃ g, A = some ⟨g, 0, none⟩ ∧ base ≤ g ∧ g < w.heap.size ∧ PutRow w g L := by
  obtain ⟨g, cap, hv, _, _, hg, hgl, hc⟩ := h.form (by omega)
  injection hv with e1 _ _
  subst e1
  rcases h.2 with ⟨_, h0⟩ | ⟨g', cap', cur, hv', _, hh, _⟩
  · omega
  · injection hv' with e1 _ _
    injection e1 with e1
    injection e1 with e1 _
    subst e1
    refine ⟨g, rfl, hg, hgl, cur, hh, fun j hj => ?_⟩
    have := hc j (by omega)
    simp only [World.cell?, hh] at this
    exact ⟨_, this⟩

theorem ToldAt.less {w : World} {A : Option Addr} {n m : Nat} {T : Nat → Ans} (h : ToldAt w A n T) (hm : m ≤ n) : ToldAt w A m T := by
  intro hp
  obtain ⟨b, off, e, hlt, hc⟩ := h (by omega)
  exact ⟨b, off, e, hlt, fun i hi => hc i (by omega)⟩

end Go.Proofs.YtaomkamdfbibbaaGreat
namespace Go.Proofs.YtaomkamdfbibbaaGreat
open Go.RowKit

theorem Fm.at_congr {m : Fm} {T T' : Nat → Ans} {i : Nat} (h : ∀ j, j < i → T j = T' j) : m.at T i = m.at T' i := by
  induction i with
  | zero => rfl
  | succ i ih =>
    show (m.at T i).take (T i).an = (m.at T' i).take (T' i).an
    rw [ih fun j hj => h j (by omega), h i (by omega)]
theorem Fm.Half.congr {m : Fm} {T T' : Nat → Ans} {i : Nat} (hh : m.Half T i) (h : ∀ j, j < i → T j = T' j) : m.Half T' i := fun j hj a ha hn => by
  rw [← h j hj]
  exact hh j hj a (by rw [Fm.at_congr (T' := T') fun k hk => h k (by omega)]; exact ha) hn

theorem fx_u32 (V : Nat) : IntKind.u64.wrap (IntKind.u32.wrap (V : Int)) = ((V % 4294967296 : Nat) : Int) := by
  rw [Hd.u32_wrap, Hd.u64_small _ (by omega) (by omega)]
  omega

set_option linter.unusedSimpArgs false in
set_option maxRecDepth 100000 in
set_option maxHeartbeats 4000000 in
theorem ringfixSteps_main (B Z : Int) (hB : -9223372036854775808 ≤ B ∧ B ≤ 9223372036854775807) (hZ : -9223372036854775808 ≤ Z ∧ Z ≤ 9223372036854775807)
    (A : Option Addr) (M cap : Nat) (hM : M ≤ cap) (hcap : cap ≤ 9223372036854775807) (T : Nat → Ans) (w : World) (hT : ToldAt w A M T) (hM2 : M ≤ 60) :
    Calls Tryz.prog 3 #[.agg #[.int .i64 B, .int .i64 Z], .slice A M cap] w (TrueBelow w) := by
  have HA := Lib.hid (And.intro hB (And.intro hZ (And.intro hM hcap)))
  have HT := Lib.hid hT
  clear hB hZ hT
  go_enter Tryz.func3, Tryz.ntmps3
  go_wp2_with fail
  have hr0 := un_below w (.int .i64 B) (.int .i64 Z) 23
  have hx0 := Go.Deep.blk_alloc_new w (.cells #[.int .i64 B, .int .i64 Z] 23)
  have HR0 := Lib.hid hr0
  have HX0 := Lib.hid hx0
  have hsz0 : w.heap.size < (w.alloc (.cells #[.int .i64 B, .int .i64 Z] 23)).heap.size := by simp
  clear hr0 hx0
  generalize w.alloc (.cells #[.int .i64 B, .int .i64 Z] 23) = w0 at HR0 HX0 hsz0 ⊢
  refine (fixed9_any w0).mono ?_
  rintro e w1 ⟨rfl, hq1⟩
  have HW1 := Lib.hid (HR0.out.trans (hq1.mono HR0.out.size))
  have HX1 := Lib.hid ((hq1.block _ hsz0).trans HX0.out)
  have hs1 := hq1.size
  have hsw := HR0.out.size
  clear hq1
  have hxx := HX1.out
  have r0 : w1.cell? ⟨w.heap.size, 0, none⟩ = some (.int .i64 B) := by simp [World.cell?, hxx]
  have r1 : w1.cell? ⟨w.heap.size, 1, none⟩ = some (.int .i64 Z) := by simp [World.cell?, hxx]
  clear hxx
  go_upto_region 6 with (go_at_call 6; refine (fxNew B Z HA.out.1 HA.out.2.1 w1).mono ?_; rintro e w2 ⟨gp, rfl, hp2, hb2⟩; have HP2 := Lib.hid hp2; have HB2 := Lib.hid hb2; clear hp2 hb2)
  clear r0 r1
  have hs2 := HB2.out.size
  have hap := ans_empty w2
  have hpb := (Below.refl w2.heap.size w2).alloc (Nat.le_refl _) (.cells #[] 37)
  have HTE := Lib.hid (((HT.out.below (HW1.out.trans (HB2.out.mono HW1.out.size)))).below hpb)
  have HAP := Lib.hid hap
  clear hap
  go_upto_region 7 with (at_builtin; refine wpList_app_answers rfl _ _ rfl w2.heap.size w2.heap.size A M cap T rfl rfl HAP.out HTE.out (by omega) (by simp) ?_; intro v3 w3 happ)
  obtain ⟨gr, c3, rfl, hc3, hc3b, hgr, hrow, hgrow⟩ := happ
  have hbel3 : Below w2.heap.size w2 w3 := hpb.grown hgrow (by simp) (fun k hk => by injection hk with hk; omega)
  have HROW := Lib.hid hrow
  have HB3 := Lib.hid hbel3
  have hs3 := hbel3.size
  clear hgrow hbel3 hpb hrow HTE HAP
  have hHalf0 : (Fm.new B Z).Half T 0 := fun j hj => absurd hj (Nat.not_lt_zero _)
  have HH0 := Lib.hid hHalf0
  clear hHalf0
  go_wp2_with fail
  go_loopw [21] (fun t wr => ∃ (i : Nat) (F : Nat → Prop) (T' : Nat → Ans), t = .int .i64 i ∧ i ≤ M ∧ Below w1.heap.size w1 wr ∧ FmAt wr F gp ((Fm.new B Z).at T' i) ∧ (∀ k, F k → w1.heap.size ≤ k ∧ k < wr.heap.size ∧ k ≠ gr) ∧ TellRow wr gr M T' ∧ (Fm.new B Z).Half T' i ∧
      (∀ j, j < M → (T' j).V < 18446744073709551616 ∧ T' j = ⟨(T' j).V, (T j).D, (T j).A, (T j).L, (T j).cap, (T j).f⟩)) (fun t _ => M - (intOf t).toNat)
  case atStart =>
    have hP3 := HP2.out.keep (w' := w3) fun k hk => HB3.out.block k hk.2
    refine ⟨0, _, T, rfl, Nat.zero_le _, HB2.out.trans (HB3.out.mono HB2.out.size), hP3, fun k hk => ⟨hk.1, by omega, by omega⟩, HROW.out, HH0.out, fun j hj => ⟨told_num HT.out hj, rfl⟩⟩
  case round =>
    obtain ⟨i, F, T', rfl, hi, hbel, hpm, hF, hrw, hhalf, hTT⟩ := hrel
    have hrr := (hbel.block _ (by omega)).trans HX1.out
    have r0 : wr.cell? ⟨w.heap.size, 0, none⟩ = some (.int .i64 B) := by simp [World.cell?, hrr]
    have r1 : wr.cell? ⟨w.heap.size, 1, none⟩ = some (.int .i64 Z) := by simp [World.cell?, hrr]
    clear hrr
    have HBEL := Lib.hid hbel
    have HPM := Lib.hid hpm
    have HF := Lib.hid hF
    have HRW := Lib.hid hrw
    have HHF := Lib.hid hhalf
    have HTT := Lib.hid hTT
    have HW := Lib.hid (HW1.out.trans (hbel.mono HW1.out.size))
    have hsz := hbel.size
    have HIS : Hid (∀ {W : World}, Below w.heap.size w W → ∀ j, j < M → (T' j).Is W) := Lib.hid (fun hW j hj => by
      obtain ⟨_, _, _, _, hc⟩ := HT.out (by omega)
      obtain ⟨_, _, _, his⟩ := hc j hj
      have h2 := (hTT j hj)
      rw [h2.2]
      exact ⟨h2.1, his.isB, his.bytes.below hW, his.room, his.few⟩)
    clear hbel hpm hF hrw hhalf hTT
    have hcM : M ≤ c3 := hc3
    by_cases hlt : i < M
    · have hg5 : (i : Int) < M := by omega
      have hg6 : (0 : Int) ≤ i := by omega
      have hg7 : (i : Int) ≤ c3 := by omega
      have hdr := (Below.refl wr.heap.size wr).drew
      have HSA := Lib.hid (same9_any B Z HA.out.1 HA.out.2.1 c3 i (some ⟨gr, 0, none⟩) (by omega) hc3b T' wr.drew (((HRW.out.told (HIS.out HW.out)).less (Nat.le_of_lt hlt)).below hdr) HHF.out (HPM.out.keep fun k hk => hdr.block k (HF.out k hk).2.1) (fun k hk => Nat.lt_of_lt_of_le (HF.out k hk).2.1 hdr.size))
      clear hdr
      go_wp2_with fail
      go_region_held3 (fun w' => w'.cell? ⟨w.heap.size, 0, none⟩ = some (.int .i64 B) ∧ w'.cell? ⟨w.heap.size, 1, none⟩ = some (.int .i64 Z)) (go_keep)
        (first | (go_at_call 7; refine HSA.out.mono ?_; rintro e w6 ⟨rfl, hb6d⟩; have hb6 := below_drew hb6d; have k0 := (hb6.cell (p := ⟨w.heap.size, 0, none⟩) (lt_of_cell r0)).trans r0; have k1 := (hb6.cell (p := ⟨w.heap.size, 1, none⟩) (lt_of_cell r1)).trans r1))
      have HP6 := Lib.hid (HPM.out.keep fun k hk => hb6.block k (HF.out k hk).2.1)
      have HRW6 := Lib.hid (HRW.out.of_block (hb6.block _ HRW.out.lt))
      have HBE6 := Lib.hid (HBEL.out.trans (hb6.mono hsz))
      have hs6 := hb6.size
      clear hb6 hb6d r0 r1 k0 k1 HSA
      obtain ⟨a, ha⟩ : ∃ a, a = ((Fm.new B Z).at T' i).next.getD Ac.zero := ⟨_, rfl⟩
      have HAA := Lib.hid ha
      clear ha
      obtain ⟨bz, hbz⟩ : ∃ bz, bz = ((Fm.new B Z).at T' i).busy := ⟨_, rfl⟩
      have HBZ := Lib.hid hbz
      have HNX := Lib.hid (fixNextU HP6.out (fun k hk => Nat.lt_of_lt_of_le (HF.out k hk).2.1 hs6) HAA.out)
      rw [← hbz] at HNX
      clear hbz
      go_wp2_with fail
      refine HNX.out.mono ?_
      rintro e w7 ⟨An, ln, cn, rfl, _, hb7⟩
      have HB7 := Lib.hid hb7
      clear hb7
      have hx8 := Go.Deep.blk_alloc_new w7 (.cells #[.int .i64 a.K, .int .i64 a.P, .int .i64 a.N, .int .u64 a.V, .int .u64 a.U, .slice An ln cn] 32)
      have hb8 := HB7.out.alloc HB7.out.size (.cells #[.int .i64 a.K, .int .i64 a.P, .int .i64 a.N, .int .u64 a.V, .int .u64 a.U, .slice An ln cn] 32)
      have hs7 := HB7.out.size
      have hsz8 : (w7.alloc (.cells #[.int .i64 a.K, .int .i64 a.P, .int .i64 a.N, .int .u64 a.V, .int .u64 a.U, .slice An ln cn] 32)).heap.size = w7.heap.size + 1 := by simp
      go_upto_region 13 with (fail)
      generalize w7.alloc (.cells #[.int .i64 a.K, .int .i64 a.P, .int .i64 a.N, .int .u64 a.V, .int .u64 a.U, .slice An ln cn] 32) = w8 at hx8 hb8 hsz8 ⊢
      have d2 : w8.cell? ⟨w7.heap.size, 2, none⟩ = some (.int .i64 a.N) := by simp [World.cell?, hx8]
      have HP8 := Lib.hid (HP6.out.keep fun k hk => hb8.block k (Nat.lt_of_lt_of_le (HF.out k hk).2.1 hs6))
      have HRW8 := Lib.hid (HRW6.out.of_block (hb8.block _ HRW6.out.lt))
      have HBE8 := Lib.hid (HBE6.out.trans (hb8.mono (by omega)))
      clear hx8 hb8 HP6 HRW6 HBE6
      obtain ⟨y0, y1, y2, yf⟩ := HRW8.out.cells hlt
      have hgl8 := HRW8.out.lt
      by_cases hfour : bz = true ∧ a.N = 4
      · obtain ⟨hbt, hN⟩ := hfour
        have hNd : decide (a.N = 4) = true := decide_eq_true hN
        have hNd2 : (a.N == 4) = true := by simpa using hN
        have hu := fx_u32 (T' i).V
        obtain ⟨V2, hV2⟩ : ∃ V2, V2 = (T' i).V % 4294967296 := ⟨_, rfl⟩
        rw [← hV2] at hu
        have hu2 : ((T' i).V : Int) % 4294967296 = (V2 : Int) := by rw [hV2]; omega
        have HBT := Lib.hid (And.intro hbt hN)
        have HV2 := Lib.hid hV2
        subst hbt
        clear hN hV2
        go_upto_region 15 with (fail)
        have HRW9 := Lib.hid (HRW8.out.set (i := i) V2)
        have HT9 : Hid (Touch (fun k => k = gr) w8 (w8.setCell ⟨gr, i * 3, none⟩ (.int .u64 V2))) := Lib.hid ((Touch.refl (fun k => k = gr) w8).setCell (p := ⟨gr, i * 3, none⟩) rfl _)
        clear y0 y1 y2 yf d2 hNd hNd2 hu hu2
        generalize w8.setCell ⟨gr, i * 3, none⟩ (.int .u64 V2) = w9 at HRW9 HT9 ⊢
        have hs9 := HT9.out.size
        have HP9 := Lib.hid (HP8.out.keep fun k hk => HT9.out.block k (by have := (HF.out k hk).2.1; omega) (HF.out k hk).2.2)
        have HBE9 := Lib.hid (HT9.out.below HBE8.out HBE8.out.size fun k hk => by have e : k = gr := hk; rw [e]; omega)
        have hTW := Ans.with_at T' i V2
        obtain ⟨y0, y1, y2, yf⟩ := HRW9.out.cells hlt
        rw [hTW] at y0 y1 y2
        have HTW := Lib.hid hTW
        clear hTW yf
        have HTK := Lib.hid (fixTake HP9.out (fun k hk => by have := (HF.out k hk).2.1; omega) ⟨V2, (T' i).D, (T' i).bs⟩ (show V2 < 18446744073709551616 by rw [HV2.out]; omega) (T' i).A (T' i).L (T' i).cap)
        go_wp2_with fail
        refine HTK.out.mono ?_
        rintro e w10 ⟨rfl, F10, hp10, ht10, hF10⟩
        have HP10 := Lib.hid hp10
        have HT10 := Lib.hid ht10
        have HF10 := Lib.hid hF10
        have hs10 := ht10.size
        have hgn : gr ≠ gp := fun e => (HF.out gp HP9.out.own).2.2 e.symm
        have HGN := Lib.hid hgn
        clear hp10 ht10 hF10 hgn y0 y1 y2
        go_wp2
        go_roundw
        case rel =>
          have hsame : ∀ j, j < i → T' j = Ans.with T' i V2 j := fun j hj => (Ans.with_ne T' i V2 (by omega)).symm
          have hat : (Fm.new B Z).at (Ans.with T' i V2) (i + 1) = ((Fm.new B Z).at T' i).take ⟨V2, (T' i).D, (T' i).bs⟩ := by
            show ((Fm.new B Z).at (Ans.with T' i V2) i).take (Ans.with T' i V2 i).an = _
            rw [← Fm.at_congr hsame, HTW.out]
            rfl
          refine ⟨i + 1, F10, Ans.with T' i V2, by go_num, by omega, HT10.out.below HBE9.out HBE9.out.size (fun k hk => by have e : k = gp := hk; rw [e]; exact (HF.out gp HP9.out.own).1), by rw [hat]; exact HP10.out, fun k hk => ?_, HRW9.out.of_block (HT10.out.block gr HRW9.out.lt HGN.out), ?_, fun j hj => ?_⟩
          · rcases HF10.out k hk with h | h
            · have := HF.out k h; omega
            · have := hgl8; omega
          · intro j hj a2 ha2 hn2
            by_cases e : j = i
            · subst e
              rw [HTW.out]
              show V2 < 4294967296
              rw [HV2.out]
              omega
            · exact (HHF.out.congr hsame) j (by omega) a2 ha2 hn2
          · by_cases e : j = i
            · subst e
              rw [HTW.out]
              have h2 := HTT.out j hj
              refine ⟨by show V2 < _; rw [HV2.out]; omega, ?_⟩
              have h3 := h2.2
              generalize T' j = y at h3 ⊢
              rw [h3]
            · rw [Ans.with_ne T' i V2 e]
              exact HTT.out j hj
        case measure => simp [intOf]; omega
      · have hor : bz = false ∨ (bz = true ∧ a.N ≠ 4) := by
          cases hbb : bz with
          | false => exact .inl rfl
          | true => exact .inr ⟨rfl, fun e => hfour ⟨hbb, e⟩⟩
        have HNF := Lib.hid hfour
        clear hfour
        have HTK := Lib.hid (fixTake HP8.out (fun k hk => by have := (HF.out k hk).2.1; omega) ⟨(T' i).V, (T' i).D, (T' i).bs⟩ (HTT.out i hlt).1 (T' i).A (T' i).L (T' i).cap)
        rcases hor with hb0 | ⟨hb0, hN⟩
        · subst hb0
          go_upto_region 15 with (fail)
          go_wp2_with fail
          refine HTK.out.mono ?_
          rintro e w10 ⟨rfl, F10, hp10, ht10, hF10⟩
          have HP10 := Lib.hid hp10
          have HT10 := Lib.hid ht10
          have HF10 := Lib.hid hF10
          have hs10 := ht10.size
          have hgn : gr ≠ gp := fun e => (HF.out gp HP8.out.own).2.2 e.symm
          have HGN := Lib.hid hgn
          clear hp10 ht10 hF10 hgn y0 y1 y2 yf d2
          go_wp2
          go_roundw
          case rel =>
            refine ⟨i + 1, F10, T', by go_num, by omega, HT10.out.below HBE8.out HBE8.out.size (fun k hk => by have e : k = gp := hk; rw [e]; exact (HF.out gp HP8.out.own).1), HP10.out, fun k hk => ?_, HRW8.out.of_block (HT10.out.block gr HRW8.out.lt HGN.out), ?_, HTT.out⟩
            · rcases HF10.out k hk with h | h
              · have := HF.out k h; omega
              · have := hgl8; omega
            · intro j hj a2 ha2 hn2
              by_cases e : j = i
              · subst e
                refine absurd ⟨?_, ?_⟩ HNF.out
                · first
                    | trivial
                    | (refine HBZ.out.trans ?_
                       rw [show ((Fm.new B Z).at T' j).busy = ((Fm.new B Z).at T' j).next.isSome from by cases (Fm.new B Z).at T' j <;> rfl, ha2]
                       rfl)
                · rw [HAA.out, ha2]
                  exact hn2
              · exact HHF.out j (by omega) a2 ha2 hn2
          case measure => simp [intOf]; omega
        · have hNd : decide (a.N = 4) = false := decide_eq_false hN
          have hNd2 : (a.N == 4) = false := by simpa using hN
          have HNN := Lib.hid hN
          subst hb0
          clear hN
          go_upto_region 15 with (fail)
          go_wp2_with fail
          refine HTK.out.mono ?_
          rintro e w10 ⟨rfl, F10, hp10, ht10, hF10⟩
          have HP10 := Lib.hid hp10
          have HT10 := Lib.hid ht10
          have HF10 := Lib.hid hF10
          have hs10 := ht10.size
          have hgn : gr ≠ gp := fun e => (HF.out gp HP8.out.own).2.2 e.symm
          have HGN := Lib.hid hgn
          clear hp10 ht10 hF10 hgn y0 y1 y2 yf d2
          go_wp2
          go_roundw
          case rel =>
            refine ⟨i + 1, F10, T', by go_num, by omega, HT10.out.below HBE8.out HBE8.out.size (fun k hk => by have e : k = gp := hk; rw [e]; exact (HF.out gp HP8.out.own).1), HP10.out, fun k hk => ?_, HRW8.out.of_block (HT10.out.block gr HRW8.out.lt HGN.out), ?_, HTT.out⟩
            · rcases HF10.out k hk with h | h
              · have := HF.out k h; omega
              · have := hgl8; omega
            · intro j hj a2 ha2 hn2
              by_cases e : j = i
              · subst e
                refine absurd ⟨?_, ?_⟩ HNF.out
                · first
                    | trivial
                    | (refine HBZ.out.trans ?_
                       rw [show ((Fm.new B Z).at T' j).busy = ((Fm.new B Z).at T' j).next.isSome from by cases (Fm.new B Z).at T' j <;> rfl, ha2]
                       rfl)
                · rw [HAA.out, ha2]
                  exact hn2
              · exact HHF.out j (by omega) a2 ha2 hn2
          case measure => simp [intOf]; omega
    · have hge : (M : Int) ≤ i := by omega
      have hiM : i = M := by omega
      subst hiM
      go_wp2_with fail
      refine (same9_any B Z HA.out.1 HA.out.2.1 c3 i (some ⟨gr, 0, none⟩) (by omega) hc3b T' wr (HRW.out.told (HIS.out HW.out)) HHF.out HPM.out (fun k hk => (HF.out k hk).2.1)).mono ?_
      rintro e w6 ⟨rfl, hb6⟩
      go_wp2
      go_ret
      exact ⟨rfl, HW.out.trans (hb6.mono HW.out.size)⟩

set_option maxRecDepth 100000 in
set_option maxHeartbeats 1000000 in
theorem ringfixSteps_any (B Z : Int) (hB : -9223372036854775808 ≤ B ∧ B ≤ 9223372036854775807) (hZ : -9223372036854775808 ≤ Z ∧ Z ≤ 9223372036854775807)
    (A : Option Addr) (M cap : Nat) (hM : M ≤ cap) (hcap : cap ≤ 9223372036854775807) (T : Nat → Ans) (w : World) (hT : ToldAt w A M T) :
    Calls Tryz.prog 3 #[.agg #[.int .i64 B, .int .i64 Z], .slice A M cap] w (TrueBelow w) := by
  by_cases h : 60 < M
  · have hr0 := un_below w (.int .i64 B) (.int .i64 Z) 23
    have h2' : (60 : Int) < M := by omega
    go_enter Tryz.func3, Tryz.ntmps3
    go_wp2_with fail
    generalize w.alloc (.cells #[.int .i64 B, .int .i64 Z] 23) = w0 at hr0 ⊢
    refine (fixed9_any w0).mono ?_
    rintro e w1 ⟨rfl, hq1⟩
    go_wp2_with fail
    go_ret
    exact ⟨rfl, hr0.trans (hq1.mono hr0.size)⟩
  · exact ringfixSteps_main B Z hB hZ A M cap hM hcap T w hT (by omega)
end Go.Proofs.YtaomkamdfbibbaaGreat
namespace Go.Proofs.YtaomkamdfbibbaaGreat
open Go.ChangeShapes Go.WideShapes Go.ChangeAt Go.RowKit Go.Deep

theorem ringOne : Tryz.prog.cellsOf 23 = 2 := by kernel_rfl

set_option maxRecDepth 100000 in
theorem open_ring {H : Type} {enc : TypeId × Value → H} {W : World} {base : Nat} {v : Value} {d : DataW H} {ps : List MemPlace}
    (hv : Value.okWide Tryz.prog W .any base 23 v) (h : DataW.Trod enc Tryz.prog W 0 (fun _ => true) true 23 v d ps) :
    ∃ B Z : Int, v = .agg #[.int .i64 B, .int .i64 Z] ∧ (-9223372036854775808 ≤ B ∧ B ≤ 9223372036854775807) ∧ (-9223372036854775808 ≤ Z ∧ Z ≤ 9223372036854775807) := by
  obtain ⟨cs, rfl, hsz⟩ := okWide_struct Tryz.underlying23 hv
  obtain ⟨l⟩ := cs
  rw [ringOne] at hsz
  match l, hsz with
  | [v0, v1], _ =>
    obtain ⟨fuel, hf⟩ := h
    obtain ⟨xs, n, _, _, _, hlen, hg⟩ := DataW.trod_struct Tryz.underlying23 hf
    have g0 := hg 0 _ rfl
    have g1 := hg 1 _ rfl
    have cInt : Tryz.prog.cellsOf 3 = 1 := by kernel_rfl
    match xs, hlen with
    | [y0, y1], _ =>
      simp [Value.cells, cInt] at g0 g1
      obtain ⟨B, e0, _, w0⟩ := DataW.trod_int Tryz.underlying3 g0
      obtain ⟨Z, e1, _, w1⟩ := DataW.trod_int Tryz.underlying3 g1
      simp only [List.cons.injEq, and_true] at e0 e1
      subst e0 e1
      exact ⟨B, Z, rfl, i64_wide w0, i64_wide w1⟩

end Go.Proofs.YtaomkamdfbibbaaGreat
namespace Go.Proofs.YtaomkamdfbibbaaGreat
open Go.ChangeShapes Go.WideShapes Go.ChangeAt Go.RowKit

set_option maxRecDepth 100000 in
theorem ringfixSteps_lifted (os : Os) (started : os.Started) (H : Type) (enc : TypeId × Value → H) :
    ReturnsInHanded {} Tryz.checked os 3 .any (Rows.ringfixStepsSpec.pre6 enc Tryz.prog Tryz.f3 Rows.ringfixStepsRow.domain false) (Rows.ringfixStepsSpec.post enc Tryz.prog Tryz.f3 false true false false) := by
  refine returnsInHanded_of_change (C := Tryz.checked) own started (by kernel_rfl) Tryz.func3
    (ChangeSpec.witness6 (enc := enc) (C := Tryz.checked) false ⟨#[], #[.agg #[.int .i64 0, .int .i64 0], .slice none 0 0], []⟩ 8 (by kernel_rfl) (by kernel_rfl) (by kernel_rfl) (by kernel_rfl)) ?_
  intro W base args ds gs before hval0 hW _ _
  have hval : ∀ (j : Nat) t v, Tryz.f3.params[j]? = some t → args[j]? = some v → Value.okWide Tryz.prog W .any base t v := hval0
  have hW' := hW
  obtain ⟨p, q, hA0, hV, rfl, hfz, hnd⟩ := hW
  have hA : DataW.TrodAll enc Tryz.prog W 0 (fun _ => true) true Tryz.f3.params.toList args.toList ds p := hA0
  rw [Tryz.params3] at hA hval
  obtain ⟨v0, v1, d0, d1, p0, p1, rfl, rfl, rfl, h0, h1⟩ := trodAll_two hA
  obtain ⟨rfl, rfl⟩ := trodVars_none hV
  obtain ⟨B0, Z0, rfl, hB0, hZ0⟩ := open_ring (hval 0 23 v0 rfl rfl) h0
  obtain ⟨A1, L1, cap1, T1, rfl, hT1, hl1, hc1⟩ := open_answers (hval 1 24 v1 rfl rfl) h1
  clear hA0 hval0
  exact (ringfixSteps_any B0 Z0 hB0 hZ0 A1 L1 cap1 hl1 hc1 T1 W hT1).mono fun e W' ⟨he, hbel⟩ => ⟨_, he, law_post laidOut (by kernel_rfl) rfl Tryz.underlying4 rfl hW' rfl hbel⟩

theorem ringfixSteps_row : Rows.RingfixStepsSaid :=
  OpenClaim.holds_of_wide 3 Tryz.f3 rfl rfl rfl rfl rfl rfl rfl ⟨rfl, rfl, rfl, rfl, rfl⟩ rfl rfl rfl rfl rfl (by kernel_rfl) Tryz.func3 (by kernel_rfl)
    (of_decide_eq_true (by kernel_rfl)) (by unfold Func.isWrapper; first | (rw [if_pos (by decide +kernel)]; kernel_rfl) | (rw [if_neg (by decide +kernel)]; exact ⟨rfl, rfl⟩))
    (fun os started H enc _ => ringfixSteps_lifted os started H enc)

theorem ringfixSteps_holds : Rows.RingfixStepsSaid := ringfixSteps_row
end Go.Proofs.YtaomkamdfbibbaaGreat
