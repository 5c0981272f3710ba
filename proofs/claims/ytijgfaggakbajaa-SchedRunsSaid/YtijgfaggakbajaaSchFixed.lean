/-
  The calls whose answers layer 6's document fixes, walked.
-/
import Derived.Test.YtijgfaggakbajaaSchRounds
import Derived.Test.YtijgfaggakbajaaSchCalls
import Derived.Test.YtijgfaggakbajaaSchNew
import Derived.Test.YtijgfaggakbajaaSchMades
import Derived.Lib.SlBytesConst
namespace Go.Proofs.Ytijgfaggakbajaa
open Go.RowKit

/-- The bytes of "123456789". -/
def digits (i : Nat) : Nat := 49 + i
theorem digits_isB9 : Mb.bl digits 0 9 = [49, 50, 51, 52, 53, 54, 55, 56, 57] := by decide

theorem nine_made (w : World) : BytesAt (w.alloc (.cells #[.int .u8 49, .int .u8 50, .int .u8 51, .int .u8 52, .int .u8 53, .int .u8 54, .int .u8 55, .int .u8 56, .int .u8 57] 5 (9, 10))) (.slice (some ⟨w.heap.size, 0, none⟩) 9 9) (Mb.bl digits 0 9) := by
  rw [digits_isB9]
  refine ⟨_, _, rfl, fun _ => ⟨w.heap.size, 0, rfl, by simp, fun i hi => ?_⟩⟩
  simp only [List.length_cons, List.length_nil] at hi
  rw [Nat.zero_add, World.cell?_alloc_mark]
  match i, hi with
  | 0, _ | 1, _ | 2, _ | 3, _ | 4, _ | 5, _ | 6, _ | 7, _ | 8, _ => rfl

/-- A machine that writes bytes up to nine places on. -/
def digitsB (i : Nat) : Nat := if i < 9 then 49 + i else 0
theorem digitsB_isB : Mb.IsB digitsB := fun i => by unfold digitsB; split <;> omega
theorem digitsB_9 : Mb.bl digitsB 0 9 = Mb.bl digits 0 9 := by decide

/-- The states. -/
def fx0 : St := St.made 2 (fun i => if i = 0 then .copy (.wr 0 digitsB) 0 9 [] else .none) (fun _ => 0) 8 0
def fx1 : St := (fx0.pick ⟨2, 0, 5⟩).1
def fx2 : St := (fx1.pick ⟨0, 0, 0⟩).1
def fx4 : St := (fx2.robin 99).1
theorem fx_1 : ∃ v, fx0.pick ⟨2, 0, 5⟩ = (fx1, 0, v) := ⟨(fx0.pick ⟨2, 0, 5⟩).2.2, Prod.ext rfl (Prod.ext (by decide +kernel) rfl)⟩
theorem fx_2 : ∃ v, fx1.pick ⟨0, 0, 0⟩ = (fx2, 0, v) ∧ v.ac.N = 8 := ⟨(fx1.pick ⟨0, 0, 0⟩).2.2, Prod.ext rfl (Prod.ext (by decide +kernel) rfl), by decide +kernel⟩
theorem fx_3 : fx2.pick ⟨0, 2, 0⟩ = (fx2, 2, Ev.zero) := St.pick_no (p := ⟨0, 2, 0⟩) (show ¬ fx2.chk ⟨0, 2, 0⟩ = 0 by decide +kernel)
theorem fx_4 : (fx2.robin 99).2 = 1 := by decide +kernel
theorem fx_clock : fx4.clock = 5 := by decide +kernel
theorem fx_end0 : fx4.endB 0 = true := by decide +kernel
theorem fx_end1 : fx4.endB 1 = true := by decide +kernel
theorem fx_dead0 : fx4.deadB 0 = false := by decide +kernel
theorem fx_len1 : fx0.tr.length ≤ 1000000 ∧ fx1.tr.length ≤ 1000000 ∧ fx2.tr.length + 99 ≤ 1000000 := by decide +kernel
theorem fx_len4 : fx4.tr.length = 3 := by decide +kernel

theorem pick_is {w : World} {o : Nat → Pt} {gw ga gb hb : Nat} {ax : Nat → Value} {tv : Value} {ts : List Tx} {st st' : St} {r : Int} {v : Ev} (h : Sw w o gw ga gb hb ax tv ts st) (p : Pk) (hlong : st.tr.length ≤ 1000000) (hp : st.pick p = (st', r, v)) :
    Calls Try.prog 11 #[.pointer (some ⟨gw, 0, none⟩), .agg #[.int .i64 p.K, .int .i64 p.A, .int .i64 p.N]] w (PickTold o gw ga gb hb ax st' r v w) := by
  have h1 := pick_any h p hlong
  rw [hp] at h1
  exact h1

/-- A scheduler stands; all that was below stands as it was. -/
structure Stood (w0 w : World) (o : Nat → Pt) (gw ga gb hb : Nat) (ax : Nat → Value) (st : St) : Prop where
  sw : ∃ tv ts, Sw w o gw ga gb hb ax tv ts st
  low : Below w0.heap.size w0 w
  out : ∀ k, k < w0.heap.size → o k = .no

namespace Stood
variable {w0 w w' : World} {o o' : Nat → Pt} {gw ga gb hb : Nat} {ax : Nat → Value} {st st' : St}
theorem below (h : Stood w0 w o gw ga gb hb ax st) (hb' : Below w.heap.size w w') : Stood w0 w' o gw ga gb hb ax st := by
  obtain ⟨⟨tv, ts, hs⟩, h1, h2⟩ := h
  exact ⟨⟨tv, ts, hs.below hb'⟩, h1.trans (hb'.mono h1.size), h2⟩
theorem alloc (h : Stood w0 w o gw ga gb hb ax st) (q : Obj) : Stood w0 (w.alloc q) o gw ga gb hb ax st := h.below ((Below.refl _ _).alloc (Nat.le_refl _) q)
theorem after (h : Stood w0 w o gw ga gb hb ax st) (ht : Touch (Own o) w w') (hs : ∃ tv ts, Sw w' o' gw ga gb hb ax tv ts st') (ho : ∀ k, k < w.heap.size → o' k = o k) : Stood w0 w' o' gw ga gb hb ax st' :=
  ⟨hs, ⟨ht.os.trans h.low.os, ht.tape.trans h.low.tape, ht.output.trans h.low.output, Nat.le_trans h.low.size ht.size, fun k hk => (ht.block k (Nat.lt_of_lt_of_le hk h.low.size) fun e => e (h.out k hk)).trans (h.low.block k hk)⟩,
    fun k hk => (ho k (Nat.lt_of_lt_of_le hk h.low.size)).trans (h.out k hk)⟩
theorem new_no (h : Stood w0 w o gw ga gb hb ax st) {k : Nat} (hk : w.heap.size ≤ k) : o k = .no := by
  obtain ⟨⟨tv, ts, hs⟩, _, _⟩ := h
  exact hs.new_no hk
end Stood

/-- A block that is nobody's keeps its cells. -/
theorem nobody_cell {w w' : World} {o : Nat → Pt} (ht : Touch (Own o) w w') {q : Addr} (hq : q.block < w.heap.size) (hn : o q.block = .no) : w'.cell? q = w.cell? q :=
  World.cell?_of_block (ht.block q.block hq fun e => e hn)

/-- One machine and none, of a new scheduler. -/
theorem fixed_made {w0 w1 w2 w3 : World} {g h gm : Nat} (B : Buf w1 g h (fun _ => 0) 8 0) (h1 : w0.heap.size ≤ g) (h2 : w0.heap.size ≤ h) (hb1 : Below w0.heap.size w0 w1) (hb2 : Below w1.heap.size w1 w2)
    (hc : Cp w3 w2.heap.size w3.heap.size gm (.wr 0 digitsB) 0 9 (.slice none 0 0) []) (hb3 : Below w2.heap.size w2 w3) :
    ∃ o : Nat → Pt, ∀ T, Calls Try.prog 10 #[.pointer (some ⟨g, 0, none⟩), .slice (some ⟨w3.heap.size, 0, none⟩) 2 2] (w3.alloc (.cells #[.iface 70 (.pointer (some ⟨gm, 0, none⟩)), .nilIface] T)) fun e w' => ∃ gw ga ax o', e = .returned (.pointer (some ⟨gw, 0, none⟩)) ∧ Stood w0 w' o' gw ga g h ax fx0 ∧ (∀ k, k < w3.heap.size + 1 → o' k = o k) := by
  refine ⟨fun k => if k = g ∨ k = h then .bf else if w2.heap.size ≤ k ∧ k < w3.heap.size then .ma 0 else .no, fun T => ?_⟩
  have s1 := hb1.size
  have s2 := hb2.size
  have s3 := hb3.size
  have hgl := B.g_lt
  have hhl := B.h_lt
  have hba := (Below.refl w3.heap.size w3).alloc (Nat.le_refl _) (.cells #[.iface 70 (.pointer (some ⟨gm, 0, none⟩)), .nilIface] T)
  have e0 : (w3.alloc (.cells #[.iface 70 (.pointer (some ⟨gm, 0, none⟩)), .nilIface] T)).heap.size = w3.heap.size + 1 := by simp
  have x0 := Go.Deep.blk_alloc_new w3 (.cells #[.iface 70 (.pointer (some ⟨gm, 0, none⟩)), .nilIface] T)
  generalize w3.alloc (.cells #[.iface 70 (.pointer (some ⟨gm, 0, none⟩)), .nilIface] T) = w4 at *
  have B4 := ((B.below hb2).below hb3).below hba
  refine (schedNew_any B4 (some ⟨w3.heap.size, 0, none⟩) 2 2 (fun i => if i = 0 then .iface 70 (.pointer (some ⟨gm, 0, none⟩)) else .nilIface) (fun i => if i = 0 then .copy (.wr 0 digitsB) 0 9 [] else .none) (by decide) (by decide) (by decide)
    (fun _ => ⟨w3.heap.size, rfl, by omega, fun i hi => ?_⟩) (o := fun k => if k = g ∨ k = h then .bf else if w2.heap.size ≤ k ∧ k < w3.heap.size then .ma 0 else .no) (fun i hi => ?_) ?_ ?_ (fun k hk => ?_)).mono ?_
  · match i, hi with
    | 0, _ | 1, _ => simp [World.cell?, x0]
  · match i, hi with
    | 0, _ =>
      refine ((MRep.fresh hc digitsB_isB).keep hba.size fun k hk => hba.block k hk.2).mono fun k hk => ?_
      show (if _ then _ else _) = _
      rw [if_neg (by omega), if_pos hk]
    | 1, _ => exact rfl
  · exact if_pos (.inl rfl)
  · exact if_pos (.inr rfl)
  · by_cases e1 : k = g ∨ k = h
    · omega
    · rw [if_neg e1] at hk
      by_cases e2 : w2.heap.size ≤ k ∧ k < w3.heap.size
      · omega
      · rw [if_neg e2] at hk
        exact absurd rfl hk
  · rintro e w' ⟨gw, ga, o', rfl, _, hs, hbl, ho⟩
    refine ⟨gw, ga, _, o', rfl, ⟨⟨_, _, hs⟩, (((hb1.trans (hb2.mono s1)).trans (hb3.mono (by omega))).trans (hba.mono (by omega))).trans (hbl.mono (by omega)), fun k hk => ?_⟩, fun k hk => ho k (by omega)⟩
    rw [ho k (by omega)]
    show (if _ then _ else _) = _
    rw [if_neg (by omega), if_neg (by omega)]

set_option maxRecDepth 100000 in
set_option maxHeartbeats 2000000 in
theorem schedFixed_any (w : World) : Calls Try.prog 7 #[] w (TrueBelow w) := by
  go_enter Try.func7, Try.ntmps7
  go_upto_region 2 with (go_at_call 8; refine (new_yes 64 8 _ (by decide) (by decide) (by decide) (by decide)).mono ?_; rintro e w1 ⟨g, h, rfl, B, hg, hh, hb1⟩)
  have HB := Lib.hid (digitsB_9.symm ▸ nine_made w1)
  have hconv : (convert 26 26 (.slice (some ⟨w1.heap.size, 0, none⟩) 9 9)).run Try.prog (w1.alloc (.cells #[.int .u8 49, .int .u8 50, .int .u8 51, .int .u8 52, .int .u8 53, .int .u8 54, .int .u8 55, .int .u8 56, .int .u8 57] 5)) = .ok (.slice (some ⟨w1.heap.size, 0, none⟩) 9 9) (w1.alloc (.cells #[.int .u8 49, .int .u8 50, .int .u8 51, .int .u8 52, .int .u8 53, .int .u8 54, .int .u8 55, .int .u8 56, .int .u8 57] 5 (9, 10))) := Lib.run_convert_bytes_const w1 26 5 _ 9 9 Try.underlying26 Try.underlying5
  have HW := (Below.refl w1.heap.size w1).alloc (Nat.le_refl _) (.cells #[.int .u8 49, .int .u8 50, .int .u8 51, .int .u8 52, .int .u8 53, .int .u8 54, .int .u8 55, .int .u8 56, .int .u8 57] 5 (9, 10))
  go_wp2_with fail
  generalize w1.alloc (.cells #[.int .u8 49, .int .u8 50, .int .u8 51, .int .u8 52, .int .u8 53, .int .u8 54, .int .u8 55, .int .u8 56, .int .u8 57] 5 (9, 10)) = W at HW HB ⊢
  refine (in_any 0 _ 9 9 digitsB W (by omega) HB.out (by omega)).mono ?_
  rintro e w2 ⟨gm, rfl, hc, hb2⟩
  obtain ⟨o, hnew⟩ := fixed_made B hg hh hb1 HW hc hb2
  clear hconv HB HW hc hb2
  go_upto_region 3 with (go_at_call 10; refine (hnew _).mono ?_; rintro e w3 ⟨gw, ga, ax, o3, rfl, hs3, ho3⟩)
  clear hnew B hb1
  obtain ⟨v1, hv1⟩ := fx_1
  obtain ⟨v2, hv2, hn2⟩ := fx_2
  have HN2 := Lib.hid hn2
  clear hn2
  go_upto_region 4 with (go_at_call 11; obtain ⟨⟨tv, ts, hsw⟩, hlw, hot⟩ := hs3; refine (pick_is hsw ⟨2, 0, 5⟩ fx_len1.1 hv1).mono ?_; rintro e w4 ⟨o4, A1, l1, c1, A2, l2, c2, tv4, ts4, rfl, _, _, hsw4, ht4, ho4⟩)
  have hs4 := (Stood.after ⟨⟨tv, ts, hsw⟩, hlw, hot⟩ ht4 ⟨tv4, ts4, hsw4⟩ ho4).alloc (.cells #[.int .i64 v1.pk.K, .int .i64 v1.pk.A, .int .i64 v1.pk.N, .int .i64 v1.ac.K, .int .i64 v1.ac.P, .int .i64 v1.ac.N, .int .u64 v1.ac.V, .int .u64 v1.ac.U, .slice A1 l1 c1, .int .u64 v1.an.V, .bool v1.an.D, .slice A2 l2 c2] 51)
  generalize w4.alloc (.cells #[.int .i64 v1.pk.K, .int .i64 v1.pk.A, .int .i64 v1.pk.N, .int .i64 v1.ac.K, .int .i64 v1.ac.P, .int .i64 v1.ac.N, .int .u64 v1.ac.V, .int .u64 v1.ac.U, .slice A1 l1 c1, .int .u64 v1.an.V, .bool v1.an.D, .slice A2 l2 c2] 51) = W4 at hs4 ⊢
  clear hsw hlw hot ht4 hsw4 ho4 hv1
  go_upto_region 5 with (go_at_call 11; obtain ⟨⟨tv, ts, hsw⟩, hlw, hot⟩ := hs4; refine (pick_is hsw ⟨0, 0, 0⟩ fx_len1.2.1 hv2).mono ?_; rintro e w5 ⟨o5, A3, l3, c3, A4, l4, c4, tv5, ts5, rfl, _, _, hsw5, ht5, ho5⟩)
  have hs5 := (Stood.after ⟨⟨tv, ts, hsw⟩, hlw, hot⟩ ht5 ⟨tv5, ts5, hsw5⟩ ho5).alloc (.cells #[.int .i64 v2.pk.K, .int .i64 v2.pk.A, .int .i64 v2.pk.N, .int .i64 v2.ac.K, .int .i64 v2.ac.P, .int .i64 v2.ac.N, .int .u64 v2.ac.V, .int .u64 v2.ac.U, .slice A3 l3 c3, .int .u64 v2.an.V, .bool v2.an.D, .slice A4 l4 c4] 51)
  have hbx := hsw5.new_no (Nat.le_refl _)
  have hx5 := Go.Deep.blk_alloc_new w5 (.cells #[.int .i64 v2.pk.K, .int .i64 v2.pk.A, .int .i64 v2.pk.N, .int .i64 v2.ac.K, .int .i64 v2.ac.P, .int .i64 v2.ac.N, .int .u64 v2.ac.V, .int .u64 v2.ac.U, .slice A3 l3 c3, .int .u64 v2.an.V, .bool v2.an.D, .slice A4 l4 c4] 51)
  have hl5 : w5.heap.size < (w5.alloc (.cells #[.int .i64 v2.pk.K, .int .i64 v2.pk.A, .int .i64 v2.pk.N, .int .i64 v2.ac.K, .int .i64 v2.ac.P, .int .i64 v2.ac.N, .int .u64 v2.ac.V, .int .u64 v2.ac.U, .slice A3 l3 c3, .int .u64 v2.an.V, .bool v2.an.D, .slice A4 l4 c4] 51)).heap.size := by simp
  generalize w5.alloc (.cells #[.int .i64 v2.pk.K, .int .i64 v2.pk.A, .int .i64 v2.pk.N, .int .i64 v2.ac.K, .int .i64 v2.ac.P, .int .i64 v2.ac.N, .int .u64 v2.ac.V, .int .u64 v2.ac.U, .slice A3 l3 c3, .int .u64 v2.an.V, .bool v2.an.D, .slice A4 l4 c4] 51) = W5 at hs5 hx5 hl5 ⊢
  have d5 : W5.cell? ⟨w5.heap.size, 5, none⟩ = some (.int .i64 8) := by rw [← HN2.out]; simp [World.cell?, hx5]
  generalize w5.heap.size = b5 at hbx hx5 hl5 d5 ⊢
  clear hsw hlw hot ht5 hsw5 ho5 hv2 hx5
  go_upto_region 6 with (go_at_call 11; obtain ⟨⟨tv, ts, hsw⟩, hlw, hot⟩ := hs5; refine (pick_is hsw ⟨0, 2, 0⟩ (by have := fx_len1.2.2; omega) fx_3).mono ?_; rintro e w6 ⟨o6, A5, l5, c5, A6, l6, c6, tv6, ts6, rfl, _, _, hsw6, ht6, ho6⟩)
  have hs6 := (Stood.after ⟨⟨tv, ts, hsw⟩, hlw, hot⟩ ht6 ⟨tv6, ts6, hsw6⟩ ho6).alloc (.cells #[.int .i64 Ev.zero.pk.K, .int .i64 Ev.zero.pk.A, .int .i64 Ev.zero.pk.N, .int .i64 Ev.zero.ac.K, .int .i64 Ev.zero.ac.P, .int .i64 Ev.zero.ac.N, .int .u64 Ev.zero.ac.V, .int .u64 Ev.zero.ac.U, .slice A5 l5 c5, .int .u64 Ev.zero.an.V, .bool Ev.zero.an.D, .slice A6 l6 c6] 51)
  have d6 := ((((Below.refl w6.heap.size w6).alloc (Nat.le_refl _) (.cells #[.int .i64 Ev.zero.pk.K, .int .i64 Ev.zero.pk.A, .int .i64 Ev.zero.pk.N, .int .i64 Ev.zero.ac.K, .int .i64 Ev.zero.ac.P, .int .i64 Ev.zero.ac.N, .int .u64 Ev.zero.ac.V, .int .u64 Ev.zero.ac.U, .slice A5 l5 c5, .int .u64 Ev.zero.an.V, .bool Ev.zero.an.D, .slice A6 l6 c6] 51))).cell (p := ⟨b5, 5, none⟩) (Nat.lt_of_lt_of_le hl5 ht6.size)).trans ((nobody_cell ht6 (q := ⟨b5, 5, none⟩) hl5 hbx).trans d5)
  have hl6 : b5 < (w6.alloc (.cells #[.int .i64 Ev.zero.pk.K, .int .i64 Ev.zero.pk.A, .int .i64 Ev.zero.pk.N, .int .i64 Ev.zero.ac.K, .int .i64 Ev.zero.ac.P, .int .i64 Ev.zero.ac.N, .int .u64 Ev.zero.ac.V, .int .u64 Ev.zero.ac.U, .slice A5 l5 c5, .int .u64 Ev.zero.an.V, .bool Ev.zero.an.D, .slice A6 l6 c6] 51)).heap.size := by have := ht6.size; simp; omega
  have hbx6 := (ho6 b5 hl5).trans hbx
  generalize w6.alloc (.cells #[.int .i64 Ev.zero.pk.K, .int .i64 Ev.zero.pk.A, .int .i64 Ev.zero.pk.N, .int .i64 Ev.zero.ac.K, .int .i64 Ev.zero.ac.P, .int .i64 Ev.zero.ac.N, .int .u64 Ev.zero.ac.V, .int .u64 Ev.zero.ac.U, .slice A5 l5 c5, .int .u64 Ev.zero.an.V, .bool Ev.zero.an.D, .slice A6 l6 c6] 51) = W6 at hs6 d6 hl6 ⊢
  clear hsw hlw hot ht6 hsw6 ho6 hbx hl5 d5
  go_cut [10] from 11 (fun s10 wx => s10 = .int .i64 1 ∧ ∃ (o7 : Nat → Pt) (tv7 : Value) (ts7 : List Tx), Sw wx o7 gw ga g h ax tv7 ts7 fx4 ∧ Below w.heap.size w wx ∧ wx.cell? ⟨b5, 5, none⟩ = some (.int .i64 8) ∧ b5 < wx.heap.size)
  case first =>
    go_wp2_with (go_at_call 14; obtain ⟨⟨tv, ts, hsw⟩, hlw, hot⟩ := hs6; refine (robin_any hsw 99 fx_len1.2.2).mono ?_; rintro e w7 ⟨rfl, o7, tv7, ts7, hsw7, ht7, ho7⟩; rw [fx_4])
    go_meet
    exact ⟨rfl, o7, tv7, ts7, hsw7, (Stood.after ⟨⟨tv, ts, hsw⟩, hlw, hot⟩ ht7 ⟨tv7, ts7, hsw7⟩ ho7).low, (nobody_cell ht7 (q := ⟨b5, 5, none⟩) hl6 hbx6).trans d6, Nat.lt_of_lt_of_le hl6 ht7.size⟩
  case rest =>
    obtain ⟨rfl, o7, tv7, ts7, hsw7, hlw7, d7, hl7⟩ := hcut
    have HSW := Lib.hid hsw7
    clear hsw7 hs6 d6 hl6 hbx6 hg hh ho3
    obtain ⟨s4, h4⟩ : ∃ s, s = fx4 := ⟨_, rfl⟩
    have fc := h4 ▸ fx_clock
    have f0 := h4 ▸ fx_end0
    have f1 := h4 ▸ fx_end1
    have fd := h4 ▸ fx_dead0
    have fl := h4 ▸ fx_len4
    rw [← h4] at HSW
    clear h4
    have FC := Lib.hid fc
    have F0 := Lib.hid f0
    have F1 := Lib.hid f1
    have FD := Lib.hid fd
    have FL := Lib.hid fl
    clear fc f0 f1 fd fl
    go_wp2_with (first
      | (go_at_call 16; refine (clock_any HSW.out).mono ?_; rintro e w8 ⟨rfl, rfl⟩; rw [FC.out])
      | (go_at_call 21; refine (ended_any (HSW.out.below hb8) 1).mono ?_; rintro e w9 ⟨rfl, hb9⟩; rw [F1.out])
      | (go_at_call 21; refine (ended_any HSW.out 0).mono ?_; rintro e w8 ⟨rfl, hb8⟩; rw [F0.out])
      | (go_at_call 20; refine (dead_any ((HSW.out.below hb8).below hb9) 0).mono ?_; rintro e w10 ⟨rfl, rfl⟩; rw [FD.out])
      | (go_at_call 18; refine (trace_any ((HSW.out.below hb8).below hb9) (by rw [FL.out]; decide)).mono ?_; rintro e w11 ⟨A9, c9, qs9, rfl, _, _, hb11⟩; rw [FL.out]))
    go_ret
    have z7 := hlw7.size
    have z8 := hb8.size
    have z9 := hb9.size
    exact ⟨rfl, ((hlw7.trans (hb8.mono z7)).trans (hb9.mono (by omega))).trans (hb11.mono (by omega))⟩
end Go.Proofs.Ytijgfaggakbajaa
