/-
  Layer 6's lists of events in memory.
  Layer 6's Trace, walked: all events, in new memory.
-/
import Derived.Test.YtijgfaggakbajaaSchPickAll
import Derived.Laws.IdiomCopy
import Derived.Lib.LazyBuf
namespace Go.Proofs.Ytijgfaggakbajaa
open Go.RowKit

/-- The events stand in block b, one behind the other. -/
def EvRow (w : World) (b : Nat) (ts : List Tx) : Prop := ∀ i t, ts[i]? = some t → ∀ j u, t.cells[j]? = some u → w.cell? ⟨b, i * 12 + j, none⟩ = some u

/-- The bytes of the events lie in blocks that K names. -/
def Texts (K : Nat → Prop) (w : World) (ts : List Tx) : Prop := ∀ t ∈ ts, BytesIn K w t.s1 t.e.ac.bs ∧ BytesIn K w t.s2 t.e.an.bs

/-- A slice that reads as events, in blocks that K names. -/
def EvsAt (K : Nat → Prop) (w : World) (v : Value) (ts : List Tx) : Prop :=
  (∃ A c, v = .slice A ts.length c ∧ ts.length ≤ c ∧ c ≤ 9223372036854775807 ∧ (0 < ts.length → ∃ b, A = some ⟨b, 0, none⟩ ∧ K b ∧ b < w.heap.size ∧ EvRow w b ts)) ∧ Texts K w ts

theorem Tx.cells_length (t : Tx) : t.cells.length = 12 := rfl

theorem flat_get (ts : List Tx) : ∀ (i : Nat) (t : Tx), ts[i]? = some t → ∀ j, j < 12 → (ts.flatMap Tx.cells)[i * 12 + j]? = t.cells[j]? := by
  induction ts with
  | nil => intro i t h; simp at h
  | cons x ts ih =>
    intro i t h j hj
    rw [List.flatMap_cons]
    cases i with
    | zero =>
      rw [List.getElem?_cons_zero] at h
      injection h with h
      subst h
      rw [Nat.zero_mul, Nat.zero_add, List.getElem?_append_left (by rw [Tx.cells_length]; exact hj)]
    | succ i =>
      rw [List.getElem?_cons_succ] at h
      rw [List.getElem?_append_right (by rw [Tx.cells_length]; omega), Tx.cells_length, show (i + 1) * 12 + j - 12 = i * 12 + j by omega]
      exact ih i t h j hj

theorem flat_length (ts : List Tx) : (ts.flatMap Tx.cells).length = ts.length * 12 := by
  induction ts with
  | nil => rfl
  | cons x ts ih => rw [List.flatMap_cons, List.length_append, ih, Tx.cells_length, List.length_cons]; omega

/-- A row of the call's own reads as events. -/
theorem EvRow.of_own {w : World} {base g : Nat} {v : Value} {ts : List Tx} (h : w.ownsRow base 51 12 v ts.length (ts.flatMap Tx.cells)) (hg : v.ownBlock = some g) : EvRow w g ts := by
  intro i t hi j u hj
  have hlt : j < 12 := by
    rcases Nat.lt_or_ge j 12 with h | h
    · exact h
    · rw [List.getElem?_eq_none (by rw [Tx.cells_length]; exact h)] at hj; cases hj
  have := h.cells hg (i * 12 + j) u ((flat_get ts i t hi j hlt).trans hj)
  have e : (⟨g, 0, none⟩ : Addr).add (i * 12 + j) = ⟨g, i * 12 + j, none⟩ := by unfold Addr.add; split <;> simp_all
  rw [e] at this
  exact this

theorem EvRow.of_block {w w' : World} {b : Nat} {ts : List Tx} (h : EvRow w b ts) (hb : w'.heap[b]? = w.heap[b]?) : EvRow w' b ts :=
  fun i t hi j u hj => (World.cell?_of_block (w := w) (a := ⟨b, i * 12 + j, none⟩) hb).trans (h i t hi j u hj)

theorem Texts.keep {K : Nat → Prop} {w w' : World} {ts : List Tx} (h : Texts K w ts) (hs : w.heap.size ≤ w'.heap.size) (hb : ∀ k, K k → k < w.heap.size → w'.heap[k]? = w.heap[k]?) : Texts K w' ts :=
  fun t ht => ⟨(h t ht).1.keep hs hb, (h t ht).2.keep hs hb⟩
theorem Texts.mono {K K' : Nat → Prop} {w : World} {ts : List Tx} (h : Texts K w ts) (hK : ∀ k, K k → k < w.heap.size → K' k) : Texts K' w ts :=
  fun t ht => ⟨(h t ht).1.mono hK, (h t ht).2.mono hK⟩
theorem Texts.append {K : Nat → Prop} {w : World} {ts : List Tx} {t : Tx} (h : Texts K w ts) (h1 : BytesIn K w t.s1 t.e.ac.bs) (h2 : BytesIn K w t.s2 t.e.an.bs) : Texts K w (ts ++ [t]) := fun x hx => by
  rcases List.mem_append.1 hx with hx | hx
  · exact h x hx
  · obtain rfl : x = t := by simpa using hx
    exact ⟨h1, h2⟩
theorem Texts.nil (K : Nat → Prop) (w : World) : Texts K w [] := fun _ h => by cases h

namespace EvsAt
variable {K K' : Nat → Prop} {w w' : World} {v : Value} {ts : List Tx}
theorem keep (h : EvsAt K w v ts) (hs : w.heap.size ≤ w'.heap.size) (hb : ∀ k, K k → k < w.heap.size → w'.heap[k]? = w.heap[k]?) : EvsAt K w' v ts := by
  obtain ⟨⟨A, c, hv, h1, h2, h3⟩, ht⟩ := h
  refine ⟨⟨A, c, hv, h1, h2, fun hp => ?_⟩, ht.keep hs hb⟩
  obtain ⟨b, e, hk, hl, hr⟩ := h3 hp
  exact ⟨b, e, hk, Nat.lt_of_lt_of_le hl hs, hr.of_block (hb b hk hl)⟩
theorem below (h : EvsAt K w v ts) (hb : Below w.heap.size w w') : EvsAt K w' v ts := h.keep hb.size fun k _ hl => hb.block k hl
theorem touch {S : Nat → Prop} (h : EvsAt K w v ts) (ht : Touch S w w') (hn : ∀ k, K k → k < w.heap.size → ¬ S k) : EvsAt K w' v ts := h.keep ht.size fun k hk hl => ht.block k hl (hn k hk hl)
theorem mono (h : EvsAt K w v ts) (hK : ∀ k, K k → k < w.heap.size → K' k) : EvsAt K' w v ts := by
  obtain ⟨⟨A, c, hv, h1, h2, h3⟩, ht⟩ := h
  refine ⟨⟨A, c, hv, h1, h2, fun hp => ?_⟩, ht.mono hK⟩
  obtain ⟨b, e, hk, hl, hr⟩ := h3 hp
  exact ⟨b, e, hK b hk hl, hl, hr⟩
theorem none (K : Nat → Prop) (w : World) : EvsAt K w (.slice Option.none 0 0) [] := ⟨⟨Option.none, 0, rfl, Nat.le_refl _, by decide, fun h => absurd h (by simp)⟩, Texts.nil _ _⟩
theorem of_own {base : Nat} (h : w.ownsRow base 51 12 v ts.length (ts.flatMap Tx.cells)) (ht : Texts K w ts) (hK : ∀ k, v.ownBlock = some k → K k) : EvsAt K w v ts := by
  have h0 := h
  rcases h.2 with ⟨hv, hn⟩ | ⟨g, cap, cur, hv, h3, h4, h5, h6, _⟩
  · have hts : ts = [] := List.eq_nil_of_length_eq_zero hn
    subst hts
    rw [hv]
    exact EvsAt.none K w
  · refine ⟨⟨some ⟨g, 0, Option.none⟩, cap, hv, h5, by unfold maxLen at h6; omega, fun _ => ⟨g, rfl, hK g (by rw [hv]; rfl), (Array.getElem?_eq_some_iff.1 h4).1, EvRow.of_own h0 (by rw [hv]; rfl)⟩⟩, ht⟩
end EvsAt

/-- Twelve cells stored at a place of a row. -/
theorem setCells_far (w : World) (b : Nat) : ∀ (vs : List Value) (o : Nat) {k : Nat}, k ≠ b → (w.setCells b o vs).heap[k]? = w.heap[k]? := by
  intro vs
  induction vs generalizing w with
  | nil => intro o k _; rfl
  | cons v r ih =>
    intro o k hk
    show ((w.setCell ⟨b, o, none⟩ v).setCells b (o + 1) r).heap[k]? = _
    rw [ih _ _ hk, Below.heap_setCell _ _ _ _ hk]

theorem setCells_size (w : World) (b : Nat) : ∀ (vs : List Value) (o : Nat), (w.setCells b o vs).heap.size = w.heap.size := by
  intro vs
  induction vs generalizing w with
  | nil => intro o; rfl
  | cons v r ih =>
    intro o
    show ((w.setCell ⟨b, o, none⟩ v).setCells b (o + 1) r).heap.size = _
    rw [ih]
    simp [World.setCell]

/-- The zeros of new events. -/
def zev (j : Nat) : Value := ([.int .i64 0, .int .i64 0, .int .i64 0, .int .i64 0, .int .i64 0, .int .i64 0, .int .u64 0, .int .u64 0, .slice none 0 0, .int .u64 0, .bool false, .slice none 0 0] : List Value).getD (j % 12) undef

/-- A row of events whose first are copied. -/
def rowF (qs : List Tx) (j : Nat) : Value := (qs.flatMap Tx.cells).getD j (zev j)

theorem rowF_nil (j : Nat) : rowF [] j = zev j := by simp [rowF]

theorem rowF_next (qs : List Tx) (t : Tx) (j : Nat) : rowF (qs ++ [t]) j = if qs.length * 12 ≤ j ∧ j < qs.length * 12 + t.cells.length then t.cells[j - qs.length * 12]?.getD default else rowF qs j := by
  unfold rowF
  have hl := flat_length qs
  rw [List.flatMap_append, List.flatMap_cons, List.flatMap_nil, List.append_nil]
  by_cases h1 : j < qs.length * 12
  · rw [if_neg (by omega), List.getD_eq_getElem?_getD, List.getD_eq_getElem?_getD, List.getElem?_append_left (by omega)]
  · by_cases h2 : j < qs.length * 12 + t.cells.length
    · rw [if_pos ⟨by omega, h2⟩, List.getD_eq_getElem?_getD, List.getElem?_append_right (by omega), hl]
      have h3 : j - qs.length * 12 < t.cells.length := by omega
      rw [List.getElem?_eq_getElem h3]
      rfl
    · rw [if_neg (by omega), List.getD_eq_getElem?_getD, List.getD_eq_getElem?_getD, List.getElem?_eq_none (by rw [List.length_append]; omega), List.getElem?_eq_none (by omega)]

theorem make_evs (n : Nat) (hn : n ≤ 1000001) (W : World) :
    (Instr.makeSlice 40 (.int .i64 (n : Int)) (.int .i64 (n : Int))).run Try.prog W = .ok (.slice (some ⟨W.heap.size, 0, none⟩) n n) (W.alloc (.cells (madeCells #[.int .i64 0, .int .i64 0, .int .i64 0, .int .i64 0, .int .i64 0, .int .i64 0, .int .u64 0, .int .u64 0, .slice none 0 0, .int .u64 0, .bool false, .slice none 0 0] (n * 12)) 51)) := by
  obtain ⟨i, hi, hz, hs, hby⟩ := info_parts infoEv
  have hr := run_make (P := Try.prog) W 40 51 i (.agg #[.int .i64 0, .int .i64 0, .int .i64 0, .int .i64 0, .int .i64 0, .int .i64 0, .int .u64 0, .int .u64 0, .slice none 0 0, .int .u64 0, .bool false, .slice none 0 0]) Try.underlying40 hi hz .i64 .i64 (n : Int) (n : Int) (by omega) (Int.le_refl _) (by rw [hby]; omega) (by omega)
  rw [hs] at hr
  simpa [Value.cells] using hr

theorem made_evs (w : World) (n : Nat) : (w.alloc (.cells (madeCells #[.int .i64 0, .int .i64 0, .int .i64 0, .int .i64 0, .int .i64 0, .int .i64 0, .int .u64 0, .int .u64 0, .slice none 0 0, .int .u64 0, .bool false, .slice none 0 0] (n * 12)) 51)).rowIs w.heap.size 51 (n * 12) (rowF []) :=
  ⟨_, Go.Deep.blk_alloc_new _ _, size_madeCells _ _, fun i hi => by
    rw [rowF_nil]
    unfold zev madeCells
    have hm : i % 12 < 12 := Nat.mod_lt _ (by decide)
    simp [hi, hm, List.getD]⟩
end Go.Proofs.Ytijgfaggakbajaa
namespace Go.Proofs.Ytijgfaggakbajaa
open Go.RowKit

/-- Events were told, in new memory. -/
def TraceTold (es : List Ev) (w : World) (e : Ending) (w' : World) : Prop :=
  ∃ A c qs, e = .returned (.slice A es.length c) ∧ qs.map Tx.e = es ∧ (EvsAt (fun k => w.heap.size ≤ k) w' (.slice A es.length c) qs ∧ (∀ t ∈ qs, Owns (w.heap.size + 1) w' t.s1 t.e.ac.bs) ∧ ∀ a, A = some a → a.block = w.heap.size) ∧ Below w.heap.size w w'

theorem take_next {α : Type} {l : List α} {i : Nat} {t : α} (h : l[i]? = some t) : l.take (i + 1) = l.take i ++ [t] := by
  rw [List.take_add_one, h]; rfl

set_option maxRecDepth 100000 in
set_option maxHeartbeats 4000000 in
theorem trace_any {w : World} {o : Nat → Pt} {gw ga gb hb : Nat} {ax : Nat → Value} {tv : Value} {ts : List Tx} {st : St} (h : Sw w o gw ga gb hb ax tv ts st) (hlong : st.tr.length ≤ 1000000) :
    Calls Try.prog 18 #[.pointer (some ⟨gw, 0, none⟩)] w (TraceTold st.tr w) := by
  have HS := Lib.hid h
  have hl : st.tr.length = ts.length := by rw [h.told, List.length_map]
  have HTL := Lib.hid h.told
  have htb : ∀ t ∈ ts, t.e.ac.bs.length ≤ 1073741824 ∧ t.e.an.bs.length ≤ 1073741824 := fun t ht => h.small t.e (by rw [h.told]; exact List.mem_map_of_mem ht)
  have HTB := Lib.hid htb
  rw [hl] at hlong
  have w3 := h.w3
  rcases h.tr.row.2 with ⟨hv, hn⟩ | ⟨g, cap, cur, hv, _, hgh, hnc, hcm, _⟩
  · have hts : ts = [] := List.eq_nil_of_length_eq_zero hn
    rw [hv] at w3
    have hmk : ∀ W : World, (Instr.makeSlice 40 (.int .i64 0) (.int .i64 0)).run Try.prog W = .ok (.slice (some ⟨W.heap.size, 0, none⟩) 0 0) (W.alloc (.cells (madeCells #[.int .i64 0, .int .i64 0, .int .i64 0, .int .i64 0, .int .i64 0, .int .i64 0, .int .u64 0, .int .u64 0, .slice none 0 0, .int .u64 0, .bool false, .slice none 0 0] (0 * 12)) 51)) := fun W => make_evs 0 (by decide) W
    have w3' : ∀ q, (w.alloc q).cell? ⟨gw, 3, none⟩ = some (.slice none 0 0) := fun q => (((Below.refl w.heap.size w).alloc (Nat.le_refl _) q).cell (p := ⟨gw, 3, none⟩) h.gw_lt).trans w3
    have hst : st.tr = [] := List.eq_nil_of_length_eq_zero (by omega)
    rw [hst]
    clear h hl hlong htb hn
    go_enter Try.func18, Try.ntmps18
    go_wp2
    refine wp_loop_rounds 1 ?_
    rw [rounds_succ]
    go_wp2
    go_ret
    exact ⟨_, 0, [], rfl, rfl, ⟨⟨⟨_, 0, rfl, Nat.le_refl _, by decide, fun h => absurd h (by simp)⟩, Texts.nil _ _⟩, (fun _ h => by cases h), fun a h => by cases h; rfl⟩, (Below.refl _ w).alloc (Nat.le_refl _) _⟩
  · rw [hv] at w3
    have hcm2 : cap ≤ 9223372036854775807 := by unfold maxLen at hcm; omega
    have hmk := make_evs ts.length (by omega)
    have hrow : EvRow w g ts := EvRow.of_own h.tr.row (by rw [hv]; rfl)
    have hgl : g < w.heap.size := (Array.getElem?_eq_some_iff.1 hgh).1
    have HROW := Lib.hid (And.intro hrow h.tr.txt)
    have hHW := (Below.refl w.heap.size w).alloc (Nat.le_refl _) (.cells (madeCells #[.int .i64 0, .int .i64 0, .int .i64 0, .int .i64 0, .int .i64 0, .int .i64 0, .int .u64 0, .int .u64 0, .slice none 0 0, .int .u64 0, .bool false, .slice none 0 0] (ts.length * 12)) 51)
    have w3' : ∀ q, (w.alloc q).cell? ⟨gw, 3, none⟩ = some (.slice (some ⟨g, 0, none⟩) ts.length cap) := fun q => (((Below.refl w.heap.size w).alloc (Nat.le_refl _) q).cell (p := ⟨gw, 3, none⟩) h.gw_lt).trans w3
    have HM := Lib.hid (And.intro hHW (made_evs w ts.length))
    clear h htb hrow hHW
    go_enter Try.func18, Try.ntmps18
    go_wp2
    generalize w.alloc (.cells (madeCells #[.int .i64 0, .int .i64 0, .int .i64 0, .int .i64 0, .int .i64 0, .int .i64 0, .int .u64 0, .int .u64 0, .slice none 0 0, .int .u64 0, .bool false, .slice none 0 0] (ts.length * 12)) 51) = W at HM ⊢
    clear hmk w3'
    go_loopw [19] (fun t19 wr => ∃ (i : Nat) (qs : List Tx), t19 = .int .i64 i ∧ i ≤ ts.length ∧ qs.length = i ∧ qs.map Tx.e = (ts.take i).map Tx.e ∧ Below w.heap.size w wr ∧ wr.rowIs w.heap.size 51 (ts.length * 12) (rowF qs) ∧ Texts (fun k => w.heap.size < k) wr qs ∧ ∀ t ∈ qs, Owns (w.heap.size + 1) wr t.s1 t.e.ac.bs) (fun t19 _ => ts.length - (intOf t19).toNat)
    case atStart => exact ⟨0, [], rfl, Nat.zero_le _, rfl, by simp, HM.out.1, HM.out.2, Texts.nil _ _, fun _ h => by cases h⟩
    case round =>
      obtain ⟨i, qs, rfl, hi, hq, hqe, hbw, hri, htx, hwn⟩ := hrel
      have HWN := Lib.hid hwn
      have HQ := Lib.hid (And.intro hq hqe)
      have HBW := Lib.hid hbw
      have HRI := Lib.hid (And.intro hri htx)
      have hsz := hbw.size
      have hBl := hri.lt
      clear hq hqe hri htx hbw hwn
      by_cases hlt : i < ts.length
      · obtain ⟨t, ht⟩ : ∃ t, ts[i]? = some t := ⟨_, List.getElem?_eq_getElem hlt⟩
        have htm := List.mem_of_getElem? ht
        have htx := HROW.out.2 t htm
        have htl := HTB.out t htm
        have hcell : ∀ j u, t.cells[j]? = some u → wr.cell? ⟨g, i * 12 + j, none⟩ = some u := fun j u hj => (HBW.out.cell (p := ⟨g, i * 12 + j, none⟩) hgl).trans (HROW.out.1 i t ht j u hj)
        have HT := Lib.hid ht
        clear htm ht
        obtain ⟨⟨p, a, x⟩, s1, s2⟩ := t
        obtain ⟨A1, c1, e1⟩ := htx.1.length
        obtain ⟨A2, c2, e2⟩ := htx.2.length
        have e1' : s1 = .slice A1 a.bs.length c1 := e1
        have e2' : s2 = .slice A2 x.bs.length c2 := e2
        subst e1' e2'
        clear e1 e2
        have c0 : wr.cell? ⟨g, i * 12, none⟩ = some (.int .i64 p.K) := hcell 0 _ rfl
        have c1' : wr.cell? ⟨g, i * 12 + 1, none⟩ = some (.int .i64 p.A) := hcell 1 _ rfl
        have c2' : wr.cell? ⟨g, i * 12 + 2, none⟩ = some (.int .i64 p.N) := hcell 2 _ rfl
        have c3 : wr.cell? ⟨g, i * 12 + 3, none⟩ = some (.int .i64 a.K) := hcell 3 _ rfl
        have c4 : wr.cell? ⟨g, i * 12 + 4, none⟩ = some (.int .i64 a.P) := hcell 4 _ rfl
        have c5 : wr.cell? ⟨g, i * 12 + 5, none⟩ = some (.int .i64 a.N) := hcell 5 _ rfl
        have c6 : wr.cell? ⟨g, i * 12 + 6, none⟩ = some (.int .u64 a.V) := hcell 6 _ rfl
        have c7 : wr.cell? ⟨g, i * 12 + 7, none⟩ = some (.int .u64 a.U) := hcell 7 _ rfl
        have c8 : wr.cell? ⟨g, i * 12 + 8, none⟩ = some (.slice A1 a.bs.length c1) := hcell 8 _ rfl
        have c9 : wr.cell? ⟨g, i * 12 + 9, none⟩ = some (.int .u64 x.V) := hcell 9 _ rfl
        have c10 : wr.cell? ⟨g, i * 12 + 10, none⟩ = some (.bool x.D) := hcell 10 _ rfl
        have c11 : wr.cell? ⟨g, i * 12 + 11, none⟩ = some (.slice A2 x.bs.length c2) := hcell 11 _ rfl
        have HTX := Lib.hid (And.intro (htx.1.bytes.below HBW.out) (htx.2.bytes.below HBW.out))
        clear hcell htx
        have hb1 := (Below.refl wr.heap.size wr).alloc (Nat.le_refl _) (.cells #[.int .i64 p.K, .int .i64 p.A, .int .i64 p.N, .int .i64 a.K, .int .i64 a.P, .int .i64 a.N, .int .u64 a.V, .int .u64 a.U, .slice A1 a.bs.length c1, .int .u64 x.V, .bool x.D, .slice A2 x.bs.length c2] 51)
        go_wp2_with (go_at_call 38; refine (copied_any p a x A1 A2 a.bs.length x.bs.length c1 c2 _ (HTX.out.1.below hb1) (HTX.out.2.below hb1) htl.1 htl.2).mono ?_; rintro e w2 ⟨B1, m1, q1, B2, m2, q2, rfl, ho1, ho2, hbl⟩; have hb2 := hb1.trans (hbl.mono hb1.size); have hri2 := HRI.out.1.of_block (hb2.block w.heap.size hBl); have HO := Lib.hid (And.intro ho1 (And.intro ho2 hbl)); have HR2 := Lib.hid (And.intro hri2 hb2); have r0 := hri2.cell (i := i * 12) (by omega); have f0 := hri2.frozen (i * 12); have r1 := hri2.cell (i := i * 12 + 1) (by omega); have f1 := hri2.frozen (i * 12 + 1); have r2 := hri2.cell (i := i * 12 + 2) (by omega); have f2 := hri2.frozen (i * 12 + 2); have r3 := hri2.cell (i := i * 12 + 3) (by omega); have f3 := hri2.frozen (i * 12 + 3); have r4 := hri2.cell (i := i * 12 + 4) (by omega); have f4 := hri2.frozen (i * 12 + 4); have r5 := hri2.cell (i := i * 12 + 5) (by omega); have f5 := hri2.frozen (i * 12 + 5); have r6 := hri2.cell (i := i * 12 + 6) (by omega); have f6 := hri2.frozen (i * 12 + 6); have r7 := hri2.cell (i := i * 12 + 7) (by omega); have f7 := hri2.frozen (i * 12 + 7); have r8 := hri2.cell (i := i * 12 + 8) (by omega); have f8 := hri2.frozen (i * 12 + 8); have r9 := hri2.cell (i := i * 12 + 9) (by omega); have f9 := hri2.frozen (i * 12 + 9); have r10 := hri2.cell (i := i * 12 + 10) (by omega); have f10 := hri2.frozen (i * 12 + 10); have r11 := hri2.cell (i := i * 12 + 11) (by omega); have f11 := hri2.frozen (i * 12 + 11); clear hri2 hb2 ho1 ho2 hbl)
        go_roundw
        case rel =>
          have hq1 := HQ.out.1
          have hszb := HR2.out.2.size
          have hnew1 : BytesIn (fun k => w.heap.size < k) w2 (.slice B1 m1 q1) a.bs := (BytesIn.of_own HO.out.1).mono fun k hk _ => by have hk2 : wr.heap.size + 1 ≤ k := (by simpa using hk); omega
          have hnew2 : BytesIn (fun k => w.heap.size < k) w2 (.slice B2 m2 q2) x.bs := (BytesIn.of_own HO.out.2.1).mono fun k hk _ => by have hk2 : wr.heap.size + 1 ≤ k := (by simpa using hk); omega
          have hold := HRI.out.2.keep hszb fun k hk hl2 => HR2.out.2.block k hl2
          refine ⟨i + 1, qs ++ [⟨⟨p, a, x⟩, .slice B1 m1 q1, .slice B2 m2 q2⟩], by go_num, by omega, by rw [List.length_append, hq1]; rfl, ?_, ?_, ?_, ?_, fun t' ht' => ?_⟩
          · rw [take_next HT.out, List.map_append, List.map_append, HQ.out.2]; rfl
          · exact below_setCells (Nat.le_refl _) (Tx.cells ⟨⟨p, a, x⟩, .slice B1 m1 q1, .slice B2 m2 q2⟩) (i * 12) w2 (HBW.out.trans (HR2.out.2.mono hsz))
          · have hz := rowIs_setCells (Tx.cells ⟨⟨p, a, x⟩, .slice B1 m1 q1, .slice B2 m2 q2⟩) (i * 12) w2 _ HR2.out.1
            rw [← hq1] at hz ⊢
            exact hz.congr fun j _ => (rowF_next qs ⟨⟨p, a, x⟩, .slice B1 m1 q1, .slice B2 m2 q2⟩ j).symm
          · refine (hold.append (t := ⟨⟨p, a, x⟩, .slice B1 m1 q1, .slice B2 m2 q2⟩) hnew1 hnew2).keep (w' := w2.setCells w.heap.size (i * 12) (Tx.cells ⟨⟨p, a, x⟩, .slice B1 m1 q1, .slice B2 m2 q2⟩)) (Nat.le_of_eq (setCells_size _ _ _ _).symm) fun k hk _ => setCells_far _ _ _ _ (by omega)
          · have hown : Owns (w.heap.size + 1) w2 t'.s1 t'.e.ac.bs := by
              rcases List.mem_append.1 ht' with hm | hm
              · exact (HWN.out t' hm).below HR2.out.2
              · obtain rfl : t' = ⟨⟨p, a, x⟩, .slice B1 m1 q1, .slice B2 m2 q2⟩ := by simpa using hm
                exact HO.out.1.down (by simp; omega)
            exact hown.of_block (w' := w2.setCells w.heap.size (i * 12) (Tx.cells ⟨⟨p, a, x⟩, .slice B1 m1 q1, .slice B2 m2 q2⟩)) fun k hk => setCells_far _ _ _ _ (by have := (hown.ge hk).1; omega)
        case measure => simp [intOf]; omega
      · obtain rfl : i = ts.length := by omega
        go_wp2
        go_ret
        refine ⟨some ⟨w.heap.size, 0, none⟩, ts.length, qs, by rw [hl]; rfl, ?_, ⟨?_, HWN.out, fun a h => by cases h; rfl⟩, HBW.out⟩
        · rw [HQ.out.2, List.take_of_length_le (Nat.le_refl _), HTL.out]
        · rw [hl]
          refine ⟨⟨_, _, by rw [HQ.out.1], by rw [HQ.out.1]; exact Nat.le_refl _, by omega, fun hp => ⟨_, rfl, Nat.le_refl _, hBl, fun j t hj k u hk => ?_⟩⟩, HRI.out.2.mono fun k hk _ => Nat.le_of_lt hk⟩
          have hj2 : j < qs.length := (List.getElem?_eq_some_iff.1 hj).1
          have hk2 : k < 12 := (List.getElem?_eq_some_iff.1 hk).1
          have hq1 := HQ.out.1
          rw [HRI.out.1.cell (i := j * 12 + k) (by omega)]
          unfold rowF
          rw [List.getD_eq_getElem?_getD, flat_get qs j t hj k hk2, hk]
          rfl
end Go.Proofs.Ytijgfaggakbajaa
