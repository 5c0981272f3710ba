/-
  Layer 6's step, walked: the access of an actor is done to the buffer; what it tells is traced, and taken.
  Layer 6's trace: an event appended to it.
  Layer 6's closure that hands a machine its answer, walked.
  Layer 6's step that may be, walked.
  Layer 6's Pick, walked.
  Layer 6's Pick once more: a kill.
  Layer 6's Pick once more: a tick.
  Layer 6's Pick once more: a step of one that is at its end.
  Layer 6's Pick once more: a step with an access.
  Layer 6's Pick once more: a step whose access is refused.
  Layer 6's Pick, whatever is picked.
  Layer 6's round and Robin, walked: all that live do a step each, in order.
  Layer 6's Robin, walked: round by round.
-/
import Derived.Test.YtikcnioooihncaaGreatP11
import Derived.BigRegion
import Derived.Deep.DeepCutAuto
import Derived.Test.YtikcnioooihncaaGreatP08
import Derived.Maps.AppendAt
namespace Go.Proofs.YtikcnioooihncaaGreat
open Go.RowKit

theorem Owns.fits {base : Nat} {w : World} {A : Option Addr} {l c : Nat} {xs : List Int} (h : Owns base w (.slice A l c) xs) : xs.length = l ∧ l ≤ c ∧ c ≤ 9223372036854775807 := by
  rcases h.2 with ⟨hv, h0⟩ | ⟨g, cap, cur, hv, _, _, hnc, hm, _⟩
  · injection hv with e1 e2 e3
    subst e2 e3
    exact ⟨by omega, Nat.le_refl _, by decide⟩
  · injection hv with e1 e2 e3
    subst e2 e3
    exact ⟨rfl, hnc, by unfold maxLen at hm; omega⟩

/-- An access that may be is done. -/
theorem do_ac {w : World} {gb hb n : Nat} {m : Nat → Nat} {c : Int} (B : Buf w gb hb m n c) (a : Ac) (hf : a.Fine) {base : Nat} {A : Option Addr} {l cp : Nat} (ho : Owns base w (.slice A l cp) a.bs) (h0 : a.err n = 0) :
    Calls Tryz.prog 15 #[.pointer (some ⟨gb, 0, none⟩), .agg #[.int .i64 a.K, .int .i64 a.P, .int .i64 a.N, .int .u64 a.V, .int .u64 a.U, .slice A l cp]] w (DidIn (a.ans m).V (a.ans m).D (a.ans m).bs gb hb (a.aft m) n (nxt c) w) := by
  obtain ⟨e1, hl1, hl2⟩ := ho.fits
  obtain ⟨hfm, hP, hS, hN, _⟩ := chk_ok h0
  have hN0 := (formed_len hfm).1
  have eP : ((a.P.toNat : Nat) : Int) = a.P := Int.toNat_of_nonneg hP
  have eN : ((a.N.toNat : Nat) : Int) = a.N := Int.toNat_of_nonneg hN0
  have hB : BytesAt w (.slice A l cp) (Mb.bl (fnOf a.bs) 0 l) := by
    rw [← e1, bl_fnOf hf.bys, e1]
    exact ho.bytes
  have ok : chk (8 * (n : Int)) a.K (a.P.toNat : Nat) (a.N.toNat : Nat) l = 0 := by rw [eP, eN, ← e1]; exact h0
  have := do_in B a.K a.P.toNat a.N.toNat a.V a.U (fnOf_isB hf.bys) A l cp hl1 hl2 hB hf.v ok
  rw [eP, eN] at this
  exact this

set_option maxRecDepth 100000 in
theorem do_ac_no {w : World} {gb hb n : Nat} {m : Nat → Nat} {c : Int} (B : Buf w gb hb m n c) (a : Ac) {base : Nat} {A : Option Addr} {l cp : Nat} (ho : Owns base w (.slice A l cp) a.bs) (h0 : a.err n ≠ 0) :
    Calls Tryz.prog 15 #[.pointer (some ⟨gb, 0, none⟩), .agg #[.int .i64 a.K, .int .i64 a.P, .int .i64 a.N, .int .u64 a.V, .int .u64 a.U, .slice A l cp]] w (Made (.tuple #[.agg #[.int .u64 0, .bool false, .slice none 0 0], .int .i64 (a.err n)]) w) := by
  obtain ⟨e1, _, _⟩ := ho.fits
  have e2 : chk (8 * (n : Int)) a.K a.P a.N l = a.err n := by rw [← e1]; rfl
  have h2 := do_no B a.K a.P a.N a.V a.U A l cp (by rw [e2]; exact h0)
  rw [e2] at h2
  exact h2

theorem below_alloc_drew {w w' : World} {q : Obj} (h : Below (w.alloc q).drew.heap.size (w.alloc q).drew w') : Below w.heap.size w w' :=
  ((Below.refl w.heap.size w).alloc (Nat.le_refl _) q).drew.trans (h.mono (by simp [World.drew]))

theorem alloc_drew_block {w w' : World} {q : Obj} (h : Below (w.alloc q).drew.heap.size (w.alloc q).drew w') : w'.heap[w.heap.size]? = (w.alloc q).heap[w.heap.size]? :=
  h.block w.heap.size (by simp [World.drew])

/-- What step boxes: the scheduler, the pick, the access, a place for the event. -/
structure StepBox (b : Nat) (W : World) (gw : Nat) (p : Pk) (a : Ac) (s : Value) : Prop where
  wd : W.heap[b]? = some (.cells #[.pointer (some ⟨gw, 0, none⟩)] 64 (0, 0))
  pk : W.heap[b + 1]? = some (.cells #[.int .i64 p.K, .int .i64 p.A, .int .i64 p.N] 152 (0, 0))
  ac : W.heap[b + 1 + 1]? = some (.cells #[.int .i64 a.K, .int .i64 a.P, .int .i64 a.N, .int .u64 a.V, .int .u64 a.U, s] 30 (0, 0))
  ev : EvNew (b + 1 + 1 + 1) W

theorem StepBox.keep {b : Nat} {W W' : World} {gw : Nat} {p : Pk} {a : Ac} {s : Value} (h : StepBox b W gw p a s) (hk : ∀ k, b ≤ k → k < W.heap.size → W'.heap[k]? = W.heap[k]?) : StepBox b W' gw p a s := by
  have l1 := (Array.getElem?_eq_some_iff.1 h.wd).1
  have l2 := (Array.getElem?_eq_some_iff.1 h.pk).1
  have l3 := (Array.getElem?_eq_some_iff.1 h.ac).1
  have l4 := h.ev.lt
  exact ⟨(hk b (Nat.le_refl _) l1).trans h.wd, (hk (b + 1) (by omega) l2).trans h.pk, (hk (b + 1 + 1) (by omega) l3).trans h.ac, h.ev.of_block (hk _ (by omega) l4)⟩

theorem step_boxes (w : World) (gw : Nat) (p : Pk) (a : Ac) (s : Value) (W : World) (hW : W = (((w.alloc (.cells #[.pointer (some ⟨gw, 0, none⟩)] 64)).alloc (.cells #[.int .i64 p.K, .int .i64 p.A, .int .i64 p.N] 152)).alloc (.cells #[.int .i64 a.K, .int .i64 a.P, .int .i64 a.N, .int .u64 a.V, .int .u64 a.U, s] 30)).alloc (.cells #[.int .i64 0, .int .i64 0, .int .i64 0, .int .i64 0, .int .i64 0, .int .i64 0, .int .u64 0, .int .u64 0, .slice none 0 0, .int .u64 0, .bool false, .slice none 0 0] 154)) :
    Below w.heap.size w W ∧ StepBox w.heap.size W gw p a s ∧ W.heap.size = w.heap.size + 1 + 1 + 1 + 1 := by
  subst hW
  have HW := ((((Below.refl w.heap.size w).alloc (Nat.le_refl _) (.cells #[.pointer (some ⟨gw, 0, none⟩)] 64)).alloc (by simp) (.cells #[.int .i64 p.K, .int .i64 p.A, .int .i64 p.N] 152)).alloc (by simp; omega) (.cells #[.int .i64 a.K, .int .i64 a.P, .int .i64 a.N, .int .u64 a.V, .int .u64 a.U, s] 30)).alloc (by simp; omega) (.cells #[.int .i64 0, .int .i64 0, .int .i64 0, .int .i64 0, .int .i64 0, .int .i64 0, .int .u64 0, .int .u64 0, .slice none 0 0, .int .u64 0, .bool false, .slice none 0 0] 154)
  have e1 : (w.alloc (.cells #[.pointer (some ⟨gw, 0, none⟩)] 64)).heap.size = w.heap.size + 1 := by simp
  have x0 := Go.Deep.blk_alloc_new w (.cells #[.pointer (some ⟨gw, 0, none⟩)] 64)
  generalize w.alloc (.cells #[.pointer (some ⟨gw, 0, none⟩)] 64) = W1 at *
  have e2 : (W1.alloc (.cells #[.int .i64 p.K, .int .i64 p.A, .int .i64 p.N] 152)).heap.size = w.heap.size + 1 + 1 := by simp [e1]
  have x1 := Go.Deep.blk_alloc_new W1 (.cells #[.int .i64 p.K, .int .i64 p.A, .int .i64 p.N] 152)
  have x0' := (Below.heap_alloc W1 (.cells #[.int .i64 p.K, .int .i64 p.A, .int .i64 p.N] 152) w.heap.size (by omega)).trans x0
  rw [e1] at x1
  generalize W1.alloc (.cells #[.int .i64 p.K, .int .i64 p.A, .int .i64 p.N] 152) = W2 at *
  have e3 : (W2.alloc (.cells #[.int .i64 a.K, .int .i64 a.P, .int .i64 a.N, .int .u64 a.V, .int .u64 a.U, s] 30)).heap.size = w.heap.size + 1 + 1 + 1 := by simp [e2]
  have x2 := Go.Deep.blk_alloc_new W2 (.cells #[.int .i64 a.K, .int .i64 a.P, .int .i64 a.N, .int .u64 a.V, .int .u64 a.U, s] 30)
  have x1' := (Below.heap_alloc W2 (.cells #[.int .i64 a.K, .int .i64 a.P, .int .i64 a.N, .int .u64 a.V, .int .u64 a.U, s] 30) (w.heap.size + 1) (by omega)).trans x1
  have x0'' := (Below.heap_alloc W2 (.cells #[.int .i64 a.K, .int .i64 a.P, .int .i64 a.N, .int .u64 a.V, .int .u64 a.U, s] 30) w.heap.size (by omega)).trans x0'
  rw [e2] at x2
  generalize W2.alloc (.cells #[.int .i64 a.K, .int .i64 a.P, .int .i64 a.N, .int .u64 a.V, .int .u64 a.U, s] 30) = W3 at *
  have x3 := Go.Deep.blk_alloc_new W3 (.cells #[.int .i64 0, .int .i64 0, .int .i64 0, .int .i64 0, .int .i64 0, .int .i64 0, .int .u64 0, .int .u64 0, .slice none 0 0, .int .u64 0, .bool false, .slice none 0 0] 154)
  rw [e3] at x3
  have f := fun k hk => Below.heap_alloc W3 (.cells #[.int .i64 0, .int .i64 0, .int .i64 0, .int .i64 0, .int .i64 0, .int .i64 0, .int .u64 0, .int .u64 0, .slice none 0 0, .int .u64 0, .bool false, .slice none 0 0] 154) k hk
  exact ⟨HW, ⟨(f _ (by omega)).trans x0'', (f _ (by omega)).trans x1', (f _ (by omega)).trans x2, ⟨x3⟩⟩, by simp [e3]⟩

theorem Touch.trans' {S : Nat → Prop} {a b c : World} {q : Nat} (h : Touch S a b) (k : Touch (fun k => k = q) b c) (hq : a.heap.size ≤ q) : Touch S a c :=
  ⟨k.os.trans h.os, k.tape.trans h.tape, k.output.trans h.output, Nat.le_trans h.size k.size, fun j hj hn => (k.block j (Nat.lt_of_lt_of_le hj h.size) (fun e => by omega)).trans (h.block j hj hn)⟩

set_option maxRecDepth 100000 in
set_option maxHeartbeats 2000000 in
theorem step_no {w : World} {o : Nat → Pt} {gw ga gb hb : Nat} {ax : Nat → Value} {tv : Value} {ts : List Tx} {st : St} (h : Sw w o gw ga gb hb ax tv ts st) (p : Pk) (i : Nat) (hp : p.A = (i : Nat)) (hi : i < st.na) (a : Ac) {base : Nat} {A : Option Addr} {l cp : Nat} (ho : Owns base w (.slice A l cp) a.bs) (h0 : a.err st.nw ≠ 0) :
    Calls Tryz.prog 87 #[.pointer (some ⟨gw, 0, none⟩), .agg #[.int .i64 p.K, .int .i64 p.A, .int .i64 p.N], .agg #[.int .i64 a.K, .int .i64 a.P, .int .i64 a.N, .int .u64 a.V, .int .u64 a.U, .slice A l cp]] w
      fun e w' => e = .returned (.tuple #[.agg #[.int .i64 0, .int .i64 0, .int .i64 0, .int .i64 0, .int .i64 0, .int .i64 0, .int .u64 0, .int .u64 0, .slice none 0 0, .int .u64 0, .bool false, .slice none 0 0], .int .i64 (a.err st.nw)]) ∧ Sw w' o gw ga gb hb ax tv ts { st with dead := upd st.dead i true } ∧ Touch (Own o) w w' := by
  have HS := Lib.hid h
  have HO := Lib.hid ho
  have HE := Lib.hid h0
  have HP := Lib.hid hp
  have hfew := h.few
  generalize hr : a.err st.nw = r at h0 ⊢
  have HR := Lib.hid hr
  have hr0 : (r != 0) = true := by simpa using h0
  clear h ho h0 hr hp
  obtain ⟨WW, hWW⟩ : ∃ WW, WW = (((w.alloc (.cells #[.pointer (some ⟨gw, 0, none⟩)] 64)).alloc (.cells #[.int .i64 p.K, .int .i64 p.A, .int .i64 p.N] 152)).alloc (.cells #[.int .i64 a.K, .int .i64 a.P, .int .i64 a.N, .int .u64 a.V, .int .u64 a.U, .slice A l cp] 30)).alloc (.cells #[.int .i64 0, .int .i64 0, .int .i64 0, .int .i64 0, .int .i64 0, .int .i64 0, .int .u64 0, .int .u64 0, .slice none 0 0, .int .u64 0, .bool false, .slice none 0 0] 154) := ⟨_, rfl⟩
  have HB := Lib.hid (step_boxes w gw p a (.slice A l cp) WW hWW)
  go_enter Tryz.func87, Tryz.ntmps87
  go_upto_region 1 with fail
  rw [← hWW]
  clear hWW
  obtain ⟨hb0, hx0, hsz0⟩ := HB.out
  have hsw := HS.out.below hb0
  have hc0 : WW.cell? ⟨w.heap.size, 0, none⟩ = some (.pointer (some ⟨gw, 0, none⟩)) := by simp [World.cell?, hx0.wd]
  have hcw := hsw.w0
  have a0 : WW.cell? ⟨w.heap.size + 1 + 1, 0, none⟩ = some (.int .i64 a.K) := by simp [World.cell?, hx0.ac]
  have a1 : WW.cell? ⟨w.heap.size + 1 + 1, 1, none⟩ = some (.int .i64 a.P) := by simp [World.cell?, hx0.ac]
  have a2 : WW.cell? ⟨w.heap.size + 1 + 1, 2, none⟩ = some (.int .i64 a.N) := by simp [World.cell?, hx0.ac]
  have a3 : WW.cell? ⟨w.heap.size + 1 + 1, 3, none⟩ = some (.int .u64 a.V) := by simp [World.cell?, hx0.ac]
  have a4 : WW.cell? ⟨w.heap.size + 1 + 1, 4, none⟩ = some (.int .u64 a.U) := by simp [World.cell?, hx0.ac]
  have a5 : WW.cell? ⟨w.heap.size + 1 + 1, 5, none⟩ = some (.slice A l cp) := by simp [World.cell?, hx0.ac]
  have HSW := Lib.hid hsw
  have HX := Lib.hid hx0
  have HOW := Lib.hid (HO.out.below hb0)
  have hgw := hsw.gw_lt
  have hgw0 := HS.out.gw_lt
  have g4 : ¬ w.heap.size + 1 + 1 + 1 + 1 = gw := by omega
  have g5 : ¬ w.heap.size + 1 + 1 + 1 + 1 = w.heap.size := by omega
  have g6 : ¬ w.heap.size + 1 + 1 = w.heap.size := by omega
  have g4' : ¬ gw = w.heap.size + 1 + 1 + 1 + 1 := by omega
  clear hx0 hsw
  go_cut [8, 9] (fun s8 s9 wx => ∃ g : Nat, s8 = .pointer (some ⟨g, 0, none⟩) ∧ s9 = .int .i64 r ∧ Below WW.heap.size WW wx)
  case first =>
   go_region_held3 (fun w' => w'.cell? ⟨w.heap.size, 0, none⟩ = some (.pointer (some ⟨gw, 0, none⟩)) ∧ w'.cell? ⟨gw, 0, none⟩ = some (.pointer (some ⟨gb, 0, none⟩)) ∧ w'.cell? ⟨w.heap.size + 1 + 1, 0, none⟩ = some (.int .i64 a.K) ∧ w'.cell? ⟨w.heap.size + 1 + 1, 1, none⟩ = some (.int .i64 a.P) ∧ w'.cell? ⟨w.heap.size + 1 + 1, 2, none⟩ = some (.int .i64 a.N) ∧ w'.cell? ⟨w.heap.size + 1 + 1, 3, none⟩ = some (.int .u64 a.V) ∧ w'.cell? ⟨w.heap.size + 1 + 1, 4, none⟩ = some (.int .u64 a.U) ∧ w'.cell? ⟨w.heap.size + 1 + 1, 5, none⟩ = some (.slice A l cp))
    (go_keep)
    (first
      | (go_at_call 15; refine (do_ac_no (HSW.out.buf.alloc _).drew a (HOW.out.alloc _).drew HE.out).mono ?_; rintro e w1 ⟨rfl, hbd⟩; rw [HR.out]; have hb1 := below_alloc_drew hbd; have HAN := AnsAt.of_blk ((alloc_drew_block hbd).trans (Go.Deep.blk_alloc_new _ _)); rw [hsz0] at HAN; obtain ⟨n0, n1, n2, nf0, nf1, nf2, _⟩ := HAN; clear hbd; have kf := fun (q : Addr) (hq : q.block < WW.heap.size) => hb1.cell (p := q) hq; have k1 := (kf ⟨gw, 0, none⟩ hgw).trans hcw; have k0 := (kf ⟨w.heap.size, 0, none⟩ (by show w.heap.size < _; omega)).trans hc0; have k2 := (kf ⟨w.heap.size + 1 + 1, 0, none⟩ (by show w.heap.size + 1 + 1 < _; omega)).trans a0; have k3 := (kf ⟨w.heap.size + 1 + 1, 1, none⟩ (by show w.heap.size + 1 + 1 < _; omega)).trans a1; have k4 := (kf ⟨w.heap.size + 1 + 1, 2, none⟩ (by show w.heap.size + 1 + 1 < _; omega)).trans a2; have k5 := (kf ⟨w.heap.size + 1 + 1, 3, none⟩ (by show w.heap.size + 1 + 1 < _; omega)).trans a3; have k6 := (kf ⟨w.heap.size + 1 + 1, 4, none⟩ (by show w.heap.size + 1 + 1 < _; omega)).trans a4; have k7 := (kf ⟨w.heap.size + 1 + 1, 5, none⟩ (by show w.heap.size + 1 + 1 < _; omega)).trans a5; clear kf)
      | (go_at_call 15; refine (do_ac_no HSW.out.buf.drew a HOW.out.drew HE.out).mono ?_; rintro e w1 ⟨rfl, hbd⟩; rw [HR.out]; have hb1 := below_drew hbd; clear hbd; have kf := fun (q : Addr) (hq : q.block < WW.heap.size) => hb1.cell (p := q) hq; have k1 := (kf ⟨gw, 0, none⟩ hgw).trans hcw; have k0 := (kf ⟨w.heap.size, 0, none⟩ (by show w.heap.size < _; omega)).trans hc0; have k2 := (kf ⟨w.heap.size + 1 + 1, 0, none⟩ (by show w.heap.size + 1 + 1 < _; omega)).trans a0; have k3 := (kf ⟨w.heap.size + 1 + 1, 1, none⟩ (by show w.heap.size + 1 + 1 < _; omega)).trans a1; have k4 := (kf ⟨w.heap.size + 1 + 1, 2, none⟩ (by show w.heap.size + 1 + 1 < _; omega)).trans a2; have k5 := (kf ⟨w.heap.size + 1 + 1, 3, none⟩ (by show w.heap.size + 1 + 1 < _; omega)).trans a3; have k6 := (kf ⟨w.heap.size + 1 + 1, 4, none⟩ (by show w.heap.size + 1 + 1 < _; omega)).trans a4; have k7 := (kf ⟨w.heap.size + 1 + 1, 5, none⟩ (by show w.heap.size + 1 + 1 < _; omega)).trans a5; clear kf))
   all_goals (go_wp2_with fail; go_meet)
   · exact ⟨_, rfl, rfl, hb1.alloc hb1.size _⟩
   · exact ⟨_, rfl, rfl, ((hb1.setCell (Nat.le_of_eq hsz0) _).setCell (Nat.le_of_eq hsz0) _).setCell (Nat.le_of_eq hsz0) _⟩
  case rest =>
    obtain ⟨g8, rfl, rfl, hbc⟩ := hcut
    have HSC := Lib.hid (HSW.out.below hbc)
    have hbx := HX.out.keep (W' := wc) fun k _ hk => hbc.block k hk
    have d0 : wc.cell? ⟨w.heap.size, 0, none⟩ = some (.pointer (some ⟨gw, 0, none⟩)) := by simp [World.cell?, hbx.wd]
    have d1 : wc.cell? ⟨w.heap.size + 1, 1, none⟩ = some (.int .i64 (i : Nat)) := by rw [← HP.out]; simp [World.cell?, hbx.pk]
    have w1c := HSC.out.w1
    have dd := HSC.out.adead hi
    have dz := HSC.out.afree (i * 2 + 1)
    have hga := HSC.out.ga_lt
    have hga0 := HS.out.ga_lt
    have hE := hbx.ev
    have HSD := Lib.hid (HSC.out.setDead (i := i)).drew
    have HTD := Lib.hid ((((Touch.of_below (S := Own o) hb0).trans (Touch.of_below hbc)).setCell (p := ⟨ga, i * 2 + 1, none⟩) (by unfold Own; rw [HS.out.oga]; simp) (.bool true)).drew)
    have HED := Lib.hid (hE.of_block (W' := (wc.setCell ⟨ga, i * 2 + 1, none⟩ (.bool true)).drew) (Below.heap_setCell wc ⟨ga, i * 2 + 1, none⟩ _ _ (by show w.heap.size + 1 + 1 + 1 ≠ ga; omega)))
    clear hE hbx hc0 hcw a0 a1 a2 a3 a4 a5 g4 g5 g6 g4'
    go_wp2_with fail
    go_region
    all_goals
      generalize (wc.setCell ⟨ga, i * 2 + 1, none⟩ (.bool true)).drew = W5 at HSD HTD HED ⊢
      have r0 := HED.out.e0
      have r1 := HED.out.e1
      have r2 := HED.out.e2
      have r3 := HED.out.e3
      have r4 := HED.out.e4
      have r5 := HED.out.e5
      have r6 := HED.out.e6
      have r7 := HED.out.e7
      have r8 := HED.out.e8
      have r9 := HED.out.e9
      have r10 := HED.out.e10
      have r11 := HED.out.e11
      have f0 := HED.out.free 0
      have f1 := HED.out.free 1
      have f2 := HED.out.free 2
      have f3 := HED.out.free 3
      have f4 := HED.out.free 4
      have f5 := HED.out.free 5
      have f6 := HED.out.free 6
      have f7 := HED.out.free 7
      have f8 := HED.out.free 8
      have f9 := HED.out.free 9
      have f10 := HED.out.free 10
      have f11 := HED.out.free 11
      go_wp2
      refine bodyPost_ret (v := .tuple #[.agg #[.int .i64 0, .int .i64 0, .int .i64 0, .int .i64 0, .int .i64 0, .int .i64 0, .int .u64 0, .int .u64 0, .slice none 0 0, .int .u64 0, .bool false, .slice none 0 0], .int .i64 r]) (by simp [results, Tryz.results87, go_sem, r0, r1, r2, r3, r4, r5, r6, r7, r8, r9, r10, r11]) rfl ?_
      have ht12 := twelve_touch W5 (w.heap.size + 1 + 1 + 1) (.int .i64 0) (.int .i64 0) (.int .i64 0) (.int .i64 0) (.int .i64 0) (.int .i64 0) (.int .u64 0) (.int .u64 0) (.slice none 0 0) (.int .u64 0) (.bool false) (.slice none 0 0)
      refine ⟨rfl, HSD.out.touch ht12 fun k hk e => ?_, HTD.out.trans' ht12 (Nat.le_trans (Nat.le_succ _) (Nat.le_trans (Nat.le_succ _) (Nat.le_succ _)))⟩
      have := HS.out.lt k hk
      omega
end Go.Proofs.YtikcnioooihncaaGreat
namespace Go.Proofs.YtikcnioooihncaaGreat
open Go.RowKit

theorem infoEv : (Tryz.prog.info? 154).map (fun i => (i.zero, i.size, i.bytes)) = some (some (.agg #[.int .i64 0, .int .i64 0, .int .i64 0, .int .i64 0, .int .i64 0, .int .i64 0, .int .u64 0, .int .u64 0, .slice none 0 0, .int .u64 0, .bool false, .slice none 0 0]), 12, 128) := by kernel_rfl

/-- What appending an event to a row left. -/
structure AppEv (n : Nat) (v : Value) (zs : List Value) (w : World) (v' : Value) (w' : World) : Prop where
  row : w'.ownsRow 0 154 12 v' (n + 1) zs
  grown : w.grownBy w' v.ownBlock
  lies : v'.ownBlock = v.ownBlock ∨ v'.ownBlock = some w.heap.size

theorem AppEv.form {n : Nat} {v v' : Value} {zs : List Value} {w w' : World} (h : AppEv n v zs w v' w') : ∃ g cap, v' = .slice (some ⟨g, 0, none⟩) (n + 1) cap := by
  rcases h.row.2 with ⟨_, h0⟩ | ⟨g, cap, cur, hv, _⟩
  · omega
  · exact ⟨g, cap, hv⟩

set_option maxRecDepth 100000 in
theorem run_app_ev {w : World} {v : Value} {n : Nat} {xs : List Value} (hv : w.ownsRow 0 154 12 v n xs) (t : Tx) {g c : Nat} (hg : w.heap[g]? = some (.cells #[.int .i64 t.e.pk.K, .int .i64 t.e.pk.A, .int .i64 t.e.pk.N, .int .i64 t.e.ac.K, .int .i64 t.e.ac.P, .int .i64 t.e.ac.N, .int .u64 t.e.ac.V, .int .u64 t.e.ac.U, t.s1, .int .u64 t.e.an.V, .bool t.e.an.D, t.s2] 154 (0, 0)))
    (h1 : t.s1.oneCell' = true) (h2 : t.s2.oneCell' = true) (hl : n ≤ 1000000) (ty : TypeId) :
    ∃ v' w', (Builtin.append_ #[109, 109] ty #[v, .slice (some ⟨g, 0, none⟩) 1 c]).run Tryz.prog w = .ok v' w' ∧ AppEv n v (xs ++ t.cells) w v' w' := by
  obtain ⟨i0, hi, hz0, hz1, hz2⟩ := info_parts infoEv
  obtain ⟨v', w', hr, h5, h6, _, h8⟩ := run_append_own_at (P := Tryz.prog) w 0 109 ty 154 i0 _ 12 128 Tryz.underlying109 hi hz0 hz1 hz2 rfl (by decide) v n xs hv ⟨g, 0, none⟩ 1 c t.cells rfl (by
      intro j u hj
      have e : (⟨g, 0, none⟩ : Addr).add j = ⟨g, 0 + j, none⟩ := by unfold Addr.add; split <;> simp_all
      rw [e, Nat.zero_add]
      simp only [World.cell?, hg]
      rw [← hj]
      simp [Tx.cells]) (by
      intro u hu
      simp only [Tx.cells, List.mem_cons, List.not_mem_nil, or_false] at hu
      rcases hu with rfl | rfl | rfl | rfl | rfl | rfl | rfl | rfl | rfl | rfl | rfl | rfl <;> first | rfl | assumption) (by unfold maxLen; omega) (by omega) (Nat.zero_le _)
  exact ⟨v', w', hr, h5, h6, h8⟩

set_option maxRecDepth 100000 in
theorem wp_app_ev {w : World} {o : Oper} {a : Act} {K : Act → World → Prop} {Q : Exit → Act → World → Prop} (s x : Operand)
    (ho : o.op = .call { callee := .builtin .append, args := #[s, x], argTypes := #[109, 109] }) (v : Value) (n : Nat) (xs : List Value) (t : Tx) (g c : Nat)
    (hs : a.eval s = v) (hx : a.eval x = .slice (some ⟨g, 0, none⟩) 1 c) (hv : w.ownsRow 0 154 12 v n xs) (hg : w.heap[g]? = some (.cells #[.int .i64 t.e.pk.K, .int .i64 t.e.pk.A, .int .i64 t.e.pk.N, .int .i64 t.e.ac.K, .int .i64 t.e.ac.P, .int .i64 t.e.ac.N, .int .u64 t.e.ac.V, .int .u64 t.e.ac.U, t.s1, .int .u64 t.e.an.V, .bool t.e.an.D, t.s2] 154 (0, 0)))
    (h1 : t.s1.oneCell' = true) (h2 : t.s2.oneCell' = true) (hl : n ≤ 1000000)
    (h : ∀ v' w', AppEv n v (xs ++ t.cells) w v' w' → K (a.put o.dst v') w') : o.wp Tryz.prog a w K Q := by
  obtain ⟨v', w', hrun, h5⟩ := run_app_ev hv t (c := c) hg h1 h2 hl o.type
  unfold Oper.wp execOp
  simp only [ho, resolve, invoke, builtin, Sem.run_bind, Sem.run_pure, Result.andThen_ok, List.map_toArray, List.map_cons, List.map_nil, hs, hx, hrun]
  exact h v' w' h5

set_option maxRecDepth 100000 in
theorem wpList_app_ev {w : World} {ops : Array Oper} {rest : List Oper} {o : Oper} {a : Act} {Q : Exit → Act → World → Prop} (hgd : o.guard = none) (s x : Operand)
    (ho : o.op = .call { callee := .builtin .append, args := #[s, x], argTypes := #[109, 109] }) (v : Value) (n : Nat) (xs : List Value) (t : Tx) (g c : Nat)
    (hs : a.eval s = v) (hx : a.eval x = .slice (some ⟨g, 0, none⟩) 1 c) (hv : w.ownsRow 0 154 12 v n xs) (hg : w.heap[g]? = some (.cells #[.int .i64 t.e.pk.K, .int .i64 t.e.pk.A, .int .i64 t.e.pk.N, .int .i64 t.e.ac.K, .int .i64 t.e.ac.P, .int .i64 t.e.ac.N, .int .u64 t.e.ac.V, .int .u64 t.e.ac.U, t.s1, .int .u64 t.e.an.V, .bool t.e.an.D, t.s2] 154 (0, 0)))
    (h1 : t.s1.oneCell' = true) (h2 : t.s2.oneCell' = true) (hl : n ≤ 1000000)
    (h : ∀ v' w', AppEv n v (xs ++ t.cells) w v' w' → wpList Tryz.prog ops Q rest (a.put o.dst v') w') : wpList Tryz.prog ops Q (o :: rest) a w :=
  wpList_plain hgd fun _ hK => wp_app_ev s x ho v n xs t g c hs hx hv hg h1 h2 hl fun v' w' h2 => hK _ _ (h v' w' h2)

set_option maxRecDepth 100000 in
theorem step_app_ev {w : World} {ops : Array Oper} {o : Oper} {a : Act} {K : Act → World → Prop} {Q : Exit → Act → World → Prop} {E : Prop} (hgd : o.guard = none) (s x : Operand)
    (ho : o.op = .call { callee := .builtin .append, args := #[s, x], argTypes := #[109, 109] }) (v : Value) (n : Nat) (xs : List Value) (t : Tx) (g c : Nat)
    (hs : a.eval s = v) (hx : a.eval x = .slice (some ⟨g, 0, none⟩) 1 c) (hv : w.ownsRow 0 154 12 v n xs) (hg : w.heap[g]? = some (.cells #[.int .i64 t.e.pk.K, .int .i64 t.e.pk.A, .int .i64 t.e.pk.N, .int .i64 t.e.ac.K, .int .i64 t.e.ac.P, .int .i64 t.e.ac.N, .int .u64 t.e.ac.V, .int .u64 t.e.ac.U, t.s1, .int .u64 t.e.an.V, .bool t.e.an.D, t.s2] 154 (0, 0)))
    (h1 : t.s1.oneCell' = true) (h2 : t.s2.oneCell' = true) (hl : n ≤ 1000000)
    (h : ∀ v' w', AppEv n v (xs ++ t.cells) w v' w' → K (a.put o.dst v') w') : if Region.wanted o (yielded ops a.tmps) = true then Oper.wp Tryz.prog o a w K Q else E := by
  have hw : Region.wanted o (yielded ops a.tmps) = true := by simp [Region.wanted, hgd]
  rw [if_pos hw]
  exact wp_app_ev s x ho v n xs t g c hs hx hv hg h1 h2 hl h

theorem app_cell {w w1 w2 : World} {n : Nat} {v v' : Value} {zs : List Value} (hb : Below w.heap.size w w1) (ha : AppEv n v zs w1 v' w2) {q : Addr} (hq : q.block < w.heap.size) (hn : v.ownBlock ≠ some q.block) : w2.cell? q = w.cell? q :=
  (World.cell?_of_block (w := w1) (ha.grown.block q.block (Nat.lt_of_lt_of_le hq hb.size) fun e => hn e.symm)).trans (hb.cell hq)

theorem app_frozen {w w1 w2 : World} {n : Nat} {v v' : Value} {zs : List Value} (hb : Below w.heap.size w w1) (ha : AppEv n v zs w1 v' w2) {q : Addr} (hq : q.block < w.heap.size) (hn : v.ownBlock ≠ some q.block) : w2.frozen? q = w.frozen? q :=
  (World.frozen?_of_block (w := w1) (ha.grown.block q.block (Nat.lt_of_lt_of_le hq hb.size) fun e => hn e.symm)).trans (hb.frozen hq)

theorem Sw.new_no {w : World} {o : Nat → Pt} {gw ga gb hb : Nat} {ax : Nat → Value} {tv : Value} {ts : List Tx} {st : St} (h : Sw w o gw ga gb hb ax tv ts st) {k : Nat} (hk : w.heap.size ≤ k) : o k = .no :=
  Classical.byContradiction fun e => by have := h.lt k e; omega

/-- A row's block is none that the trace's row doesn't own. -/
theorem Sw.row_ne {w : World} {o : Nat → Pt} {gw ga gb hb : Nat} {ax : Nat → Value} {tv : Value} {ts : List Tx} {st : St} (h : Sw w o gw ga gb hb ax tv ts st) {k : Nat} (hk : o k ≠ .ro) : tv.ownBlock ≠ some k := fun e => hk (h.tr.own k e)

/-- The trace has one event more. -/
theorem Sw.setTrace {w w1 w2 : World} {o : Nat → Pt} {gw ga gb hb : Nat} {ax : Nat → Value} {tv tv' : Value} {ts : List Tx} {st : St} (h : Sw w o gw ga gb hb ax tv ts st) (hbl : Below w.heap.size w w1) (t : Tx)
    (b1 : BytesIn (fun k => w.heap.size ≤ k) w1 t.s1 t.e.ac.bs) (b2 : BytesIn (fun k => w.heap.size ≤ k) w1 t.s2 t.e.an.bs) (ha : AppEv ts.length tv (ts.flatMap Tx.cells ++ t.cells) w1 tv' w2) (hsm : t.e.Small) :
    ∃ o', Sw (w2.setCell ⟨gw, 3, none⟩ tv') o' gw ga gb hb ax tv' (ts ++ [t]) { st with tr := st.tr ++ [t.e] } ∧ Touch (Own o) w (w2.setCell ⟨gw, 3, none⟩ tv') ∧ (∀ k, k < w.heap.size → o' k = o k) := by
  have h1 := h.below hbl
  have hs1 := hbl.size
  have hs2 := ha.grown.size
  have htv : ∀ k, tv.ownBlock = some k → k < w.heap.size ∧ o k = .ro := fun k hk => ⟨h.lt k (by rw [h.tr.own k hk]; simp), h.tr.own k hk⟩
  have htv' : ∀ k, tv'.ownBlock = some k → (k < w.heap.size ∧ o k = .ro) ∨ k = w1.heap.size := fun k hk => by
    rcases ha.lies with e | e
    · exact .inl (htv k (e.symm.trans hk))
    · rw [e] at hk; injection hk with hk; exact .inr hk.symm
  have hltv' : ∀ k, tv'.ownBlock = some k → k < w2.heap.size := fun k hk => (World.ownsRow.lt ha.row k hk).2
  have hsz3 : (w2.setCell ⟨gw, 3, none⟩ tv').heap.size = w2.heap.size := by simp [World.setCell]
  have hgr : ∀ k, k < w1.heap.size → tv.ownBlock ≠ some k → w2.heap[k]? = w1.heap[k]? := fun k hk hn => ha.grown.block k hk fun e => hn e.symm
  have hne : ∀ k, k ≠ gw → (w2.setCell ⟨gw, 3, none⟩ tv').heap[k]? = w2.heap[k]? := fun k hk => Below.heap_setCell _ _ _ _ hk
  have hwgw : ∀ k, o k ≠ .wd → k ≠ gw := fun k hk e => hk (e ▸ h.ogw)
  have hro : ∀ k, o k ≠ .ro → tv.ownBlock ≠ some k := fun k hk e => hk (h.tr.own k e)
  have hold : ∀ k, o k ≠ .no → o k ≠ .ro → o k ≠ .wd → (w2.setCell ⟨gw, 3, none⟩ tv').heap[k]? = w1.heap[k]? := fun k h1 h2 h3 => (hne k (hwgw k h3)).trans (hgr k (Nat.lt_of_lt_of_le (h.lt k h1) hs1) (hro k h2))
  generalize hw3 : w2.setCell ⟨gw, 3, none⟩ tv' = w3 at *
  have hs3 : w1.heap.size ≤ w3.heap.size := by omega
  have holdk : ∀ k, k < w.heap.size → claimed (claimed o w.heap.size (fun k => k < w2.heap.size) .tx) w.heap.size (fun k => tv'.ownBlock = some k) .ro k = o k := fun k hk => (claimed_old hk).trans (claimed_old hk)
  refine ⟨claimed (claimed o w.heap.size (fun k => k < w2.heap.size) .tx) w.heap.size (fun k => tv'.ownBlock = some k) .ro, ⟨?_, h1.row.of_block (hold ga (by rw [h.oga]; simp) (by rw [h.oga]; simp) (by rw [h.oga]; simp)),
    h1.buf.of_blocks (hold gb (by rw [h.ogb]; simp) (by rw [h.ogb]; simp) (by rw [h.ogb]; simp)) (hold hb (by rw [h.ohb]; simp) (by rw [h.ohb]; simp) (by rw [h.ohb]; simp)),
    fun i hi => ((h1.mach i hi).keep hs3 fun k hk => hold k (by rw [hk]; simp) (by rw [hk]; simp) (by rw [hk]; simp)).mono fun k hk => (holdk k (h.lt k (by rw [hk]; simp))).trans hk,
    ⟨?_, fun q hq => ?_, fun k hk => ?_⟩, by show st.tr ++ [t.e] = _; rw [h.told, List.map_append]; rfl, (holdk gw h.gw_lt).trans h.ogw, (holdk ga h.ga_lt).trans h.oga, (holdk gb h.buf.g_lt).trans h.ogb, (holdk hb h.buf.h_lt).trans h.ohb, fun k hk => ?_, h.few, fun e he => by rcases List.mem_append.1 he with he | he; exact h.small e he; obtain rfl : e = t.e := (by simpa using he); exact hsm⟩, ?_, holdk⟩
  · rw [← hw3]
    have e1 : w2.heap[gw]? = some (.cells #[.pointer (some ⟨gb, 0, none⟩), .slice (some ⟨ga, 0, none⟩) st.na st.na, .int .i64 st.clock, tv] 111 (0, 0)) := (hgr gw (Nat.lt_of_lt_of_le h.gw_lt hs1) (hro gw (by rw [h.ogw]; simp))).trans h1.head
    exact blkS e1 tv'
  · have hr2 := ha.row
    rw [show ts.flatMap Tx.cells ++ t.cells = (ts ++ [t]).flatMap Tx.cells by simp, show ts.length + 1 = (ts ++ [t]).length by simp] at hr2
    refine ownsRow_keep hr2 fun q hq => hne q fun e => ?_
    rcases htv' q hq with e1 | e1
    · rw [e, h.ogw] at e1; cases e1.2
    · have := h.gw_lt; omega
  · rcases List.mem_append.1 hq with hq | hq
    · have hx := h1.tr.txt q hq
      have hkp : ∀ k, o k = .tx → w3.heap[k]? = w1.heap[k]? := fun k hk => hold k (by rw [hk]; simp) (by rw [hk]; simp) (by rw [hk]; simp)
      exact ⟨(hx.1.keep hs3 fun k hk _ => hkp k hk).mono fun k hk _ => (holdk k (h.lt k (by rw [hk]; simp))).trans hk, (hx.2.keep hs3 fun k hk _ => hkp k hk).mono fun k hk _ => (holdk k (h.lt k (by rw [hk]; simp))).trans hk⟩
    · obtain rfl : q = t := by simpa using hq
      have hkp : ∀ k, w.heap.size ≤ k → k < w1.heap.size → w3.heap[k]? = w1.heap[k]? := fun k hk hl => (hne k (by have := h.gw_lt; omega)).trans (hgr k hl fun e => by have := (htv k e).1; omega)
      have hcl : ∀ k, w.heap.size ≤ k ∧ k < w1.heap.size → claimed (claimed o w.heap.size (fun k => k < w2.heap.size) .tx) w.heap.size (fun k => tv'.ownBlock = some k) .ro k = .tx := fun k hk => by
        rw [claimed_not (fun e => by rcases htv' k e.2 with e1 | e1 <;> omega)]
        exact claimed_new hk.1 (by omega)
      exact ⟨(b1.lt.keep hs3 fun k hk hl => hkp k hk.1 hk.2).mono fun k hk _ => hcl k hk, (b2.lt.keep hs3 fun k hk hl => hkp k hk.1 hk.2).mono fun k hk _ => hcl k hk⟩
  · rcases htv' k hk with e | e
    · exact (holdk k e.1).trans e.2
    · exact claimed_new (by omega) hk
  · by_cases e : w.heap.size ≤ k ∧ tv'.ownBlock = some k
    · have := hltv' k e.2; omega
    · rw [claimed_not e] at hk
      by_cases e2 : w.heap.size ≤ k ∧ k < w2.heap.size
      · omega
      · rw [claimed_not e2] at hk
        have := h.lt k hk
        omega
  · have hT : Touch (Own o) w w2 := ⟨ha.grown.os.trans hbl.os, ha.grown.tape.trans hbl.tape, ha.grown.output.trans hbl.output, Nat.le_trans hs1 hs2, fun k hk hn => (hgr k (Nat.lt_of_lt_of_le hk hs1) fun e => hn (by unfold Own; rw [(htv k e).2]; simp)).trans (hbl.block k hk)⟩
    rw [← hw3]
    exact hT.setCell (p := ⟨gw, 3, none⟩) (by unfold Own; rw [h.ogw]; simp) tv'

/-- .. as step meets it. -/
theorem Sw.setTrace' {w w1 w2 : World} {o : Nat → Pt} {gw ga gb hb : Nat} {ax : Nat → Value} {tv tv' : Value} {ts : List Tx} {st : St} (h : Sw w o gw ga gb hb ax tv ts st) {q : Obj} (hbl : Below w.heap.size w (w1.alloc q)) (t : Tx)
    (b1 : Owns w.drew.heap.size w1 t.s1 t.e.ac.bs) (b2 : Owns w.drew.heap.size w1 t.s2 t.e.an.bs) (ha : AppEv ts.length tv (ts.flatMap Tx.cells ++ t.cells) (w1.alloc q) tv' w2) (hsm : t.e.Small) :
    ∃ (o' : Nat → Pt) (tv2 : Value) (ts2 : List Tx), Sw (w2.setCell ⟨gw, 3, none⟩ tv') o' gw ga gb hb ax tv2 ts2 { st with tr := st.tr ++ [t.e] } ∧ Touch (Own o) w (w2.setCell ⟨gw, 3, none⟩ tv') ∧ (∀ k, k < w.heap.size → o' k = o k) := by
  obtain ⟨o', h1, h2, h3⟩ := h.setTrace hbl t ((BytesIn.of_own b1).below ((Below.refl _ _).alloc (Nat.le_refl _) q)) ((BytesIn.of_own b2).below ((Below.refl _ _).alloc (Nat.le_refl _) q)) ha hsm
  exact ⟨o', tv', _, h1, h2, h3⟩
end Go.Proofs.YtikcnioooihncaaGreat
namespace Go.Proofs.YtikcnioooihncaaGreat
open Go.RowKit

theorem enter_take (caps : Array Value) (w : World) : (callFunc 116 caps).run Tryz.prog w = .ok (.enter 116 caps) w := by
  simp [go_sem]

theorem Moved.of_drew {F : Nat → Prop} {x : Value} {s : Mc} {w w' : World} (h : Moved F x s w.drew w') : Moved F x s w w' := by
  obtain ⟨F', a, b, c⟩ := h
  exact ⟨F', a, ((Touch.refl _ w).drew).trans b, c⟩

set_option maxRecDepth 100000 in
set_option maxHeartbeats 1000000 in
theorem stepIn_any {w : World} {o : Nat → Pt} {gw ga gb hb : Nat} {ax : Nat → Value} {tv : Value} {ts : List Tx} {st : St} (h : Sw w o gw ga gb hb ax tv ts st) (i : Nat) (hi : i < st.na) (b0 b1 bt : Nat) (x : An) (hx : x.Fine) (A : Option Addr) (l c : Nat)
    (h0 : w.cell? ⟨b0, 0, none⟩ = some (.pointer (some ⟨gw, 0, none⟩))) (h1 : w.cell? ⟨b1, 1, none⟩ = some (.int .i64 (i : Nat))) (ht : w.heap[bt]? = some (.cells #[.int .u64 x.V, .bool x.D, .slice A l c] 25 (0, 0))) (hB : BytesAt w (.slice A l c) x.bs) (hn : (st.ms i).next ≠ none) (p0 : o b0 = .no) (p1 : o b1 = .no) (pt : o bt = .no) :
    Calls Tryz.prog 116 #[.pointer (some ⟨b0, 0, none⟩), .pointer (some ⟨b1, 0, none⟩), .pointer (some ⟨bt, 0, none⟩)] w fun e w' => e = .returned (.tuple #[]) ∧ Moved (fun k => o k = .ma i) (ax i) ((st.ms i).take x) w w' := by
  have hm := h.mach i hi
  have hlt := fun k (hk : o k = .ma i) => h.lt k (by rw [hk]; simp)
  have hax := h.amach hi
  have hw1 := h.w1
  have hfew := h.few
  have t0 : w.cell? ⟨bt, 0, none⟩ = some (.int .u64 x.V) := by simp [World.cell?, ht]
  have t1 : w.cell? ⟨bt, 1, none⟩ = some (.bool x.D) := by simp [World.cell?, ht]
  have t2 : w.cell? ⟨bt, 2, none⟩ = some (.slice A l c) := by simp [World.cell?, ht]
  generalize hs : st.ms i = s at hm hn ⊢
  generalize ax i = y at hm hax ⊢
  have q0 : o b0 ≠ .ma i := by rw [p0]; simp
  have q1 : o b1 ≠ .ma i := by rw [p1]; simp
  have qt : o bt ≠ .ma i := by rw [pt]; simp
  have qw : o gw ≠ .ma i := by rw [h.ogw]; simp
  have qa : o ga ≠ .ma i := by rw [h.oga]; simp
  clear h ht hs
  rcases hm.shape with ⟨_, e⟩ | ⟨T, yy, rfl⟩
  · subst e
    exact absurd rfl hn
  · obtain ⟨fid, hme, hent, hc⟩ := mrep_take (w := w.drew) (hm.keep (Nat.le_refl _) fun _ _ => rfl) hlt x hx A l c hB.drew
    have HC := Lib.hid hc
    clear hm hB hx hn hc
    go_enter Tryz.func116, Tryz.ntmps116
    go_region_held3 (fun w' => w'.cell? ⟨b0, 0, none⟩ = some (.pointer (some ⟨gw, 0, none⟩)) ∧ w'.cell? ⟨gw, 1, none⟩ = some (.slice (some ⟨ga, 0, none⟩) st.na st.na) ∧ w'.cell? ⟨b1, 1, none⟩ = some (.int .i64 (i : Nat)) ∧ w'.cell? ⟨ga, i * 2, none⟩ = some (.iface T yy) ∧ w'.cell? ⟨bt, 0, none⟩ = some (.int .u64 x.V) ∧ w'.cell? ⟨bt, 1, none⟩ = some (.bool x.D) ∧ w'.cell? ⟨bt, 2, none⟩ = some (.slice A l c))
      (go_keep)
      (first | (refine HC.out.mono ?_; rintro e w2 ⟨rfl, hmv⟩; have k0 := (moved_cell hmv (p := ⟨b0, 0, none⟩) (lt_of_cell h0) q0).trans h0; have k1 := (moved_cell hmv (p := ⟨gw, 1, none⟩) (lt_of_cell hw1) qw).trans hw1; have k2 := (moved_cell hmv (p := ⟨b1, 1, none⟩) (lt_of_cell h1) q1).trans h1; have k3 := (moved_cell hmv (p := ⟨ga, i * 2, none⟩) (lt_of_cell hax) qa).trans hax; have k4 := (moved_cell hmv (p := ⟨bt, 0, none⟩) (lt_of_cell t0) qt).trans t0; have k5 := (moved_cell hmv (p := ⟨bt, 1, none⟩) (lt_of_cell t1) qt).trans t1; have k6 := (moved_cell hmv (p := ⟨bt, 2, none⟩) (lt_of_cell t2) qt).trans t2; have HMV := Lib.hid hmv; clear hmv))
    all_goals
      go_wp2
      go_end0
      exact ⟨rfl, HMV.out.of_drew⟩
end Go.Proofs.YtikcnioooihncaaGreat
namespace Go.Proofs.YtikcnioooihncaaGreat
open Go.RowKit

/-- An actor did its access. -/
def St.did (st : St) (p : Pk) (i : Nat) (a : Ac) : St :=
  { st with m := a.aft st.m, c := nxt st.c, tr := st.tr ++ [⟨p, a, a.ans st.m⟩], ms := upd st.ms i ((st.ms i).take (a.ans st.m)) }

/-- A step was done: its event is told. -/
def StepDid (o : Nat → Pt) (gw ga gb hb : Nat) (ax : Nat → Value) (p : Pk) (a : Ac) (x : An) (A : Option Addr) (l cp : Nat) (st' : St) (w : World) (e : Ending) (w' : World) : Prop :=
  ∃ o' A2 l2 c2 tv' ts', e = .returned (.tuple #[.agg #[.int .i64 p.K, .int .i64 p.A, .int .i64 p.N, .int .i64 a.K, .int .i64 a.P, .int .i64 a.N, .int .u64 a.V, .int .u64 a.U, .slice A l cp, .int .u64 x.V, .bool x.D, .slice A2 l2 c2], .int .i64 0]) ∧ BytesIn (fun k => w.heap.size ≤ k ∧ o' k = .no) w' (.slice A2 l2 c2) x.bs ∧
    Sw w' o' gw ga gb hb ax tv' ts' st' ∧ Touch (Own o) w w' ∧ ∀ k, k < w.heap.size → o' k = o k

/-- What Do left: the answer's block, the buffer turned. -/
structure DoneBox (WW wx : World) (gb hb : Nat) (m : Nat → Nat) (n : Nat) (c : Int) (x : An) (g : Nat) (A : Option Addr) (l cp : Nat) : Prop where
  new : WW.heap.size ≤ g
  blk : wx.heap[g]? = some (.cells #[.int .u64 x.V, .bool x.D, .slice A l cp] 25 (0, 0))
  by_ : BytesIn (fun k => WW.heap.size ≤ k) wx (.slice A l cp) x.bs
  st : Stored gb hb m n c WW wx

theorem DoneBox.late {WW w1 : World} {gb hb : Nat} {m : Nat → Nat} {n : Nat} {c : Int} {x : An} {A : Option Addr} {l cp : Nat} (hby : BytesIn (fun k => WW.drew.heap.size ≤ k) w1 (.slice A l cp) x.bs) (hst : Stored gb hb m n c WW.drew w1) :
    DoneBox WW (w1.alloc (.cells #[.int .u64 x.V, .bool x.D, .slice A l cp] 25)) gb hb m n c x w1.heap.size A l cp :=
  ⟨hst.2.size, Go.Deep.blk_alloc_new _ _, hby.below ((Below.refl _ _).alloc (Nat.le_refl _) _), hst.1.alloc _, ((Touch.refl _ WW).drew.trans hst.2).alloc _⟩

theorem DoneBox.early {WW w1 : World} {gb hb b : Nat} {m : Nat → Nat} {n : Nat} {c : Int} {x : An} {A : Option Addr} {l cp : Nat} (hg : gb < WW.heap.size) (hh : hb < WW.heap.size) (hsz : WW.heap.size = b)
    (hby : BytesIn (fun k => (WW.alloc (.cells #[.int .u64 0, .bool false, .slice none 0 0] 25)).drew.heap.size ≤ k) w1 (.slice A l cp) x.bs) (hst : Stored gb hb m n c (WW.alloc (.cells #[.int .u64 0, .bool false, .slice none 0 0] 25)).drew w1) :
    DoneBox WW (((w1.setCell ⟨b, 0, none⟩ (.int .u64 x.V)).setCell ⟨b, 1, none⟩ (.bool x.D)).setCell ⟨b, 2, none⟩ (.slice A l cp)) gb hb m n c x b A l cp := by
  have hbk : w1.heap[b]? = some (.cells #[.int .u64 0, .bool false, .slice none 0 0] 25 (0, 0)) := by
    subst hsz
    exact (hst.2.block WW.heap.size (by simp [World.drew]) (fun e => by rcases e with e | e <;> omega)).trans (Go.Deep.blk_alloc_new _ _)
  have hst2 : Stored gb hb m n c WW w1 := ⟨hst.1, ((Touch.refl _ WW).alloc _).drew.trans hst.2⟩
  refine ⟨by omega, ?_, (hby.mono fun k hk _ => ?_).answer' (AnsAt.of_blk hbk) _ _ _, ((hst2.setNew hg hh (by show _ ≤ b; omega) _).setNew hg hh (by show _ ≤ b; omega) _).setNew hg hh (by show _ ≤ b; omega) _⟩
  · have h1 := blkS (i := 0) hbk (.int .u64 x.V)
    have h2 := blkS (i := 1) h1 (.bool x.D)
    exact blkS (i := 2) h2 (.slice A l cp)
  · have : WW.heap.size + 1 ≤ k := by simpa [World.drew] using hk
    omega

theorem field_ans (u0 u1 u2 u3 u4 u5 u6 u7 u8 u9 u10 u11 : Value) (w : World) : (Instr.field 154 (.agg #[u0, u1, u2, u3, u4, u5, u6, u7, u8, u9, u10, u11]) 2).run Tryz.prog w = .ok (.agg #[u9, u10, u11]) w := by kernel_rfl

set_option maxRecDepth 100000 in
set_option maxHeartbeats 4000000 in
theorem step_ok {w : World} {o : Nat → Pt} {gw ga gb hb : Nat} {ax : Nat → Value} {tv : Value} {ts : List Tx} {st : St} (h : Sw w o gw ga gb hb ax tv ts st) (p : Pk) (i : Nat) (hp : p.A = (i : Nat)) (hi : i < st.na) (a : Ac) (hf : a.Fine) (hn : (st.ms i).next = some a)
    {base : Nat} {A : Option Addr} {l cp : Nat} (ho : Owns base w (.slice A l cp) a.bs) (hbase : ∀ k, o k ≠ .no → k < base) (h0 : a.err st.nw = 0) (hlong : ts.length ≤ 1000000) :
    Calls Tryz.prog 87 #[.pointer (some ⟨gw, 0, none⟩), .agg #[.int .i64 p.K, .int .i64 p.A, .int .i64 p.N], .agg #[.int .i64 a.K, .int .i64 a.P, .int .i64 a.N, .int .u64 a.V, .int .u64 a.U, .slice A l cp]] w (StepDid o gw ga gb hb ax p a (a.ans st.m) A l cp (st.did p i a) w) := by
  have HS := Lib.hid h
  have HO := Lib.hid ho
  have HE := Lib.hid h0
  have HP := Lib.hid hp
  have hfew := h.few
  have HF := Lib.hid hf
  have HN := Lib.hid hn
  have HL := Lib.hid hlong
  have HBS := Lib.hid hbase
  have HXF := Lib.hid (a.ans_fine h.buf.bytes h0)
  have hgb0 := h.buf.g_lt
  have hhb0 := h.buf.h_lt
  have hwb : ¬ Two gb hb gw := fun e => by
    rcases e with e | e
    · have := h.ogw; rw [e, h.ogb] at this; cases this
    · have := h.ogw; rw [e, h.ohb] at this; cases this
  clear h ho h0 hp hf hn hlong hbase
  obtain ⟨WW, hWW⟩ : ∃ WW, WW = (((w.alloc (.cells #[.pointer (some ⟨gw, 0, none⟩)] 64)).alloc (.cells #[.int .i64 p.K, .int .i64 p.A, .int .i64 p.N] 152)).alloc (.cells #[.int .i64 a.K, .int .i64 a.P, .int .i64 a.N, .int .u64 a.V, .int .u64 a.U, .slice A l cp] 30)).alloc (.cells #[.int .i64 0, .int .i64 0, .int .i64 0, .int .i64 0, .int .i64 0, .int .i64 0, .int .u64 0, .int .u64 0, .slice none 0 0, .int .u64 0, .bool false, .slice none 0 0] 154) := ⟨_, rfl⟩
  have HB := Lib.hid (step_boxes w gw p a (.slice A l cp) WW hWW)
  go_enter Tryz.func87, Tryz.ntmps87
  go_upto_region 1 with fail
  rw [← hWW]
  clear hWW
  obtain ⟨hb0, hx0, hsz0⟩ := HB.out
  have hsw := HS.out.below hb0
  have hc0 : WW.cell? ⟨w.heap.size, 0, none⟩ = some (.pointer (some ⟨gw, 0, none⟩)) := by simp [World.cell?, hx0.wd]
  have hcw := hsw.w0
  have a0 : WW.cell? ⟨w.heap.size + 1 + 1, 0, none⟩ = some (.int .i64 a.K) := by simp [World.cell?, hx0.ac]
  have a1 : WW.cell? ⟨w.heap.size + 1 + 1, 1, none⟩ = some (.int .i64 a.P) := by simp [World.cell?, hx0.ac]
  have a2 : WW.cell? ⟨w.heap.size + 1 + 1, 2, none⟩ = some (.int .i64 a.N) := by simp [World.cell?, hx0.ac]
  have a3 : WW.cell? ⟨w.heap.size + 1 + 1, 3, none⟩ = some (.int .u64 a.V) := by simp [World.cell?, hx0.ac]
  have a4 : WW.cell? ⟨w.heap.size + 1 + 1, 4, none⟩ = some (.int .u64 a.U) := by simp [World.cell?, hx0.ac]
  have a5 : WW.cell? ⟨w.heap.size + 1 + 1, 5, none⟩ = some (.slice A l cp) := by simp [World.cell?, hx0.ac]
  have HSW := Lib.hid hsw
  have HX := Lib.hid hx0
  have HOW := Lib.hid (HO.out.below hb0)
  have hgw := hsw.gw_lt
  have hgw0 := HS.out.gw_lt
  have g4 : ¬ w.heap.size + 1 + 1 + 1 + 1 = gw := by omega
  have g5 : ¬ w.heap.size + 1 + 1 + 1 + 1 = w.heap.size := by omega
  have g6 : ¬ w.heap.size + 1 + 1 = w.heap.size := by omega
  have g4' : ¬ gw = w.heap.size + 1 + 1 + 1 + 1 := by omega
  clear hx0 hsw
  go_cut [8, 9] (fun s8 s9 wx => ∃ (g : Nat) (A2 : Option Addr) (l2 c2 : Nat), s8 = .pointer (some ⟨g, 0, none⟩) ∧ s9 = .int .i64 0 ∧ DoneBox WW wx gb hb (a.aft st.m) st.nw (nxt st.c) (a.ans st.m) g A2 l2 c2)
  case first =>
   go_region_held3 (fun w' => w'.cell? ⟨w.heap.size, 0, none⟩ = some (.pointer (some ⟨gw, 0, none⟩)) ∧ w'.cell? ⟨gw, 0, none⟩ = some (.pointer (some ⟨gb, 0, none⟩)) ∧ w'.cell? ⟨w.heap.size + 1 + 1, 0, none⟩ = some (.int .i64 a.K) ∧ w'.cell? ⟨w.heap.size + 1 + 1, 1, none⟩ = some (.int .i64 a.P) ∧ w'.cell? ⟨w.heap.size + 1 + 1, 2, none⟩ = some (.int .i64 a.N) ∧ w'.cell? ⟨w.heap.size + 1 + 1, 3, none⟩ = some (.int .u64 a.V) ∧ w'.cell? ⟨w.heap.size + 1 + 1, 4, none⟩ = some (.int .u64 a.U) ∧ w'.cell? ⟨w.heap.size + 1 + 1, 5, none⟩ = some (.slice A l cp))
    (go_keep)
    (first
      | (go_at_call 15; refine (do_ac (HSW.out.buf.alloc _).drew a HF.out (HOW.out.alloc _).drew HE.out).mono ?_; rintro e w1 ⟨s, rfl, hby, hst⟩; obtain ⟨A2, c2, rfl⟩ := hby.length; have hbk : w1.heap[WW.heap.size]? = _ := (hst.2.block WW.heap.size (by simp [World.drew]) (fun e => by rcases e with e | e <;> omega)).trans (Go.Deep.blk_alloc_new WW (.cells #[.int .u64 0, .bool false, .slice none 0 0] 25)); rw [hsz0] at hbk; obtain ⟨n0, n1, n2, nf0, nf1, nf2, _⟩ := AnsAt.of_blk hbk; clear hbk; have kf := fun (q : Addr) (hq : q.block < WW.heap.size) (hnn : ¬ Two gb hb q.block) => (((Touch.refl (Two gb hb) WW).alloc _).drew.trans hst.2).cell (p := q) hq hnn; have k1 := (kf ⟨gw, 0, none⟩ hgw hwb).trans hcw; have k0 := (kf ⟨w.heap.size, 0, none⟩ (by show w.heap.size < _; omega) (fun e => by rcases e with e | e <;> (have e2 : w.heap.size = _ := e; omega))).trans hc0; have k2 := (kf ⟨w.heap.size + 1 + 1, 0, none⟩ (by show w.heap.size + 1 + 1 < _; omega) (fun e => by rcases e with e | e <;> (have e2 : w.heap.size + 1 + 1 = _ := e; omega))).trans a0; have k3 := (kf ⟨w.heap.size + 1 + 1, 1, none⟩ (by show w.heap.size + 1 + 1 < _; omega) (fun e => by rcases e with e | e <;> (have e2 : w.heap.size + 1 + 1 = _ := e; omega))).trans a1; have k4 := (kf ⟨w.heap.size + 1 + 1, 2, none⟩ (by show w.heap.size + 1 + 1 < _; omega) (fun e => by rcases e with e | e <;> (have e2 : w.heap.size + 1 + 1 = _ := e; omega))).trans a2; have k5 := (kf ⟨w.heap.size + 1 + 1, 3, none⟩ (by show w.heap.size + 1 + 1 < _; omega) (fun e => by rcases e with e | e <;> (have e2 : w.heap.size + 1 + 1 = _ := e; omega))).trans a3; have k6 := (kf ⟨w.heap.size + 1 + 1, 4, none⟩ (by show w.heap.size + 1 + 1 < _; omega) (fun e => by rcases e with e | e <;> (have e2 : w.heap.size + 1 + 1 = _ := e; omega))).trans a4; have k7 := (kf ⟨w.heap.size + 1 + 1, 5, none⟩ (by show w.heap.size + 1 + 1 < _; omega) (fun e => by rcases e with e | e <;> (have e2 : w.heap.size + 1 + 1 = _ := e; omega))).trans a5; clear kf; have HST := Lib.hid (And.intro hby hst); clear hby hst)
      | (go_at_call 15; refine (do_ac HSW.out.buf.drew a HF.out HOW.out.drew HE.out).mono ?_; rintro e w1 ⟨s, rfl, hby, hst⟩; obtain ⟨A2, c2, rfl⟩ := hby.length; have kf := fun (q : Addr) (hq : q.block < WW.heap.size) (hnn : ¬ Two gb hb q.block) => ((Touch.refl (Two gb hb) WW).drew.trans hst.2).cell (p := q) hq hnn; have k1 := (kf ⟨gw, 0, none⟩ hgw hwb).trans hcw; have k0 := (kf ⟨w.heap.size, 0, none⟩ (by show w.heap.size < _; omega) (fun e => by rcases e with e | e <;> (have e2 : w.heap.size = _ := e; omega))).trans hc0; have k2 := (kf ⟨w.heap.size + 1 + 1, 0, none⟩ (by show w.heap.size + 1 + 1 < _; omega) (fun e => by rcases e with e | e <;> (have e2 : w.heap.size + 1 + 1 = _ := e; omega))).trans a0; have k3 := (kf ⟨w.heap.size + 1 + 1, 1, none⟩ (by show w.heap.size + 1 + 1 < _; omega) (fun e => by rcases e with e | e <;> (have e2 : w.heap.size + 1 + 1 = _ := e; omega))).trans a1; have k4 := (kf ⟨w.heap.size + 1 + 1, 2, none⟩ (by show w.heap.size + 1 + 1 < _; omega) (fun e => by rcases e with e | e <;> (have e2 : w.heap.size + 1 + 1 = _ := e; omega))).trans a2; have k5 := (kf ⟨w.heap.size + 1 + 1, 3, none⟩ (by show w.heap.size + 1 + 1 < _; omega) (fun e => by rcases e with e | e <;> (have e2 : w.heap.size + 1 + 1 = _ := e; omega))).trans a3; have k6 := (kf ⟨w.heap.size + 1 + 1, 4, none⟩ (by show w.heap.size + 1 + 1 < _; omega) (fun e => by rcases e with e | e <;> (have e2 : w.heap.size + 1 + 1 = _ := e; omega))).trans a4; have k7 := (kf ⟨w.heap.size + 1 + 1, 5, none⟩ (by show w.heap.size + 1 + 1 < _; omega) (fun e => by rcases e with e | e <;> (have e2 : w.heap.size + 1 + 1 = _ := e; omega))).trans a5; clear kf; have HST := Lib.hid (And.intro hby hst); clear hby hst))
   all_goals (go_wp2_with fail; go_meet)
   · exact ⟨_, _, _, _, rfl, rfl, DoneBox.late HST.out.1 HST.out.2⟩
   · exact ⟨_, _, _, _, rfl, rfl, DoneBox.early (by omega) (by omega) hsz0 HST.out.1 HST.out.2⟩
  case rest =>
    obtain ⟨g8, A2, l2, c2, rfl, rfl, hdb⟩ := hcut
    obtain ⟨wq, hwq⟩ : ∃ wq : World, wq = wc := ⟨_, rfl⟩
    subst hwq
    have hbx := HX.out.keep (W' := wq) fun k hk hl => hdb.st.2.block k hl fun e => by rcases e with e | e <;> omega
    have hsw := HSW.out.setBuf hdb.st
    have d0 : wq.cell? ⟨w.heap.size, 0, none⟩ = some (.pointer (some ⟨gw, 0, none⟩)) := by simp [World.cell?, hbx.wd]
    have p0 : wq.cell? ⟨w.heap.size + 1, 0, none⟩ = some (.int .i64 p.K) := by simp [World.cell?, hbx.pk]
    have p1 : wq.cell? ⟨w.heap.size + 1, 1, none⟩ = some (.int .i64 p.A) := by simp [World.cell?, hbx.pk]
    have p2 : wq.cell? ⟨w.heap.size + 1, 2, none⟩ = some (.int .i64 p.N) := by simp [World.cell?, hbx.pk]
    have b0 : wq.cell? ⟨w.heap.size + 1 + 1, 0, none⟩ = some (.int .i64 a.K) := by simp [World.cell?, hbx.ac]
    have b1 : wq.cell? ⟨w.heap.size + 1 + 1, 1, none⟩ = some (.int .i64 a.P) := by simp [World.cell?, hbx.ac]
    have b2 : wq.cell? ⟨w.heap.size + 1 + 1, 2, none⟩ = some (.int .i64 a.N) := by simp [World.cell?, hbx.ac]
    have b3 : wq.cell? ⟨w.heap.size + 1 + 1, 3, none⟩ = some (.int .u64 a.V) := by simp [World.cell?, hbx.ac]
    have b4 : wq.cell? ⟨w.heap.size + 1 + 1, 4, none⟩ = some (.int .u64 a.U) := by simp [World.cell?, hbx.ac]
    have b5 : wq.cell? ⟨w.heap.size + 1 + 1, 5, none⟩ = some (.slice A l cp) := by simp [World.cell?, hbx.ac]
    generalize hxq : a.ans st.m = x at *
    have HXQ := Lib.hid hxq
    clear hxq
    have x0 : wq.cell? ⟨g8, 0, none⟩ = some (.int .u64 x.V) := by simp [World.cell?, hdb.blk]
    have x1 : wq.cell? ⟨g8, 1, none⟩ = some (.bool x.D) := by simp [World.cell?, hdb.blk]
    have x2 : wq.cell? ⟨g8, 2, none⟩ = some (.slice A2 l2 c2) := by simp [World.cell?, hdb.blk]
    have HD := Lib.hid hdb
    have HBX := Lib.hid hbx
    have HS1 := Lib.hid hsw
    clear hdb hbx hsw hc0 hcw a0 a1 a2 a3 a4 a5 g4 g5 g6 g4'
    go_upto_region 6 with fail
    generalize hW5 : wq.alloc (.cells #[.int .i64 p.K, .int .i64 p.A, .int .i64 p.N, .int .i64 a.K, .int .i64 a.P, .int .i64 a.N, .int .u64 a.V, .int .u64 a.U, .slice A l cp, .int .u64 x.V, .bool x.D, .slice A2 l2 c2] 154) = W5
    have hb5 : Below wq.heap.size wq W5 := by rw [← hW5]; exact (Below.refl _ wq).alloc (Nat.le_refl _) _
    have HE5 : Hid (EvAt wq.heap.size W5 p a x (.slice A l cp) (.slice A2 l2 c2)) := Lib.hid ⟨by rw [← hW5]; exact Go.Deep.blk_alloc_new _ _⟩
    have HS5 := Lib.hid (HS1.out.below hb5)
    have HT5 := Lib.hid ((Touch.of_below hb0).trans (((HD.out.st.2.mono fun k hk => (show Own o k by unfold Own; rcases hk with rfl | rfl; rw [HS.out.ogb]; simp; rw [HS.out.ohb]; simp))).trans (Touch.of_below hb5)))
    have HBX5 := Lib.hid (HBX.out.keep (W' := W5) fun k _ hk => hb5.block k hk)
    have HO5 := Lib.hid (((HOW.out.keepTouch HD.out.st.2 fun k hk e => by have := (HOW.out.ge hk).1; rcases e with rfl | rfl; (have := HBS.out k (by rw [HS.out.ogb]; simp); omega); (have := HBS.out k (by rw [HS.out.ohb]; simp); omega)).below hb5))
    have HY5 := Lib.hid (HD.out.by_.below hb5)
    have hwc := HD.out.st.2.size
    have hls5 := HE5.out.lt
    have hgw5 := HS5.out.gw_lt
    have d5 : W5.cell? ⟨w.heap.size, 0, none⟩ = some (.pointer (some ⟨gw, 0, none⟩)) := by simp [World.cell?, HBX5.out.wd]
    have hls0 := lt_of_cell d5
    have w35 := HS5.out.w3
    clear hW5 x0 x1 x2 p0 p1 p2 b0 b1 b2 b3 b4 b5 d0
    go_cut [] (fun wx => ∃ (o2 : Nat → Pt) (tv2 : Value) (ts2 : List Tx), Sw wx o2 gw ga gb hb ax tv2 ts2 { st with m := a.aft st.m, c := nxt st.c, tr := st.tr ++ [⟨p, a, x⟩] } ∧ Touch (Own o) W5 wx ∧ ∀ k, k < W5.heap.size → o2 k = o k)
    case first =>
      have v0 := HE5.out.e0
      have v1 := HE5.out.e1
      have v2 := HE5.out.e2
      have v3 := HE5.out.e3
      have v4 := HE5.out.e4
      have v5 := HE5.out.e5
      have v6 := HE5.out.e6
      have v7 := HE5.out.e7
      have v8 := HE5.out.e8
      have v9 := HE5.out.e9
      have v10 := HE5.out.e10
      have v11 := HE5.out.e11
      have nn0 := HS5.out.row_ne (k := w.heap.size) (by rw [HS.out.new_no (Nat.le_refl _)]; simp)
      have nng := HS5.out.row_ne (k := gw) (by rw [HS.out.ogw]; simp)
      have nn5 := HS5.out.row_ne (k := wq.heap.size) (by rw [HS.out.new_no (k := wq.heap.size) (by omega)]; simp)
      have hz3 := HS5.out.wfree 3
      have hn1 : ¬ wq.heap.size = w.heap.size := by omega
      have hn2 : ¬ gw = wq.heap.size := by omega
      have hn3 : ¬ gw = w.heap.size := by omega
      refine wp_region_noPanic ?_
      refine wp_region_held_drew (S := (fun w' => w'.cell? ⟨w.heap.size, 0, none⟩ = some (.pointer (some ⟨gw, 0, none⟩)) ∧ w'.cell? ⟨wq.heap.size, 0, none⟩ = some (.int .i64 p.K) ∧ w'.cell? ⟨wq.heap.size, 1, none⟩ = some (.int .i64 p.A) ∧ w'.cell? ⟨wq.heap.size, 2, none⟩ = some (.int .i64 p.N) ∧ w'.cell? ⟨wq.heap.size, 3, none⟩ = some (.int .i64 a.K) ∧ w'.cell? ⟨wq.heap.size, 4, none⟩ = some (.int .i64 a.P) ∧ w'.cell? ⟨wq.heap.size, 5, none⟩ = some (.int .i64 a.N) ∧ w'.cell? ⟨wq.heap.size, 6, none⟩ = some (.int .u64 a.V) ∧ w'.cell? ⟨wq.heap.size, 7, none⟩ = some (.int .u64 a.U) ∧ w'.cell? ⟨wq.heap.size, 8, none⟩ = some (.slice A l cp) ∧ w'.cell? ⟨wq.heap.size, 9, none⟩ = some (.int .u64 x.V) ∧ w'.cell? ⟨wq.heap.size, 10, none⟩ = some (.bool x.D) ∧ w'.cell? ⟨wq.heap.size, 11, none⟩ = some (.slice A2 l2 c2))) (by kernel_rfl) ?_ (fun hHeld => ?_)
      · (try dsimp only); go_keep
      refine wpAnyH_take (i := 0) (oi := _) (v := ?_) rfl (by kernel_rfl) (by kernel_rfl) (by kernel_rfl) (fun _ _ _ h => h) (Or.inl ⟨by rfl, ?_⟩) (by assumption) ?_
      rotate_left
      · (intro w hSw; (try dsimp only at hSw); go_simp; try (with_reducible rfl))
      try simp only [Act.put, Array.reduceGetElem, List.setIfInBounds_toArray, List.set_cons_zero, List.set_cons_succ]
      refine wpAnyH_take (i := 1) (oi := _) (v := ?_) rfl (by kernel_rfl) (by kernel_rfl) (by kernel_rfl) (fun _ _ _ h => h) (Or.inl ⟨by rfl, ?_⟩) (by assumption) ?_
      rotate_left
      · (intro w hSw; (try dsimp only at hSw); go_simp; try (with_reducible rfl))
      try simp only [Act.put, Array.reduceGetElem, List.setIfInBounds_toArray, List.set_cons_zero, List.set_cons_succ]
      refine wpAnyH_take (i := 2) (oi := _) (v := ?_) rfl (by kernel_rfl) (by kernel_rfl) (by kernel_rfl) (fun _ _ _ h => h) (Or.inl ⟨by rfl, ?_⟩) (by assumption) ?_
      rotate_left
      · (intro w hSw; (try dsimp only at hSw); go_simp; try (with_reducible rfl))
      try simp only [Act.put, Array.reduceGetElem, List.setIfInBounds_toArray, List.set_cons_zero, List.set_cons_succ]
      refine wpAnyH_take (i := 3) (oi := _) (v := ?_) rfl (by kernel_rfl) (by kernel_rfl) (by kernel_rfl) (fun _ _ _ h => h) (Or.inl ⟨by rfl, ?_⟩) (by assumption) ?_
      rotate_left
      · (intro w hSw; (try dsimp only at hSw); go_simp; try (with_reducible rfl))
      try simp only [Act.put, Array.reduceGetElem, List.setIfInBounds_toArray, List.set_cons_zero, List.set_cons_succ]
      refine wpAnyH_take (i := 5) (oi := _) (v := ?_) rfl (by kernel_rfl) (by kernel_rfl) (by kernel_rfl) (fun _ _ _ h => h) (Or.inl ⟨by rfl, ?_⟩) (by assumption) ?_
      rotate_left
      · (intro w hSw; (try dsimp only at hSw); go_simp; try (with_reducible rfl))
      try simp only [Act.put, Array.reduceGetElem, List.setIfInBounds_toArray, List.set_cons_zero, List.set_cons_succ]
      refine wpAnyH_ready (rs := [4, 6]) (by kernel_rfl) (by simp) ?_
      refine AllReadyH.cons (o := _) rfl (fun K9 hK => ?_) ?_
      rotate_left
      · refine AllReadyH.cons (o := _) rfl (fun K9 hK => ?_) ?_
        rotate_left
        · exact AllReadyH.nil
        go_simp
        go_at_call 115
        refine (copied_any p a x A A2 l l2 cp c2 _ HO5.out.bytes.drew HY5.out.bytes.drew HF.out.few (by have := HXF.out.few; omega)).mono ?_
        rintro e w6 ⟨B1, m1, q1, B2, m2, q2, rfl, ho1, ho2, hbl⟩
        have hbl5 := below_drew hbl
        have kf := fun (q : Addr) (hq : q.block < W5.heap.size) (_ : True) => hbl5.cell (p := q) hq
        have kb := (kf ⟨w.heap.size, 0, none⟩ hls0 trivial).trans d5
        have kg := (kf ⟨gw, 3, none⟩ hgw5 trivial).trans w35
        have kv0 := (kf ⟨wq.heap.size, 0, none⟩ hls5 trivial).trans v0
        have kv1 := (kf ⟨wq.heap.size, 1, none⟩ hls5 trivial).trans v1
        have kv2 := (kf ⟨wq.heap.size, 2, none⟩ hls5 trivial).trans v2
        have kv3 := (kf ⟨wq.heap.size, 3, none⟩ hls5 trivial).trans v3
        have kv4 := (kf ⟨wq.heap.size, 4, none⟩ hls5 trivial).trans v4
        have kv5 := (kf ⟨wq.heap.size, 5, none⟩ hls5 trivial).trans v5
        have kv6 := (kf ⟨wq.heap.size, 6, none⟩ hls5 trivial).trans v6
        have kv7 := (kf ⟨wq.heap.size, 7, none⟩ hls5 trivial).trans v7
        have kv8 := (kf ⟨wq.heap.size, 8, none⟩ hls5 trivial).trans v8
        have kv9 := (kf ⟨wq.heap.size, 9, none⟩ hls5 trivial).trans v9
        have kv10 := (kf ⟨wq.heap.size, 10, none⟩ hls5 trivial).trans v10
        have kv11 := (kf ⟨wq.heap.size, 11, none⟩ hls5 trivial).trans v11
        clear kf
        have HCO := Lib.hid (And.intro ho1 ho2)
        clear ho1 ho2 hbl
        have kga : ∀ q, (w6.alloc q).cell? ⟨gw, 3, none⟩ = some tv := fun q => ((hbl5.alloc hbl5.size q).cell (p := ⟨gw, 3, none⟩) hgw5).trans w35
        refine hK.out _ _ ?_ (fun hHeld => ?_)
        · (try dsimp only); go_keep
        clear hK K9
        try simp only [Act.put, Array.reduceGetElem, List.setIfInBounds_toArray, List.set_cons_zero, List.set_cons_succ]
        refine wpAnyH_ready (rs := [4, 7]) (by kernel_rfl) (by simp) ?_
        refine AllReadyH.cons (o := _) rfl (fun K9 hK => ?_) ?_
        rotate_left
        · refine AllReadyH.cons (o := _) rfl (fun K9 hK => ?_) ?_
          rotate_left
          · exact AllReadyH.nil
          go_simp
          refine hK.out _ _ ?_ (fun hHeld => ?_)
          · (try dsimp only); go_keep
          clear hK K9
          try simp only [Act.put, Array.reduceGetElem, List.setIfInBounds_toArray, List.set_cons_zero, List.set_cons_succ]
          refine wpAnyH_ready (rs := [4]) (by kernel_rfl) (by simp) ?_
          refine AllReadyH.cons (o := _) rfl (fun K9 hK => ?_) ?_
          rotate_left
          · exact AllReadyH.nil
          go_simp
          refine hK.out _ _ ?_ (fun hHeld => ?_)
          · (try dsimp only); go_keep
          clear hK K9
          try simp only [Act.put, Array.reduceGetElem, List.setIfInBounds_toArray, List.set_cons_zero, List.set_cons_succ]
          refine wpAnyH_ready (rs := [8]) (by kernel_rfl) (by simp) ?_
          refine AllReadyH.cons (o := _) rfl (fun K9 hK => ?_) ?_
          rotate_left
          · exact AllReadyH.nil
          refine step_app_ev rfl _ _ rfl tv ts.length _ ⟨⟨p, a, x⟩, .slice B1 m1 q1, .slice B2 m2 q2⟩ _ _ rfl rfl ((HS5.out.below hbl5).alloc _).tr.row (Go.Deep.blk_alloc_new _ _) rfl rfl HL.out ?_
          intro v7 w7 happ
          obtain ⟨g7, q7, rfl⟩ := happ.form
          have kf7 := fun (q : Addr) (hq : q.block < W5.heap.size) (hnq : tv.ownBlock ≠ some q.block) => app_cell (hbl5.alloc hbl5.size _) happ hq hnq
          have kb7 := (kf7 ⟨w.heap.size, 0, none⟩ hls0 nn0).trans d5
          have kg7 := (kf7 ⟨gw, 3, none⟩ hgw5 nng).trans w35
          have kw0 := (kf7 ⟨wq.heap.size, 0, none⟩ hls5 nn5).trans v0
          have kw1 := (kf7 ⟨wq.heap.size, 1, none⟩ hls5 nn5).trans v1
          have kw2 := (kf7 ⟨wq.heap.size, 2, none⟩ hls5 nn5).trans v2
          have kw3 := (kf7 ⟨wq.heap.size, 3, none⟩ hls5 nn5).trans v3
          have kw4 := (kf7 ⟨wq.heap.size, 4, none⟩ hls5 nn5).trans v4
          have kw5 := (kf7 ⟨wq.heap.size, 5, none⟩ hls5 nn5).trans v5
          have kw6 := (kf7 ⟨wq.heap.size, 6, none⟩ hls5 nn5).trans v6
          have kw7 := (kf7 ⟨wq.heap.size, 7, none⟩ hls5 nn5).trans v7
          have kw8 := (kf7 ⟨wq.heap.size, 8, none⟩ hls5 nn5).trans v8
          have kw9 := (kf7 ⟨wq.heap.size, 9, none⟩ hls5 nn5).trans v9
          have kw10 := (kf7 ⟨wq.heap.size, 10, none⟩ hls5 nn5).trans v10
          have kw11 := (kf7 ⟨wq.heap.size, 11, none⟩ hls5 nn5).trans v11
          have kz7 := (app_frozen (hbl5.alloc hbl5.size _) happ (q := ⟨gw, 3, none⟩) hgw5 nng).trans hz3
          clear kf7
          have HAP := Lib.hid happ
          clear happ
          try go_simp
          refine hK.out _ _ ?_ (fun hHeld => ?_)
          · (try dsimp only); go_keep
          clear hK K9
          try simp only [Act.put, Array.reduceGetElem, List.setIfInBounds_toArray, List.set_cons_zero, List.set_cons_succ]
          refine wpAnyH_take (i := 9) (oi := _) (v := ?_) rfl (by kernel_rfl) (by kernel_rfl) (by kernel_rfl) (fun _ _ _ h => h) (Or.inl ⟨by rfl, ?_⟩) (by assumption) ?_
          rotate_left
          · (intro w hSw; (try dsimp only at hSw); go_simp; try (with_reducible rfl))
          try simp only [Act.put, Array.reduceGetElem, List.setIfInBounds_toArray, List.set_cons_zero, List.set_cons_succ]
          refine wpAnyH_take (i := 10) (oi := _) (v := ?_) rfl (by kernel_rfl) (by kernel_rfl) (by kernel_rfl) (fun _ _ _ h => h) (Or.inl ⟨by rfl, ?_⟩) (by assumption) ?_
          rotate_left
          · (intro w hSw; (try dsimp only at hSw); go_simp; try (with_reducible rfl))
          try simp only [Act.put, Array.reduceGetElem, List.setIfInBounds_toArray, List.set_cons_zero, List.set_cons_succ]
          refine wpAnyH_ready (rs := [11]) (by kernel_rfl) (by simp) ?_
          refine AllReadyH.cons (o := _) rfl (fun K9 hK => ?_) ?_
          rotate_left
          · exact AllReadyH.nil
          go_simp
          refine hK.out _ _ ?_ (fun hHeld => ?_)
          · (try dsimp only); go_keep
          clear hK K9
          try simp only [Act.put, Array.reduceGetElem, List.setIfInBounds_toArray, List.set_cons_zero, List.set_cons_succ]
          refine wpAnyH_done (by kernel_rfl) ?_ _
          refine NoPanic.normal ?_
          go_wp2_with fail
          go_meet
          exact HS5.out.setTrace' (hbl5.alloc hbl5.size _) ⟨⟨p, a, x⟩, .slice B1 m1 q1, .slice B2 m2 q2⟩ HCO.out.1 HCO.out.2 HAP.out ⟨HF.out.few, by have := HXF.out.few; show x.bs.length ≤ _; omega⟩
        go_simp
        refine hK.out _ _ ?_ (fun hHeld => ?_)
        · (try dsimp only); go_keep
        clear hK K9
        try simp only [Act.put, Array.reduceGetElem, List.setIfInBounds_toArray, List.set_cons_zero, List.set_cons_succ]
        refine wpAnyH_ready (rs := [7]) (by kernel_rfl) (by simp) ?_
        refine AllReadyH.cons (o := _) rfl (fun K9 hK => ?_) ?_
        rotate_left
        · exact AllReadyH.nil
        go_simp
        refine hK.out _ _ ?_ (fun hHeld => ?_)
        · (try dsimp only); go_keep
        clear hK K9
        try simp only [Act.put, Array.reduceGetElem, List.setIfInBounds_toArray, List.set_cons_zero, List.set_cons_succ]
        refine wpAnyH_ready (rs := [8]) (by kernel_rfl) (by simp) ?_
        refine AllReadyH.cons (o := _) rfl (fun K9 hK => ?_) ?_
        rotate_left
        · exact AllReadyH.nil
        refine step_app_ev rfl _ _ rfl tv ts.length _ ⟨⟨p, a, x⟩, .slice B1 m1 q1, .slice B2 m2 q2⟩ _ _ rfl rfl ((HS5.out.below hbl5).alloc _).tr.row (Go.Deep.blk_alloc_new _ _) rfl rfl HL.out ?_
        intro v7 w7 happ
        obtain ⟨g7, q7, rfl⟩ := happ.form
        have kf7 := fun (q : Addr) (hq : q.block < W5.heap.size) (hnq : tv.ownBlock ≠ some q.block) => app_cell (hbl5.alloc hbl5.size _) happ hq hnq
        have kb7 := (kf7 ⟨w.heap.size, 0, none⟩ hls0 nn0).trans d5
        have kg7 := (kf7 ⟨gw, 3, none⟩ hgw5 nng).trans w35
        have kw0 := (kf7 ⟨wq.heap.size, 0, none⟩ hls5 nn5).trans v0
        have kw1 := (kf7 ⟨wq.heap.size, 1, none⟩ hls5 nn5).trans v1
        have kw2 := (kf7 ⟨wq.heap.size, 2, none⟩ hls5 nn5).trans v2
        have kw3 := (kf7 ⟨wq.heap.size, 3, none⟩ hls5 nn5).trans v3
        have kw4 := (kf7 ⟨wq.heap.size, 4, none⟩ hls5 nn5).trans v4
        have kw5 := (kf7 ⟨wq.heap.size, 5, none⟩ hls5 nn5).trans v5
        have kw6 := (kf7 ⟨wq.heap.size, 6, none⟩ hls5 nn5).trans v6
        have kw7 := (kf7 ⟨wq.heap.size, 7, none⟩ hls5 nn5).trans v7
        have kw8 := (kf7 ⟨wq.heap.size, 8, none⟩ hls5 nn5).trans v8
        have kw9 := (kf7 ⟨wq.heap.size, 9, none⟩ hls5 nn5).trans v9
        have kw10 := (kf7 ⟨wq.heap.size, 10, none⟩ hls5 nn5).trans v10
        have kw11 := (kf7 ⟨wq.heap.size, 11, none⟩ hls5 nn5).trans v11
        have kz7 := (app_frozen (hbl5.alloc hbl5.size _) happ (q := ⟨gw, 3, none⟩) hgw5 nng).trans hz3
        clear kf7
        have HAP := Lib.hid happ
        clear happ
        try go_simp
        refine hK.out _ _ ?_ (fun hHeld => ?_)
        · (try dsimp only); go_keep
        clear hK K9
        try simp only [Act.put, Array.reduceGetElem, List.setIfInBounds_toArray, List.set_cons_zero, List.set_cons_succ]
        refine wpAnyH_take (i := 9) (oi := _) (v := ?_) rfl (by kernel_rfl) (by kernel_rfl) (by kernel_rfl) (fun _ _ _ h => h) (Or.inl ⟨by rfl, ?_⟩) (by assumption) ?_
        rotate_left
        · (intro w hSw; (try dsimp only at hSw); go_simp; try (with_reducible rfl))
        try simp only [Act.put, Array.reduceGetElem, List.setIfInBounds_toArray, List.set_cons_zero, List.set_cons_succ]
        refine wpAnyH_take (i := 10) (oi := _) (v := ?_) rfl (by kernel_rfl) (by kernel_rfl) (by kernel_rfl) (fun _ _ _ h => h) (Or.inl ⟨by rfl, ?_⟩) (by assumption) ?_
        rotate_left
        · (intro w hSw; (try dsimp only at hSw); go_simp; try (with_reducible rfl))
        try simp only [Act.put, Array.reduceGetElem, List.setIfInBounds_toArray, List.set_cons_zero, List.set_cons_succ]
        refine wpAnyH_ready (rs := [11]) (by kernel_rfl) (by simp) ?_
        refine AllReadyH.cons (o := _) rfl (fun K9 hK => ?_) ?_
        rotate_left
        · exact AllReadyH.nil
        go_simp
        refine hK.out _ _ ?_ (fun hHeld => ?_)
        · (try dsimp only); go_keep
        clear hK K9
        try simp only [Act.put, Array.reduceGetElem, List.setIfInBounds_toArray, List.set_cons_zero, List.set_cons_succ]
        refine wpAnyH_done (by kernel_rfl) ?_ _
        refine NoPanic.normal ?_
        go_wp2_with fail
        go_meet
        exact HS5.out.setTrace' (hbl5.alloc hbl5.size _) ⟨⟨p, a, x⟩, .slice B1 m1 q1, .slice B2 m2 q2⟩ HCO.out.1 HCO.out.2 HAP.out ⟨HF.out.few, by have := HXF.out.few; show x.bs.length ≤ _; omega⟩
      go_simp
      refine hK.out _ _ ?_ (fun hHeld => ?_)
      · (try dsimp only); go_keep
      clear hK K9
      try simp only [Act.put, Array.reduceGetElem, List.setIfInBounds_toArray, List.set_cons_zero, List.set_cons_succ]
      refine wpAnyH_ready (rs := [6]) (by kernel_rfl) (by simp) ?_
      refine AllReadyH.cons (o := _) rfl (fun K9 hK => ?_) ?_
      rotate_left
      · exact AllReadyH.nil
      go_simp
      go_at_call 115
      refine (copied_any p a x A A2 l l2 cp c2 _ HO5.out.bytes.drew HY5.out.bytes.drew HF.out.few (by have := HXF.out.few; omega)).mono ?_
      rintro e w6 ⟨B1, m1, q1, B2, m2, q2, rfl, ho1, ho2, hbl⟩
      have hbl5 := below_drew hbl
      have kf := fun (q : Addr) (hq : q.block < W5.heap.size) (_ : True) => hbl5.cell (p := q) hq
      have kb := (kf ⟨w.heap.size, 0, none⟩ hls0 trivial).trans d5
      have kg := (kf ⟨gw, 3, none⟩ hgw5 trivial).trans w35
      have kv0 := (kf ⟨wq.heap.size, 0, none⟩ hls5 trivial).trans v0
      have kv1 := (kf ⟨wq.heap.size, 1, none⟩ hls5 trivial).trans v1
      have kv2 := (kf ⟨wq.heap.size, 2, none⟩ hls5 trivial).trans v2
      have kv3 := (kf ⟨wq.heap.size, 3, none⟩ hls5 trivial).trans v3
      have kv4 := (kf ⟨wq.heap.size, 4, none⟩ hls5 trivial).trans v4
      have kv5 := (kf ⟨wq.heap.size, 5, none⟩ hls5 trivial).trans v5
      have kv6 := (kf ⟨wq.heap.size, 6, none⟩ hls5 trivial).trans v6
      have kv7 := (kf ⟨wq.heap.size, 7, none⟩ hls5 trivial).trans v7
      have kv8 := (kf ⟨wq.heap.size, 8, none⟩ hls5 trivial).trans v8
      have kv9 := (kf ⟨wq.heap.size, 9, none⟩ hls5 trivial).trans v9
      have kv10 := (kf ⟨wq.heap.size, 10, none⟩ hls5 trivial).trans v10
      have kv11 := (kf ⟨wq.heap.size, 11, none⟩ hls5 trivial).trans v11
      clear kf
      have HCO := Lib.hid (And.intro ho1 ho2)
      clear ho1 ho2 hbl
      have kga : ∀ q, (w6.alloc q).cell? ⟨gw, 3, none⟩ = some tv := fun q => ((hbl5.alloc hbl5.size q).cell (p := ⟨gw, 3, none⟩) hgw5).trans w35
      refine hK.out _ _ ?_ (fun hHeld => ?_)
      · (try dsimp only); go_keep
      clear hK K9
      try simp only [Act.put, Array.reduceGetElem, List.setIfInBounds_toArray, List.set_cons_zero, List.set_cons_succ]
      refine wpAnyH_ready (rs := [7]) (by kernel_rfl) (by simp) ?_
      refine AllReadyH.cons (o := _) rfl (fun K9 hK => ?_) ?_
      rotate_left
      · exact AllReadyH.nil
      go_simp
      refine hK.out _ _ ?_ (fun hHeld => ?_)
      · (try dsimp only); go_keep
      clear hK K9
      try simp only [Act.put, Array.reduceGetElem, List.setIfInBounds_toArray, List.set_cons_zero, List.set_cons_succ]
      refine wpAnyH_ready (rs := [8]) (by kernel_rfl) (by simp) ?_
      refine AllReadyH.cons (o := _) rfl (fun K9 hK => ?_) ?_
      rotate_left
      · exact AllReadyH.nil
      refine step_app_ev rfl _ _ rfl tv ts.length _ ⟨⟨p, a, x⟩, .slice B1 m1 q1, .slice B2 m2 q2⟩ _ _ rfl rfl ((HS5.out.below hbl5).alloc _).tr.row (Go.Deep.blk_alloc_new _ _) rfl rfl HL.out ?_
      intro v7 w7 happ
      obtain ⟨g7, q7, rfl⟩ := happ.form
      have kf7 := fun (q : Addr) (hq : q.block < W5.heap.size) (hnq : tv.ownBlock ≠ some q.block) => app_cell (hbl5.alloc hbl5.size _) happ hq hnq
      have kb7 := (kf7 ⟨w.heap.size, 0, none⟩ hls0 nn0).trans d5
      have kg7 := (kf7 ⟨gw, 3, none⟩ hgw5 nng).trans w35
      have kw0 := (kf7 ⟨wq.heap.size, 0, none⟩ hls5 nn5).trans v0
      have kw1 := (kf7 ⟨wq.heap.size, 1, none⟩ hls5 nn5).trans v1
      have kw2 := (kf7 ⟨wq.heap.size, 2, none⟩ hls5 nn5).trans v2
      have kw3 := (kf7 ⟨wq.heap.size, 3, none⟩ hls5 nn5).trans v3
      have kw4 := (kf7 ⟨wq.heap.size, 4, none⟩ hls5 nn5).trans v4
      have kw5 := (kf7 ⟨wq.heap.size, 5, none⟩ hls5 nn5).trans v5
      have kw6 := (kf7 ⟨wq.heap.size, 6, none⟩ hls5 nn5).trans v6
      have kw7 := (kf7 ⟨wq.heap.size, 7, none⟩ hls5 nn5).trans v7
      have kw8 := (kf7 ⟨wq.heap.size, 8, none⟩ hls5 nn5).trans v8
      have kw9 := (kf7 ⟨wq.heap.size, 9, none⟩ hls5 nn5).trans v9
      have kw10 := (kf7 ⟨wq.heap.size, 10, none⟩ hls5 nn5).trans v10
      have kw11 := (kf7 ⟨wq.heap.size, 11, none⟩ hls5 nn5).trans v11
      have kz7 := (app_frozen (hbl5.alloc hbl5.size _) happ (q := ⟨gw, 3, none⟩) hgw5 nng).trans hz3
      clear kf7
      have HAP := Lib.hid happ
      clear happ
      try go_simp
      refine hK.out _ _ ?_ (fun hHeld => ?_)
      · (try dsimp only); go_keep
      clear hK K9
      try simp only [Act.put, Array.reduceGetElem, List.setIfInBounds_toArray, List.set_cons_zero, List.set_cons_succ]
      refine wpAnyH_take (i := 9) (oi := _) (v := ?_) rfl (by kernel_rfl) (by kernel_rfl) (by kernel_rfl) (fun _ _ _ h => h) (Or.inl ⟨by rfl, ?_⟩) (by assumption) ?_
      rotate_left
      · (intro w hSw; (try dsimp only at hSw); go_simp; try (with_reducible rfl))
      try simp only [Act.put, Array.reduceGetElem, List.setIfInBounds_toArray, List.set_cons_zero, List.set_cons_succ]
      refine wpAnyH_take (i := 10) (oi := _) (v := ?_) rfl (by kernel_rfl) (by kernel_rfl) (by kernel_rfl) (fun _ _ _ h => h) (Or.inl ⟨by rfl, ?_⟩) (by assumption) ?_
      rotate_left
      · (intro w hSw; (try dsimp only at hSw); go_simp; try (with_reducible rfl))
      try simp only [Act.put, Array.reduceGetElem, List.setIfInBounds_toArray, List.set_cons_zero, List.set_cons_succ]
      refine wpAnyH_ready (rs := [11]) (by kernel_rfl) (by simp) ?_
      refine AllReadyH.cons (o := _) rfl (fun K9 hK => ?_) ?_
      rotate_left
      · exact AllReadyH.nil
      go_simp
      refine hK.out _ _ ?_ (fun hHeld => ?_)
      · (try dsimp only); go_keep
      clear hK K9
      try simp only [Act.put, Array.reduceGetElem, List.setIfInBounds_toArray, List.set_cons_zero, List.set_cons_succ]
      refine wpAnyH_done (by kernel_rfl) ?_ _
      refine NoPanic.normal ?_
      go_wp2_with fail
      go_meet
      exact HS5.out.setTrace' (hbl5.alloc hbl5.size _) ⟨⟨p, a, x⟩, .slice B1 m1 q1, .slice B2 m2 q2⟩ HCO.out.1 HCO.out.2 HAP.out ⟨HF.out.few, by have := HXF.out.few; show x.bs.length ≤ _; omega⟩
    case rest =>
      obtain ⟨o2, tv2, ts2, hs2, ht2, ho2⟩ := hcut
      have hno : ∀ k, w.heap.size ≤ k → o k = .no := fun k hk => HS.out.new_no hk
      have hnoO : ∀ k, w.heap.size ≤ k → ¬ Own o k := fun k hk e => e (hno k hk)
      have hE := HE5.out.of_block (ht2.block _ hls5 (hnoO _ (by omega)))
      have hbx := HBX5.out.keep (W' := wc) fun k hk hl => ht2.block k hl (hnoO k hk)
      have hO := HO5.out.keepTouch ht2 fun k hk e => by have := (HO5.out.ge hk).1; have := HBS.out k e; omega
      have hY := HY5.out.lt.touch ht2 fun k hk => hnoO k (by have := hk.1; omega)
      have e0 := hE.e0
      have e1 := hE.e1
      have e2 := hE.e2
      have e3 := hE.e3
      have e4 := hE.e4
      have e5 := hE.e5
      have e6 := hE.e6
      have e7 := hE.e7
      have e8 := hE.e8
      have e9 := hE.e9
      have e10 := hE.e10
      have e11 := hE.e11
      have hszc := ht2.size
      have HE7 := Lib.hid hE
      have HBX7 := Lib.hid hbx
      have HO7 := Lib.hid hO
      have HY7 := Lib.hid hY
      have HS7 := Lib.hid hs2
      have HT7 := Lib.hid ht2
      clear hE hbx hO hY hs2 ht2
      go_wp2_with fail
      refine (copied_any p a x A A2 l l2 cp c2 wc HO7.out.bytes HY7.out.bytes HF.out.few (by have := HXF.out.few; omega)).mono ?_
      rintro e w6 ⟨B1, m1, q1, B2, m2, q2, rfl, ho1, ho2b, hbl⟩
      have HY8 := Lib.hid ho2b
      have HW6 := Lib.hid hbl
      have hmf : ∀ (fn : Fn) (first cap : Array Value) (w : World), (Instr.makeFunc fn first cap).run Tryz.prog w = .ok (.func fn first cap) w := fun _ _ _ _ => rfl
      clear ho1 ho2b hbl e0 e1 e2 e3 e4 e5 e6 e7 e8 e9 e10 e11
      have hfa := fun u0 u1 u2 u3 u4 u5 u6 u7 u8 u9 u10 u11 w => field_ans u0 u1 u2 u3 u4 u5 u6 u7 u8 u9 u10 u11 w
      go_wp2_with fail
      generalize hW8 : w6.alloc (.cells #[.int .u64 x.V, .bool x.D, .slice B2 m2 q2] 25) = W8
      have hb6 : Below w6.heap.size w6 W8 := by rw [← hW8]; exact (Below.refl _ w6).alloc (Nat.le_refl _) _
      have hbt : W8.heap[w6.heap.size]? = some (.cells #[.int .u64 x.V, .bool x.D, .slice B2 m2 q2] 25 (0, 0)) := by rw [← hW8]; exact Go.Deep.blk_alloc_new _ _
      have hb8 := HW6.out.after hb6
      have hs8 := HS7.out.below hb8
      have hbx8 := HBX7.out.keep (W' := W8) fun k _ hk => hb8.block k hk
      have c0 : W8.cell? ⟨w.heap.size, 0, none⟩ = some (.pointer (some ⟨gw, 0, none⟩)) := by simp [World.cell?, hbx8.wd]
      have c1 : W8.cell? ⟨w.heap.size + 1, 1, none⟩ = some (.int .i64 (i : Nat)) := by rw [← HP.out]; simp [World.cell?, hbx8.pk]
      have hsz6 := HW6.out.size
      have ho20 : ∀ k, w.heap.size ≤ k → k < W5.heap.size → o2 k = .no := fun k h1 h2 => (ho2 k h2).trans (hno k h1)
      have hbt8 := (Array.getElem?_eq_some_iff.1 hbt).1
      have hcall := stepIn_any hs8 i hi w.heap.size (w.heap.size + 1) w6.heap.size x HXF.out B2 m2 q2 c0 c1 hbt ((HY8.out.bytes).below hb6) (by show (st.ms i).next ≠ none; rw [HN.out]; simp) (ho20 _ (Nat.le_refl _) (by omega)) (ho20 _ (by omega) (by omega)) (HS7.out.new_no (by omega))
      have HCALL := Lib.hid hcall
      have HS8 := Lib.hid hs8
      have HE8 := Lib.hid (HE7.out.below hb8)
      have HBX8 := Lib.hid hbx8
      clear hW8 hbt hs8 hbx8 c0 c1 hcall
      refine (caught_any _ _ W8 (enter_take _) HCALL.out).mono ?_
      rintro e w9 ⟨rfl, hmv⟩
      obtain ⟨o3, hs9, ht9, ho9⟩ := HS8.out.setMach hi hmv
      have HE9 := Lib.hid (HE8.out.of_block (ht9.block _ HE8.out.lt fun e => e (ho20 _ (by omega) (by omega))))
      have HV9 := Lib.hid (HBX8.out.ev.of_block (ht9.block _ HBX8.out.ev.lt fun e => e (ho20 _ (by omega) (by omega))))
      have HS9 := Lib.hid hs9
      have HT9 := Lib.hid (And.intro ht9 ho9)
      clear hs9 ht9 ho9 hmv
      have e0 := HE9.out.e0
      have e1 := HE9.out.e1
      have e2 := HE9.out.e2
      have e3 := HE9.out.e3
      have e4 := HE9.out.e4
      have e5 := HE9.out.e5
      have e6 := HE9.out.e6
      have e7 := HE9.out.e7
      have e8 := HE9.out.e8
      have e9 := HE9.out.e9
      have e10 := HE9.out.e10
      have e11 := HE9.out.e11
      have r0 := HV9.out.e0
      have r1 := HV9.out.e1
      have r2 := HV9.out.e2
      have r3 := HV9.out.e3
      have r4 := HV9.out.e4
      have r5 := HV9.out.e5
      have r6 := HV9.out.e6
      have r7 := HV9.out.e7
      have r8 := HV9.out.e8
      have r9 := HV9.out.e9
      have r10 := HV9.out.e10
      have r11 := HV9.out.e11
      have f0 := HV9.out.free 0
      have f1 := HV9.out.free 1
      have f2 := HV9.out.free 2
      have f3 := HV9.out.free 3
      have f4 := HV9.out.free 4
      have f5 := HV9.out.free 5
      have f6 := HV9.out.free 6
      have f7 := HV9.out.free 7
      have f8 := HV9.out.free 8
      have f9 := HV9.out.free 9
      have f10 := HV9.out.free 10
      have f11 := HV9.out.free 11
      go_wp2
      refine bodyPost_ret (v := .tuple #[.agg #[.int .i64 p.K, .int .i64 p.A, .int .i64 p.N, .int .i64 a.K, .int .i64 a.P, .int .i64 a.N, .int .u64 a.V, .int .u64 a.U, .slice A l cp, .int .u64 x.V, .bool x.D, .slice A2 l2 c2], .int .i64 0]) (by simp [results, Tryz.results87, go_sem, r0, r1, r2, r3, r4, r5, r6, r7, r8, r9, r10, r11]) rfl ?_
      have ht12 := twelve_touch w9 (w.heap.size + 1 + 1 + 1) (.int .i64 p.K) (.int .i64 p.A) (.int .i64 p.N) (.int .i64 a.K) (.int .i64 a.P) (.int .i64 a.N) (.int .u64 a.V) (.int .u64 a.U) (.slice A l cp) (.int .u64 x.V) (.bool x.D) (.slice A2 l2 c2)
      have hsz9 := HT9.out.1.size
      have hsz8 := hb8.size
      have hall := own_trans ((HT5.out.trans HT7.out).trans (Touch.of_below hb8)) (fun k hk => ho2 k (by omega)) HT9.out.1 HT9.out.2
      have hy := ((HY7.out.below hb8).touch HT9.out.1 fun k hk e => e (ho20 k (by have := hk.1; omega) hk.2)).touch ht12 fun k hk e => by have h1 := hk.1; have h2 : k = _ := e; omega
      have hx := HXQ.out
      subst hx
      refine ⟨o3, A2, l2, c2, tv2, ts2, rfl, hy.mono fun k hk _ => ⟨by have := hk.1; omega, ((HT9.out.2 k (by have := hk.2; omega)).trans (ho20 k (by have := hk.1; omega) hk.2))⟩, HS9.out.touch ht12 fun k hk e => ?_, hall.1.trans' ht12 (by omega), hall.2⟩
      have h2 : k = _ := e
      exact hk ((HT9.out.2 k (by omega)).trans (ho20 k (by omega) (by omega)))
end Go.Proofs.YtikcnioooihncaaGreat
namespace Go.Proofs.YtikcnioooihncaaGreat
open Go.RowKit

/-- An event is traced. -/
def St.push (st : St) (e : Ev) : St := { st with tr := st.tr ++ [e] }
/-- An actor is killed. -/
def St.kill (st : St) (i : Nat) : St := { st with dead := upd st.dead i true }

/-- What a pick does: the state, the error, the event. -/
def St.pick (st : St) (p : Pk) : St × Int × Ev :=
  if st.chk p = 0 then
    if p.K = 1 then ((st.kill p.A.toNat).push (.bare p), 0, .bare p)
    else if p.K = 2 then ((st.ticks (wrap64 (st.clock + p.N)) st.na).push (.bare p), 0, .bare p)
    else match (st.ms p.A.toNat).next with
      | none => (st.push (.bare p), 0, .bare p)
      | some a => if a.err st.nw = 0 then (st.did p p.A.toNat a, 0, ⟨p, a, a.ans st.m⟩) else (st.kill p.A.toNat, a.err st.nw, Ev.zero)
  else (st, st.chk p, Ev.zero)

/-- A pick was done: its event is told, its bytes lie in new memory that is nobody's. -/
def PickTold (o : Nat → Pt) (gw ga gb hb : Nat) (ax : Nat → Value) (st' : St) (r : Int) (v : Ev) (w : World) (e : Ending) (w' : World) : Prop :=
  ∃ o' A1 l1 c1 A2 l2 c2 tv' ts', e = .returned (.tuple #[.agg #[.int .i64 v.pk.K, .int .i64 v.pk.A, .int .i64 v.pk.N, .int .i64 v.ac.K, .int .i64 v.ac.P, .int .i64 v.ac.N, .int .u64 v.ac.V, .int .u64 v.ac.U, .slice A1 l1 c1, .int .u64 v.an.V, .bool v.an.D, .slice A2 l2 c2], .int .i64 r]) ∧
    BytesIn (fun k => w.heap.size ≤ k ∧ o' k = .no) w' (.slice A1 l1 c1) v.ac.bs ∧ BytesIn (fun k => w.heap.size ≤ k ∧ o' k = .no) w' (.slice A2 l2 c2) v.an.bs ∧
    Sw w' o' gw ga gb hb ax tv' ts' st' ∧ Touch (Own o) w w' ∧ ∀ k, k < w.heap.size → o' k = o k

/-- What Pick boxes: the pick, a place for the event. -/
structure PickBox (b : Nat) (W : World) (p : Pk) : Prop where
  pk : W.heap[b]? = some (.cells #[.int .i64 p.K, .int .i64 p.A, .int .i64 p.N] 152 (0, 0))
  ev : EvNew (b + 1) W

theorem PickBox.keep {b : Nat} {W W' : World} {p : Pk} (h : PickBox b W p) (hk : ∀ k, b ≤ k → k < W.heap.size → W'.heap[k]? = W.heap[k]?) : PickBox b W' p :=
  ⟨(hk b (Nat.le_refl _) (Array.getElem?_eq_some_iff.1 h.pk).1).trans h.pk, h.ev.of_block (hk _ (Nat.le_succ _) h.ev.lt)⟩

theorem pick_boxes (w : World) (p : Pk) (W : World) (hW : W = (w.alloc (.cells #[.int .i64 p.K, .int .i64 p.A, .int .i64 p.N] 152)).alloc (.cells #[.int .i64 0, .int .i64 0, .int .i64 0, .int .i64 0, .int .i64 0, .int .i64 0, .int .u64 0, .int .u64 0, .slice none 0 0, .int .u64 0, .bool false, .slice none 0 0] 154)) :
    Below w.heap.size w W ∧ PickBox w.heap.size W p ∧ W.heap.size = w.heap.size + 1 + 1 := by
  subst hW
  have HW := ((Below.refl w.heap.size w).alloc (Nat.le_refl _) (.cells #[.int .i64 p.K, .int .i64 p.A, .int .i64 p.N] 152)).alloc (by simp) (.cells #[.int .i64 0, .int .i64 0, .int .i64 0, .int .i64 0, .int .i64 0, .int .i64 0, .int .u64 0, .int .u64 0, .slice none 0 0, .int .u64 0, .bool false, .slice none 0 0] 154)
  have e1 : (w.alloc (.cells #[.int .i64 p.K, .int .i64 p.A, .int .i64 p.N] 152)).heap.size = w.heap.size + 1 := by simp
  have x0 := Go.Deep.blk_alloc_new w (.cells #[.int .i64 p.K, .int .i64 p.A, .int .i64 p.N] 152)
  generalize w.alloc (.cells #[.int .i64 p.K, .int .i64 p.A, .int .i64 p.N] 152) = W1 at *
  have x1 := Go.Deep.blk_alloc_new W1 (.cells #[.int .i64 0, .int .i64 0, .int .i64 0, .int .i64 0, .int .i64 0, .int .i64 0, .int .u64 0, .int .u64 0, .slice none 0 0, .int .u64 0, .bool false, .slice none 0 0] 154)
  rw [e1] at x1
  exact ⟨HW, ⟨(Below.heap_alloc W1 _ w.heap.size (by omega)).trans x0, ⟨x1⟩⟩, by simp [e1]⟩

end Go.Proofs.YtikcnioooihncaaGreat
namespace Go.Proofs.YtikcnioooihncaaGreat
open Go.RowKit

end Go.Proofs.YtikcnioooihncaaGreat
namespace Go.Proofs.YtikcnioooihncaaGreat
open Go.RowKit

end Go.Proofs.YtikcnioooihncaaGreat
namespace Go.Proofs.YtikcnioooihncaaGreat
open Go.RowKit

end Go.Proofs.YtikcnioooihncaaGreat
namespace Go.Proofs.YtikcnioooihncaaGreat
open Go.RowKit

theorem six_blk {W : World} {b : Nat} {u0 u1 u2 u3 u4 u5 : Value} {T : TypeId} (h : W.heap[b]? = some (.cells #[u0, u1, u2, u3, u4, u5] T (0, 0))) (v0 v1 v2 v3 v4 v5 : Value) : (six W b v0 v1 v2 v3 v4 v5).heap[b]? = some (.cells #[v0, v1, v2, v3, v4, v5] T (0, 0)) := by
  simp [six, World.setCell, Array.getElem?_modify, h]

end Go.Proofs.YtikcnioooihncaaGreat
namespace Go.Proofs.YtikcnioooihncaaGreat
open Go.RowKit

end Go.Proofs.YtikcnioooihncaaGreat
namespace Go.Proofs.YtikcnioooihncaaGreat
open Go.RowKit

theorem St.chk_actor {st : St} {p : Pk} (h0 : st.chk p = 0) (hK : p.K = 0 ∨ p.K = 1) : ∃ i : Nat, p.A = (i : Nat) ∧ i < st.na ∧ st.dead i = false := by
  unfold St.chk at h0
  rw [if_pos hK] at h0
  by_cases hA : hasB st.na p.A = true
  · rw [if_pos hA] at h0
    obtain ⟨a0, a1⟩ := hasB_yes hA
    obtain ⟨i, hi⟩ := Int.eq_ofNat_of_zero_le a0
    refine ⟨i, hi, by omega, ?_⟩
    by_cases hd : st.dead p.A.toNat = true
    · rw [if_pos hd] at h0; cases h0
    · rw [hi, Int.toNat_natCast] at hd
      simpa using hd
  · rw [if_neg hA] at h0; cases h0

theorem St.chk_kind {st : St} {p : Pk} (h0 : st.chk p = 0) : p.K = 0 ∨ p.K = 1 ∨ p.K = 2 := by
  unfold St.chk at h0
  by_cases hK : p.K = 0 ∨ p.K = 1
  · omega
  · rw [if_neg hK] at h0
    by_cases h2 : p.K = 2 ∧ 0 ≤ p.N ∧ p.N ≤ 1099511627776
    · exact .inr (.inr h2.1)
    · rw [if_neg h2] at h0; cases h0

theorem St.pick_no {st : St} {p : Pk} (h0 : ¬ st.chk p = 0) : st.pick p = (st, st.chk p, Ev.zero) := by
  unfold St.pick
  rw [if_neg h0]
theorem St.pick_kill {st : St} {p : Pk} (h0 : st.chk p = 0) (h1 : p.K = 1) : st.pick p = ((st.kill p.A.toNat).push (.bare p), 0, .bare p) := by
  unfold St.pick
  rw [if_pos h0, if_pos h1]
theorem St.pick_tick {st : St} {p : Pk} (h0 : st.chk p = 0) (h2 : p.K = 2) : st.pick p = ((st.ticks (wrap64 (st.clock + p.N)) st.na).push (.bare p), 0, .bare p) := by
  unfold St.pick
  rw [if_pos h0, if_neg (by omega), if_pos h2]
theorem St.pick_end {st : St} {p : Pk} (h0 : st.chk p = 0) (hk : p.K = 0) (hn : (st.ms p.A.toNat).next = none) : st.pick p = (st.push (.bare p), 0, .bare p) := by
  unfold St.pick
  rw [if_pos h0, if_neg (by omega), if_neg (by omega), hn]
theorem St.pick_ok {st : St} {p : Pk} {a : Ac} (h0 : st.chk p = 0) (hk : p.K = 0) (hn : (st.ms p.A.toNat).next = some a) (he : a.err st.nw = 0) : st.pick p = (st.did p p.A.toNat a, 0, ⟨p, a, a.ans st.m⟩) := by
  unfold St.pick
  rw [if_pos h0, if_neg (by omega), if_neg (by omega), hn]
  exact if_pos he
theorem St.pick_bad {st : St} {p : Pk} {a : Ac} (h0 : st.chk p = 0) (hk : p.K = 0) (hn : (st.ms p.A.toNat).next = some a) (he : ¬ a.err st.nw = 0) : st.pick p = (st.kill p.A.toNat, a.err st.nw, Ev.zero) := by
  unfold St.pick
  rw [if_pos h0, if_neg (by omega), if_neg (by omega), hn]
  exact if_neg he

end Go.Proofs.YtikcnioooihncaaGreat
namespace Go.Proofs.YtikcnioooihncaaGreat
open Go.RowKit

/-- An actor does the access that it is at. -/
def St.act (st : St) (i : Nat) (a : Ac) : St := if a.err st.nw = 0 then st.did ⟨0, i, 0⟩ i a else st.kill i

/-- So many actors from i on do a step each, as long as fewer than 'most' did: the state, how many did. -/
def St.rnd : Nat → St → Nat → Nat → Nat → St × Nat
  | 0, st, _, n, _ => (st, n)
  | k + 1, st, i, n, most =>
    if n = most then (st, n)
    else if st.dead i = true then St.rnd k st (i + 1) n most
    else match (st.ms i).next with
      | none => St.rnd k st (i + 1) n most
      | some a => St.rnd k (st.act i a) (i + 1) (n + 1) most

theorem St.act_na (st : St) (i : Nat) (a : Ac) : (st.act i a).na = st.na := by unfold St.act; split <;> rfl
theorem St.act_tr (st : St) (i : Nat) (a : Ac) : (st.act i a).tr.length ≤ st.tr.length + 1 := by
  unfold St.act
  split
  · show (st.tr ++ [_]).length ≤ _; simp
  · exact Nat.le_succ _

theorem St.rnd_most (k : Nat) (st : St) (i most : Nat) : St.rnd k st i most most = (st, most) := by
  cases k with
  | zero => rfl
  | succ k => show (if most = most then _ else _) = _; rw [if_pos rfl]
theorem St.rnd_dead {k : Nat} {st : St} {i n most : Nat} (h : n ≠ most) (hd : st.dead i = true) : St.rnd (k + 1) st i n most = St.rnd k st (i + 1) n most := by
  show (if n = most then _ else _) = _
  rw [if_neg h, if_pos hd]
theorem St.rnd_end {k : Nat} {st : St} {i n most : Nat} (h : n ≠ most) (hd : st.dead i = false) (hn : (st.ms i).next = none) : St.rnd (k + 1) st i n most = St.rnd k st (i + 1) n most := by
  show (if n = most then _ else _) = _
  rw [if_neg h, if_neg (by rw [hd]; simp), hn]
theorem St.rnd_act {k : Nat} {st : St} {i n most : Nat} {a : Ac} (h : n ≠ most) (hd : st.dead i = false) (hn : (st.ms i).next = some a) : St.rnd (k + 1) st i n most = St.rnd k (st.act i a) (i + 1) (n + 1) most := by
  show (if n = most then _ else _) = _
  rw [if_neg h, if_neg (by rw [hd]; simp), hn]

/-- A step by the state alone: the event is told. -/
theorem step_act {w : World} {o : Nat → Pt} {gw ga gb hb : Nat} {ax : Nat → Value} {tv : Value} {ts : List Tx} {st : St} (h : Sw w o gw ga gb hb ax tv ts st) (i : Nat) (hi : i < st.na) (a : Ac) (hn : (st.ms i).next = some a)
    {base : Nat} {A : Option Addr} {l cp : Nat} (ho : Owns base w (.slice A l cp) a.bs) (hbase : ∀ k, o k ≠ .no → k < base) (hlong : ts.length ≤ 1000000) :
    Calls Tryz.prog 87 #[.pointer (some ⟨gw, 0, none⟩), .agg #[.int .i64 0, .int .i64 (i : Nat), .int .i64 0], .agg #[.int .i64 a.K, .int .i64 a.P, .int .i64 a.N, .int .u64 a.V, .int .u64 a.U, .slice A l cp]] w
      fun e w' => (∃ v r, e = .returned (.tuple #[.agg v, .int .i64 r])) ∧ ∃ o' tv' ts', Sw w' o' gw ga gb hb ax tv' ts' (st.act i a) ∧ Touch (Own o) w w' ∧ ∀ k, k < w.heap.size → o' k = o k := by
  unfold St.act
  by_cases h0 : a.err st.nw = 0
  · rw [if_pos h0]
    refine (step_ok h ⟨0, (i : Nat), 0⟩ i rfl hi a ((h.mach i hi).fine hn) hn ho hbase h0 hlong).mono ?_
    rintro e w' ⟨o', A2, l2, c2, tv', ts', he, _, hs, ht, ho'⟩
    exact ⟨⟨_, _, he⟩, o', tv', ts', hs, ht, ho'⟩
  · rw [if_neg h0]
    refine (step_no h ⟨0, (i : Nat), 0⟩ i rfl hi a ho h0).mono ?_
    rintro e w' ⟨he, hs, ht⟩
    exact ⟨⟨_, _, he⟩, o, tv, ts, hs, ht, fun _ _ => rfl⟩

set_option maxRecDepth 100000 in
set_option maxHeartbeats 4000000 in
theorem round_any {w : World} {o : Nat → Pt} {gw ga gb hb : Nat} {ax : Nat → Value} {tv : Value} {ts : List Tx} {st : St} (h : Sw w o gw ga gb hb ax tv ts st) (most : Nat) (hlong : st.tr.length + most ≤ 1000000) :
    Calls Tryz.prog 53 #[.pointer (some ⟨gw, 0, none⟩), .int .i64 most] w
      fun e w' => e = .returned (.int .i64 (St.rnd st.na st 0 0 most).2) ∧ ∃ o' tv' ts', Sw w' o' gw ga gb hb ax tv' ts' (St.rnd st.na st 0 0 most).1 ∧ Touch (Own o) w w' ∧ ∀ k, k < w.heap.size → o' k = o k := by
  have hc1 := h.w1
  have hfew := h.few
  have HS := Lib.hid h
  obtain ⟨res, hres⟩ : ∃ res, St.rnd st.na st 0 0 most = res := ⟨_, rfl⟩
  rw [hres]
  have HRES := Lib.hid hres
  have hmost : most ≤ 1000000 := by omega
  have HL := Lib.hid hlong
  clear h hres hlong
  go_enter Tryz.func53, Tryz.ntmps53
  go_wp2
  go_loopw [17, 5] (fun t17 t5 wr => ∃ (i n : Nat) (o1 : Nat → Pt) (tv1 : Value) (ts1 : List Tx) (st1 : St), t17 = .int .i64 i ∧ t5 = .int .i64 n ∧ i ≤ st.na ∧ n ≤ most ∧ st1.na = st.na ∧ Sw wr o1 gw ga gb hb ax tv1 ts1 st1 ∧ St.rnd (st.na - i) st1 i n most = res ∧ st1.tr.length + (most - n) ≤ 1000000 ∧ Touch (Own o) w wr ∧ ∀ k, k < w.heap.size → o1 k = o k) (fun t17 _ _ => st.na - (intOf t17).toNat)
  case atStart => exact ⟨0, 0, o, tv, ts, st, rfl, rfl, Nat.zero_le _, Nat.zero_le _, rfl, HS.out, HRES.out, HL.out, Touch.refl _ _, fun _ _ => rfl⟩
  case round =>
    obtain ⟨i, n, o1, tv1, ts1, st1, rfl, rfl, hi, hn, hna, hsw, heq, hlen, htt, hoo⟩ := hrel
    have HSW := Lib.hid hsw
    have HEQ := Lib.hid heq
    have HLEN := Lib.hid hlen
    have HTT := Lib.hid (And.intro htt hoo)
    have HNA := Lib.hid hna
    clear htt hoo heq hlen
    by_cases hlt : i < st.na
    · have hm := hsw.amach (i := i) (by omega)
      have hd := hsw.adead (i := i) (by omega)
      have HMR := Lib.hid (hsw.mach i (by omega))
      generalize hx : ax i = x at hm HMR
      have HX := Lib.hid hx
      clear hsw hx hna
      by_cases hnm : n = most
      · subst hnm
        have he := HEQ.out
        rw [St.rnd_most] at he
        have HE2 := Lib.hid he
        clear he
        rcases HMR.out.shape with ⟨rfl, _⟩ | ⟨T, y, rfl⟩
        all_goals
          go_wp2
          go_ret
          exact ⟨by rw [← HE2.out]; rfl, o1, tv1, ts1, by rw [← HE2.out]; exact HSW.out.alloc _, HTT.out.1.alloc _, HTT.out.2⟩
      · have hnm2 : ¬ (n : Int) = most := by omega
        have HNM := Lib.hid hnm
        clear hnm
        cases hdd : st1.dead i with
        | true =>
          rw [hdd] at hd
          have HDD := Lib.hid hdd
          clear hdd
          rcases HMR.out.shape with ⟨rfl, _⟩ | ⟨T, y, rfl⟩
          all_goals
            go_wp2
            go_roundw
            case rel =>
              have he := HEQ.out
              rw [show st.na - i = (st.na - (i + 1)) + 1 by omega, St.rnd_dead HNM.out HDD.out] at he
              exact ⟨i + 1, n, o1, tv1, ts1, st1, by go_num, rfl, by omega, hn, HNA.out, HSW.out.alloc _, he, HLEN.out, HTT.out.1.alloc _, HTT.out.2⟩
            case measure => simp [intOf]; omega
        | false =>
          rw [hdd] at hd
          have HDD := Lib.hid hdd
          clear hdd
          rcases HMR.out.shape with ⟨rfl, _⟩ | ⟨T, y, rfl⟩
          · skip
            have HBX := Lib.hid ((Below.refl wr.heap.size wr).alloc (Nat.le_refl _) (.cells #[.nilIface, .bool false] 115))
            have HNXT := Lib.hid (next_told (HMR.out.keep HBX.out.size fun k hk => HBX.out.block k (HSW.out.lt k (by rw [hk]; simp))) (fun k hk => Nat.lt_of_lt_of_le (HSW.out.lt k (by rw [hk]; simp)) HBX.out.size))
            have hna1 := HNA.out
            cases hnx : (st1.ms i).next with
            | none =>
              rw [hnx] at HNXT
              have HNX := Lib.hid hnx
              clear hnx
              go_wp2_with (go_at_call 86; refine HNXT.out.mono ?_; rintro e w2 ⟨hb2, he⟩; have he2 : e = .returned (.tuple #[.agg #[.int .i64 0, .int .i64 0, .int .i64 0, .int .u64 0, .int .u64 0, .slice none 0 0], .bool false]) := he; subst he2; have HB2 := Lib.hid hb2; clear hb2 he)
              go_roundw
              case rel =>
                have he := HEQ.out
                rw [show st.na - i = (st.na - (i + 1)) + 1 by omega, St.rnd_end HNM.out HDD.out HNX.out] at he
                have hbb := HBX.out.after HB2.out
                exact ⟨i + 1, n, o1, tv1, ts1, st1, by go_num, rfl, by omega, hn, HNA.out, (HSW.out.below hbb).alloc _, he, HLEN.out, (HTT.out.1.trans (Touch.of_below hbb)).alloc _, HTT.out.2⟩
              case measure => simp [intOf]; omega
            | some a =>
              rw [hnx] at HNXT
              have HNX := Lib.hid hnx
              clear hnx
              go_wp2_with (go_at_call 86; refine HNXT.out.mono ?_; rintro e w2 ⟨hb2, he⟩; obtain ⟨A, l, c, he2, ho⟩ := he; subst he2; have HB2 := Lib.hid (And.intro hb2 ho); clear hb2 ho)
              generalize hW3 : w2.alloc (.cells #[.int .i64 a.K, .int .i64 a.P, .int .i64 a.N, .int .u64 a.V, .int .u64 a.U, .slice A l c] 30) = W3
              have hb3 : Below w2.heap.size w2 W3 := by rw [← hW3]; exact (Below.refl _ w2).alloc (Nat.le_refl _) _
              have hbk : W3.heap[w2.heap.size]? = some (.cells #[.int .i64 a.K, .int .i64 a.P, .int .i64 a.N, .int .u64 a.V, .int .u64 a.U, .slice A l c] 30 (0, 0)) := by rw [← hW3]; exact Go.Deep.blk_alloc_new _ _
              have hbb := (HBX.out.after HB2.out.1).after hb3
              have HS3 := Lib.hid (HSW.out.below hbb)
              have HO3 := Lib.hid (HB2.out.2.below hb3)
              have hsx := HBX.out.size
              have hlst : st1.tr.length = ts1.length := by rw [HSW.out.told, List.length_map]
              have hlen := HLEN.out
              have HCL := Lib.hid (step_act HS3.out i (by omega) a HNX.out HO3.out (fun k hk => Nat.lt_of_lt_of_le (HSW.out.lt k hk) hsx) (by omega))
              have b0 : W3.cell? ⟨w2.heap.size, 0, none⟩ = some (.int .i64 a.K) := by simp [World.cell?, hbk]
              have b1 : W3.cell? ⟨w2.heap.size, 1, none⟩ = some (.int .i64 a.P) := by simp [World.cell?, hbk]
              have b2 : W3.cell? ⟨w2.heap.size, 2, none⟩ = some (.int .i64 a.N) := by simp [World.cell?, hbk]
              have b3 : W3.cell? ⟨w2.heap.size, 3, none⟩ = some (.int .u64 a.V) := by simp [World.cell?, hbk]
              have b4 : W3.cell? ⟨w2.heap.size, 4, none⟩ = some (.int .u64 a.U) := by simp [World.cell?, hbk]
              have b5 : W3.cell? ⟨w2.heap.size, 5, none⟩ = some (.slice A l c) := by simp [World.cell?, hbk]
              have HBB := Lib.hid hbb
              clear hW3 hbk hbb hb3
              go_wp2_with (go_at_call 87; refine HCL.out.mono ?_; rintro e w9 ⟨⟨v9, r9, he9⟩, ho9⟩; subst he9; have HO9 := Lib.hid ho9; clear ho9)
              go_roundw
              case rel =>
                have he := HEQ.out
                rw [show st.na - i = (st.na - (i + 1)) + 1 by omega, St.rnd_act HNM.out HDD.out HNX.out] at he
                obtain ⟨o9, tv9, ts9, z1, z2, z3⟩ := HO9.out
                have hall := own_trans (HTT.out.1.trans (Touch.of_below HBB.out)) HTT.out.2 z2 z3
                exact ⟨i + 1, n + 1, o9, tv9, ts9, st1.act i a, by go_num, by go_num, by omega, by omega, by rw [St.act_na]; exact HNA.out, z1, he, by have := St.act_tr st1 i a; omega, hall.1, hall.2⟩
              case measure => simp [intOf]; omega
          · skip
            have HBX := Lib.hid ((Below.refl wr.heap.size wr).alloc (Nat.le_refl _) (.cells #[.iface T y, .bool false] 115))
            have HNXT := Lib.hid (next_told (HMR.out.keep HBX.out.size fun k hk => HBX.out.block k (HSW.out.lt k (by rw [hk]; simp))) (fun k hk => Nat.lt_of_lt_of_le (HSW.out.lt k (by rw [hk]; simp)) HBX.out.size))
            have hna1 := HNA.out
            cases hnx : (st1.ms i).next with
            | none =>
              rw [hnx] at HNXT
              have HNX := Lib.hid hnx
              clear hnx
              go_wp2_with (go_at_call 86; refine HNXT.out.mono ?_; rintro e w2 ⟨hb2, he⟩; have he2 : e = .returned (.tuple #[.agg #[.int .i64 0, .int .i64 0, .int .i64 0, .int .u64 0, .int .u64 0, .slice none 0 0], .bool false]) := he; subst he2; have HB2 := Lib.hid hb2; clear hb2 he)
              go_roundw
              case rel =>
                have he := HEQ.out
                rw [show st.na - i = (st.na - (i + 1)) + 1 by omega, St.rnd_end HNM.out HDD.out HNX.out] at he
                have hbb := HBX.out.after HB2.out
                exact ⟨i + 1, n, o1, tv1, ts1, st1, by go_num, rfl, by omega, hn, HNA.out, (HSW.out.below hbb).alloc _, he, HLEN.out, (HTT.out.1.trans (Touch.of_below hbb)).alloc _, HTT.out.2⟩
              case measure => simp [intOf]; omega
            | some a =>
              rw [hnx] at HNXT
              have HNX := Lib.hid hnx
              clear hnx
              go_wp2_with (go_at_call 86; refine HNXT.out.mono ?_; rintro e w2 ⟨hb2, he⟩; obtain ⟨A, l, c, he2, ho⟩ := he; subst he2; have HB2 := Lib.hid (And.intro hb2 ho); clear hb2 ho)
              generalize hW3 : w2.alloc (.cells #[.int .i64 a.K, .int .i64 a.P, .int .i64 a.N, .int .u64 a.V, .int .u64 a.U, .slice A l c] 30) = W3
              have hb3 : Below w2.heap.size w2 W3 := by rw [← hW3]; exact (Below.refl _ w2).alloc (Nat.le_refl _) _
              have hbk : W3.heap[w2.heap.size]? = some (.cells #[.int .i64 a.K, .int .i64 a.P, .int .i64 a.N, .int .u64 a.V, .int .u64 a.U, .slice A l c] 30 (0, 0)) := by rw [← hW3]; exact Go.Deep.blk_alloc_new _ _
              have hbb := (HBX.out.after HB2.out.1).after hb3
              have HS3 := Lib.hid (HSW.out.below hbb)
              have HO3 := Lib.hid (HB2.out.2.below hb3)
              have hsx := HBX.out.size
              have hlst : st1.tr.length = ts1.length := by rw [HSW.out.told, List.length_map]
              have hlen := HLEN.out
              have HCL := Lib.hid (step_act HS3.out i (by omega) a HNX.out HO3.out (fun k hk => Nat.lt_of_lt_of_le (HSW.out.lt k hk) hsx) (by omega))
              have b0 : W3.cell? ⟨w2.heap.size, 0, none⟩ = some (.int .i64 a.K) := by simp [World.cell?, hbk]
              have b1 : W3.cell? ⟨w2.heap.size, 1, none⟩ = some (.int .i64 a.P) := by simp [World.cell?, hbk]
              have b2 : W3.cell? ⟨w2.heap.size, 2, none⟩ = some (.int .i64 a.N) := by simp [World.cell?, hbk]
              have b3 : W3.cell? ⟨w2.heap.size, 3, none⟩ = some (.int .u64 a.V) := by simp [World.cell?, hbk]
              have b4 : W3.cell? ⟨w2.heap.size, 4, none⟩ = some (.int .u64 a.U) := by simp [World.cell?, hbk]
              have b5 : W3.cell? ⟨w2.heap.size, 5, none⟩ = some (.slice A l c) := by simp [World.cell?, hbk]
              have HBB := Lib.hid hbb
              clear hW3 hbk hbb hb3
              go_wp2_with (go_at_call 87; refine HCL.out.mono ?_; rintro e w9 ⟨⟨v9, r9, he9⟩, ho9⟩; subst he9; have HO9 := Lib.hid ho9; clear ho9)
              go_roundw
              case rel =>
                have he := HEQ.out
                rw [show st.na - i = (st.na - (i + 1)) + 1 by omega, St.rnd_act HNM.out HDD.out HNX.out] at he
                obtain ⟨o9, tv9, ts9, z1, z2, z3⟩ := HO9.out
                have hall := own_trans (HTT.out.1.trans (Touch.of_below HBB.out)) HTT.out.2 z2 z3
                exact ⟨i + 1, n + 1, o9, tv9, ts9, st1.act i a, by go_num, by go_num, by omega, by omega, by rw [St.act_na]; exact HNA.out, z1, he, by have := St.act_tr st1 i a; omega, hall.1, hall.2⟩
              case measure => simp [intOf]; omega
    · obtain rfl : i = st.na := by omega
      have he := HEQ.out
      rw [Nat.sub_self] at he
      have HE2 : Hid ((st1, n) = res) := Lib.hid he
      clear he
      go_wp2
      go_ret
      exact ⟨by rw [← HE2.out]; rfl, o1, tv1, ts1, by rw [← HE2.out]; exact HSW.out, HTT.out⟩
end Go.Proofs.YtikcnioooihncaaGreat
namespace Go.Proofs.YtikcnioooihncaaGreat
open Go.RowKit

/-- Rounds, as long as somebody does something and fewer than 'most' steps were done. -/
def St.rob : Nat → St → Nat → Nat → St × Nat
  | 0, st, n, _ => (st, n)
  | f + 1, st, n, most =>
    if n < most then (if (St.rnd st.na st 0 0 (most - n)).2 = 0 then ((St.rnd st.na st 0 0 (most - n)).1, n) else St.rob f (St.rnd st.na st 0 0 (most - n)).1 (n + (St.rnd st.na st 0 0 (most - n)).2) most)
    else (st, n)
/-- Robin: the state, how many steps were done. -/
def St.robin (st : St) (most : Nat) : St × Nat := St.rob most st 0 most

theorem St.rnd_facts (k : Nat) : ∀ (st : St) (i n most : Nat), n ≤ most → n ≤ (St.rnd k st i n most).2 ∧ (St.rnd k st i n most).2 ≤ most ∧ (St.rnd k st i n most).1.tr.length ≤ st.tr.length + ((St.rnd k st i n most).2 - n) ∧ (St.rnd k st i n most).1.na = st.na := by
  induction k with
  | zero => exact fun st i n most h => ⟨Nat.le_refl _, h, Nat.le_add_right _ _, rfl⟩
  | succ k ih =>
    intro st i n most h
    by_cases hnm : n = most
    · subst hnm
      rw [St.rnd_most]
      exact ⟨Nat.le_refl _, Nat.le_refl _, Nat.le_add_right _ _, rfl⟩
    · cases hd : st.dead i with
      | true => rw [St.rnd_dead hnm hd]; exact ih st (i + 1) n most h
      | false =>
        cases hn : (st.ms i).next with
        | none => rw [St.rnd_end hnm hd hn]; exact ih st (i + 1) n most h
        | some a =>
          rw [St.rnd_act hnm hd hn]
          obtain ⟨h1, h2, h3, h4⟩ := ih (st.act i a) (i + 1) (n + 1) most (by omega)
          have h5 := St.act_tr st i a
          exact ⟨by omega, h2, by omega, h4.trans (St.act_na st i a)⟩

theorem St.rob_end (f : Nat) (st : St) (n most : Nat) (h : ¬ n < most) : St.rob f st n most = (st, n) := by
  cases f with
  | zero => rfl
  | succ f => show (if n < most then _ else _) = _; rw [if_neg h]
theorem St.rob_idle (f : Nat) (st : St) (n most : Nat) (h : n < most) (h0 : (St.rnd st.na st 0 0 (most - n)).2 = 0) : St.rob (f + 1) st n most = ((St.rnd st.na st 0 0 (most - n)).1, n) := by
  show (if n < most then _ else _) = _
  rw [if_pos h, if_pos h0]
theorem St.rob_next (f : Nat) (st : St) (n most : Nat) (h : n < most) (h0 : ¬ (St.rnd st.na st 0 0 (most - n)).2 = 0) : St.rob (f + 1) st n most = St.rob f (St.rnd st.na st 0 0 (most - n)).1 (n + (St.rnd st.na st 0 0 (most - n)).2) most := by
  show (if n < most then _ else _) = _
  rw [if_pos h, if_neg h0]

set_option maxRecDepth 100000 in
set_option maxHeartbeats 2000000 in
theorem robin_any {w : World} {o : Nat → Pt} {gw ga gb hb : Nat} {ax : Nat → Value} {tv : Value} {ts : List Tx} {st : St} (h : Sw w o gw ga gb hb ax tv ts st) (most : Nat) (hlong : st.tr.length + most ≤ 1000000) :
    Calls Tryz.prog 26 #[.pointer (some ⟨gw, 0, none⟩), .int .i64 most] w
      fun e w' => e = .returned (.int .i64 (st.robin most).2) ∧ ∃ o' tv' ts', Sw w' o' gw ga gb hb ax tv' ts' (st.robin most).1 ∧ Touch (Own o) w w' ∧ ∀ k, k < w.heap.size → o' k = o k := by
  have HS := Lib.hid h
  obtain ⟨res, hres⟩ : ∃ res, St.rob most st 0 most = res := ⟨_, rfl⟩
  unfold St.robin
  rw [hres]
  have HRES := Lib.hid hres
  have hmost : most ≤ 1000000 := by omega
  have HL := Lib.hid hlong
  clear h hres hlong
  go_enter Tryz.func26, Tryz.ntmps26
  go_wp2
  go_loopw [5] (fun t5 wr => ∃ (f n : Nat) (o1 : Nat → Pt) (tv1 : Value) (ts1 : List Tx) (st1 : St), t5 = .int .i64 n ∧ n ≤ most ∧ most - n ≤ f ∧ Sw wr o1 gw ga gb hb ax tv1 ts1 st1 ∧ St.rob f st1 n most = res ∧ st1.tr.length + (most - n) ≤ 1000000 ∧ Touch (Own o) w wr ∧ ∀ k, k < w.heap.size → o1 k = o k) (fun t5 _ => most - (intOf t5).toNat)
  case atStart => exact ⟨most, 0, o, tv, ts, st, rfl, Nat.zero_le _, Nat.le_refl _, HS.out, HRES.out, HL.out, Touch.refl _ _, fun _ _ => rfl⟩
  case round =>
    obtain ⟨f, n, o1, tv1, ts1, st1, rfl, hn, hf, hsw, heq, hlen, htt, hoo⟩ := hrel
    have HSW := Lib.hid hsw
    have HEQ := Lib.hid heq
    have HLEN := Lib.hid hlen
    have HTT := Lib.hid (And.intro htt hoo)
    clear htt hoo heq hlen hsw
    by_cases hlt : n < most
    · have hsub : IntKind.i64.wrap ((most : Int) - n) = ((most - n : Nat) : Int) := by rw [IntWalk.i64_in _ (by omega)]; omega
      obtain ⟨rr, hrr⟩ : ∃ rr, St.rnd st1.na st1 0 0 (most - n) = rr := ⟨_, rfl⟩
      have hfa := St.rnd_facts st1.na st1 0 0 (most - n) (Nat.zero_le _)
      have hro := round_any HSW.out (most - n) HLEN.out
      rw [hrr] at hfa hro
      have HRO := Lib.hid hro
      have HRR := Lib.hid hrr
      have hd2 := hfa.2.1
      have HFA := Lib.hid hfa
      clear hro hrr hfa
      obtain ⟨d, hd⟩ : ∃ d, rr.2 = d := ⟨_, rfl⟩
      rw [hd] at HRO hd2
      have HD := Lib.hid hd
      clear hd
      obtain ⟨f, rfl⟩ : ∃ f', f = f' + 1 := ⟨f - 1, by omega⟩
      by_cases h0 : d = 0
      · subst h0
        go_wp2_with (go_at_call 53; refine HRO.out.mono ?_; rintro e w2 ⟨rfl, ho⟩; have HO := Lib.hid ho; clear ho)
        go_ret
        have he := HEQ.out
        rw [St.rob_idle _ _ _ _ hlt (by rw [HRR.out]; exact HD.out), HRR.out] at he
        obtain ⟨o9, tv9, ts9, z1, z2, z3⟩ := HO.out
        have hall := own_trans HTT.out.1 HTT.out.2 z2 z3
        exact ⟨by rw [← he]; rfl, o9, tv9, ts9, by rw [← he]; exact z1, hall.1, hall.2⟩
      · have h0i : ¬ (d : Int) = 0 := by omega
        go_wp2_with (go_at_call 53; refine HRO.out.mono ?_; rintro e w2 ⟨rfl, ho⟩; have HO := Lib.hid ho; clear ho)
        go_roundw
        case rel =>
          have he := HEQ.out
          rw [St.rob_next _ _ _ _ hlt (by rw [HRR.out, HD.out]; exact h0), HRR.out, HD.out] at he
          obtain ⟨o9, tv9, ts9, z1, z2, z3⟩ := HO.out
          have hall := own_trans HTT.out.1 HTT.out.2 z2 z3
          have hl1 := HLEN.out
          have hl2 := HFA.out.2.2.1
          rw [HD.out] at hl2
          exact ⟨f, n + d, o9, tv9, ts9, rr.1, by go_num, by omega, by omega, z1, he, by omega, hall.1, hall.2⟩
        case measure => simp [intOf]; omega
    · obtain rfl : n = most := by omega
      have he := HEQ.out
      rw [St.rob_end _ _ _ _ hlt] at he
      have HE2 := Lib.hid he
      clear he
      go_wp2
      go_ret
      exact ⟨by rw [← HE2.out]; rfl, o1, tv1, ts1, by rw [← HE2.out]; exact HSW.out, HTT.out⟩
end Go.Proofs.YtikcnioooihncaaGreat
