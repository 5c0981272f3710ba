/-
  Layer 6's Pick, walked.
  Layer 6's Pick once more: a kill.
  Layer 6's Pick once more: a tick.
  Layer 6's Pick once more: a step of one that is at its end.
  Layer 6's Pick once more: a step with an access.
  Layer 6's Pick once more: a step whose access is refused.
  Layer 6's Pick, whatever is picked.
-/
import Derived.Test.YtjachppnlmiloaaGreatP09
namespace Go.Proofs.YtjachppnlmiloaaGreat
open Go.RowKit

/-- An event is traced. -/
def St.push (st : St) (e : Ev) : St := { st with tr := st.tr ++ [e] }
/-- An actor is killed. -/
def St.kill (st : St) (i : Nat) : St := { st with dead := upd st.dead i true }

/-- What a pick does: the state, the error, the event. -/
def St.pick (st : St) (p : Pk) : St × Int × Ev :=
  if st.chk p = 0 then
    if p.K = 1 then ((st.kill p.A.toNat).push (.bare p), 0, .bare p)
    else if p.K = 2 then ((st.ticks (wrap64 (st.clock + p.N)) st.na).push (.bare p), 0, .bare p)
    else match (st.ms p.A.toNat).next with
      | none => (st.push (.bare p), 0, .bare p)
      | some a => if a.err st.nw = 0 then (st.did p p.A.toNat a, 0, ⟨p, a, a.ans st.m⟩) else (st.kill p.A.toNat, a.err st.nw, Ev.zero)
  else (st, st.chk p, Ev.zero)

/-- A pick was done: its event is told, its bytes lie in new memory that is nobody's. -/
def PickTold (o : Nat → Pt) (gw ga gb hb : Nat) (ax : Nat → Value) (st' : St) (r : Int) (v : Ev) (w : World) (e : Ending) (w' : World) : Prop :=
  ∃ o' A1 l1 c1 A2 l2 c2 tv' ts', e = .returned (.tuple #[.agg #[.int .i64 v.pk.K, .int .i64 v.pk.A, .int .i64 v.pk.N, .int .i64 v.ac.K, .int .i64 v.ac.P, .int .i64 v.ac.N, .int .u64 v.ac.V, .int .u64 v.ac.U, .slice A1 l1 c1, .int .u64 v.an.V, .bool v.an.D, .slice A2 l2 c2], .int .i64 r]) ∧
    BytesIn (fun k => w.heap.size ≤ k ∧ o' k = .no) w' (.slice A1 l1 c1) v.ac.bs ∧ BytesIn (fun k => w.heap.size ≤ k ∧ o' k = .no) w' (.slice A2 l2 c2) v.an.bs ∧
    Sw w' o' gw ga gb hb ax tv' ts' st' ∧ Touch (Own o) w w' ∧ ∀ k, k < w.heap.size → o' k = o k

/-- What Pick boxes: the pick, a place for the event. -/
structure PickBox (b : Nat) (W : World) (p : Pk) : Prop where
  pk : W.heap[b]? = some (.cells #[.int .i64 p.K, .int .i64 p.A, .int .i64 p.N] 80 (0, 0))
  ev : EvNew (b + 1) W

theorem PickBox.keep {b : Nat} {W W' : World} {p : Pk} (h : PickBox b W p) (hk : ∀ k, b ≤ k → k < W.heap.size → W'.heap[k]? = W.heap[k]?) : PickBox b W' p :=
  ⟨(hk b (Nat.le_refl _) (Array.getElem?_eq_some_iff.1 h.pk).1).trans h.pk, h.ev.of_block (hk _ (Nat.le_succ _) h.ev.lt)⟩

theorem pick_boxes (w : World) (p : Pk) (W : World) (hW : W = (w.alloc (.cells #[.int .i64 p.K, .int .i64 p.A, .int .i64 p.N] 80)).alloc (.cells #[.int .i64 0, .int .i64 0, .int .i64 0, .int .i64 0, .int .i64 0, .int .i64 0, .int .u64 0, .int .u64 0, .slice none 0 0, .int .u64 0, .bool false, .slice none 0 0] 82)) :
    Below w.heap.size w W ∧ PickBox w.heap.size W p ∧ W.heap.size = w.heap.size + 1 + 1 := by
  subst hW
  have HW := ((Below.refl w.heap.size w).alloc (Nat.le_refl _) (.cells #[.int .i64 p.K, .int .i64 p.A, .int .i64 p.N] 80)).alloc (by simp) (.cells #[.int .i64 0, .int .i64 0, .int .i64 0, .int .i64 0, .int .i64 0, .int .i64 0, .int .u64 0, .int .u64 0, .slice none 0 0, .int .u64 0, .bool false, .slice none 0 0] 82)
  have e1 : (w.alloc (.cells #[.int .i64 p.K, .int .i64 p.A, .int .i64 p.N] 80)).heap.size = w.heap.size + 1 := by simp
  have x0 := Go.Deep.blk_alloc_new w (.cells #[.int .i64 p.K, .int .i64 p.A, .int .i64 p.N] 80)
  generalize w.alloc (.cells #[.int .i64 p.K, .int .i64 p.A, .int .i64 p.N] 80) = W1 at *
  have x1 := Go.Deep.blk_alloc_new W1 (.cells #[.int .i64 0, .int .i64 0, .int .i64 0, .int .i64 0, .int .i64 0, .int .i64 0, .int .u64 0, .int .u64 0, .slice none 0 0, .int .u64 0, .bool false, .slice none 0 0] 82)
  rw [e1] at x1
  exact ⟨HW, ⟨(Below.heap_alloc W1 _ w.heap.size (by omega)).trans x0, ⟨x1⟩⟩, by simp [e1]⟩

set_option maxRecDepth 100000 in
set_option maxHeartbeats 2000000 in
theorem pick_no {w : World} {o : Nat → Pt} {gw ga gb hb : Nat} {ax : Nat → Value} {tv : Value} {ts : List Tx} {st : St} (h : Sw w o gw ga gb hb ax tv ts st) (p : Pk) (h0 : st.chk p ≠ 0) :
    Calls Tryz.prog 35 #[.pointer (some ⟨gw, 0, none⟩), .agg #[.int .i64 p.K, .int .i64 p.A, .int .i64 p.N]] w (PickTold o gw ga gb hb ax st (st.chk p) Ev.zero w) := by
  have HS := Lib.hid h
  clear h
  generalize hr : st.chk p = r at h0 ⊢
  have HR := Lib.hid hr
  have hr0 : (r != 0) = true := by simpa using h0
  clear hr h0
  obtain ⟨WW, hWW⟩ : ∃ WW, WW = (w.alloc (.cells #[.int .i64 p.K, .int .i64 p.A, .int .i64 p.N] 80)).alloc (.cells #[.int .i64 0, .int .i64 0, .int .i64 0, .int .i64 0, .int .i64 0, .int .i64 0, .int .u64 0, .int .u64 0, .slice none 0 0, .int .u64 0, .bool false, .slice none 0 0] 82) := ⟨_, rfl⟩
  have HB := Lib.hid (pick_boxes w p WW hWW)
  go_enter Tryz.func35, Tryz.ntmps35
  go_upto_region 1 with fail
  rw [← hWW]
  clear hWW
  obtain ⟨hb0, hx0, hsz0⟩ := HB.out
  have HSW := Lib.hid (HS.out.below hb0)
  have p0 : WW.cell? ⟨w.heap.size, 0, none⟩ = some (.int .i64 p.K) := by simp [World.cell?, hx0.pk]
  have p1 : WW.cell? ⟨w.heap.size, 1, none⟩ = some (.int .i64 p.A) := by simp [World.cell?, hx0.pk]
  have p2 : WW.cell? ⟨w.heap.size, 2, none⟩ = some (.int .i64 p.N) := by simp [World.cell?, hx0.pk]
  clear hx0
  go_wp2_with (go_at_call 64; refine (pickCheck_any HSW.out p).mono ?_; rintro e w1 ⟨rfl, hb1⟩; rw [HR.out]; have HEV := HB.out.2.1.ev.below hb1; have r0 := HEV.e0; have r1 := HEV.e1; have r2 := HEV.e2; have r3 := HEV.e3; have r4 := HEV.e4; have r5 := HEV.e5; have r6 := HEV.e6; have r7 := HEV.e7; have r8 := HEV.e8; have r9 := HEV.e9; have r10 := HEV.e10; have r11 := HEV.e11; have f0 := HEV.free 0; have f1 := HEV.free 1; have f2 := HEV.free 2; have f3 := HEV.free 3; have f4 := HEV.free 4; have f5 := HEV.free 5; have f6 := HEV.free 6; have f7 := HEV.free 7; have f8 := HEV.free 8; have f9 := HEV.free 9; have f10 := HEV.free 10; have f11 := HEV.free 11; clear HEV)
  refine bodyPost_ret (v := .tuple #[.agg #[.int .i64 0, .int .i64 0, .int .i64 0, .int .i64 0, .int .i64 0, .int .i64 0, .int .u64 0, .int .u64 0, .slice none 0 0, .int .u64 0, .bool false, .slice none 0 0], .int .i64 r]) (by simp [results, Tryz.results35, go_sem, r0, r1, r2, r3, r4, r5, r6, r7, r8, r9, r10, r11]) rfl ?_
  have ht12 := twelve_touch w1 (w.heap.size + 1) (.int .i64 0) (.int .i64 0) (.int .i64 0) (.int .i64 0) (.int .i64 0) (.int .i64 0) (.int .u64 0) (.int .u64 0) (.slice none 0 0) (.int .u64 0) (.bool false) (.slice none 0 0)
  refine ⟨o, none, 0, 0, none, 0, 0, tv, ts, rfl, BytesIn.none _ _, BytesIn.none _ _, (HSW.out.below hb1).touch ht12 fun k hk e => ?_, ((Touch.of_below hb0).trans (Touch.of_below hb1)).trans' ht12 (Nat.le_succ _), fun _ _ => rfl⟩
  have := HS.out.lt k hk
  omega
end Go.Proofs.YtjachppnlmiloaaGreat
namespace Go.Proofs.YtjachppnlmiloaaGreat
open Go.RowKit

set_option maxRecDepth 100000 in
set_option maxHeartbeats 4000000 in
theorem pick_kill {w : World} {o : Nat → Pt} {gw ga gb hb : Nat} {ax : Nat → Value} {tv : Value} {ts : List Tx} {st : St} (h : Sw w o gw ga gb hb ax tv ts st) (p : Pk) (h0 : st.chk p = 0) (hK : p.K = 1) (i : Nat) (hp : p.A = (i : Nat)) (hi : i < st.na) (hlong : ts.length ≤ 1000000) :
    Calls Tryz.prog 35 #[.pointer (some ⟨gw, 0, none⟩), .agg #[.int .i64 p.K, .int .i64 p.A, .int .i64 p.N]] w (PickTold o gw ga gb hb ax ((st.kill i).push (.bare p)) 0 (.bare p) w) := by
  have HS := Lib.hid h
  have HR := Lib.hid h0
  have HL := Lib.hid hlong
  have HK := Lib.hid hK
  have hfew := h.few
  have HP := Lib.hid hp
  clear hp
  clear h h0 hlong hK
  obtain ⟨WW, hWW⟩ : ∃ WW, WW = (w.alloc (.cells #[.int .i64 p.K, .int .i64 p.A, .int .i64 p.N] 80)).alloc (.cells #[.int .i64 0, .int .i64 0, .int .i64 0, .int .i64 0, .int .i64 0, .int .i64 0, .int .u64 0, .int .u64 0, .slice none 0 0, .int .u64 0, .bool false, .slice none 0 0] 82) := ⟨_, rfl⟩
  have HB := Lib.hid (pick_boxes w p WW hWW)
  go_enter Tryz.func35, Tryz.ntmps35
  go_upto_region 1 with fail
  rw [← hWW]
  clear hWW
  obtain ⟨hb0, hx0, hsz0⟩ := HB.out
  have HSW := Lib.hid (HS.out.below hb0)
  have p0 : WW.cell? ⟨w.heap.size, 0, none⟩ = some (.int .i64 p.K) := by simp [World.cell?, hx0.pk]
  have p1 : WW.cell? ⟨w.heap.size, 1, none⟩ = some (.int .i64 p.A) := by simp [World.cell?, hx0.pk]
  have p2 : WW.cell? ⟨w.heap.size, 2, none⟩ = some (.int .i64 p.N) := by simp [World.cell?, hx0.pk]
  clear hx0
  go_upto_region 2 with (go_at_call 64; refine (pickCheck_any HSW.out p).mono ?_; rintro e w1 ⟨rfl, hb1⟩; rw [HR.out])
  have HBX := Lib.hid (HB.out.2.1.keep (W' := w1) fun k _ hk => hb1.block k hk)
  have HS1 := Lib.hid (HSW.out.below hb1)
  have HT1 := Lib.hid ((Touch.of_below (S := Own o) hb0).trans (Touch.of_below hb1))
  have hsz1 := hb1.size
  have q0 : w1.cell? ⟨w.heap.size, 0, none⟩ = some (.int .i64 1) := by rw [← HK.out]; simp [World.cell?, HBX.out.pk]
  have q1 : w1.cell? ⟨w.heap.size, 1, none⟩ = some (.int .i64 (i : Nat)) := by rw [← HP.out]; simp [World.cell?, HBX.out.pk]
  have q2 : w1.cell? ⟨w.heap.size, 2, none⟩ = some (.int .i64 p.N) := by simp [World.cell?, HBX.out.pk]
  clear p0 p1 p2 hb1 hb0
  have w1c := HS1.out.w1
  have dd := HS1.out.adead hi
  have dz := HS1.out.afree (i * 2 + 1)
  have hga := HS1.out.ga_lt
  have hga0 := HS.out.ga_lt
  have HBX3 := Lib.hid (HBX.out.keep (W' := (w1.setCell ⟨ga, i * 2 + 1, none⟩ (.bool true)).drew) fun k hk _ => Below.heap_setCell w1 ⟨ga, i * 2 + 1, none⟩ _ _ (by show k ≠ ga; omega))
  obtain ⟨o3, HS3, HT3⟩ : ∃ o3, Hid (Sw (w1.setCell ⟨ga, i * 2 + 1, none⟩ (.bool true)).drew o3 gw ga gb hb ax tv ts (st.kill i)) ∧ Hid (Touch (Own o) w (w1.setCell ⟨ga, i * 2 + 1, none⟩ (.bool true)).drew ∧ (∀ k, k < w.heap.size → o3 k = o k) ∧ (∀ k, w.heap.size ≤ k → k < w.heap.size + 1 + 1 → o3 k = .no)) :=
    ⟨o, Lib.hid (HS1.out.setDead (i := i)).drew, Lib.hid ⟨(HT1.out.setCell (p := ⟨ga, i * 2 + 1, none⟩) (by unfold Own; rw [HS.out.oga]; simp) (.bool true)).drew, fun _ _ => rfl, fun k hk _ => HS.out.new_no hk⟩⟩
  go_wp2_with fail
  go_region
  generalize (w1.setCell ⟨ga, i * 2 + 1, none⟩ (.bool true)).drew = W3 at HS3 HT3 HBX3 ⊢
  clear w1c dd dz q0 q1 q2
  have u0 : W3.cell? ⟨w.heap.size, 0, none⟩ = some (.int .i64 p.K) := by simp [World.cell?, HBX3.out.pk]
  have u1 : W3.cell? ⟨w.heap.size, 1, none⟩ = some (.int .i64 p.A) := by simp [World.cell?, HBX3.out.pk]
  have u2 : W3.cell? ⟨w.heap.size, 2, none⟩ = some (.int .i64 p.N) := by simp [World.cell?, HBX3.out.pk]
  go_upto_region 13 with fail
  generalize hW5 : W3.alloc (.cells #[.int .i64 p.K, .int .i64 p.A, .int .i64 p.N, .int .i64 0, .int .i64 0, .int .i64 0, .int .u64 0, .int .u64 0, .slice none 0 0, .int .u64 0, .bool false, .slice none 0 0] 82) = W5
  have hb5 : Below W3.heap.size W3 W5 := by rw [← hW5]; exact (Below.refl _ W3).alloc (Nat.le_refl _) _
  have HE5 : Hid (EvAt W3.heap.size W5 p Ac.zero An.zero (.slice none 0 0) (.slice none 0 0)) := Lib.hid ⟨by rw [← hW5]; exact Go.Deep.blk_alloc_new _ _⟩
  have HS5 := Lib.hid (HS3.out.below hb5)
  have HBX5 := Lib.hid (HBX3.out.keep (W' := W5) fun k _ hk => hb5.block k hk)
  have hls5 := HE5.out.lt
  have hgw5 := HS5.out.gw_lt
  have w35 := HS5.out.w3
  have hz3 := HS5.out.wfree 3
  have hsz5 := hb5.size
  have hszw := HT3.out.1.size
  have hno3 : ∀ k, w.heap.size ≤ k → k < w.heap.size + 1 + 1 → o3 k = .no := HT3.out.2.2
  have hnoE : o3 W3.heap.size = .no := HS3.out.new_no (Nat.le_refl _)
  have nng := HS5.out.row_ne (k := gw) (by rw [HS5.out.ogw]; simp)
  have nn5 := HS5.out.row_ne (k := W3.heap.size) (by rw [hnoE]; simp)
  clear hW5 u0 u1 u2
  have v0 : W5.cell? ⟨W3.heap.size, 0, none⟩ = some (.int .i64 p.K) := HE5.out.e0
  have v1 : W5.cell? ⟨W3.heap.size, 1, none⟩ = some (.int .i64 p.A) := HE5.out.e1
  have v2 : W5.cell? ⟨W3.heap.size, 2, none⟩ = some (.int .i64 p.N) := HE5.out.e2
  have v3 : W5.cell? ⟨W3.heap.size, 3, none⟩ = some (.int .i64 0) := HE5.out.e3
  have v4 : W5.cell? ⟨W3.heap.size, 4, none⟩ = some (.int .i64 0) := HE5.out.e4
  have v5 : W5.cell? ⟨W3.heap.size, 5, none⟩ = some (.int .i64 0) := HE5.out.e5
  have v6 : W5.cell? ⟨W3.heap.size, 6, none⟩ = some (.int .u64 0) := HE5.out.e6
  have v7 : W5.cell? ⟨W3.heap.size, 7, none⟩ = some (.int .u64 0) := HE5.out.e7
  have v8 : W5.cell? ⟨W3.heap.size, 8, none⟩ = some (.slice none 0 0) := HE5.out.e8
  have v9 : W5.cell? ⟨W3.heap.size, 9, none⟩ = some (.int .u64 0) := HE5.out.e9
  have v10 : W5.cell? ⟨W3.heap.size, 10, none⟩ = some (.bool false) := HE5.out.e10
  have v11 : W5.cell? ⟨W3.heap.size, 11, none⟩ = some (.slice none 0 0) := HE5.out.e11
  have hn2 : ¬ gw = W3.heap.size := by have := HS3.out.gw_lt; omega
  have hn3 : ¬ W3.heap.size = gw := fun e => hn2 e.symm
  go_cut [] (fun wx => ∃ (o2 : Nat → Pt) (tv2 : Value) (ts2 : List Tx), Sw wx o2 gw ga gb hb ax tv2 ts2 ((st.kill i).push (.bare p)) ∧ Touch (Own o3) W5 wx ∧ ∀ k, k < W5.heap.size → o2 k = o3 k)
  case first =>
    refine wp_region_noPanic ?_
    refine wp_region_held_drew (S := fun w' => w'.cell? ⟨W3.heap.size, 0, none⟩ = some (.int .i64 p.K) ∧ w'.cell? ⟨W3.heap.size, 1, none⟩ = some (.int .i64 p.A) ∧ w'.cell? ⟨W3.heap.size, 2, none⟩ = some (.int .i64 p.N) ∧ w'.cell? ⟨W3.heap.size, 3, none⟩ = some (.int .i64 0) ∧ w'.cell? ⟨W3.heap.size, 4, none⟩ = some (.int .i64 0) ∧ w'.cell? ⟨W3.heap.size, 5, none⟩ = some (.int .i64 0) ∧ w'.cell? ⟨W3.heap.size, 6, none⟩ = some (.int .u64 0) ∧ w'.cell? ⟨W3.heap.size, 7, none⟩ = some (.int .u64 0) ∧ w'.cell? ⟨W3.heap.size, 8, none⟩ = some (.slice none 0 0) ∧ w'.cell? ⟨W3.heap.size, 9, none⟩ = some (.int .u64 0) ∧ w'.cell? ⟨W3.heap.size, 10, none⟩ = some (.bool false) ∧ w'.cell? ⟨W3.heap.size, 11, none⟩ = some (.slice none 0 0)) (by kernel_rfl) ?_ (fun hHeld => ?_)
    · (try dsimp only); go_keep
    refine wpAnyH_take (i := 0) (oi := _) (v := ?_) rfl (by kernel_rfl) (by kernel_rfl) (by kernel_rfl) (fun _ _ _ h => h) (Or.inl ⟨by rfl, ?_⟩) (by assumption) ?_
    rotate_left
    · (intro w hSw; (try dsimp only at hSw); go_simp; try (with_reducible rfl))
    try simp only [Act.put, Array.reduceGetElem, List.setIfInBounds_toArray, List.set_cons_zero, List.set_cons_succ]
    refine wpAnyH_take (i := 1) (oi := _) (v := ?_) rfl (by kernel_rfl) (by kernel_rfl) (by kernel_rfl) (fun _ _ _ h => h) (Or.inl ⟨by rfl, ?_⟩) (by assumption) ?_
    rotate_left
    · (intro w hSw; (try dsimp only at hSw); go_simp; try (with_reducible rfl))
    try simp only [Act.put, Array.reduceGetElem, List.setIfInBounds_toArray, List.set_cons_zero, List.set_cons_succ]
    refine wpAnyH_take (i := 2) (oi := _) (v := ?_) rfl (by kernel_rfl) (by kernel_rfl) (by kernel_rfl) (fun _ _ _ h => h) (Or.inl ⟨by rfl, ?_⟩) (by assumption) ?_
    rotate_left
    · (intro w hSw; (try dsimp only at hSw); go_simp; try (with_reducible rfl))
    try simp only [Act.put, Array.reduceGetElem, List.setIfInBounds_toArray, List.set_cons_zero, List.set_cons_succ]
    refine wpAnyH_take (i := 3) (oi := _) (v := ?_) rfl (by kernel_rfl) (by kernel_rfl) (by kernel_rfl) (fun _ _ _ h => h) (Or.inl ⟨by rfl, ?_⟩) (by assumption) ?_
    rotate_left
    · (intro w hSw; (try dsimp only at hSw); go_simp; try (with_reducible rfl))
    try simp only [Act.put, Array.reduceGetElem, List.setIfInBounds_toArray, List.set_cons_zero, List.set_cons_succ]
    refine wpAnyH_take (i := 5) (oi := _) (v := ?_) rfl (by kernel_rfl) (by kernel_rfl) (by kernel_rfl) (fun _ _ _ h => h) (Or.inl ⟨by rfl, ?_⟩) (by assumption) ?_
    rotate_left
    · (intro w hSw; (try dsimp only at hSw); go_simp; try (with_reducible rfl))
    try simp only [Act.put, Array.reduceGetElem, List.setIfInBounds_toArray, List.set_cons_zero, List.set_cons_succ]
    refine wpAnyH_ready (rs := [4, 6]) (by kernel_rfl) (by simp) ?_
    refine AllReadyH.cons (o := _) rfl (fun K9 hK => ?_) ?_
    rotate_left
    · refine AllReadyH.cons (o := _) rfl (fun K9 hK => ?_) ?_
      rotate_left
      · exact AllReadyH.nil
      go_simp
      refine hK.out _ _ ?_ (fun hHeld => ?_)
      · (try dsimp only); go_keep
      clear hK K9
      try simp only [Act.put, Array.reduceGetElem, List.setIfInBounds_toArray, List.set_cons_zero, List.set_cons_succ]
      refine wpAnyH_ready (rs := [4]) (by kernel_rfl) (by simp) ?_
      refine AllReadyH.cons (o := _) rfl (fun K9 hK => ?_) ?_
      rotate_left
      · exact AllReadyH.nil
      go_simp
      refine hK.out _ _ ?_ (fun hHeld => ?_)
      · (try dsimp only); go_keep
      clear hK K9
      try simp only [Act.put, Array.reduceGetElem, List.setIfInBounds_toArray, List.set_cons_zero, List.set_cons_succ]
      refine wpAnyH_ready (rs := [7]) (by kernel_rfl) (by simp) ?_
      refine AllReadyH.cons (o := _) rfl (fun K9 hK => ?_) ?_
      rotate_left
      · exact AllReadyH.nil
      refine step_app_ev rfl _ _ rfl tv ts.length _ ⟨.bare p, .slice none 0 0, .slice none 0 0⟩ _ _ rfl rfl ((HS5.out.drew).alloc _).tr.row (Go.Deep.blk_alloc_new _ _) rfl rfl HL.out ?_
      intro v7 w7 happ
      obtain ⟨g7, q7, rfl⟩ := happ.form
      have kf7 := fun (q : Addr) (hq : q.block < W5.heap.size) (hnq : tv.ownBlock ≠ some q.block) => app_cell ((Below.refl _ W5).drew.alloc (Nat.le_refl _) _) happ hq hnq
      have kg7 := (kf7 ⟨gw, 3, none⟩ hgw5 nng).trans w35
      have kw0 := (kf7 ⟨W3.heap.size, 0, none⟩ hls5 nn5).trans v0
      have kw1 := (kf7 ⟨W3.heap.size, 1, none⟩ hls5 nn5).trans v1
      have kw2 := (kf7 ⟨W3.heap.size, 2, none⟩ hls5 nn5).trans v2
      have kw3 := (kf7 ⟨W3.heap.size, 3, none⟩ hls5 nn5).trans v3
      have kw4 := (kf7 ⟨W3.heap.size, 4, none⟩ hls5 nn5).trans v4
      have kw5 := (kf7 ⟨W3.heap.size, 5, none⟩ hls5 nn5).trans v5
      have kw6 := (kf7 ⟨W3.heap.size, 6, none⟩ hls5 nn5).trans v6
      have kw7 := (kf7 ⟨W3.heap.size, 7, none⟩ hls5 nn5).trans v7
      have kw8 := (kf7 ⟨W3.heap.size, 8, none⟩ hls5 nn5).trans v8
      have kw9 := (kf7 ⟨W3.heap.size, 9, none⟩ hls5 nn5).trans v9
      have kw10 := (kf7 ⟨W3.heap.size, 10, none⟩ hls5 nn5).trans v10
      have kw11 := (kf7 ⟨W3.heap.size, 11, none⟩ hls5 nn5).trans v11
      have kz7 := (app_frozen ((Below.refl _ W5).drew.alloc (Nat.le_refl _) _) happ (q := ⟨gw, 3, none⟩) hgw5 nng).trans hz3
      clear kf7
      have HAP := Lib.hid happ
      clear happ
      try go_simp
      refine hK.out _ _ ?_ (fun hHeld => ?_)
      · (try dsimp only); go_keep
      clear hK K9
      try simp only [Act.put, Array.reduceGetElem, List.setIfInBounds_toArray, List.set_cons_zero, List.set_cons_succ]
      refine wpAnyH_take (i := 8) (oi := _) (v := ?_) rfl (by kernel_rfl) (by kernel_rfl) (by kernel_rfl) (fun _ _ _ h => h) (Or.inl ⟨by rfl, ?_⟩) (by assumption) ?_
      rotate_left
      · (intro w hSw; (try dsimp only at hSw); go_simp; try (with_reducible rfl))
      try simp only [Act.put, Array.reduceGetElem, List.setIfInBounds_toArray, List.set_cons_zero, List.set_cons_succ]
      refine wpAnyH_take (i := 9) (oi := _) (v := ?_) rfl (by kernel_rfl) (by kernel_rfl) (by kernel_rfl) (fun _ _ _ h => h) (Or.inl ⟨by rfl, ?_⟩) (by assumption) ?_
      rotate_left
      · (intro w hSw; (try dsimp only at hSw); go_simp; try (with_reducible rfl))
      try simp only [Act.put, Array.reduceGetElem, List.setIfInBounds_toArray, List.set_cons_zero, List.set_cons_succ]
      refine wpAnyH_ready (rs := [10]) (by kernel_rfl) (by simp) ?_
      refine AllReadyH.cons (o := _) rfl (fun K9 hK => ?_) ?_
      rotate_left
      · exact AllReadyH.nil
      go_simp
      refine hK.out _ _ ?_ (fun hHeld => ?_)
      · (try dsimp only); go_keep
      clear hK K9
      try simp only [Act.put, Array.reduceGetElem, List.setIfInBounds_toArray, List.set_cons_zero, List.set_cons_succ]
      refine wpAnyH_done (by kernel_rfl) ?_ _
      refine NoPanic.normal ?_
      go_wp2_with fail
      go_meet
      obtain ⟨o9, z1, z2, z3⟩ := HS5.out.setTrace ((Below.refl _ W5).drew.alloc (Nat.le_refl _) _) ⟨.bare p, .slice none 0 0, .slice none 0 0⟩ (BytesIn.none _ _) (BytesIn.none _ _) HAP.out ⟨Nat.zero_le _, Nat.zero_le _⟩
      exact ⟨o9, _, _, z1, z2, z3⟩
    go_simp
    refine hK.out _ _ ?_ (fun hHeld => ?_)
    · (try dsimp only); go_keep
    clear hK K9
    try simp only [Act.put, Array.reduceGetElem, List.setIfInBounds_toArray, List.set_cons_zero, List.set_cons_succ]
    refine wpAnyH_ready (rs := [6]) (by kernel_rfl) (by simp) ?_
    refine AllReadyH.cons (o := _) rfl (fun K9 hK => ?_) ?_
    rotate_left
    · exact AllReadyH.nil
    go_simp
    refine hK.out _ _ ?_ (fun hHeld => ?_)
    · (try dsimp only); go_keep
    clear hK K9
    try simp only [Act.put, Array.reduceGetElem, List.setIfInBounds_toArray, List.set_cons_zero, List.set_cons_succ]
    refine wpAnyH_ready (rs := [7]) (by kernel_rfl) (by simp) ?_
    refine AllReadyH.cons (o := _) rfl (fun K9 hK => ?_) ?_
    rotate_left
    · exact AllReadyH.nil
    refine step_app_ev rfl _ _ rfl tv ts.length _ ⟨.bare p, .slice none 0 0, .slice none 0 0⟩ _ _ rfl rfl ((HS5.out.drew).alloc _).tr.row (Go.Deep.blk_alloc_new _ _) rfl rfl HL.out ?_
    intro v7 w7 happ
    obtain ⟨g7, q7, rfl⟩ := happ.form
    have kf7 := fun (q : Addr) (hq : q.block < W5.heap.size) (hnq : tv.ownBlock ≠ some q.block) => app_cell ((Below.refl _ W5).drew.alloc (Nat.le_refl _) _) happ hq hnq
    have kg7 := (kf7 ⟨gw, 3, none⟩ hgw5 nng).trans w35
    have kw0 := (kf7 ⟨W3.heap.size, 0, none⟩ hls5 nn5).trans v0
    have kw1 := (kf7 ⟨W3.heap.size, 1, none⟩ hls5 nn5).trans v1
    have kw2 := (kf7 ⟨W3.heap.size, 2, none⟩ hls5 nn5).trans v2
    have kw3 := (kf7 ⟨W3.heap.size, 3, none⟩ hls5 nn5).trans v3
    have kw4 := (kf7 ⟨W3.heap.size, 4, none⟩ hls5 nn5).trans v4
    have kw5 := (kf7 ⟨W3.heap.size, 5, none⟩ hls5 nn5).trans v5
    have kw6 := (kf7 ⟨W3.heap.size, 6, none⟩ hls5 nn5).trans v6
    have kw7 := (kf7 ⟨W3.heap.size, 7, none⟩ hls5 nn5).trans v7
    have kw8 := (kf7 ⟨W3.heap.size, 8, none⟩ hls5 nn5).trans v8
    have kw9 := (kf7 ⟨W3.heap.size, 9, none⟩ hls5 nn5).trans v9
    have kw10 := (kf7 ⟨W3.heap.size, 10, none⟩ hls5 nn5).trans v10
    have kw11 := (kf7 ⟨W3.heap.size, 11, none⟩ hls5 nn5).trans v11
    have kz7 := (app_frozen ((Below.refl _ W5).drew.alloc (Nat.le_refl _) _) happ (q := ⟨gw, 3, none⟩) hgw5 nng).trans hz3
    clear kf7
    have HAP := Lib.hid happ
    clear happ
    try go_simp
    refine hK.out _ _ ?_ (fun hHeld => ?_)
    · (try dsimp only); go_keep
    clear hK K9
    try simp only [Act.put, Array.reduceGetElem, List.setIfInBounds_toArray, List.set_cons_zero, List.set_cons_succ]
    refine wpAnyH_take (i := 8) (oi := _) (v := ?_) rfl (by kernel_rfl) (by kernel_rfl) (by kernel_rfl) (fun _ _ _ h => h) (Or.inl ⟨by rfl, ?_⟩) (by assumption) ?_
    rotate_left
    · (intro w hSw; (try dsimp only at hSw); go_simp; try (with_reducible rfl))
    try simp only [Act.put, Array.reduceGetElem, List.setIfInBounds_toArray, List.set_cons_zero, List.set_cons_succ]
    refine wpAnyH_take (i := 9) (oi := _) (v := ?_) rfl (by kernel_rfl) (by kernel_rfl) (by kernel_rfl) (fun _ _ _ h => h) (Or.inl ⟨by rfl, ?_⟩) (by assumption) ?_
    rotate_left
    · (intro w hSw; (try dsimp only at hSw); go_simp; try (with_reducible rfl))
    try simp only [Act.put, Array.reduceGetElem, List.setIfInBounds_toArray, List.set_cons_zero, List.set_cons_succ]
    refine wpAnyH_ready (rs := [10]) (by kernel_rfl) (by simp) ?_
    refine AllReadyH.cons (o := _) rfl (fun K9 hK => ?_) ?_
    rotate_left
    · exact AllReadyH.nil
    go_simp
    refine hK.out _ _ ?_ (fun hHeld => ?_)
    · (try dsimp only); go_keep
    clear hK K9
    try simp only [Act.put, Array.reduceGetElem, List.setIfInBounds_toArray, List.set_cons_zero, List.set_cons_succ]
    refine wpAnyH_done (by kernel_rfl) ?_ _
    refine NoPanic.normal ?_
    go_wp2_with fail
    go_meet
    obtain ⟨o9, z1, z2, z3⟩ := HS5.out.setTrace ((Below.refl _ W5).drew.alloc (Nat.le_refl _) _) ⟨.bare p, .slice none 0 0, .slice none 0 0⟩ (BytesIn.none _ _) (BytesIn.none _ _) HAP.out ⟨Nat.zero_le _, Nat.zero_le _⟩
    exact ⟨o9, _, _, z1, z2, z3⟩
  case rest =>
    obtain ⟨o2, tv2, ts2, hs2, ht2, ho2⟩ := hcut
    have hE := HE5.out.of_block (ht2.block _ hls5 fun e => e hnoE)
    have hV := HBX5.out.ev.of_block (ht2.block _ HBX5.out.ev.lt fun e => e (hno3 _ (by omega) (by omega)))
    have HS7 := Lib.hid hs2
    have HT7 := Lib.hid (And.intro ht2 ho2)
    have e0 : wc.cell? ⟨W3.heap.size, 0, none⟩ = some (.int .i64 p.K) := hE.e0
    have e1 : wc.cell? ⟨W3.heap.size, 1, none⟩ = some (.int .i64 p.A) := hE.e1
    have e2 : wc.cell? ⟨W3.heap.size, 2, none⟩ = some (.int .i64 p.N) := hE.e2
    have e3 : wc.cell? ⟨W3.heap.size, 3, none⟩ = some (.int .i64 0) := hE.e3
    have e4 : wc.cell? ⟨W3.heap.size, 4, none⟩ = some (.int .i64 0) := hE.e4
    have e5 : wc.cell? ⟨W3.heap.size, 5, none⟩ = some (.int .i64 0) := hE.e5
    have e6 : wc.cell? ⟨W3.heap.size, 6, none⟩ = some (.int .u64 0) := hE.e6
    have e7 : wc.cell? ⟨W3.heap.size, 7, none⟩ = some (.int .u64 0) := hE.e7
    have e8 : wc.cell? ⟨W3.heap.size, 8, none⟩ = some (.slice none 0 0) := hE.e8
    have e9 : wc.cell? ⟨W3.heap.size, 9, none⟩ = some (.int .u64 0) := hE.e9
    have e10 : wc.cell? ⟨W3.heap.size, 10, none⟩ = some (.bool false) := hE.e10
    have e11 : wc.cell? ⟨W3.heap.size, 11, none⟩ = some (.slice none 0 0) := hE.e11
    have r0 : wc.cell? ⟨w.heap.size + 1, 0, none⟩ = some (.int .i64 0) := hV.e0
    have f0 := hV.free 0
    have r1 : wc.cell? ⟨w.heap.size + 1, 1, none⟩ = some (.int .i64 0) := hV.e1
    have f1 := hV.free 1
    have r2 : wc.cell? ⟨w.heap.size + 1, 2, none⟩ = some (.int .i64 0) := hV.e2
    have f2 := hV.free 2
    have r3 : wc.cell? ⟨w.heap.size + 1, 3, none⟩ = some (.int .i64 0) := hV.e3
    have f3 := hV.free 3
    have r4 : wc.cell? ⟨w.heap.size + 1, 4, none⟩ = some (.int .i64 0) := hV.e4
    have f4 := hV.free 4
    have r5 : wc.cell? ⟨w.heap.size + 1, 5, none⟩ = some (.int .i64 0) := hV.e5
    have f5 := hV.free 5
    have r6 : wc.cell? ⟨w.heap.size + 1, 6, none⟩ = some (.int .u64 0) := hV.e6
    have f6 := hV.free 6
    have r7 : wc.cell? ⟨w.heap.size + 1, 7, none⟩ = some (.int .u64 0) := hV.e7
    have f7 := hV.free 7
    have r8 : wc.cell? ⟨w.heap.size + 1, 8, none⟩ = some (.slice none 0 0) := hV.e8
    have f8 := hV.free 8
    have r9 : wc.cell? ⟨w.heap.size + 1, 9, none⟩ = some (.int .u64 0) := hV.e9
    have f9 := hV.free 9
    have r10 : wc.cell? ⟨w.heap.size + 1, 10, none⟩ = some (.bool false) := hV.e10
    have f10 := hV.free 10
    have r11 : wc.cell? ⟨w.heap.size + 1, 11, none⟩ = some (.slice none 0 0) := hV.e11
    have f11 := hV.free 11
    clear hE hV hs2 ht2 ho2 v0 v1 v2 v3 v4 v5 v6 v7 v8 v9 v10 v11 w35 hz3
    go_wp2
    refine bodyPost_ret (v := .tuple #[.agg #[.int .i64 p.K, .int .i64 p.A, .int .i64 p.N, .int .i64 0, .int .i64 0, .int .i64 0, .int .u64 0, .int .u64 0, .slice none 0 0, .int .u64 0, .bool false, .slice none 0 0], .int .i64 0]) (by simp [results, Tryz.results35, go_sem, r0, r1, r2, r3, r4, r5, r6, r7, r8, r9, r10, r11]) rfl ?_
    have ht12 := twelve_touch wc (w.heap.size + 1) (.int .i64 p.K) (.int .i64 p.A) (.int .i64 p.N) (.int .i64 0) (.int .i64 0) (.int .i64 0) (.int .u64 0) (.int .u64 0) (.slice none 0 0) (.int .u64 0) (.bool false) (.slice none 0 0)
    have hall := own_trans (HT3.out.1.trans (Touch.of_below hb5)) HT3.out.2.1 HT7.out.1 HT7.out.2
    refine ⟨o2, none, 0, 0, none, 0, 0, tv2, ts2, rfl, BytesIn.none _ _, BytesIn.none _ _, HS7.out.touch ht12 fun k hk e => ?_, hall.1.trans' ht12 (Nat.le_succ _), hall.2⟩
    have e' : k = w.heap.size + 1 := e
    have hlv := HBX5.out.ev.lt
    exact hk ((HT7.out.2 k (by omega)).trans (hno3 k (by omega) (by omega)))

end Go.Proofs.YtjachppnlmiloaaGreat
namespace Go.Proofs.YtjachppnlmiloaaGreat
open Go.RowKit

set_option maxRecDepth 100000 in
set_option maxHeartbeats 4000000 in
theorem pick_tick {w : World} {o : Nat → Pt} {gw ga gb hb : Nat} {ax : Nat → Value} {tv : Value} {ts : List Tx} {st : St} (h : Sw w o gw ga gb hb ax tv ts st) (p : Pk) (h0 : st.chk p = 0) (hK : p.K = 2) (hlong : ts.length ≤ 1000000) :
    Calls Tryz.prog 35 #[.pointer (some ⟨gw, 0, none⟩), .agg #[.int .i64 p.K, .int .i64 p.A, .int .i64 p.N]] w (PickTold o gw ga gb hb ax ((st.ticks (wrap64 (st.clock + p.N)) st.na).push (.bare p)) 0 (.bare p) w) := by
  have HS := Lib.hid h
  have HR := Lib.hid h0
  have HL := Lib.hid hlong
  have HK := Lib.hid hK
  have hfew := h.few
  clear h h0 hlong hK
  obtain ⟨WW, hWW⟩ : ∃ WW, WW = (w.alloc (.cells #[.int .i64 p.K, .int .i64 p.A, .int .i64 p.N] 80)).alloc (.cells #[.int .i64 0, .int .i64 0, .int .i64 0, .int .i64 0, .int .i64 0, .int .i64 0, .int .u64 0, .int .u64 0, .slice none 0 0, .int .u64 0, .bool false, .slice none 0 0] 82) := ⟨_, rfl⟩
  have HB := Lib.hid (pick_boxes w p WW hWW)
  go_enter Tryz.func35, Tryz.ntmps35
  go_upto_region 1 with fail
  rw [← hWW]
  clear hWW
  obtain ⟨hb0, hx0, hsz0⟩ := HB.out
  have HSW := Lib.hid (HS.out.below hb0)
  have p0 : WW.cell? ⟨w.heap.size, 0, none⟩ = some (.int .i64 p.K) := by simp [World.cell?, hx0.pk]
  have p1 : WW.cell? ⟨w.heap.size, 1, none⟩ = some (.int .i64 p.A) := by simp [World.cell?, hx0.pk]
  have p2 : WW.cell? ⟨w.heap.size, 2, none⟩ = some (.int .i64 p.N) := by simp [World.cell?, hx0.pk]
  clear hx0
  go_upto_region 2 with (go_at_call 64; refine (pickCheck_any HSW.out p).mono ?_; rintro e w1 ⟨rfl, hb1⟩; rw [HR.out])
  have HBX := Lib.hid (HB.out.2.1.keep (W' := w1) fun k _ hk => hb1.block k hk)
  have HS1 := Lib.hid (HSW.out.below hb1)
  have HT1 := Lib.hid ((Touch.of_below (S := Own o) hb0).trans (Touch.of_below hb1))
  have hsz1 := hb1.size
  have q0 : w1.cell? ⟨w.heap.size, 0, none⟩ = some (.int .i64 2) := by rw [← HK.out]; simp [World.cell?, HBX.out.pk]
  have q1 : w1.cell? ⟨w.heap.size, 1, none⟩ = some (.int .i64 p.A) := by simp [World.cell?, HBX.out.pk]
  have q2 : w1.cell? ⟨w.heap.size, 2, none⟩ = some (.int .i64 p.N) := by simp [World.cell?, HBX.out.pk]
  clear p0 p1 p2 hb1 hb0
  go_upto_region 12 with (go_at_call 65; refine (tick_any HS1.out p.N _ rfl).mono ?_; rintro e W3 ⟨rfl, ho3⟩)
  obtain ⟨o3, hs3, ht3, ha3⟩ := ho3
  have HBX3 := Lib.hid (HBX.out.keep (W' := W3) fun k hk hl => ht3.block k hl fun e => e (HS.out.new_no hk))
  have hall3 := own_trans HT1.out (fun _ _ => rfl) ht3 ha3
  have HS3 := Lib.hid hs3
  have HT3 : Hid (Touch (Own o) w W3 ∧ (∀ k, k < w.heap.size → o3 k = o k) ∧ (∀ k, w.heap.size ≤ k → k < w.heap.size + 1 + 1 → o3 k = .no)) := Lib.hid ⟨hall3.1, hall3.2, fun k h1 h2 => (ha3 k (by omega)).trans (HS.out.new_no h1)⟩
  clear hs3 ht3 ha3 hall3 q0 q1 q2
  have u0 : W3.cell? ⟨w.heap.size, 0, none⟩ = some (.int .i64 p.K) := by simp [World.cell?, HBX3.out.pk]
  have u1 : W3.cell? ⟨w.heap.size, 1, none⟩ = some (.int .i64 p.A) := by simp [World.cell?, HBX3.out.pk]
  have u2 : W3.cell? ⟨w.heap.size, 2, none⟩ = some (.int .i64 p.N) := by simp [World.cell?, HBX3.out.pk]
  go_upto_region 13 with fail
  generalize hW5 : W3.alloc (.cells #[.int .i64 p.K, .int .i64 p.A, .int .i64 p.N, .int .i64 0, .int .i64 0, .int .i64 0, .int .u64 0, .int .u64 0, .slice none 0 0, .int .u64 0, .bool false, .slice none 0 0] 82) = W5
  have hb5 : Below W3.heap.size W3 W5 := by rw [← hW5]; exact (Below.refl _ W3).alloc (Nat.le_refl _) _
  have HE5 : Hid (EvAt W3.heap.size W5 p Ac.zero An.zero (.slice none 0 0) (.slice none 0 0)) := Lib.hid ⟨by rw [← hW5]; exact Go.Deep.blk_alloc_new _ _⟩
  have HS5 := Lib.hid (HS3.out.below hb5)
  have HBX5 := Lib.hid (HBX3.out.keep (W' := W5) fun k _ hk => hb5.block k hk)
  have hls5 := HE5.out.lt
  have hgw5 := HS5.out.gw_lt
  have w35 := HS5.out.w3
  have hz3 := HS5.out.wfree 3
  have hsz5 := hb5.size
  have hszw := HT3.out.1.size
  have hno3 : ∀ k, w.heap.size ≤ k → k < w.heap.size + 1 + 1 → o3 k = .no := HT3.out.2.2
  have hnoE : o3 W3.heap.size = .no := HS3.out.new_no (Nat.le_refl _)
  have nng := HS5.out.row_ne (k := gw) (by rw [HS5.out.ogw]; simp)
  have nn5 := HS5.out.row_ne (k := W3.heap.size) (by rw [hnoE]; simp)
  clear hW5 u0 u1 u2
  have v0 : W5.cell? ⟨W3.heap.size, 0, none⟩ = some (.int .i64 p.K) := HE5.out.e0
  have v1 : W5.cell? ⟨W3.heap.size, 1, none⟩ = some (.int .i64 p.A) := HE5.out.e1
  have v2 : W5.cell? ⟨W3.heap.size, 2, none⟩ = some (.int .i64 p.N) := HE5.out.e2
  have v3 : W5.cell? ⟨W3.heap.size, 3, none⟩ = some (.int .i64 0) := HE5.out.e3
  have v4 : W5.cell? ⟨W3.heap.size, 4, none⟩ = some (.int .i64 0) := HE5.out.e4
  have v5 : W5.cell? ⟨W3.heap.size, 5, none⟩ = some (.int .i64 0) := HE5.out.e5
  have v6 : W5.cell? ⟨W3.heap.size, 6, none⟩ = some (.int .u64 0) := HE5.out.e6
  have v7 : W5.cell? ⟨W3.heap.size, 7, none⟩ = some (.int .u64 0) := HE5.out.e7
  have v8 : W5.cell? ⟨W3.heap.size, 8, none⟩ = some (.slice none 0 0) := HE5.out.e8
  have v9 : W5.cell? ⟨W3.heap.size, 9, none⟩ = some (.int .u64 0) := HE5.out.e9
  have v10 : W5.cell? ⟨W3.heap.size, 10, none⟩ = some (.bool false) := HE5.out.e10
  have v11 : W5.cell? ⟨W3.heap.size, 11, none⟩ = some (.slice none 0 0) := HE5.out.e11
  have hn2 : ¬ gw = W3.heap.size := by have := HS3.out.gw_lt; omega
  have hn3 : ¬ W3.heap.size = gw := fun e => hn2 e.symm
  go_cut [] (fun wx => ∃ (o2 : Nat → Pt) (tv2 : Value) (ts2 : List Tx), Sw wx o2 gw ga gb hb ax tv2 ts2 ((st.ticks (wrap64 (st.clock + p.N)) st.na).push (.bare p)) ∧ Touch (Own o3) W5 wx ∧ ∀ k, k < W5.heap.size → o2 k = o3 k)
  case first =>
    refine wp_region_noPanic ?_
    refine wp_region_held_drew (S := fun w' => w'.cell? ⟨W3.heap.size, 0, none⟩ = some (.int .i64 p.K) ∧ w'.cell? ⟨W3.heap.size, 1, none⟩ = some (.int .i64 p.A) ∧ w'.cell? ⟨W3.heap.size, 2, none⟩ = some (.int .i64 p.N) ∧ w'.cell? ⟨W3.heap.size, 3, none⟩ = some (.int .i64 0) ∧ w'.cell? ⟨W3.heap.size, 4, none⟩ = some (.int .i64 0) ∧ w'.cell? ⟨W3.heap.size, 5, none⟩ = some (.int .i64 0) ∧ w'.cell? ⟨W3.heap.size, 6, none⟩ = some (.int .u64 0) ∧ w'.cell? ⟨W3.heap.size, 7, none⟩ = some (.int .u64 0) ∧ w'.cell? ⟨W3.heap.size, 8, none⟩ = some (.slice none 0 0) ∧ w'.cell? ⟨W3.heap.size, 9, none⟩ = some (.int .u64 0) ∧ w'.cell? ⟨W3.heap.size, 10, none⟩ = some (.bool false) ∧ w'.cell? ⟨W3.heap.size, 11, none⟩ = some (.slice none 0 0)) (by kernel_rfl) ?_ (fun hHeld => ?_)
    · (try dsimp only); go_keep
    refine wpAnyH_take (i := 0) (oi := _) (v := ?_) rfl (by kernel_rfl) (by kernel_rfl) (by kernel_rfl) (fun _ _ _ h => h) (Or.inl ⟨by rfl, ?_⟩) (by assumption) ?_
    rotate_left
    · (intro w hSw; (try dsimp only at hSw); go_simp; try (with_reducible rfl))
    try simp only [Act.put, Array.reduceGetElem, List.setIfInBounds_toArray, List.set_cons_zero, List.set_cons_succ]
    refine wpAnyH_take (i := 1) (oi := _) (v := ?_) rfl (by kernel_rfl) (by kernel_rfl) (by kernel_rfl) (fun _ _ _ h => h) (Or.inl ⟨by rfl, ?_⟩) (by assumption) ?_
    rotate_left
    · (intro w hSw; (try dsimp only at hSw); go_simp; try (with_reducible rfl))
    try simp only [Act.put, Array.reduceGetElem, List.setIfInBounds_toArray, List.set_cons_zero, List.set_cons_succ]
    refine wpAnyH_take (i := 2) (oi := _) (v := ?_) rfl (by kernel_rfl) (by kernel_rfl) (by kernel_rfl) (fun _ _ _ h => h) (Or.inl ⟨by rfl, ?_⟩) (by assumption) ?_
    rotate_left
    · (intro w hSw; (try dsimp only at hSw); go_simp; try (with_reducible rfl))
    try simp only [Act.put, Array.reduceGetElem, List.setIfInBounds_toArray, List.set_cons_zero, List.set_cons_succ]
    refine wpAnyH_take (i := 3) (oi := _) (v := ?_) rfl (by kernel_rfl) (by kernel_rfl) (by kernel_rfl) (fun _ _ _ h => h) (Or.inl ⟨by rfl, ?_⟩) (by assumption) ?_
    rotate_left
    · (intro w hSw; (try dsimp only at hSw); go_simp; try (with_reducible rfl))
    try simp only [Act.put, Array.reduceGetElem, List.setIfInBounds_toArray, List.set_cons_zero, List.set_cons_succ]
    refine wpAnyH_take (i := 5) (oi := _) (v := ?_) rfl (by kernel_rfl) (by kernel_rfl) (by kernel_rfl) (fun _ _ _ h => h) (Or.inl ⟨by rfl, ?_⟩) (by assumption) ?_
    rotate_left
    · (intro w hSw; (try dsimp only at hSw); go_simp; try (with_reducible rfl))
    try simp only [Act.put, Array.reduceGetElem, List.setIfInBounds_toArray, List.set_cons_zero, List.set_cons_succ]
    refine wpAnyH_ready (rs := [4, 6]) (by kernel_rfl) (by simp) ?_
    refine AllReadyH.cons (o := _) rfl (fun K9 hK => ?_) ?_
    rotate_left
    · refine AllReadyH.cons (o := _) rfl (fun K9 hK => ?_) ?_
      rotate_left
      · exact AllReadyH.nil
      go_simp
      refine hK.out _ _ ?_ (fun hHeld => ?_)
      · (try dsimp only); go_keep
      clear hK K9
      try simp only [Act.put, Array.reduceGetElem, List.setIfInBounds_toArray, List.set_cons_zero, List.set_cons_succ]
      refine wpAnyH_ready (rs := [4]) (by kernel_rfl) (by simp) ?_
      refine AllReadyH.cons (o := _) rfl (fun K9 hK => ?_) ?_
      rotate_left
      · exact AllReadyH.nil
      go_simp
      refine hK.out _ _ ?_ (fun hHeld => ?_)
      · (try dsimp only); go_keep
      clear hK K9
      try simp only [Act.put, Array.reduceGetElem, List.setIfInBounds_toArray, List.set_cons_zero, List.set_cons_succ]
      refine wpAnyH_ready (rs := [7]) (by kernel_rfl) (by simp) ?_
      refine AllReadyH.cons (o := _) rfl (fun K9 hK => ?_) ?_
      rotate_left
      · exact AllReadyH.nil
      refine step_app_ev rfl _ _ rfl tv ts.length _ ⟨.bare p, .slice none 0 0, .slice none 0 0⟩ _ _ rfl rfl ((HS5.out.drew).alloc _).tr.row (Go.Deep.blk_alloc_new _ _) rfl rfl HL.out ?_
      intro v7 w7 happ
      obtain ⟨g7, q7, rfl⟩ := happ.form
      have kf7 := fun (q : Addr) (hq : q.block < W5.heap.size) (hnq : tv.ownBlock ≠ some q.block) => app_cell ((Below.refl _ W5).drew.alloc (Nat.le_refl _) _) happ hq hnq
      have kg7 := (kf7 ⟨gw, 3, none⟩ hgw5 nng).trans w35
      have kw0 := (kf7 ⟨W3.heap.size, 0, none⟩ hls5 nn5).trans v0
      have kw1 := (kf7 ⟨W3.heap.size, 1, none⟩ hls5 nn5).trans v1
      have kw2 := (kf7 ⟨W3.heap.size, 2, none⟩ hls5 nn5).trans v2
      have kw3 := (kf7 ⟨W3.heap.size, 3, none⟩ hls5 nn5).trans v3
      have kw4 := (kf7 ⟨W3.heap.size, 4, none⟩ hls5 nn5).trans v4
      have kw5 := (kf7 ⟨W3.heap.size, 5, none⟩ hls5 nn5).trans v5
      have kw6 := (kf7 ⟨W3.heap.size, 6, none⟩ hls5 nn5).trans v6
      have kw7 := (kf7 ⟨W3.heap.size, 7, none⟩ hls5 nn5).trans v7
      have kw8 := (kf7 ⟨W3.heap.size, 8, none⟩ hls5 nn5).trans v8
      have kw9 := (kf7 ⟨W3.heap.size, 9, none⟩ hls5 nn5).trans v9
      have kw10 := (kf7 ⟨W3.heap.size, 10, none⟩ hls5 nn5).trans v10
      have kw11 := (kf7 ⟨W3.heap.size, 11, none⟩ hls5 nn5).trans v11
      have kz7 := (app_frozen ((Below.refl _ W5).drew.alloc (Nat.le_refl _) _) happ (q := ⟨gw, 3, none⟩) hgw5 nng).trans hz3
      clear kf7
      have HAP := Lib.hid happ
      clear happ
      try go_simp
      refine hK.out _ _ ?_ (fun hHeld => ?_)
      · (try dsimp only); go_keep
      clear hK K9
      try simp only [Act.put, Array.reduceGetElem, List.setIfInBounds_toArray, List.set_cons_zero, List.set_cons_succ]
      refine wpAnyH_take (i := 8) (oi := _) (v := ?_) rfl (by kernel_rfl) (by kernel_rfl) (by kernel_rfl) (fun _ _ _ h => h) (Or.inl ⟨by rfl, ?_⟩) (by assumption) ?_
      rotate_left
      · (intro w hSw; (try dsimp only at hSw); go_simp; try (with_reducible rfl))
      try simp only [Act.put, Array.reduceGetElem, List.setIfInBounds_toArray, List.set_cons_zero, List.set_cons_succ]
      refine wpAnyH_take (i := 9) (oi := _) (v := ?_) rfl (by kernel_rfl) (by kernel_rfl) (by kernel_rfl) (fun _ _ _ h => h) (Or.inl ⟨by rfl, ?_⟩) (by assumption) ?_
      rotate_left
      · (intro w hSw; (try dsimp only at hSw); go_simp; try (with_reducible rfl))
      try simp only [Act.put, Array.reduceGetElem, List.setIfInBounds_toArray, List.set_cons_zero, List.set_cons_succ]
      refine wpAnyH_ready (rs := [10]) (by kernel_rfl) (by simp) ?_
      refine AllReadyH.cons (o := _) rfl (fun K9 hK => ?_) ?_
      rotate_left
      · exact AllReadyH.nil
      go_simp
      refine hK.out _ _ ?_ (fun hHeld => ?_)
      · (try dsimp only); go_keep
      clear hK K9
      try simp only [Act.put, Array.reduceGetElem, List.setIfInBounds_toArray, List.set_cons_zero, List.set_cons_succ]
      refine wpAnyH_done (by kernel_rfl) ?_ _
      refine NoPanic.normal ?_
      go_wp2_with fail
      go_meet
      obtain ⟨o9, z1, z2, z3⟩ := HS5.out.setTrace ((Below.refl _ W5).drew.alloc (Nat.le_refl _) _) ⟨.bare p, .slice none 0 0, .slice none 0 0⟩ (BytesIn.none _ _) (BytesIn.none _ _) HAP.out ⟨Nat.zero_le _, Nat.zero_le _⟩
      exact ⟨o9, _, _, z1, z2, z3⟩
    go_simp
    refine hK.out _ _ ?_ (fun hHeld => ?_)
    · (try dsimp only); go_keep
    clear hK K9
    try simp only [Act.put, Array.reduceGetElem, List.setIfInBounds_toArray, List.set_cons_zero, List.set_cons_succ]
    refine wpAnyH_ready (rs := [6]) (by kernel_rfl) (by simp) ?_
    refine AllReadyH.cons (o := _) rfl (fun K9 hK => ?_) ?_
    rotate_left
    · exact AllReadyH.nil
    go_simp
    refine hK.out _ _ ?_ (fun hHeld => ?_)
    · (try dsimp only); go_keep
    clear hK K9
    try simp only [Act.put, Array.reduceGetElem, List.setIfInBounds_toArray, List.set_cons_zero, List.set_cons_succ]
    refine wpAnyH_ready (rs := [7]) (by kernel_rfl) (by simp) ?_
    refine AllReadyH.cons (o := _) rfl (fun K9 hK => ?_) ?_
    rotate_left
    · exact AllReadyH.nil
    refine step_app_ev rfl _ _ rfl tv ts.length _ ⟨.bare p, .slice none 0 0, .slice none 0 0⟩ _ _ rfl rfl ((HS5.out.drew).alloc _).tr.row (Go.Deep.blk_alloc_new _ _) rfl rfl HL.out ?_
    intro v7 w7 happ
    obtain ⟨g7, q7, rfl⟩ := happ.form
    have kf7 := fun (q : Addr) (hq : q.block < W5.heap.size) (hnq : tv.ownBlock ≠ some q.block) => app_cell ((Below.refl _ W5).drew.alloc (Nat.le_refl _) _) happ hq hnq
    have kg7 := (kf7 ⟨gw, 3, none⟩ hgw5 nng).trans w35
    have kw0 := (kf7 ⟨W3.heap.size, 0, none⟩ hls5 nn5).trans v0
    have kw1 := (kf7 ⟨W3.heap.size, 1, none⟩ hls5 nn5).trans v1
    have kw2 := (kf7 ⟨W3.heap.size, 2, none⟩ hls5 nn5).trans v2
    have kw3 := (kf7 ⟨W3.heap.size, 3, none⟩ hls5 nn5).trans v3
    have kw4 := (kf7 ⟨W3.heap.size, 4, none⟩ hls5 nn5).trans v4
    have kw5 := (kf7 ⟨W3.heap.size, 5, none⟩ hls5 nn5).trans v5
    have kw6 := (kf7 ⟨W3.heap.size, 6, none⟩ hls5 nn5).trans v6
    have kw7 := (kf7 ⟨W3.heap.size, 7, none⟩ hls5 nn5).trans v7
    have kw8 := (kf7 ⟨W3.heap.size, 8, none⟩ hls5 nn5).trans v8
    have kw9 := (kf7 ⟨W3.heap.size, 9, none⟩ hls5 nn5).trans v9
    have kw10 := (kf7 ⟨W3.heap.size, 10, none⟩ hls5 nn5).trans v10
    have kw11 := (kf7 ⟨W3.heap.size, 11, none⟩ hls5 nn5).trans v11
    have kz7 := (app_frozen ((Below.refl _ W5).drew.alloc (Nat.le_refl _) _) happ (q := ⟨gw, 3, none⟩) hgw5 nng).trans hz3
    clear kf7
    have HAP := Lib.hid happ
    clear happ
    try go_simp
    refine hK.out _ _ ?_ (fun hHeld => ?_)
    · (try dsimp only); go_keep
    clear hK K9
    try simp only [Act.put, Array.reduceGetElem, List.setIfInBounds_toArray, List.set_cons_zero, List.set_cons_succ]
    refine wpAnyH_take (i := 8) (oi := _) (v := ?_) rfl (by kernel_rfl) (by kernel_rfl) (by kernel_rfl) (fun _ _ _ h => h) (Or.inl ⟨by rfl, ?_⟩) (by assumption) ?_
    rotate_left
    · (intro w hSw; (try dsimp only at hSw); go_simp; try (with_reducible rfl))
    try simp only [Act.put, Array.reduceGetElem, List.setIfInBounds_toArray, List.set_cons_zero, List.set_cons_succ]
    refine wpAnyH_take (i := 9) (oi := _) (v := ?_) rfl (by kernel_rfl) (by kernel_rfl) (by kernel_rfl) (fun _ _ _ h => h) (Or.inl ⟨by rfl, ?_⟩) (by assumption) ?_
    rotate_left
    · (intro w hSw; (try dsimp only at hSw); go_simp; try (with_reducible rfl))
    try simp only [Act.put, Array.reduceGetElem, List.setIfInBounds_toArray, List.set_cons_zero, List.set_cons_succ]
    refine wpAnyH_ready (rs := [10]) (by kernel_rfl) (by simp) ?_
    refine AllReadyH.cons (o := _) rfl (fun K9 hK => ?_) ?_
    rotate_left
    · exact AllReadyH.nil
    go_simp
    refine hK.out _ _ ?_ (fun hHeld => ?_)
    · (try dsimp only); go_keep
    clear hK K9
    try simp only [Act.put, Array.reduceGetElem, List.setIfInBounds_toArray, List.set_cons_zero, List.set_cons_succ]
    refine wpAnyH_done (by kernel_rfl) ?_ _
    refine NoPanic.normal ?_
    go_wp2_with fail
    go_meet
    obtain ⟨o9, z1, z2, z3⟩ := HS5.out.setTrace ((Below.refl _ W5).drew.alloc (Nat.le_refl _) _) ⟨.bare p, .slice none 0 0, .slice none 0 0⟩ (BytesIn.none _ _) (BytesIn.none _ _) HAP.out ⟨Nat.zero_le _, Nat.zero_le _⟩
    exact ⟨o9, _, _, z1, z2, z3⟩
  case rest =>
    obtain ⟨o2, tv2, ts2, hs2, ht2, ho2⟩ := hcut
    have hE := HE5.out.of_block (ht2.block _ hls5 fun e => e hnoE)
    have hV := HBX5.out.ev.of_block (ht2.block _ HBX5.out.ev.lt fun e => e (hno3 _ (by omega) (by omega)))
    have HS7 := Lib.hid hs2
    have HT7 := Lib.hid (And.intro ht2 ho2)
    have e0 : wc.cell? ⟨W3.heap.size, 0, none⟩ = some (.int .i64 p.K) := hE.e0
    have e1 : wc.cell? ⟨W3.heap.size, 1, none⟩ = some (.int .i64 p.A) := hE.e1
    have e2 : wc.cell? ⟨W3.heap.size, 2, none⟩ = some (.int .i64 p.N) := hE.e2
    have e3 : wc.cell? ⟨W3.heap.size, 3, none⟩ = some (.int .i64 0) := hE.e3
    have e4 : wc.cell? ⟨W3.heap.size, 4, none⟩ = some (.int .i64 0) := hE.e4
    have e5 : wc.cell? ⟨W3.heap.size, 5, none⟩ = some (.int .i64 0) := hE.e5
    have e6 : wc.cell? ⟨W3.heap.size, 6, none⟩ = some (.int .u64 0) := hE.e6
    have e7 : wc.cell? ⟨W3.heap.size, 7, none⟩ = some (.int .u64 0) := hE.e7
    have e8 : wc.cell? ⟨W3.heap.size, 8, none⟩ = some (.slice none 0 0) := hE.e8
    have e9 : wc.cell? ⟨W3.heap.size, 9, none⟩ = some (.int .u64 0) := hE.e9
    have e10 : wc.cell? ⟨W3.heap.size, 10, none⟩ = some (.bool false) := hE.e10
    have e11 : wc.cell? ⟨W3.heap.size, 11, none⟩ = some (.slice none 0 0) := hE.e11
    have r0 : wc.cell? ⟨w.heap.size + 1, 0, none⟩ = some (.int .i64 0) := hV.e0
    have f0 := hV.free 0
    have r1 : wc.cell? ⟨w.heap.size + 1, 1, none⟩ = some (.int .i64 0) := hV.e1
    have f1 := hV.free 1
    have r2 : wc.cell? ⟨w.heap.size + 1, 2, none⟩ = some (.int .i64 0) := hV.e2
    have f2 := hV.free 2
    have r3 : wc.cell? ⟨w.heap.size + 1, 3, none⟩ = some (.int .i64 0) := hV.e3
    have f3 := hV.free 3
    have r4 : wc.cell? ⟨w.heap.size + 1, 4, none⟩ = some (.int .i64 0) := hV.e4
    have f4 := hV.free 4
    have r5 : wc.cell? ⟨w.heap.size + 1, 5, none⟩ = some (.int .i64 0) := hV.e5
    have f5 := hV.free 5
    have r6 : wc.cell? ⟨w.heap.size + 1, 6, none⟩ = some (.int .u64 0) := hV.e6
    have f6 := hV.free 6
    have r7 : wc.cell? ⟨w.heap.size + 1, 7, none⟩ = some (.int .u64 0) := hV.e7
    have f7 := hV.free 7
    have r8 : wc.cell? ⟨w.heap.size + 1, 8, none⟩ = some (.slice none 0 0) := hV.e8
    have f8 := hV.free 8
    have r9 : wc.cell? ⟨w.heap.size + 1, 9, none⟩ = some (.int .u64 0) := hV.e9
    have f9 := hV.free 9
    have r10 : wc.cell? ⟨w.heap.size + 1, 10, none⟩ = some (.bool false) := hV.e10
    have f10 := hV.free 10
    have r11 : wc.cell? ⟨w.heap.size + 1, 11, none⟩ = some (.slice none 0 0) := hV.e11
    have f11 := hV.free 11
    clear hE hV hs2 ht2 ho2 v0 v1 v2 v3 v4 v5 v6 v7 v8 v9 v10 v11 w35 hz3
    go_wp2
    refine bodyPost_ret (v := .tuple #[.agg #[.int .i64 p.K, .int .i64 p.A, .int .i64 p.N, .int .i64 0, .int .i64 0, .int .i64 0, .int .u64 0, .int .u64 0, .slice none 0 0, .int .u64 0, .bool false, .slice none 0 0], .int .i64 0]) (by simp [results, Tryz.results35, go_sem, r0, r1, r2, r3, r4, r5, r6, r7, r8, r9, r10, r11]) rfl ?_
    have ht12 := twelve_touch wc (w.heap.size + 1) (.int .i64 p.K) (.int .i64 p.A) (.int .i64 p.N) (.int .i64 0) (.int .i64 0) (.int .i64 0) (.int .u64 0) (.int .u64 0) (.slice none 0 0) (.int .u64 0) (.bool false) (.slice none 0 0)
    have hall := own_trans (HT3.out.1.trans (Touch.of_below hb5)) HT3.out.2.1 HT7.out.1 HT7.out.2
    refine ⟨o2, none, 0, 0, none, 0, 0, tv2, ts2, rfl, BytesIn.none _ _, BytesIn.none _ _, HS7.out.touch ht12 fun k hk e => ?_, hall.1.trans' ht12 (Nat.le_succ _), hall.2⟩
    have e' : k = w.heap.size + 1 := e
    have hlv := HBX5.out.ev.lt
    exact hk ((HT7.out.2 k (by omega)).trans (hno3 k (by omega) (by omega)))

end Go.Proofs.YtjachppnlmiloaaGreat
namespace Go.Proofs.YtjachppnlmiloaaGreat
open Go.RowKit

set_option maxRecDepth 100000 in
set_option maxHeartbeats 4000000 in
theorem pick_end {w : World} {o : Nat → Pt} {gw ga gb hb : Nat} {ax : Nat → Value} {tv : Value} {ts : List Tx} {st : St} (h : Sw w o gw ga gb hb ax tv ts st) (p : Pk) (h0 : st.chk p = 0) (hK : p.K = 0) (i : Nat) (hp : p.A = (i : Nat)) (hi : i < st.na) (hnx : (st.ms i).next = none) (hlong : ts.length ≤ 1000000) :
    Calls Tryz.prog 35 #[.pointer (some ⟨gw, 0, none⟩), .agg #[.int .i64 p.K, .int .i64 p.A, .int .i64 p.N]] w (PickTold o gw ga gb hb ax (st.push (.bare p)) 0 (.bare p) w) := by
  have HS := Lib.hid h
  have HR := Lib.hid h0
  have HL := Lib.hid hlong
  have HK := Lib.hid hK
  have hfew := h.few
  have HP := Lib.hid hp
  clear hp
  have HNX := Lib.hid hnx
  clear hnx
  clear h h0 hlong hK
  obtain ⟨WW, hWW⟩ : ∃ WW, WW = (w.alloc (.cells #[.int .i64 p.K, .int .i64 p.A, .int .i64 p.N] 80)).alloc (.cells #[.int .i64 0, .int .i64 0, .int .i64 0, .int .i64 0, .int .i64 0, .int .i64 0, .int .u64 0, .int .u64 0, .slice none 0 0, .int .u64 0, .bool false, .slice none 0 0] 82) := ⟨_, rfl⟩
  have HB := Lib.hid (pick_boxes w p WW hWW)
  go_enter Tryz.func35, Tryz.ntmps35
  go_upto_region 1 with fail
  rw [← hWW]
  clear hWW
  obtain ⟨hb0, hx0, hsz0⟩ := HB.out
  have HSW := Lib.hid (HS.out.below hb0)
  have p0 : WW.cell? ⟨w.heap.size, 0, none⟩ = some (.int .i64 p.K) := by simp [World.cell?, hx0.pk]
  have p1 : WW.cell? ⟨w.heap.size, 1, none⟩ = some (.int .i64 p.A) := by simp [World.cell?, hx0.pk]
  have p2 : WW.cell? ⟨w.heap.size, 2, none⟩ = some (.int .i64 p.N) := by simp [World.cell?, hx0.pk]
  clear hx0
  go_upto_region 2 with (go_at_call 64; refine (pickCheck_any HSW.out p).mono ?_; rintro e w1 ⟨rfl, hb1⟩; rw [HR.out])
  have HBX := Lib.hid (HB.out.2.1.keep (W' := w1) fun k _ hk => hb1.block k hk)
  have HS1 := Lib.hid (HSW.out.below hb1)
  have HT1 := Lib.hid ((Touch.of_below (S := Own o) hb0).trans (Touch.of_below hb1))
  have hsz1 := hb1.size
  have q0 : w1.cell? ⟨w.heap.size, 0, none⟩ = some (.int .i64 0) := by rw [← HK.out]; simp [World.cell?, HBX.out.pk]
  have q1 : w1.cell? ⟨w.heap.size, 1, none⟩ = some (.int .i64 (i : Nat)) := by rw [← HP.out]; simp [World.cell?, HBX.out.pk]
  have q2 : w1.cell? ⟨w.heap.size, 2, none⟩ = some (.int .i64 p.N) := by simp [World.cell?, HBX.out.pk]
  clear p0 p1 p2 hb1 hb0
  have w1c := HS1.out.w1
  have da := HS1.out.amach hi
  have hga := HS1.out.ga_lt
  have hgw := HS1.out.gw_lt
  have hlw : w.heap.size < w1.heap.size := by omega
  go_upto_region 5 with fail
  go_cut [7, 8] (fun s7 s8 wx => ∃ g : Nat, s7 = .pointer (some ⟨g, 0, none⟩) ∧ s8 = .bool false ∧ Below w1.heap.size w1 wx)
  case first =>
    have hn1 : ¬ w1.heap.size = gw := by omega
    have hn2 : ¬ w1.heap.size = ga := by omega
    have hn3 : ¬ w1.heap.size = w.heap.size := by omega
    go_region_held3 (fun w' => w'.cell? ⟨gw, 1, none⟩ = some (.slice (some ⟨ga, 0, none⟩) st.na st.na) ∧ w'.cell? ⟨w.heap.size, 1, none⟩ = some (.int .i64 (i : Nat)) ∧ w'.cell? ⟨ga, i * 2, none⟩ = some (ax i))
      (go_keep)
      (first
        | (go_at_call 66; refine (next_told (((HS1.out.alloc _).drew).mach i hi) (fun k hk => ((HS1.out.alloc _).drew).lt k (by rw [hk]; simp))).mono ?_; rintro e w2 ⟨hbd, hm⟩; rw [HNX.out] at hm; have hm2 : e = .returned (.tuple #[.agg #[.int .i64 0, .int .i64 0, .int .i64 0, .int .u64 0, .int .u64 0, .slice none 0 0], .bool false]) := hm; subst hm2; have hb1 := below_alloc_drew hbd; have HAN := AccNew.of_blk ((alloc_drew_block hbd).trans (Go.Deep.blk_alloc_new _ _)); obtain ⟨n0, n1, n2, n3, n4, n5, nf0, nf1, nf2, nf3, nf4, nf5, _⟩ := HAN; clear hbd hm; have k0 := (hb1.cell (p := ⟨gw, 1, none⟩) hgw).trans w1c; have k1 := (hb1.cell (p := ⟨w.heap.size, 1, none⟩) hlw).trans q1; have k2 := (hb1.cell (p := ⟨ga, i * 2, none⟩) hga).trans da)
        | (go_at_call 66; refine (next_told ((HS1.out.drew).mach i hi) (fun k hk => (HS1.out.drew).lt k (by rw [hk]; simp))).mono ?_; rintro e w2 ⟨hbd, hm⟩; rw [HNX.out] at hm; have hm2 : e = .returned (.tuple #[.agg #[.int .i64 0, .int .i64 0, .int .i64 0, .int .u64 0, .int .u64 0, .slice none 0 0], .bool false]) := hm; subst hm2; have hb1 := below_drew hbd; clear hbd hm; have k0 := (hb1.cell (p := ⟨gw, 1, none⟩) hgw).trans w1c; have k1 := (hb1.cell (p := ⟨w.heap.size, 1, none⟩) hlw).trans q1; have k2 := (hb1.cell (p := ⟨ga, i * 2, none⟩) hga).trans da))
    all_goals (go_wp2_with fail; go_meet)
    · exact ⟨_, rfl, rfl, hb1.alloc hb1.size _⟩
    · exact ⟨_, rfl, rfl, (((((hb1.setCell (Nat.le_refl _) _).setCell (Nat.le_refl _) _).setCell (Nat.le_refl _) _).setCell (Nat.le_refl _) _).setCell (Nat.le_refl _) _).setCell (Nat.le_refl _) _⟩
  obtain ⟨g7, rfl, rfl, hbc⟩ := hcut
  obtain ⟨W3, hW3⟩ : ∃ W3 : World, W3 = wc := ⟨_, rfl⟩
  subst hW3
  have HBX3 := Lib.hid (HBX.out.keep (W' := W3) fun k _ hl => hbc.block k hl)
  obtain ⟨o3, HS3, HT3⟩ : ∃ o3, Hid (Sw W3 o3 gw ga gb hb ax tv ts st) ∧ Hid (Touch (Own o) w W3 ∧ (∀ k, k < w.heap.size → o3 k = o k) ∧ (∀ k, w.heap.size ≤ k → k < w.heap.size + 1 + 1 → o3 k = .no)) :=
    ⟨o, Lib.hid (HS1.out.below hbc), Lib.hid ⟨HT1.out.trans (Touch.of_below hbc), fun _ _ => rfl, fun k hk _ => HS.out.new_no hk⟩⟩
  clear w1c da hbc q0 q1 q2
  have u0 : W3.cell? ⟨w.heap.size, 0, none⟩ = some (.int .i64 p.K) := by simp [World.cell?, HBX3.out.pk]
  have u1 : W3.cell? ⟨w.heap.size, 1, none⟩ = some (.int .i64 p.A) := by simp [World.cell?, HBX3.out.pk]
  have u2 : W3.cell? ⟨w.heap.size, 2, none⟩ = some (.int .i64 p.N) := by simp [World.cell?, HBX3.out.pk]
  go_upto_region 13 with fail
  generalize hW5 : W3.alloc (.cells #[.int .i64 p.K, .int .i64 p.A, .int .i64 p.N, .int .i64 0, .int .i64 0, .int .i64 0, .int .u64 0, .int .u64 0, .slice none 0 0, .int .u64 0, .bool false, .slice none 0 0] 82) = W5
  have hb5 : Below W3.heap.size W3 W5 := by rw [← hW5]; exact (Below.refl _ W3).alloc (Nat.le_refl _) _
  have HE5 : Hid (EvAt W3.heap.size W5 p Ac.zero An.zero (.slice none 0 0) (.slice none 0 0)) := Lib.hid ⟨by rw [← hW5]; exact Go.Deep.blk_alloc_new _ _⟩
  have HS5 := Lib.hid (HS3.out.below hb5)
  have HBX5 := Lib.hid (HBX3.out.keep (W' := W5) fun k _ hk => hb5.block k hk)
  have hls5 := HE5.out.lt
  have hgw5 := HS5.out.gw_lt
  have w35 := HS5.out.w3
  have hz3 := HS5.out.wfree 3
  have hsz5 := hb5.size
  have hszw := HT3.out.1.size
  have hno3 : ∀ k, w.heap.size ≤ k → k < w.heap.size + 1 + 1 → o3 k = .no := HT3.out.2.2
  have hnoE : o3 W3.heap.size = .no := HS3.out.new_no (Nat.le_refl _)
  have nng := HS5.out.row_ne (k := gw) (by rw [HS5.out.ogw]; simp)
  have nn5 := HS5.out.row_ne (k := W3.heap.size) (by rw [hnoE]; simp)
  clear hW5 u0 u1 u2
  have v0 : W5.cell? ⟨W3.heap.size, 0, none⟩ = some (.int .i64 p.K) := HE5.out.e0
  have v1 : W5.cell? ⟨W3.heap.size, 1, none⟩ = some (.int .i64 p.A) := HE5.out.e1
  have v2 : W5.cell? ⟨W3.heap.size, 2, none⟩ = some (.int .i64 p.N) := HE5.out.e2
  have v3 : W5.cell? ⟨W3.heap.size, 3, none⟩ = some (.int .i64 0) := HE5.out.e3
  have v4 : W5.cell? ⟨W3.heap.size, 4, none⟩ = some (.int .i64 0) := HE5.out.e4
  have v5 : W5.cell? ⟨W3.heap.size, 5, none⟩ = some (.int .i64 0) := HE5.out.e5
  have v6 : W5.cell? ⟨W3.heap.size, 6, none⟩ = some (.int .u64 0) := HE5.out.e6
  have v7 : W5.cell? ⟨W3.heap.size, 7, none⟩ = some (.int .u64 0) := HE5.out.e7
  have v8 : W5.cell? ⟨W3.heap.size, 8, none⟩ = some (.slice none 0 0) := HE5.out.e8
  have v9 : W5.cell? ⟨W3.heap.size, 9, none⟩ = some (.int .u64 0) := HE5.out.e9
  have v10 : W5.cell? ⟨W3.heap.size, 10, none⟩ = some (.bool false) := HE5.out.e10
  have v11 : W5.cell? ⟨W3.heap.size, 11, none⟩ = some (.slice none 0 0) := HE5.out.e11
  have hn2 : ¬ gw = W3.heap.size := by have := HS3.out.gw_lt; omega
  have hn3 : ¬ W3.heap.size = gw := fun e => hn2 e.symm
  go_cut [] (fun wx => ∃ (o2 : Nat → Pt) (tv2 : Value) (ts2 : List Tx), Sw wx o2 gw ga gb hb ax tv2 ts2 (st.push (.bare p)) ∧ Touch (Own o3) W5 wx ∧ ∀ k, k < W5.heap.size → o2 k = o3 k)
  case first =>
    refine wp_region_noPanic ?_
    refine wp_region_held_drew (S := fun w' => w'.cell? ⟨W3.heap.size, 0, none⟩ = some (.int .i64 p.K) ∧ w'.cell? ⟨W3.heap.size, 1, none⟩ = some (.int .i64 p.A) ∧ w'.cell? ⟨W3.heap.size, 2, none⟩ = some (.int .i64 p.N) ∧ w'.cell? ⟨W3.heap.size, 3, none⟩ = some (.int .i64 0) ∧ w'.cell? ⟨W3.heap.size, 4, none⟩ = some (.int .i64 0) ∧ w'.cell? ⟨W3.heap.size, 5, none⟩ = some (.int .i64 0) ∧ w'.cell? ⟨W3.heap.size, 6, none⟩ = some (.int .u64 0) ∧ w'.cell? ⟨W3.heap.size, 7, none⟩ = some (.int .u64 0) ∧ w'.cell? ⟨W3.heap.size, 8, none⟩ = some (.slice none 0 0) ∧ w'.cell? ⟨W3.heap.size, 9, none⟩ = some (.int .u64 0) ∧ w'.cell? ⟨W3.heap.size, 10, none⟩ = some (.bool false) ∧ w'.cell? ⟨W3.heap.size, 11, none⟩ = some (.slice none 0 0)) (by kernel_rfl) ?_ (fun hHeld => ?_)
    · (try dsimp only); go_keep
    refine wpAnyH_take (i := 0) (oi := _) (v := ?_) rfl (by kernel_rfl) (by kernel_rfl) (by kernel_rfl) (fun _ _ _ h => h) (Or.inl ⟨by rfl, ?_⟩) (by assumption) ?_
    rotate_left
    · (intro w hSw; (try dsimp only at hSw); go_simp; try (with_reducible rfl))
    try simp only [Act.put, Array.reduceGetElem, List.setIfInBounds_toArray, List.set_cons_zero, List.set_cons_succ]
    refine wpAnyH_take (i := 1) (oi := _) (v := ?_) rfl (by kernel_rfl) (by kernel_rfl) (by kernel_rfl) (fun _ _ _ h => h) (Or.inl ⟨by rfl, ?_⟩) (by assumption) ?_
    rotate_left
    · (intro w hSw; (try dsimp only at hSw); go_simp; try (with_reducible rfl))
    try simp only [Act.put, Array.reduceGetElem, List.setIfInBounds_toArray, List.set_cons_zero, List.set_cons_succ]
    refine wpAnyH_take (i := 2) (oi := _) (v := ?_) rfl (by kernel_rfl) (by kernel_rfl) (by kernel_rfl) (fun _ _ _ h => h) (Or.inl ⟨by rfl, ?_⟩) (by assumption) ?_
    rotate_left
    · (intro w hSw; (try dsimp only at hSw); go_simp; try (with_reducible rfl))
    try simp only [Act.put, Array.reduceGetElem, List.setIfInBounds_toArray, List.set_cons_zero, List.set_cons_succ]
    refine wpAnyH_take (i := 3) (oi := _) (v := ?_) rfl (by kernel_rfl) (by kernel_rfl) (by kernel_rfl) (fun _ _ _ h => h) (Or.inl ⟨by rfl, ?_⟩) (by assumption) ?_
    rotate_left
    · (intro w hSw; (try dsimp only at hSw); go_simp; try (with_reducible rfl))
    try simp only [Act.put, Array.reduceGetElem, List.setIfInBounds_toArray, List.set_cons_zero, List.set_cons_succ]
    refine wpAnyH_take (i := 5) (oi := _) (v := ?_) rfl (by kernel_rfl) (by kernel_rfl) (by kernel_rfl) (fun _ _ _ h => h) (Or.inl ⟨by rfl, ?_⟩) (by assumption) ?_
    rotate_left
    · (intro w hSw; (try dsimp only at hSw); go_simp; try (with_reducible rfl))
    try simp only [Act.put, Array.reduceGetElem, List.setIfInBounds_toArray, List.set_cons_zero, List.set_cons_succ]
    refine wpAnyH_ready (rs := [4, 6]) (by kernel_rfl) (by simp) ?_
    refine AllReadyH.cons (o := _) rfl (fun K9 hK => ?_) ?_
    rotate_left
    · refine AllReadyH.cons (o := _) rfl (fun K9 hK => ?_) ?_
      rotate_left
      · exact AllReadyH.nil
      go_simp
      refine hK.out _ _ ?_ (fun hHeld => ?_)
      · (try dsimp only); go_keep
      clear hK K9
      try simp only [Act.put, Array.reduceGetElem, List.setIfInBounds_toArray, List.set_cons_zero, List.set_cons_succ]
      refine wpAnyH_ready (rs := [4]) (by kernel_rfl) (by simp) ?_
      refine AllReadyH.cons (o := _) rfl (fun K9 hK => ?_) ?_
      rotate_left
      · exact AllReadyH.nil
      go_simp
      refine hK.out _ _ ?_ (fun hHeld => ?_)
      · (try dsimp only); go_keep
      clear hK K9
      try simp only [Act.put, Array.reduceGetElem, List.setIfInBounds_toArray, List.set_cons_zero, List.set_cons_succ]
      refine wpAnyH_ready (rs := [7]) (by kernel_rfl) (by simp) ?_
      refine AllReadyH.cons (o := _) rfl (fun K9 hK => ?_) ?_
      rotate_left
      · exact AllReadyH.nil
      refine step_app_ev rfl _ _ rfl tv ts.length _ ⟨.bare p, .slice none 0 0, .slice none 0 0⟩ _ _ rfl rfl ((HS5.out.drew).alloc _).tr.row (Go.Deep.blk_alloc_new _ _) rfl rfl HL.out ?_
      intro v7 w7 happ
      obtain ⟨g7, q7, rfl⟩ := happ.form
      have kf7 := fun (q : Addr) (hq : q.block < W5.heap.size) (hnq : tv.ownBlock ≠ some q.block) => app_cell ((Below.refl _ W5).drew.alloc (Nat.le_refl _) _) happ hq hnq
      have kg7 := (kf7 ⟨gw, 3, none⟩ hgw5 nng).trans w35
      have kw0 := (kf7 ⟨W3.heap.size, 0, none⟩ hls5 nn5).trans v0
      have kw1 := (kf7 ⟨W3.heap.size, 1, none⟩ hls5 nn5).trans v1
      have kw2 := (kf7 ⟨W3.heap.size, 2, none⟩ hls5 nn5).trans v2
      have kw3 := (kf7 ⟨W3.heap.size, 3, none⟩ hls5 nn5).trans v3
      have kw4 := (kf7 ⟨W3.heap.size, 4, none⟩ hls5 nn5).trans v4
      have kw5 := (kf7 ⟨W3.heap.size, 5, none⟩ hls5 nn5).trans v5
      have kw6 := (kf7 ⟨W3.heap.size, 6, none⟩ hls5 nn5).trans v6
      have kw7 := (kf7 ⟨W3.heap.size, 7, none⟩ hls5 nn5).trans v7
      have kw8 := (kf7 ⟨W3.heap.size, 8, none⟩ hls5 nn5).trans v8
      have kw9 := (kf7 ⟨W3.heap.size, 9, none⟩ hls5 nn5).trans v9
      have kw10 := (kf7 ⟨W3.heap.size, 10, none⟩ hls5 nn5).trans v10
      have kw11 := (kf7 ⟨W3.heap.size, 11, none⟩ hls5 nn5).trans v11
      have kz7 := (app_frozen ((Below.refl _ W5).drew.alloc (Nat.le_refl _) _) happ (q := ⟨gw, 3, none⟩) hgw5 nng).trans hz3
      clear kf7
      have HAP := Lib.hid happ
      clear happ
      try go_simp
      refine hK.out _ _ ?_ (fun hHeld => ?_)
      · (try dsimp only); go_keep
      clear hK K9
      try simp only [Act.put, Array.reduceGetElem, List.setIfInBounds_toArray, List.set_cons_zero, List.set_cons_succ]
      refine wpAnyH_take (i := 8) (oi := _) (v := ?_) rfl (by kernel_rfl) (by kernel_rfl) (by kernel_rfl) (fun _ _ _ h => h) (Or.inl ⟨by rfl, ?_⟩) (by assumption) ?_
      rotate_left
      · (intro w hSw; (try dsimp only at hSw); go_simp; try (with_reducible rfl))
      try simp only [Act.put, Array.reduceGetElem, List.setIfInBounds_toArray, List.set_cons_zero, List.set_cons_succ]
      refine wpAnyH_take (i := 9) (oi := _) (v := ?_) rfl (by kernel_rfl) (by kernel_rfl) (by kernel_rfl) (fun _ _ _ h => h) (Or.inl ⟨by rfl, ?_⟩) (by assumption) ?_
      rotate_left
      · (intro w hSw; (try dsimp only at hSw); go_simp; try (with_reducible rfl))
      try simp only [Act.put, Array.reduceGetElem, List.setIfInBounds_toArray, List.set_cons_zero, List.set_cons_succ]
      refine wpAnyH_ready (rs := [10]) (by kernel_rfl) (by simp) ?_
      refine AllReadyH.cons (o := _) rfl (fun K9 hK => ?_) ?_
      rotate_left
      · exact AllReadyH.nil
      go_simp
      refine hK.out _ _ ?_ (fun hHeld => ?_)
      · (try dsimp only); go_keep
      clear hK K9
      try simp only [Act.put, Array.reduceGetElem, List.setIfInBounds_toArray, List.set_cons_zero, List.set_cons_succ]
      refine wpAnyH_done (by kernel_rfl) ?_ _
      refine NoPanic.normal ?_
      go_wp2_with fail
      go_meet
      obtain ⟨o9, z1, z2, z3⟩ := HS5.out.setTrace ((Below.refl _ W5).drew.alloc (Nat.le_refl _) _) ⟨.bare p, .slice none 0 0, .slice none 0 0⟩ (BytesIn.none _ _) (BytesIn.none _ _) HAP.out ⟨Nat.zero_le _, Nat.zero_le _⟩
      exact ⟨o9, _, _, z1, z2, z3⟩
    go_simp
    refine hK.out _ _ ?_ (fun hHeld => ?_)
    · (try dsimp only); go_keep
    clear hK K9
    try simp only [Act.put, Array.reduceGetElem, List.setIfInBounds_toArray, List.set_cons_zero, List.set_cons_succ]
    refine wpAnyH_ready (rs := [6]) (by kernel_rfl) (by simp) ?_
    refine AllReadyH.cons (o := _) rfl (fun K9 hK => ?_) ?_
    rotate_left
    · exact AllReadyH.nil
    go_simp
    refine hK.out _ _ ?_ (fun hHeld => ?_)
    · (try dsimp only); go_keep
    clear hK K9
    try simp only [Act.put, Array.reduceGetElem, List.setIfInBounds_toArray, List.set_cons_zero, List.set_cons_succ]
    refine wpAnyH_ready (rs := [7]) (by kernel_rfl) (by simp) ?_
    refine AllReadyH.cons (o := _) rfl (fun K9 hK => ?_) ?_
    rotate_left
    · exact AllReadyH.nil
    refine step_app_ev rfl _ _ rfl tv ts.length _ ⟨.bare p, .slice none 0 0, .slice none 0 0⟩ _ _ rfl rfl ((HS5.out.drew).alloc _).tr.row (Go.Deep.blk_alloc_new _ _) rfl rfl HL.out ?_
    intro v7 w7 happ
    obtain ⟨g7, q7, rfl⟩ := happ.form
    have kf7 := fun (q : Addr) (hq : q.block < W5.heap.size) (hnq : tv.ownBlock ≠ some q.block) => app_cell ((Below.refl _ W5).drew.alloc (Nat.le_refl _) _) happ hq hnq
    have kg7 := (kf7 ⟨gw, 3, none⟩ hgw5 nng).trans w35
    have kw0 := (kf7 ⟨W3.heap.size, 0, none⟩ hls5 nn5).trans v0
    have kw1 := (kf7 ⟨W3.heap.size, 1, none⟩ hls5 nn5).trans v1
    have kw2 := (kf7 ⟨W3.heap.size, 2, none⟩ hls5 nn5).trans v2
    have kw3 := (kf7 ⟨W3.heap.size, 3, none⟩ hls5 nn5).trans v3
    have kw4 := (kf7 ⟨W3.heap.size, 4, none⟩ hls5 nn5).trans v4
    have kw5 := (kf7 ⟨W3.heap.size, 5, none⟩ hls5 nn5).trans v5
    have kw6 := (kf7 ⟨W3.heap.size, 6, none⟩ hls5 nn5).trans v6
    have kw7 := (kf7 ⟨W3.heap.size, 7, none⟩ hls5 nn5).trans v7
    have kw8 := (kf7 ⟨W3.heap.size, 8, none⟩ hls5 nn5).trans v8
    have kw9 := (kf7 ⟨W3.heap.size, 9, none⟩ hls5 nn5).trans v9
    have kw10 := (kf7 ⟨W3.heap.size, 10, none⟩ hls5 nn5).trans v10
    have kw11 := (kf7 ⟨W3.heap.size, 11, none⟩ hls5 nn5).trans v11
    have kz7 := (app_frozen ((Below.refl _ W5).drew.alloc (Nat.le_refl _) _) happ (q := ⟨gw, 3, none⟩) hgw5 nng).trans hz3
    clear kf7
    have HAP := Lib.hid happ
    clear happ
    try go_simp
    refine hK.out _ _ ?_ (fun hHeld => ?_)
    · (try dsimp only); go_keep
    clear hK K9
    try simp only [Act.put, Array.reduceGetElem, List.setIfInBounds_toArray, List.set_cons_zero, List.set_cons_succ]
    refine wpAnyH_take (i := 8) (oi := _) (v := ?_) rfl (by kernel_rfl) (by kernel_rfl) (by kernel_rfl) (fun _ _ _ h => h) (Or.inl ⟨by rfl, ?_⟩) (by assumption) ?_
    rotate_left
    · (intro w hSw; (try dsimp only at hSw); go_simp; try (with_reducible rfl))
    try simp only [Act.put, Array.reduceGetElem, List.setIfInBounds_toArray, List.set_cons_zero, List.set_cons_succ]
    refine wpAnyH_take (i := 9) (oi := _) (v := ?_) rfl (by kernel_rfl) (by kernel_rfl) (by kernel_rfl) (fun _ _ _ h => h) (Or.inl ⟨by rfl, ?_⟩) (by assumption) ?_
    rotate_left
    · (intro w hSw; (try dsimp only at hSw); go_simp; try (with_reducible rfl))
    try simp only [Act.put, Array.reduceGetElem, List.setIfInBounds_toArray, List.set_cons_zero, List.set_cons_succ]
    refine wpAnyH_ready (rs := [10]) (by kernel_rfl) (by simp) ?_
    refine AllReadyH.cons (o := _) rfl (fun K9 hK => ?_) ?_
    rotate_left
    · exact AllReadyH.nil
    go_simp
    refine hK.out _ _ ?_ (fun hHeld => ?_)
    · (try dsimp only); go_keep
    clear hK K9
    try simp only [Act.put, Array.reduceGetElem, List.setIfInBounds_toArray, List.set_cons_zero, List.set_cons_succ]
    refine wpAnyH_done (by kernel_rfl) ?_ _
    refine NoPanic.normal ?_
    go_wp2_with fail
    go_meet
    obtain ⟨o9, z1, z2, z3⟩ := HS5.out.setTrace ((Below.refl _ W5).drew.alloc (Nat.le_refl _) _) ⟨.bare p, .slice none 0 0, .slice none 0 0⟩ (BytesIn.none _ _) (BytesIn.none _ _) HAP.out ⟨Nat.zero_le _, Nat.zero_le _⟩
    exact ⟨o9, _, _, z1, z2, z3⟩
  case rest =>
    obtain ⟨o2, tv2, ts2, hs2, ht2, ho2⟩ := hcut
    have hE := HE5.out.of_block (ht2.block _ hls5 fun e => e hnoE)
    have hV := HBX5.out.ev.of_block (ht2.block _ HBX5.out.ev.lt fun e => e (hno3 _ (by omega) (by omega)))
    have HS7 := Lib.hid hs2
    have HT7 := Lib.hid (And.intro ht2 ho2)
    have e0 : wc.cell? ⟨W3.heap.size, 0, none⟩ = some (.int .i64 p.K) := hE.e0
    have e1 : wc.cell? ⟨W3.heap.size, 1, none⟩ = some (.int .i64 p.A) := hE.e1
    have e2 : wc.cell? ⟨W3.heap.size, 2, none⟩ = some (.int .i64 p.N) := hE.e2
    have e3 : wc.cell? ⟨W3.heap.size, 3, none⟩ = some (.int .i64 0) := hE.e3
    have e4 : wc.cell? ⟨W3.heap.size, 4, none⟩ = some (.int .i64 0) := hE.e4
    have e5 : wc.cell? ⟨W3.heap.size, 5, none⟩ = some (.int .i64 0) := hE.e5
    have e6 : wc.cell? ⟨W3.heap.size, 6, none⟩ = some (.int .u64 0) := hE.e6
    have e7 : wc.cell? ⟨W3.heap.size, 7, none⟩ = some (.int .u64 0) := hE.e7
    have e8 : wc.cell? ⟨W3.heap.size, 8, none⟩ = some (.slice none 0 0) := hE.e8
    have e9 : wc.cell? ⟨W3.heap.size, 9, none⟩ = some (.int .u64 0) := hE.e9
    have e10 : wc.cell? ⟨W3.heap.size, 10, none⟩ = some (.bool false) := hE.e10
    have e11 : wc.cell? ⟨W3.heap.size, 11, none⟩ = some (.slice none 0 0) := hE.e11
    have r0 : wc.cell? ⟨w.heap.size + 1, 0, none⟩ = some (.int .i64 0) := hV.e0
    have f0 := hV.free 0
    have r1 : wc.cell? ⟨w.heap.size + 1, 1, none⟩ = some (.int .i64 0) := hV.e1
    have f1 := hV.free 1
    have r2 : wc.cell? ⟨w.heap.size + 1, 2, none⟩ = some (.int .i64 0) := hV.e2
    have f2 := hV.free 2
    have r3 : wc.cell? ⟨w.heap.size + 1, 3, none⟩ = some (.int .i64 0) := hV.e3
    have f3 := hV.free 3
    have r4 : wc.cell? ⟨w.heap.size + 1, 4, none⟩ = some (.int .i64 0) := hV.e4
    have f4 := hV.free 4
    have r5 : wc.cell? ⟨w.heap.size + 1, 5, none⟩ = some (.int .i64 0) := hV.e5
    have f5 := hV.free 5
    have r6 : wc.cell? ⟨w.heap.size + 1, 6, none⟩ = some (.int .u64 0) := hV.e6
    have f6 := hV.free 6
    have r7 : wc.cell? ⟨w.heap.size + 1, 7, none⟩ = some (.int .u64 0) := hV.e7
    have f7 := hV.free 7
    have r8 : wc.cell? ⟨w.heap.size + 1, 8, none⟩ = some (.slice none 0 0) := hV.e8
    have f8 := hV.free 8
    have r9 : wc.cell? ⟨w.heap.size + 1, 9, none⟩ = some (.int .u64 0) := hV.e9
    have f9 := hV.free 9
    have r10 : wc.cell? ⟨w.heap.size + 1, 10, none⟩ = some (.bool false) := hV.e10
    have f10 := hV.free 10
    have r11 : wc.cell? ⟨w.heap.size + 1, 11, none⟩ = some (.slice none 0 0) := hV.e11
    have f11 := hV.free 11
    clear hE hV hs2 ht2 ho2 v0 v1 v2 v3 v4 v5 v6 v7 v8 v9 v10 v11 w35 hz3
    go_wp2
    refine bodyPost_ret (v := .tuple #[.agg #[.int .i64 p.K, .int .i64 p.A, .int .i64 p.N, .int .i64 0, .int .i64 0, .int .i64 0, .int .u64 0, .int .u64 0, .slice none 0 0, .int .u64 0, .bool false, .slice none 0 0], .int .i64 0]) (by simp [results, Tryz.results35, go_sem, r0, r1, r2, r3, r4, r5, r6, r7, r8, r9, r10, r11]) rfl ?_
    have ht12 := twelve_touch wc (w.heap.size + 1) (.int .i64 p.K) (.int .i64 p.A) (.int .i64 p.N) (.int .i64 0) (.int .i64 0) (.int .i64 0) (.int .u64 0) (.int .u64 0) (.slice none 0 0) (.int .u64 0) (.bool false) (.slice none 0 0)
    have hall := own_trans (HT3.out.1.trans (Touch.of_below hb5)) HT3.out.2.1 HT7.out.1 HT7.out.2
    refine ⟨o2, none, 0, 0, none, 0, 0, tv2, ts2, rfl, BytesIn.none _ _, BytesIn.none _ _, HS7.out.touch ht12 fun k hk e => ?_, hall.1.trans' ht12 (Nat.le_succ _), hall.2⟩
    have e' : k = w.heap.size + 1 := e
    have hlv := HBX5.out.ev.lt
    exact hk ((HT7.out.2 k (by omega)).trans (hno3 k (by omega) (by omega)))

end Go.Proofs.YtjachppnlmiloaaGreat
namespace Go.Proofs.YtjachppnlmiloaaGreat
open Go.RowKit

theorem six_blk {W : World} {b : Nat} {u0 u1 u2 u3 u4 u5 : Value} {T : TypeId} (h : W.heap[b]? = some (.cells #[u0, u1, u2, u3, u4, u5] T (0, 0))) (v0 v1 v2 v3 v4 v5 : Value) : (six W b v0 v1 v2 v3 v4 v5).heap[b]? = some (.cells #[v0, v1, v2, v3, v4, v5] T (0, 0)) := by
  simp [six, World.setCell, Array.getElem?_modify, h]

set_option maxRecDepth 100000 in
set_option maxHeartbeats 4000000 in
theorem pick_ok {w : World} {o : Nat → Pt} {gw ga gb hb : Nat} {ax : Nat → Value} {tv : Value} {ts : List Tx} {st : St} (h : Sw w o gw ga gb hb ax tv ts st) (p : Pk) (h0 : st.chk p = 0) (hK : p.K = 0) (i : Nat) (hp : p.A = (i : Nat)) (hi : i < st.na) (a : Ac) (hnx : (st.ms i).next = some a) (hf : a.Fine) (h1 : a.err st.nw = 0) (hlong : ts.length ≤ 1000000) :
    Calls Tryz.prog 35 #[.pointer (some ⟨gw, 0, none⟩), .agg #[.int .i64 p.K, .int .i64 p.A, .int .i64 p.N]] w (PickTold o gw ga gb hb ax (st.did p i a) 0 ⟨p, a, a.ans st.m⟩ w) := by
  have HS := Lib.hid h
  have HR := Lib.hid h0
  have HK := Lib.hid hK
  have hfew := h.few
  have HP := Lib.hid hp
  clear hp
  have HNX := Lib.hid hnx
  clear hnx
  have HF := Lib.hid hf
  clear hf
  have HE := Lib.hid h1
  clear h1
  have HLG := Lib.hid hlong
  clear hlong
  clear h h0 hK
  obtain ⟨WW, hWW⟩ : ∃ WW, WW = (w.alloc (.cells #[.int .i64 p.K, .int .i64 p.A, .int .i64 p.N] 80)).alloc (.cells #[.int .i64 0, .int .i64 0, .int .i64 0, .int .i64 0, .int .i64 0, .int .i64 0, .int .u64 0, .int .u64 0, .slice none 0 0, .int .u64 0, .bool false, .slice none 0 0] 82) := ⟨_, rfl⟩
  have HB := Lib.hid (pick_boxes w p WW hWW)
  go_enter Tryz.func35, Tryz.ntmps35
  go_upto_region 1 with fail
  rw [← hWW]
  clear hWW
  obtain ⟨hb0, hx0, hsz0⟩ := HB.out
  have HSW := Lib.hid (HS.out.below hb0)
  have p0 : WW.cell? ⟨w.heap.size, 0, none⟩ = some (.int .i64 p.K) := by simp [World.cell?, hx0.pk]
  have p1 : WW.cell? ⟨w.heap.size, 1, none⟩ = some (.int .i64 p.A) := by simp [World.cell?, hx0.pk]
  have p2 : WW.cell? ⟨w.heap.size, 2, none⟩ = some (.int .i64 p.N) := by simp [World.cell?, hx0.pk]
  clear hx0
  go_upto_region 2 with (go_at_call 64; refine (pickCheck_any HSW.out p).mono ?_; rintro e w1 ⟨rfl, hb1⟩; rw [HR.out])
  have HBX := Lib.hid (HB.out.2.1.keep (W' := w1) fun k _ hk => hb1.block k hk)
  have HS1 := Lib.hid (HSW.out.below hb1)
  have HT1 := Lib.hid ((Touch.of_below (S := Own o) hb0).trans (Touch.of_below hb1))
  have hsz1 := hb1.size
  have q0 : w1.cell? ⟨w.heap.size, 0, none⟩ = some (.int .i64 0) := by rw [← HK.out]; simp [World.cell?, HBX.out.pk]
  have q1 : w1.cell? ⟨w.heap.size, 1, none⟩ = some (.int .i64 (i : Nat)) := by rw [← HP.out]; simp [World.cell?, HBX.out.pk]
  have q2 : w1.cell? ⟨w.heap.size, 2, none⟩ = some (.int .i64 p.N) := by simp [World.cell?, HBX.out.pk]
  clear p0 p1 p2 hb1 hb0
  have w1c := HS1.out.w1
  have da := HS1.out.amach hi
  have hga := HS1.out.ga_lt
  have hgw := HS1.out.gw_lt
  have hlw : w.heap.size < w1.heap.size := by omega
  go_upto_region 5 with fail
  go_cut [7, 8] (fun s7 s8 wx => ∃ (g : Nat) (A : Option Addr) (l c : Nat), s7 = .pointer (some ⟨g, 0, none⟩) ∧ s8 = .bool true ∧ Below w1.heap.size w1 wx ∧ wx.heap[g]? = some (.cells #[.int .i64 a.K, .int .i64 a.P, .int .i64 a.N, .int .u64 a.V, .int .u64 a.U, .slice A l c] 45 (0, 0)) ∧ Owns w1.heap.size wx (.slice A l c) a.bs ∧ w1.heap.size ≤ g)
  case first =>
    have hn1 : ¬ w1.heap.size = gw := by omega
    have hn2 : ¬ w1.heap.size = ga := by omega
    have hn3 : ¬ w1.heap.size = w.heap.size := by omega
    go_region_held3 (fun w' => w'.cell? ⟨gw, 1, none⟩ = some (.slice (some ⟨ga, 0, none⟩) st.na st.na) ∧ w'.cell? ⟨w.heap.size, 1, none⟩ = some (.int .i64 (i : Nat)) ∧ w'.cell? ⟨ga, i * 2, none⟩ = some (ax i))
      (go_keep)
      (first
        | (go_at_call 66; refine (next_told (((HS1.out.alloc _).drew).mach i hi) (fun k hk => ((HS1.out.alloc _).drew).lt k (by rw [hk]; simp))).mono ?_; rintro e w2 ⟨hbd, hm⟩; rw [HNX.out] at hm; obtain ⟨A, l, c, he, ho⟩ := hm; subst he; have hb1 := below_alloc_drew hbd; have hbk := (alloc_drew_block hbd).trans (Go.Deep.blk_alloc_new _ _); have HAN := AccNew.of_blk hbk; obtain ⟨n0, n1, n2, n3, n4, n5, nf0, nf1, nf2, nf3, nf4, nf5, _⟩ := HAN; have HOB := Lib.hid (And.intro ho hbk); clear hbd ho hbk; have k0 := (hb1.cell (p := ⟨gw, 1, none⟩) hgw).trans w1c; have k1 := (hb1.cell (p := ⟨w.heap.size, 1, none⟩) hlw).trans q1; have k2 := (hb1.cell (p := ⟨ga, i * 2, none⟩) hga).trans da)
        | (go_at_call 66; refine (next_told ((HS1.out.drew).mach i hi) (fun k hk => (HS1.out.drew).lt k (by rw [hk]; simp))).mono ?_; rintro e w2 ⟨hbd, hm⟩; rw [HNX.out] at hm; obtain ⟨A, l, c, he, ho⟩ := hm; subst he; have hb1 := below_drew hbd; have HOB := Lib.hid ho; clear hbd ho; have k0 := (hb1.cell (p := ⟨gw, 1, none⟩) hgw).trans w1c; have k1 := (hb1.cell (p := ⟨w.heap.size, 1, none⟩) hlw).trans q1; have k2 := (hb1.cell (p := ⟨ga, i * 2, none⟩) hga).trans da))
    all_goals (go_wp2_with fail; go_meet)
    · exact ⟨_, A, l, c, rfl, rfl, hb1.alloc hb1.size _, Go.Deep.blk_alloc_new _ _, Owns.alloc (HOB.out.down (Nat.le_refl _)) _, hb1.size⟩
    · refine ⟨_, A, l, c, rfl, rfl, (((((hb1.setCell (Nat.le_refl _) _).setCell (Nat.le_refl _) _).setCell (Nat.le_refl _) _).setCell (Nat.le_refl _) _).setCell (Nat.le_refl _) _).setCell (Nat.le_refl _) _, six_blk HOB.out.2 _ _ _ _ _ _, ?_, Nat.le_refl _⟩
      exact (six_own (base := w1.heap.size + 1) (b := w1.heap.size) (HOB.out.1.down (by simp [World.drew])) (Nat.lt_succ_self _) (.int .i64 a.K) (.int .i64 a.P) (.int .i64 a.N) (.int .u64 a.V) (.int .u64 a.U) (.slice A l c)).down (Nat.le_succ _)
  obtain ⟨g7, A, l, c, rfl, rfl, hbc, hblk, hown, hg7⟩ := hcut
  obtain ⟨W3, hW3⟩ : ∃ W3 : World, W3 = wc := ⟨_, rfl⟩
  subst hW3
  have HBX3 := Lib.hid (HBX.out.keep (W' := W3) fun k _ hl => hbc.block k hl)
  have HS3 := Lib.hid (HS1.out.below hbc)
  have HT3 := Lib.hid (HT1.out.trans (Touch.of_below hbc))
  have HOW := Lib.hid hown
  have b0 : W3.cell? ⟨g7, 0, none⟩ = some (.int .i64 a.K) := by simp [World.cell?, hblk]
  have b1 : W3.cell? ⟨g7, 1, none⟩ = some (.int .i64 a.P) := by simp [World.cell?, hblk]
  have b2 : W3.cell? ⟨g7, 2, none⟩ = some (.int .i64 a.N) := by simp [World.cell?, hblk]
  have b3 : W3.cell? ⟨g7, 3, none⟩ = some (.int .u64 a.V) := by simp [World.cell?, hblk]
  have b4 : W3.cell? ⟨g7, 4, none⟩ = some (.int .u64 a.U) := by simp [World.cell?, hblk]
  have b5 : W3.cell? ⟨g7, 5, none⟩ = some (.slice A l c) := by simp [World.cell?, hblk]
  have u0 : W3.cell? ⟨w.heap.size, 0, none⟩ = some (.int .i64 p.K) := by simp [World.cell?, HBX3.out.pk]
  have u1 : W3.cell? ⟨w.heap.size, 1, none⟩ = some (.int .i64 p.A) := by simp [World.cell?, HBX3.out.pk]
  have u2 : W3.cell? ⟨w.heap.size, 2, none⟩ = some (.int .i64 p.N) := by simp [World.cell?, HBX3.out.pk]
  have hszc := hbc.size
  clear w1c da hblk hown q0 q1 q2
  go_wp2_with (go_at_call 67; refine (step_ok HS3.out p i HP.out hi a HF.out HNX.out HOW.out (fun k hk => HS1.out.lt k hk) HE.out HLG.out).mono ?_; rintro e w9 ⟨o3, A2, l2, c2, tv9, ts9, he, hby, hs9, ht9, ho9⟩; subst he; have HV9 := HBX3.out.ev.of_block (ht9.block _ HBX3.out.ev.lt fun e => e (HS.out.new_no (Nat.le_succ _))); have HZ := Lib.hid (And.intro hby (And.intro hs9 (And.intro ht9 ho9))); clear hby hs9 ht9 ho9; have r0 : w9.cell? ⟨w.heap.size + 1, 0, none⟩ = some (.int .i64 0) := HV9.e0; have f0 := HV9.free 0; have r1 : w9.cell? ⟨w.heap.size + 1, 1, none⟩ = some (.int .i64 0) := HV9.e1; have f1 := HV9.free 1; have r2 : w9.cell? ⟨w.heap.size + 1, 2, none⟩ = some (.int .i64 0) := HV9.e2; have f2 := HV9.free 2; have r3 : w9.cell? ⟨w.heap.size + 1, 3, none⟩ = some (.int .i64 0) := HV9.e3; have f3 := HV9.free 3; have r4 : w9.cell? ⟨w.heap.size + 1, 4, none⟩ = some (.int .i64 0) := HV9.e4; have f4 := HV9.free 4; have r5 : w9.cell? ⟨w.heap.size + 1, 5, none⟩ = some (.int .i64 0) := HV9.e5; have f5 := HV9.free 5; have r6 : w9.cell? ⟨w.heap.size + 1, 6, none⟩ = some (.int .u64 0) := HV9.e6; have f6 := HV9.free 6; have r7 : w9.cell? ⟨w.heap.size + 1, 7, none⟩ = some (.int .u64 0) := HV9.e7; have f7 := HV9.free 7; have r8 : w9.cell? ⟨w.heap.size + 1, 8, none⟩ = some (.slice none 0 0) := HV9.e8; have f8 := HV9.free 8; have r9 : w9.cell? ⟨w.heap.size + 1, 9, none⟩ = some (.int .u64 0) := HV9.e9; have f9 := HV9.free 9; have r10 : w9.cell? ⟨w.heap.size + 1, 10, none⟩ = some (.bool false) := HV9.e10; have f10 := HV9.free 10; have r11 : w9.cell? ⟨w.heap.size + 1, 11, none⟩ = some (.slice none 0 0) := HV9.e11; have f11 := HV9.free 11; clear HV9)
  generalize hx : a.ans st.m = x at *
  refine bodyPost_ret (v := .tuple #[.agg #[.int .i64 p.K, .int .i64 p.A, .int .i64 p.N, .int .i64 a.K, .int .i64 a.P, .int .i64 a.N, .int .u64 a.V, .int .u64 a.U, .slice A l c, .int .u64 x.V, .bool x.D, .slice A2 l2 c2], .int .i64 0]) (by simp [results, Tryz.results35, go_sem, r0, r1, r2, r3, r4, r5, r6, r7, r8, r9, r10, r11]) rfl ?_
  have ht12 := twelve_touch w9 (w.heap.size + 1) (.int .i64 p.K) (.int .i64 p.A) (.int .i64 p.N) (.int .i64 a.K) (.int .i64 a.P) (.int .i64 a.N) (.int .u64 a.V) (.int .u64 a.U) (.slice A l c) (.int .u64 x.V) (.bool x.D) (.slice A2 l2 c2)
  obtain ⟨hby, hs9, ht9, ho9⟩ := HZ.out
  have hall := own_trans HT3.out (fun _ _ => rfl) ht9 ho9
  have hlv := HBX3.out.ev.lt
  have hno : ∀ k, w.heap.size ≤ k → k < W3.heap.size → o3 k = .no := fun k h1 h2 => (ho9 k h2).trans (HS.out.new_no h1)
  have hown := (BytesIn.of_own HOW.out).lt
  refine ⟨o3, A, l, c, A2, l2, c2, tv9, ts9, rfl, ?_, ?_, hs9.touch ht12 fun k hk e => ?_, hall.1.trans' ht12 (Nat.le_succ _), hall.2⟩
  · refine ((hown.touch ht9 fun k hk e => e (HS.out.new_no (by have := hk.1; omega))).touch ht12 fun k hk e => ?_).mono fun k hk _ => ⟨by have := hk.1; omega, hno k (by have := hk.1; omega) hk.2⟩
    have h1 := hk.1
    have h2 : k = w.heap.size + 1 := e
    omega
  · refine (hby.touch ht12 fun k hk e => ?_).mono fun k hk _ => ⟨by have := hk.1; omega, hk.2⟩
    have h1 := hk.1
    have h2 : k = w.heap.size + 1 := e
    omega
  · have h2 : k = w.heap.size + 1 := e
    exact hk (hno k (by omega) (by omega))
end Go.Proofs.YtjachppnlmiloaaGreat
namespace Go.Proofs.YtjachppnlmiloaaGreat
open Go.RowKit

set_option maxRecDepth 100000 in
set_option maxHeartbeats 4000000 in
theorem pick_bad {w : World} {o : Nat → Pt} {gw ga gb hb : Nat} {ax : Nat → Value} {tv : Value} {ts : List Tx} {st : St} (h : Sw w o gw ga gb hb ax tv ts st) (p : Pk) (h0 : st.chk p = 0) (hK : p.K = 0) (i : Nat) (hp : p.A = (i : Nat)) (hi : i < st.na) (a : Ac) (hnx : (st.ms i).next = some a) (hf : a.Fine) (h1 : a.err st.nw ≠ 0) :
    Calls Tryz.prog 35 #[.pointer (some ⟨gw, 0, none⟩), .agg #[.int .i64 p.K, .int .i64 p.A, .int .i64 p.N]] w (PickTold o gw ga gb hb ax (st.kill i) (a.err st.nw) Ev.zero w) := by
  have HS := Lib.hid h
  have HR := Lib.hid h0
  have HK := Lib.hid hK
  have hfew := h.few
  have HP := Lib.hid hp
  clear hp
  have HNX := Lib.hid hnx
  clear hnx
  have HF := Lib.hid hf
  clear hf
  have HE := Lib.hid h1
  clear h1
  clear h h0 hK
  obtain ⟨WW, hWW⟩ : ∃ WW, WW = (w.alloc (.cells #[.int .i64 p.K, .int .i64 p.A, .int .i64 p.N] 80)).alloc (.cells #[.int .i64 0, .int .i64 0, .int .i64 0, .int .i64 0, .int .i64 0, .int .i64 0, .int .u64 0, .int .u64 0, .slice none 0 0, .int .u64 0, .bool false, .slice none 0 0] 82) := ⟨_, rfl⟩
  have HB := Lib.hid (pick_boxes w p WW hWW)
  go_enter Tryz.func35, Tryz.ntmps35
  go_upto_region 1 with fail
  rw [← hWW]
  clear hWW
  obtain ⟨hb0, hx0, hsz0⟩ := HB.out
  have HSW := Lib.hid (HS.out.below hb0)
  have p0 : WW.cell? ⟨w.heap.size, 0, none⟩ = some (.int .i64 p.K) := by simp [World.cell?, hx0.pk]
  have p1 : WW.cell? ⟨w.heap.size, 1, none⟩ = some (.int .i64 p.A) := by simp [World.cell?, hx0.pk]
  have p2 : WW.cell? ⟨w.heap.size, 2, none⟩ = some (.int .i64 p.N) := by simp [World.cell?, hx0.pk]
  clear hx0
  go_upto_region 2 with (go_at_call 64; refine (pickCheck_any HSW.out p).mono ?_; rintro e w1 ⟨rfl, hb1⟩; rw [HR.out])
  have HBX := Lib.hid (HB.out.2.1.keep (W' := w1) fun k _ hk => hb1.block k hk)
  have HS1 := Lib.hid (HSW.out.below hb1)
  have HT1 := Lib.hid ((Touch.of_below (S := Own o) hb0).trans (Touch.of_below hb1))
  have hsz1 := hb1.size
  have q0 : w1.cell? ⟨w.heap.size, 0, none⟩ = some (.int .i64 0) := by rw [← HK.out]; simp [World.cell?, HBX.out.pk]
  have q1 : w1.cell? ⟨w.heap.size, 1, none⟩ = some (.int .i64 (i : Nat)) := by rw [← HP.out]; simp [World.cell?, HBX.out.pk]
  have q2 : w1.cell? ⟨w.heap.size, 2, none⟩ = some (.int .i64 p.N) := by simp [World.cell?, HBX.out.pk]
  clear p0 p1 p2 hb1 hb0
  have w1c := HS1.out.w1
  have da := HS1.out.amach hi
  have hga := HS1.out.ga_lt
  have hgw := HS1.out.gw_lt
  have hlw : w.heap.size < w1.heap.size := by omega
  go_upto_region 5 with fail
  go_cut [7, 8] (fun s7 s8 wx => ∃ (g : Nat) (A : Option Addr) (l c : Nat), s7 = .pointer (some ⟨g, 0, none⟩) ∧ s8 = .bool true ∧ Below w1.heap.size w1 wx ∧ wx.heap[g]? = some (.cells #[.int .i64 a.K, .int .i64 a.P, .int .i64 a.N, .int .u64 a.V, .int .u64 a.U, .slice A l c] 45 (0, 0)) ∧ Owns w1.heap.size wx (.slice A l c) a.bs ∧ w1.heap.size ≤ g)
  case first =>
    have hn1 : ¬ w1.heap.size = gw := by omega
    have hn2 : ¬ w1.heap.size = ga := by omega
    have hn3 : ¬ w1.heap.size = w.heap.size := by omega
    go_region_held3 (fun w' => w'.cell? ⟨gw, 1, none⟩ = some (.slice (some ⟨ga, 0, none⟩) st.na st.na) ∧ w'.cell? ⟨w.heap.size, 1, none⟩ = some (.int .i64 (i : Nat)) ∧ w'.cell? ⟨ga, i * 2, none⟩ = some (ax i))
      (go_keep)
      (first
        | (go_at_call 66; refine (next_told (((HS1.out.alloc _).drew).mach i hi) (fun k hk => ((HS1.out.alloc _).drew).lt k (by rw [hk]; simp))).mono ?_; rintro e w2 ⟨hbd, hm⟩; rw [HNX.out] at hm; obtain ⟨A, l, c, he, ho⟩ := hm; subst he; have hb1 := below_alloc_drew hbd; have hbk := (alloc_drew_block hbd).trans (Go.Deep.blk_alloc_new _ _); have HAN := AccNew.of_blk hbk; obtain ⟨n0, n1, n2, n3, n4, n5, nf0, nf1, nf2, nf3, nf4, nf5, _⟩ := HAN; have HOB := Lib.hid (And.intro ho hbk); clear hbd ho hbk; have k0 := (hb1.cell (p := ⟨gw, 1, none⟩) hgw).trans w1c; have k1 := (hb1.cell (p := ⟨w.heap.size, 1, none⟩) hlw).trans q1; have k2 := (hb1.cell (p := ⟨ga, i * 2, none⟩) hga).trans da)
        | (go_at_call 66; refine (next_told ((HS1.out.drew).mach i hi) (fun k hk => (HS1.out.drew).lt k (by rw [hk]; simp))).mono ?_; rintro e w2 ⟨hbd, hm⟩; rw [HNX.out] at hm; obtain ⟨A, l, c, he, ho⟩ := hm; subst he; have hb1 := below_drew hbd; have HOB := Lib.hid ho; clear hbd ho; have k0 := (hb1.cell (p := ⟨gw, 1, none⟩) hgw).trans w1c; have k1 := (hb1.cell (p := ⟨w.heap.size, 1, none⟩) hlw).trans q1; have k2 := (hb1.cell (p := ⟨ga, i * 2, none⟩) hga).trans da))
    all_goals (go_wp2_with fail; go_meet)
    · exact ⟨_, A, l, c, rfl, rfl, hb1.alloc hb1.size _, Go.Deep.blk_alloc_new _ _, Owns.alloc (HOB.out.down (Nat.le_refl _)) _, hb1.size⟩
    · refine ⟨_, A, l, c, rfl, rfl, (((((hb1.setCell (Nat.le_refl _) _).setCell (Nat.le_refl _) _).setCell (Nat.le_refl _) _).setCell (Nat.le_refl _) _).setCell (Nat.le_refl _) _).setCell (Nat.le_refl _) _, six_blk HOB.out.2 _ _ _ _ _ _, ?_, Nat.le_refl _⟩
      exact (six_own (base := w1.heap.size + 1) (b := w1.heap.size) (HOB.out.1.down (by simp [World.drew])) (Nat.lt_succ_self _) (.int .i64 a.K) (.int .i64 a.P) (.int .i64 a.N) (.int .u64 a.V) (.int .u64 a.U) (.slice A l c)).down (Nat.le_succ _)
  obtain ⟨g7, A, l, c, rfl, rfl, hbc, hblk, hown, hg7⟩ := hcut
  obtain ⟨W3, hW3⟩ : ∃ W3 : World, W3 = wc := ⟨_, rfl⟩
  subst hW3
  have HBX3 := Lib.hid (HBX.out.keep (W' := W3) fun k _ hl => hbc.block k hl)
  have HS3 := Lib.hid (HS1.out.below hbc)
  have HT3 := Lib.hid (HT1.out.trans (Touch.of_below hbc))
  have HOW := Lib.hid hown
  have b0 : W3.cell? ⟨g7, 0, none⟩ = some (.int .i64 a.K) := by simp [World.cell?, hblk]
  have b1 : W3.cell? ⟨g7, 1, none⟩ = some (.int .i64 a.P) := by simp [World.cell?, hblk]
  have b2 : W3.cell? ⟨g7, 2, none⟩ = some (.int .i64 a.N) := by simp [World.cell?, hblk]
  have b3 : W3.cell? ⟨g7, 3, none⟩ = some (.int .u64 a.V) := by simp [World.cell?, hblk]
  have b4 : W3.cell? ⟨g7, 4, none⟩ = some (.int .u64 a.U) := by simp [World.cell?, hblk]
  have b5 : W3.cell? ⟨g7, 5, none⟩ = some (.slice A l c) := by simp [World.cell?, hblk]
  have u0 : W3.cell? ⟨w.heap.size, 0, none⟩ = some (.int .i64 p.K) := by simp [World.cell?, HBX3.out.pk]
  have u1 : W3.cell? ⟨w.heap.size, 1, none⟩ = some (.int .i64 p.A) := by simp [World.cell?, HBX3.out.pk]
  have u2 : W3.cell? ⟨w.heap.size, 2, none⟩ = some (.int .i64 p.N) := by simp [World.cell?, HBX3.out.pk]
  have hszc := hbc.size
  clear w1c da hblk hown q0 q1 q2
  go_wp2_with (go_at_call 67; refine (step_no HS3.out p i HP.out hi a HOW.out HE.out).mono ?_; rintro e w9 ⟨he, hs9, ht9⟩; subst he; have HV9 := HBX3.out.ev.of_block (ht9.block _ HBX3.out.ev.lt fun e => e (HS.out.new_no (Nat.le_succ _))); have HZ := Lib.hid (And.intro hs9 ht9); clear hs9 ht9; have r0 : w9.cell? ⟨w.heap.size + 1, 0, none⟩ = some (.int .i64 0) := HV9.e0; have f0 := HV9.free 0; have r1 : w9.cell? ⟨w.heap.size + 1, 1, none⟩ = some (.int .i64 0) := HV9.e1; have f1 := HV9.free 1; have r2 : w9.cell? ⟨w.heap.size + 1, 2, none⟩ = some (.int .i64 0) := HV9.e2; have f2 := HV9.free 2; have r3 : w9.cell? ⟨w.heap.size + 1, 3, none⟩ = some (.int .i64 0) := HV9.e3; have f3 := HV9.free 3; have r4 : w9.cell? ⟨w.heap.size + 1, 4, none⟩ = some (.int .i64 0) := HV9.e4; have f4 := HV9.free 4; have r5 : w9.cell? ⟨w.heap.size + 1, 5, none⟩ = some (.int .i64 0) := HV9.e5; have f5 := HV9.free 5; have r6 : w9.cell? ⟨w.heap.size + 1, 6, none⟩ = some (.int .u64 0) := HV9.e6; have f6 := HV9.free 6; have r7 : w9.cell? ⟨w.heap.size + 1, 7, none⟩ = some (.int .u64 0) := HV9.e7; have f7 := HV9.free 7; have r8 : w9.cell? ⟨w.heap.size + 1, 8, none⟩ = some (.slice none 0 0) := HV9.e8; have f8 := HV9.free 8; have r9 : w9.cell? ⟨w.heap.size + 1, 9, none⟩ = some (.int .u64 0) := HV9.e9; have f9 := HV9.free 9; have r10 : w9.cell? ⟨w.heap.size + 1, 10, none⟩ = some (.bool false) := HV9.e10; have f10 := HV9.free 10; have r11 : w9.cell? ⟨w.heap.size + 1, 11, none⟩ = some (.slice none 0 0) := HV9.e11; have f11 := HV9.free 11; clear HV9)
  generalize hx : a.err st.nw = r at *
  refine bodyPost_ret (v := .tuple #[.agg #[.int .i64 0, .int .i64 0, .int .i64 0, .int .i64 0, .int .i64 0, .int .i64 0, .int .u64 0, .int .u64 0, .slice none 0 0, .int .u64 0, .bool false, .slice none 0 0], .int .i64 r]) (by simp [results, Tryz.results35, go_sem, r0, r1, r2, r3, r4, r5, r6, r7, r8, r9, r10, r11]) rfl ?_
  have ht12 := twelve_touch w9 (w.heap.size + 1) (.int .i64 0) (.int .i64 0) (.int .i64 0) (.int .i64 0) (.int .i64 0) (.int .i64 0) (.int .u64 0) (.int .u64 0) (.slice none 0 0) (.int .u64 0) (.bool false) (.slice none 0 0)
  obtain ⟨hs9, ht9⟩ := HZ.out
  refine ⟨o, none, 0, 0, none, 0, 0, tv, ts, rfl, BytesIn.none _ _, BytesIn.none _ _, hs9.touch ht12 fun k hk e => ?_, (HT3.out.trans ht9).trans' ht12 (Nat.le_succ _), fun _ _ => rfl⟩
  have h2 : k = w.heap.size + 1 := e
  exact hk (HS.out.new_no (by omega))
end Go.Proofs.YtjachppnlmiloaaGreat
namespace Go.Proofs.YtjachppnlmiloaaGreat
open Go.RowKit

theorem St.chk_actor {st : St} {p : Pk} (h0 : st.chk p = 0) (hK : p.K = 0 ∨ p.K = 1) : ∃ i : Nat, p.A = (i : Nat) ∧ i < st.na ∧ st.dead i = false := by
  unfold St.chk at h0
  rw [if_pos hK] at h0
  by_cases hA : hasB st.na p.A = true
  · rw [if_pos hA] at h0
    obtain ⟨a0, a1⟩ := hasB_yes hA
    obtain ⟨i, hi⟩ := Int.eq_ofNat_of_zero_le a0
    refine ⟨i, hi, by omega, ?_⟩
    by_cases hd : st.dead p.A.toNat = true
    · rw [if_pos hd] at h0; cases h0
    · rw [hi, Int.toNat_natCast] at hd
      simpa using hd
  · rw [if_neg hA] at h0; cases h0

theorem St.chk_kind {st : St} {p : Pk} (h0 : st.chk p = 0) : p.K = 0 ∨ p.K = 1 ∨ p.K = 2 := by
  unfold St.chk at h0
  by_cases hK : p.K = 0 ∨ p.K = 1
  · omega
  · rw [if_neg hK] at h0
    by_cases h2 : p.K = 2 ∧ 0 ≤ p.N ∧ p.N ≤ 1099511627776
    · exact .inr (.inr h2.1)
    · rw [if_neg h2] at h0; cases h0

theorem St.pick_no {st : St} {p : Pk} (h0 : ¬ st.chk p = 0) : st.pick p = (st, st.chk p, Ev.zero) := by
  unfold St.pick
  rw [if_neg h0]
theorem St.pick_kill {st : St} {p : Pk} (h0 : st.chk p = 0) (h1 : p.K = 1) : st.pick p = ((st.kill p.A.toNat).push (.bare p), 0, .bare p) := by
  unfold St.pick
  rw [if_pos h0, if_pos h1]
theorem St.pick_tick {st : St} {p : Pk} (h0 : st.chk p = 0) (h2 : p.K = 2) : st.pick p = ((st.ticks (wrap64 (st.clock + p.N)) st.na).push (.bare p), 0, .bare p) := by
  unfold St.pick
  rw [if_pos h0, if_neg (by omega), if_pos h2]
theorem St.pick_end {st : St} {p : Pk} (h0 : st.chk p = 0) (hk : p.K = 0) (hn : (st.ms p.A.toNat).next = none) : st.pick p = (st.push (.bare p), 0, .bare p) := by
  unfold St.pick
  rw [if_pos h0, if_neg (by omega), if_neg (by omega), hn]
theorem St.pick_ok {st : St} {p : Pk} {a : Ac} (h0 : st.chk p = 0) (hk : p.K = 0) (hn : (st.ms p.A.toNat).next = some a) (he : a.err st.nw = 0) : st.pick p = (st.did p p.A.toNat a, 0, ⟨p, a, a.ans st.m⟩) := by
  unfold St.pick
  rw [if_pos h0, if_neg (by omega), if_neg (by omega), hn]
  exact if_pos he
theorem St.pick_bad {st : St} {p : Pk} {a : Ac} (h0 : st.chk p = 0) (hk : p.K = 0) (hn : (st.ms p.A.toNat).next = some a) (he : ¬ a.err st.nw = 0) : st.pick p = (st.kill p.A.toNat, a.err st.nw, Ev.zero) := by
  unfold St.pick
  rw [if_pos h0, if_neg (by omega), if_neg (by omega), hn]
  exact if_neg he

set_option maxRecDepth 100000 in
theorem pick_any {w : World} {o : Nat → Pt} {gw ga gb hb : Nat} {ax : Nat → Value} {tv : Value} {ts : List Tx} {st : St} (h : Sw w o gw ga gb hb ax tv ts st) (p : Pk) (hlong : st.tr.length ≤ 1000000) :
    Calls Tryz.prog 35 #[.pointer (some ⟨gw, 0, none⟩), .agg #[.int .i64 p.K, .int .i64 p.A, .int .i64 p.N]] w (PickTold o gw ga gb hb ax (st.pick p).1 (st.pick p).2.1 (st.pick p).2.2 w) := by
  have hl : ts.length ≤ 1000000 := by rw [h.told, List.length_map] at hlong; exact hlong
  by_cases h0 : st.chk p = 0
  · by_cases h1 : p.K = 1
    · obtain ⟨i, hi, hlt, _⟩ := St.chk_actor h0 (.inr h1)
      rw [St.pick_kill h0 h1, show p.A.toNat = i by rw [hi, Int.toNat_natCast]]
      exact Go.Proofs.YtjachppnlmiloaaGreat.pick_kill h p h0 h1 i hi hlt hl
    · by_cases h2 : p.K = 2
      · rw [St.pick_tick h0 h2]
        exact Go.Proofs.YtjachppnlmiloaaGreat.pick_tick h p h0 h2 hl
      · have hk : p.K = 0 := by have := St.chk_kind h0; omega
        obtain ⟨i, hi, hlt, _⟩ := St.chk_actor h0 (.inl hk)
        have hii : p.A.toNat = i := by rw [hi, Int.toNat_natCast]
        cases hn : (st.ms i).next with
        | none =>
          rw [St.pick_end h0 hk (by rw [hii]; exact hn)]
          exact Go.Proofs.YtjachppnlmiloaaGreat.pick_end h p h0 hk i hi hlt hn hl
        | some a =>
          by_cases he : a.err st.nw = 0
          · rw [St.pick_ok h0 hk (by rw [hii]; exact hn) he, hii]
            exact Go.Proofs.YtjachppnlmiloaaGreat.pick_ok h p h0 hk i hi hlt a hn ((h.mach i hlt).fine hn) he hl
          · rw [St.pick_bad h0 hk (by rw [hii]; exact hn) he, hii]
            exact Go.Proofs.YtjachppnlmiloaaGreat.pick_bad h p h0 hk i hi hlt a hn ((h.mach i hlt).fine hn) he
  · rw [St.pick_no h0]
    exact Go.Proofs.YtjachppnlmiloaaGreat.pick_no h p h0
end Go.Proofs.YtjachppnlmiloaaGreat
