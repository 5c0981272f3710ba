/-
  Layer 6's plain Pick, walked: an access that is done.
  Layer 6's plain Pick: all its ways as one.
-/
import Derived.Test.YtegjnejekakeiaaP09
import Derived.Deep.CutRange
import Derived.Deep.CutBlock
import Derived.Deep.QuietTactic
import Derived.BigQuiet
import Derived.BigRegion
import Derived.Deep.DeepCutAuto
import Derived.Deep.Onto
import Derived.Test.YtegjnejekakeiaaP08
namespace Go.Proofs.Ytegjnejekakeiaa
open Go.RowKit

theorem seven_block {w w' : World} {gp gA : Nat} {u0 u1 u2 u3 u4 u5 u6 : Value} (h1 : w'.heap[gp]? = w.heap[gp]?) (h2 : w'.heap[gA]? = w.heap[gA]?) (h : w.cell? ⟨gp, 0, none⟩ = some u0 ∧ w.cell? ⟨gA, 0, none⟩ = some u1 ∧ w.cell? ⟨gA, 1, none⟩ = some u2 ∧ w.cell? ⟨gA, 2, none⟩ = some u3 ∧ w.cell? ⟨gA, 3, none⟩ = some u4 ∧ w.cell? ⟨gA, 4, none⟩ = some u5 ∧ w.cell? ⟨gA, 5, none⟩ = some u6) : w'.cell? ⟨gp, 0, none⟩ = some u0 ∧ w'.cell? ⟨gA, 0, none⟩ = some u1 ∧ w'.cell? ⟨gA, 1, none⟩ = some u2 ∧ w'.cell? ⟨gA, 2, none⟩ = some u3 ∧ w'.cell? ⟨gA, 3, none⟩ = some u4 ∧ w'.cell? ⟨gA, 4, none⟩ = some u5 ∧ w'.cell? ⟨gA, 5, none⟩ = some u6 := by
  have k1 := fun j => World.cell?_of_block (w := w) (w' := w') (a := ⟨gp, j, none⟩) h1
  have k2 := fun j => World.cell?_of_block (w := w) (w' := w') (a := ⟨gA, j, none⟩) h2
  simp only [k1, k2]
  exact h

theorem three_blk {W : World} {b : Nat} {cs : Array Value} {t : TypeId} (h : W.heap[b]? = some (.cells cs t (0, 0))) (hs : cs.size = 3) (u0 u1 u2 : Value) :
    (((W.setCell ⟨b, 0, none⟩ u0).setCell ⟨b, 1, none⟩ u1).setCell ⟨b, 2, none⟩ u2).heap[b]? = some (.cells #[u0, u1, u2] t (0, 0)) := by
  match cs, hs with
  | ⟨[v0, v1, v2]⟩, _ => simp [World.setCell, Array.getElem?_modify, h]

theorem Ans.Good.keep {K : Nat → Prop} {w w' : World} {y : Ans} (h : y.Good K w) (hs : w.heap.size ≤ w'.heap.size) (hb : ∀ k, K k → k < w.heap.size → w'.heap[k]? = w.heap[k]?) : y.Good K w' := ⟨h.num, h.isB, h.bytes.keep hs hb, h.room, h.few, h.eight⟩
theorem Ans.Good.mono {K K' : Nat → Prop} {w : World} {y : Ans} (h : y.Good K w) (hK : ∀ k, K k → K' k) : y.Good K' w := ⟨h.num, h.isB, h.bytes.mono fun k hk _ => hK k hk, h.room, h.few, h.eight⟩

def nine (W : World) (b : Nat) (u3 u4 u5 u6 u7 u8 u9 u10 u11 : Value) : World :=
  (((((((((W.setCell ⟨b, 3, none⟩ u3).setCell ⟨b, 4, none⟩ u4).setCell ⟨b, 5, none⟩ u5).setCell ⟨b, 6, none⟩ u6).setCell ⟨b, 7, none⟩ u7).setCell ⟨b, 8, none⟩ u8).setCell ⟨b, 9, none⟩ u9).setCell ⟨b, 10, none⟩ u10).setCell ⟨b, 11, none⟩ u11)
theorem nine_blk {W : World} {b : Nat} {a0 a1 a2 a3 a4 a5 a6 a7 a8 a9 a10 a11 : Value} {t : TypeId} (h : W.heap[b]? = some (.cells #[a0, a1, a2, a3, a4, a5, a6, a7, a8, a9, a10, a11] t (0, 0))) (u3 u4 u5 u6 u7 u8 u9 u10 u11 : Value) :
    (nine W b u3 u4 u5 u6 u7 u8 u9 u10 u11).heap[b]? = some (.cells #[a0, a1, a2, u3, u4, u5, u6, u7, u8, u9, u10, u11] t (0, 0)) := by
  simp [nine, World.setCell, Array.getElem?_modify, h]
theorem nine_touch (W : World) (b : Nat) (u3 u4 u5 u6 u7 u8 u9 u10 u11 : Value) : Touch (fun k => k = b) W (nine W b u3 u4 u5 u6 u7 u8 u9 u10 u11) :=
  ((((((((((Touch.refl (fun k => k = b) W).setCell (p := ⟨b, 3, none⟩) rfl u3).setCell (p := ⟨b, 4, none⟩) rfl u4).setCell (p := ⟨b, 5, none⟩) rfl u5).setCell (p := ⟨b, 6, none⟩) rfl u6).setCell (p := ⟨b, 7, none⟩) rfl u7).setCell (p := ⟨b, 8, none⟩) rfl u8).setCell (p := ⟨b, 9, none⟩) rfl u9).setCell (p := ⟨b, 10, none⟩) rfl u10).setCell (p := ⟨b, 11, none⟩) rfl u11)
theorem nine_box {W : World} {b : Nat} {a0 a1 a2 a3 a4 a5 a6 a7 a8 a9 a10 a11 : Value} {t : TypeId} (h : W.heap[b]? = some (.cells #[a0, a1, a2, a3, a4, a5, a6, a7, a8, a9, a10, a11] t (0, 0))) {u3 u4 u5 u6 u7 u8 u9 u10 u11 : Value} {W5 : World}
    (hW : W5 = (((((((((W.setCell ⟨b, 3, none⟩ u3).setCell ⟨b, 4, none⟩ u4).setCell ⟨b, 5, none⟩ u5).setCell ⟨b, 6, none⟩ u6).setCell ⟨b, 7, none⟩ u7).setCell ⟨b, 8, none⟩ u8).setCell ⟨b, 9, none⟩ u9).setCell ⟨b, 10, none⟩ u10).setCell ⟨b, 11, none⟩ u11).drew) :
    W5.heap[b]? = some (.cells #[a0, a1, a2, u3, u4, u5, u6, u7, u8, u9, u10, u11] t (0, 0)) ∧ Touch (fun k => k = b) W W5 := by
  have h1 := nine_blk h u3 u4 u5 u6 u7 u8 u9 u10 u11
  have h2 := nine_touch W b u3 u4 u5 u6 u7 u8 u9 u10 u11
  have e : W5 = (nine W b u3 u4 u5 u6 u7 u8 u9 u10 u11).drew := hW
  generalize nine W b u3 u4 u5 u6 u7 u8 u9 u10 u11 = X at h1 h2 e
  subst e
  exact ⟨h1, h2.drew⟩
theorem touch_chain {o o9 : Nat → Pt} {w a b : World} (h1 : Touch (Mut o) w a) (h2 : Touch (Mut o9) a b) (ho : ∀ k, k < w.heap.size → o9 k = o k) : Touch (Mut o) w b :=
  ⟨h2.os.trans h1.os, h2.tape.trans h1.tape, h2.output.trans h1.output, Nat.le_trans h1.size h2.size, fun k hk hn => (h2.block k (Nat.lt_of_lt_of_le hk h1.size) fun e => hn (by unfold Mut at e ⊢; rw [← ho k hk]; exact e)).trans (h1.block k hk hn)⟩

theorem da_size (w : World) (q : Obj) : (w.alloc q).drew.heap.size = w.heap.size + 1 := by show (w.alloc q).heap.size = _; simp
theorem daa_size (w : World) (q q' : Obj) : ((w.alloc q).alloc q').drew.heap.size = w.heap.size + 2 := by show ((w.alloc q).alloc q').heap.size = _; simp
theorem daa_blk (w : World) (q q' : Obj) : ((w.alloc q).alloc q').drew.heap[w.heap.size + 1]? = some q' := by
  have := Go.Deep.blk_alloc_new (w.alloc q) q'
  rw [show (w.alloc q).heap.size = w.heap.size + 1 by simp] at this
  exact this
theorem daa_blk0 (w : World) (q q' : Obj) : ((w.alloc q).alloc q').drew.heap[w.heap.size]? = some q := (Below.heap_alloc (w.alloc q) q' w.heap.size (by simp)).trans (Go.Deep.blk_alloc_new w q)
theorem daa_below (w : World) (q q' : Obj) : Below w.heap.size w ((w.alloc q).alloc q').drew := (((Below.refl w.heap.size w).alloc (Nat.le_refl _) q).alloc (by simp) q').drew
theorem da_below (w : World) (q : Obj) : Below w.heap.size w (w.alloc q).drew := ((Below.refl w.heap.size w).alloc (Nat.le_refl _) q).drew

theorem own_new (w : World) (g : Nat) (hg : w.heap.size = g) {base : Nat} (hb : base ≤ w.heap.size) : (w.alloc (.cells #[] 49)).ownsRow base 49 3 (.slice (some ⟨g, 0, none⟩) 0 0) 0 [] := by
  subst hg
  exact ⟨by simp, .inr ⟨w.heap.size, 0, #[], rfl, hb, Go.Deep.blk_alloc_new _ _, Nat.le_refl _, by unfold maxLen; decide, by simp, by simp⟩⟩

set_option maxRecDepth 100000 in
set_option maxHeartbeats 4000000 in
theorem plainPick_ok {w : World} {o : Nat → Pt} {gp q jb : Nat} {JA : Option Addr} {c5 : Nat} {js : Nat → Jb} {pj : Nat → PJ} {tv : Value} {ts : List Tx} {st : St} (h : PW w o gp q jb JA c5 js pj tv ts st) (p : Pk) (hK : p.K = 0) (i : Nat) (hA : p.A = i) (hi : i < st.na) (hd : st.dead i = false) {a : Ac} (hn : (st.ms i).next = some a) (herr : a.err 32 = 0) (hok : (js i).kd.Okay) (hL : (js i).L ≤ 131072) (hlong : ts.length ≤ 1000000) :
    Calls Try.prog 12 #[.pointer (some ⟨gp, 0, none⟩), .agg #[.int .i64 p.K, .int .i64 p.A, .int .i64 p.N]] w (PlainTold o gp q jb JA c5 js (st.did p i a) ⟨p, a, a.ans st.m⟩ w) := by
  obtain ⟨hmore, rfl, htake⟩ := h.next_some hi hn
  have hp0 : 0 ≤ (js i).kd.place := by rw [(js i).kd_place]; exact (js i).at_in.1
  have hfit : (js i).kd.place + ((8 * (pj i).cnt : Nat) : Int) + (Cy.nx ((js i).len - 8 * (pj i).cnt) : Nat) ≤ 256 := by
    rw [acOf_err _ _ _ hp0] at herr
    by_cases hb : 256 < (js i).kd.place + (8 * (pj i).cnt : Nat) + (Cy.nx ((js i).len - 8 * (pj i).cnt) : Nat)
    · rw [if_pos hb] at herr; cases herr
    · omega
  have HDO := Lib.hid (fun (W : World) (B : Option Addr) (L c : Nat) (hr : PlainAt W q 256 st.m) (hb : BytesAt W (.slice B L c) ((js i).kd.bytes (8 * (pj i).cnt) (Cy.nx ((js i).len - 8 * (pj i).cnt)))) => refDo_ok hr h.isB (js i).kd hok (js i).len (pj i).cnt hmore hp0 hfit B L c hb)
  have HTK := Lib.hid htake
  have HCT : Hid ((pj i).cnt + 1 ≤ 100000) := Lib.hid (by
    have h1 := Cy.few_le (js i).num
    have h2 : (js i).len ≤ 131072 := by unfold Jb.len; split <;> omega
    omega)
  have hpn : -4611686018427387904 ≤ (js i).kd.place + 8 * ((pj i).cnt : Int) := by omega
  have HMORE := Lib.hid hmore
  have HK := Lib.hid hK
  have HA := Lib.hid hA
  have HD := Lib.hid hd
  clear hK hA hd hok hn herr hfit hp0 htake hmore hpn
  obtain ⟨WW, hWW⟩ : ∃ WW, WW = (w.alloc (.cells #[.int .i64 p.K, .int .i64 p.A, .int .i64 p.N] 44)).alloc (.cells #[.int .i64 0, .int .i64 0, .int .i64 0, .int .i64 0, .int .i64 0, .int .i64 0, .int .u64 0, .int .u64 0, .slice none 0 0, .int .u64 0, .bool false, .slice none 0 0] 51) := ⟨_, rfl⟩
  have HB := Lib.hid (pick_boxes w p WW hWW)
  have hlg : gp < w.heap.size := (Array.getElem?_eq_some_iff.1 h.head).1
  have HS := Lib.hid h
  have HL := Lib.hid hlong
  clear hlong
  clear h
  go_enter Try.func12, Try.ntmps12
  go_upto_region 1 with (fail)
  rw [← hWW]
  clear hWW
  obtain ⟨hb0, hx0, hsz0⟩ := HB.out
  have p0 : WW.cell? ⟨w.heap.size, 0, none⟩ = some (.int .i64 p.K) := by simp [World.cell?, hx0.pk]
  have p1 : WW.cell? ⟨w.heap.size, 1, none⟩ = some (.int .i64 p.A) := by simp [World.cell?, hx0.pk]
  have p2 : WW.cell? ⟨w.heap.size, 2, none⟩ = some (.int .i64 p.N) := by simp [World.cell?, hx0.pk]
  go_upto_region 2 with (fail)
  have hbx := (Below.refl WW.heap.size WW).alloc (Nat.le_refl _) (.cells #[.int .i64 p.K, .int .i64 p.A, .int .i64 p.N, .int .i64 0, .int .i64 0, .int .i64 0, .int .u64 0, .int .u64 0, .slice none 0 0, .int .u64 0, .bool false, .slice none 0 0] 51)
  have hb2 := hb0.alloc hb0.size (.cells #[.int .i64 p.K, .int .i64 p.A, .int .i64 p.N, .int .i64 0, .int .i64 0, .int .i64 0, .int .u64 0, .int .u64 0, .slice none 0 0, .int .u64 0, .bool false, .slice none 0 0] 51)
  have HEV := hx0.ev.below hbx
  have p0 := (hbx.cell (p := ⟨w.heap.size, 0, none⟩) (lt_of_cell p0)).trans p0
  have p1 := (hbx.cell (p := ⟨w.heap.size, 1, none⟩) (lt_of_cell p1)).trans p1
  have p2 := (hbx.cell (p := ⟨w.heap.size, 2, none⟩) (lt_of_cell p2)).trans p2
  have hnew := Go.Deep.blk_alloc_new WW (.cells #[.int .i64 p.K, .int .i64 p.A, .int .i64 p.N, .int .i64 0, .int .i64 0, .int .i64 0, .int .u64 0, .int .u64 0, .slice none 0 0, .int .u64 0, .bool false, .slice none 0 0] 51)
  rw [hsz0] at hnew
  have HEB2 : Hid (EvAt (w.heap.size + 1 + 1) (WW.alloc (.cells #[.int .i64 p.K, .int .i64 p.A, .int .i64 p.N, .int .i64 0, .int .i64 0, .int .i64 0, .int .u64 0, .int .u64 0, .slice none 0 0, .int .u64 0, .bool false, .slice none 0 0] 51)) p Ac.zero An.zero (.slice none 0 0) (.slice none 0 0)) := Lib.hid ⟨hnew⟩
  clear hnew
  generalize WW.alloc (.cells #[.int .i64 p.K, .int .i64 p.A, .int .i64 p.N, .int .i64 0, .int .i64 0, .int .i64 0, .int .u64 0, .int .u64 0, .slice none 0 0, .int .u64 0, .bool false, .slice none 0 0] 51) = W2 at hbx hb2 HEV p0 p1 p2 HEB2 ⊢
  have HB2 := Lib.hid hb2
  have HPW := Lib.hid (HS.out.below hb2)
  have r0 := HEV.e0
  have f0 := HEV.free 0
  have r1 := HEV.e1
  have f1 := HEV.free 1
  have r2 := HEV.e2
  have f2 := HEV.free 2
  have r3 := HEV.e3
  have f3 := HEV.free 3
  have r4 := HEV.e4
  have f4 := HEV.free 4
  have r5 := HEV.e5
  have f5 := HEV.free 5
  have r6 := HEV.e6
  have f6 := HEV.free 6
  have r7 := HEV.e7
  have f7 := HEV.free 7
  have r8 := HEV.e8
  have f8 := HEV.free 8
  have r9 := HEV.e9
  have f9 := HEV.free 9
  have r10 := HEV.e10
  have f10 := HEV.free 10
  have r11 := HEV.e11
  have f11 := HEV.free 11
  have HEV2 := Lib.hid HEV
  clear HEV hbx hb2 hb0 hx0 hsz0
  have hna : 0 < st.na := by omega
  have hJA := HPW.out.jrow hna
  obtain ⟨hJ1, hJ2⟩ := hJA
  subst hJ1
  have g1 : W2.cell? ⟨gp, 1, none⟩ = some (.slice (some ⟨jb, 0, none⟩) st.na c5) := by simp [World.cell?, HPW.out.head]
  obtain ⟨j0, j1, j2, j3, j4, hj5, _, _⟩ := HPW.out.job i hi
  have hroom := HPW.out.room
  have hjl : jb < w.heap.size := HS.out.plt jb (by rw [hJ2]; simp)
  have HJ2 := Lib.hid hJ2
  clear hJ2
  rw [HD.out] at hj5
  rw [HA.out] at p1
  rw [HK.out] at p0
  go_upto_region 10 with (fail)
  go_quiet (fail)
  obtain ⟨n1, rfl⟩ : ∃ n, n = nq := ⟨_, rfl⟩
  go_upto_region 12 with (fail)
  go_quiet (fail)
  have hdn := drewN_below W2 (n1 + nq)
  have HN : Hid (Calls Try.prog 19 #[.agg #[.int .i64 (((js i).K : Int) % 3), .int .i64 (js i).at_, .int .i64 (js i).num, (pj i).B, .slice (pj i).A (pj i).cnt (pj i).cap, .bool false]] (W2.drewN (n1 + nq)) fun e w' => Below (W2.drewN (n1 + nq)).heap.size (W2.drewN (n1 + nq)) w' ∧ ∃ B L c, e = .returned (.tuple #[.agg #[.int .i64 (js i).kd.kind, .int .i64 ((js i).kd.place + (8 * (pj i).cnt : Nat)), .int .i64 (Cy.nx ((js i).len - 8 * (pj i).cnt) : Nat), .int .u64 0, .int .u64 0, .slice B L c], .bool true]) ∧ BytesIn (fun k => o k = .tx ∨ W2.heap.size ≤ k) w' (.slice B L c) ((js i).kd.bytes (8 * (pj i).cnt) (Cy.nx ((js i).len - 8 * (pj i).cnt)))) :=
    Lib.hid (((HPW.out.below hdn).next hi hL false).mono fun e w' hs => ⟨hs.1, hs.2.elim (fun h => by obtain ⟨_, B, L, c, e, hb⟩ := h; exact ⟨B, L, c, e, hb⟩) (fun h => absurd h.1 (by have := HMORE.out; omega))⟩)
  have HDN := Lib.hid hdn
  clear hdn
  go_upto_region 19 with (go_at_call 19; refine HN.out.mono ?_; rintro e w5 ⟨hb5, B1, L1, q1, rfl, hby⟩)
  have hal5 := (Below.refl w5.heap.size w5).alloc (Nat.le_refl _) (.cells #[.int .i64 (js i).kd.kind, .int .i64 ((js i).kd.place + 8 * ((pj i).cnt : Int)), .int .i64 (Cy.nx ((js i).len - 8 * (pj i).cnt) : Nat), .int .u64 0, .int .u64 0, .slice B1 L1 q1] 47)
  have hb6 : Below W2.heap.size W2 (w5.alloc (.cells #[.int .i64 (js i).kd.kind, .int .i64 ((js i).kd.place + 8 * ((pj i).cnt : Int)), .int .i64 (Cy.nx ((js i).len - 8 * (pj i).cnt) : Nat), .int .u64 0, .int .u64 0, .slice B1 L1 q1] 47)) := (HDN.out.trans hb5).alloc (Nat.le_trans HDN.out.size hb5.size) _
  have hacc := Go.Deep.blk_alloc_new w5 (.cells #[.int .i64 (js i).kd.kind, .int .i64 ((js i).kd.place + 8 * ((pj i).cnt : Int)), .int .i64 (Cy.nx ((js i).len - 8 * (pj i).cnt) : Nat), .int .u64 0, .int .u64 0, .slice B1 L1 q1] 47)
  have HBY6 := Lib.hid (hby.below hal5)
  have HB6 := Lib.hid hb6
  have hga : W2.heap.size ≤ w5.heap.size := Nat.le_trans HDN.out.size hb5.size
  clear HN hb5 hb6 hal5 hby j0 j1 j2 j3 j4 g1 hj5 p0 p1 p2 r0 r1 r2 r3 r4 r5 r6 r7 r8 r9 r10 r11 f0 f1 f2 f3 f4 f5 f6 f7 f8 f9 f10 f11
  generalize w5.alloc (.cells #[.int .i64 (js i).kd.kind, .int .i64 ((js i).kd.place + 8 * ((pj i).cnt : Int)), .int .i64 (Cy.nx ((js i).len - 8 * (pj i).cnt) : Nat), .int .u64 0, .int .u64 0, .slice B1 L1 q1] 47) = W6 at HB6 HBY6 hacc ⊢
  generalize w5.heap.size = gA at hacc hga ⊢
  have HPW6 := Lib.hid (HPW.out.below HB6.out)
  have HDO6 : Hid (∀ W, Touch (fun _ => False) W6 W → Calls Try.prog 32 #[.slice (some ⟨q, 0, none⟩) 256 256, .agg #[.int .i64 (js i).kd.kind, .int .i64 ((js i).kd.place + 8 * ((pj i).cnt : Int)), .int .i64 (Cy.nx ((js i).len - 8 * (pj i).cnt) : Nat), .int .u64 0, .int .u64 0, .slice B1 L1 q1]] W (DoneTo q st.m (acOf (js i).kd (js i).len (pj i).cnt) W)) :=
    Lib.hid fun W ht => HDO.out W B1 L1 q1 (HPW6.out.bytes.of_block (ht.block q HPW6.out.bytes.lt fun e => e)) ((HBY6.out.touch ht fun _ _ e => e).bytes)
  have g0 : W6.cell? ⟨gp, 0, none⟩ = some (.slice (some ⟨q, 0, none⟩) 256 256) := by simp [World.cell?, HPW6.out.head]
  have hlgp : gp < W6.heap.size := HPW6.out.plt gp (by rw [HPW6.out.pgp]; simp)
  have hla : gA < W6.heap.size := (Array.getElem?_eq_some_iff.1 hacc).1
  have hlq : q < W2.heap.size := HPW.out.bytes.lt
  have hgq : gp ≠ q := fun e => by have h1 := HPW.out.pgp; rw [e, HPW.out.pq] at h1; cases h1
  obtain ⟨ac, hac⟩ : ∃ ac, ac = acOf (js i).kd (js i).len (pj i).cnt := ⟨_, rfl⟩
  have hk0 : (js i).kd.kind = ac.K := by rw [hac]; rfl
  have hk1 : (js i).kd.place + 8 * ((pj i).cnt : Int) = ac.P := by rw [hac]; unfold acOf; push_cast; rfl
  have hk2 : ((Cy.nx ((js i).len - 8 * (pj i).cnt) : Nat) : Int) = ac.N := by rw [hac]; rfl
  have hk3 : (0 : Int) = (ac.V : Nat) := by rw [hac]; rfl
  have hk4 : (0 : Int) = (ac.U : Nat) := by rw [hac]; rfl
  have hk5 : (js i).kd.bytes (8 * (pj i).cnt) (Cy.nx ((js i).len - 8 * (pj i).cnt)) = ac.bs := by rw [hac]; rfl
  have HAC := Lib.hid hac
  rw [← hac] at HDO6 ⊢
  rw [hk0, hk1, hk2] at hacc HDO6 ⊢
  rw [hk5] at HBY6
  clear hk0 hk1 hk2 hk5 hac
  have x0 : W6.cell? ⟨gA, 0, none⟩ = some (.int .i64 ac.K) := by simp [World.cell?, hacc]
  have x1 : W6.cell? ⟨gA, 1, none⟩ = some (.int .i64 ac.P) := by simp [World.cell?, hacc]
  have x2 : W6.cell? ⟨gA, 2, none⟩ = some (.int .i64 ac.N) := by simp [World.cell?, hacc]
  have x3 : W6.cell? ⟨gA, 3, none⟩ = some (.int .u64 0) := by simp [World.cell?, hacc]
  have x4 : W6.cell? ⟨gA, 4, none⟩ = some (.int .u64 0) := by simp [World.cell?, hacc]
  have x5 : W6.cell? ⟨gA, 5, none⟩ = some (.slice B1 L1 q1) := by simp [World.cell?, hacc]
  have HV0 := Lib.hid (And.intro hk3 hk4)
  clear hk3 hk4
  have hX : Hid (∀ W, Touch (Lone q) W6 W → W.cell? ⟨gp, 0, none⟩ = some (.slice (some ⟨q, 0, none⟩) 256 256) ∧ W.cell? ⟨gA, 0, none⟩ = some (.int .i64 ac.K) ∧ W.cell? ⟨gA, 1, none⟩ = some (.int .i64 ac.P) ∧ W.cell? ⟨gA, 2, none⟩ = some (.int .i64 ac.N) ∧ W.cell? ⟨gA, 3, none⟩ = some (.int .u64 0) ∧ W.cell? ⟨gA, 4, none⟩ = some (.int .u64 0) ∧ W.cell? ⟨gA, 5, none⟩ = some (.slice B1 L1 q1)) := Lib.hid fun W hb => seven_block (hb.block gp hlgp hgq) (hb.block gA hla fun e => by have e : gA = q := e; omega) ⟨g0, x0, x1, x2, x3, x4, x5⟩
  have HACC := Lib.hid hacc
  clear hacc
  have y0 := World.new_ne W6 ⟨gp, 0, none⟩ g0
  have y1 := World.new_ne W6 ⟨gA, 0, none⟩ x0
  have y2 := World.new_ne W6 ⟨gA, 1, none⟩ x1
  have y3 := World.new_ne W6 ⟨gA, 2, none⟩ x2
  have y4 := World.new_ne W6 ⟨gA, 3, none⟩ x3
  have y5 := World.new_ne W6 ⟨gA, 4, none⟩ x4
  have y6 := World.new_ne W6 ⟨gA, 5, none⟩ x5
  go_cut [10, 11] (fun a b wx => ∃ (y : Ans) (gy : Nat), a = .pointer (some ⟨gy, 0, none⟩) ∧ b = .int .i64 0 ∧ Touch (Lone q) W6 wx ∧ PlainAt wx q 256 (ac.aft st.m) ∧ y.Good (fun k => W6.heap.size ≤ k) wx ∧ (⟨y.V, y.D, y.bs⟩ : An) = ac.ans st.m ∧ wx.heap[gy]? = some (.cells #[.int .u64 y.V, .bool y.D, .slice y.A y.L y.cap] 49 (0, 0)) ∧ W6.heap.size ≤ gy)
  case first =>
    go_region_held3 (fun w' => w'.cell? ⟨gp, 0, none⟩ = some (.slice (some ⟨q, 0, none⟩) 256 256) ∧ w'.cell? ⟨gA, 0, none⟩ = some (.int .i64 ac.K) ∧ w'.cell? ⟨gA, 1, none⟩ = some (.int .i64 ac.P) ∧ w'.cell? ⟨gA, 2, none⟩ = some (.int .i64 ac.N) ∧ w'.cell? ⟨gA, 3, none⟩ = some (.int .u64 0) ∧ w'.cell? ⟨gA, 4, none⟩ = some (.int .u64 0) ∧ w'.cell? ⟨gA, 5, none⟩ = some (.slice B1 L1 q1))
      (go_keep)
      (first
        | (go_at_call 32; refine (HDO6.out ((W6.alloc _).drew) ((Touch.refl _ _).alloc _).drew).mono ?_; rintro e w2 ⟨y, rfl, hgd, han, hpl, htd⟩; have ht2 : Touch (Lone q) W6 w2 := (((Touch.refl _ W6).alloc _).drew).trans htd; have hbk := (htd.block W6.heap.size (by simp [World.drew]) fun e => by have e : W6.heap.size = q := e; omega).trans (Go.Deep.blk_alloc_new _ _); have HAN := AnsAt.of_blk hbk; obtain ⟨n0, n1, n2, nf0, nf1, nf2, _⟩ := HAN; have HDD := Lib.hid (And.intro hgd (And.intro han (And.intro hpl (And.intro ht2 hbk)))); clear htd hgd han hpl hbk; obtain ⟨k0, k1, k2, k3, k4, k5, k6⟩ := hX.out _ ht2; clear ht2)
        | (go_at_call 32; refine (HDO6.out (W6.drew) (Touch.refl _ _).drew).mono ?_; rintro e w2 ⟨y, rfl, hgd, han, hpl, htd⟩; have ht2 : Touch (Lone q) W6 w2 := ((Touch.refl _ W6).drew).trans htd; have HDD := Lib.hid (And.intro hgd (And.intro han (And.intro hpl ht2))); clear htd hgd han hpl; obtain ⟨k0, k1, k2, k3, k4, k5, k6⟩ := hX.out _ ht2; clear ht2))
    all_goals (go_wp2_with fail; go_meet)
    · obtain ⟨hgd, han, hpl, ht2⟩ := HDD.out
      refine ⟨y, w2.heap.size, rfl, rfl, ht2.alloc _, hpl.of_block (Below.heap_alloc _ _ _ hpl.lt), (hgd.keep (by simp) fun k _ hk => Below.heap_alloc _ _ _ hk).mono fun k hk => hk, han, Go.Deep.blk_alloc_new _ _, ht2.size⟩
    · obtain ⟨hgd, han, hpl, ht2, hbk⟩ := HDD.out
      have hfar : ∀ k, k ≠ W6.heap.size → (((w2.setCell ⟨W6.heap.size, 0, none⟩ (.int .u64 y.V)).setCell ⟨W6.heap.size, 1, none⟩ (.bool y.D)).setCell ⟨W6.heap.size, 2, none⟩ (.slice y.A y.L y.cap)).heap[k]? = w2.heap[k]? := fun k hk => (Below.heap_setCell _ _ _ _ hk).trans ((Below.heap_setCell _ _ _ _ hk).trans (Below.heap_setCell _ _ _ _ hk))
      refine ⟨y, W6.heap.size, rfl, rfl, ((ht2.setNew (Nat.le_refl _) _).setNew (Nat.le_refl _) _).setNew (Nat.le_refl _) _, hpl.of_block (hfar q (by omega)), (hgd.keep (by simp [World.setCell]) fun k hk _ => hfar k (by have hk : (W6.alloc _).drew.heap.size ≤ k := hk; simp [World.drew] at hk; omega)).mono fun k hk => by have hk : (W6.alloc _).drew.heap.size ≤ k := hk; simp [World.drew] at hk; omega, han, three_blk hbk rfl _ _ _, Nat.le_refl _⟩
  case rest =>
    obtain ⟨y, gy, rfl, rfl, hT7, hPL7, hGD7, hAN7, hGY7, hgy⟩ := hcut
    obtain ⟨W7, hW7⟩ : ∃ W7 : World, W7 = wc := ⟨_, rfl⟩
    subst hW7
    have hsz6 := hT7.size
    have hsz62 : W2.heap.size ≤ W6.heap.size := HB6.out.size
    have hsz22 : w.heap.size ≤ W2.heap.size := HB2.out.size
    have hgyl : gy < W7.heap.size := (Array.getElem?_eq_some_iff.1 hGY7).1
    have hjq : jb ≠ q := fun e => by have h1 := HJ2.out; rw [e, HS.out.pq] at h1; cases h1
    have hjl7 : jb < W7.heap.size := by omega
    have hgj1 : ¬ gy = jb := by omega
    have hgj2 : ¬ jb = gy := by omega
    have hj7 := (HPW6.out.job i hi).of_block (hT7.block jb (by omega) hjq)
    have h4 := hj7.c4
    have hz4 := hj7.f4
    have HTO : Hid (∀ W, Below W7.heap.size W7 W → ToldAt W (pj i).A (pj i).cnt (pj i).T) := Lib.hid fun W hb => (((HPW6.out.told i hi).1.keep hT7.size fun k hk hl => hT7.block k hl fun e => by have e : k = q := e; rw [e, HPW6.out.pq] at hk; cases hk).keep hb.size fun k _ hl => hb.block k hl).at_
    have v0 : W7.cell? ⟨gy, 0, none⟩ = some (.int .u64 y.V) := by simp [World.cell?, hGY7]
    have v1 : W7.cell? ⟨gy, 1, none⟩ = some (.bool y.D) := by simp [World.cell?, hGY7]
    have v2 : W7.cell? ⟨gy, 2, none⟩ = some (.slice y.A y.L y.cap) := by simp [World.cell?, hGY7]
    have HR7 := Lib.hid (And.intro hT7 (And.intro hPL7 (And.intro hGD7 (And.intro hAN7 hGY7))))
    have hcnt7 : (pj i).cnt + 1 ≤ 100000 := HCT.out
    clear g0 x0 x1 x2 x3 x4 x5 y0 y1 y2 y3 y4 y5 y6 hT7 hPL7 hGD7 hAN7 hGY7 hj7
    go_upto_region 23 with (fail)
    go_cut [] (fun wx => ∃ g cap W, wx = W.setCell ⟨jb, i * 6 + 4, none⟩ (.slice (some ⟨g, 0, none⟩) ((pj i).cnt + 1) cap) ∧ Below W7.heap.size W7 W ∧ W.ownsRow W7.heap.size 49 3 (.slice (some ⟨g, 0, none⟩) ((pj i).cnt + 1) cap) ((pj i).cnt + 1) (tcells (pj i).T (pj i).cnt ++ y.cells))
    case first =>
      refine wp_region_noPanic ?_
      refine wp_region_held_drew (S := (fun w' => w'.cell? ⟨gy, 0, none⟩ = some (.int .u64 y.V) ∧ w'.cell? ⟨gy, 1, none⟩ = some (.bool y.D) ∧ w'.cell? ⟨gy, 2, none⟩ = some (.slice y.A y.L y.cap))) (by kernel_rfl) ?_ (fun hHeld => ?_)
      · (try dsimp only); go_keep
      refine wpAnyH_take (i := 0) (oi := _) (v := ?_) rfl (by kernel_rfl) (by kernel_rfl) (by kernel_rfl) (fun _ _ _ h => h) (Or.inl ⟨by rfl, ?_⟩) (by assumption) ?_
      rotate_left
      · (intro w hSw; (try dsimp only at hSw); go_simp; try (with_reducible rfl))
      try simp only [Act.put, Array.reduceGetElem, List.setIfInBounds_toArray, List.set_cons_zero, List.set_cons_succ]
      refine wpAnyH_take (i := 2) (oi := _) (v := ?_) rfl (by kernel_rfl) (by kernel_rfl) (by kernel_rfl) (fun _ _ _ h => h) (Or.inl ⟨by rfl, ?_⟩) (by assumption) ?_
      rotate_left
      · (intro w hSw; (try dsimp only at hSw); go_simp; try (with_reducible rfl))
      try simp only [Act.put, Array.reduceGetElem, List.setIfInBounds_toArray, List.set_cons_zero, List.set_cons_succ]
      refine wpAnyH_take (i := 3) (oi := _) (v := ?_) rfl (by kernel_rfl) (by kernel_rfl) (by kernel_rfl) (fun _ _ _ h => h) (Or.inl ⟨by rfl, ?_⟩) (by assumption) ?_
      rotate_left
      · (intro w hSw; (try dsimp only at hSw); go_simp; try (with_reducible rfl))
      try simp only [Act.put, Array.reduceGetElem, List.setIfInBounds_toArray, List.set_cons_zero, List.set_cons_succ]
      refine wpAnyH_take (i := 4) (oi := _) (v := ?_) rfl (by kernel_rfl) (by kernel_rfl) (by kernel_rfl) (fun _ _ _ h => h) (Or.inl ⟨by rfl, ?_⟩) (by assumption) ?_
      rotate_left
      · (intro w hSw; (try dsimp only at hSw); go_simp; try (with_reducible rfl))
      try simp only [Act.put, Array.reduceGetElem, List.setIfInBounds_toArray, List.set_cons_zero, List.set_cons_succ]
      refine wpAnyH_take (i := 7) (oi := _) (v := ?_) rfl (by kernel_rfl) (by kernel_rfl) (by kernel_rfl) (fun _ _ _ h => h) (Or.inl ⟨by rfl, ?_⟩) (by assumption) ?_
      rotate_left
      · (intro w hSw; (try dsimp only at hSw); go_simp; try (with_reducible rfl))
      try simp only [Act.put, Array.reduceGetElem, List.setIfInBounds_toArray, List.set_cons_zero, List.set_cons_succ]
      refine wpAnyH_ready (rs := [1, 5, 8]) (by kernel_rfl) (by simp) ?_
      refine AllReadyH.cons (o := _) rfl (fun K9 hK => ?_) ?_
      rotate_left
      · refine AllReadyH.cons (o := _) rfl (fun K9 hK => ?_) ?_
        rotate_left
        · refine AllReadyH.cons (o := _) rfl (fun K9 hK => ?_) ?_
          rotate_left
          · exact AllReadyH.nil
          go_simp
          refine hK.out _ _ ?_ (fun hHeld => ?_)
          · (try dsimp only); go_keep
          clear hK K9
          try simp only [Act.put, Array.reduceGetElem, List.setIfInBounds_toArray, List.set_cons_zero, List.set_cons_succ]
          refine wpAnyH_ready (rs := [1, 5]) (by kernel_rfl) (by simp) ?_
          refine AllReadyH.cons (o := _) rfl (fun K9 hK => ?_) ?_
          rotate_left
          · refine AllReadyH.cons (o := _) rfl (fun K9 hK => ?_) ?_
            rotate_left
            · exact AllReadyH.nil
            go_simp
            refine hK.out _ _ ?_ (fun hHeld => ?_)
            · (try dsimp only); go_keep
            clear hK K9
            try simp only [Act.put, Array.reduceGetElem, List.setIfInBounds_toArray, List.set_cons_zero, List.set_cons_succ]
            refine wpAnyH_ready (rs := [1]) (by kernel_rfl) (by simp) ?_
            refine AllReadyH.cons (o := _) rfl (fun K9 hK => ?_) ?_
            rotate_left
            · exact AllReadyH.nil
            go_simp
            refine hK.out _ _ ?_ (fun hHeld => ?_)
            · (try dsimp only); go_keep
            clear hK K9
            try simp only [Act.put, Array.reduceGetElem, List.setIfInBounds_toArray, List.set_cons_zero, List.set_cons_succ]
            refine wpAnyH_ready (rs := [6]) (by kernel_rfl) (by simp) ?_
            refine AllReadyH.cons (o := _) rfl (fun K9 hK => ?_) ?_
            rotate_left
            · exact AllReadyH.nil
            refine step_app_told rfl _ _ rfl W7.heap.size (W7.heap.size + 1) (pj i).A (pj i).cnt (pj i).cap (pj i).T rfl rfl (own_new (W7.alloc (.cells #[.int .u64 y.V, .bool y.D, .slice y.A y.L y.cap] 49)) (W7.heap.size + 1) (by simp) (by simp)).drew (HTO.out _ (daa_below W7 (.cells #[.int .u64 y.V, .bool y.D, .slice y.A y.L y.cap] 49) (.cells #[] 49))) (by omega) (by first | (rw [daa_size]; omega) | (rw [da_size]; omega)) ?_
            intro g1 c1 w8 happ
            have hb8 : Below W7.heap.size W7 w8 := happ.below (daa_below W7 (.cells #[.int .u64 y.V, .bool y.D, .slice y.A y.L y.cap] 49) (.cells #[] 49)) (by rw [daa_size]; omega) (fun k hk => by injection hk with hk; omega)
            have hblk : w8.heap[W7.heap.size]? = some (.cells #[.int .u64 y.V, .bool y.D, .slice y.A y.L y.cap] 49 (0, 0)) := (happ.grown.block _ (by rw [daa_size]; omega) (fun e => by injection e with e; omega)).trans (daa_blk0 W7 _ _)
            have hcell8 := fun j => hb8.cell (p := ⟨gy, j, none⟩) hgyl
            have k0 := (hcell8 0).trans v0
            have k1 := (hcell8 1).trans v1
            have k2 := (hcell8 2).trans v2
            have k4 := (hb8.cell (p := ⟨jb, i * 6 + 4, none⟩) hjl7).trans h4
            have kz := (hb8.frozen (p := ⟨jb, i * 6 + 4, none⟩) hjl7).trans hz4
            have HAP := Lib.hid (And.intro happ.own (And.intro hb8 hblk))
            clear happ hb8 hblk hcell8
            try go_simp
            refine hK.out _ _ ?_ (fun hHeld => ?_)
            · (try dsimp only); go_keep
            clear hK K9
            try simp only [Act.put, Array.reduceGetElem, List.setIfInBounds_toArray, List.set_cons_zero, List.set_cons_succ]
            refine wpAnyH_ready (rs := [9]) (by kernel_rfl) (by simp) ?_
            refine AllReadyH.cons (o := _) rfl (fun K9 hK => ?_) ?_
            rotate_left
            · exact AllReadyH.nil
            refine step_app_one rfl _ _ rfl W7.heap.size g1 (pj i).cnt c1 (tcells (pj i).T (pj i).cnt) y W7.heap.size 1 rfl rfl HAP.out.1 HAP.out.2.2 (by omega) HAP.out.2.1.size ?_
            intro g2 c2 w9 happ2
            have hb9 : Below W7.heap.size W7 w9 := happ2.below HAP.out.2.1 (by first | exact HAP.out.2.1.size | (have := HAP.out.2.1.size; have := ((Below.refl w8.heap.size w8).alloc (Nat.le_refl _) (.cells #[.int .u64 y.V, .bool y.D, .slice y.A y.L y.cap] 49)).size; omega)) (fun k hk => by injection hk with hk; have := (World.ownsRow.lt HAP.out.1 g1 rfl).1; omega)
            have m0 := (hb9.cell (p := ⟨gy, 0, none⟩) hgyl).trans v0
            have m1 := (hb9.cell (p := ⟨gy, 1, none⟩) hgyl).trans v1
            have m2 := (hb9.cell (p := ⟨gy, 2, none⟩) hgyl).trans v2
            have m4 := (hb9.cell (p := ⟨jb, i * 6 + 4, none⟩) hjl7).trans h4
            have mz := (hb9.frozen (p := ⟨jb, i * 6 + 4, none⟩) hjl7).trans hz4
            have HA2 := Lib.hid (And.intro happ2.own hb9)
            clear happ2 hb9
            try go_simp
            refine hK.out _ _ ?_ (fun hHeld => ?_)
            · (try dsimp only); go_keep
            clear hK K9
            try simp only [Act.put, Array.reduceGetElem, List.setIfInBounds_toArray, List.set_cons_zero, List.set_cons_succ]
            refine wpAnyH_take (i := 10) (oi := _) (v := ?_) rfl (by kernel_rfl) (by kernel_rfl) (by kernel_rfl) (fun _ _ _ h => h) (Or.inl ⟨by rfl, ?_⟩) (by assumption) ?_
            rotate_left
            · (intro w hSw; (try dsimp only at hSw); go_simp; try (with_reducible rfl))
            try simp only [Act.put, Array.reduceGetElem, List.setIfInBounds_toArray, List.set_cons_zero, List.set_cons_succ]
            refine wpAnyH_take (i := 11) (oi := _) (v := ?_) rfl (by kernel_rfl) (by kernel_rfl) (by kernel_rfl) (fun _ _ _ h => h) (Or.inl ⟨by rfl, ?_⟩) (by assumption) ?_
            rotate_left
            · (intro w hSw; (try dsimp only at hSw); go_simp; try (with_reducible rfl))
            try simp only [Act.put, Array.reduceGetElem, List.setIfInBounds_toArray, List.set_cons_zero, List.set_cons_succ]
            refine wpAnyH_ready (rs := [12]) (by kernel_rfl) (by simp) ?_
            refine AllReadyH.cons (o := _) rfl (fun K9 hK => ?_) ?_
            rotate_left
            · exact AllReadyH.nil
            go_simp
            refine hK.out _ _ ?_ (fun hHeld => ?_)
            · (try dsimp only); go_keep
            clear hK K9
            try simp only [Act.put, Array.reduceGetElem, List.setIfInBounds_toArray, List.set_cons_zero, List.set_cons_succ]
            refine wpAnyH_done (by kernel_rfl) ?_ _
            refine NoPanic.normal ?_
            go_wp2_with fail
            go_meet
            exact ⟨g2, c2, w9, rfl, HA2.out.2, HA2.out.1⟩
          go_simp
          refine hK.out _ _ ?_ (fun hHeld => ?_)
          · (try dsimp only); go_keep
          clear hK K9
          try simp only [Act.put, Array.reduceGetElem, List.setIfInBounds_toArray, List.set_cons_zero, List.set_cons_succ]
          refine wpAnyH_ready (rs := [5]) (by kernel_rfl) (by simp) ?_
          refine AllReadyH.cons (o := _) rfl (fun K9 hK => ?_) ?_
          rotate_left
          · exact AllReadyH.nil
          go_simp
          refine hK.out _ _ ?_ (fun hHeld => ?_)
          · (try dsimp only); go_keep
          clear hK K9
          try simp only [Act.put, Array.reduceGetElem, List.setIfInBounds_toArray, List.set_cons_zero, List.set_cons_succ]
          refine wpAnyH_ready (rs := [6]) (by kernel_rfl) (by simp) ?_
          refine AllReadyH.cons (o := _) rfl (fun K9 hK => ?_) ?_
          rotate_left
          · exact AllReadyH.nil
          refine step_app_told rfl _ _ rfl W7.heap.size (W7.heap.size + 1) (pj i).A (pj i).cnt (pj i).cap (pj i).T rfl rfl (own_new (W7.alloc (.cells #[.int .u64 y.V, .bool y.D, .slice y.A y.L y.cap] 49)) (W7.heap.size + 1) (by simp) (by simp)).drew (HTO.out _ (daa_below W7 (.cells #[.int .u64 y.V, .bool y.D, .slice y.A y.L y.cap] 49) (.cells #[] 49))) (by omega) (by first | (rw [daa_size]; omega) | (rw [da_size]; omega)) ?_
          intro g1 c1 w8 happ
          have hb8 : Below W7.heap.size W7 w8 := happ.below (daa_below W7 (.cells #[.int .u64 y.V, .bool y.D, .slice y.A y.L y.cap] 49) (.cells #[] 49)) (by rw [daa_size]; omega) (fun k hk => by injection hk with hk; omega)
          have hblk : w8.heap[W7.heap.size]? = some (.cells #[.int .u64 y.V, .bool y.D, .slice y.A y.L y.cap] 49 (0, 0)) := (happ.grown.block _ (by rw [daa_size]; omega) (fun e => by injection e with e; omega)).trans (daa_blk0 W7 _ _)
          have hcell8 := fun j => hb8.cell (p := ⟨gy, j, none⟩) hgyl
          have k0 := (hcell8 0).trans v0
          have k1 := (hcell8 1).trans v1
          have k2 := (hcell8 2).trans v2
          have k4 := (hb8.cell (p := ⟨jb, i * 6 + 4, none⟩) hjl7).trans h4
          have kz := (hb8.frozen (p := ⟨jb, i * 6 + 4, none⟩) hjl7).trans hz4
          have HAP := Lib.hid (And.intro happ.own (And.intro hb8 hblk))
          clear happ hb8 hblk hcell8
          try go_simp
          refine hK.out _ _ ?_ (fun hHeld => ?_)
          · (try dsimp only); go_keep
          clear hK K9
          try simp only [Act.put, Array.reduceGetElem, List.setIfInBounds_toArray, List.set_cons_zero, List.set_cons_succ]
          refine wpAnyH_ready (rs := [9]) (by kernel_rfl) (by simp) ?_
          refine AllReadyH.cons (o := _) rfl (fun K9 hK => ?_) ?_
          rotate_left
          · exact AllReadyH.nil
          refine step_app_one rfl _ _ rfl W7.heap.size g1 (pj i).cnt c1 (tcells (pj i).T (pj i).cnt) y W7.heap.size 1 rfl rfl HAP.out.1 HAP.out.2.2 (by omega) HAP.out.2.1.size ?_
          intro g2 c2 w9 happ2
          have hb9 : Below W7.heap.size W7 w9 := happ2.below HAP.out.2.1 (by first | exact HAP.out.2.1.size | (have := HAP.out.2.1.size; have := ((Below.refl w8.heap.size w8).alloc (Nat.le_refl _) (.cells #[.int .u64 y.V, .bool y.D, .slice y.A y.L y.cap] 49)).size; omega)) (fun k hk => by injection hk with hk; have := (World.ownsRow.lt HAP.out.1 g1 rfl).1; omega)
          have m0 := (hb9.cell (p := ⟨gy, 0, none⟩) hgyl).trans v0
          have m1 := (hb9.cell (p := ⟨gy, 1, none⟩) hgyl).trans v1
          have m2 := (hb9.cell (p := ⟨gy, 2, none⟩) hgyl).trans v2
          have m4 := (hb9.cell (p := ⟨jb, i * 6 + 4, none⟩) hjl7).trans h4
          have mz := (hb9.frozen (p := ⟨jb, i * 6 + 4, none⟩) hjl7).trans hz4
          have HA2 := Lib.hid (And.intro happ2.own hb9)
          clear happ2 hb9
          try go_simp
          refine hK.out _ _ ?_ (fun hHeld => ?_)
          · (try dsimp only); go_keep
          clear hK K9
          try simp only [Act.put, Array.reduceGetElem, List.setIfInBounds_toArray, List.set_cons_zero, List.set_cons_succ]
          refine wpAnyH_take (i := 10) (oi := _) (v := ?_) rfl (by kernel_rfl) (by kernel_rfl) (by kernel_rfl) (fun _ _ _ h => h) (Or.inl ⟨by rfl, ?_⟩) (by assumption) ?_
          rotate_left
          · (intro w hSw; (try dsimp only at hSw); go_simp; try (with_reducible rfl))
          try simp only [Act.put, Array.reduceGetElem, List.setIfInBounds_toArray, List.set_cons_zero, List.set_cons_succ]
          refine wpAnyH_take (i := 11) (oi := _) (v := ?_) rfl (by kernel_rfl) (by kernel_rfl) (by kernel_rfl) (fun _ _ _ h => h) (Or.inl ⟨by rfl, ?_⟩) (by assumption) ?_
          rotate_left
          · (intro w hSw; (try dsimp only at hSw); go_simp; try (with_reducible rfl))
          try simp only [Act.put, Array.reduceGetElem, List.setIfInBounds_toArray, List.set_cons_zero, List.set_cons_succ]
          refine wpAnyH_ready (rs := [12]) (by kernel_rfl) (by simp) ?_
          refine AllReadyH.cons (o := _) rfl (fun K9 hK => ?_) ?_
          rotate_left
          · exact AllReadyH.nil
          go_simp
          refine hK.out _ _ ?_ (fun hHeld => ?_)
          · (try dsimp only); go_keep
          clear hK K9
          try simp only [Act.put, Array.reduceGetElem, List.setIfInBounds_toArray, List.set_cons_zero, List.set_cons_succ]
          refine wpAnyH_done (by kernel_rfl) ?_ _
          refine NoPanic.normal ?_
          go_wp2_with fail
          go_meet
          exact ⟨g2, c2, w9, rfl, HA2.out.2, HA2.out.1⟩
        go_simp
        refine hK.out _ _ ?_ (fun hHeld => ?_)
        · (try dsimp only); go_keep
        clear hK K9
        try simp only [Act.put, Array.reduceGetElem, List.setIfInBounds_toArray, List.set_cons_zero, List.set_cons_succ]
        refine wpAnyH_ready (rs := [1, 8]) (by kernel_rfl) (by simp) ?_
        refine AllReadyH.cons (o := _) rfl (fun K9 hK => ?_) ?_
        rotate_left
        · refine AllReadyH.cons (o := _) rfl (fun K9 hK => ?_) ?_
          rotate_left
          · exact AllReadyH.nil
          go_simp
          refine hK.out _ _ ?_ (fun hHeld => ?_)
          · (try dsimp only); go_keep
          clear hK K9
          try simp only [Act.put, Array.reduceGetElem, List.setIfInBounds_toArray, List.set_cons_zero, List.set_cons_succ]
          refine wpAnyH_ready (rs := [1]) (by kernel_rfl) (by simp) ?_
          refine AllReadyH.cons (o := _) rfl (fun K9 hK => ?_) ?_
          rotate_left
          · exact AllReadyH.nil
          go_simp
          refine hK.out _ _ ?_ (fun hHeld => ?_)
          · (try dsimp only); go_keep
          clear hK K9
          try simp only [Act.put, Array.reduceGetElem, List.setIfInBounds_toArray, List.set_cons_zero, List.set_cons_succ]
          refine wpAnyH_ready (rs := [6]) (by kernel_rfl) (by simp) ?_
          refine AllReadyH.cons (o := _) rfl (fun K9 hK => ?_) ?_
          rotate_left
          · exact AllReadyH.nil
          refine step_app_told rfl _ _ rfl W7.heap.size (W7.heap.size + 1) (pj i).A (pj i).cnt (pj i).cap (pj i).T rfl rfl (own_new (W7.alloc (.cells #[.int .u64 y.V, .bool y.D, .slice y.A y.L y.cap] 49)) (W7.heap.size + 1) (by simp) (by simp)).drew (HTO.out _ (daa_below W7 (.cells #[.int .u64 y.V, .bool y.D, .slice y.A y.L y.cap] 49) (.cells #[] 49))) (by omega) (by first | (rw [daa_size]; omega) | (rw [da_size]; omega)) ?_
          intro g1 c1 w8 happ
          have hb8 : Below W7.heap.size W7 w8 := happ.below (daa_below W7 (.cells #[.int .u64 y.V, .bool y.D, .slice y.A y.L y.cap] 49) (.cells #[] 49)) (by rw [daa_size]; omega) (fun k hk => by injection hk with hk; omega)
          have hblk : w8.heap[W7.heap.size]? = some (.cells #[.int .u64 y.V, .bool y.D, .slice y.A y.L y.cap] 49 (0, 0)) := (happ.grown.block _ (by rw [daa_size]; omega) (fun e => by injection e with e; omega)).trans (daa_blk0 W7 _ _)
          have hcell8 := fun j => hb8.cell (p := ⟨gy, j, none⟩) hgyl
          have k0 := (hcell8 0).trans v0
          have k1 := (hcell8 1).trans v1
          have k2 := (hcell8 2).trans v2
          have k4 := (hb8.cell (p := ⟨jb, i * 6 + 4, none⟩) hjl7).trans h4
          have kz := (hb8.frozen (p := ⟨jb, i * 6 + 4, none⟩) hjl7).trans hz4
          have HAP := Lib.hid (And.intro happ.own (And.intro hb8 hblk))
          clear happ hb8 hblk hcell8
          try go_simp
          refine hK.out _ _ ?_ (fun hHeld => ?_)
          · (try dsimp only); go_keep
          clear hK K9
          try simp only [Act.put, Array.reduceGetElem, List.setIfInBounds_toArray, List.set_cons_zero, List.set_cons_succ]
          refine wpAnyH_ready (rs := [9]) (by kernel_rfl) (by simp) ?_
          refine AllReadyH.cons (o := _) rfl (fun K9 hK => ?_) ?_
          rotate_left
          · exact AllReadyH.nil
          refine step_app_one rfl _ _ rfl W7.heap.size g1 (pj i).cnt c1 (tcells (pj i).T (pj i).cnt) y W7.heap.size 1 rfl rfl HAP.out.1 HAP.out.2.2 (by omega) HAP.out.2.1.size ?_
          intro g2 c2 w9 happ2
          have hb9 : Below W7.heap.size W7 w9 := happ2.below HAP.out.2.1 (by first | exact HAP.out.2.1.size | (have := HAP.out.2.1.size; have := ((Below.refl w8.heap.size w8).alloc (Nat.le_refl _) (.cells #[.int .u64 y.V, .bool y.D, .slice y.A y.L y.cap] 49)).size; omega)) (fun k hk => by injection hk with hk; have := (World.ownsRow.lt HAP.out.1 g1 rfl).1; omega)
          have m0 := (hb9.cell (p := ⟨gy, 0, none⟩) hgyl).trans v0
          have m1 := (hb9.cell (p := ⟨gy, 1, none⟩) hgyl).trans v1
          have m2 := (hb9.cell (p := ⟨gy, 2, none⟩) hgyl).trans v2
          have m4 := (hb9.cell (p := ⟨jb, i * 6 + 4, none⟩) hjl7).trans h4
          have mz := (hb9.frozen (p := ⟨jb, i * 6 + 4, none⟩) hjl7).trans hz4
          have HA2 := Lib.hid (And.intro happ2.own hb9)
          clear happ2 hb9
          try go_simp
          refine hK.out _ _ ?_ (fun hHeld => ?_)
          · (try dsimp only); go_keep
          clear hK K9
          try simp only [Act.put, Array.reduceGetElem, List.setIfInBounds_toArray, List.set_cons_zero, List.set_cons_succ]
          refine wpAnyH_take (i := 10) (oi := _) (v := ?_) rfl (by kernel_rfl) (by kernel_rfl) (by kernel_rfl) (fun _ _ _ h => h) (Or.inl ⟨by rfl, ?_⟩) (by assumption) ?_
          rotate_left
          · (intro w hSw; (try dsimp only at hSw); go_simp; try (with_reducible rfl))
          try simp only [Act.put, Array.reduceGetElem, List.setIfInBounds_toArray, List.set_cons_zero, List.set_cons_succ]
          refine wpAnyH_take (i := 11) (oi := _) (v := ?_) rfl (by kernel_rfl) (by kernel_rfl) (by kernel_rfl) (fun _ _ _ h => h) (Or.inl ⟨by rfl, ?_⟩) (by assumption) ?_
          rotate_left
          · (intro w hSw; (try dsimp only at hSw); go_simp; try (with_reducible rfl))
          try simp only [Act.put, Array.reduceGetElem, List.setIfInBounds_toArray, List.set_cons_zero, List.set_cons_succ]
          refine wpAnyH_ready (rs := [12]) (by kernel_rfl) (by simp) ?_
          refine AllReadyH.cons (o := _) rfl (fun K9 hK => ?_) ?_
          rotate_left
          · exact AllReadyH.nil
          go_simp
          refine hK.out _ _ ?_ (fun hHeld => ?_)
          · (try dsimp only); go_keep
          clear hK K9
          try simp only [Act.put, Array.reduceGetElem, List.setIfInBounds_toArray, List.set_cons_zero, List.set_cons_succ]
          refine wpAnyH_done (by kernel_rfl) ?_ _
          refine NoPanic.normal ?_
          go_wp2_with fail
          go_meet
          exact ⟨g2, c2, w9, rfl, HA2.out.2, HA2.out.1⟩
        go_simp
        refine hK.out _ _ ?_ (fun hHeld => ?_)
        · (try dsimp only); go_keep
        clear hK K9
        try simp only [Act.put, Array.reduceGetElem, List.setIfInBounds_toArray, List.set_cons_zero, List.set_cons_succ]
        refine wpAnyH_ready (rs := [6, 8]) (by kernel_rfl) (by simp) ?_
        refine AllReadyH.cons (o := _) rfl (fun K9 hK => ?_) ?_
        rotate_left
        · refine AllReadyH.cons (o := _) rfl (fun K9 hK => ?_) ?_
          rotate_left
          · exact AllReadyH.nil
          go_simp
          refine hK.out _ _ ?_ (fun hHeld => ?_)
          · (try dsimp only); go_keep
          clear hK K9
          try simp only [Act.put, Array.reduceGetElem, List.setIfInBounds_toArray, List.set_cons_zero, List.set_cons_succ]
          refine wpAnyH_ready (rs := [6]) (by kernel_rfl) (by simp) ?_
          refine AllReadyH.cons (o := _) rfl (fun K9 hK => ?_) ?_
          rotate_left
          · exact AllReadyH.nil
          refine step_app_told rfl _ _ rfl W7.heap.size W7.heap.size (pj i).A (pj i).cnt (pj i).cap (pj i).T rfl rfl ((own_new W7 _ rfl (Nat.le_refl W7.heap.size)).alloc _).drew (HTO.out _ (daa_below W7 (.cells #[] 49) (.cells #[.int .u64 y.V, .bool y.D, .slice y.A y.L y.cap] 49))) (by omega) (by first | (rw [daa_size]; omega) | (rw [da_size]; omega)) ?_
          intro g1 c1 w8 happ
          have hb8 : Below W7.heap.size W7 w8 := happ.below (daa_below W7 (.cells #[] 49) (.cells #[.int .u64 y.V, .bool y.D, .slice y.A y.L y.cap] 49)) (by rw [daa_size]; omega) (fun k hk => by injection hk with hk; omega)
          have hblk : w8.heap[(W7.heap.size + 1)]? = some (.cells #[.int .u64 y.V, .bool y.D, .slice y.A y.L y.cap] 49 (0, 0)) := (happ.grown.block _ (by rw [daa_size]; omega) (fun e => by injection e with e; omega)).trans (daa_blk W7 _ _)
          have hcell8 := fun j => hb8.cell (p := ⟨gy, j, none⟩) hgyl
          have k0 := (hcell8 0).trans v0
          have k1 := (hcell8 1).trans v1
          have k2 := (hcell8 2).trans v2
          have k4 := (hb8.cell (p := ⟨jb, i * 6 + 4, none⟩) hjl7).trans h4
          have kz := (hb8.frozen (p := ⟨jb, i * 6 + 4, none⟩) hjl7).trans hz4
          have HAP := Lib.hid (And.intro happ.own (And.intro hb8 hblk))
          clear happ hb8 hblk hcell8
          try go_simp
          refine hK.out _ _ ?_ (fun hHeld => ?_)
          · (try dsimp only); go_keep
          clear hK K9
          try simp only [Act.put, Array.reduceGetElem, List.setIfInBounds_toArray, List.set_cons_zero, List.set_cons_succ]
          refine wpAnyH_ready (rs := [9]) (by kernel_rfl) (by simp) ?_
          refine AllReadyH.cons (o := _) rfl (fun K9 hK => ?_) ?_
          rotate_left
          · exact AllReadyH.nil
          refine step_app_one rfl _ _ rfl W7.heap.size g1 (pj i).cnt c1 (tcells (pj i).T (pj i).cnt) y (W7.heap.size + 1) 1 rfl rfl HAP.out.1 HAP.out.2.2 (by omega) HAP.out.2.1.size ?_
          intro g2 c2 w9 happ2
          have hb9 : Below W7.heap.size W7 w9 := happ2.below HAP.out.2.1 (by first | exact HAP.out.2.1.size | (have := HAP.out.2.1.size; have := ((Below.refl w8.heap.size w8).alloc (Nat.le_refl _) (.cells #[.int .u64 y.V, .bool y.D, .slice y.A y.L y.cap] 49)).size; omega)) (fun k hk => by injection hk with hk; have := (World.ownsRow.lt HAP.out.1 g1 rfl).1; omega)
          have m0 := (hb9.cell (p := ⟨gy, 0, none⟩) hgyl).trans v0
          have m1 := (hb9.cell (p := ⟨gy, 1, none⟩) hgyl).trans v1
          have m2 := (hb9.cell (p := ⟨gy, 2, none⟩) hgyl).trans v2
          have m4 := (hb9.cell (p := ⟨jb, i * 6 + 4, none⟩) hjl7).trans h4
          have mz := (hb9.frozen (p := ⟨jb, i * 6 + 4, none⟩) hjl7).trans hz4
          have HA2 := Lib.hid (And.intro happ2.own hb9)
          clear happ2 hb9
          try go_simp
          refine hK.out _ _ ?_ (fun hHeld => ?_)
          · (try dsimp only); go_keep
          clear hK K9
          try simp only [Act.put, Array.reduceGetElem, List.setIfInBounds_toArray, List.set_cons_zero, List.set_cons_succ]
          refine wpAnyH_take (i := 10) (oi := _) (v := ?_) rfl (by kernel_rfl) (by kernel_rfl) (by kernel_rfl) (fun _ _ _ h => h) (Or.inl ⟨by rfl, ?_⟩) (by assumption) ?_
          rotate_left
          · (intro w hSw; (try dsimp only at hSw); go_simp; try (with_reducible rfl))
          try simp only [Act.put, Array.reduceGetElem, List.setIfInBounds_toArray, List.set_cons_zero, List.set_cons_succ]
          refine wpAnyH_take (i := 11) (oi := _) (v := ?_) rfl (by kernel_rfl) (by kernel_rfl) (by kernel_rfl) (fun _ _ _ h => h) (Or.inl ⟨by rfl, ?_⟩) (by assumption) ?_
          rotate_left
          · (intro w hSw; (try dsimp only at hSw); go_simp; try (with_reducible rfl))
          try simp only [Act.put, Array.reduceGetElem, List.setIfInBounds_toArray, List.set_cons_zero, List.set_cons_succ]
          refine wpAnyH_ready (rs := [12]) (by kernel_rfl) (by simp) ?_
          refine AllReadyH.cons (o := _) rfl (fun K9 hK => ?_) ?_
          rotate_left
          · exact AllReadyH.nil
          go_simp
          refine hK.out _ _ ?_ (fun hHeld => ?_)
          · (try dsimp only); go_keep
          clear hK K9
          try simp only [Act.put, Array.reduceGetElem, List.setIfInBounds_toArray, List.set_cons_zero, List.set_cons_succ]
          refine wpAnyH_done (by kernel_rfl) ?_ _
          refine NoPanic.normal ?_
          go_wp2_with fail
          go_meet
          exact ⟨g2, c2, w9, rfl, HA2.out.2, HA2.out.1⟩
        refine step_app_told rfl _ _ rfl W7.heap.size W7.heap.size (pj i).A (pj i).cnt (pj i).cap (pj i).T rfl rfl (own_new W7 _ rfl (Nat.le_refl W7.heap.size)).drew (HTO.out _ (da_below W7 (.cells #[] 49))) (by omega) (by first | (rw [daa_size]; omega) | (rw [da_size]; omega)) ?_
        intro g1 c1 w8 happ
        have hb8 : Below W7.heap.size W7 w8 := happ.below (da_below W7 (.cells #[] 49)) (by rw [da_size]; omega) (fun k hk => by injection hk with hk; omega)
        have hcell8 := fun j => hb8.cell (p := ⟨gy, j, none⟩) hgyl
        have k0 := (hcell8 0).trans v0
        have k1 := (hcell8 1).trans v1
        have k2 := (hcell8 2).trans v2
        have k4 := (hb8.cell (p := ⟨jb, i * 6 + 4, none⟩) hjl7).trans h4
        have kz := (hb8.frozen (p := ⟨jb, i * 6 + 4, none⟩) hjl7).trans hz4
        have HAP := Lib.hid (And.intro happ.own (And.intro hb8 trivial))
        clear happ hb8 hcell8
        try go_simp
        refine hK.out _ _ ?_ (fun hHeld => ?_)
        · (try dsimp only); go_keep
        clear hK K9
        try simp only [Act.put, Array.reduceGetElem, List.setIfInBounds_toArray, List.set_cons_zero, List.set_cons_succ]
        refine wpAnyH_ready (rs := [8]) (by kernel_rfl) (by simp) ?_
        refine AllReadyH.cons (o := _) rfl (fun K9 hK => ?_) ?_
        rotate_left
        · exact AllReadyH.nil
        go_simp
        refine hK.out _ _ ?_ (fun hHeld => ?_)
        · (try dsimp only); go_keep
        clear hK K9
        try simp only [Act.put, Array.reduceGetElem, List.setIfInBounds_toArray, List.set_cons_zero, List.set_cons_succ]
        refine wpAnyH_ready (rs := [9]) (by kernel_rfl) (by simp) ?_
        refine AllReadyH.cons (o := _) rfl (fun K9 hK => ?_) ?_
        rotate_left
        · exact AllReadyH.nil
        refine step_app_one rfl _ _ rfl W7.heap.size g1 (pj i).cnt c1 (tcells (pj i).T (pj i).cnt) y w8.heap.size 1 rfl rfl (HAP.out.1.alloc _) (Go.Deep.blk_alloc_new _ _) (by omega) (Nat.le_trans HAP.out.2.1.size ((Below.refl w8.heap.size w8).alloc (Nat.le_refl _) _).size) ?_
        intro g2 c2 w9 happ2
        have hb9 : Below W7.heap.size W7 w9 := happ2.below (HAP.out.2.1.alloc HAP.out.2.1.size _) (by first | exact HAP.out.2.1.size | (have := HAP.out.2.1.size; have := ((Below.refl w8.heap.size w8).alloc (Nat.le_refl _) (.cells #[.int .u64 y.V, .bool y.D, .slice y.A y.L y.cap] 49)).size; omega)) (fun k hk => by injection hk with hk; have := (World.ownsRow.lt HAP.out.1 g1 rfl).1; omega)
        have m0 := (hb9.cell (p := ⟨gy, 0, none⟩) hgyl).trans v0
        have m1 := (hb9.cell (p := ⟨gy, 1, none⟩) hgyl).trans v1
        have m2 := (hb9.cell (p := ⟨gy, 2, none⟩) hgyl).trans v2
        have m4 := (hb9.cell (p := ⟨jb, i * 6 + 4, none⟩) hjl7).trans h4
        have mz := (hb9.frozen (p := ⟨jb, i * 6 + 4, none⟩) hjl7).trans hz4
        have HA2 := Lib.hid (And.intro happ2.own hb9)
        clear happ2 hb9
        try go_simp
        refine hK.out _ _ ?_ (fun hHeld => ?_)
        · (try dsimp only); go_keep
        clear hK K9
        try simp only [Act.put, Array.reduceGetElem, List.setIfInBounds_toArray, List.set_cons_zero, List.set_cons_succ]
        refine wpAnyH_take (i := 10) (oi := _) (v := ?_) rfl (by kernel_rfl) (by kernel_rfl) (by kernel_rfl) (fun _ _ _ h => h) (Or.inl ⟨by rfl, ?_⟩) (by assumption) ?_
        rotate_left
        · (intro w hSw; (try dsimp only at hSw); go_simp; try (with_reducible rfl))
        try simp only [Act.put, Array.reduceGetElem, List.setIfInBounds_toArray, List.set_cons_zero, List.set_cons_succ]
        refine wpAnyH_take (i := 11) (oi := _) (v := ?_) rfl (by kernel_rfl) (by kernel_rfl) (by kernel_rfl) (fun _ _ _ h => h) (Or.inl ⟨by rfl, ?_⟩) (by assumption) ?_
        rotate_left
        · (intro w hSw; (try dsimp only at hSw); go_simp; try (with_reducible rfl))
        try simp only [Act.put, Array.reduceGetElem, List.setIfInBounds_toArray, List.set_cons_zero, List.set_cons_succ]
        refine wpAnyH_ready (rs := [12]) (by kernel_rfl) (by simp) ?_
        refine AllReadyH.cons (o := _) rfl (fun K9 hK => ?_) ?_
        rotate_left
        · exact AllReadyH.nil
        go_simp
        refine hK.out _ _ ?_ (fun hHeld => ?_)
        · (try dsimp only); go_keep
        clear hK K9
        try simp only [Act.put, Array.reduceGetElem, List.setIfInBounds_toArray, List.set_cons_zero, List.set_cons_succ]
        refine wpAnyH_done (by kernel_rfl) ?_ _
        refine NoPanic.normal ?_
        go_wp2_with fail
        go_meet
        exact ⟨g2, c2, w9, rfl, HA2.out.2, HA2.out.1⟩
      go_simp
      refine hK.out _ _ ?_ (fun hHeld => ?_)
      · (try dsimp only); go_keep
      clear hK K9
      try simp only [Act.put, Array.reduceGetElem, List.setIfInBounds_toArray, List.set_cons_zero, List.set_cons_succ]
      refine wpAnyH_ready (rs := [5, 8]) (by kernel_rfl) (by simp) ?_
      refine AllReadyH.cons (o := _) rfl (fun K9 hK => ?_) ?_
      rotate_left
      · refine AllReadyH.cons (o := _) rfl (fun K9 hK => ?_) ?_
        rotate_left
        · exact AllReadyH.nil
        go_simp
        refine hK.out _ _ ?_ (fun hHeld => ?_)
        · (try dsimp only); go_keep
        clear hK K9
        try simp only [Act.put, Array.reduceGetElem, List.setIfInBounds_toArray, List.set_cons_zero, List.set_cons_succ]
        refine wpAnyH_ready (rs := [5]) (by kernel_rfl) (by simp) ?_
        refine AllReadyH.cons (o := _) rfl (fun K9 hK => ?_) ?_
        rotate_left
        · exact AllReadyH.nil
        go_simp
        refine hK.out _ _ ?_ (fun hHeld => ?_)
        · (try dsimp only); go_keep
        clear hK K9
        try simp only [Act.put, Array.reduceGetElem, List.setIfInBounds_toArray, List.set_cons_zero, List.set_cons_succ]
        refine wpAnyH_ready (rs := [6]) (by kernel_rfl) (by simp) ?_
        refine AllReadyH.cons (o := _) rfl (fun K9 hK => ?_) ?_
        rotate_left
        · exact AllReadyH.nil
        refine step_app_told rfl _ _ rfl W7.heap.size W7.heap.size (pj i).A (pj i).cnt (pj i).cap (pj i).T rfl rfl ((own_new W7 _ rfl (Nat.le_refl W7.heap.size)).alloc _).drew (HTO.out _ (daa_below W7 (.cells #[] 49) (.cells #[.int .u64 y.V, .bool y.D, .slice y.A y.L y.cap] 49))) (by omega) (by first | (rw [daa_size]; omega) | (rw [da_size]; omega)) ?_
        intro g1 c1 w8 happ
        have hb8 : Below W7.heap.size W7 w8 := happ.below (daa_below W7 (.cells #[] 49) (.cells #[.int .u64 y.V, .bool y.D, .slice y.A y.L y.cap] 49)) (by rw [daa_size]; omega) (fun k hk => by injection hk with hk; omega)
        have hblk : w8.heap[(W7.heap.size + 1)]? = some (.cells #[.int .u64 y.V, .bool y.D, .slice y.A y.L y.cap] 49 (0, 0)) := (happ.grown.block _ (by rw [daa_size]; omega) (fun e => by injection e with e; omega)).trans (daa_blk W7 _ _)
        have hcell8 := fun j => hb8.cell (p := ⟨gy, j, none⟩) hgyl
        have k0 := (hcell8 0).trans v0
        have k1 := (hcell8 1).trans v1
        have k2 := (hcell8 2).trans v2
        have k4 := (hb8.cell (p := ⟨jb, i * 6 + 4, none⟩) hjl7).trans h4
        have kz := (hb8.frozen (p := ⟨jb, i * 6 + 4, none⟩) hjl7).trans hz4
        have HAP := Lib.hid (And.intro happ.own (And.intro hb8 hblk))
        clear happ hb8 hblk hcell8
        try go_simp
        refine hK.out _ _ ?_ (fun hHeld => ?_)
        · (try dsimp only); go_keep
        clear hK K9
        try simp only [Act.put, Array.reduceGetElem, List.setIfInBounds_toArray, List.set_cons_zero, List.set_cons_succ]
        refine wpAnyH_ready (rs := [9]) (by kernel_rfl) (by simp) ?_
        refine AllReadyH.cons (o := _) rfl (fun K9 hK => ?_) ?_
        rotate_left
        · exact AllReadyH.nil
        refine step_app_one rfl _ _ rfl W7.heap.size g1 (pj i).cnt c1 (tcells (pj i).T (pj i).cnt) y (W7.heap.size + 1) 1 rfl rfl HAP.out.1 HAP.out.2.2 (by omega) HAP.out.2.1.size ?_
        intro g2 c2 w9 happ2
        have hb9 : Below W7.heap.size W7 w9 := happ2.below HAP.out.2.1 (by first | exact HAP.out.2.1.size | (have := HAP.out.2.1.size; have := ((Below.refl w8.heap.size w8).alloc (Nat.le_refl _) (.cells #[.int .u64 y.V, .bool y.D, .slice y.A y.L y.cap] 49)).size; omega)) (fun k hk => by injection hk with hk; have := (World.ownsRow.lt HAP.out.1 g1 rfl).1; omega)
        have m0 := (hb9.cell (p := ⟨gy, 0, none⟩) hgyl).trans v0
        have m1 := (hb9.cell (p := ⟨gy, 1, none⟩) hgyl).trans v1
        have m2 := (hb9.cell (p := ⟨gy, 2, none⟩) hgyl).trans v2
        have m4 := (hb9.cell (p := ⟨jb, i * 6 + 4, none⟩) hjl7).trans h4
        have mz := (hb9.frozen (p := ⟨jb, i * 6 + 4, none⟩) hjl7).trans hz4
        have HA2 := Lib.hid (And.intro happ2.own hb9)
        clear happ2 hb9
        try go_simp
        refine hK.out _ _ ?_ (fun hHeld => ?_)
        · (try dsimp only); go_keep
        clear hK K9
        try simp only [Act.put, Array.reduceGetElem, List.setIfInBounds_toArray, List.set_cons_zero, List.set_cons_succ]
        refine wpAnyH_take (i := 10) (oi := _) (v := ?_) rfl (by kernel_rfl) (by kernel_rfl) (by kernel_rfl) (fun _ _ _ h => h) (Or.inl ⟨by rfl, ?_⟩) (by assumption) ?_
        rotate_left
        · (intro w hSw; (try dsimp only at hSw); go_simp; try (with_reducible rfl))
        try simp only [Act.put, Array.reduceGetElem, List.setIfInBounds_toArray, List.set_cons_zero, List.set_cons_succ]
        refine wpAnyH_take (i := 11) (oi := _) (v := ?_) rfl (by kernel_rfl) (by kernel_rfl) (by kernel_rfl) (fun _ _ _ h => h) (Or.inl ⟨by rfl, ?_⟩) (by assumption) ?_
        rotate_left
        · (intro w hSw; (try dsimp only at hSw); go_simp; try (with_reducible rfl))
        try simp only [Act.put, Array.reduceGetElem, List.setIfInBounds_toArray, List.set_cons_zero, List.set_cons_succ]
        refine wpAnyH_ready (rs := [12]) (by kernel_rfl) (by simp) ?_
        refine AllReadyH.cons (o := _) rfl (fun K9 hK => ?_) ?_
        rotate_left
        · exact AllReadyH.nil
        go_simp
        refine hK.out _ _ ?_ (fun hHeld => ?_)
        · (try dsimp only); go_keep
        clear hK K9
        try simp only [Act.put, Array.reduceGetElem, List.setIfInBounds_toArray, List.set_cons_zero, List.set_cons_succ]
        refine wpAnyH_done (by kernel_rfl) ?_ _
        refine NoPanic.normal ?_
        go_wp2_with fail
        go_meet
        exact ⟨g2, c2, w9, rfl, HA2.out.2, HA2.out.1⟩
      go_simp
      refine hK.out _ _ ?_ (fun hHeld => ?_)
      · (try dsimp only); go_keep
      clear hK K9
      try simp only [Act.put, Array.reduceGetElem, List.setIfInBounds_toArray, List.set_cons_zero, List.set_cons_succ]
      refine wpAnyH_ready (rs := [6, 8]) (by kernel_rfl) (by simp) ?_
      refine AllReadyH.cons (o := _) rfl (fun K9 hK => ?_) ?_
      rotate_left
      · refine AllReadyH.cons (o := _) rfl (fun K9 hK => ?_) ?_
        rotate_left
        · exact AllReadyH.nil
        go_simp
        refine hK.out _ _ ?_ (fun hHeld => ?_)
        · (try dsimp only); go_keep
        clear hK K9
        try simp only [Act.put, Array.reduceGetElem, List.setIfInBounds_toArray, List.set_cons_zero, List.set_cons_succ]
        refine wpAnyH_ready (rs := [6]) (by kernel_rfl) (by simp) ?_
        refine AllReadyH.cons (o := _) rfl (fun K9 hK => ?_) ?_
        rotate_left
        · exact AllReadyH.nil
        refine step_app_told rfl _ _ rfl W7.heap.size W7.heap.size (pj i).A (pj i).cnt (pj i).cap (pj i).T rfl rfl ((own_new W7 _ rfl (Nat.le_refl W7.heap.size)).alloc _).drew (HTO.out _ (daa_below W7 (.cells #[] 49) (.cells #[.int .u64 y.V, .bool y.D, .slice y.A y.L y.cap] 49))) (by omega) (by first | (rw [daa_size]; omega) | (rw [da_size]; omega)) ?_
        intro g1 c1 w8 happ
        have hb8 : Below W7.heap.size W7 w8 := happ.below (daa_below W7 (.cells #[] 49) (.cells #[.int .u64 y.V, .bool y.D, .slice y.A y.L y.cap] 49)) (by rw [daa_size]; omega) (fun k hk => by injection hk with hk; omega)
        have hblk : w8.heap[(W7.heap.size + 1)]? = some (.cells #[.int .u64 y.V, .bool y.D, .slice y.A y.L y.cap] 49 (0, 0)) := (happ.grown.block _ (by rw [daa_size]; omega) (fun e => by injection e with e; omega)).trans (daa_blk W7 _ _)
        have hcell8 := fun j => hb8.cell (p := ⟨gy, j, none⟩) hgyl
        have k0 := (hcell8 0).trans v0
        have k1 := (hcell8 1).trans v1
        have k2 := (hcell8 2).trans v2
        have k4 := (hb8.cell (p := ⟨jb, i * 6 + 4, none⟩) hjl7).trans h4
        have kz := (hb8.frozen (p := ⟨jb, i * 6 + 4, none⟩) hjl7).trans hz4
        have HAP := Lib.hid (And.intro happ.own (And.intro hb8 hblk))
        clear happ hb8 hblk hcell8
        try go_simp
        refine hK.out _ _ ?_ (fun hHeld => ?_)
        · (try dsimp only); go_keep
        clear hK K9
        try simp only [Act.put, Array.reduceGetElem, List.setIfInBounds_toArray, List.set_cons_zero, List.set_cons_succ]
        refine wpAnyH_ready (rs := [9]) (by kernel_rfl) (by simp) ?_
        refine AllReadyH.cons (o := _) rfl (fun K9 hK => ?_) ?_
        rotate_left
        · exact AllReadyH.nil
        refine step_app_one rfl _ _ rfl W7.heap.size g1 (pj i).cnt c1 (tcells (pj i).T (pj i).cnt) y (W7.heap.size + 1) 1 rfl rfl HAP.out.1 HAP.out.2.2 (by omega) HAP.out.2.1.size ?_
        intro g2 c2 w9 happ2
        have hb9 : Below W7.heap.size W7 w9 := happ2.below HAP.out.2.1 (by first | exact HAP.out.2.1.size | (have := HAP.out.2.1.size; have := ((Below.refl w8.heap.size w8).alloc (Nat.le_refl _) (.cells #[.int .u64 y.V, .bool y.D, .slice y.A y.L y.cap] 49)).size; omega)) (fun k hk => by injection hk with hk; have := (World.ownsRow.lt HAP.out.1 g1 rfl).1; omega)
        have m0 := (hb9.cell (p := ⟨gy, 0, none⟩) hgyl).trans v0
        have m1 := (hb9.cell (p := ⟨gy, 1, none⟩) hgyl).trans v1
        have m2 := (hb9.cell (p := ⟨gy, 2, none⟩) hgyl).trans v2
        have m4 := (hb9.cell (p := ⟨jb, i * 6 + 4, none⟩) hjl7).trans h4
        have mz := (hb9.frozen (p := ⟨jb, i * 6 + 4, none⟩) hjl7).trans hz4
        have HA2 := Lib.hid (And.intro happ2.own hb9)
        clear happ2 hb9
        try go_simp
        refine hK.out _ _ ?_ (fun hHeld => ?_)
        · (try dsimp only); go_keep
        clear hK K9
        try simp only [Act.put, Array.reduceGetElem, List.setIfInBounds_toArray, List.set_cons_zero, List.set_cons_succ]
        refine wpAnyH_take (i := 10) (oi := _) (v := ?_) rfl (by kernel_rfl) (by kernel_rfl) (by kernel_rfl) (fun _ _ _ h => h) (Or.inl ⟨by rfl, ?_⟩) (by assumption) ?_
        rotate_left
        · (intro w hSw; (try dsimp only at hSw); go_simp; try (with_reducible rfl))
        try simp only [Act.put, Array.reduceGetElem, List.setIfInBounds_toArray, List.set_cons_zero, List.set_cons_succ]
        refine wpAnyH_take (i := 11) (oi := _) (v := ?_) rfl (by kernel_rfl) (by kernel_rfl) (by kernel_rfl) (fun _ _ _ h => h) (Or.inl ⟨by rfl, ?_⟩) (by assumption) ?_
        rotate_left
        · (intro w hSw; (try dsimp only at hSw); go_simp; try (with_reducible rfl))
        try simp only [Act.put, Array.reduceGetElem, List.setIfInBounds_toArray, List.set_cons_zero, List.set_cons_succ]
        refine wpAnyH_ready (rs := [12]) (by kernel_rfl) (by simp) ?_
        refine AllReadyH.cons (o := _) rfl (fun K9 hK => ?_) ?_
        rotate_left
        · exact AllReadyH.nil
        go_simp
        refine hK.out _ _ ?_ (fun hHeld => ?_)
        · (try dsimp only); go_keep
        clear hK K9
        try simp only [Act.put, Array.reduceGetElem, List.setIfInBounds_toArray, List.set_cons_zero, List.set_cons_succ]
        refine wpAnyH_done (by kernel_rfl) ?_ _
        refine NoPanic.normal ?_
        go_wp2_with fail
        go_meet
        exact ⟨g2, c2, w9, rfl, HA2.out.2, HA2.out.1⟩
      refine step_app_told rfl _ _ rfl W7.heap.size W7.heap.size (pj i).A (pj i).cnt (pj i).cap (pj i).T rfl rfl (own_new W7 _ rfl (Nat.le_refl W7.heap.size)).drew (HTO.out _ (da_below W7 (.cells #[] 49))) (by omega) (by first | (rw [daa_size]; omega) | (rw [da_size]; omega)) ?_
      intro g1 c1 w8 happ
      have hb8 : Below W7.heap.size W7 w8 := happ.below (da_below W7 (.cells #[] 49)) (by rw [da_size]; omega) (fun k hk => by injection hk with hk; omega)
      have hcell8 := fun j => hb8.cell (p := ⟨gy, j, none⟩) hgyl
      have k0 := (hcell8 0).trans v0
      have k1 := (hcell8 1).trans v1
      have k2 := (hcell8 2).trans v2
      have k4 := (hb8.cell (p := ⟨jb, i * 6 + 4, none⟩) hjl7).trans h4
      have kz := (hb8.frozen (p := ⟨jb, i * 6 + 4, none⟩) hjl7).trans hz4
      have HAP := Lib.hid (And.intro happ.own (And.intro hb8 trivial))
      clear happ hb8 hcell8
      try go_simp
      refine hK.out _ _ ?_ (fun hHeld => ?_)
      · (try dsimp only); go_keep
      clear hK K9
      try simp only [Act.put, Array.reduceGetElem, List.setIfInBounds_toArray, List.set_cons_zero, List.set_cons_succ]
      refine wpAnyH_ready (rs := [8]) (by kernel_rfl) (by simp) ?_
      refine AllReadyH.cons (o := _) rfl (fun K9 hK => ?_) ?_
      rotate_left
      · exact AllReadyH.nil
      go_simp
      refine hK.out _ _ ?_ (fun hHeld => ?_)
      · (try dsimp only); go_keep
      clear hK K9
      try simp only [Act.put, Array.reduceGetElem, List.setIfInBounds_toArray, List.set_cons_zero, List.set_cons_succ]
      refine wpAnyH_ready (rs := [9]) (by kernel_rfl) (by simp) ?_
      refine AllReadyH.cons (o := _) rfl (fun K9 hK => ?_) ?_
      rotate_left
      · exact AllReadyH.nil
      refine step_app_one rfl _ _ rfl W7.heap.size g1 (pj i).cnt c1 (tcells (pj i).T (pj i).cnt) y w8.heap.size 1 rfl rfl (HAP.out.1.alloc _) (Go.Deep.blk_alloc_new _ _) (by omega) (Nat.le_trans HAP.out.2.1.size ((Below.refl w8.heap.size w8).alloc (Nat.le_refl _) _).size) ?_
      intro g2 c2 w9 happ2
      have hb9 : Below W7.heap.size W7 w9 := happ2.below (HAP.out.2.1.alloc HAP.out.2.1.size _) (by first | exact HAP.out.2.1.size | (have := HAP.out.2.1.size; have := ((Below.refl w8.heap.size w8).alloc (Nat.le_refl _) (.cells #[.int .u64 y.V, .bool y.D, .slice y.A y.L y.cap] 49)).size; omega)) (fun k hk => by injection hk with hk; have := (World.ownsRow.lt HAP.out.1 g1 rfl).1; omega)
      have m0 := (hb9.cell (p := ⟨gy, 0, none⟩) hgyl).trans v0
      have m1 := (hb9.cell (p := ⟨gy, 1, none⟩) hgyl).trans v1
      have m2 := (hb9.cell (p := ⟨gy, 2, none⟩) hgyl).trans v2
      have m4 := (hb9.cell (p := ⟨jb, i * 6 + 4, none⟩) hjl7).trans h4
      have mz := (hb9.frozen (p := ⟨jb, i * 6 + 4, none⟩) hjl7).trans hz4
      have HA2 := Lib.hid (And.intro happ2.own hb9)
      clear happ2 hb9
      try go_simp
      refine hK.out _ _ ?_ (fun hHeld => ?_)
      · (try dsimp only); go_keep
      clear hK K9
      try simp only [Act.put, Array.reduceGetElem, List.setIfInBounds_toArray, List.set_cons_zero, List.set_cons_succ]
      refine wpAnyH_take (i := 10) (oi := _) (v := ?_) rfl (by kernel_rfl) (by kernel_rfl) (by kernel_rfl) (fun _ _ _ h => h) (Or.inl ⟨by rfl, ?_⟩) (by assumption) ?_
      rotate_left
      · (intro w hSw; (try dsimp only at hSw); go_simp; try (with_reducible rfl))
      try simp only [Act.put, Array.reduceGetElem, List.setIfInBounds_toArray, List.set_cons_zero, List.set_cons_succ]
      refine wpAnyH_take (i := 11) (oi := _) (v := ?_) rfl (by kernel_rfl) (by kernel_rfl) (by kernel_rfl) (fun _ _ _ h => h) (Or.inl ⟨by rfl, ?_⟩) (by assumption) ?_
      rotate_left
      · (intro w hSw; (try dsimp only at hSw); go_simp; try (with_reducible rfl))
      try simp only [Act.put, Array.reduceGetElem, List.setIfInBounds_toArray, List.set_cons_zero, List.set_cons_succ]
      refine wpAnyH_ready (rs := [12]) (by kernel_rfl) (by simp) ?_
      refine AllReadyH.cons (o := _) rfl (fun K9 hK => ?_) ?_
      rotate_left
      · exact AllReadyH.nil
      go_simp
      refine hK.out _ _ ?_ (fun hHeld => ?_)
      · (try dsimp only); go_keep
      clear hK K9
      try simp only [Act.put, Array.reduceGetElem, List.setIfInBounds_toArray, List.set_cons_zero, List.set_cons_succ]
      refine wpAnyH_done (by kernel_rfl) ?_ _
      refine NoPanic.normal ?_
      go_wp2_with fail
      go_meet
      exact ⟨g2, c2, w9, rfl, HA2.out.2, HA2.out.1⟩
    case rest =>
      obtain ⟨g, cap, W, rfl, hbW, hrow⟩ := hcut
      have HROW := Lib.hid (And.intro hrow hbW)
      obtain ⟨W9, hW9⟩ : ∃ W9 : World, W9 = W.setCell ⟨jb, i * 6 + 4, none⟩ (.slice (some ⟨g, 0, none⟩) ((pj i).cnt + 1) cap) := ⟨_, rfl⟩
      have hlq0 : q < w.heap.size := HS.out.bytes.lt
      have hfar : Hid (∀ k, k ≠ q → k ≠ jb → k < W6.heap.size → W9.heap[k]? = W6.heap[k]?) := Lib.hid fun k h1 h2 h3 => by
        rw [hW9]
        exact (Below.heap_setCell _ _ _ _ h2).trans ((HROW.out.2.block k (by omega)).trans (HR7.out.1.block k h3 h1))
      have hfar7 : Hid (∀ k, k ≠ jb → k < W7.heap.size → W9.heap[k]? = W7.heap[k]?) := Lib.hid fun k h2 h3 => by
        rw [hW9]
        exact (Below.heap_setCell _ _ _ _ h2).trans (HROW.out.2.block k h3)
      have hsz9 : W7.heap.size ≤ W9.heap.size := by
        have e : (W.setCell ⟨jb, i * 6 + 4, none⟩ (.slice (some ⟨g, 0, none⟩) ((pj i).cnt + 1) cap)).heap.size = W.heap.size := by simp [World.setCell]
        rw [hW9, e]
        exact hbW.size
      have HPW9 : Hid (∃ o9, PW W9 o9 gp q jb (some ⟨jb, 0, none⟩) c5 js (upd pj i ((pj i).tell g cap y)) tv ts { st with m := ac.aft st.m, c := nxt st.c, ms := upd st.ms i ((st.ms i).take (ac.ans st.m)) } ∧ Touch (Mut o) W6 W9 ∧ (∀ k, k < W2.heap.size → o9 k = o k) ∧ (∀ k, W2.heap.size ≤ k → k < W9.heap.size → o9 k = .tx)) := Lib.hid (by
        obtain ⟨hT7, hPL7, hGD7, hAN7, hGY7⟩ := HR7.out
        have hd := HPW6.out.did hi (n0 := W2.heap.size) (fun k hk => HS.out.new_no (by omega)) (hT7.trans (Touch.of_below hbW)) (hPL7.of_block (hbW.block q (by omega))) (ac.aft_isB HS.out.isB) y g cap (World.ownsRow.mono hrow (by omega))
          ((hGD7.keep hbW.size fun k _ hl => hbW.block k hl).mono fun k hk => by omega) HCT.out (nxt st.c) ((st.ms i).take (ac.ans st.m)) (HTK.out _)
        rw [← hW9] at hd
        obtain ⟨p', h1, h2, h3, h4⟩ := hd
        refine ⟨p', h1, h2, h3, fun k hk hl => h4 k hk ?_⟩
        rw [hW9] at hl
        have e : (W.setCell ⟨jb, i * 6 + 4, none⟩ (.slice (some ⟨g, 0, none⟩) ((pj i).cnt + 1) cap)).heap.size = W.heap.size := by simp [World.setCell]
        rw [e] at hl
        exact hl)
      clear hrow hbW h4 hz4 v0 v1 v2 hgj1 hgj2
      rw [← hW9]
      clear hW9
      have hpq2 : q ≠ w.heap.size + 1 + 1 := by omega
      have HT9 : Hid (∀ k, k < W2.heap.size → k ≠ q → k ≠ jb → W9.heap[k]? = W2.heap[k]?) := Lib.hid fun k h1 h2 h3 => (hfar.out k h2 h3 (by omega)).trans (HB6.out.block k h1)
      have hlb2 : w.heap.size + 1 + 1 < W2.heap.size := HEB2.out.lt
      have HE9 : EvAt (w.heap.size + 1 + 1) W9 p Ac.zero An.zero (.slice none 0 0) (.slice none 0 0) := HEB2.out.of_block (HT9.out _ hlb2 (by omega) (by omega))
      have HV9 : EvNew (w.heap.size + 1) W9 := HEV2.out.of_block (HT9.out _ (by omega) (by omega) (by omega))
      have HBY9 : Hid (BytesIn (fun k => o k = .tx ∨ W2.heap.size ≤ k) W9 (.slice B1 L1 q1) ac.bs) := Lib.hid (HBY6.out.keep (by omega) fun k hk hl => hfar.out k (fun e => by
          rcases hk with hk | hk
          · rw [e, HPW.out.pq] at hk; cases hk
          · omega) (fun e => by
          rcases hk with hk | hk
          · rw [e, HJ2.out] at hk; cases hk
          · omega) hl)
      have HGD9 : Hid (y.Good (fun k => W2.heap.size ≤ k) W9) := Lib.hid ((HR7.out.2.2.1.keep hsz9 fun k hk hl => hfar7.out k (by omega) hl).mono fun k hk => by omega)
      have hA9 : W9.heap[gA]? = _ := (hfar.out gA (by omega) (by omega) hla).trans HACC.out
      have hY9 : W9.heap[gy]? = _ := (hfar7.out gy (by omega) hgyl).trans HR7.out.2.2.2.2
      have x0 : W9.cell? ⟨gA, 0, none⟩ = some (.int .i64 ac.K) := by simp [World.cell?, hA9]
      have x1 : W9.cell? ⟨gA, 1, none⟩ = some (.int .i64 ac.P) := by simp [World.cell?, hA9]
      have x2 : W9.cell? ⟨gA, 2, none⟩ = some (.int .i64 ac.N) := by simp [World.cell?, hA9]
      have x3 : W9.cell? ⟨gA, 3, none⟩ = some (.int .u64 0) := by simp [World.cell?, hA9]
      have x4 : W9.cell? ⟨gA, 4, none⟩ = some (.int .u64 0) := by simp [World.cell?, hA9]
      have x5 : W9.cell? ⟨gA, 5, none⟩ = some (.slice B1 L1 q1) := by simp [World.cell?, hA9]
      have v0 : W9.cell? ⟨gy, 0, none⟩ = some (.int .u64 y.V) := by simp [World.cell?, hY9]
      have v1 : W9.cell? ⟨gy, 1, none⟩ = some (.bool y.D) := by simp [World.cell?, hY9]
      have v2 : W9.cell? ⟨gy, 2, none⟩ = some (.slice y.A y.L y.cap) := by simp [World.cell?, hY9]
      clear hA9 hY9
      have t3 := HE9.e3
      have t4 := HE9.e4
      have t5 := HE9.e5
      have t6 := HE9.e6
      have t7 := HE9.e7
      have t8 := HE9.e8
      have t9 := HE9.e9
      have t10 := HE9.e10
      have t11 := HE9.e11
      have tf3 := HE9.free 3
      have tf4 := HE9.free 4
      have tf5 := HE9.free 5
      have tf6 := HE9.free 6
      have tf7 := HE9.free 7
      have tf8 := HE9.free 8
      have tf9 := HE9.free 9
      have tf10 := HE9.free 10
      have tf11 := HE9.free 11
      have HEB9 := Lib.hid HE9
      have HEV9 := Lib.hid HV9
      clear HE9 HV9
      have hge1 : ¬ gA = w.heap.size + 1 + 1 := by omega
      have hge2 : ¬ gy = w.heap.size + 1 + 1 := by omega
      have hge3 : ¬ w.heap.size + 1 + 1 = gA := by omega
      have hge4 : ¬ w.heap.size + 1 + 1 = gy := by omega
      go_upto_region 24 with (fail)
      go_region
      go_upto_region 25 with (fail)
      obtain ⟨x, hx⟩ : ∃ x : An, x = ⟨y.V, y.D, y.bs⟩ := ⟨_, rfl⟩
      have HXX : Hid (x = ac.ans st.m) := Lib.hid (hx.trans HR7.out.2.2.2.1)
      have hxV : y.V = x.V := by rw [hx]
      have hxD : y.D = x.D := by rw [hx]
      have hxB : y.bs = x.bs := by rw [hx]
      obtain ⟨W5, hW5⟩ : ∃ W5 : World, W5 = (((((((((W9.setCell ⟨w.heap.size + 1 + 1, 3, none⟩ (.int .i64 ac.K)).setCell ⟨w.heap.size + 1 + 1, 4, none⟩ (.int .i64 ac.P)).setCell ⟨w.heap.size + 1 + 1, 5, none⟩ (.int .i64 ac.N)).setCell ⟨w.heap.size + 1 + 1, 6, none⟩ (.int .u64 0)).setCell ⟨w.heap.size + 1 + 1, 7, none⟩ (.int .u64 0)).setCell ⟨w.heap.size + 1 + 1, 8, none⟩ (.slice B1 L1 q1)).setCell ⟨w.heap.size + 1 + 1, 9, none⟩ (.int .u64 y.V)).setCell ⟨w.heap.size + 1 + 1, 10, none⟩ (.bool y.D)).setCell ⟨w.heap.size + 1 + 1, 11, none⟩ (.slice y.A y.L y.cap)).drew := ⟨_, rfl⟩
      obtain ⟨hev5, ht9⟩ := nine_box HEB9.out.blk hW5
      rw [← hW5]
      clear hW5
      obtain ⟨o9, hPW9, hTM9, ho9, hn9⟩ := HPW9.out
      have hne9 : ∀ k, o9 k ≠ .no → ¬ k = w.heap.size + 1 + 1 := fun k hk e => hk (by rw [e, ho9 _ hlb2, HS.out.new_no (by omega)])
      have HS5 := Lib.hid (hPW9.touch ht9 fun k hk e => hne9 k hk e)
      have HO9 := Lib.hid (And.intro ho9 hn9)
      have HT5 : Hid (Touch (Mut o) w W5) := Lib.hid (Touch.trans' (((Touch.of_below HB2.out).trans (Touch.of_below HB6.out)).trans hTM9) ht9 (by omega))
      rw [hxV, hxD] at hev5
      have h00 := HV0.out
      have HEB5 : Hid (EvAt (w.heap.size + 1 + 1) W5 p ac x (.slice B1 L1 q1) (.slice y.A y.L y.cap)) := Lib.hid ⟨by rw [← h00.1, ← h00.2]; exact hev5⟩
      have HEV5 : Hid (EvNew (w.heap.size + 1) W5) := Lib.hid (HEV9.out.of_block (ht9.block _ (by omega) (by omega)))
      have hn9b : ∀ k, (o k = .tx ∨ W2.heap.size ≤ k) → k < W9.heap.size → o9 k = .tx := fun k hk hl => by
        by_cases h2 : W2.heap.size ≤ k
        · exact hn9 k h2 hl
        · rcases hk with hk | hk
          · rw [ho9 k (by omega)]; exact hk
          · omega
      have hb91 := HBY9.out.mono (K' := fun k => o9 k = .tx) hn9b
      have hb92 := HGD9.out.bytes.mono (K' := fun k => o9 k = .tx) fun k hk hl => hn9b k (.inr hk) hl
      have hb92 : BytesIn (fun k => o9 k = .tx) W9 (.slice y.A y.L y.cap) x.bs := by rw [← hxB]; exact hb92
      have HTX : Hid (BytesIn (fun k => o9 k = .tx) W5 (.slice B1 L1 q1) ac.bs ∧ BytesIn (fun k => o9 k = .tx) W5 (.slice y.A y.L y.cap) x.bs) := Lib.hid ⟨hb91.touch ht9 fun k hk e => hne9 k (by rw [hk]; simp) e, hb92.touch ht9 fun k hk e => hne9 k (by rw [hk]; simp) e⟩
      have hsz5 : W9.heap.size ≤ W5.heap.size := ht9.size
      clear hx hxV hxD hxB hev5 ht9 hPW9 hTM9 ho9 hn9 hne9 h00 hn9b hb91 hb92 x0 x1 x2 x3 x4 x5 v0 v1 v2 t3 t4 t5 t6 t7 t8 t9 t10 t11 tf3 tf4 tf5 tf6 tf7 tf8 tf9 tf10 tf11 hge1 hge2 hge3 hge4
      have HE5 : Hid (EvAt (w.heap.size + 1 + 1) W5 p ac x (.slice B1 L1 q1) (.slice y.A y.L y.cap)) := HEB5
      have HV5 : Hid (EvNew (w.heap.size + 1) W5) := HEV5
      have hlr := HV5.out.lt
      have hls5 := HE5.out.lt
      have hgp5 : gp < W5.heap.size := by omega
      have hneb : gp ≠ w.heap.size + 1 + 1 := by omega
      have hwz : w.heap.size + 1 + 1 = w.heap.size + 2 := rfl
      obtain ⟨eB, hEB⟩ : ∃ b, b = w.heap.size + 1 + 1 := ⟨_, rfl⟩
      rw [← hEB] at HE5 hls5 hneb ⊢
      have HEB := Lib.hid hEB
      have heb : w.heap.size < eB := by omega
      clear hEB hwz
      have w35 : W5.cell? ⟨gp, 3, none⟩ = some tv := by simp [World.cell?, HS5.out.head]
      have hz3 : W5.frozen? ⟨gp, 3, none⟩ = false := by simp [World.frozen?, HS5.out.head]
      have nng : tv.ownBlock ≠ some gp := fun e => by have := (HS5.out.town gp e).symm.trans HS5.out.pgp; cases this
      have nn5 : tv.ownBlock ≠ some eB := fun e => by have h1 := HS5.out.town eB e; rw [HO9.out.1 eB (by have := HEB.out; omega), HS.out.new_no (by omega)] at h1; cases h1
      have hgw5 := hgp5
      have hn2 : ¬ gp = eB := hneb
      have hn3 : ¬ eB = gp := fun e => hn2 e.symm
      have v0 : W5.cell? ⟨eB, 0, none⟩ = some (.int .i64 p.K) := HE5.out.e0
      have v1 : W5.cell? ⟨eB, 1, none⟩ = some (.int .i64 p.A) := HE5.out.e1
      have v2 : W5.cell? ⟨eB, 2, none⟩ = some (.int .i64 p.N) := HE5.out.e2
      have v3 : W5.cell? ⟨eB, 3, none⟩ = some (.int .i64 ac.K) := HE5.out.e3
      have v4 : W5.cell? ⟨eB, 4, none⟩ = some (.int .i64 ac.P) := HE5.out.e4
      have v5 : W5.cell? ⟨eB, 5, none⟩ = some (.int .i64 ac.N) := HE5.out.e5
      have v6 : W5.cell? ⟨eB, 6, none⟩ = some (.int .u64 ac.V) := HE5.out.e6
      have v7 : W5.cell? ⟨eB, 7, none⟩ = some (.int .u64 ac.U) := HE5.out.e7
      have v8 : W5.cell? ⟨eB, 8, none⟩ = some (.slice B1 L1 q1) := HE5.out.e8
      have v9 : W5.cell? ⟨eB, 9, none⟩ = some (.int .u64 x.V) := HE5.out.e9
      have v10 : W5.cell? ⟨eB, 10, none⟩ = some (.bool x.D) := HE5.out.e10
      have v11 : W5.cell? ⟨eB, 11, none⟩ = some (.slice y.A y.L y.cap) := HE5.out.e11
      go_cut [] (fun wx => ∃ (o2 : Nat → Pt) (tv2 : Value) (ts2 : List Tx), PW wx o2 gp q jb (some ⟨jb, 0, none⟩) c5 js (upd pj i ((pj i).tell g cap y)) tv2 ts2 (st.did p i ac) ∧ Touch (Mut o9) W5 wx ∧ ∀ k, k < W5.heap.size → o2 k = o9 k)
      case first =>
        refine wp_region_noPanic ?_
        refine wp_region_held_drew (S := fun w' => w'.cell? ⟨eB, 0, none⟩ = some (.int .i64 p.K) ∧ w'.cell? ⟨eB, 1, none⟩ = some (.int .i64 p.A) ∧ w'.cell? ⟨eB, 2, none⟩ = some (.int .i64 p.N) ∧ w'.cell? ⟨eB, 3, none⟩ = some (.int .i64 ac.K) ∧ w'.cell? ⟨eB, 4, none⟩ = some (.int .i64 ac.P) ∧ w'.cell? ⟨eB, 5, none⟩ = some (.int .i64 ac.N) ∧ w'.cell? ⟨eB, 6, none⟩ = some (.int .u64 ac.V) ∧ w'.cell? ⟨eB, 7, none⟩ = some (.int .u64 ac.U) ∧ w'.cell? ⟨eB, 8, none⟩ = some (.slice B1 L1 q1) ∧ w'.cell? ⟨eB, 9, none⟩ = some (.int .u64 x.V) ∧ w'.cell? ⟨eB, 10, none⟩ = some (.bool x.D) ∧ w'.cell? ⟨eB, 11, none⟩ = some (.slice y.A y.L y.cap)) (by kernel_rfl) ?_ (fun hHeld => ?_)
        · (try dsimp only); go_keep
        refine wpAnyH_take (i := 0) (oi := _) (v := ?_) rfl (by kernel_rfl) (by kernel_rfl) (by kernel_rfl) (fun _ _ _ h => h) (Or.inl ⟨by rfl, ?_⟩) (by assumption) ?_
        rotate_left
        · (intro w hSw; (try dsimp only at hSw); go_simp; try (with_reducible rfl))
        try simp only [Act.put, Array.reduceGetElem, List.setIfInBounds_toArray, List.set_cons_zero, List.set_cons_succ]
        refine wpAnyH_take (i := 1) (oi := _) (v := ?_) rfl (by kernel_rfl) (by kernel_rfl) (by kernel_rfl) (fun _ _ _ h => h) (Or.inl ⟨by rfl, ?_⟩) (by assumption) ?_
        rotate_left
        · (intro w hSw; (try dsimp only at hSw); go_simp; try (with_reducible rfl))
        try simp only [Act.put, Array.reduceGetElem, List.setIfInBounds_toArray, List.set_cons_zero, List.set_cons_succ]
        refine wpAnyH_take (i := 2) (oi := _) (v := ?_) rfl (by kernel_rfl) (by kernel_rfl) (by kernel_rfl) (fun _ _ _ h => h) (Or.inl ⟨by rfl, ?_⟩) (by assumption) ?_
        rotate_left
        · (intro w hSw; (try dsimp only at hSw); go_simp; try (with_reducible rfl))
        try simp only [Act.put, Array.reduceGetElem, List.setIfInBounds_toArray, List.set_cons_zero, List.set_cons_succ]
        refine wpAnyH_take (i := 3) (oi := _) (v := ?_) rfl (by kernel_rfl) (by kernel_rfl) (by kernel_rfl) (fun _ _ _ h => h) (Or.inl ⟨by rfl, ?_⟩) (by assumption) ?_
        rotate_left
        · (intro w hSw; (try dsimp only at hSw); go_simp; try (with_reducible rfl))
        try simp only [Act.put, Array.reduceGetElem, List.setIfInBounds_toArray, List.set_cons_zero, List.set_cons_succ]
        refine wpAnyH_take (i := 5) (oi := _) (v := ?_) rfl (by kernel_rfl) (by kernel_rfl) (by kernel_rfl) (fun _ _ _ h => h) (Or.inl ⟨by rfl, ?_⟩) (by assumption) ?_
        rotate_left
        · (intro w hSw; (try dsimp only at hSw); go_simp; try (with_reducible rfl))
        try simp only [Act.put, Array.reduceGetElem, List.setIfInBounds_toArray, List.set_cons_zero, List.set_cons_succ]
        refine wpAnyH_ready (rs := [4, 6]) (by kernel_rfl) (by simp) ?_
        refine AllReadyH.cons (o := _) rfl (fun K9 hK => ?_) ?_
        rotate_left
        · refine AllReadyH.cons (o := _) rfl (fun K9 hK => ?_) ?_
          rotate_left
          · exact AllReadyH.nil
          go_simp
          refine hK.out _ _ ?_ (fun hHeld => ?_)
          · (try dsimp only); go_keep
          clear hK K9
          try simp only [Act.put, Array.reduceGetElem, List.setIfInBounds_toArray, List.set_cons_zero, List.set_cons_succ]
          refine wpAnyH_ready (rs := [4]) (by kernel_rfl) (by simp) ?_
          refine AllReadyH.cons (o := _) rfl (fun K9 hK => ?_) ?_
          rotate_left
          · exact AllReadyH.nil
          go_simp
          refine hK.out _ _ ?_ (fun hHeld => ?_)
          · (try dsimp only); go_keep
          clear hK K9
          try simp only [Act.put, Array.reduceGetElem, List.setIfInBounds_toArray, List.set_cons_zero, List.set_cons_succ]
          refine wpAnyH_ready (rs := [7]) (by kernel_rfl) (by simp) ?_
          refine AllReadyH.cons (o := _) rfl (fun K9 hK => ?_) ?_
          rotate_left
          · exact AllReadyH.nil
          refine step_app_ev rfl _ _ rfl tv ts.length _ ⟨⟨p, ac, x⟩, .slice B1 L1 q1, .slice y.A y.L y.cap⟩ _ _ rfl rfl (HS5.out.below ((Below.refl _ W5).drew.alloc (Nat.le_refl _) _)).trow (Go.Deep.blk_alloc_new _ _) rfl rfl HL.out ?_
          intro v7 w7 happ
          obtain ⟨g7, q7, rfl⟩ := happ.form
          have kf7 := fun (q : Addr) (hq : q.block < W5.heap.size) (hnq : tv.ownBlock ≠ some q.block) => app_cell ((Below.refl _ W5).drew.alloc (Nat.le_refl _) _) happ hq hnq
          have kg7 := (kf7 ⟨gp, 3, none⟩ hgw5 nng).trans w35
          have kw0 := (kf7 ⟨eB, 0, none⟩ hls5 nn5).trans v0
          have kw1 := (kf7 ⟨eB, 1, none⟩ hls5 nn5).trans v1
          have kw2 := (kf7 ⟨eB, 2, none⟩ hls5 nn5).trans v2
          have kw3 := (kf7 ⟨eB, 3, none⟩ hls5 nn5).trans v3
          have kw4 := (kf7 ⟨eB, 4, none⟩ hls5 nn5).trans v4
          have kw5 := (kf7 ⟨eB, 5, none⟩ hls5 nn5).trans v5
          have kw6 := (kf7 ⟨eB, 6, none⟩ hls5 nn5).trans v6
          have kw7 := (kf7 ⟨eB, 7, none⟩ hls5 nn5).trans v7
          have kw8 := (kf7 ⟨eB, 8, none⟩ hls5 nn5).trans v8
          have kw9 := (kf7 ⟨eB, 9, none⟩ hls5 nn5).trans v9
          have kw10 := (kf7 ⟨eB, 10, none⟩ hls5 nn5).trans v10
          have kw11 := (kf7 ⟨eB, 11, none⟩ hls5 nn5).trans v11
          have kz7 := (app_frozen ((Below.refl _ W5).drew.alloc (Nat.le_refl _) _) happ (q := ⟨gp, 3, none⟩) hgw5 nng).trans hz3
          clear kf7
          have HAP := Lib.hid happ
          clear happ
          try go_simp
          refine hK.out _ _ ?_ (fun hHeld => ?_)
          · (try dsimp only); go_keep
          clear hK K9
          try simp only [Act.put, Array.reduceGetElem, List.setIfInBounds_toArray, List.set_cons_zero, List.set_cons_succ]
          refine wpAnyH_take (i := 8) (oi := _) (v := ?_) rfl (by kernel_rfl) (by kernel_rfl) (by kernel_rfl) (fun _ _ _ h => h) (Or.inl ⟨by rfl, ?_⟩) (by assumption) ?_
          rotate_left
          · (intro w hSw; (try dsimp only at hSw); go_simp; try (with_reducible rfl))
          try simp only [Act.put, Array.reduceGetElem, List.setIfInBounds_toArray, List.set_cons_zero, List.set_cons_succ]
          refine wpAnyH_take (i := 9) (oi := _) (v := ?_) rfl (by kernel_rfl) (by kernel_rfl) (by kernel_rfl) (fun _ _ _ h => h) (Or.inl ⟨by rfl, ?_⟩) (by assumption) ?_
          rotate_left
          · (intro w hSw; (try dsimp only at hSw); go_simp; try (with_reducible rfl))
          try simp only [Act.put, Array.reduceGetElem, List.setIfInBounds_toArray, List.set_cons_zero, List.set_cons_succ]
          refine wpAnyH_ready (rs := [10]) (by kernel_rfl) (by simp) ?_
          refine AllReadyH.cons (o := _) rfl (fun K9 hK => ?_) ?_
          rotate_left
          · exact AllReadyH.nil
          go_simp
          refine hK.out _ _ ?_ (fun hHeld => ?_)
          · (try dsimp only); go_keep
          clear hK K9
          try simp only [Act.put, Array.reduceGetElem, List.setIfInBounds_toArray, List.set_cons_zero, List.set_cons_succ]
          refine wpAnyH_done (by kernel_rfl) ?_ _
          refine NoPanic.normal ?_
          go_wp2_with fail
          go_meet
          obtain ⟨o9, z1, z2, z3⟩ := HS5.out.push ((Below.refl _ W5).drew.alloc (Nat.le_refl _) _) ⟨⟨p, ac, x⟩, .slice B1 L1 q1, .slice y.A y.L y.cap⟩ HTX.out.1 HTX.out.2 HAP.out
          (rw [HXX.out] at z1; exact ⟨o9, _, _, z1, z2, z3⟩)
        go_simp
        refine hK.out _ _ ?_ (fun hHeld => ?_)
        · (try dsimp only); go_keep
        clear hK K9
        try simp only [Act.put, Array.reduceGetElem, List.setIfInBounds_toArray, List.set_cons_zero, List.set_cons_succ]
        refine wpAnyH_ready (rs := [6]) (by kernel_rfl) (by simp) ?_
        refine AllReadyH.cons (o := _) rfl (fun K9 hK => ?_) ?_
        rotate_left
        · exact AllReadyH.nil
        go_simp
        refine hK.out _ _ ?_ (fun hHeld => ?_)
        · (try dsimp only); go_keep
        clear hK K9
        try simp only [Act.put, Array.reduceGetElem, List.setIfInBounds_toArray, List.set_cons_zero, List.set_cons_succ]
        refine wpAnyH_ready (rs := [7]) (by kernel_rfl) (by simp) ?_
        refine AllReadyH.cons (o := _) rfl (fun K9 hK => ?_) ?_
        rotate_left
        · exact AllReadyH.nil
        refine step_app_ev rfl _ _ rfl tv ts.length _ ⟨⟨p, ac, x⟩, .slice B1 L1 q1, .slice y.A y.L y.cap⟩ _ _ rfl rfl (HS5.out.below ((Below.refl _ W5).drew.alloc (Nat.le_refl _) _)).trow (Go.Deep.blk_alloc_new _ _) rfl rfl HL.out ?_
        intro v7 w7 happ
        obtain ⟨g7, q7, rfl⟩ := happ.form
        have kf7 := fun (q : Addr) (hq : q.block < W5.heap.size) (hnq : tv.ownBlock ≠ some q.block) => app_cell ((Below.refl _ W5).drew.alloc (Nat.le_refl _) _) happ hq hnq
        have kg7 := (kf7 ⟨gp, 3, none⟩ hgw5 nng).trans w35
        have kw0 := (kf7 ⟨eB, 0, none⟩ hls5 nn5).trans v0
        have kw1 := (kf7 ⟨eB, 1, none⟩ hls5 nn5).trans v1
        have kw2 := (kf7 ⟨eB, 2, none⟩ hls5 nn5).trans v2
        have kw3 := (kf7 ⟨eB, 3, none⟩ hls5 nn5).trans v3
        have kw4 := (kf7 ⟨eB, 4, none⟩ hls5 nn5).trans v4
        have kw5 := (kf7 ⟨eB, 5, none⟩ hls5 nn5).trans v5
        have kw6 := (kf7 ⟨eB, 6, none⟩ hls5 nn5).trans v6
        have kw7 := (kf7 ⟨eB, 7, none⟩ hls5 nn5).trans v7
        have kw8 := (kf7 ⟨eB, 8, none⟩ hls5 nn5).trans v8
        have kw9 := (kf7 ⟨eB, 9, none⟩ hls5 nn5).trans v9
        have kw10 := (kf7 ⟨eB, 10, none⟩ hls5 nn5).trans v10
        have kw11 := (kf7 ⟨eB, 11, none⟩ hls5 nn5).trans v11
        have kz7 := (app_frozen ((Below.refl _ W5).drew.alloc (Nat.le_refl _) _) happ (q := ⟨gp, 3, none⟩) hgw5 nng).trans hz3
        clear kf7
        have HAP := Lib.hid happ
        clear happ
        try go_simp
        refine hK.out _ _ ?_ (fun hHeld => ?_)
        · (try dsimp only); go_keep
        clear hK K9
        try simp only [Act.put, Array.reduceGetElem, List.setIfInBounds_toArray, List.set_cons_zero, List.set_cons_succ]
        refine wpAnyH_take (i := 8) (oi := _) (v := ?_) rfl (by kernel_rfl) (by kernel_rfl) (by kernel_rfl) (fun _ _ _ h => h) (Or.inl ⟨by rfl, ?_⟩) (by assumption) ?_
        rotate_left
        · (intro w hSw; (try dsimp only at hSw); go_simp; try (with_reducible rfl))
        try simp only [Act.put, Array.reduceGetElem, List.setIfInBounds_toArray, List.set_cons_zero, List.set_cons_succ]
        refine wpAnyH_take (i := 9) (oi := _) (v := ?_) rfl (by kernel_rfl) (by kernel_rfl) (by kernel_rfl) (fun _ _ _ h => h) (Or.inl ⟨by rfl, ?_⟩) (by assumption) ?_
        rotate_left
        · (intro w hSw; (try dsimp only at hSw); go_simp; try (with_reducible rfl))
        try simp only [Act.put, Array.reduceGetElem, List.setIfInBounds_toArray, List.set_cons_zero, List.set_cons_succ]
        refine wpAnyH_ready (rs := [10]) (by kernel_rfl) (by simp) ?_
        refine AllReadyH.cons (o := _) rfl (fun K9 hK => ?_) ?_
        rotate_left
        · exact AllReadyH.nil
        go_simp
        refine hK.out _ _ ?_ (fun hHeld => ?_)
        · (try dsimp only); go_keep
        clear hK K9
        try simp only [Act.put, Array.reduceGetElem, List.setIfInBounds_toArray, List.set_cons_zero, List.set_cons_succ]
        refine wpAnyH_done (by kernel_rfl) ?_ _
        refine NoPanic.normal ?_
        go_wp2_with fail
        go_meet
        obtain ⟨o9, z1, z2, z3⟩ := HS5.out.push ((Below.refl _ W5).drew.alloc (Nat.le_refl _) _) ⟨⟨p, ac, x⟩, .slice B1 L1 q1, .slice y.A y.L y.cap⟩ HTX.out.1 HTX.out.2 HAP.out
        (rw [HXX.out] at z1; exact ⟨o9, _, _, z1, z2, z3⟩)
      case rest =>
        obtain ⟨o2, tv2, ts2, hs2, ht2, ho2⟩ := hcut
        have hnm : ∀ k, w.heap.size ≤ k → k < W2.heap.size → ¬ Mut o9 k := fun k hk hl e => e.1 ((HO9.out.1 k hl).trans (HS.out.new_no hk))
        have hE := HE5.out.of_block (ht2.block _ hls5 (hnm _ (by omega) (by have := HEB.out; omega)))
        have hV := HV5.out.of_block (ht2.block _ hlr (hnm _ (by omega) (by have := HEB.out; omega)))
        have HS7 := Lib.hid hs2
        have HT7 := Lib.hid (And.intro ht2 ho2)
        have e0 : wc.cell? ⟨eB, 0, none⟩ = some (.int .i64 p.K) := hE.e0
        have e1 : wc.cell? ⟨eB, 1, none⟩ = some (.int .i64 p.A) := hE.e1
        have e2 : wc.cell? ⟨eB, 2, none⟩ = some (.int .i64 p.N) := hE.e2
        have e3 : wc.cell? ⟨eB, 3, none⟩ = some (.int .i64 ac.K) := hE.e3
        have e4 : wc.cell? ⟨eB, 4, none⟩ = some (.int .i64 ac.P) := hE.e4
        have e5 : wc.cell? ⟨eB, 5, none⟩ = some (.int .i64 ac.N) := hE.e5
        have e6 : wc.cell? ⟨eB, 6, none⟩ = some (.int .u64 ac.V) := hE.e6
        have e7 : wc.cell? ⟨eB, 7, none⟩ = some (.int .u64 ac.U) := hE.e7
        have e8 : wc.cell? ⟨eB, 8, none⟩ = some (.slice B1 L1 q1) := hE.e8
        have e9 : wc.cell? ⟨eB, 9, none⟩ = some (.int .u64 x.V) := hE.e9
        have e10 : wc.cell? ⟨eB, 10, none⟩ = some (.bool x.D) := hE.e10
        have e11 : wc.cell? ⟨eB, 11, none⟩ = some (.slice y.A y.L y.cap) := hE.e11
        have r0 : wc.cell? ⟨w.heap.size + 1, 0, none⟩ = some (.int .i64 0) := hV.e0
        have f0 := hV.free 0
        have r1 : wc.cell? ⟨w.heap.size + 1, 1, none⟩ = some (.int .i64 0) := hV.e1
        have f1 := hV.free 1
        have r2 : wc.cell? ⟨w.heap.size + 1, 2, none⟩ = some (.int .i64 0) := hV.e2
        have f2 := hV.free 2
        have r3 : wc.cell? ⟨w.heap.size + 1, 3, none⟩ = some (.int .i64 0) := hV.e3
        have f3 := hV.free 3
        have r4 : wc.cell? ⟨w.heap.size + 1, 4, none⟩ = some (.int .i64 0) := hV.e4
        have f4 := hV.free 4
        have r5 : wc.cell? ⟨w.heap.size + 1, 5, none⟩ = some (.int .i64 0) := hV.e5
        have f5 := hV.free 5
        have r6 : wc.cell? ⟨w.heap.size + 1, 6, none⟩ = some (.int .u64 0) := hV.e6
        have f6 := hV.free 6
        have r7 : wc.cell? ⟨w.heap.size + 1, 7, none⟩ = some (.int .u64 0) := hV.e7
        have f7 := hV.free 7
        have r8 : wc.cell? ⟨w.heap.size + 1, 8, none⟩ = some (.slice none 0 0) := hV.e8
        have f8 := hV.free 8
        have r9 : wc.cell? ⟨w.heap.size + 1, 9, none⟩ = some (.int .u64 0) := hV.e9
        have f9 := hV.free 9
        have r10 : wc.cell? ⟨w.heap.size + 1, 10, none⟩ = some (.bool false) := hV.e10
        have f10 := hV.free 10
        have r11 : wc.cell? ⟨w.heap.size + 1, 11, none⟩ = some (.slice none 0 0) := hV.e11
        have f11 := hV.free 11
        have hlc := ht2.size
        clear hE hV hs2 ht2 ho2 v0 v1 v2 v3 v4 v5 v6 v7 v8 v9 v10 v11 w35 hz3
        go_wp2
        refine bodyPost_ret (v := .tuple #[.agg #[.int .i64 p.K, .int .i64 p.A, .int .i64 p.N, .int .i64 ac.K, .int .i64 ac.P, .int .i64 ac.N, .int .u64 ac.V, .int .u64 ac.U, .slice B1 L1 q1, .int .u64 x.V, .bool x.D, .slice y.A y.L y.cap], .int .i64 0]) (by simp [results, Try.results12, go_sem, r0, r1, r2, r3, r4, r5, r6, r7, r8, r9, r10, r11]) rfl ?_
        have ht12 := twelve_touch wc (w.heap.size + 1) (.int .i64 p.K) (.int .i64 p.A) (.int .i64 p.N) (.int .i64 ac.K) (.int .i64 ac.P) (.int .i64 ac.N) (.int .u64 ac.V) (.int .u64 ac.U) (.slice B1 L1 q1) (.int .u64 x.V) (.bool x.D) (.slice y.A y.L y.cap)
        have hlw2 : w.heap.size + 1 < W2.heap.size := by have := HEB.out; omega
        have hno : o2 (w.heap.size + 1) = .no := (HT7.out.2 _ (by omega)).trans ((HO9.out.1 _ hlw2).trans (HS.out.new_no (by omega)))
        have hby1 := ((HTX.out.1.keep (w' := wc) hlc fun k hk hl => HT7.out.1.block k hl fun e => e.2 hk).touch ht12 fun k hk e => by
          have e' : k = w.heap.size + 1 := e
          rw [e', HO9.out.1 _ hlw2, HS.out.new_no (by omega)] at hk; cases hk).bytes
        have hby2 := ((HTX.out.2.keep (w' := wc) hlc fun k hk hl => HT7.out.1.block k hl fun e => e.2 hk).touch ht12 fun k hk e => by
          have e' : k = w.heap.size + 1 := e
          rw [e', HO9.out.1 _ hlw2, HS.out.new_no (by omega)] at hk; cases hk).bytes
        have hx' := HXX.out
        have ha' := HAC.out
        rw [← ha', ← hx']
        refine ⟨o2, B1, L1, q1, y.A, y.L, y.cap, upd pj i ((pj i).tell g cap y), tv2, ts2, rfl, hby1, hby2, HS7.out.touch ht12 fun k hk e => ?_, Touch.trans' (touch_chain HT5.out HT7.out.1 fun k hk => HO9.out.1 k (by omega)) ht12 (Nat.le_succ _), fun k hk => (HT7.out.2 k (by omega)).trans (HO9.out.1 k (by omega))⟩
        have e' : k = w.heap.size + 1 := e
        rw [e'] at hk
        exact hk hno
end Go.Proofs.Ytegjnejekakeiaa
namespace Go.Proofs.Ytegjnejekakeiaa
open Go.RowKit

/-- A plain pick was done: the error, the event, the world. -/
def PlainAny (o : Nat → Pt) (gp q jb : Nat) (JA : Option Addr) (c5 : Nat) (js : Nat → Jb) (st' : St) (r : Int) (v : Ev) (w : World) (e : Ending) (w' : World) : Prop :=
  ∃ o' A1 l1 q1 A2 l2 q2 pj' tv' ts', e = .returned (.tuple #[.agg #[.int .i64 v.pk.K, .int .i64 v.pk.A, .int .i64 v.pk.N, .int .i64 v.ac.K, .int .i64 v.ac.P, .int .i64 v.ac.N, .int .u64 v.ac.V, .int .u64 v.ac.U, .slice A1 l1 q1, .int .u64 v.an.V, .bool v.an.D, .slice A2 l2 q2], .int .i64 r]) ∧ BytesAt w' (.slice A1 l1 q1) v.ac.bs ∧ BytesAt w' (.slice A2 l2 q2) v.an.bs ∧
    PW w' o' gp q jb JA c5 js pj' tv' ts' st' ∧ Touch (Mut o) w w' ∧ ∀ k, k < w.heap.size → o' k = o k

theorem PlainAny.of_told {o : Nat → Pt} {gp q jb : Nat} {JA : Option Addr} {c5 : Nat} {js : Nat → Jb} {st' : St} {v : Ev} {w : World} {e : Ending} {w' : World} (h : PlainTold o gp q jb JA c5 js st' v w e w') : PlainAny o gp q jb JA c5 js st' 0 v w e w' := h

theorem PlainAny.of_no {w w' : World} {o : Nat → Pt} {gp q jb : Nat} {JA : Option Addr} {c5 : Nat} {js : Nat → Jb} {pj : Nat → PJ} {tv : Value} {ts : List Tx} {st : St} {e : Ending} {r : Int} (h : PW w o gp q jb JA c5 js pj tv ts st)
    (he : e = .returned (.tuple #[.agg #[.int .i64 0, .int .i64 0, .int .i64 0, .int .i64 0, .int .i64 0, .int .i64 0, .int .u64 0, .int .u64 0, .slice none 0 0, .int .u64 0, .bool false, .slice none 0 0], .int .i64 r]) ∧ Below w.heap.size w w') : PlainAny o gp q jb JA c5 js st r Ev.zero w e w' :=
  ⟨o, none, 0, 0, none, 0, 0, pj, tv, ts, he.1, BytesAt.nil _, BytesAt.nil _, h.below he.2, Touch.of_below he.2, fun _ _ => rfl⟩

theorem St.ticks_all (st : St) (c : Int) (i : Nat) : st.ticks c i = { st with clock := c } := by
  unfold St.ticks
  congr 1
  funext j
  split <;> rfl

theorem PW.len {w : World} {p : Nat → Pt} {gp q jb : Nat} {JA : Option Addr} {c5 : Nat} {js : Nat → Jb} {pj : Nat → PJ} {tv : Value} {ts : List Tx} {st : St} (h : PW w p gp q jb JA c5 js pj tv ts st) : ts.length = st.tr.length := by rw [← h.evs, List.length_map]

/-- What is asked of the jobs: bytes are bytes, and few. -/
def JbsOk (js : Nat → Jb) (n : Nat) : Prop := ∀ i, i < n → (js i).kd.Okay ∧ (js i).L ≤ 131072

theorem plainPick_any {w : World} {o : Nat → Pt} {gp q jb : Nat} {JA : Option Addr} {c5 : Nat} {js : Nat → Jb} {pj : Nat → PJ} {tv : Value} {ts : List Tx} {st : St} (h : PW w o gp q jb JA c5 js pj tv ts st) (hnw : st.nw = 32) (hok : JbsOk js st.na) (p : Pk) (hlong : st.tr.length ≤ 1000000) :
    Calls Try.prog 12 #[.pointer (some ⟨gp, 0, none⟩), .agg #[.int .i64 p.K, .int .i64 p.A, .int .i64 p.N]] w (PlainAny o gp q jb JA c5 js (st.pick p).1 (st.pick p).2.1 (st.pick p).2.2 w) := by
  have hl : ts.length ≤ 1000000 := by rw [h.len]; exact hlong
  by_cases h0 : st.chk p = 0
  · rcases St.chk_kind h0 with hk | hk | hk
    · obtain ⟨i, hA, hi, hd⟩ := St.chk_actor h0 (.inl hk)
      have hti : p.A.toNat = i := by rw [hA]; rfl
      cases hn : (st.ms i).next with
      | none =>
        rw [St.pick_end h0 hk (by rw [hti]; exact hn)]
        exact (plainPick_end h p hk i hA hi hd hn (hok i hi).2 hl).mono fun _ _ hs => PlainAny.of_told hs
      | some a =>
        by_cases he : a.err st.nw = 0
        · rw [St.pick_ok h0 hk (by rw [hti]; exact hn) he, hti]
          rw [hnw] at he
          exact (plainPick_ok h p hk i hA hi hd hn he (hok i hi).1 (hok i hi).2 hl).mono fun _ _ hs => PlainAny.of_told hs
        · rw [St.pick_bad h0 hk (by rw [hti]; exact hn) he, hti]
          obtain ⟨hmore, ha, _⟩ := h.next_some hi hn
          have hp0 : 0 ≤ (js i).kd.place := by rw [(js i).kd_place]; exact (js i).at_in.1
          rw [hnw, ha, acOf_err _ _ _ hp0] at he ⊢
          by_cases hb : 256 < (js i).kd.place + (8 * (pj i).cnt : Nat) + (Cy.nx ((js i).len - 8 * (pj i).cnt) : Nat)
          · rw [if_pos hb]
            refine (plainPick_bad h p hk i hA hi hd hmore (by rw [← (js i).kd_place]; exact hb) (hok i hi).2).mono ?_
            rintro e w' ⟨he, hw, ht⟩
            exact ⟨o, none, 0, 0, none, 0, 0, pj, tv, ts, he, BytesAt.nil _, BytesAt.nil _, hw, ht, fun _ _ => rfl⟩
          · rw [if_neg hb] at he; exact absurd rfl he
    · obtain ⟨i, hA, hi, hd⟩ := St.chk_actor h0 (.inr hk)
      have hti : p.A.toNat = i := by rw [hA]; rfl
      rw [St.pick_kill h0 hk, hti]
      exact (plainPick_kill h p hk i hA hi hd hl).mono fun _ _ hs => PlainAny.of_told hs
    · rw [St.pick_tick h0 hk, St.ticks_all]
      have hN : 0 ≤ p.N ∧ p.N ≤ 1099511627776 := by
        unfold St.chk at h0
        rw [if_neg (by omega)] at h0
        by_cases hc : p.K = 2 ∧ 0 ≤ p.N ∧ p.N ≤ 1099511627776
        · exact hc.2
        · rw [if_neg hc] at h0; cases h0
      exact (plainPick_tick h p hk hN.1 hN.2 hl).mono fun _ _ hs => PlainAny.of_told hs
  · rw [St.pick_no h0]
    have key : ∀ r, (Calls Try.prog 12 #[.pointer (some ⟨gp, 0, none⟩), .agg #[.int .i64 p.K, .int .i64 p.A, .int .i64 p.N]] w fun e w' => e = .returned (.tuple #[.agg #[.int .i64 0, .int .i64 0, .int .i64 0, .int .i64 0, .int .i64 0, .int .i64 0, .int .u64 0, .int .u64 0, .slice none 0 0, .int .u64 0, .bool false, .slice none 0 0], .int .i64 r]) ∧ Below w.heap.size w w') → st.chk p = r →
        Calls Try.prog 12 #[.pointer (some ⟨gp, 0, none⟩), .agg #[.int .i64 p.K, .int .i64 p.A, .int .i64 p.N]] w (PlainAny o gp q jb JA c5 js st (st.chk p) Ev.zero w) := fun r hc hr => by
      rw [hr]
      exact hc.mono fun _ _ hs => PlainAny.of_no h hs
    by_cases hk : p.K = 0 ∨ p.K = 1
    · have hc : st.chk p = if hasB st.na p.A = true then (if st.dead p.A.toNat = true then 11 else 0) else 2 := if_pos hk
      by_cases hb : hasB st.na p.A = true
      · rw [if_pos hb] at hc
        unfold hasB at hb
        simp only [Bool.and_eq_true, decide_eq_true_eq] at hb
        have hd : st.dead p.A.toNat = true := by
          cases hd : st.dead p.A.toNat with
          | true => rfl
          | false => rw [hd, if_neg (by simp)] at hc; exact absurd hc h0
        exact key 11 (plainPick_dead h p hk p.A.toNat (by omega) (by omega) hd) (by rw [hc, if_pos hd])
      · rw [if_neg hb] at hc
        refine key 2 ?_ hc
        by_cases hA : p.A < 0
        · exact plainPick_below h p hk hA
        · refine plainPick_over h p hk (by omega) ?_
          unfold hasB at hb
          simp only [Bool.and_eq_true, decide_eq_true_eq] at hb
          omega
    · have hc : st.chk p = if p.K = 2 ∧ 0 ≤ p.N ∧ p.N ≤ 1099511627776 then 0 else 1 := if_neg hk
      by_cases h2 : p.K = 2
      · by_cases h3 : p.N < 0
        · exact key 1 (plainPick_early h p h2 h3) (by rw [hc, if_neg (by omega)])
        · by_cases h4 : p.N ≤ 1099511627776
          · rw [if_pos ⟨h2, by omega, h4⟩] at hc; exact absurd hc h0
          · exact key 1 (plainPick_late h p h2 (by omega) (by omega)) (by rw [hc, if_neg (by omega)])
      · exact key 1 (plainPick_kind h p (fun e => hk (.inl e)) (fun e => hk (.inr e)) h2) (by rw [hc, if_neg (by omega)])
end Go.Proofs.Ytegjnejekakeiaa
