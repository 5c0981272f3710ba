/-
  Layer 8's get, walked: the next part of a message's bytes is asked for, or the message is kept.
  Layer 8's get, walked: a part of a message's bytes was read.
  Layer 8's get, walked: a message's reading begins.
  Layer 8's get, walked: a record's header was told: nothing whole stands there, or something odd.
  Layer 8's get, walked: a record's header was told that is odd.
  Layer 8's get, walked: a record's header was told that is too long.
  Layer 8's get, walked: a record's header was told that is padding's.
  Layer 8's get, walked: a record's header was told that is a message's.
  Layer 8's get, walked: a record's header was told.
  Layer 8's get, walked: a record's header was answered.
  Layer 8's get, walked: an answer is taken.
  Layer 7's put is made.
  Layer 8's get from outside: what it takes; what it does next; how it ended.
  Layer 8's get from outside: what it does next.
  Layer 8's get from outside: how it ended.
  Layer 8's get is made.
  Layer 8's get: what it read is short, as long as each answer's bytes are few.
-/
import Derived.Test.YtikcnioooihncaaGreatP06
import Derived.Test.YtikcnioooihncaaGreatP04
import Derived.Test.YtikcnioooihncaaGreatP03
namespace Go.Proofs.YtikcnioooihncaaGreat
open Go.RowKit

/-- What the bytes' end and their next part lead to. -/
def Gs.reads (s : Gs) (typ : Int) (sz n d : Nat) (ys : List Int) : Gs := if d = n then s.got typ sz ys else { s with ph := .read typ sz n d ys }

theorem gt_enterR (er ec : Nat) (w : World) : (callFunc 145 #[.pointer (some ⟨er, 0, none⟩), .pointer (some ⟨ec, 0, none⟩)]).run Tryz.prog w = .ok (.enter 145 #[.pointer (some ⟨er, 0, none⟩), .pointer (some ⟨ec, 0, none⟩)]) w := by
  simp [go_sem]

set_option maxHeartbeats 800000 in
/-- The bytes are followed: the next part is asked for, or the message is kept. -/
theorem gtReads {w : World} {F M : Nat → Prop} {g : Nat} {s : Gs} {mv : Value} (h : GtBare w F g s M mv) (hF : ∀ k, F k → k < w.heap.size) {typ : Int} {sz n d er ec gc base top : Nat} {v on : Value} {ys : List Int}
    (hr : Capt w (fun k => F k ∧ ¬ M k) g er on) (hec : Capt w (fun k => F k ∧ ¬ M k) g ec (.pointer (some ⟨gc, 0, none⟩))) (ht : GTell w (fun k => (F k ∧ ¬ M k) ∧ ¬ ((base ≤ k ∧ k < top) ∨ v.ownBlock = some k)) g typ sz on)
    (hc : Cp w base top gc (.rd (s.at_ + 8)) d (n - d) v ys) (hd : d ≤ n) (hsz : n + 8 ≤ sz ∧ (sz : Int) ≤ s.left ∧ 1 ≤ sz) (hlen : ys.length ≤ 1073741824) (hsep : ∀ k, (base ≤ k ∧ k < top) ∨ v.ownBlock = some k → (F k ∧ ¬ M k) ∧ k ≠ g ∧ k ≠ er ∧ k ≠ ec ∧ mv.ownBlock ≠ some k) :
    Calls Tryz.prog 118 #[.pointer (some ⟨g, 3, none⟩), .iface 179 (.pointer (some ⟨gc, 0, none⟩)), .func (.func 145) #[] #[.pointer (some ⟨er, 0, none⟩), .pointer (some ⟨ec, 0, none⟩)]] w (GtMoved F g (s.reads typ sz n d ys) w) := by
  unfold Gs.reads
  by_cases hl : d = n
  · rw [if_pos hl]
    have hz : n - d = 0 := by omega
    rw [hz] at hc
    obtain ⟨a, b, c, e, ha, hb, hcc⟩ := ht
    have wk : ∀ {q : Nat} {u : Value}, Capt w (fun k => (F k ∧ ¬ M k) ∧ ¬ ((base ≤ k ∧ k < top) ∨ v.ownBlock = some k)) g q u → Capt w (fun k => F k ∧ ¬ M k) g q u := fun hq => hq.mono fun k hk => hk.1
    refine (stFollowNo hc g 3 (Q := fun w' => GtMoved F g (s.got typ sz ys) w (.returned (.tuple #[])) w') #[.pointer (some ⟨er, 0, none⟩), .pointer (some ⟨ec, 0, none⟩)] (by simp) (gt_enterR er ec) fun W hW => ?_).mono ?_
    · have bl : ∀ {q : Nat} {u : Value}, Capt w (fun k => F k ∧ ¬ M k) g q u → Capt W (fun k => F k ∧ ¬ M k) g q u := fun {q u} hq => ⟨hq.1, hq.2.1, (hW.cell (p := ⟨q, 0, none⟩) (lt_of_cell hq.2.2)).trans hq.2.2⟩
      have hon := (bl hr).2.2
      rw [e] at hon
      refine (gtRead1 (h.below hW) (fun k hk => Nat.lt_of_lt_of_le (hF k hk) hW.size) hon (bl hec).2.2 (bl (wk ha)) (bl (wk hb)) (bl (wk hcc)) ⟨hsz.2.2, hsz.2.1⟩ (hc.below hW) hlen).mono ?_
      intro e w' hm
      have hm2 := hm.after hW
      obtain ⟨rfl, _⟩ := hm
      exact ⟨rfl, hm2⟩
    · rintro e w' ⟨rfl, hm⟩
      exact hm
  · rw [if_neg hl]
    obtain ⟨a0, av, hblk⟩ := h.blk
    refine (stFollowYes hc (by omega) hblk.st 145 #[] #[.pointer (some ⟨er, 0, none⟩), .pointer (some ⟨ec, 0, none⟩)]).mono ?_
    rintro e w' ⟨rfl, W, A, l, cp, hW, ho, k0, k1, k2, rfl⟩
    have hgl := hblk.lt
    obtain ⟨th, hth⟩ : ∃ th : Value, th = .func (.func 139) #[] #[.pointer (some ⟨w.heap.size + 1, 0, none⟩), .pointer (some ⟨w.heap.size, 0, none⟩), .pointer (some ⟨w.heap.size + 2, 0, none⟩)] := ⟨_, rfl⟩
    obtain ⟨ac, hac⟩ : ∃ ac : Ac, ac = ⟨5, s.at_ + 8 + (d : Nat), (Cy.nx (n - d) : Nat), 0, 0, []⟩ := ⟨_, rfl⟩
    have hs := seven_touch1 W g 3 ac (.slice A l cp) th
    have hbk := gt_seven (hblk.below hW) ac (.slice A l cp) th
    have hbi := (BytesIn.of_own ho).lt
    show GtMoved F g { s with ph := .read typ sz n d ys } w (.returned (.tuple #[])) (seven W g 3 ⟨5, s.at_ + 8 + (d : Nat), (Cy.nx (n - d) : Nat), 0, 0, []⟩ (.slice A l cp) (.func (.func 139) #[] #[.pointer (some ⟨w.heap.size + 1, 0, none⟩), .pointer (some ⟨w.heap.size, 0, none⟩), .pointer (some ⟨w.heap.size + 2, 0, none⟩)]))
    rw [← hth, ← hac]
    generalize seven W g 3 ac (.slice A l cp) th = w2 at hs hbk ⊢
    have l0 := lt_of_cell k0
    have l1 := lt_of_cell k1
    have l2 := lt_of_cell k2
    have hws := hW.size
    have hs2 := hs.size
    have hne0 : w.heap.size ≠ g := by omega
    have hne1 : w.heap.size + 1 ≠ g := by omega
    have hne2 : w.heap.size + 2 ≠ g := by omega
    have hk : ∀ k, k ≠ g → k < W.heap.size → w2.heap[k]? = W.heap[k]? := fun k hg hl => hs.block k hl hg
    have hFk : ∀ k, F k → k ≠ g → w2.heap[k]? = w.heap[k]? := fun k hkF hkg => (hk k hkg (Nat.lt_of_lt_of_le (hF k hkF) hws)).trans (hW.block k (hF k hkF))
    have hMl : ∀ k, M k → k < w.heap.size := fun k hk => (h.in_ k hk).2.2
    refine ⟨rfl, fun k => F k ∨ (w.heap.size ≤ k ∧ k < w2.heap.size), ⟨M, _, _, _, mv, hbk, .inl h.own, h.ok.withPh _, show d < n ∧ n + 8 ≤ sz ∧ (sz : Int) ≤ s.left ∧ 1 ≤ sz from ⟨by omega, hsz⟩, ?_, h.msgs.keep (Nat.le_trans hws hs2) fun k hk => hFk k (h.in_ k hk).1 (h.in_ k hk).2.1, fun k hk => ⟨.inl (h.in_ k hk).1, (h.in_ k hk).2.1⟩, fun b hb => ?_⟩, ((Touch.of_below hW).trans hs).mono fun k e => by have e : k = g := e; rw [e]; exact h.own, fun k hk => hk⟩
    · refine ⟨w.heap.size + 1, w.heap.size, w.heap.size + 2, er, ec, gc, base, top, v, on, hth, ⟨⟨.inr ⟨by omega, by omega⟩, fun hm => by have := hMl _ hm; omega⟩, hne1, (World.cell?_of_block (w := W) (a := ⟨w.heap.size + 1, 0, none⟩) (hk _ hne1 l1)).trans k1⟩, ⟨⟨.inr ⟨by omega, by omega⟩, fun hm => by have := hMl _ hm; omega⟩, hne0, (World.cell?_of_block (w := W) (a := ⟨w.heap.size, 0, none⟩) (hk _ hne0 l0)).trans k0⟩, ⟨⟨.inr ⟨by omega, by omega⟩, fun hm => by have := hMl _ hm; omega⟩, hne2, (World.cell?_of_block (w := W) (a := ⟨w.heap.size + 2, 0, none⟩) (hk _ hne2 l2)).trans k2⟩, (hr.keep fun k hk hkg => hFk k hk.1 hkg).mono fun k hk => ⟨.inl hk.1, hk.2⟩, (hec.keep fun k hk hkg => hFk k hk.1 hkg).mono fun k hk => ⟨.inl hk.1, hk.2⟩, ht.keep (fun k hk hkg => hFk k hk.1.1 hkg) fun k hk => ⟨⟨.inl hk.1.1, hk.1.2⟩, hk.2⟩, ?_, fun k hk2 => ?_⟩
      · show Cp w2 base top gc (.rd (s.at_ + 8)) d (n - d) v ys
        refine hc.keep (Nat.le_trans hws hs2) (fun k h1 h2 => ?_) fun k h1 => ?_
        · have := hsep k (.inl ⟨h1, h2⟩)
          exact hFk k this.1.1 this.2.1
        · have := hsep k (.inr h1)
          exact hFk k this.1.1 this.2.1
      · have h5 := hsep k hk2
        have h6 := hF k h5.1.1
        exact ⟨⟨.inl h5.1.1, h5.1.2⟩, h5.2.1, by omega, by omega, by omega, h5.2.2.1, h5.2.2.2.1, h5.2.2.2.2⟩
    · have hb' : some (⟨5, s.at_ + 8 + (d : Nat), (Cy.nx (n - d) : Nat), 0, 0, []⟩ : Ac) = some b := hb
      injection hb' with hb'
      refine ⟨hac.trans hb', ?_⟩
      subst hb'
      exact (hbi.keep hs2 fun k h1 hl => hk k (by have := h1.1; omega) hl).mono fun k h1 _ => ⟨.inr ⟨by have := h1.1; omega, Nat.lt_of_lt_of_le h1.2 hs2⟩, fun hm => by have := hMl _ hm; have := h1.1; omega, by have := h1.1; omega⟩
end Go.Proofs.YtikcnioooihncaaGreat
namespace Go.Proofs.YtikcnioooihncaaGreat
open Go.RowKit

set_option maxHeartbeats 800000 in
/-- A part of the bytes was read: the next one, or the message is kept. -/
theorem gtReads1 {w : World} {F M : Nat → Prop} {g : Nat} {s : Gs} {mv : Value} (h : GtBare w F g s M mv) (hF : ∀ k, F k → k < w.heap.size) {typ : Int} {sz n d em es eo er ec gc base top : Nat} {v on : Value} {ys : List Int}
    (hm : Capt w (fun k => F k ∧ ¬ M k) g em (.iface 179 (.pointer (some ⟨gc, 0, none⟩)))) (hs : Capt w (fun k => F k ∧ ¬ M k) g es (.pointer (some ⟨g, 3, none⟩))) (ho : Capt w (fun k => F k ∧ ¬ M k) g eo (.func (.func 145) #[] #[.pointer (some ⟨er, 0, none⟩), .pointer (some ⟨ec, 0, none⟩)]))
    (hr : Capt w (fun k => F k ∧ ¬ M k) g er on) (hec : Capt w (fun k => F k ∧ ¬ M k) g ec (.pointer (some ⟨gc, 0, none⟩))) (ht : GTell w (fun k => (F k ∧ ¬ M k) ∧ ¬ ((base ≤ k ∧ k < top) ∨ v.ownBlock = some k)) g typ sz on)
    (hc : Cp w base top gc (.rd (s.at_ + 8)) d (n - d) v ys) (hd : d < n) (hsz : n + 8 ≤ sz ∧ (sz : Int) ≤ s.left ∧ 1 ≤ sz) (hsep : ∀ k, (base ≤ k ∧ k < top) ∨ v.ownBlock = some k → (F k ∧ ¬ M k) ∧ k ≠ g ∧ k ≠ em ∧ k ≠ es ∧ k ≠ eo ∧ k ≠ er ∧ k ≠ ec ∧ mv.ownBlock ≠ some k)
    (V : Nat) (D : Bool) (A : Option Addr) (L cp : Nat) {zs : List Int} (hz : BytesAt w (.slice A L cp) zs) (hlen : ys.length + zs.length ≤ 1073741824) :
    Calls Tryz.prog 139 #[.agg #[.int .u64 V, .bool D, .slice A L cp], .pointer (some ⟨em, 0, none⟩), .pointer (some ⟨es, 0, none⟩), .pointer (some ⟨eo, 0, none⟩)] w (GtMoved F g (s.reads typ sz n (d + Cy.nx (n - d)) (ys ++ zs)) w) := by
  have hmine : ∀ k, Mine gc v k → (F k ∧ ¬ M k) ∧ k ≠ g ∧ k ≠ em ∧ k ≠ es ∧ k ≠ eo ∧ k ≠ er ∧ k ≠ ec ∧ mv.ownBlock ≠ some k := fun k hk => by
    rcases hk with hk | hk
    · exact hsep k (.inl ⟨hk ▸ hc.above, hk ▸ hc.under⟩)
    · exact hsep k (.inr hk)
  have hmc : ∀ k, Mine gc v k → (base ≤ k ∧ k < top) ∨ v.ownBlock = some k := fun k hk => by
    rcases hk with hk | hk
    · exact .inl ⟨hk ▸ hc.above, hk ▸ hc.under⟩
    · exact .inr hk
  have hnl := Cy.nx_le (n - d)
  refine (stFollow1 hc (by omega) hm.2.2 hs.2.2 ho.2.2 (fun e => (hmine _ e).2.2.1 rfl) (fun e => (hmine _ e).2.2.2.1 rfl) (fun e => (hmine _ e).2.2.2.2.1 rfl) V D A L cp hz (fun _ => hlen) (Q := fun w' => GtMoved F g (s.reads typ sz n (d + Cy.nx (n - d)) (ys ++ zs)) w (.returned (.tuple #[])) w') fun W v' hc' ht' hl' => ?_).mono ?_
  · have hTF : Touch F w W := ht'.mono fun k hk => (hmine k hk).1.1
    have hb := h.turn ht' (fun e => (hmine g e).2.1 rfl) fun k hk e => (hmine k e).1.2 hk
    have hws := ht'.size
    have cap : ∀ {q : Nat} {u : Value}, Capt w (fun k => F k ∧ ¬ M k) g q u → ¬ Mine gc v q → Capt W (fun k => (F k ∨ (w.heap.size ≤ k ∧ k < W.heap.size)) ∧ ¬ M k) g q u := fun {q u} hq hn =>
      ⟨⟨.inl hq.1.1, hq.1.2⟩, hq.2.1, (World.cell?_of_block (w := w) (a := ⟨q, 0, none⟩) (ht'.block q (hF q hq.1.1) hn)).trans hq.2.2⟩
    have hsub : n - d - Cy.nx (n - d) = n - (d + Cy.nx (n - d)) := by omega
    rw [hsub] at hc'
    have hgl := h.lt
    have hml : ∀ k, M k → k < w.heap.size := fun k hk => (h.in_ k hk).2.2
    have hvl : ∀ k, mv.ownBlock = some k → k < w.heap.size := fun k hk => (gt_row h hk).2
    have lr := hF er hr.1.1
    have lc := hF ec hec.1.1
    have key : ∀ k, (base ≤ k ∧ k < top) ∨ v'.ownBlock = some k → ((base ≤ k ∧ k < top) ∨ v.ownBlock = some k) ∨ (w.heap.size ≤ k ∧ k < W.heap.size) := fun k hk => by
      rcases hk with hk | hk
      · exact .inl (.inl hk)
      · rcases hl' k hk with e | e
        · exact .inl (.inr e)
        · exact .inr ⟨e, (hc'.own.ge hk).2⟩
    have ht2 : GTell W (fun k => ((F k ∨ (w.heap.size ≤ k ∧ k < W.heap.size)) ∧ ¬ M k) ∧ ¬ ((base ≤ k ∧ k < top) ∨ v'.ownBlock = some k)) g typ sz on := by
      obtain ⟨a, b, c, e, h1, h2, h3⟩ := ht
      have one : ∀ {q : Nat} {u : Value}, Capt w (fun k => (F k ∧ ¬ M k) ∧ ¬ ((base ≤ k ∧ k < top) ∨ v.ownBlock = some k)) g q u → Capt W (fun k => ((F k ∨ (w.heap.size ≤ k ∧ k < W.heap.size)) ∧ ¬ M k) ∧ ¬ ((base ≤ k ∧ k < top) ∨ v'.ownBlock = some k)) g q u := fun {q u} hq => by
        have hql := hF q hq.1.1.1
        refine ⟨⟨⟨.inl hq.1.1.1, hq.1.1.2⟩, fun e => ?_⟩, hq.2.1, (World.cell?_of_block (w := w) (a := ⟨q, 0, none⟩) (ht'.block q hql fun e => hq.1.2 (hmc q e))).trans hq.2.2⟩
        rcases key q e with e | e
        · exact hq.1.2 e
        · omega
      exact ⟨a, b, c, e, one h1, one h2, one h3⟩
    refine (gtReads hb (fun k hk => hk.elim (fun hk => Nat.lt_of_lt_of_le (hF k hk) hws) fun hk => hk.2) (cap hr fun e => (hmine er e).2.2.2.2.2.1 rfl) (cap hec fun e => (hmine ec e).2.2.2.2.2.2.1 rfl) ht2 (show Cp W base top gc (.rd (s.at_ + 8)) (d + Cy.nx (n - d)) (n - (d + Cy.nx (n - d))) v' (ys ++ zs) from hc') (by omega) hsz (by rw [List.length_append]; exact hlen) fun k hk => ?_).mono fun e w' hm => ?_
    · rcases key k hk with hk | h5
      · have h5 := hsep k hk
        exact ⟨⟨.inl h5.1.1, h5.1.2⟩, h5.2.1, h5.2.2.2.2.2.1, h5.2.2.2.2.2.2.1, h5.2.2.2.2.2.2.2⟩
      · exact ⟨⟨.inr h5, fun e => by have := hml k e; omega⟩, by omega, by omega, by omega, fun e => by have := hvl k e; omega⟩
    · have h6 := hm.around hTF fun k hk => hk
      obtain ⟨rfl, _⟩ := hm
      exact ⟨rfl, h6⟩
  · rintro e w' ⟨rfl, hm⟩
    exact hm
end Go.Proofs.YtikcnioooihncaaGreat
namespace Go.Proofs.YtikcnioooihncaaGreat
open Go.RowKit

set_option maxRecDepth 100000 in
set_option maxHeartbeats 1600000 in
theorem gtReadM {w : World} {F M : Nat → Prop} {g : Nat} {s : Gs} {mv : Value} (h : GtBare w F g s M mv) (hF : ∀ k, F k → k < w.heap.size) {typ : Int} {sz n a b c : Nat} (ha : Capt w (fun k => F k ∧ ¬ M k) g a (.pointer (some ⟨g, 0, none⟩))) (hb : Capt w (fun k => F k ∧ ¬ M k) g b (.int .i32 typ)) (hc : Capt w (fun k => F k ∧ ¬ M k) g c (.int .i64 sz)) (hsz : n + 8 ≤ sz ∧ (sz : Int) ≤ s.left ∧ 1 ≤ sz) :
    Calls Tryz.prog 125 #[.pointer (some ⟨g, 0, none⟩), .int .i64 n, .func (.func 126) #[] #[.pointer (some ⟨a, 0, none⟩), .pointer (some ⟨b, 0, none⟩), .pointer (some ⟨c, 0, none⟩)]] w (GtMoved F g (s.reads typ sz n 0 []) w) := by
  obtain ⟨on, hon⟩ : ∃ on : Value, on = .func (.func 126) #[] #[.pointer (some ⟨a, 0, none⟩), .pointer (some ⟨b, 0, none⟩), .pointer (some ⟨c, 0, none⟩)] := ⟨_, rfl⟩
  rw [← hon]
  obtain ⟨a0, av, hblk⟩ := h.blk
  have hgl := hblk.lt
  have HH := Lib.hid h
  have HFL := Lib.hid hF
  have HB := Lib.hid hblk
  have HON := Lib.hid hon
  have HSZ := Lib.hid hsz
  have HABC := Lib.hid (And.intro ha (And.intro hb hc))
  have hb0 := (Below.refl w.heap.size w).alloc (Nat.le_refl _) (.cells #[on] 185)
  have hbox := rp_box w on 185
  have hsz0 : (w.alloc (.cells #[on] 185)).heap.size = w.heap.size + 1 := by simp
  have HW := Lib.hid hb0
  have hz1 := h.ok.rg.z1
  have hb1' := h.ok.rg.b1
  have hpl := h.ok.rg.place_in s.h
  have hdn := h.ok.dn0
  have hat : 0 ≤ s.at_ ∧ s.at_ ≤ 200000 := by unfold Gs.at_ Rg.spot; omega
  have hn2 : n ≤ 8192 := by
    have := hsz.2.1
    unfold Gs.left at this
    omega
  obtain ⟨P, hP⟩ : ∃ P, P = s.at_ := ⟨_, rfl⟩
  rw [← hP] at hat
  have e1 : IntKind.i64.wrap (P + 8) = P + 8 := IntWalk.i64_in _ (by omega)
  have e2 : wrap64 (P + 8) = P + 8 := by unfold wrap64; omega
  have HNE := Lib.hid (show -4611686018427387904 ≤ P + 8 ∧ P + 8 ≤ 4611686018427387904 by omega)
  have HFW : Hid (Cy.few (n : Int) = n) := Lib.hid (Cy.few_nat (by omega))
  have HP := Lib.hid hP
  clear h hblk hF hon hsz ha hb hc hb0 hz1 hb1' hpl hdn hat hn2 hP
  go_enter Tryz.func125, Tryz.ntmps125
  go_wp2_with fail
  generalize w.alloc (.cells #[on] 185) = W at hbox HW hsz0 ⊢
  have hla : w.heap.size < W.heap.size := by omega
  refine (gtAt (HB.out.below HW.out) HH.out.ok).mono ?_
  rw [← HP.out]
  rintro e x1 ⟨rfl, hb1⟩
  have k1 := (hb1.cell (p := ⟨w.heap.size, 0, none⟩) hla).trans hbox
  have HX1 := Lib.hid (HW.out.trans (hb1.mono HW.out.size))
  have hs1 := hb1.size
  clear hb1 hbox
  go_wp2_with fail
  refine (out_any (P + 8) n _ HNE.out).mono ?_
  rintro e x2 ⟨gc, rfl, hc2, hb2⟩
  have hcc := Lib.hid (gt_few HFW.out hc2)
  have k2 := (hb2.cell (p := ⟨w.heap.size, 0, none⟩) (lt_of_cell k1)).trans k1
  have HX2 := Lib.hid (HX1.out.trans (hb2.mono HX1.out.size))
  have hs2 := hb2.size
  clear hc2 hb2 k1
  have hb3 := (Below.refl x2.heap.size x2).alloc (Nat.le_refl _) (.cells #[.pointer (some ⟨gc, 0, none⟩)] 179)
  have kc := rp_box x2 (.pointer (some ⟨gc, 0, none⟩)) 179
  go_upto_region 2 with (fail)
  generalize x2.alloc (.cells #[.pointer (some ⟨gc, 0, none⟩)] 179) = x3 at hb3 kc ⊢
  have k3 := (hb3.cell (p := ⟨w.heap.size, 0, none⟩) (lt_of_cell k2)).trans k2
  have HX3 := Lib.hid (HX2.out.trans (hb3.mono HX2.out.size))
  have HC3 := Lib.hid (hcc.out.below hb3)
  have hs3 := hb3.size
  have hl3 := lt_of_cell kc
  have hl3' : x2.heap.size < x3.heap.size := hl3
  have HFO : Hid (∀ X, Below x3.heap.size x3 X → Calls Tryz.prog 118 #[.pointer (some ⟨g, 3, none⟩), .iface 179 (.pointer (some ⟨gc, 0, none⟩)), .func (.func 145) #[] #[.pointer (some ⟨w.heap.size, 0, none⟩), .pointer (some ⟨x2.heap.size, 0, none⟩)]] X (GtMoved F g (s.reads typ sz n 0 []) w)) := Lib.hid fun X hX => by
    have hwX := HX3.out.trans (hX.mono HX3.out.size)
    have hsX := hX.size
    obtain ⟨ha, hb, hc⟩ := HABC.out
    have hgw := HH.out.lt
    have nM : ∀ k, w.heap.size ≤ k → ¬ M k := fun k hk hm => by have := (HH.out.in_ k hm).2.2; omega
    have one : ∀ {q : Nat} {u : Value}, Capt w (fun k => F k ∧ ¬ M k) g q u → Capt X (fun k => ((F k ∨ (w.heap.size ≤ k ∧ k < X.heap.size)) ∧ ¬ M k) ∧ ¬ ((x1.heap.size ≤ k ∧ k < x2.heap.size) ∨ (Value.slice none 0 0).ownBlock = some k)) g q u := fun {q u} hq => by
      have hql := HFL.out q hq.1.1
      refine ⟨⟨⟨.inl hq.1.1, hq.1.2⟩, fun e => ?_⟩, hq.2.1, (hwX.cell (p := ⟨q, 0, none⟩) hql).trans hq.2.2⟩
      rcases e with e | e
      · omega
      · cases e
    have hcX : Cp X x1.heap.size x2.heap.size gc (.rd (s.at_ + 8)) 0 (n - 0) (.slice none 0 0) [] := by rw [← HP.out]; exact HC3.out.below hX
    refine (gtReads (F := fun k => F k ∨ (w.heap.size ≤ k ∧ k < X.heap.size)) ((HH.out.below hwX).wide fun k hk => .inl hk) (fun k hk => hk.elim (fun hk => Nat.lt_of_lt_of_le (HFL.out k hk) hwX.size) fun hk => hk.2) (er := w.heap.size) (ec := x2.heap.size)
      ⟨⟨.inr ⟨Nat.le_refl _, by omega⟩, nM _ (Nat.le_refl _)⟩, by omega, (hX.cell (p := ⟨w.heap.size, 0, none⟩) (lt_of_cell k3)).trans k3⟩ ⟨⟨.inr ⟨by omega, by omega⟩, nM _ (by omega)⟩, by omega, (hX.cell (p := ⟨x2.heap.size, 0, none⟩) hl3).trans kc⟩ ⟨a, b, c, HON.out, one ha, one hb, one hc⟩ hcX (Nat.zero_le _) HSZ.out (by simp) fun k hk => ?_).mono fun e w' hm => hm.around (Touch.of_below hwX) fun k hk => hk
    rcases hk with hk | hk
    · exact ⟨⟨.inr ⟨by omega, by omega⟩, nM _ (by omega)⟩, by omega, by omega, by omega, fun e => by have := (gt_row HH.out e).2; omega⟩
    · cases hk
  clear hcc HC3 hb3 HON k2 hs1 hs2 hs3
  go_region_with
    (first
      | (go_at_call 118; refine (HFO.out _ (Below.refl x3.heap.size x3).drew).mono ?_; intro e w4 hm; have HM := Lib.hid hm; obtain ⟨rfl, _⟩ := hm))
  all_goals
    go_wp2
    go_end0
    exact HM.out
end Go.Proofs.YtikcnioooihncaaGreat
namespace Go.Proofs.YtikcnioooihncaaGreat
open Go.RowKit

theorem gt_box2 (w : World) (v0 v1 : Value) (T0 T1 : TypeId) (WW : World) (hWW : WW = (w.alloc (.cells #[v0] T0)).alloc (.cells #[v1] T1)) :
    Below w.heap.size w WW ∧ WW.cell? ⟨w.heap.size, 0, none⟩ = some v0 ∧ WW.cell? ⟨w.heap.size + 1, 0, none⟩ = some v1 ∧ WW.heap.size = w.heap.size + 2 := by
  have b1 := (Below.refl w.heap.size w).alloc (Nat.le_refl _) (.cells #[v0] T0)
  have x1 := rp_box w v0 T0
  have s1 : (w.alloc (.cells #[v0] T0)).heap.size = w.heap.size + 1 := by simp
  generalize w.alloc (.cells #[v0] T0) = W1 at *
  have b2 := (Below.refl W1.heap.size W1).alloc (Nat.le_refl _) (.cells #[v1] T1)
  have x2 := rp_box W1 v1 T1
  have s2 : (W1.alloc (.cells #[v1] T1)).heap.size = W1.heap.size + 1 := by simp
  have y1 := (b2.cell (p := ⟨w.heap.size, 0, none⟩) (by show w.heap.size < _; omega)).trans x1
  rw [s1] at x2
  subst hWW
  exact ⟨b1.trans (b2.mono (by omega)), y1, x2, by omega⟩

theorem gt_al {l : Int} (h0 : 1 ≤ l) (h1 : l ≤ 2147483647) : Wd.al l 8 = ((Gs.size l : Nat) : Int) := by
  have hk : Wd.alOk l 8 = true := by
    have hp : Wd.isP 8 = true := by decide
    unfold Wd.alOk
    simp [hp]
    omega
  unfold Wd.al Gs.size
  rw [if_pos hk]
  omega

set_option maxRecDepth 100000 in
set_option maxHeartbeats 800000 in
theorem gtTellNone {w : World} {F M : Nat → Prop} {g : Nat} {s : Gs} {mv : Value} (h : GtBare w F g s M mv) (hF : ∀ k, F k → k < w.heap.size) {l typ : Int} (hl : l < 1) :
    Calls Tryz.prog 92 #[.pointer (some ⟨g, 0, none⟩), .int .i32 l, .int .i32 typ] w (GtMoved F g s.drain w) := by
  have HH := Lib.hid h
  have HFL := Lib.hid hF
  obtain ⟨WW, hWW⟩ : ∃ WW, WW = (w.alloc (.cells #[.pointer (some ⟨g, 0, none⟩)] 27)).alloc (.cells #[.int .i32 typ] 21) := ⟨_, rfl⟩
  obtain ⟨hb0, x0, x1, hsz⟩ := gt_box2 w (.pointer (some ⟨g, 0, none⟩)) (.int .i32 typ) _ _ WW hWW
  have HW := Lib.hid hb0
  have hd : decide (l < 1) = true := decide_eq_true hl
  clear h hF hb0 hl
  go_enter Tryz.func92, Tryz.ntmps92
  go_upto_region 1 with (fail)
  rw [← hWW]
  clear hWW
  go_wp2_with fail
  refine (gtDrain (HH.out.below HW.out) fun k hk => Nat.lt_of_lt_of_le (HFL.out k hk) HW.out.size).mono ?_
  intro e w3 hm
  have hm2 := hm.after HW.out
  obtain ⟨rfl, _⟩ := hm
  have HM := Lib.hid hm2
  clear hm2
  go_wp2
  go_end0
  exact HM.out

theorem GtBare.fault {w : World} {F M : Nat → Prop} {g : Nat} {s : Gs} {mv : Value} (h : GtBare w F g s M mv) (er : Int) : GtBare (w.setCell ⟨g, 13, none⟩ (.int .i64 er)) F g { s with er := er } M mv := by
  obtain ⟨a, av, hk⟩ := h.blk
  have hT := (Touch.refl (fun k => k = g) w).setCell (p := ⟨g, 13, none⟩) rfl (.int .i64 er)
  exact ⟨⟨a, av, hk.set 13 _ (gt_setE s er _ _ _ _)⟩, h.own, h.ok.withEr er, h.msgs.keep hT.size fun k hk => hT.block k (h.in_ k hk).2.2 (h.in_ k hk).2.1, fun k hk => ⟨(h.in_ k hk).1, (h.in_ k hk).2.1, Nat.lt_of_lt_of_le (h.in_ k hk).2.2 hT.size⟩⟩
end Go.Proofs.YtikcnioooihncaaGreat
namespace Go.Proofs.YtikcnioooihncaaGreat
open Go.RowKit

set_option maxRecDepth 100000 in
set_option maxHeartbeats 1600000 in
theorem gtTellOdd1 {w : World} {F M : Nat → Prop} {g : Nat} {s : Gs} {mv : Value} (h : GtBare w F g s M mv) (hF : ∀ k, F k → k < w.heap.size) {l typ : Int} (hl : 1 ≤ l ∧ l ≤ 2147483647) (h8 : l < 8) :
    Calls Tryz.prog 92 #[.pointer (some ⟨g, 0, none⟩), .int .i32 l, .int .i32 typ] w (GtMoved F g ({ s with er := 13 } : Gs).drain w) := by
  have HH := Lib.hid h
  have HFL := Lib.hid hF
  obtain ⟨a0, av, hblk⟩ := h.blk
  have hgl := hblk.lt
  have HB := Lib.hid hblk
  obtain ⟨WW, hWW⟩ : ∃ WW, WW = (w.alloc (.cells #[.pointer (some ⟨g, 0, none⟩)] 27)).alloc (.cells #[.int .i32 typ] 21) := ⟨_, rfl⟩
  obtain ⟨hb0, x0, x1, hsz⟩ := gt_box2 w (.pointer (some ⟨g, 0, none⟩)) (.int .i32 typ) _ _ WW hWW
  have HW := Lib.hid hb0
  obtain ⟨S, hS⟩ : ∃ S, S = Gs.size l := ⟨_, rfl⟩
  have hal : Wd.al l 8 = (S : Int) := by rw [hS]; exact gt_al hl.1 hl.2
  have HSS := Lib.hid hS
  clear hS
  have hd : decide (l < 1) = false := decide_eq_false (by omega)
  have hc1 : IntKind.i64.wrap l = l := IntWalk.i64_in _ (by omega)
  have hd8 : decide (l < 8) = true := decide_eq_true h8
  clear h hF hb0 hblk
  go_enter Tryz.func92, Tryz.ntmps92
  go_upto_region 1 with (fail)
  rw [← hWW]
  clear hWW
  go_upto_region 5 with (go_at_call 105; refine (align_any l 8 _ (by omega) (by omega)).mono ?_; rw [hal]; rintro e wq ⟨rfl, rfl⟩)
  have hb1 := (Below.refl WW.heap.size WW).alloc (Nat.le_refl _) (.cells #[.int .i64 (S : Int)] 2)
  have x2 := rp_box WW (.int .i64 (S : Int)) 2
  have k0 := (hb1.cell (p := ⟨w.heap.size, 0, none⟩) (lt_of_cell x0)).trans x0
  have k1 := (hb1.cell (p := ⟨w.heap.size + 1, 0, none⟩) (lt_of_cell x1)).trans x1
  generalize WW.alloc (.cells #[.int .i64 (S : Int)] 2) = W at hb1 x2 k0 k1 ⊢
  have HX := Lib.hid (HW.out.trans (hb1.mono HW.out.size))
  have HBL := Lib.hid (fun n => HX.out.trans ((drewN_below W n).mono HX.out.size))
  have hgx : ∀ n, g < (W.drewN n).heap.size := fun n => Nat.lt_of_lt_of_le hgl (HBL.out n).size
  go_quiet (fail)
  have hb2 := HBL.out nq
  have c13 := (hb2.cell (p := ⟨g, 13, none⟩) hgl).trans HB.out.c13
  have f13 := (HB.out.below hb2).free 13
  have hF2 : Hid (GtBare ((W.drewN nq).setCell ⟨g, 13, none⟩ (.int .i64 13)) F g { s with er := 13 } M mv) := Lib.hid ((HH.out.below hb2).fault 13)
  have hT2 : Hid (Touch F w ((W.drewN nq).setCell ⟨g, 13, none⟩ (.int .i64 13))) := Lib.hid ((Touch.of_below hb2).trans (((Touch.refl (fun k => k = g) _).setCell (p := ⟨g, 13, none⟩) rfl _).mono fun k e => by have e : k = g := e; rw [e]; exact HH.out.own))
  have hga : ¬ g = w.heap.size := by omega
  have j0 : (W.drewN nq).cell? ⟨w.heap.size, 0, none⟩ = some (.pointer (some ⟨g, 0, none⟩)) := k0
  have j1 := (World.cell?_setCell_far (W.drewN nq) ⟨g, 13, none⟩ ⟨w.heap.size, 0, none⟩ (.int .i64 13) hga).trans j0
  go_upto_region 7 with (fail)
  generalize (W.drewN nq).setCell ⟨g, 13, none⟩ (.int .i64 13) = W2 at hF2 hT2 j1 ⊢
  go_wp2_with fail
  refine (gtDrain hF2.out fun k hk => Nat.lt_of_lt_of_le (HFL.out k hk) hT2.out.size).mono ?_
  intro e w3 hm
  have hm2 := hm.afterT hT2.out
  obtain ⟨rfl, _⟩ := hm
  have HM := Lib.hid hm2
  clear hm2
  go_wp2
  go_end0
  exact HM.out
end Go.Proofs.YtikcnioooihncaaGreat
namespace Go.Proofs.YtikcnioooihncaaGreat
open Go.RowKit

set_option maxRecDepth 100000 in
set_option maxHeartbeats 1600000 in
theorem gtTellOdd2 {w : World} {F M : Nat → Prop} {g : Nat} {s : Gs} {mv : Value} (h : GtBare w F g s M mv) (hF : ∀ k, F k → k < w.heap.size) {l typ : Int} (hl : 1 ≤ l ∧ l ≤ 2147483647) (h8 : ¬ l < 8) (hlt : s.left < (Gs.size l : Int)) :
    Calls Tryz.prog 92 #[.pointer (some ⟨g, 0, none⟩), .int .i32 l, .int .i32 typ] w (GtMoved F g ({ s with er := 13 } : Gs).drain w) := by
  have HH := Lib.hid h
  have HFL := Lib.hid hF
  obtain ⟨a0, av, hblk⟩ := h.blk
  have hgl := hblk.lt
  have HB := Lib.hid hblk
  obtain ⟨WW, hWW⟩ : ∃ WW, WW = (w.alloc (.cells #[.pointer (some ⟨g, 0, none⟩)] 27)).alloc (.cells #[.int .i32 typ] 21) := ⟨_, rfl⟩
  obtain ⟨hb0, x0, x1, hsz⟩ := gt_box2 w (.pointer (some ⟨g, 0, none⟩)) (.int .i32 typ) _ _ WW hWW
  have HW := Lib.hid hb0
  obtain ⟨S, hS⟩ : ∃ S, S = Gs.size l := ⟨_, rfl⟩
  have hal : Wd.al l 8 = (S : Int) := by rw [hS]; exact gt_al hl.1 hl.2
  have HSS := Lib.hid hS
  clear hS
  have hd : decide (l < 1) = false := decide_eq_false (by omega)
  have hc1 : IntKind.i64.wrap l = l := IntWalk.i64_in _ (by omega)
  have hd8 : decide (l < 8) = false := decide_eq_false h8
  obtain ⟨lf, hlf⟩ : ∃ lf, lf = s.left := ⟨_, rfl⟩
  have hd9 : decide (lf < (S : Int)) = true := decide_eq_true (by rw [hlf, HSS.out]; exact hlt)
  have HLF := Lib.hid hlf
  have HLT := Lib.hid hlt
  clear hlf hlt
  clear h hF hb0 hblk
  go_enter Tryz.func92, Tryz.ntmps92
  go_upto_region 1 with (fail)
  rw [← hWW]
  clear hWW
  go_upto_region 5 with (go_at_call 105; refine (align_any l 8 _ (by omega) (by omega)).mono ?_; rw [hal]; rintro e wq ⟨rfl, rfl⟩)
  have hb1 := (Below.refl WW.heap.size WW).alloc (Nat.le_refl _) (.cells #[.int .i64 (S : Int)] 2)
  have x2 := rp_box WW (.int .i64 (S : Int)) 2
  have k0 := (hb1.cell (p := ⟨w.heap.size, 0, none⟩) (lt_of_cell x0)).trans x0
  have k1 := (hb1.cell (p := ⟨w.heap.size + 1, 0, none⟩) (lt_of_cell x1)).trans x1
  generalize WW.alloc (.cells #[.int .i64 (S : Int)] 2) = W at hb1 x2 k0 k1 ⊢
  have HX := Lib.hid (HW.out.trans (hb1.mono HW.out.size))
  rw [hsz] at x2
  have hl0 := lt_of_cell k0
  have hl2 := lt_of_cell x2
  have hl1 := lt_of_cell k1
  go_region_held3 (fun w' => w'.cell? ⟨w.heap.size, 0, none⟩ = some (.pointer (some ⟨g, 0, none⟩)) ∧ w'.cell? ⟨w.heap.size + 2, 0, none⟩ = some (.int .i64 (S : Int))) (go_keep)
    (first
      | (go_at_call 88; refine (gtLeft (HB.out.below HX.out.drew) HH.out.ok).mono ?_; rw [← HLF.out]; rintro e x5 ⟨rfl, hq1⟩; have hb5 := below_drew hq1; have k05 := (hb5.cell (p := ⟨w.heap.size, 0, none⟩) hl0).trans k0; have k25 := (hb5.cell (p := ⟨w.heap.size + 2, 0, none⟩) hl2).trans x2))
  all_goals
    have k15 := (hb5.cell (p := ⟨w.heap.size + 1, 0, none⟩) hl1).trans k1
    have hb2 := HX.out.trans (hb5.mono HX.out.size)
    have HB2 := Lib.hid hb2
    have hga : ¬ g = w.heap.size := by omega
    clear k0 k1 x0 x1 x2 hb5 hb1
    have c13 := (hb2.cell (p := ⟨g, 13, none⟩) hgl).trans HB.out.c13
    have f13 := (HB.out.below hb2).free 13
    have hF2 : Hid (GtBare (x5.setCell ⟨g, 13, none⟩ (.int .i64 13)) F g { s with er := 13 } M mv) := Lib.hid ((HH.out.below hb2).fault 13)
    have hT2 : Hid (Touch F w (x5.setCell ⟨g, 13, none⟩ (.int .i64 13))) := Lib.hid ((Touch.of_below hb2).trans (((Touch.refl (fun k => k = g) _).setCell (p := ⟨g, 13, none⟩) rfl _).mono fun k e => by have e : k = g := e; rw [e]; exact HH.out.own))
    have j1 := (World.cell?_setCell_far x5 ⟨g, 13, none⟩ ⟨w.heap.size, 0, none⟩ (.int .i64 13) hga).trans k05
    clear hb2
    go_upto_region 7 with (fail)
    generalize x5.setCell ⟨g, 13, none⟩ (.int .i64 13) = W2 at hF2 hT2 j1 ⊢
    go_wp2_with fail
    refine (gtDrain hF2.out fun k hk => Nat.lt_of_lt_of_le (HFL.out k hk) hT2.out.size).mono ?_
    intro e w3 hm
    have hm2 := hm.afterT hT2.out
    obtain ⟨rfl, _⟩ := hm
    have HM := Lib.hid hm2
    clear hm2
    go_wp2
    go_end0
    exact HM.out
end Go.Proofs.YtikcnioooihncaaGreat
namespace Go.Proofs.YtikcnioooihncaaGreat
open Go.RowKit

set_option maxRecDepth 100000 in
set_option maxHeartbeats 1600000 in
theorem gtTellPad {w : World} {F M : Nat → Prop} {g : Nat} {s : Gs} {mv : Value} (h : GtBare w F g s M mv) (hF : ∀ k, F k → k < w.heap.size) {l typ : Int} (hl : 1 ≤ l ∧ l ≤ 2147483647) (h8 : ¬ l < 8) (hlt : ¬ s.left < (Gs.size l : Int)) (ht : typ = -1) :
    Calls Tryz.prog 92 #[.pointer (some ⟨g, 0, none⟩), .int .i32 l, .int .i32 typ] w (GtMoved F g (s.pass (Gs.size l)) w) := by
  have HH := Lib.hid h
  have HFL := Lib.hid hF
  obtain ⟨a0, av, hblk⟩ := h.blk
  have hgl := hblk.lt
  have HB := Lib.hid hblk
  obtain ⟨WW, hWW⟩ : ∃ WW, WW = (w.alloc (.cells #[.pointer (some ⟨g, 0, none⟩)] 27)).alloc (.cells #[.int .i32 typ] 21) := ⟨_, rfl⟩
  obtain ⟨hb0, x0, x1, hsz⟩ := gt_box2 w (.pointer (some ⟨g, 0, none⟩)) (.int .i32 typ) _ _ WW hWW
  have HW := Lib.hid hb0
  obtain ⟨S, hS⟩ : ∃ S, S = Gs.size l := ⟨_, rfl⟩
  have hal : Wd.al l 8 = (S : Int) := by rw [hS]; exact gt_al hl.1 hl.2
  have HSS := Lib.hid hS
  clear hS
  have hd : decide (l < 1) = false := decide_eq_false (by omega)
  have hc1 : IntKind.i64.wrap l = l := IntWalk.i64_in _ (by omega)
  have hd8 : decide (l < 8) = false := decide_eq_false h8
  obtain ⟨lf, hlf⟩ : ∃ lf, lf = s.left := ⟨_, rfl⟩
  have hd9 : decide (lf < (S : Int)) = false := decide_eq_false (by rw [hlf, HSS.out]; exact hlt)
  have HLF := Lib.hid hlf
  have HLT := Lib.hid hlt
  clear hlf hlt
  have hdt : (typ == -1) = true := by simpa using ht
  clear ht
  clear h hF hb0 hblk
  go_enter Tryz.func92, Tryz.ntmps92
  go_upto_region 1 with (fail)
  rw [← hWW]
  clear hWW
  go_upto_region 5 with (go_at_call 105; refine (align_any l 8 _ (by omega) (by omega)).mono ?_; rw [hal]; rintro e wq ⟨rfl, rfl⟩)
  have hb1 := (Below.refl WW.heap.size WW).alloc (Nat.le_refl _) (.cells #[.int .i64 (S : Int)] 2)
  have x2 := rp_box WW (.int .i64 (S : Int)) 2
  have k0 := (hb1.cell (p := ⟨w.heap.size, 0, none⟩) (lt_of_cell x0)).trans x0
  have k1 := (hb1.cell (p := ⟨w.heap.size + 1, 0, none⟩) (lt_of_cell x1)).trans x1
  generalize WW.alloc (.cells #[.int .i64 (S : Int)] 2) = W at hb1 x2 k0 k1 ⊢
  have HX := Lib.hid (HW.out.trans (hb1.mono HW.out.size))
  rw [hsz] at x2
  have hl0 := lt_of_cell k0
  have hl2 := lt_of_cell x2
  have hl1 := lt_of_cell k1
  go_region_held3 (fun w' => w'.cell? ⟨w.heap.size, 0, none⟩ = some (.pointer (some ⟨g, 0, none⟩)) ∧ w'.cell? ⟨w.heap.size + 2, 0, none⟩ = some (.int .i64 (S : Int))) (go_keep)
    (first
      | (go_at_call 88; refine (gtLeft (HB.out.below HX.out.drew) HH.out.ok).mono ?_; rw [← HLF.out]; rintro e x5 ⟨rfl, hq1⟩; have hb5 := below_drew hq1; have k05 := (hb5.cell (p := ⟨w.heap.size, 0, none⟩) hl0).trans k0; have k25 := (hb5.cell (p := ⟨w.heap.size + 2, 0, none⟩) hl2).trans x2))
  all_goals
    have k15 := (hb5.cell (p := ⟨w.heap.size + 1, 0, none⟩) hl1).trans k1
    have hb2 := HX.out.trans (hb5.mono HX.out.size)
    have HB2 := Lib.hid hb2
    have hga : ¬ g = w.heap.size := by omega
    clear k0 k1 x0 x1 x2 hb5 hb1
    clear hb2
    have HDN := Lib.hid (show ((s.dn + S : Nat) : Int) ≤ (s.Z : Int) - Rg.place s.Z s.h by have h1 := HLT.out; have h2 := HSS.out; unfold Gs.left at h1; omega)
    go_wp2_with fail
    refine (gtPass (sz := S) ⟨(HH.out.below HB2.out).blk, HH.out.own, ⟨HH.out.ok.rg, HDN.out, HH.out.ok.m0, HH.out.ok.h0, Nat.le_trans HH.out.ok.few (Nat.le_add_right _ _)⟩, (HH.out.below HB2.out).msgs, (HH.out.below HB2.out).in_⟩ fun k hk => Nat.lt_of_lt_of_le (HFL.out k hk) HB2.out.size).mono ?_
    intro e w3 hm
    have hm2 := hm.after HB2.out
    obtain ⟨rfl, _⟩ := hm
    have HM := Lib.hid hm2
    clear hm2
    go_wp2
    go_end0
    rw [← HSS.out]
    exact HM.out
end Go.Proofs.YtikcnioooihncaaGreat
namespace Go.Proofs.YtikcnioooihncaaGreat
open Go.RowKit

set_option maxRecDepth 100000 in
set_option maxHeartbeats 1600000 in
theorem gtTellMsg {w : World} {F M : Nat → Prop} {g : Nat} {s : Gs} {mv : Value} (h : GtBare w F g s M mv) (hF : ∀ k, F k → k < w.heap.size) {l typ : Int} (hl : 1 ≤ l ∧ l ≤ 2147483647) (h8 : ¬ l < 8) (hlt : ¬ s.left < (Gs.size l : Int)) (ht : ¬ typ = -1) :
    Calls Tryz.prog 92 #[.pointer (some ⟨g, 0, none⟩), .int .i32 l, .int .i32 typ] w (GtMoved F g (s.reads typ (Gs.size l) (l - 8).toNat 0 []) w) := by
  have HH := Lib.hid h
  have HFL := Lib.hid hF
  obtain ⟨a0, av, hblk⟩ := h.blk
  have hgl := hblk.lt
  have HB := Lib.hid hblk
  obtain ⟨WW, hWW⟩ : ∃ WW, WW = (w.alloc (.cells #[.pointer (some ⟨g, 0, none⟩)] 27)).alloc (.cells #[.int .i32 typ] 21) := ⟨_, rfl⟩
  obtain ⟨hb0, x0, x1, hsz⟩ := gt_box2 w (.pointer (some ⟨g, 0, none⟩)) (.int .i32 typ) _ _ WW hWW
  have HW := Lib.hid hb0
  obtain ⟨S, hS⟩ : ∃ S, S = Gs.size l := ⟨_, rfl⟩
  have hal : Wd.al l 8 = (S : Int) := by rw [hS]; exact gt_al hl.1 hl.2
  have HSS := Lib.hid hS
  clear hS
  have hd : decide (l < 1) = false := decide_eq_false (by omega)
  have hc1 : IntKind.i64.wrap l = l := IntWalk.i64_in _ (by omega)
  have hd8 : decide (l < 8) = false := decide_eq_false h8
  obtain ⟨lf, hlf⟩ : ∃ lf, lf = s.left := ⟨_, rfl⟩
  have hd9 : decide (lf < (S : Int)) = false := decide_eq_false (by rw [hlf, HSS.out]; exact hlt)
  have HLF := Lib.hid hlf
  have HLT := Lib.hid hlt
  clear hlf hlt
  have hdt : (typ == -1) = false := by simpa using ht
  have HL := Lib.hid (And.intro hl h8)
  clear ht
  clear h hF hb0 hblk
  go_enter Tryz.func92, Tryz.ntmps92
  go_upto_region 1 with (fail)
  rw [← hWW]
  clear hWW
  go_upto_region 5 with (go_at_call 105; refine (align_any l 8 _ (by omega) (by omega)).mono ?_; rw [hal]; rintro e wq ⟨rfl, rfl⟩)
  have hb1 := (Below.refl WW.heap.size WW).alloc (Nat.le_refl _) (.cells #[.int .i64 (S : Int)] 2)
  have x2 := rp_box WW (.int .i64 (S : Int)) 2
  have k0 := (hb1.cell (p := ⟨w.heap.size, 0, none⟩) (lt_of_cell x0)).trans x0
  have k1 := (hb1.cell (p := ⟨w.heap.size + 1, 0, none⟩) (lt_of_cell x1)).trans x1
  generalize WW.alloc (.cells #[.int .i64 (S : Int)] 2) = W at hb1 x2 k0 k1 ⊢
  have HX := Lib.hid (HW.out.trans (hb1.mono HW.out.size))
  rw [hsz] at x2
  have hl0 := lt_of_cell k0
  have hl2 := lt_of_cell x2
  have hl1 := lt_of_cell k1
  go_region_held3 (fun w' => w'.cell? ⟨w.heap.size, 0, none⟩ = some (.pointer (some ⟨g, 0, none⟩)) ∧ w'.cell? ⟨w.heap.size + 2, 0, none⟩ = some (.int .i64 (S : Int))) (go_keep)
    (first
      | (go_at_call 88; refine (gtLeft (HB.out.below HX.out.drew) HH.out.ok).mono ?_; rw [← HLF.out]; rintro e x5 ⟨rfl, hq1⟩; have hb5 := below_drew hq1; have k05 := (hb5.cell (p := ⟨w.heap.size, 0, none⟩) hl0).trans k0; have k25 := (hb5.cell (p := ⟨w.heap.size + 2, 0, none⟩) hl2).trans x2))
  all_goals
    have k15 := (hb5.cell (p := ⟨w.heap.size + 1, 0, none⟩) hl1).trans k1
    have hb2 := HX.out.trans (hb5.mono HX.out.size)
    have HB2 := Lib.hid hb2
    have hga : ¬ g = w.heap.size := by omega
    clear k0 k1 x0 x1 x2 hb5 hb1
    clear hb2
    have HN := Lib.hid (show (l - 8).toNat + 8 ≤ S ∧ (S : Int) ≤ s.left ∧ 1 ≤ S by have h1 := HLT.out; have h2 := HSS.out; have h3 := HL.out; unfold Gs.size at h1 h2; omega)
    obtain ⟨n, hn⟩ : ∃ n : Nat, (n : Int) = l - 8 := ⟨(l - 8).toNat, by omega⟩
    have hnn : (l - 8).toNat = n := by omega
    have HNN := Lib.hid hnn
    have e8 : IntKind.i64.wrap (l - 8) = (n : Int) := by rw [IntWalk.i64_in _ (by omega), hn]
    have e9 : wrap64 (l - 8) = (n : Int) := by unfold wrap64; omega
    have nM : ∀ k, w.heap.size ≤ k → ¬ M k := fun k hk hm => by have := (HH.out.in_ k hm).2.2; omega
    have g0 : w.heap.size < x5.heap.size := lt_of_cell k05
    have g1 : w.heap.size + 1 < x5.heap.size := lt_of_cell k15
    have g2 : w.heap.size + 2 < x5.heap.size := lt_of_cell k25
    have HRD := Lib.hid (gtReadM (F := fun k => F k ∨ (w.heap.size ≤ k ∧ k < x5.heap.size)) ((HH.out.below HB2.out).wide fun k hk => .inl hk) (fun k hk => hk.elim (fun hk => Nat.lt_of_lt_of_le (HFL.out k hk) HB2.out.size) fun hk => hk.2) (typ := typ) (sz := S) (n := n) (a := w.heap.size) (b := w.heap.size + 1) (c := w.heap.size + 2) ⟨⟨.inr ⟨Nat.le_refl _, g0⟩, nM _ (Nat.le_refl _)⟩, by omega, k05⟩ ⟨⟨.inr ⟨by omega, g1⟩, nM _ (by omega)⟩, by omega, k15⟩ ⟨⟨.inr ⟨by omega, g2⟩, nM _ (by omega)⟩, by omega, k25⟩ (by rw [← HNN.out]; exact HN.out))
    clear hn hnn nM g0 g1 g2
    go_wp2_with fail
    refine HRD.out.mono ?_
    intro e w3 hm
    have hm2 := hm.around (Touch.of_below HB2.out) fun k hk => hk
    obtain ⟨rfl, _⟩ := hm
    have HM := Lib.hid hm2
    clear hm2
    go_wp2
    go_end0
    rw [← HSS.out, HNN.out]
    exact HM.out
end Go.Proofs.YtikcnioooihncaaGreat
namespace Go.Proofs.YtikcnioooihncaaGreat
open Go.RowKit

theorem gtTell {w : World} {F M : Nat → Prop} {g : Nat} {s : Gs} {mv : Value} (h : GtBare w F g s M mv) (hF : ∀ k, F k → k < w.heap.size) {l typ : Int} (hl : l ≤ 2147483647) :
    Calls Tryz.prog 92 #[.pointer (some ⟨g, 0, none⟩), .int .i32 l, .int .i32 typ] w (GtMoved F g (s.tell l typ) w) := by
  unfold Gs.tell
  by_cases h1 : l < 1
  · rw [if_pos h1]; exact gtTellNone h hF h1
  · rw [if_neg h1]
    by_cases h8 : l < 8
    · rw [if_pos (.inl h8)]; exact gtTellOdd1 h hF ⟨by omega, hl⟩ h8
    · by_cases hlt : s.left < (Gs.size l : Int)
      · rw [if_pos (.inr hlt)]; exact gtTellOdd2 h hF ⟨by omega, hl⟩ h8 hlt
      · rw [if_neg (by rintro (e | e) <;> contradiction)]
        by_cases ht : typ = -1
        · rw [if_pos ht]; exact gtTellPad h hF ⟨by omega, hl⟩ h8 hlt ht
        · rw [if_neg ht]
          have hm := gtTellMsg h hF ⟨by omega, hl⟩ h8 hlt ht
          unfold Gs.reads at hm
          by_cases he : l = 8
          · rw [if_pos he]
            rw [if_pos (by omega)] at hm
            exact hm
          · rw [if_neg he]
            rw [if_neg (by omega)] at hm
            exact hm

set_option maxRecDepth 100000 in
set_option maxHeartbeats 800000 in
/-- The head was told. -/
theorem gtBegin1 {w : World} {F M : Nat → Prop} {g : Nat} {s : Gs} {mv : Value} (h : GtBare w F g s M mv) (hF : ∀ k, F k → k < w.heap.size) (hd0 : s.dn = 0) {a : Nat} (ha : Capt w (fun k => F k ∧ ¬ M k) g a (.pointer (some ⟨g, 0, none⟩))) (V : Nat) (D : Bool) (A : Option Addr) (L cp : Nat) :
    Calls Tryz.prog 57 #[.agg #[.int .u64 V, .bool D, .slice A L cp], .pointer (some ⟨a, 0, none⟩)] w (GtMoved F g ({ s with h := Rs.wr V } : Gs).looks w) := by
  obtain ⟨a0, av, hblk⟩ := h.blk
  have hgl := hblk.lt
  have hb0 := (Below.refl w.heap.size w).alloc (Nat.le_refl _) (.cells #[.int .u64 V, .bool D, .slice A L cp] 25)
  have hx := Go.Deep.blk_alloc_new w (.cells #[.int .u64 V, .bool D, .slice A L cp] 25)
  have hk := (hb0.cell (p := ⟨a, 0, none⟩) (lt_of_cell ha.2.2)).trans ha.2.2
  have HH := Lib.hid h
  have HFL := Lib.hid hF
  have HW := Lib.hid hb0
  have hga : ¬ g = a := fun e => ha.2.1 e.symm
  have c10 := (hb0.cell (p := ⟨g, 10, none⟩) hgl).trans hblk.c10
  have f10 := (hblk.below hb0).free 10
  have HB := Lib.hid (hblk.below hb0)
  have HD := Lib.hid hd0
  have hm0 : s.ms.length ≤ s.dn := h.ok.few
  have HM0 := Lib.hid hm0
  obtain ⟨H, hH⟩ : ∃ H, H = Rs.wr (V : Int) := ⟨_, rfl⟩
  have e1 : IntKind.i64.wrap (V : Int) = H := by rw [hH]; exact IntWalk.i64_left _
  have e2 : wrap64 (V : Int) = H := by rw [hH]; rfl
  have HHE := Lib.hid hH
  clear h hF hb0 ha hblk hd0 hm0 hH
  go_enter Tryz.func57, Tryz.ntmps57
  go_upto_region 1 with (fail)
  generalize w.alloc (.cells #[.int .u64 V, .bool D, .slice A L cp] 25) = W at hx hk HW c10 f10 HB ⊢
  have x0 : W.cell? ⟨w.heap.size, 0, none⟩ = some (.int .u64 V) := by simp [World.cell?, hx]
  clear hx
  have k2 := (World.cell?_setCell_far W ⟨g, 10, none⟩ ⟨a, 0, none⟩ (.int .i64 H) hga).trans hk
  have HBare : Hid (GtBare (W.setCell ⟨g, 10, none⟩ (.int .i64 H)) F g { s with h := H } M mv) := Lib.hid (by
    have hb := HH.out.below HW.out
    have hT := (Touch.refl (fun k => k = g) W).setCell (p := ⟨g, 10, none⟩) rfl (.int .i64 H)
    have hpl := HH.out.ok.rg.place_in H
    refine ⟨⟨a0, av, HB.out.set 10 _ (gt_setH s H _ _ _ _)⟩, hb.own, ⟨HH.out.ok.rg, ?_, HH.out.ok.m0, by show -9223372036854775808 ≤ H ∧ H ≤ _; rw [HHE.out]; exact Rs.wr_in _, HM0.out⟩, hb.msgs.keep hT.size fun k hk => hT.block k (hb.in_ k hk).2.2 (hb.in_ k hk).2.1, fun k hk => ⟨(hb.in_ k hk).1, (hb.in_ k hk).2.1, Nat.lt_of_lt_of_le (hb.in_ k hk).2.2 hT.size⟩⟩
    show (s.dn : Int) ≤ (s.Z : Int) - Rg.place s.Z H
    rw [HD.out]
    omega)
  have HT : Hid (Touch F w (W.setCell ⟨g, 10, none⟩ (.int .i64 H))) := Lib.hid ((Touch.of_below HW.out).trans (((Touch.refl (fun k => k = g) W).setCell (p := ⟨g, 10, none⟩) rfl _).mono fun k e => by have e : k = g := e; rw [e]; exact HH.out.own))
  go_upto_region 2 with (fail)
  generalize W.setCell ⟨g, 10, none⟩ (.int .i64 H) = W2 at k2 HBare HT ⊢
  go_wp2_with fail
  refine (gtLook HBare.out fun k hk => Nat.lt_of_lt_of_le (HFL.out k hk) HT.out.size).mono ?_
  intro e w3 hm
  have hm2 := hm.afterT HT.out
  obtain ⟨rfl, _⟩ := hm
  have HM := Lib.hid hm2
  clear hm2
  go_wp2
  go_end0
  rw [← HHE.out]
  exact HM.out
end Go.Proofs.YtikcnioooihncaaGreat
namespace Go.Proofs.YtikcnioooihncaaGreat
open Go.RowKit

set_option maxRecDepth 100000 in
set_option maxHeartbeats 800000 in
theorem gtLook1 {w : World} {F M : Nat → Prop} {g : Nat} {s : Gs} {mv : Value} (h : GtBare w F g s M mv) (hF : ∀ k, F k → k < w.heap.size) {a : Nat} (ha : Capt w (fun k => F k ∧ ¬ M k) g a (.pointer (some ⟨g, 0, none⟩))) (V : Nat) (D : Bool) (A : Option Addr) (L cp : Nat) :
    Calls Tryz.prog 91 #[.agg #[.int .u64 V, .bool D, .slice A L cp], .pointer (some ⟨a, 0, none⟩)] w (GtMoved F g (s.tell (Hd.s32 V) (Hd.s32 (V / 4294967296))) w) := by
  have hb0 := (Below.refl w.heap.size w).alloc (Nat.le_refl _) (.cells #[.int .u64 V, .bool D, .slice A L cp] 25)
  have hx := Go.Deep.blk_alloc_new w (.cells #[.int .u64 V, .bool D, .slice A L cp] 25)
  have hk := (hb0.cell (p := ⟨a, 0, none⟩) (lt_of_cell ha.2.2)).trans ha.2.2
  have HW := Lib.hid hb0
  obtain ⟨l, hl⟩ : ∃ l, l = Hd.s32 (V : Int) := ⟨_, rfl⟩
  obtain ⟨typ, hty⟩ : ∃ typ, typ = Hd.s32 ((V : Int) / 4294967296) := ⟨_, rfl⟩
  have hb := Hd.s32_bounds (V : Int)
  rw [← hl] at hb
  have HT := Lib.hid (fun (X : World) (hX : Below w.heap.size w X) => gtTell (typ := typ) (h.below hX) (fun k hk => Nat.lt_of_lt_of_le (hF k hk) hX.size) hb.2)
  have HE := Lib.hid (And.intro hl hty)
  rw [← hl, ← hty]
  clear h hF hb0 ha hl hty hb
  go_enter Tryz.func91, Tryz.ntmps91
  go_upto_region 1 with (fail)
  generalize w.alloc (.cells #[.int .u64 V, .bool D, .slice A L cp] 25) = W at hx hk HW ⊢
  have x0 : W.cell? ⟨w.heap.size, 0, none⟩ = some (.int .u64 V) := by simp [World.cell?, hx]
  clear hx
  go_region_with
    (first
      | (go_at_call 93; refine (split_any V _).mono ?_; rw [← HE.out.1, ← HE.out.2]; rintro e w2 ⟨rfl, rfl⟩)
      | (go_at_call 92; refine (HT.out _ (HW.out.drew)).mono ?_; intro e w3 hm; have hm2 := hm.after HW.out.drew; have HM := Lib.hid hm2; obtain ⟨rfl, _⟩ := hm; clear hm2))
  all_goals
    go_wp2
    go_end0
    exact HM.out
end Go.Proofs.YtikcnioooihncaaGreat
namespace Go.Proofs.YtikcnioooihncaaGreat
open Go.RowKit

/-- A byte is none of a get's cells. -/
theorem gt_noByte {w : World} {g : Nat} {s : Gs} {a : Ac} {A A2 : Option Addr} {l l2 c c2 : Nat} {k : FuncId} {rc caps : Array Value} (h : GtBlk w g s a (.slice A2 l2 c2) (.func (.func k) rc caps) (.slice A l c)) (i : Nat) (v : Int) : w.cell? ⟨g, i, none⟩ ≠ some (.int .u8 v) := by
  intro e
  have h' : w.heap[g]? = some (.cells (GtCells s a (.slice A2 l2 c2) (.func (.func k) rc caps) (.slice A l c)) 73 (0, 0)) := h
  simp only [World.cell?, h'] at e
  rcases Nat.lt_or_ge i 14 with hi | hi
  · rcases (by omega : i = 0 ∨ i = 1 ∨ i = 2 ∨ i = 3 ∨ i = 4 ∨ i = 5 ∨ i = 6 ∨ i = 7 ∨ i = 8 ∨ i = 9 ∨ i = 10 ∨ i = 11 ∨ i = 12 ∨ i = 13) with h | h | h | h | h | h | h | h | h | h | h | h | h | h <;> (subst h; simp [GtCells] at e)
  · have : (GtCells s a (.slice A2 l2 c2) (.func (.func k) rc caps) (.slice A l c))[i]? = none := by
      rw [Array.getElem?_eq_none]
      simp [GtCells]
      exact hi
    simp [this] at e

theorem gt_bytes {w w' : World} {g : Nat} {s : Gs} {a : Ac} {A A2 : Option Addr} {l l2 c c2 : Nat} {k : FuncId} {rc caps : Array Value} (h : GtBlk w g s a (.slice A2 l2 c2) (.func (.func k) rc caps) (.slice A l c)) {v : Value} {xs : List Int} (hv : BytesAt w v xs) (ht : Touch (fun k => k = g) w w') : BytesAt w' v xs := by
  obtain ⟨A', c', e, hh⟩ := hv
  refine ⟨A', c', e, fun hp => ?_⟩
  obtain ⟨b, off, e1, hb, hcs⟩ := hh hp
  have hbg : b ≠ g := fun e => by
    subst e
    exact gt_noByte h _ _ (hcs 0 hp)
  exact ⟨b, off, e1, Nat.lt_of_lt_of_le hb ht.size, fun i hi => (World.cell?_of_block (w := w) (a := ⟨b, off + i, none⟩) (ht.block b hb hbg)).trans (hcs i hi)⟩

/-- What was read, and comes now, is no more than a list of bytes may be. -/
def Gs.Fits (s : Gs) (n : Nat) : Prop := ∀ typ sz m d ys, s.ph = .read typ sz m d ys → ys.length + n ≤ 1073741824

set_option maxHeartbeats 1000000 in
theorem gtStepsTake {w : World} {F : Nat → Prop} {g : Nat} {s : Gs} (h : GetAt w F g s) (hF : ∀ k, F k → k < w.heap.size) (x : An) (A : Option Addr) (l c : Nat) (hB : BytesAt w (.slice A l c) x.bs) (hfit : s.Fits x.bs.length) :
    Calls Tryz.prog 27 #[.pointer (some ⟨g, 3, none⟩), .agg #[.int .u64 x.V, .bool x.D, .slice A l c]] w (GtMoved F g (s.take x) w) := by
  obtain ⟨M, a, av, th, mv, hblk, hFg, hok, hpk, hth, hms, hin, hnx⟩ := h
  have hgl := hblk.lt
  obtain ⟨Am, cm, hmv⟩ := hms.slice
  have hkeep : ∀ W, Below w.heap.size w W → ∀ k, F k → k ≠ g → (seven W g 3 Ac.zero (.slice none 0 0) .nilFunc).heap[k]? = w.heap[k]? := fun W hW k hk hkg =>
    ((seven_touch1 W g 3 Ac.zero (.slice none 0 0) .nilFunc).block k (Nat.lt_of_lt_of_le (hF k hk) hW.size) hkg).trans (hW.block k (hF k hk))
  have hkeepM : ∀ W, Below w.heap.size w W → ∀ k, (F k ∧ ¬ M k) → k ≠ g → (seven W g 3 Ac.zero (.slice none 0 0) .nilFunc).heap[k]? = w.heap[k]? := fun W hW k hk hkg => hkeep W hW k hk.1 hkg
  have hsz : ∀ W, Below w.heap.size w W → w.heap.size ≤ (seven W g 3 Ac.zero (.slice none 0 0) .nilFunc).heap.size := fun W hW => Nat.le_trans hW.size (seven_touch1 W g 3 Ac.zero (.slice none 0 0) .nilFunc).size
  have hFW : ∀ W, Below w.heap.size w W → ∀ k, F k → k < (seven W g 3 Ac.zero (.slice none 0 0) .nilFunc).heap.size := fun W hW k hk => Nat.lt_of_lt_of_le (hF k hk) (hsz W hW)
  have hbare : ∀ W, Below w.heap.size w W → GtBare (seven W g 3 Ac.zero (.slice none 0 0) .nilFunc) F g s M mv := fun W hW =>
    ⟨⟨_, _, gt_seven (hblk.below hW) _ _ _⟩, hFg, hok, hms.keep (hsz W hW) fun k hk => hkeep W hW k (hin k hk).1 (hin k hk).2, fun k hk => ⟨(hin k hk).1, (hin k hk).2, hFW W hW k (hin k hk).1⟩⟩
  have hTF : ∀ W, Below w.heap.size w W → Touch F w (seven W g 3 Ac.zero (.slice none 0 0) .nilFunc) := fun W hW => (Touch.of_below hW).trans ((seven_touch1 W g 3 _ _ _).mono fun k hk => by have e : k = g := hk; rw [e]; exact hFg)
  have fin : ∀ {k : FuncId} {caps : Array Value} (s' : Gs) (hthv : th = .func (.func k) #[] caps) (args : Array Value) (ha : (#[] : Array Value).push (.agg #[.int .u64 x.V, .bool x.D, .slice A l c]) ++ caps = args) (he : ∀ w, (callFunc k args).run Tryz.prog w = .ok (.enter k args) w)
      (H : ∀ W, Below w.heap.size w W → Calls Tryz.prog k args (seven W g 3 Ac.zero (.slice none 0 0) .nilFunc) (GtMoved F g s' (seven W g 3 Ac.zero (.slice none 0 0) .nilFunc))),
      Calls Tryz.prog 27 #[.pointer (some ⟨g, 3, none⟩), .agg #[.int .u64 x.V, .bool x.D, .slice A l c]] w (GtMoved F g s' w) := by
    intro k caps s' hthv args ha he H
    subst hthv
    refine (stTakeYes hblk.st x.V x.D A l c (Q := fun w' => GtMoved F g s' w (.returned (.tuple #[])) w') args ha he fun W hW => (H W hW).mono fun e w' hm => ?_).mono ?_
    · have h2 := hm.afterT (hTF W hW)
      obtain ⟨rfl, _⟩ := hm
      exact ⟨rfl, h2⟩
    · rintro e w' ⟨rfl, hm⟩
      exact hm
  have hzs : ∀ W, Below w.heap.size w W → (∃ k rc caps, th = .func (.func k) rc caps) → (∃ A2 l2 c2, av = .slice A2 l2 c2) → BytesAt (seven W g 3 Ac.zero (.slice none 0 0) .nilFunc) (.slice A l c) x.bs := by
    rintro W hW ⟨k, rc, caps, e1⟩ ⟨A2, l2, c2, e2⟩
    have hb := hblk.below hW
    rw [e1, e2, hmv] at hb
    exact gt_bytes hb (hB.below hW) (seven_touch1 W g 3 _ _ _)
  have hav : ∀ b, s.next = some b → ∃ A2 l2 c2, av = .slice A2 l2 c2 := fun b hb => by
    obtain ⟨_, A2, c2, e, _⟩ := hnx b hb
    exact ⟨A2, _, c2, e⟩
  unfold GThen at hth
  unfold Gs.PhOk at hpk
  unfold Gs.Fits at hfit
  have hnext : ∀ b, s.next = some b → s.next = some b := fun _ h => h
  unfold Gs.next at hnext
  unfold Gs.take
  cases hph : s.ph with
  | head =>
    rw [hph] at hth hpk
    obtain ⟨b, e, hb⟩ := hth
    exact fin _ e _ (by simp) (fun w => by simp [go_sem]) fun W hW => gtBegin1 (hbare W hW) (hFW W hW) hpk (hb.keep (hkeepM W hW)) x.V x.D A l c
  | look =>
    rw [hph] at hth
    obtain ⟨b, e, hb⟩ := hth
    exact fin _ e _ (by simp) (fun w => by simp [go_sem]) fun W hW => gtLook1 (hbare W hW) (hFW W hW) (hb.keep (hkeepM W hW)) x.V x.D A l c
  | read typ sz n d ys =>
    rw [hph] at hth hpk
    obtain ⟨em, es, eo, er, ec, gc, base, top, v, on, e, h1, h2, h3, h4, h5, h6, h7, h8⟩ := hth
    refine fin _ e _ (by simp; rfl) (fun w => by simp [go_sem]) fun W hW => ?_
    have hz := hzs W hW ⟨_, _, _, e⟩ (hav ⟨5, s.at_ + 8 + (d : Nat), (Cy.nx (n - d) : Nat), 0, 0, []⟩ (by unfold Gs.next; rw [hph]))
    exact gtReads1 (hbare W hW) (hFW W hW) (h1.keep (hkeepM W hW)) (h2.keep (hkeepM W hW)) (h3.keep (hkeepM W hW)) (h4.keep (hkeepM W hW)) (h5.keep (hkeepM W hW)) (h6.keep (fun k hk hkg => hkeepM W hW k hk.1 hkg) fun k hk => hk)
      (h7.keep (hsz W hW) (fun k k1 k2 => hkeepM W hW k (h8 k (.inl ⟨k1, k2⟩)).1 (h8 k (.inl ⟨k1, k2⟩)).2.1) fun k k1 => hkeepM W hW k (h8 k (.inr k1)).1 (h8 k (.inr k1)).2.1) hpk.1 ⟨hpk.2.1, hpk.2.2.1, hpk.2.2.2⟩ h8 x.V x.D A l c hz (hfit _ _ _ _ _ hph)
  | zero d =>
    rw [hph] at hth hpk
    obtain ⟨em, es, eo, a1, gc, base, top, v, e, h1, h2, h3, h4, h5, h6⟩ := hth
    refine fin _ e _ (by simp; rfl) (fun w => by simp [go_sem]) fun W hW => ?_
    have hz := hzs W hW ⟨_, _, _, e⟩ (hav ⟨6, Rg.spot s.B s.Z s.h + (d : Nat), (Cy.nx (s.dn - d) : Nat), 0, 0, Mb.bl (fun _ => 0) d (Cy.nx (s.dn - d))⟩ (by unfold Gs.next; rw [hph]))
    exact gtZeros1 (hbare W hW) (hFW W hW) (h1.keep (hkeepM W hW)) (h2.keep (hkeepM W hW)) (h3.keep (hkeepM W hW)) (h4.keep (hkeepM W hW))
      (h5.keep (hsz W hW) (fun k k1 k2 => hkeepM W hW k (h6 k (.inl ⟨k1, k2⟩)).1 (h6 k (.inl ⟨k1, k2⟩)).2.1) fun k k1 => hkeepM W hW k (h6 k (.inr k1)).1 (h6 k (.inr k1)).2.1) h6 hpk x.V x.D A l c hz
  | set =>
    rw [hph] at hth
    refine fin _ hth _ (by simp) (fun w => by simp [go_sem]) fun W hW => (gtDrain11 x.V x.D A l c _).mono ?_
    rintro e w' ⟨rfl, hb⟩
    exact gt_done (((hbare W hW).below hb).withPh .fin) (Touch.of_below hb) rfl
  | fin =>
    rw [hph] at hth
    have e : th = .nilFunc := hth
    subst e
    refine (stTakeNo hblk.c9 x.V x.D A l c).mono ?_
    rintro e w' ⟨rfl, hb⟩
    exact gt_done (s := s) (M := M) (mv := mv) ⟨⟨a, av, hblk.below hb⟩, hFg, hok, hms.keep hb.size fun k hk => hb.block k (hF k (hin k hk).1), fun k hk => ⟨(hin k hk).1, (hin k hk).2, Nat.lt_of_lt_of_le (hF k (hin k hk).1) hb.size⟩⟩ (Touch.of_below hb) hph
end Go.Proofs.YtikcnioooihncaaGreat
namespace Go.Proofs.YtikcnioooihncaaGreat
open Go.RowKit

/-- May a ring be? -/
def Rg.right (B Z : Int) : Prop := Wd.isP Z = true ∧ 64 ≤ Z ∧ Z ≤ 8192 ∧ 0 ≤ B ∧ B ≤ 131072 - Z - 32 ∧ B % 8 = 0
instance (B Z : Int) : Decidable (Rg.right B Z) := by unfold Rg.right; infer_instance

set_option maxRecDepth 100000 in
set_option maxHeartbeats 800000 in
theorem rpCheck (B Z : Int) (hB : -9223372036854775808 ≤ B ∧ B ≤ 9223372036854775807) (hZ : -9223372036854775808 ≤ Z ∧ Z ≤ 9223372036854775807) (w : World) :
    Calls Tryz.prog 23 #[.agg #[.int .i64 B, .int .i64 Z]] w (Made (.int .i64 (if Rg.right B Z then 0 else 1)) w) := by
  have hb0 := un_below w (.int .i64 B) (.int .i64 Z) 38
  have hx := Go.Deep.blk_alloc_new w (.cells #[.int .i64 B, .int .i64 Z] 38)
  obtain ⟨q, hq⟩ : ∃ q : Int, q = (if Rg.right B Z then 0 else 1) := ⟨_, rfl⟩
  rw [← hq]
  have HQ := Lib.hid hq
  clear hq
  go_enter Tryz.func23, Tryz.ntmps23
  go_upto_region 1 with (fail)
  generalize w.alloc (.cells #[.int .i64 B, .int .i64 Z] 38) = W at hb0 hx ⊢
  have x0 : W.cell? ⟨w.heap.size, 0, none⟩ = some (.int .i64 B) := by simp [World.cell?, hx]
  have x1 : W.cell? ⟨w.heap.size, 1, none⟩ = some (.int .i64 Z) := by simp [World.cell?, hx]
  clear hx
  cases hp : Wd.isP Z with
  | false =>
    have HP := Lib.hid hp
    clear hp
    go_wp2_with (go_at_call 51; refine (isPower_any Z _ (by omega) (by omega)).mono ?_; rintro e w2 ⟨rfl, rfl⟩; rw [HP.out])
    all_goals
      go_ret
      refine ⟨?_, hb0⟩
      rw [HQ.out, if_neg (fun h => by have := h.1; rw [HP.out] at this; cases this)]
      rfl
  | true =>
    have HP := Lib.hid hp
    clear hp
    go_wp2_with (go_at_call 51; refine (isPower_any Z _ (by omega) (by omega)).mono ?_; rintro e w2 ⟨rfl, rfl⟩; rw [HP.out])
    all_goals
      go_ret
      refine ⟨?_, hb0⟩
      rw [HQ.out]
      simp only [bne_eq_false_iff_eq, bne_iff_ne, ne_eq] at *
      first
        | (rw [if_pos ⟨HP.out, by omega, by omega, by omega, by omega, by omega⟩]; rfl)
        | (rw [if_neg (fun ⟨_, _, _, _, _, _⟩ => by omega)]; rfl)

theorem rp_need_aux (n : Nat) (h : n ≤ 131072) : sz (n : Int) 8 8 = 8 * (((n + 15) / 8 : Nat) : Int) := by
  unfold sz szOk Wd.al Wd.alOk
  have h1 : decide (0 ≤ (n : Int)) = true := by simp
  have h2 : decide ((n : Int) ≤ 131072) = true := by simp; omega
  have h3 : Wd.isP 8 = true := by decide
  have h4 : decide (0 ≤ (8 : Int) + n) = true := by simp; omega
  have h5 : decide ((8 : Int) + n ≤ 4611686018427387904) = true := by simp; omega
  rw [h1, h2, h3, h4, h5]
  simp only [Bool.and_self, if_true]
  omega

/-- A put was made: it stands in new memory. -/
def NewIs (m : Pm) (w : World) (e : Ending) (w' : World) : Prop :=
  ∃ g, e = .returned (.pointer (some ⟨g, 0, none⟩)) ∧ PmAt w' (fun k => w.heap.size ≤ k ∧ k < w'.heap.size) g m ∧ Below w.heap.size w w'

/-- The put that is made. -/
def Pm.new (B Z typ : Int) (f : Nat → Nat) (L : Nat) : Pm :=
  if ¬ Rg.right B Z ∨ typ < 1 then .dead 0 0 else if Z < 8 * (L : Int) then .dead Z 4 else .live ⟨B.toNat, Z.toNat, typ, f, L, 0, 0, 0, false, .ask, 0⟩

theorem new_dead (w W : World) (hb : Below w.heap.size w W) (B Z er : Int) : NewIs (.dead Z er) w (.returned (.pointer (some ⟨W.heap.size, 0, none⟩))) (W.alloc (.cells (PxCells B Z er) 99)) :=
  ⟨W.heap.size, rfl, ⟨⟨hb.size, by simp⟩, B, Go.Deep.blk_alloc_new _ _⟩, hb.alloc hb.size _⟩

set_option maxRecDepth 100000 in
set_option maxHeartbeats 800000 in
theorem rpNewBad (B Z typ : Int) (hB : -9223372036854775808 ≤ B ∧ B ≤ 9223372036854775807) (hZ : -9223372036854775808 ≤ Z ∧ Z ≤ 9223372036854775807) (hbad : ¬ Rg.right B Z) (A : Option Addr) (L c : Nat) (w : World) :
    Calls Tryz.prog 20 #[.agg #[.int .i64 B, .int .i64 Z], .int .i32 typ, .slice A L c] w (NewIs (.dead 0 0) w) := by
  have hb0 := un_below w (.int .i64 B) (.int .i64 Z) 38
  have hx := Go.Deep.blk_alloc_new w (.cells #[.int .i64 B, .int .i64 Z] 38)
  have HBZ := Lib.hid (And.intro hB hZ)
  have HN := Lib.hid hbad
  clear hB hZ hbad
  go_enter Tryz.func20, Tryz.ntmps20
  go_upto_region 1 with (fail)
  generalize w.alloc (.cells #[.int .i64 B, .int .i64 Z] 38) = W at hb0 hx ⊢
  have x0 : W.cell? ⟨w.heap.size, 0, none⟩ = some (.int .i64 B) := by simp [World.cell?, hx]
  have x1 : W.cell? ⟨w.heap.size, 1, none⟩ = some (.int .i64 Z) := by simp [World.cell?, hx]
  clear hx
  go_wp2_with (go_at_call 23; refine (rpCheck B Z HBZ.out.1 HBZ.out.2 W).mono ?_; rintro e w2 ⟨rfl, hb⟩; rw [if_neg HN.out])
  go_ret
  exact new_dead w w2 (hb0.trans (hb.mono hb0.size)) 0 0 0

set_option maxRecDepth 100000 in
set_option maxHeartbeats 800000 in
theorem rpNewTyp (B Z typ : Int) (hB : -9223372036854775808 ≤ B ∧ B ≤ 9223372036854775807) (hZ : -9223372036854775808 ≤ Z ∧ Z ≤ 9223372036854775807) (hok : Rg.right B Z) (htyp : typ < 1) (A : Option Addr) (L c : Nat) (w : World) :
    Calls Tryz.prog 20 #[.agg #[.int .i64 B, .int .i64 Z], .int .i32 typ, .slice A L c] w (NewIs (.dead 0 0) w) := by
  have hb0 := un_below w (.int .i64 B) (.int .i64 Z) 38
  have hx := Go.Deep.blk_alloc_new w (.cells #[.int .i64 B, .int .i64 Z] 38)
  have HBZ := Lib.hid (And.intro hB hZ)
  have HN := Lib.hid hok
  have hd : decide (typ < 1) = true := by simpa using htyp
  clear hB hZ hok
  go_enter Tryz.func20, Tryz.ntmps20
  go_upto_region 1 with (fail)
  generalize w.alloc (.cells #[.int .i64 B, .int .i64 Z] 38) = W at hb0 hx ⊢
  have x0 : W.cell? ⟨w.heap.size, 0, none⟩ = some (.int .i64 B) := by simp [World.cell?, hx]
  have x1 : W.cell? ⟨w.heap.size, 1, none⟩ = some (.int .i64 Z) := by simp [World.cell?, hx]
  clear hx
  go_wp2_with (go_at_call 23; refine (rpCheck B Z HBZ.out.1 HBZ.out.2 W).mono ?_; rintro e w2 ⟨rfl, hb⟩; rw [if_pos HN.out])
  go_ret
  exact new_dead w w2 (hb0.trans (hb.mono hb0.size)) 0 0 0

set_option maxRecDepth 100000 in
set_option maxHeartbeats 800000 in
theorem rpNewLong (B Z typ : Int) (hB : -9223372036854775808 ≤ B ∧ B ≤ 9223372036854775807) (hZ : -9223372036854775808 ≤ Z ∧ Z ≤ 9223372036854775807) (hok : Rg.right B Z) (htyp : ¬ typ < 1) (A : Option Addr) (L c : Nat) (hlong : Z < 8 * (L : Int)) (w : World) :
    Calls Tryz.prog 20 #[.agg #[.int .i64 B, .int .i64 Z], .int .i32 typ, .slice A L c] w (NewIs (.dead Z 4) w) := by
  have hb0 := un_below w (.int .i64 B) (.int .i64 Z) 38
  have hx := Go.Deep.blk_alloc_new w (.cells #[.int .i64 B, .int .i64 Z] 38)
  have HBZ := Lib.hid (And.intro hB hZ)
  have HN := Lib.hid hok
  have hd : decide (typ < 1) = false := by simpa using htyp
  have hz0 : 64 ≤ Z := hok.2.1
  have hz1 : Z ≤ 8192 := hok.2.2.1
  have hdl : Z / 8 < (L : Int) := by omega
  have hdd : decide (Z / 8 < (L : Int)) = true := by simpa using hdl
  clear hB hZ hok htyp hlong
  go_enter Tryz.func20, Tryz.ntmps20
  go_upto_region 1 with (fail)
  generalize w.alloc (.cells #[.int .i64 B, .int .i64 Z] 38) = W at hb0 hx ⊢
  have x0 : W.cell? ⟨w.heap.size, 0, none⟩ = some (.int .i64 B) := by simp [World.cell?, hx]
  have x1 : W.cell? ⟨w.heap.size, 1, none⟩ = some (.int .i64 Z) := by simp [World.cell?, hx]
  have hlx := (Array.getElem?_eq_some_iff.1 hx).1
  clear hx
  go_wp2_with (go_at_call 23; refine (rpCheck B Z HBZ.out.1 HBZ.out.2 W).mono ?_; rintro e w2 ⟨rfl, hb⟩; rw [if_pos HN.out]; have y0 := (hb.cell (p := ⟨w.heap.size, 0, none⟩) hlx).trans x0; have y1 := (hb.cell (p := ⟨w.heap.size, 1, none⟩) hlx).trans x1)
  go_ret
  exact new_dead w w2 (hb0.trans (hb.mono hb0.size)) B Z 4

/-- The block of a put that is made. -/
theorem rp_made {w w4 W5 : World} {B Z typ : Int} {A4 : Option Addr} {L c4 base : Nat} {f : Nat → Nat}
    (hW5 : W5 = w4.alloc (.cells #[.int .i64 B, .int .i64 Z, .int .i32 typ, .slice A4 L c4, .int .i64 (8 * (((L : Int) + 15) / 8)), .int .i64 0, .int .i64 0, .int .i64 0, .int .u64 0, .int .u64 0, .slice none 0 0, .nilFunc, .int .i64 0, .int .i64 0, .int .i64 0, .bool false, .int .i64 0] 99))
    (hb : Below w.heap.size w w4) (hbase : w.heap.size ≤ base) (hr : Rg.right B Z) (ht : 1 ≤ typ) (ht2 : typ ≤ 2147483647) (hfew : 8 * (L : Int) ≤ Z) (hf : Mb.IsB f) (ho : Owns base w4 (.slice A4 L c4) (Mb.bl f 0 L)) :
    RpBare W5 (fun k => w.heap.size ≤ k ∧ k < W5.heap.size) w4.heap.size ⟨B.toNat, Z.toNat, typ, f, L, 0, 0, 0, false, .ask, 0⟩ (.slice A4 L c4) := by
  obtain ⟨h1, h2, h3, h4, h5, h6⟩ := hr
  have hB : ((B.toNat : Nat) : Int) = B := Int.toNat_of_nonneg h4
  have hZ : ((Z.toNat : Nat) : Int) = Z := Int.toNat_of_nonneg (by omega)
  have hsz : W5.heap.size = w4.heap.size + 1 := by rw [hW5]; simp
  have hbl : Below w4.heap.size w4 W5 := by rw [hW5]; exact (Below.refl _ _).alloc (Nat.le_refl _) _
  have ho5 := (BytesIn.of_own ho).lt.below hbl
  have hc : L ≤ c4 ∧ c4 ≤ 9223372036854775807 := by
    obtain ⟨_, e | ⟨g, cap, cur, e, _, _, e2, e3, _⟩⟩ := ho
    · obtain ⟨e1, e2⟩ := e
      injection e1 with _ e3 e4
      omega
    · injection e with _ e4 e5
      unfold maxLen at e3
      omega
  refine ⟨⟨Ac.zero, .slice none 0 0, ?_⟩, ⟨hb.size, by omega⟩, ⟨by rw [← h1, hZ], by simp only; omega, by simp only; omega, by simp only; omega, by simp only; omega, ht, ht2, by simp only; omega, hf, by simp only; omega, by simp only; omega, by simp only; omega⟩, ⟨A4, c4, rfl, hc.1, hc.2⟩, ho5.mono fun k hk _ => ⟨⟨by omega, by omega⟩, by omega⟩⟩
  unfold RpBlk
  rw [hW5, Go.Deep.blk_alloc_new]
  have hn : (8 * (((L + 15) / 8 : Nat) : Int)) = 8 * (((L : Int) + 15) / 8) := by omega
  simp only [RpCells, Rs.need, hB, hZ, hn, Ac.zero]
  rfl

set_option maxRecDepth 100000 in
set_option maxHeartbeats 800000 in
theorem rpNewOk (B Z typ : Int) (hB : -9223372036854775808 ≤ B ∧ B ≤ 9223372036854775807) (hZ : -9223372036854775808 ≤ Z ∧ Z ≤ 9223372036854775807) (hok : Rg.right B Z) (htyp : ¬ typ < 1) (htyp2 : typ ≤ 2147483647) (A : Option Addr) (L c : Nat) (hfew : ¬ Z < 8 * (L : Int)) (f : Nat → Nat) (hf : Mb.IsB f) (w : World) (hby : BytesAt w (.slice A L c) (Mb.bl f 0 L)) :
    Calls Tryz.prog 20 #[.agg #[.int .i64 B, .int .i64 Z], .int .i32 typ, .slice A L c] w (NewIs (.live ⟨B.toNat, Z.toNat, typ, f, L, 0, 0, 0, false, .ask, 0⟩) w) := by
  have hb0 := un_below w (.int .i64 B) (.int .i64 Z) 38
  have hx := Go.Deep.blk_alloc_new w (.cells #[.int .i64 B, .int .i64 Z] 38)
  have HBZ := Lib.hid (And.intro hB hZ)
  have HN := Lib.hid hok
  have HY := Lib.hid hby
  have hd : decide (typ < 1) = false := by simpa using htyp
  have hz0 : 64 ≤ Z := hok.2.1
  have hz1 : Z ≤ 8192 := hok.2.2.1
  have hdl : ¬ Z / 8 < (L : Int) := by omega
  have hdd : decide (Z / 8 < (L : Int)) = false := by simpa using hdl
  have HT := Lib.hid (And.intro htyp htyp2)
  have HFE := Lib.hid hfew
  clear hB hZ hok htyp hfew hby htyp2
  go_enter Tryz.func20, Tryz.ntmps20
  go_upto_region 1 with (fail)
  generalize w.alloc (.cells #[.int .i64 B, .int .i64 Z] 38) = W at hb0 hx ⊢
  have x0 : W.cell? ⟨w.heap.size, 0, none⟩ = some (.int .i64 B) := by simp [World.cell?, hx]
  have x1 : W.cell? ⟨w.heap.size, 1, none⟩ = some (.int .i64 Z) := by simp [World.cell?, hx]
  have hlx := (Array.getElem?_eq_some_iff.1 hx).1
  clear hx
  go_upto_region 5 with (go_at_call 23; refine (rpCheck B Z HBZ.out.1 HBZ.out.2 W).mono ?_; rintro e w2 ⟨rfl, hb⟩; rw [if_pos HN.out]; have y0 := (hb.cell (p := ⟨w.heap.size, 0, none⟩) hlx).trans x0; have y1 := (hb.cell (p := ⟨w.heap.size, 1, none⟩) hlx).trans x1)
  have hneed := rp_need_aux L (by omega)
  have HNE := Lib.hid hneed
  have HB2 := Lib.hid (hb0.trans (hb.mono hb0.size))
  have hl2 : w.heap.size < w2.heap.size := lt_of_cell y0
  clear hneed hb hdl hd hdd hz0 hz1 x0 x1 hlx hb0
  go_upto_region 6 with (go_at_call 45; refine (recordSize_any (L : Int) w2).mono ?_; rintro e w3 ⟨rfl, rfl⟩; rw [HNE.out])
  obtain ⟨wq, hwq⟩ : ∃ W, W = w2 := ⟨_, rfl⟩
  go_region_held3 (fun w' => w'.cell? ⟨w.heap.size, 0, none⟩ = some (.int .i64 B) ∧ w'.cell? ⟨w.heap.size, 1, none⟩ = some (.int .i64 Z)) (go_keep)
    (first | (go_at_call 46; refine (clone_sl A L c (Mb.bl f 0 L) w2.drew (HY.out.below HB2.out.drew) (by have := HFE.out; have := HN.out.2.2.1; omega)).mono ?_; rintro e w4 ⟨A4, c4, rfl, ho4, hb4⟩; have z0 := (hb4.cell (p := ⟨w.heap.size, 0, none⟩) (lt_of_cell y0)).trans y0; have z1 := (hb4.cell (p := ⟨w.heap.size, 1, none⟩) (lt_of_cell y0)).trans y1))
  all_goals
    have hq := HN.out
    obtain ⟨W5, hW5⟩ : ∃ W5, W5 = w4.alloc (.cells #[.int .i64 B, .int .i64 Z, .int .i32 typ, .slice A4 L c4, .int .i64 (8 * (((L : Int) + 15) / 8)), .int .i64 0, .int .i64 0, .int .i64 0, .int .u64 0, .int .u64 0, .slice none 0 0, .nilFunc, .int .i64 0, .int .i64 0, .int .i64 0, .bool false, .int .i64 0] 99) := ⟨_, rfl⟩
    have hmade := rp_made (w := w) hW5 (HB2.out.drew.trans (hb4.mono HB2.out.size)) HB2.out.size hq HT.out.1 HT.out.2 HFE.out hf ho4
    rw [← hW5]
    have HM := Lib.hid hmade
    have hbk : Below w.heap.size w W5 := by rw [hW5]; exact (HB2.out.drew.trans (hb4.mono HB2.out.size)).alloc (Nat.le_trans HB2.out.size hb4.size) _
    have HBK := Lib.hid hbk
    clear hW5 hmade hbk
    go_wp2_with (go_at_call 47; refine (rpBegin HM.out).mono ?_; intro e w6 hm; have HMM := Lib.hid hm; obtain ⟨rfl, _⟩ := hm)
    go_ret
    obtain ⟨_, F', hp, ht, hF'⟩ := HMM.out
    refine ⟨_, rfl, ?_, ht.below HBK.out HBK.out.size fun k hk => hk.1⟩
    refine PutAt.wide (F' := fun k => w.heap.size ≤ k ∧ k < w6.heap.size) hp fun k hk => ?_
    · show w.heap.size ≤ k ∧ k < w6.heap.size
      rcases hF' k hk with e | e
      · exact ⟨e.1, Nat.lt_of_lt_of_le e.2 ht.size⟩
      · exact ⟨Nat.le_trans HBK.out.size e.1, e.2⟩

/-- A put is made, of whatever ring, type and bytes. -/
theorem rpNew (B Z typ : Int) (hB : -9223372036854775808 ≤ B ∧ B ≤ 9223372036854775807) (hZ : -9223372036854775808 ≤ Z ∧ Z ≤ 9223372036854775807) (htyp : typ ≤ 2147483647) (A : Option Addr) (L c : Nat) (f : Nat → Nat) (hf : Mb.IsB f) (w : World) (hby : BytesAt w (.slice A L c) (Mb.bl f 0 L)) :
    Calls Tryz.prog 20 #[.agg #[.int .i64 B, .int .i64 Z], .int .i32 typ, .slice A L c] w (NewIs (Pm.new B Z typ f L) w) := by
  unfold Pm.new
  by_cases h1 : Rg.right B Z
  · by_cases h2 : typ < 1
    · rw [if_pos (.inr h2)]
      exact rpNewTyp B Z typ hB hZ h1 h2 A L c w
    · rw [if_neg (fun h => h.elim (fun h => h h1) h2)]
      by_cases h3 : Z < 8 * (L : Int)
      · rw [if_pos h3]
        exact rpNewLong B Z typ hB hZ h1 h2 A L c h3 w
      · rw [if_neg h3]
        exact rpNewOk B Z typ hB hZ h1 h2 htyp A L c h3 f hf w hby
  · rw [if_pos (.inl h1)]
    exact rpNewBad B Z typ hB hZ h1 A L c w
end Go.Proofs.YtikcnioooihncaaGreat
namespace Go.Proofs.YtikcnioooihncaaGreat
open Go.RowKit

/-- A get: one that goes on, or one that never began. -/
inductive Gm where
  | live (s : Gs) | dead
namespace Gm
def next : Gm → Option Ac
  | .live s => s.next
  | .dead => none
def take : Gm → An → Gm
  | .live s, x => .live (s.take x)
  | .dead, _ => .dead
def busy : Gm → Bool
  | .live s => s.next.isSome
  | .dead => false
def size : Gm → Int
  | .live s => s.Z
  | .dead => 0
def fault : Gm → Int
  | .live s => s.er
  | .dead => 0
def done : Gm → Int
  | .live s => s.dn
  | .dead => 0
def told : Gm → List (Int × List Int)
  | .live s => s.ms
  | .dead => []
def Fits : Gm → Nat → Prop
  | .live s, n => s.Fits n
  | .dead, _ => True
/-- How it ended: bytes, an error. -/
def result (m : Gm) : Int × Int := if m.size = 0 then (0, 1) else if m.busy = true then (0, 10) else if m.fault = 0 then (m.done, 0) else (0, m.fault)
/-- The one that is made. -/
def new (B Z most : Int) : Gm := if Rg.right B Z ∧ 1 ≤ most then .live ⟨B.toNat, Z.toNat, most, 0, 0, [], 0, .head⟩ else .dead
end Gm

/-- A get stands in the blocks F, its own block is g. -/
def GmAt (w : World) (F : Nat → Prop) (g : Nat) : Gm → Prop
  | .live s => GetAt w F g s
  | .dead => F g ∧ GtBlk w g ⟨0, 0, 0, 0, 0, [], 0, .fin⟩ Ac.zero (.slice none 0 0) .nilFunc (.slice none 0 0)
/-- What a call on a get leaves. -/
def GmMoved (F : Nat → Prop) (g : Nat) (m : Gm) (w : World) (e : Ending) (w' : World) : Prop :=
  e = .returned (.tuple #[]) ∧ ∃ F', GmAt w' F' g m ∧ Touch F w w' ∧ ∀ k, F' k → F k ∨ (w.heap.size ≤ k ∧ k < w'.heap.size)

theorem GThen.keep {w w' : World} {F F' : Nat → Prop} {g : Nat} {s : Gs} {th mv : Value} (h : GThen w F g s th mv) (hs : w.heap.size ≤ w'.heap.size) (hb : ∀ k, F k → k ≠ g → w'.heap[k]? = w.heap[k]?) (hF : ∀ k, F k → F' k) : GThen w' F' g s th mv := by
  unfold GThen at h ⊢
  cases hph : s.ph with
  | head => rw [hph] at h; obtain ⟨a, e, h1⟩ := h; exact ⟨a, e, (h1.keep hb).mono hF⟩
  | look => rw [hph] at h; obtain ⟨a, e, h1⟩ := h; exact ⟨a, e, (h1.keep hb).mono hF⟩
  | read typ sz n d ys =>
    rw [hph] at h
    obtain ⟨em, es, eo, er, ec, gc, base, top, v, on, e, h1, h2, h3, h4, h5, h6, h7, h8⟩ := h
    exact ⟨em, es, eo, er, ec, gc, base, top, v, on, e, (h1.keep hb).mono hF, (h2.keep hb).mono hF, (h3.keep hb).mono hF, (h4.keep hb).mono hF, (h5.keep hb).mono hF, h6.keep (fun k hk hkg => hb k hk.1 hkg) fun k hk => ⟨hF k hk.1, hk.2⟩,
      h7.keep hs (fun k k1 k2 => hb k (h8 k (.inl ⟨k1, k2⟩)).1 (h8 k (.inl ⟨k1, k2⟩)).2.1) fun k k1 => hb k (h8 k (.inr k1)).1 (h8 k (.inr k1)).2.1, fun k hk => ⟨hF k (h8 k hk).1, (h8 k hk).2⟩⟩
  | zero d =>
    rw [hph] at h
    obtain ⟨em, es, eo, a, gc, base, top, v, e, h1, h2, h3, h4, h5, h6⟩ := h
    exact ⟨em, es, eo, a, gc, base, top, v, e, (h1.keep hb).mono hF, (h2.keep hb).mono hF, (h3.keep hb).mono hF, (h4.keep hb).mono hF,
      h5.keep hs (fun k k1 k2 => hb k (h6 k (.inl ⟨k1, k2⟩)).1 (h6 k (.inl ⟨k1, k2⟩)).2.1) fun k k1 => hb k (h6 k (.inr k1)).1 (h6 k (.inr k1)).2.1, fun k hk => ⟨hF k (h6 k hk).1, (h6 k hk).2⟩⟩
  | set => rw [hph] at h; exact h
  | fin => rw [hph] at h; exact h

theorem GmAt.keep {w w' : World} {F : Nat → Prop} {g : Nat} {m : Gm} (h : GmAt w F g m) (hs : w.heap.size ≤ w'.heap.size) (hb : ∀ k, F k → w'.heap[k]? = w.heap[k]?) : GmAt w' F g m := by
  cases m with
  | live s =>
    obtain ⟨M, a, av, th, mv, h1, h2, h3, h4, h5, h6, h7, h8⟩ := h
    exact ⟨M, a, av, th, mv, h1.of_block (hb g h2), h2, h3, h4, h5.keep hs (fun k hk _ => hb k hk.1) fun _ hk => hk, h6.keep hs fun k hk => hb k (h7 k hk).1, h7, fun b hb' => ⟨(h8 b hb').1, (h8 b hb').2.keep hs fun k hk _ => hb k hk.1⟩⟩
  | dead => exact ⟨h.1, h.2.of_block (hb g h.1)⟩
theorem GmAt.own {w : World} {F : Nat → Prop} {g : Nat} {m : Gm} (h : GmAt w F g m) : F g := by
  cases m with
  | live s =>
    obtain ⟨M, a, av, th, mv, h1, h2, _⟩ := h
    exact h2
  | dead => exact h.1

/-- Something goes on where, and only where, there is a next access. -/
theorem GThen.is {w : World} {F : Nat → Prop} {g : Nat} {s : Gs} {th mv : Value} (h : GThen w F g s th mv) : (s.next = none ∧ th = .nilFunc) ∨ (s.next ≠ none ∧ ∃ k rc caps, th = .func (.func k) rc caps) := by
  unfold GThen at h
  unfold Gs.next
  cases hph : s.ph with
  | fin => rw [hph] at h; exact .inl ⟨rfl, h⟩
  | set => rw [hph] at h; exact .inr ⟨by simp, _, _, _, h⟩
  | head => rw [hph] at h; obtain ⟨_, e, _⟩ := h; exact .inr ⟨by simp, _, _, _, e⟩
  | look => rw [hph] at h; obtain ⟨_, e, _⟩ := h; exact .inr ⟨by simp, _, _, _, e⟩
  | read typ sz n d ys => rw [hph] at h; obtain ⟨_, _, _, _, _, _, _, _, _, _, e, _⟩ := h; exact .inr ⟨by simp, _, _, _, e⟩
  | zero d => rw [hph] at h; obtain ⟨_, _, _, _, _, _, _, _, e, _⟩ := h; exact .inr ⟨by simp, _, _, _, e⟩

set_option maxRecDepth 100000 in
set_option maxHeartbeats 800000 in
theorem getTakeNil (V : Nat) (D : Bool) (A : Option Addr) (l c : Nat) (w : World) :
    Calls Tryz.prog 8 #[.pointer none, .agg #[.int .u64 V, .bool D, .slice A l c]] w (Made (.tuple #[]) w) := by
  have HW := Lib.hid ((Below.refl w.heap.size w).alloc (Nat.le_refl _) (.cells #[.int .u64 V, .bool D, .slice A l c] 25))
  go_enter Tryz.func8, Tryz.ntmps8
  go_upto_region 1 with (fail)
  generalize w.alloc (.cells #[.int .u64 V, .bool D, .slice A l c] 25) = W at HW ⊢
  go_wp2
  go_end0
  exact ⟨rfl, HW.out⟩

set_option maxRecDepth 100000 in
set_option maxHeartbeats 800000 in
theorem getTake {w : World} {F : Nat → Prop} {g : Nat} {m : Gm} (h : GmAt w F g m) (hF : ∀ k, F k → k < w.heap.size) (x : An) (A : Option Addr) (l c : Nat) (hB : BytesAt w (.slice A l c) x.bs) (hfit : m.Fits x.bs.length) :
    Calls Tryz.prog 8 #[.pointer (some ⟨g, 0, none⟩), .agg #[.int .u64 x.V, .bool x.D, .slice A l c]] w (GmMoved F g (m.take x) w) := by
  have hb0 := (Below.refl w.heap.size w).alloc (Nat.le_refl _) (.cells #[.int .u64 x.V, .bool x.D, .slice A l c] 25)
  obtain ⟨x0, x1, x2⟩ := rp_ans_box w x.V x.D A l c
  have HW := Lib.hid hb0
  have HC : Hid (∀ W, Below w.heap.size w W → Calls Tryz.prog 27 #[.pointer (some ⟨g, 3, none⟩), .agg #[.int .u64 x.V, .bool x.D, .slice A l c]] W (GmMoved F g (m.take x) W)) := Lib.hid fun W hW => by
    have hk := h.keep hW.size fun k hk => hW.block k (hF k hk)
    cases m with
    | live s => exact (gtStepsTake hk (fun k hk => Nat.lt_of_lt_of_le (hF k hk) hW.size) x A l c (hB.below hW) hfit).mono fun e w' hm => hm
    | dead =>
      refine (stTakeNo hk.2.c9 x.V x.D A l c).mono ?_
      rintro e w' ⟨rfl, hb⟩
      exact ⟨rfl, F, ⟨hk.1, hk.2.below hb⟩, Touch.of_below hb, fun k hk => .inl hk⟩
  have hng : ¬ F w.heap.size := fun e => Nat.lt_irrefl _ (hF _ e)
  clear h hF hb0 hB hfit
  go_enter Tryz.func8, Tryz.ntmps8
  go_upto_region 1 with (fail)
  generalize w.alloc (.cells #[.int .u64 x.V, .bool x.D, .slice A l c] 25) = W at HW x0 x1 x2 ⊢
  go_upto_region 2 with (fail)
  go_region_held3 (fun w' => w'.cell? ⟨w.heap.size, 0, none⟩ = some (.int .u64 x.V) ∧ w'.cell? ⟨w.heap.size, 1, none⟩ = some (.bool x.D) ∧ w'.cell? ⟨w.heap.size, 2, none⟩ = some (.slice A l c)) (go_keep)
    (first | (go_at_call 27; refine (HC.out W.drew HW.out.drew).mono ?_; intro e w3 hm; have HM := Lib.hid hm; obtain ⟨rfl, F', hp, ht, hF'⟩ := hm; have y0 := (ht.cell (p := ⟨w.heap.size, 0, none⟩) (lt_of_cell x0) hng).trans x0; have y1 := (ht.cell (p := ⟨w.heap.size, 1, none⟩) (lt_of_cell x0) hng).trans x1; have y2 := (ht.cell (p := ⟨w.heap.size, 2, none⟩) (lt_of_cell x0) hng).trans x2))
  all_goals
    go_wp2
    go_end0
    exact ⟨rfl, F', hp, (Touch.of_below HW.out.drew).trans ht, fun k hk => (hF' k hk).imp id fun h => ⟨Nat.le_trans HW.out.size h.1, h.2⟩⟩

set_option maxRecDepth 100000 in
set_option maxHeartbeats 800000 in
theorem getNextNil (w : World) : Calls Tryz.prog 9 #[.pointer none] w (NextTold none w) := by
  have HA := AccNew.made w
  have HW := Lib.hid ((Below.refl w.heap.size w).alloc (Nat.le_refl _) (.cells #[.int .i64 0, .int .i64 0, .int .i64 0, .int .u64 0, .int .u64 0, .slice none 0 0] 30))
  go_enter Tryz.func9, Tryz.ntmps9
  go_upto_region 1 with (fail)
  generalize w.alloc (.cells #[.int .i64 0, .int .i64 0, .int .i64 0, .int .u64 0, .int .u64 0, .slice none 0 0] 30) = W at HA HW ⊢
  obtain ⟨a0, a1, a2, a3, a4, a5, f0, f1, f2, f3, f4, f5, hbk⟩ := HA
  go_wp2
  refine bodyPost_ret (v := .tuple #[.agg #[.int .i64 0, .int .i64 0, .int .i64 0, .int .u64 0, .int .u64 0, .slice none 0 0], .bool false]) (by simp [results, Tryz.results9, go_sem, a0, a1, a2, a3, a4, a5]) rfl ?_
  exact ⟨six_below HW.out (Nat.le_refl _) _ _ _ _ _ _, rfl⟩

set_option maxRecDepth 100000 in
theorem getResultNil (w : World) : Calls Tryz.prog 10 #[.pointer none] w (fun e w' => e = .returned (.tuple #[.int .i64 0, .int .i64 1]) ∧ w = w') := by
  go_enter Tryz.func10, Tryz.ntmps10
  go_wp2
  refine bodyPost_ret (v := .tuple #[.int .i64 0, .int .i64 1]) (by simp [results, Tryz.results10, go_sem]) rfl ?_
  exact ⟨rfl, rfl⟩
end Go.Proofs.YtikcnioooihncaaGreat
namespace Go.Proofs.YtikcnioooihncaaGreat
open Go.RowKit

theorem Gm.fine {w : World} {F : Nat → Prop} {g : Nat} {m : Gm} (h : GmAt w F g m) {a : Ac} (ha : m.next = some a) : a.Fine := by
  cases m with
  | dead => cases ha
  | live s =>
    obtain ⟨M, a0, av, th, mv, h1, h2, ok, h4, h5, _⟩ := h
    have okr := ok.rg
    have z1 := okr.z1
    have b1 := okr.b1
    have dn := ok.dn0
    have hpl := okr.place_in s.h
    have num : ∀ k : Int, 0 ≤ k → k ≤ 16 → -9223372036854775808 ≤ Rg.num s.B s.Z k ∧ Rg.num s.B s.Z k ≤ 9223372036854775807 := fun k _ _ => by unfold Rg.num; omega
    have spot : 0 ≤ Rg.spot s.B s.Z s.h ∧ Rg.spot s.B s.Z s.h ≤ 140000 := by unfold Rg.spot; omega
    have hat : 0 ≤ s.at_ ∧ s.at_ ≤ 150000 := by unfold Gs.at_; omega
    have mk : ∀ (K P N : Int) (V U : Nat), (0 ≤ K ∧ K ≤ 8) → (-9223372036854775808 ≤ P ∧ P ≤ 9223372036854775807) → (0 ≤ N ∧ N ≤ 8) → V < 18446744073709551616 → U < 18446744073709551616 → Ac.Fine ⟨K, P, N, V, U, []⟩ := fun K P N V U h1 h2 h3 h4 h5 => ⟨h4, h5, ⟨by show _ ≤ K; omega, by show K ≤ _; omega⟩, h2, ⟨by show _ ≤ N; omega, by show N ≤ _; omega⟩, Bys.nil, by show (0 : Nat) ≤ _; omega⟩
    have un : ∀ x : Int, Rs.un x < 18446744073709551616 := fun x => by unfold Rs.un; omega
    have ha' : s.next = some a := ha
    unfold Gs.next at ha'
    unfold Gs.PhOk at h4
    cases hph : s.ph with
    | fin => rw [hph] at ha'; cases ha'
    | head => rw [hph] at ha'; injection ha' with e; subst e; exact mk _ _ _ _ _ (by omega) (num _ (by omega) (by omega)) (by omega) (by omega) (by omega)
    | look => rw [hph] at ha'; injection ha' with e; subst e; exact mk _ _ _ _ _ (by omega) (by omega) (by omega) (by omega) (by omega)
    | set => rw [hph] at ha'; injection ha' with e; subst e; exact mk _ _ _ _ _ (by omega) (num _ (by omega) (by omega)) (by omega) (un _) (by omega)
    | read typ sz n d ys =>
      rw [hph] at ha' h4
      have hn := Cy.nx_le (n - d)
      obtain ⟨k1, k2, k3, k4⟩ := h4
      unfold Gs.left at k3
      injection ha' with e
      subst e
      exact mk _ _ _ _ _ (by omega) (by omega) (by omega) (by omega) (by omega)
    | zero d =>
      rw [hph] at ha' h4
      have hn := Cy.nx_le (s.dn - d)
      have hd : d < s.dn := h4
      injection ha' with e
      subst e
      refine ⟨by show (0 : Nat) < _; omega, by show (0 : Nat) < _; omega, ⟨by show _ ≤ (6 : Int); omega, by show (6 : Int) ≤ _; omega⟩, ⟨by show _ ≤ Rg.spot s.B s.Z s.h + (d : Int); omega, by show Rg.spot s.B s.Z s.h + (d : Int) ≤ _; omega⟩, ⟨by show _ ≤ ((Cy.nx (s.dn - d) : Nat) : Int); omega, by show ((Cy.nx (s.dn - d) : Nat) : Int) ≤ _; omega⟩, Bys.bl (m := fun _ => 0) Mb.zero_isB d (Cy.nx (s.dn - d)), ?_⟩
      show (Mb.bl (fun _ => 0) d (Cy.nx (s.dn - d))).length ≤ _
      rw [Mb.bl_length]
      omega

set_option maxRecDepth 100000 in
set_option maxHeartbeats 800000 in
theorem getNext {w : World} {F : Nat → Prop} {g : Nat} {m : Gm} (h : GmAt w F g m) (hF : ∀ k, F k → k < w.heap.size) :
    Calls Tryz.prog 9 #[.pointer (some ⟨g, 0, none⟩)] w (NextTold m.next w) := by
  have HA := Lib.hid (AccNew.made w)
  have HW := Lib.hid ((Below.refl w.heap.size w).alloc (Nat.le_refl _) (.cells #[.int .i64 0, .int .i64 0, .int .i64 0, .int .u64 0, .int .u64 0, .slice none 0 0] 30))
  have HC : Hid (∀ W, Below w.heap.size w W → Calls Tryz.prog 28 #[.pointer (some ⟨g, 3, none⟩)] W (NextTold m.next W)) := Lib.hid fun W hW => by
    have hk := h.keep hW.size fun k hk => hW.block k (hF k hk)
    have hfine := fun a (ha : m.next = some a) => Gm.fine hk ha
    cases m with
    | live s =>
      obtain ⟨M, a, av, th, mv, h1, h2, h3, h4, h5, _, _, h6⟩ := hk
      show Calls _ _ _ _ (NextTold s.next W)
      rcases h5.is with ⟨e1, e2⟩ | ⟨e1, k, rc, caps, e2⟩
      · rw [e1]
        have := h1.c9
        rw [e2] at this
        exact stNextNo this
      · cases hn : s.next with
        | none => exact absurd hn e1
        | some b =>
          obtain ⟨e3, hbi⟩ := h6 b hn
          subst e3
          subst e2
          obtain ⟨Av, cv, eav, hbv⟩ := hbi
          subst eav
          exact stNextYes h1.st (BytesIn.bytes ⟨Av, cv, rfl, hbv⟩) (hfine a hn).few
    | dead => exact stNextNo hk.2.c9
  generalize m.next = o at HC ⊢
  clear h hF
  go_enter Tryz.func9, Tryz.ntmps9
  go_upto_region 1 with (fail)
  generalize w.alloc (.cells #[.int .i64 0, .int .i64 0, .int .i64 0, .int .u64 0, .int .u64 0, .slice none 0 0] 30) = W at HA HW ⊢
  cases o with
  | none =>
    go_wp2_with (go_at_call 28; refine (HC.out W HW.out).mono ?_; rintro e w2 ⟨hb, rfl⟩; obtain ⟨a0, a1, a2, a3, a4, a5, f0, f1, f2, f3, f4, f5, hbk⟩ := HA.out.later hb)
    refine bodyPost_ret (v := .tuple #[.agg #[.int .i64 0, .int .i64 0, .int .i64 0, .int .u64 0, .int .u64 0, .slice none 0 0], .bool false]) (by simp [results, Tryz.results9, go_sem, a0, a1, a2, a3, a4, a5]) rfl ?_
    exact ⟨six_below (HW.out.trans (hb.mono HW.out.size)) (Nat.le_refl _) _ _ _ _ _ _, rfl⟩
  | some a =>
    go_wp2_with (go_at_call 28; refine (HC.out W HW.out).mono ?_; rintro e w2 ⟨hb, A, l, c, rfl, ho⟩; obtain ⟨a0, a1, a2, a3, a4, a5, f0, f1, f2, f3, f4, f5, hbk⟩ := HA.out.later hb; have HO := Lib.hid ho)
    refine bodyPost_ret (v := .tuple #[.agg #[.int .i64 a.K, .int .i64 a.P, .int .i64 a.N, .int .u64 a.V, .int .u64 a.U, .slice A l c], .bool true]) (by simp [results, Tryz.results9, go_sem, a0, a1, a2, a3, a4, a5]) rfl ?_
    exact ⟨six_below (HW.out.trans (hb.mono HW.out.size)) (Nat.le_refl _) _ _ _ _ _ _, A, l, c, rfl, (six_own HO.out (Array.getElem?_eq_some_iff.1 HA.out.blk).1 _ _ _ _ _ _).down HW.out.size⟩
end Go.Proofs.YtikcnioooihncaaGreat
namespace Go.Proofs.YtikcnioooihncaaGreat
open Go.RowKit

set_option maxRecDepth 100000 in
set_option maxHeartbeats 800000 in
theorem getResult {w : World} {F : Nat → Prop} {g : Nat} {m : Gm} (h : GmAt w F g m) : Calls Tryz.prog 10 #[.pointer (some ⟨g, 0, none⟩)] w (fun e w' => e = .returned (.tuple #[.int .i64 m.result.1, .int .i64 m.result.2]) ∧ ∃ j, w' = w.drewN j) := by
  have hc : w.cell? ⟨g, 1, none⟩ = some (.int .i64 m.size) ∧ w.cell? ⟨g, 11, none⟩ = some (.int .i64 m.done) ∧ w.cell? ⟨g, 13, none⟩ = some (.int .i64 m.fault) ∧
      Calls Tryz.prog 29 #[.pointer (some ⟨g, 3, none⟩)] w (fun e w' => e = .returned (.bool m.busy) ∧ w = w') := by
    cases m with
    | live s =>
      obtain ⟨M, a, av, th, mv, h1, _, _, _, h7, _⟩ := h
      refine ⟨h1.c1, h1.c11, h1.c13, ?_⟩
      rcases h7.is with ⟨e1, e2⟩ | ⟨e1, k, rc, caps, e2⟩
      · have h11 := h1.c9
        rw [e2] at h11
        have hb : (Gm.live s).busy = false := by show s.next.isSome = false; rw [e1]; rfl
        rw [hb]
        exact stBusyNo h11
      · have h11 := h1.c9
        rw [e2] at h11
        have hb : (Gm.live s).busy = true := by
          show s.next.isSome = true
          cases hn : s.next with
          | none => exact absurd hn e1
          | some b => rfl
        rw [hb]
        exact stBusyYes k rc caps h11
    | dead => exact ⟨h.2.c1, h.2.c11, h.2.c13, stBusyNo h.2.c9⟩
  obtain ⟨c1, c14, c16, hB⟩ := hc
  unfold Gm.result
  generalize m.size = Z at c1 ⊢
  generalize m.done = p at c14 ⊢
  generalize m.fault = er at c16 ⊢
  generalize m.busy = bs at hB ⊢
  have HB := Lib.hid hB
  clear h hB
  by_cases hz : Z = 0
  · subst hz
    rw [if_pos rfl]
    go_enter Tryz.func10, Tryz.ntmps10
    go_wp2
    refine bodyPost_ret (v := .tuple #[.int .i64 0, .int .i64 1]) (by simp [results, Tryz.results10, go_sem]) rfl ?_
    exact ⟨rfl, 0, rfl⟩
  · rw [if_neg hz]
    have hd : decide (Z = 0) = false := by simpa using hz
    cases bs with
    | true =>
      rw [if_pos rfl]
      go_enter Tryz.func10, Tryz.ntmps10
      go_wp2_with (go_at_call 29; refine HB.out.mono ?_; rintro e w2 ⟨rfl, rfl⟩)
      refine bodyPost_ret (v := .tuple #[.int .i64 0, .int .i64 10]) (by simp [results, Tryz.results10, go_sem]) rfl ?_
      exact ⟨rfl, 0, rfl⟩
    | false =>
      rw [if_neg (by decide)]
      by_cases he : er = 0
      · subst he
        rw [if_pos rfl]
        go_enter Tryz.func10, Tryz.ntmps10
        go_wp2_with (go_at_call 29; refine HB.out.mono ?_; rintro e w2 ⟨rfl, rfl⟩)
        refine bodyPost_ret (v := .tuple #[.int .i64 p, .int .i64 0]) (by simp [results, Tryz.results10, go_sem]) rfl ?_
        exact ⟨rfl, 0, rfl⟩
      · rw [if_neg he]
        have hd2 : decide (er = 0) = false := by simpa using he
        go_enter Tryz.func10, Tryz.ntmps10
        go_upto_region 6 with (go_at_call 29; refine HB.out.mono ?_; rintro e w2 ⟨rfl, rfl⟩)
        go_quiet (fail)
        go_wp2
        refine bodyPost_ret (v := .tuple #[.int .i64 0, .int .i64 er]) (by simp [results, Tryz.results10, go_sem]) rfl ?_
        exact ⟨rfl, _, rfl⟩
end Go.Proofs.YtikcnioooihncaaGreat
namespace Go.Proofs.YtikcnioooihncaaGreat
open Go.RowKit

theorem GmAt.wide {w : World} {F F' : Nat → Prop} {g : Nat} {m : Gm} (h : GmAt w F g m) (hF : ∀ k, F k → F' k) : GmAt w F' g m := by
  cases m with
  | live s =>
    obtain ⟨M, a, av, th, mv, h1, h2, h3, h4, h5, h6, h7, h8⟩ := h
    exact ⟨M, a, av, th, mv, h1, hF g h2, h3, h4, h5.keep (Nat.le_refl _) (fun k _ _ => rfl) fun k hk => ⟨hF k hk.1, hk.2⟩, h6, fun k hk => ⟨hF k (h7 k hk).1, (h7 k hk).2⟩, fun b hb' => ⟨(h8 b hb').1, (h8 b hb').2.mono fun k hk _ => ⟨hF k hk.1, hk.2⟩⟩⟩
  | dead => exact ⟨hF g h.1, h.2⟩

/-- The call made a get in new memory. -/
def GNewIs (m : Gm) (w : World) (e : Ending) (w' : World) : Prop :=
  ∃ g, e = .returned (.pointer (some ⟨g, 0, none⟩)) ∧ GmAt w' (fun k => w.heap.size ≤ k ∧ k < w'.heap.size) g m ∧ Below w.heap.size w w'

set_option maxRecDepth 100000 in
set_option maxHeartbeats 800000 in
theorem gtNewBad (B Z most : Int) (hB : -9223372036854775808 ≤ B ∧ B ≤ 9223372036854775807) (hZ : -9223372036854775808 ≤ Z ∧ Z ≤ 9223372036854775807) (hbad : ¬ Rg.right B Z) (w : World) :
    Calls Tryz.prog 11 #[.agg #[.int .i64 B, .int .i64 Z], .int .i64 most] w (GNewIs .dead w) := by
  have hb0 := un_below w (.int .i64 B) (.int .i64 Z) 38
  have hx := Go.Deep.blk_alloc_new w (.cells #[.int .i64 B, .int .i64 Z] 38)
  have HBZ := Lib.hid (And.intro hB hZ)
  have HN := Lib.hid hbad
  clear hB hZ hbad
  go_enter Tryz.func11, Tryz.ntmps11
  go_upto_region 1 with (fail)
  generalize w.alloc (.cells #[.int .i64 B, .int .i64 Z] 38) = W at hb0 hx ⊢
  have x0 : W.cell? ⟨w.heap.size, 0, none⟩ = some (.int .i64 B) := by simp [World.cell?, hx]
  have x1 : W.cell? ⟨w.heap.size, 1, none⟩ = some (.int .i64 Z) := by simp [World.cell?, hx]
  clear hx
  go_wp2_with (go_at_call 23; refine (rpCheck B Z HBZ.out.1 HBZ.out.2 W).mono ?_; rintro e w2 ⟨rfl, hb⟩; rw [if_neg HN.out])
  go_ret
  have hw2 := hb0.trans (hb.mono hb0.size)
  exact ⟨w2.heap.size, rfl, ⟨⟨hw2.size, by simp⟩, Go.Deep.blk_alloc_new _ _⟩, hw2.alloc hw2.size _⟩

set_option maxRecDepth 100000 in
set_option maxHeartbeats 800000 in
theorem gtNewFew (B Z most : Int) (hB : -9223372036854775808 ≤ B ∧ B ≤ 9223372036854775807) (hZ : -9223372036854775808 ≤ Z ∧ Z ≤ 9223372036854775807) (hok : Rg.right B Z) (hm : most < 1) (w : World) :
    Calls Tryz.prog 11 #[.agg #[.int .i64 B, .int .i64 Z], .int .i64 most] w (GNewIs .dead w) := by
  have hb0 := un_below w (.int .i64 B) (.int .i64 Z) 38
  have hx := Go.Deep.blk_alloc_new w (.cells #[.int .i64 B, .int .i64 Z] 38)
  have HBZ := Lib.hid (And.intro hB hZ)
  have HN := Lib.hid hok
  have hd : decide (most < 1) = true := decide_eq_true hm
  clear hB hZ hok
  go_enter Tryz.func11, Tryz.ntmps11
  go_upto_region 1 with (fail)
  generalize w.alloc (.cells #[.int .i64 B, .int .i64 Z] 38) = W at hb0 hx ⊢
  have x0 : W.cell? ⟨w.heap.size, 0, none⟩ = some (.int .i64 B) := by simp [World.cell?, hx]
  have x1 : W.cell? ⟨w.heap.size, 1, none⟩ = some (.int .i64 Z) := by simp [World.cell?, hx]
  clear hx
  go_wp2_with (go_at_call 23; refine (rpCheck B Z HBZ.out.1 HBZ.out.2 W).mono ?_; rintro e w2 ⟨rfl, hb⟩; rw [if_pos HN.out])
  go_ret
  have hw2 := hb0.trans (hb.mono hb0.size)
  exact ⟨w2.heap.size, rfl, ⟨⟨hw2.size, by simp⟩, Go.Deep.blk_alloc_new _ _⟩, hw2.alloc hw2.size _⟩

theorem gt_made {w w4 W5 : World} {B Z most : Int} (hW5 : W5 = w4.alloc (.cells #[.int .i64 B, .int .i64 Z, .int .i64 most, .int .i64 0, .int .i64 0, .int .i64 0, .int .u64 0, .int .u64 0, .slice none 0 0, .nilFunc, .int .i64 0, .int .i64 0, .slice none 0 0, .int .i64 0] 73))
    (hb : Below w.heap.size w w4) (hr : Rg.right B Z) (hm : 1 ≤ most ∧ most ≤ 9223372036854775807) : GtBare W5 (fun k => w.heap.size ≤ k ∧ k < W5.heap.size) w4.heap.size ⟨B.toNat, Z.toNat, most, 0, 0, [], 0, .head⟩ (fun _ => False) (.slice none 0 0) := by
  obtain ⟨h1, h2, h3, h4, h5, h6⟩ := hr
  have hB : ((B.toNat : Nat) : Int) = B := Int.toNat_of_nonneg h4
  have hZ : ((Z.toNat : Nat) : Int) = Z := Int.toNat_of_nonneg (by omega)
  have hsz : W5.heap.size = w4.heap.size + 1 := by rw [hW5]; simp
  have okr : Rg.Ok B.toNat Z.toNat := ⟨by rw [← h1, hZ], by omega, by omega, by omega, by omega⟩
  have hpl := okr.place_in 0
  refine ⟨⟨Ac.zero, .slice none 0 0, ?_⟩, ⟨hb.size, by omega⟩, ⟨okr, ?_, hm, by simp only; omega, by simp⟩, ⟨[], rfl, ⟨rfl, .inl ⟨rfl, rfl⟩⟩, fun k hk => (by cases hk), fun i hi => absurd hi (Nat.not_lt_zero _)⟩, fun k hk => False.elim hk⟩
  · unfold GtBlk
    rw [hW5, Go.Deep.blk_alloc_new]
    simp only [GtCells, hB, hZ, Ac.zero]
    rfl
  · show ((0 : Nat) : Int) ≤ ((Z.toNat : Nat) : Int) - Rg.place Z.toNat 0
    omega

set_option maxRecDepth 100000 in
set_option maxHeartbeats 800000 in
theorem gtNewOk (B Z most : Int) (hB : -9223372036854775808 ≤ B ∧ B ≤ 9223372036854775807) (hZ : -9223372036854775808 ≤ Z ∧ Z ≤ 9223372036854775807) (hok : Rg.right B Z) (hm : 1 ≤ most ∧ most ≤ 9223372036854775807) (w : World) :
    Calls Tryz.prog 11 #[.agg #[.int .i64 B, .int .i64 Z], .int .i64 most] w (GNewIs (.live ⟨B.toNat, Z.toNat, most, 0, 0, [], 0, .head⟩) w) := by
  have hb0 := un_below w (.int .i64 B) (.int .i64 Z) 38
  have hx := Go.Deep.blk_alloc_new w (.cells #[.int .i64 B, .int .i64 Z] 38)
  have HBZ := Lib.hid (And.intro hB hZ)
  have HN := Lib.hid hok
  have HMO := Lib.hid hm
  have hd : decide (most < 1) = false := decide_eq_false (by omega)
  clear hB hZ hok hm
  go_enter Tryz.func11, Tryz.ntmps11
  go_upto_region 1 with (fail)
  generalize w.alloc (.cells #[.int .i64 B, .int .i64 Z] 38) = W at hb0 hx ⊢
  have x0 : W.cell? ⟨w.heap.size, 0, none⟩ = some (.int .i64 B) := by simp [World.cell?, hx]
  have x1 : W.cell? ⟨w.heap.size, 1, none⟩ = some (.int .i64 Z) := by simp [World.cell?, hx]
  have hlx := (Array.getElem?_eq_some_iff.1 hx).1
  clear hx
  go_upto_region 4 with (go_at_call 23; refine (rpCheck B Z HBZ.out.1 HBZ.out.2 W).mono ?_; rintro e w2 ⟨rfl, hb⟩; rw [if_pos HN.out]; have y0 := (hb.cell (p := ⟨w.heap.size, 0, none⟩) hlx).trans x0; have y1 := (hb.cell (p := ⟨w.heap.size, 1, none⟩) hlx).trans x1)
  have hw2 := hb0.trans (hb.mono hb0.size)
  obtain ⟨W5, hW5⟩ : ∃ W5, W5 = w2.alloc (.cells #[.int .i64 B, .int .i64 Z, .int .i64 most, .int .i64 0, .int .i64 0, .int .i64 0, .int .u64 0, .int .u64 0, .slice none 0 0, .nilFunc, .int .i64 0, .int .i64 0, .slice none 0 0, .int .i64 0] 73) := ⟨_, rfl⟩
  have hmade := gt_made (w := w) hW5 hw2 HN.out HMO.out
  have hbk : Below w.heap.size w W5 := by rw [hW5]; exact hw2.alloc hw2.size _
  rw [← hW5]
  have HM := Lib.hid (gtBegin hmade rfl)
  have HBK := Lib.hid hbk
  have hgw := hw2.size
  clear hW5 hmade hbk hb0 hb y0 y1 hw2 hlx x0 x1
  go_wp2_with (go_at_call 30; refine HM.out.mono ?_; intro e w6 hm; have HMM := Lib.hid hm; obtain ⟨rfl, _⟩ := hm)
  go_ret
  obtain ⟨_, F', hp, ht, hF'⟩ := HMM.out
  refine ⟨_, rfl, ?_, ht.below HBK.out HBK.out.size fun k hk => hk.1⟩
  refine GmAt.wide (m := .live _) hp fun k hk => ?_
  rcases hF' k hk with e | e
  · exact ⟨e.1, Nat.lt_of_lt_of_le e.2 ht.size⟩
  · exact ⟨Nat.le_trans HBK.out.size e.1, e.2⟩

theorem gtNew (B Z most : Int) (hB : -9223372036854775808 ≤ B ∧ B ≤ 9223372036854775807) (hZ : -9223372036854775808 ≤ Z ∧ Z ≤ 9223372036854775807) (hm : most ≤ 9223372036854775807) (w : World) :
    Calls Tryz.prog 11 #[.agg #[.int .i64 B, .int .i64 Z], .int .i64 most] w (GNewIs (Gm.new B Z most) w) := by
  unfold Gm.new
  by_cases h1 : Rg.right B Z
  · by_cases h2 : 1 ≤ most
    · rw [if_pos ⟨h1, h2⟩]
      exact gtNewOk B Z most hB hZ h1 ⟨h2, hm⟩ w
    · rw [if_neg fun e => h2 e.2]
      exact gtNewFew B Z most hB hZ h1 (by omega) w
  · rw [if_neg fun e => h1 e.1]
    exact gtNewBad B Z most hB hZ h1 w
end Go.Proofs.YtikcnioooihncaaGreat
namespace Go.Proofs.YtikcnioooihncaaGreat
open Go.RowKit

/-- What is being read has no more than eight bytes a step. -/
def Gs.Short (s : Gs) : Prop := ∀ typ sz n d ys, s.ph = .read typ sz n d ys → ys.length ≤ 8 * d
/-- Nothing is being read, or nothing was read yet. -/
def Gh.Fresh (ph : Gh) : Prop := ∀ typ sz n d ys, ph = .read typ sz n d ys → ys = []

theorem Gs.Short.of_fresh {s : Gs} (h : s.ph.Fresh) : s.Short := fun typ sz n d ys e => by rw [h typ sz n d ys e]; exact Nat.zero_le _
theorem Gs.drain_fresh (s : Gs) : s.drain.ph.Fresh := fun typ sz n d ys e => by
  unfold Gs.drain at e
  split at e <;> cases e
theorem Gs.looks_fresh (s : Gs) : s.looks.ph.Fresh := fun typ sz n d ys e => by
  unfold Gs.looks at e
  split at e
  · exact s.drain_fresh typ sz n d ys e
  · cases e
theorem Gs.tell_fresh (s : Gs) (l typ : Int) : (s.tell l typ).ph.Fresh := fun typ' sz n d ys e => by
  unfold Gs.tell at e
  split at e
  · exact Gs.drain_fresh _ typ' sz n d ys e
  · split at e
    · exact Gs.drain_fresh _ typ' sz n d ys e
    · split at e
      · exact Gs.looks_fresh _ typ' sz n d ys e
      · split at e
        · exact Gs.looks_fresh _ typ' sz n d ys e
        · injection e with _ _ _ _ e
          exact e.symm
theorem Gs.Short.take {s : Gs} (h : s.Short) {x : An} (hx : x.bs.length ≤ 8) (hp : s.PhOk) : (s.take x).Short := by
  unfold Gs.take
  unfold Gs.PhOk at hp
  cases hph : s.ph with
  | head => exact Gs.Short.of_fresh (Gs.looks_fresh _)
  | look => exact Gs.Short.of_fresh (Gs.tell_fresh _ _ _)
  | read typ sz n d ys =>
    rw [hph] at hp
    have hd := h typ sz n d ys hph
    have hn := Cy.nx_pos (r := n - d) (by omega)
    by_cases hq : d + Cy.nx (n - d) = n
    · simp only [if_pos hq]
      exact Gs.Short.of_fresh (Gs.looks_fresh _)
    · simp only [if_neg hq]
      intro typ' sz' n' d' ys' e
      injection e with _ _ _ e1 e2
      subst e1 e2
      rw [List.length_append]
      omega
  | zero d =>
    by_cases hq : d + Cy.nx (s.dn - d) = s.dn
    · simp only [if_pos hq]
      exact fun _ _ _ _ _ e => by cases e
    · simp only [if_neg hq]
      exact fun _ _ _ _ _ e => by cases e
  | set => exact fun _ _ _ _ _ e => by cases e
  | fin => exact fun _ _ _ _ _ e => by rw [hph] at e; cases e

/-- The same of a get, live or dead. -/
def Gm.Short : Gm → Prop
  | .live s => s.Short
  | .dead => True
theorem Gm.Short.take {w : World} {F : Nat → Prop} {g : Nat} {m : Gm} (hs : m.Short) (h : GmAt w F g m) {x : An} (hx : x.bs.length ≤ 8) : (m.take x).Short := by
  cases m with
  | dead => trivial
  | live s =>
    obtain ⟨M, a, av, th, mv, h1, h2, h3, h4, _⟩ := h
    exact Gs.Short.take hs hx h4
theorem Gm.short_fits {w : World} {F : Nat → Prop} {g : Nat} {m : Gm} (h : GmAt w F g m) (hs : m.Short) {n : Nat} (hx : n ≤ 8) : m.Fits n := by
  cases m with
  | dead => trivial
  | live s =>
    obtain ⟨M, a, av, th, mv, h1, h2, h3, h4, _⟩ := h
    intro typ sz n' d ys e
    have hd := hs typ sz n' d ys e
    unfold Gs.PhOk at h4
    rw [e] at h4
    obtain ⟨k1, k2, k3, k4⟩ := h4
    have z1 := h3.rg.z1
    have hpl := h3.rg.place_in s.h
    unfold Gs.left at k3
    omega
theorem Gm.new_short (B Z most : Int) : (Gm.new B Z most).Short := by
  unfold Gm.new
  split
  · exact fun _ _ _ _ _ e => by cases e
  · trivial
end Go.Proofs.YtikcnioooihncaaGreat
