/-
  Layer 7's put takes an answer, whatever phase it is in.
  Layer 7's put from outside: what it does next, what it takes, how it ended, where its record stands; one that never began; none at all.
  Layer 7's put from outside, walked: Take, Next, Result, At.
  Layer 7's put is made.
  Layer 9's fix takes an answer, whatever phase it is in; from outside: Take, Next, Result; it is made.
  Arguments opened: an answer by value, a slice of answers.
  The tape of the plain answers (layer 5): an access told, or wanted; walked.
  The tape of the plain answers (layer 5): bytes written, walked.
  The tape of the plain answers: a number loaded, stored, compared and swapped, as it was told or as it is wanted; walked.
  The tape of the plain answers: bytes written, from wherever the tape stands; walked.
  Layer 7's put told a row of answers, plainly: where it stands behind each.
-/
import Derived.Test.YtaomkamdfbibbaaGreatP05
import Derived.Test.YtaomkamdfbibbaaGreatP03
import Derived.Deep.Slices
import Derived.Test.YtaomkamdfbibbaaGreatP02
import Derived.Test.YtaomkamdfbibbaaGreatP01
import Derived.Deep.QuietTactic
import Derived.BigQuiet
import Derived.BigRegion
namespace Go.Proofs.YtaomkamdfbibbaaGreat
open Go.RowKit

theorem seven_size (W : World) (g o : Nat) (b : Ac) (bv th : Value) : (seven W g o b bv th).heap.size = W.heap.size := by simp [seven, World.setCell]

theorem PutAt.bare {w : World} {F : Nat → Prop} {g : Nat} {s : Rs} {A : Option Addr} {L c : Nat} {a : Ac} {av th : Value} (hk : RpBlk w g s (.slice A L c) a av th) (hg : F g) (hok : s.Ok) (ht : BytesIn (fun k => F k ∧ k ≠ g) w (.slice A L c) (Mb.bl s.f 0 s.L)) (hl : L ≤ c) (hc : c ≤ 9223372036854775807) {W : World} (hW : Below w.heap.size w W) :
    RpBare (seven W g 5 Ac.zero (.slice none 0 0) .nilFunc) F g s (.slice A L c) := by
  have hL : L = s.L := by
    obtain ⟨A', c', e, _⟩ := ht
    injection e with _ e _
    rw [e, Mb.bl_length]
  subst hL
  have hT := seven_touch1 W g 5 Ac.zero (.slice none 0 0) .nilFunc
  exact ⟨⟨_, _, rp_seven (hk.below hW) _ _ _⟩, hg, hok, ⟨A, c, rfl, hl, hc⟩, (ht.below hW).keep hT.size fun k hk hlt => hT.block k hlt hk.2⟩

/-- A byte is none of a put's cells. -/
theorem rp_noByte {w : World} {g : Nat} {s : Rs} {a : Ac} {A A2 : Option Addr} {l l2 c c2 : Nat} {k : FuncId} {rc caps : Array Value} (h : RpBlk w g s (.slice A l c) a (.slice A2 l2 c2) (.func (.func k) rc caps)) (i : Nat) (v : Int) : w.cell? ⟨g, i, none⟩ ≠ some (.int .u8 v) := by
  intro e
  have h' : w.heap[g]? = some (.cells (RpCells s (.slice A l c) a (.slice A2 l2 c2) (.func (.func k) rc caps)) 80 (0, 0)) := h
  simp only [World.cell?, h'] at e
  rcases Nat.lt_or_ge i 17 with hi | hi
  · rcases (by omega : i = 0 ∨ i = 1 ∨ i = 2 ∨ i = 3 ∨ i = 4 ∨ i = 5 ∨ i = 6 ∨ i = 7 ∨ i = 8 ∨ i = 9 ∨ i = 10 ∨ i = 11 ∨ i = 12 ∨ i = 13 ∨ i = 14 ∨ i = 15 ∨ i = 16) with h | h | h | h | h | h | h | h | h | h | h | h | h | h | h | h | h <;> (subst h; simp [RpCells] at e)
  · have : (RpCells s (.slice A l c) a (.slice A2 l2 c2) (.func (.func k) rc caps))[i]? = none := by
      rw [Array.getElem?_eq_none]
      simp [RpCells]
      exact hi
    simp [this] at e

theorem rp_bytes {w w' : World} {g : Nat} {s : Rs} {a : Ac} {A A2 : Option Addr} {l l2 c c2 : Nat} {k : FuncId} {rc caps : Array Value} (h : RpBlk w g s (.slice A l c) a (.slice A2 l2 c2) (.func (.func k) rc caps)) {v : Value} {xs : List Int} (hv : BytesAt w v xs) (ht : Touch (fun k => k = g) w w') : BytesAt w' v xs := by
  obtain ⟨A', c', e, hh⟩ := hv
  refine ⟨A', c', e, fun hp => ?_⟩
  obtain ⟨b, off, e1, hb, hcs⟩ := hh hp
  have hbg : b ≠ g := fun e => by
    subst e
    exact rp_noByte h _ _ (hcs 0 hp)
  exact ⟨b, off, e1, Nat.lt_of_lt_of_le hb ht.size, fun i hi => (World.cell?_of_block (w := w) (a := ⟨b, off + i, none⟩) (ht.block b hb hbg)).trans (hcs i hi)⟩

set_option maxHeartbeats 1000000 in
theorem rpStepsTake {w : World} {F : Nat → Prop} {g : Nat} {s : Rs} (h : PutAt w F g s) (hF : ∀ k, F k → k < w.heap.size) (x : An) (hx : x.V < 18446744073709551616) (A : Option Addr) (l c : Nat) (hB : BytesAt w (.slice A l c) x.bs) :
    Calls Tryz.prog 20 #[.pointer (some ⟨g, 5, none⟩), .agg #[.int .u64 x.V, .bool x.D, .slice A l c]] w (RpMoved F g (s.take x) w) := by
  obtain ⟨Ad, Ld, cd, a, av, th, hblk, hFg, hok, htxt, hl, hc, hth, hnx⟩ := h
  have hgl := hblk.lt
  have hbare : ∀ W, Below w.heap.size w W → RpBare (seven W g 5 Ac.zero (.slice none 0 0) .nilFunc) F g s (.slice Ad Ld cd) := fun W hW => PutAt.bare hblk hFg hok htxt hl hc hW
  have hkeep : ∀ W, Below w.heap.size w W → ∀ k, F k → k ≠ g → (seven W g 5 Ac.zero (.slice none 0 0) .nilFunc).heap[k]? = w.heap[k]? := fun W hW k hk hkg =>
    ((seven_touch1 W g 5 Ac.zero (.slice none 0 0) .nilFunc).block k (Nat.lt_of_lt_of_le (hF k hk) hW.size) hkg).trans (hW.block k (hF k hk))
  have hFW : ∀ W, Below w.heap.size w W → ∀ k, F k → k < (seven W g 5 Ac.zero (.slice none 0 0) .nilFunc).heap.size := fun W hW k hk => by rw [seven_size]; exact Nat.lt_of_lt_of_le (hF k hk) hW.size
  have hTF : ∀ W, Below w.heap.size w W → Touch F w (seven W g 5 Ac.zero (.slice none 0 0) .nilFunc) := fun W hW => (Touch.of_below hW).trans ((seven_touch1 W g 5 _ _ _).mono fun k hk => by have e : k = g := hk; rw [e]; exact hFg)
  have fin : ∀ {k : FuncId} {caps : Array Value} (s' : Rs) (hthv : th = .func (.func k) #[] caps) (args : Array Value) (ha : (#[] : Array Value).push (.agg #[.int .u64 x.V, .bool x.D, .slice A l c]) ++ caps = args) (he : ∀ w, (callFunc k args).run Tryz.prog w = .ok (.enter k args) w)
      (H : ∀ W, Below w.heap.size w W → Calls Tryz.prog k args (seven W g 5 Ac.zero (.slice none 0 0) .nilFunc) (RpMoved F g s' (seven W g 5 Ac.zero (.slice none 0 0) .nilFunc))),
      Calls Tryz.prog 20 #[.pointer (some ⟨g, 5, none⟩), .agg #[.int .u64 x.V, .bool x.D, .slice A l c]] w (RpMoved F g s' w) := by
    intro k caps s' hthv args ha he H
    subst hthv
    refine (stTakeYes hblk.st x.V x.D A l c (Q := fun w' => RpMoved F g s' w (.returned (.tuple #[])) w') args ha he fun W hW => (H W hW).mono fun e w' hm => ?_).mono ?_
    · have h2 := hm.afterT (hTF W hW)
      obtain ⟨rfl, _⟩ := hm
      exact ⟨rfl, h2⟩
    · rintro e w' ⟨rfl, hm⟩
      exact hm
  unfold ThenIs at hth
  unfold Rs.take
  cases hph : s.ph with
  | ask =>
    rw [hph] at hth
    obtain ⟨b, e, hb⟩ := hth
    exact fin _ e _ (by simp) (fun w => by simp [go_sem]) fun W hW => rpBegin1 (hbare W hW) (hb.keep (hkeep W hW)).2.2 hb.2.1 x.V x.D A l c
  | tail =>
    rw [hph] at hth
    obtain ⟨b, e, hb⟩ := hth
    exact fin _ e _ (by simp) (fun w => by simp [go_sem]) fun W hW => rpTry1 (hbare W hW) (hFW W hW) (hb.keep (hkeep W hW)).2.2 hb.2.1 x.V x.D A l c
  | head1 =>
    rw [hph] at hth
    obtain ⟨b1, b2, b3, on, e, h1, h2, h3, h4⟩ := hth
    exact fin _ e _ (by simp) (fun w => by simp [go_sem]) fun W hW => rpAwait1Tail (hbare W hW) (hFW W hW) (h1.keep (hkeep W hW)) (h2.keep (hkeep W hW)) (h3.keep (hkeep W hW)) (OnIs.keep h4 (hkeep W hW) fun _ hk => hk) x.V hx x.D A l c
  | head2 gap =>
    rw [hph] at hth
    obtain ⟨b1, b2, b3, on, e, h1, h2, h3, h4⟩ := hth
    exact fin _ e _ (by simp) (fun w => by simp [go_sem]) fun W hW => rpAwait1Gap (hbare W hW) (hFW W hW) gap (h1.keep (hkeep W hW)) (h2.keep (hkeep W hW)) (h3.keep (hkeep W hW)) (OnIs.keep h4 (hkeep W hW) fun _ hk => hk) x.V hx x.D A l c
  | copy1 =>
    rw [hph] at hth
    obtain ⟨b3, on, e, h3, h4⟩ := hth
    exact fin _ e _ (by simp) (fun w => by simp [go_sem]) fun W hW => rpAwait11Tail (hbare W hW) (hFW W hW) (h3.keep (hkeep W hW)) (OnIs.keep h4 (hkeep W hW) fun _ hk => hk) x.V x.D A l c
  | copy2 gap =>
    rw [hph] at hth
    obtain ⟨b3, on, e, h3, h4⟩ := hth
    exact fin _ e _ (by simp) (fun w => by simp [go_sem]) fun W hW => rpAwait11Gap (hbare W hW) gap (h3.keep (hkeep W hW)) (OnIs.keep h4 (hkeep W hW) fun _ hk => hk) x.V x.D A l c
  | cas pad =>
    rw [hph] at hth
    obtain ⟨b1, b2, e, h1, h2⟩ := hth
    refine fin _ e _ (by simp; rfl) (fun w => by simp [go_sem]) fun W hW => ?_
    cases hD : x.D with
    | false =>
      simp only [if_true]
      exact rpClaim1No (hbare W hW) (h1.keep (hkeep W hW)) x.V A l c
    | true =>
      by_cases hp : pad = 0
      · subst hp
        simp only [if_true]
        exact rpClaim1Yes (hbare W hW) (h1.keep (hkeep W hW)) (h2.keep (hkeep W hW)) x.V A l c
      · simp only [if_neg hp]
        exact rpClaim1Pad (hbare W hW) (h1.keep (hkeep W hW)) pad hp (h2.keep (hkeep W hW)) x.V A l c
  | padd pad =>
    rw [hph] at hth
    obtain ⟨b1, e, h1⟩ := hth
    exact fin _ e _ (by simp) (fun w => by simp [go_sem]) fun W hW => rpClaim11 (hbare W hW) (h1.keep (hkeep W hW)) x.V x.D A l c
  | hdr =>
    rw [hph] at hth
    obtain ⟨b1, b2, b3, e, h1⟩ := hth
    refine fin _ e _ (by simp) (fun w => by simp [go_sem]) fun W hW => (rpWrite1 (hbare W hW) (hFW W hW) (h1.keep (hkeep W hW) fun _ hk => hk) x.V x.D A l c).mono fun e w' hm => ?_
    by_cases hz : s.L = 0
    · have := hm.1
      rw [if_pos hz.symm] at this
      simp only [if_pos hz]
      exact this
    · have := hm.1
      rw [if_neg (fun e => hz e.symm)] at this
      simp only [if_neg hz]
      exact this
  | byt d =>
    rw [hph] at hth
    obtain ⟨em, es, eo, b1, b2, b3, gc, base, top, v, e, h1, h2, h3, h4, h5, h6, h7⟩ := hth
    refine fin _ e _ (by simp; rfl) (fun w => by simp [go_sem]) fun W hW => ?_
    have hT := hTF W hW
    obtain ⟨rfl, hav⟩ := hnx ⟨6, s.spot s.p + 8 + (d : Nat), (Cy.nx (s.L - d) : Nat), 0, 0, Mb.bl s.f d (Cy.nx (s.L - d))⟩ (by unfold Rs.next; rw [hph])
    obtain ⟨Av, cv, hav, _⟩ := hav
    subst hav
    have hblkW := hblk.below hW
    rw [e] at hblkW
    exact rpFollow1 (hbare W hW) (hFW W hW) (h1.keep (hkeep W hW)) (h2.keep (hkeep W hW)) (h3.keep (hkeep W hW)) (h4.keep (hkeep W hW) fun _ hk => hk) (h5.keep hT.size (fun k k1 k2 => hkeep W hW k (h6 k (.inl ⟨k1, k2⟩)).1 (h6 k (.inl ⟨k1, k2⟩)).2.1) fun k k1 => hkeep W hW k (h6 k (.inr k1)).1 (h6 k (.inr k1)).2.1) h6 h7 x.V x.D A l c
      (rp_bytes (k := 126) (rc := #[]) (caps := _) hblkW (hB.below hW) (seven_touch1 W g 5 _ _ _))
  | len =>
    rw [hph] at hth
    exact fin _ hth _ (by simp) (fun w => by simp [go_sem]) fun W hW => rpWrite111 (hbare W hW) x.V x.D A l c
  | fin =>
    rw [hph] at hth
    have e : th = .nilFunc := hth
    subst e
    refine (stTakeNo hblk.c11 x.V x.D A l c).mono ?_
    rintro e w' ⟨rfl, hb⟩
    refine ⟨rfl, F, ⟨Ad, Ld, cd, a, av, _, hblk.below hb, hFg, hok, htxt.below hb, hl, hc, ?_, fun b hb' => ?_⟩, Touch.of_below hb, fun k hk => .inl hk⟩
    · unfold ThenIs
      rw [hph]
    · unfold Rs.next at hb'
      rw [hph] at hb'
      cases hb'
end Go.Proofs.YtaomkamdfbibbaaGreat
namespace Go.Proofs.YtaomkamdfbibbaaGreat
open Go.RowKit

/-- A put: one that goes on, or one that never began (its ring's size, its fault). -/
inductive Pm where
  | live (s : Rs) | dead (Z er : Int)
namespace Pm
def next : Pm → Option Ac
  | .live s => s.next
  | .dead _ _ => none
def take : Pm → An → Pm
  | .live s, x => .live (s.take x)
  | .dead Z er, _ => .dead Z er
def busy : Pm → Bool
  | .live s => s.next.isSome
  | .dead _ _ => false
def size : Pm → Int
  | .live s => s.Z
  | .dead Z _ => Z
def fault : Pm → Int
  | .live s => s.er
  | .dead _ er => er
def pos : Pm → Int
  | .live s => s.p
  | .dead _ _ => 0
def has : Pm → Bool
  | .live s => s.cl
  | .dead _ _ => false
/-- How it ended: a position, an error. -/
def result (m : Pm) : Int × Int := if m.size = 0 then (0, 1) else if m.busy = true then (0, 10) else if m.fault = 0 then (m.pos, 0) else (0, m.fault)
end Pm

/-- The cells of a put that never began. -/
def PxCells (B Z er : Int) : Array Value :=
  #[.int .i64 B, .int .i64 Z, .int .i32 0, .slice none 0 0, .int .i64 0, .int .i64 0, .int .i64 0, .int .i64 0, .int .u64 0, .int .u64 0, .slice none 0 0, .nilFunc, .int .i64 0, .int .i64 0, .int .i64 0, .bool false, .int .i64 er]
/-- A put stands in the blocks F, its own block is g. -/
def PmAt (w : World) (F : Nat → Prop) (g : Nat) : Pm → Prop
  | .live s => PutAt w F g s
  | .dead Z er => F g ∧ ∃ B, w.heap[g]? = some (.cells (PxCells B Z er) 80 (0, 0))

/-- What a call on a put leaves. -/
def PmMoved (F : Nat → Prop) (g : Nat) (m : Pm) (w : World) (e : Ending) (w' : World) : Prop :=
  e = .returned (.tuple #[]) ∧ ∃ F', PmAt w' F' g m ∧ Touch F w w' ∧ ∀ k, F' k → F k ∨ (w.heap.size ≤ k ∧ k < w'.heap.size)

theorem PutAt.below {w w' : World} {F : Nat → Prop} {g : Nat} {s : Rs} (h : PutAt w F g s) (hs : w.heap.size ≤ w'.heap.size) (hb : ∀ k, F k → w'.heap[k]? = w.heap[k]?) : PutAt w' F g s := by
  obtain ⟨A, L, c, a, av, th, h1, h2, h3, h4, h5, h6, h7, h8⟩ := h
  have hg := hb g h2
  have hc : ∀ {a : Nat} {v : Value}, Capt w F g a v → Capt w' F g a v := fun h => h.keep fun k hk _ => hb k hk
  have ho : ∀ {o : Option Int} {v : Value}, OnIs w F g o v → OnIs w' F g o v := fun h => OnIs.keep h (fun k hk _ => hb k hk) fun _ hk => hk
  refine ⟨A, L, c, a, av, th, h1.of_block hg, h2, h3, h4.keep hs fun k hk _ => hb k hk.1, h5, h6, ?_, fun b hb' => ⟨(h8 b hb').1, (h8 b hb').2.keep hs fun k hk _ => hb k hk.1⟩⟩
  unfold ThenIs at h7 ⊢
  cases hph : s.ph with
  | ask => rw [hph] at h7; obtain ⟨a, e, h⟩ := h7; exact ⟨a, e, hc h⟩
  | tail => rw [hph] at h7; obtain ⟨a, e, h⟩ := h7; exact ⟨a, e, hc h⟩
  | head1 => rw [hph] at h7; obtain ⟨a, b, c, on, e, k1, k2, k3, k4⟩ := h7; exact ⟨a, b, c, on, e, hc k1, hc k2, hc k3, ho k4⟩
  | head2 gap => rw [hph] at h7; obtain ⟨a, b, c, on, e, k1, k2, k3, k4⟩ := h7; exact ⟨a, b, c, on, e, hc k1, hc k2, hc k3, ho k4⟩
  | copy1 => rw [hph] at h7; obtain ⟨c, on, e, k3, k4⟩ := h7; exact ⟨c, on, e, hc k3, ho k4⟩
  | copy2 gap => rw [hph] at h7; obtain ⟨c, on, e, k3, k4⟩ := h7; exact ⟨c, on, e, hc k3, ho k4⟩
  | cas pad => rw [hph] at h7; obtain ⟨a, b, e, k1, k2⟩ := h7; exact ⟨a, b, e, hc k1, hc k2⟩
  | padd pad => rw [hph] at h7; obtain ⟨a, e, k1⟩ := h7; exact ⟨a, e, hc k1⟩
  | hdr => rw [hph] at h7; obtain ⟨a, b, c, e, k1, k2, k3⟩ := h7; exact ⟨a, b, c, e, hc k1, hc k2, hc k3⟩
  | byt d =>
    rw [hph] at h7
    obtain ⟨em, es, eo, b1, b2, b3, gc, base, top, v, e, k1, k2, k3, ⟨k4, k5, k6⟩, k7, k8, k9⟩ := h7
    exact ⟨em, es, eo, b1, b2, b3, gc, base, top, v, e, hc k1, hc k2, hc k3, ⟨hc k4, hc k5, hc k6⟩, k7.keep hs (fun k x y => hb k (k8 k (.inl ⟨x, y⟩)).1) fun k x => hb k (k8 k (.inr x)).1, k8, k9⟩
  | len => rw [hph] at h7; exact h7
  | fin => rw [hph] at h7; exact h7

theorem PutAt.wide {w : World} {F F' : Nat → Prop} {g : Nat} {s : Rs} (h : PutAt w F g s) (hF : ∀ k, F k → F' k) : PutAt w F' g s := by
  obtain ⟨A, L, c, a, av, th, h1, h2, h3, h4, h5, h6, h7, h8⟩ := h
  have hc : ∀ {a : Nat} {v : Value}, Capt w F g a v → Capt w F' g a v := fun h => h.mono hF
  have ho : ∀ {o : Option Int} {v : Value}, OnIs w F g o v → OnIs w F' g o v := fun h => OnIs.keep h (fun k hk _ => rfl) hF
  refine ⟨A, L, c, a, av, th, h1, hF g h2, h3, h4.mono fun k hk _ => ⟨hF k hk.1, hk.2⟩, h5, h6, ?_, fun b hb' => ⟨(h8 b hb').1, (h8 b hb').2.mono fun k hk _ => ⟨hF k hk.1, hk.2⟩⟩⟩
  unfold ThenIs at h7 ⊢
  cases hph : s.ph with
  | ask => rw [hph] at h7; obtain ⟨a, e, h⟩ := h7; exact ⟨a, e, hc h⟩
  | tail => rw [hph] at h7; obtain ⟨a, e, h⟩ := h7; exact ⟨a, e, hc h⟩
  | head1 => rw [hph] at h7; obtain ⟨a, b, c, on, e, k1, k2, k3, k4⟩ := h7; exact ⟨a, b, c, on, e, hc k1, hc k2, hc k3, ho k4⟩
  | head2 gap => rw [hph] at h7; obtain ⟨a, b, c, on, e, k1, k2, k3, k4⟩ := h7; exact ⟨a, b, c, on, e, hc k1, hc k2, hc k3, ho k4⟩
  | copy1 => rw [hph] at h7; obtain ⟨c, on, e, k3, k4⟩ := h7; exact ⟨c, on, e, hc k3, ho k4⟩
  | copy2 gap => rw [hph] at h7; obtain ⟨c, on, e, k3, k4⟩ := h7; exact ⟨c, on, e, hc k3, ho k4⟩
  | cas pad => rw [hph] at h7; obtain ⟨a, b, e, k1, k2⟩ := h7; exact ⟨a, b, e, hc k1, hc k2⟩
  | padd pad => rw [hph] at h7; obtain ⟨a, e, k1⟩ := h7; exact ⟨a, e, hc k1⟩
  | hdr => rw [hph] at h7; obtain ⟨a, b, c, e, k1, k2, k3⟩ := h7; exact ⟨a, b, c, e, hc k1, hc k2, hc k3⟩
  | byt d =>
    rw [hph] at h7
    obtain ⟨em, es, eo, b1, b2, b3, gc, base, top, v, e, k1, k2, k3, ⟨k4, k5, k6⟩, k7, k8, k9⟩ := h7
    exact ⟨em, es, eo, b1, b2, b3, gc, base, top, v, e, hc k1, hc k2, hc k3, ⟨hc k4, hc k5, hc k6⟩, k7, fun k hk => ⟨hF k (k8 k hk).1, (k8 k hk).2⟩, k9⟩
  | len => rw [hph] at h7; exact h7
  | fin => rw [hph] at h7; exact h7

theorem PmAt.keep {w w' : World} {F : Nat → Prop} {g : Nat} {m : Pm} (h : PmAt w F g m) (hs : w.heap.size ≤ w'.heap.size) (hb : ∀ k, F k → w'.heap[k]? = w.heap[k]?) : PmAt w' F g m := by
  cases m with
  | live s => exact PutAt.below h hs hb
  | dead Z er =>
    obtain ⟨h1, B, h2⟩ := h
    exact ⟨h1, B, (hb g h1).trans h2⟩
theorem PmAt.wide {w : World} {F F' : Nat → Prop} {g : Nat} {m : Pm} (h : PmAt w F g m) (hF : ∀ k, F k → F' k) : PmAt w F' g m := by
  cases m with
  | live s => exact PutAt.wide h hF
  | dead Z er =>
    obtain ⟨h1, B, h2⟩ := h
    exact ⟨hF g h1, B, h2⟩

/-- Something goes on where, and only where, there is a next access. -/
theorem PutAt.thenIs {w : World} {F : Nat → Prop} {g : Nat} {s : Rs} {dv th : Value} (h : ThenIs w F g s dv th) : (s.next = none ∧ th = .nilFunc) ∨ (s.next ≠ none ∧ ∃ k rc caps, th = .func (.func k) rc caps) := by
  unfold ThenIs at h
  unfold Rs.next
  cases hph : s.ph with
  | fin => rw [hph] at h; exact .inl ⟨rfl, h⟩
  | len => rw [hph] at h; exact .inr ⟨by simp, _, _, _, h⟩
  | ask => rw [hph] at h; obtain ⟨_, e, _⟩ := h; exact .inr ⟨by simp, _, _, _, e⟩
  | tail => rw [hph] at h; obtain ⟨_, e, _⟩ := h; exact .inr ⟨by simp, _, _, _, e⟩
  | head1 => rw [hph] at h; obtain ⟨_, _, _, _, e, _⟩ := h; exact .inr ⟨by simp, _, _, _, e⟩
  | head2 gap => rw [hph] at h; obtain ⟨_, _, _, _, e, _⟩ := h; exact .inr ⟨by simp, _, _, _, e⟩
  | copy1 => rw [hph] at h; obtain ⟨_, _, e, _⟩ := h; exact .inr ⟨by simp, _, _, _, e⟩
  | copy2 gap => rw [hph] at h; obtain ⟨_, _, e, _⟩ := h; exact .inr ⟨by simp, _, _, _, e⟩
  | cas pad => rw [hph] at h; obtain ⟨_, _, e, _⟩ := h; exact .inr ⟨by simp, _, _, _, e⟩
  | padd pad => rw [hph] at h; obtain ⟨_, e, _⟩ := h; exact .inr ⟨by simp, _, _, _, e⟩
  | hdr => rw [hph] at h; obtain ⟨_, _, _, e, _⟩ := h; exact .inr ⟨by simp, _, _, _, e⟩
  | byt d => rw [hph] at h; obtain ⟨_, _, _, _, _, _, _, _, _, _, e, _⟩ := h; exact .inr ⟨by simp, _, _, _, e⟩
end Go.Proofs.YtaomkamdfbibbaaGreat
namespace Go.Proofs.YtaomkamdfbibbaaGreat
open Go.RowKit

namespace PxCells
variable {w : World} {g : Nat} {B Z er : Int}
theorem st (h : w.heap[g]? = some (.cells (PxCells B Z er) 80 (0, 0))) : w.cell? ⟨g, 11, none⟩ = some .nilFunc := by simp [World.cell?, h, PxCells]
end PxCells

theorem rp_ans_box (w : World) (V : Nat) (D : Bool) (A : Option Addr) (l c : Nat) :
    (w.alloc (.cells #[.int .u64 V, .bool D, .slice A l c] 37)).cell? ⟨w.heap.size, 0, none⟩ = some (.int .u64 V) ∧
    (w.alloc (.cells #[.int .u64 V, .bool D, .slice A l c] 37)).cell? ⟨w.heap.size, 1, none⟩ = some (.bool D) ∧
    (w.alloc (.cells #[.int .u64 V, .bool D, .slice A l c] 37)).cell? ⟨w.heap.size, 2, none⟩ = some (.slice A l c) := by
  have h := Go.Deep.blk_alloc_new w (.cells #[.int .u64 V, .bool D, .slice A l c] 37)
  refine ⟨?_, ?_, ?_⟩ <;> (unfold World.cell?; simp only [h]; rfl)

set_option maxRecDepth 100000 in
set_option maxHeartbeats 800000 in
theorem putTakeNil (V : Nat) (D : Bool) (A : Option Addr) (l c : Nat) (w : World) :
    Calls Tryz.prog 150 #[.pointer none, .agg #[.int .u64 V, .bool D, .slice A l c]] w (Made (.tuple #[]) w) := by
  have HW := Lib.hid ((Below.refl w.heap.size w).alloc (Nat.le_refl _) (.cells #[.int .u64 V, .bool D, .slice A l c] 37))
  go_enter Tryz.func150, Tryz.ntmps150
  go_upto_region 1 with (fail)
  generalize w.alloc (.cells #[.int .u64 V, .bool D, .slice A l c] 37) = W at HW ⊢
  go_wp2
  go_end0
  exact ⟨rfl, HW.out⟩

set_option maxRecDepth 100000 in
set_option maxHeartbeats 800000 in
theorem putTake {w : World} {F : Nat → Prop} {g : Nat} {m : Pm} (h : PmAt w F g m) (hF : ∀ k, F k → k < w.heap.size) (x : An) (hx : x.V < 18446744073709551616) (A : Option Addr) (l c : Nat) (hB : BytesAt w (.slice A l c) x.bs) :
    Calls Tryz.prog 150 #[.pointer (some ⟨g, 0, none⟩), .agg #[.int .u64 x.V, .bool x.D, .slice A l c]] w (PmMoved F g (m.take x) w) := by
  have hb0 := (Below.refl w.heap.size w).alloc (Nat.le_refl _) (.cells #[.int .u64 x.V, .bool x.D, .slice A l c] 37)
  obtain ⟨x0, x1, x2⟩ := rp_ans_box w x.V x.D A l c
  have HW := Lib.hid hb0
  have HC : Hid (∀ W, Below w.heap.size w W → Calls Tryz.prog 20 #[.pointer (some ⟨g, 5, none⟩), .agg #[.int .u64 x.V, .bool x.D, .slice A l c]] W (PmMoved F g (m.take x) W)) := Lib.hid fun W hW => by
    have hk := h.keep hW.size fun k hk => hW.block k (hF k hk)
    cases m with
    | live s => exact (rpStepsTake hk (fun k hk => Nat.lt_of_lt_of_le (hF k hk) hW.size) x hx A l c (hB.below hW)).mono fun e w' hm => hm
    | dead Z er =>
      obtain ⟨h1, B, h2⟩ := hk
      refine (stTakeNo (PxCells.st h2) x.V x.D A l c).mono ?_
      rintro e w' ⟨rfl, hb⟩
      exact ⟨rfl, F, ⟨h1, B, (hb.block g (Nat.lt_of_lt_of_le (hF g h1) hW.size)).trans h2⟩, Touch.of_below hb, fun k hk => .inl hk⟩
  have hnF : ¬ F w.heap.size := fun e => Nat.lt_irrefl _ (hF _ e)
  clear h hF hB hb0
  go_enter Tryz.func150, Tryz.ntmps150
  go_upto_region 1 with (fail)
  generalize w.alloc (.cells #[.int .u64 x.V, .bool x.D, .slice A l c] 37) = W at HW x0 x1 x2 ⊢
  go_upto_region 2 with (fail)
  go_region_held3 (fun w' => w'.cell? ⟨w.heap.size, 0, none⟩ = some (.int .u64 x.V) ∧ w'.cell? ⟨w.heap.size, 1, none⟩ = some (.bool x.D) ∧ w'.cell? ⟨w.heap.size, 2, none⟩ = some (.slice A l c)) (go_keep)
    (first | (go_at_call 20; refine (HC.out W.drew HW.out.drew).mono ?_; intro e w3 hm; have HM := Lib.hid hm; obtain ⟨rfl, F', hp, ht, hF'⟩ := hm; have y0 := (ht.cell (p := ⟨w.heap.size, 0, none⟩) (lt_of_cell x0) hnF).trans x0; have y1 := (ht.cell (p := ⟨w.heap.size, 1, none⟩) (lt_of_cell x0) hnF).trans x1; have y2 := (ht.cell (p := ⟨w.heap.size, 2, none⟩) (lt_of_cell x0) hnF).trans x2))
  all_goals
    go_wp2
    go_end0
    exact ⟨rfl, F', hp, (Touch.of_below HW.out.drew).trans ht, fun k hk => (hF' k hk).imp id fun h => ⟨Nat.le_trans HW.out.size h.1, h.2⟩⟩

set_option maxRecDepth 100000 in
set_option maxHeartbeats 800000 in
theorem putNextNil (w : World) : Calls Tryz.prog 149 #[.pointer none] w (NextTold none w) := by
  have HA := AccNew.made w
  have HW := Lib.hid ((Below.refl w.heap.size w).alloc (Nat.le_refl _) (.cells #[.int .i64 0, .int .i64 0, .int .i64 0, .int .u64 0, .int .u64 0, .slice none 0 0] 32))
  go_enter Tryz.func149, Tryz.ntmps149
  go_upto_region 1 with (fail)
  generalize w.alloc (.cells #[.int .i64 0, .int .i64 0, .int .i64 0, .int .u64 0, .int .u64 0, .slice none 0 0] 32) = W at HA HW ⊢
  obtain ⟨a0, a1, a2, a3, a4, a5, f0, f1, f2, f3, f4, f5, hbk⟩ := HA
  go_wp2
  refine bodyPost_ret (v := .tuple #[.agg #[.int .i64 0, .int .i64 0, .int .i64 0, .int .u64 0, .int .u64 0, .slice none 0 0], .bool false]) (by simp [results, Tryz.results149, go_sem, a0, a1, a2, a3, a4, a5]) rfl ?_
  exact ⟨six_below HW.out (Nat.le_refl _) _ _ _ _ _ _, rfl⟩

theorem Pm.fine {w : World} {F : Nat → Prop} {g : Nat} {m : Pm} (h : PmAt w F g m) {a : Ac} (ha : m.next = some a) : a.Fine := by
  cases m with
  | dead Z er => cases ha
  | live s =>
    obtain ⟨A, L, c, a0, av, th, h1, h2, ok, h4, h5, h6, h7, h8⟩ := h
    obtain ⟨hp0, hz0, hz1, hb0, hb1, ht0, ht1, hfew, hB, hh, htl, hps⟩ := ok
    have okr : Rg.Ok s.B s.Z := ⟨hp0, hz0, hz1, hb0, hb1⟩
    have un_lt : ∀ y : Int, Rs.un y < 18446744073709551616 := fun y => by unfold Rs.un; omega
    have jn_lt : ∀ x y : Int, (Hd.jn x y).toNat < 18446744073709551616 := fun x y => by have := Hd.jn_bounds x y; omega
    have num : ∀ k : Int, 0 ≤ k → k ≤ 16 → -9223372036854775808 ≤ s.num k ∧ s.num k ≤ 9223372036854775807 := fun k _ _ => by unfold Rs.num Rg.num; omega
    have spot : ∀ v : Int, 0 ≤ s.spot v ∧ s.spot v ≤ 140000 := fun v => by have := okr.place_in v; unfold Rs.spot Rg.spot; omega
    have mk : ∀ (K P N : Int) (V U : Nat), (0 ≤ K ∧ K ≤ 8) → (-9223372036854775808 ≤ P ∧ P ≤ 9223372036854775807) → (0 ≤ N ∧ N ≤ 8) → V < 18446744073709551616 → U < 18446744073709551616 → Ac.Fine ⟨K, P, N, V, U, []⟩ := fun K P N V U h1 h2 h3 h4 h5 => ⟨h4, h5, ⟨by show _ ≤ K; omega, by show K ≤ _; omega⟩, h2, ⟨by show _ ≤ N; omega, by show N ≤ _; omega⟩, Bys.nil, by show (0 : Nat) ≤ _; omega⟩
    have ha' : s.next = some a := ha
    unfold Rs.next at ha'
    unfold ThenIs at h7
    cases hph : s.ph with
    | fin => rw [hph] at ha'; cases ha'
    | ask => rw [hph] at ha'; injection ha' with e; subst e; exact mk _ _ _ _ _ (by omega) (num _ (by omega) (by omega)) (by omega) (by omega) (by omega)
    | tail => rw [hph] at ha'; injection ha' with e; subst e; exact mk _ _ _ _ _ (by omega) (num _ (by omega) (by omega)) (by omega) (by omega) (by omega)
    | head1 => rw [hph] at ha'; injection ha' with e; subst e; exact mk _ _ _ _ _ (by omega) (num _ (by omega) (by omega)) (by omega) (by omega) (by omega)
    | head2 gap => rw [hph] at ha'; injection ha' with e; subst e; exact mk _ _ _ _ _ (by omega) (num _ (by omega) (by omega)) (by omega) (by omega) (by omega)
    | copy1 => rw [hph] at ha'; injection ha' with e; subst e; exact mk _ _ _ _ _ (by omega) (num _ (by omega) (by omega)) (by omega) (un_lt _) (by omega)
    | copy2 gap => rw [hph] at ha'; injection ha' with e; subst e; exact mk _ _ _ _ _ (by omega) (num _ (by omega) (by omega)) (by omega) (un_lt _) (by omega)
    | cas pad => rw [hph] at ha'; injection ha' with e; subst e; exact mk _ _ _ _ _ (by omega) (num _ (by omega) (by omega)) (by omega) (un_lt _) (un_lt _)
    | padd pad => rw [hph] at ha'; injection ha' with e; subst e; have := spot s.t; exact mk _ _ _ _ _ (by omega) (by omega) (by omega) (jn_lt _ _) (by omega)
    | hdr => rw [hph] at ha'; injection ha' with e; subst e; have := spot s.p; exact mk _ _ _ _ _ (by omega) (by omega) (by omega) (jn_lt _ _) (by omega)
    | len => rw [hph] at ha'; injection ha' with e; subst e; have := spot s.p; exact mk _ _ _ _ _ (by omega) (by omega) (by omega) (by omega) (by omega)
    | byt d =>
      rw [hph] at ha' h7
      obtain ⟨_, _, _, _, _, _, _, _, _, _, _, _, _, _, _, _, _, hdl⟩ := h7
      injection ha' with e
      subst e
      have := spot s.p
      have hn := Cy.nx_le (s.L - d)
      refine ⟨by show (0 : Nat) < _; omega, by show (0 : Nat) < _; omega, ⟨by show _ ≤ (6 : Int); omega, by show (6 : Int) ≤ _; omega⟩, ?_, ?_, Bys.bl hB _ _, ?_⟩
      · show _ ≤ s.spot s.p + 8 + (d : Int) ∧ s.spot s.p + 8 + (d : Int) ≤ _
        omega
      · show _ ≤ ((Cy.nx (s.L - d) : Nat) : Int) ∧ ((Cy.nx (s.L - d) : Nat) : Int) ≤ _
        omega
      · show (Mb.bl s.f d (Cy.nx (s.L - d))).length ≤ _
        rw [Mb.bl_length]
        omega

set_option maxRecDepth 100000 in
set_option maxHeartbeats 800000 in
theorem putNext {w : World} {F : Nat → Prop} {g : Nat} {m : Pm} (h : PmAt w F g m) (hF : ∀ k, F k → k < w.heap.size) :
    Calls Tryz.prog 149 #[.pointer (some ⟨g, 0, none⟩)] w (NextTold m.next w) := by
  have HA := Lib.hid (AccNew.made w)
  have HW := Lib.hid ((Below.refl w.heap.size w).alloc (Nat.le_refl _) (.cells #[.int .i64 0, .int .i64 0, .int .i64 0, .int .u64 0, .int .u64 0, .slice none 0 0] 32))
  have HC : Hid (∀ W, Below w.heap.size w W → Calls Tryz.prog 19 #[.pointer (some ⟨g, 5, none⟩)] W (NextTold m.next W)) := Lib.hid fun W hW => by
    have hk := h.keep hW.size fun k hk => hW.block k (hF k hk)
    have hfine := fun a (ha : m.next = some a) => Pm.fine hk ha
    cases m with
    | live s =>
      obtain ⟨A, L, c, a, av, th, h1, h2, h3, h4, h5, h6, h7, h8⟩ := hk
      show Calls _ _ _ _ (NextTold s.next W)
      rcases PutAt.thenIs h7 with ⟨e1, e2⟩ | ⟨e1, k, rc, caps, e2⟩
      · rw [e1]
        have := h1.c11
        rw [e2] at this
        exact stNextNo this
      · cases hn : s.next with
        | none => exact absurd hn e1
        | some b =>
          obtain ⟨rfl, hb⟩ := h8 b hn
          have hby := hb.bytes
          obtain ⟨A2, c2, hav, _⟩ := hb
          subst hav e2
          exact stNextYes h1.st hby (hfine a hn).few
    | dead Z er =>
      obtain ⟨_, B, h2⟩ := hk
      exact stNextNo (PxCells.st h2)
  generalize m.next = o at HC ⊢
  clear h hF
  go_enter Tryz.func149, Tryz.ntmps149
  go_upto_region 1 with (fail)
  generalize w.alloc (.cells #[.int .i64 0, .int .i64 0, .int .i64 0, .int .u64 0, .int .u64 0, .slice none 0 0] 32) = W at HA HW ⊢
  cases o with
  | none =>
    go_wp2_with (go_at_call 19; refine (HC.out W HW.out).mono ?_; rintro e w2 ⟨hb, rfl⟩; obtain ⟨a0, a1, a2, a3, a4, a5, f0, f1, f2, f3, f4, f5, hbk⟩ := HA.out.later hb)
    refine bodyPost_ret (v := .tuple #[.agg #[.int .i64 0, .int .i64 0, .int .i64 0, .int .u64 0, .int .u64 0, .slice none 0 0], .bool false]) (by simp [results, Tryz.results149, go_sem, a0, a1, a2, a3, a4, a5]) rfl ?_
    exact ⟨six_below (HW.out.trans (hb.mono HW.out.size)) (Nat.le_refl _) _ _ _ _ _ _, rfl⟩
  | some a =>
    go_wp2_with (go_at_call 19; refine (HC.out W HW.out).mono ?_; rintro e w2 ⟨hb, A, l, c, rfl, ho⟩; obtain ⟨a0, a1, a2, a3, a4, a5, f0, f1, f2, f3, f4, f5, hbk⟩ := HA.out.later hb; have HO := Lib.hid ho)
    refine bodyPost_ret (v := .tuple #[.agg #[.int .i64 a.K, .int .i64 a.P, .int .i64 a.N, .int .u64 a.V, .int .u64 a.U, .slice A l c], .bool true]) (by simp [results, Tryz.results149, go_sem, a0, a1, a2, a3, a4, a5]) rfl ?_
    exact ⟨six_below (HW.out.trans (hb.mono HW.out.size)) (Nat.le_refl _) _ _ _ _ _ _, A, l, c, rfl, (six_own HO.out (Array.getElem?_eq_some_iff.1 HA.out.blk).1 _ _ _ _ _ _).down HW.out.size⟩

end Go.Proofs.YtaomkamdfbibbaaGreat
namespace Go.Proofs.YtaomkamdfbibbaaGreat
open Go.RowKit

/-- May a ring be? -/
def Rg.right (B Z : Int) : Prop := Wd.isP Z = true ∧ 64 ≤ Z ∧ Z ≤ 8192 ∧ 0 ≤ B ∧ B ≤ 131072 - Z - 32 ∧ B % 8 = 0
instance (B Z : Int) : Decidable (Rg.right B Z) := by unfold Rg.right; infer_instance

set_option maxRecDepth 100000 in
set_option maxHeartbeats 800000 in
theorem rpCheck (B Z : Int) (hB : -9223372036854775808 ≤ B ∧ B ≤ 9223372036854775807) (hZ : -9223372036854775808 ≤ Z ∧ Z ≤ 9223372036854775807) (w : World) :
    Calls Tryz.prog 15 #[.agg #[.int .i64 B, .int .i64 Z]] w (Made (.int .i64 (if Rg.right B Z then 0 else 1)) w) := by
  have hb0 := un_below w (.int .i64 B) (.int .i64 Z) 23
  have hx := Go.Deep.blk_alloc_new w (.cells #[.int .i64 B, .int .i64 Z] 23)
  obtain ⟨q, hq⟩ : ∃ q : Int, q = (if Rg.right B Z then 0 else 1) := ⟨_, rfl⟩
  rw [← hq]
  have HQ := Lib.hid hq
  clear hq
  go_enter Tryz.func15, Tryz.ntmps15
  go_upto_region 1 with (fail)
  generalize w.alloc (.cells #[.int .i64 B, .int .i64 Z] 23) = W at hb0 hx ⊢
  have x0 : W.cell? ⟨w.heap.size, 0, none⟩ = some (.int .i64 B) := by simp [World.cell?, hx]
  have x1 : W.cell? ⟨w.heap.size, 1, none⟩ = some (.int .i64 Z) := by simp [World.cell?, hx]
  clear hx
  cases hp : Wd.isP Z with
  | false =>
    have HP := Lib.hid hp
    clear hp
    go_wp2_with (go_at_call 26; refine (isPower_any Z _ (by omega) (by omega)).mono ?_; rintro e w2 ⟨rfl, rfl⟩; rw [HP.out])
    all_goals
      go_ret
      refine ⟨?_, hb0⟩
      rw [HQ.out, if_neg (fun h => by have := h.1; rw [HP.out] at this; cases this)]
      rfl
  | true =>
    have HP := Lib.hid hp
    clear hp
    go_wp2_with (go_at_call 26; refine (isPower_any Z _ (by omega) (by omega)).mono ?_; rintro e w2 ⟨rfl, rfl⟩; rw [HP.out])
    all_goals
      go_ret
      refine ⟨?_, hb0⟩
      rw [HQ.out]
      simp only [bne_eq_false_iff_eq, bne_iff_ne, ne_eq] at *
      first
        | (rw [if_pos ⟨HP.out, by omega, by omega, by omega, by omega, by omega⟩]; rfl)
        | (rw [if_neg (fun ⟨_, _, _, _, _, _⟩ => by omega)]; rfl)

theorem rp_need_aux (n : Nat) (h : n ≤ 131072) : sz (n : Int) 8 8 = 8 * (((n + 15) / 8 : Nat) : Int) := by
  unfold sz szOk Wd.al Wd.alOk
  have h1 : decide (0 ≤ (n : Int)) = true := by simp
  have h2 : decide ((n : Int) ≤ 131072) = true := by simp; omega
  have h3 : Wd.isP 8 = true := by decide
  have h4 : decide (0 ≤ (8 : Int) + n) = true := by simp; omega
  have h5 : decide ((8 : Int) + n ≤ 4611686018427387904) = true := by simp; omega
  rw [h1, h2, h3, h4, h5]
  simp only [Bool.and_self, if_true]
  omega

/-- A put was made: it stands in new memory. -/
def NewIs (m : Pm) (w : World) (e : Ending) (w' : World) : Prop :=
  ∃ g, e = .returned (.pointer (some ⟨g, 0, none⟩)) ∧ PmAt w' (fun k => w.heap.size ≤ k ∧ k < w'.heap.size) g m ∧ Below w.heap.size w w'

/-- The put that is made. -/
def Pm.new (B Z typ : Int) (f : Nat → Nat) (L : Nat) : Pm :=
  if ¬ Rg.right B Z ∨ typ < 1 then .dead 0 0 else if Z < 8 * (L : Int) then .dead Z 4 else .live ⟨B.toNat, Z.toNat, typ, f, L, 0, 0, 0, false, .ask, 0⟩

theorem new_dead (w W : World) (hb : Below w.heap.size w W) (B Z er : Int) : NewIs (.dead Z er) w (.returned (.pointer (some ⟨W.heap.size, 0, none⟩))) (W.alloc (.cells (PxCells B Z er) 80)) :=
  ⟨W.heap.size, rfl, ⟨⟨hb.size, by simp⟩, B, Go.Deep.blk_alloc_new _ _⟩, hb.alloc hb.size _⟩

set_option maxRecDepth 100000 in
set_option maxHeartbeats 800000 in
theorem rpNewBad (B Z typ : Int) (hB : -9223372036854775808 ≤ B ∧ B ≤ 9223372036854775807) (hZ : -9223372036854775808 ≤ Z ∧ Z ≤ 9223372036854775807) (hbad : ¬ Rg.right B Z) (A : Option Addr) (L c : Nat) (w : World) :
    Calls Tryz.prog 14 #[.agg #[.int .i64 B, .int .i64 Z], .int .i32 typ, .slice A L c] w (NewIs (.dead 0 0) w) := by
  have hb0 := un_below w (.int .i64 B) (.int .i64 Z) 23
  have hx := Go.Deep.blk_alloc_new w (.cells #[.int .i64 B, .int .i64 Z] 23)
  have HBZ := Lib.hid (And.intro hB hZ)
  have HN := Lib.hid hbad
  clear hB hZ hbad
  go_enter Tryz.func14, Tryz.ntmps14
  go_upto_region 1 with (fail)
  generalize w.alloc (.cells #[.int .i64 B, .int .i64 Z] 23) = W at hb0 hx ⊢
  have x0 : W.cell? ⟨w.heap.size, 0, none⟩ = some (.int .i64 B) := by simp [World.cell?, hx]
  have x1 : W.cell? ⟨w.heap.size, 1, none⟩ = some (.int .i64 Z) := by simp [World.cell?, hx]
  clear hx
  go_wp2_with (go_at_call 15; refine (rpCheck B Z HBZ.out.1 HBZ.out.2 W).mono ?_; rintro e w2 ⟨rfl, hb⟩; rw [if_neg HN.out])
  go_ret
  exact new_dead w w2 (hb0.trans (hb.mono hb0.size)) 0 0 0

set_option maxRecDepth 100000 in
set_option maxHeartbeats 800000 in
theorem rpNewTyp (B Z typ : Int) (hB : -9223372036854775808 ≤ B ∧ B ≤ 9223372036854775807) (hZ : -9223372036854775808 ≤ Z ∧ Z ≤ 9223372036854775807) (hok : Rg.right B Z) (htyp : typ < 1) (A : Option Addr) (L c : Nat) (w : World) :
    Calls Tryz.prog 14 #[.agg #[.int .i64 B, .int .i64 Z], .int .i32 typ, .slice A L c] w (NewIs (.dead 0 0) w) := by
  have hb0 := un_below w (.int .i64 B) (.int .i64 Z) 23
  have hx := Go.Deep.blk_alloc_new w (.cells #[.int .i64 B, .int .i64 Z] 23)
  have HBZ := Lib.hid (And.intro hB hZ)
  have HN := Lib.hid hok
  have hd : decide (typ < 1) = true := by simpa using htyp
  clear hB hZ hok
  go_enter Tryz.func14, Tryz.ntmps14
  go_upto_region 1 with (fail)
  generalize w.alloc (.cells #[.int .i64 B, .int .i64 Z] 23) = W at hb0 hx ⊢
  have x0 : W.cell? ⟨w.heap.size, 0, none⟩ = some (.int .i64 B) := by simp [World.cell?, hx]
  have x1 : W.cell? ⟨w.heap.size, 1, none⟩ = some (.int .i64 Z) := by simp [World.cell?, hx]
  clear hx
  go_wp2_with (go_at_call 15; refine (rpCheck B Z HBZ.out.1 HBZ.out.2 W).mono ?_; rintro e w2 ⟨rfl, hb⟩; rw [if_pos HN.out])
  go_ret
  exact new_dead w w2 (hb0.trans (hb.mono hb0.size)) 0 0 0

set_option maxRecDepth 100000 in
set_option maxHeartbeats 800000 in
theorem rpNewLong (B Z typ : Int) (hB : -9223372036854775808 ≤ B ∧ B ≤ 9223372036854775807) (hZ : -9223372036854775808 ≤ Z ∧ Z ≤ 9223372036854775807) (hok : Rg.right B Z) (htyp : ¬ typ < 1) (A : Option Addr) (L c : Nat) (hlong : Z < 8 * (L : Int)) (w : World) :
    Calls Tryz.prog 14 #[.agg #[.int .i64 B, .int .i64 Z], .int .i32 typ, .slice A L c] w (NewIs (.dead Z 4) w) := by
  have hb0 := un_below w (.int .i64 B) (.int .i64 Z) 23
  have hx := Go.Deep.blk_alloc_new w (.cells #[.int .i64 B, .int .i64 Z] 23)
  have HBZ := Lib.hid (And.intro hB hZ)
  have HN := Lib.hid hok
  have hd : decide (typ < 1) = false := by simpa using htyp
  have hz0 : 64 ≤ Z := hok.2.1
  have hz1 : Z ≤ 8192 := hok.2.2.1
  have hdl : Z / 8 < (L : Int) := by omega
  have hdd : decide (Z / 8 < (L : Int)) = true := by simpa using hdl
  clear hB hZ hok htyp hlong
  go_enter Tryz.func14, Tryz.ntmps14
  go_upto_region 1 with (fail)
  generalize w.alloc (.cells #[.int .i64 B, .int .i64 Z] 23) = W at hb0 hx ⊢
  have x0 : W.cell? ⟨w.heap.size, 0, none⟩ = some (.int .i64 B) := by simp [World.cell?, hx]
  have x1 : W.cell? ⟨w.heap.size, 1, none⟩ = some (.int .i64 Z) := by simp [World.cell?, hx]
  have hlx := (Array.getElem?_eq_some_iff.1 hx).1
  clear hx
  go_wp2_with (go_at_call 15; refine (rpCheck B Z HBZ.out.1 HBZ.out.2 W).mono ?_; rintro e w2 ⟨rfl, hb⟩; rw [if_pos HN.out]; have y0 := (hb.cell (p := ⟨w.heap.size, 0, none⟩) hlx).trans x0; have y1 := (hb.cell (p := ⟨w.heap.size, 1, none⟩) hlx).trans x1)
  go_ret
  exact new_dead w w2 (hb0.trans (hb.mono hb0.size)) B Z 4

/-- The block of a put that is made. -/
theorem rp_made {w w4 W5 : World} {B Z typ : Int} {A4 : Option Addr} {L c4 base : Nat} {f : Nat → Nat}
    (hW5 : W5 = w4.alloc (.cells #[.int .i64 B, .int .i64 Z, .int .i32 typ, .slice A4 L c4, .int .i64 (8 * (((L : Int) + 15) / 8)), .int .i64 0, .int .i64 0, .int .i64 0, .int .u64 0, .int .u64 0, .slice none 0 0, .nilFunc, .int .i64 0, .int .i64 0, .int .i64 0, .bool false, .int .i64 0] 80))
    (hb : Below w.heap.size w w4) (hbase : w.heap.size ≤ base) (hr : Rg.right B Z) (ht : 1 ≤ typ) (ht2 : typ ≤ 2147483647) (hfew : 8 * (L : Int) ≤ Z) (hf : Mb.IsB f) (ho : Owns base w4 (.slice A4 L c4) (Mb.bl f 0 L)) :
    RpBare W5 (fun k => w.heap.size ≤ k ∧ k < W5.heap.size) w4.heap.size ⟨B.toNat, Z.toNat, typ, f, L, 0, 0, 0, false, .ask, 0⟩ (.slice A4 L c4) := by
  obtain ⟨h1, h2, h3, h4, h5, h6⟩ := hr
  have hB : ((B.toNat : Nat) : Int) = B := Int.toNat_of_nonneg h4
  have hZ : ((Z.toNat : Nat) : Int) = Z := Int.toNat_of_nonneg (by omega)
  have hsz : W5.heap.size = w4.heap.size + 1 := by rw [hW5]; simp
  have hbl : Below w4.heap.size w4 W5 := by rw [hW5]; exact (Below.refl _ _).alloc (Nat.le_refl _) _
  have ho5 := (BytesIn.of_own ho).lt.below hbl
  have hc : L ≤ c4 ∧ c4 ≤ 9223372036854775807 := by
    obtain ⟨_, e | ⟨g, cap, cur, e, _, _, e2, e3, _⟩⟩ := ho
    · obtain ⟨e1, e2⟩ := e
      injection e1 with _ e3 e4
      omega
    · injection e with _ e4 e5
      unfold maxLen at e3
      omega
  refine ⟨⟨Ac.zero, .slice none 0 0, ?_⟩, ⟨hb.size, by omega⟩, ⟨by rw [← h1, hZ], by simp only; omega, by simp only; omega, by simp only; omega, by simp only; omega, ht, ht2, by simp only; omega, hf, by simp only; omega, by simp only; omega, by simp only; omega⟩, ⟨A4, c4, rfl, hc.1, hc.2⟩, ho5.mono fun k hk _ => ⟨⟨by omega, by omega⟩, by omega⟩⟩
  unfold RpBlk
  rw [hW5, Go.Deep.blk_alloc_new]
  have hn : (8 * (((L + 15) / 8 : Nat) : Int)) = 8 * (((L : Int) + 15) / 8) := by omega
  simp only [RpCells, Rs.need, hB, hZ, hn, Ac.zero]
  rfl

set_option maxRecDepth 100000 in
set_option maxHeartbeats 800000 in
theorem rpNewOk (B Z typ : Int) (hB : -9223372036854775808 ≤ B ∧ B ≤ 9223372036854775807) (hZ : -9223372036854775808 ≤ Z ∧ Z ≤ 9223372036854775807) (hok : Rg.right B Z) (htyp : ¬ typ < 1) (htyp2 : typ ≤ 2147483647) (A : Option Addr) (L c : Nat) (hfew : ¬ Z < 8 * (L : Int)) (f : Nat → Nat) (hf : Mb.IsB f) (w : World) (hby : BytesAt w (.slice A L c) (Mb.bl f 0 L)) :
    Calls Tryz.prog 14 #[.agg #[.int .i64 B, .int .i64 Z], .int .i32 typ, .slice A L c] w (NewIs (.live ⟨B.toNat, Z.toNat, typ, f, L, 0, 0, 0, false, .ask, 0⟩) w) := by
  have hb0 := un_below w (.int .i64 B) (.int .i64 Z) 23
  have hx := Go.Deep.blk_alloc_new w (.cells #[.int .i64 B, .int .i64 Z] 23)
  have HBZ := Lib.hid (And.intro hB hZ)
  have HN := Lib.hid hok
  have HY := Lib.hid hby
  have hd : decide (typ < 1) = false := by simpa using htyp
  have hz0 : 64 ≤ Z := hok.2.1
  have hz1 : Z ≤ 8192 := hok.2.2.1
  have hdl : ¬ Z / 8 < (L : Int) := by omega
  have hdd : decide (Z / 8 < (L : Int)) = false := by simpa using hdl
  have HT := Lib.hid (And.intro htyp htyp2)
  have HFE := Lib.hid hfew
  clear hB hZ hok htyp hfew hby htyp2
  go_enter Tryz.func14, Tryz.ntmps14
  go_upto_region 1 with (fail)
  generalize w.alloc (.cells #[.int .i64 B, .int .i64 Z] 23) = W at hb0 hx ⊢
  have x0 : W.cell? ⟨w.heap.size, 0, none⟩ = some (.int .i64 B) := by simp [World.cell?, hx]
  have x1 : W.cell? ⟨w.heap.size, 1, none⟩ = some (.int .i64 Z) := by simp [World.cell?, hx]
  have hlx := (Array.getElem?_eq_some_iff.1 hx).1
  clear hx
  go_upto_region 5 with (go_at_call 15; refine (rpCheck B Z HBZ.out.1 HBZ.out.2 W).mono ?_; rintro e w2 ⟨rfl, hb⟩; rw [if_pos HN.out]; have y0 := (hb.cell (p := ⟨w.heap.size, 0, none⟩) hlx).trans x0; have y1 := (hb.cell (p := ⟨w.heap.size, 1, none⟩) hlx).trans x1)
  have hneed := rp_need_aux L (by omega)
  have HNE := Lib.hid hneed
  have HB2 := Lib.hid (hb0.trans (hb.mono hb0.size))
  have hl2 : w.heap.size < w2.heap.size := lt_of_cell y0
  clear hneed hb hdl hd hdd hz0 hz1 x0 x1 hlx hb0
  go_upto_region 6 with (go_at_call 23; refine (recordSize_any (L : Int) w2).mono ?_; rintro e w3 ⟨rfl, rfl⟩; rw [HNE.out])
  obtain ⟨wq, hwq⟩ : ∃ W, W = w2 := ⟨_, rfl⟩
  go_region_held3 (fun w' => w'.cell? ⟨w.heap.size, 0, none⟩ = some (.int .i64 B) ∧ w'.cell? ⟨w.heap.size, 1, none⟩ = some (.int .i64 Z)) (go_keep)
    (first | (go_at_call 24; refine (clone_sl A L c (Mb.bl f 0 L) w2.drew (HY.out.below HB2.out.drew) (by have := HFE.out; have := HN.out.2.2.1; omega)).mono ?_; rintro e w4 ⟨A4, c4, rfl, ho4, hb4⟩; have z0 := (hb4.cell (p := ⟨w.heap.size, 0, none⟩) (lt_of_cell y0)).trans y0; have z1 := (hb4.cell (p := ⟨w.heap.size, 1, none⟩) (lt_of_cell y0)).trans y1))
  all_goals
    have hq := HN.out
    obtain ⟨W5, hW5⟩ : ∃ W5, W5 = w4.alloc (.cells #[.int .i64 B, .int .i64 Z, .int .i32 typ, .slice A4 L c4, .int .i64 (8 * (((L : Int) + 15) / 8)), .int .i64 0, .int .i64 0, .int .i64 0, .int .u64 0, .int .u64 0, .slice none 0 0, .nilFunc, .int .i64 0, .int .i64 0, .int .i64 0, .bool false, .int .i64 0] 80) := ⟨_, rfl⟩
    have hmade := rp_made (w := w) hW5 (HB2.out.drew.trans (hb4.mono HB2.out.size)) HB2.out.size hq HT.out.1 HT.out.2 HFE.out hf ho4
    rw [← hW5]
    have HM := Lib.hid hmade
    have hbk : Below w.heap.size w W5 := by rw [hW5]; exact (HB2.out.drew.trans (hb4.mono HB2.out.size)).alloc (Nat.le_trans HB2.out.size hb4.size) _
    have HBK := Lib.hid hbk
    clear hW5 hmade hbk
    go_wp2_with (go_at_call 25; refine (rpBegin HM.out).mono ?_; intro e w6 hm; have HMM := Lib.hid hm; obtain ⟨rfl, _⟩ := hm)
    go_ret
    obtain ⟨_, F', hp, ht, hF'⟩ := HMM.out
    refine ⟨_, rfl, ?_, ht.below HBK.out HBK.out.size fun k hk => hk.1⟩
    refine PutAt.wide (F' := fun k => w.heap.size ≤ k ∧ k < w6.heap.size) hp fun k hk => ?_
    · show w.heap.size ≤ k ∧ k < w6.heap.size
      rcases hF' k hk with e | e
      · exact ⟨e.1, Nat.lt_of_lt_of_le e.2 ht.size⟩
      · exact ⟨Nat.le_trans HBK.out.size e.1, e.2⟩

/-- A put is made, of whatever ring, type and bytes. -/
theorem rpNew (B Z typ : Int) (hB : -9223372036854775808 ≤ B ∧ B ≤ 9223372036854775807) (hZ : -9223372036854775808 ≤ Z ∧ Z ≤ 9223372036854775807) (htyp : typ ≤ 2147483647) (A : Option Addr) (L c : Nat) (f : Nat → Nat) (hf : Mb.IsB f) (w : World) (hby : BytesAt w (.slice A L c) (Mb.bl f 0 L)) :
    Calls Tryz.prog 14 #[.agg #[.int .i64 B, .int .i64 Z], .int .i32 typ, .slice A L c] w (NewIs (Pm.new B Z typ f L) w) := by
  unfold Pm.new
  by_cases h1 : Rg.right B Z
  · by_cases h2 : typ < 1
    · rw [if_pos (.inr h2)]
      exact rpNewTyp B Z typ hB hZ h1 h2 A L c w
    · rw [if_neg (fun h => h.elim (fun h => h h1) h2)]
      by_cases h3 : Z < 8 * (L : Int)
      · rw [if_pos h3]
        exact rpNewLong B Z typ hB hZ h1 h2 A L c h3 w
      · rw [if_neg h3]
        exact rpNewOk B Z typ hB hZ h1 h2 htyp A L c h3 f hf w hby
  · rw [if_pos (.inl h1)]
    exact rpNewBad B Z typ hB hZ h1 A L c w
end Go.Proofs.YtaomkamdfbibbaaGreat
namespace Go.Proofs.YtaomkamdfbibbaaGreat
open Go.RowKit

set_option maxHeartbeats 1000000 in
theorem fxStepsTake {w : World} {F : Nat → Prop} {g : Nat} {s : Fs} (h : FixAt w F g s) (hF : ∀ k, F k → k < w.heap.size) (x : An) (hx : x.V < 18446744073709551616) (A : Option Addr) (l c : Nat) :
    Calls Tryz.prog 20 #[.pointer (some ⟨g, 2, none⟩), .agg #[.int .u64 x.V, .bool x.D, .slice A l c]] w (FxMoved F g (s.take x) w) := by
  obtain ⟨a, th, hblk, hFg, hok, hpk, hth, hnx⟩ := h
  have hgl := hblk.lt
  have hbare : ∀ W, Below w.heap.size w W → FxBare (seven W g 2 Ac.zero (.slice none 0 0) .nilFunc) F g s := fun W hW => ⟨⟨Ac.zero, fx_seven (hblk.below hW) _ _ _⟩, hFg, hok⟩
  have hkeep : ∀ W, Below w.heap.size w W → ∀ k, F k → k ≠ g → (seven W g 2 Ac.zero (.slice none 0 0) .nilFunc).heap[k]? = w.heap[k]? := fun W hW k hk hkg =>
    ((seven_touch1 W g 2 Ac.zero (.slice none 0 0) .nilFunc).block k (Nat.lt_of_lt_of_le (hF k hk) hW.size) hkg).trans (hW.block k (hF k hk))
  have hTF : ∀ W, Below w.heap.size w W → Touch (fun k => k = g) w (seven W g 2 Ac.zero (.slice none 0 0) .nilFunc) := fun W hW => (Touch.of_below hW).trans (seven_touch1 W g 2 _ _ _)
  have fin : ∀ {k : FuncId} {caps : Array Value} (s' : Fs) (hthv : th = .func (.func k) #[] caps) (args : Array Value) (ha : (#[] : Array Value).push (.agg #[.int .u64 x.V, .bool x.D, .slice A l c]) ++ caps = args) (he : ∀ w, (callFunc k args).run Tryz.prog w = .ok (.enter k args) w)
      (H : ∀ W, Below w.heap.size w W → Calls Tryz.prog k args (seven W g 2 Ac.zero (.slice none 0 0) .nilFunc) (FxMoved F g s' (seven W g 2 Ac.zero (.slice none 0 0) .nilFunc))),
      Calls Tryz.prog 20 #[.pointer (some ⟨g, 2, none⟩), .agg #[.int .u64 x.V, .bool x.D, .slice A l c]] w (FxMoved F g s' w) := by
    intro k caps s' hthv args ha he H
    subst hthv
    refine (stTakeYes hblk.st x.V x.D A l c (Q := fun w' => FxMoved F g s' w (.returned (.tuple #[])) w') args ha he fun W hW => (H W hW).mono fun e w' hm => ?_).mono ?_
    · have h2 := hm.afterT (hTF W hW)
      obtain ⟨rfl, _⟩ := hm
      exact ⟨rfl, h2⟩
    · rintro e w' ⟨rfl, hm⟩
      exact hm
  have moved : ∀ {s' : Fs} {W W2 : World} {e : Ending} {w' : World}, Below W.heap.size W W2 → FxMoved F g s' W2 e w' → e = .returned (.tuple #[]) ∧ FxMoved F g s' W (.returned (.tuple #[])) w' := by
    intro s' W W2 e w' hb hm
    have h2 := hm.afterT (Touch.of_below hb)
    obtain ⟨rfl, _⟩ := hm
    exact ⟨rfl, h2⟩
  have back : ∀ {s' : Fs} {W : World} {e : Ending} {w' : World}, (e = .returned (.tuple #[]) ∧ FxMoved F g s' W (.returned (.tuple #[])) w') → FxMoved F g s' W e w' := by
    rintro s' W e w' ⟨rfl, h⟩
    exact h
  have capt : ∀ {W W2 : World} {b : Nat} {v : Value}, Below w.heap.size w W → Below (seven W g 2 Ac.zero (.slice none 0 0) .nilFunc).heap.size (seven W g 2 Ac.zero (.slice none 0 0) .nilFunc) W2 → Capt w F g b v → Capt W2 F g b v := fun hW hW2 hc =>
    (hc.keep (hkeep _ hW)).keep fun k hk _ => hW2.block k (by rw [seven_size]; exact Nat.lt_of_lt_of_le (hF k hk) hW.size)
  unfold FThen at hth
  unfold Fs.PhOk at hpk
  unfold Fs.take
  cases hph : s.ph with
  | head =>
    rw [hph] at hth
    obtain ⟨b, e, hb⟩ := hth
    exact fin _ e _ (by simp) (fun w => by simp [go_sem]) fun W hW => fxBegin1 (hbare W hW) (hb.keep (hkeep W hW)) x.V x.D A l c hx
  | tail d =>
    rw [hph] at hth
    obtain ⟨b, b2, e, hb, hb2⟩ := hth
    refine fin _ e _ (by simp; rfl) (fun w => by simp [go_sem]) fun W hW => ?_
    by_cases hv : x.V = d
    · simp only [if_pos hv]
      exact fxBegin11Yes (hbare W hW) (hb.keep (hkeep W hW)) (hb2.keep (hkeep W hW)) x.V x.D A l c hv
    · simp only [if_neg hv]
      exact fxBegin11No (hbare W hW) (hb.keep (hkeep W hW)) (hb2.keep (hkeep W hW)) x.V x.D A l c hv
  | hdr =>
    rw [hph] at hth
    obtain ⟨b, e, hb⟩ := hth
    exact fin _ e _ (by simp) (fun w => by simp [go_sem]) fun W hW => fxSpan1 (hbare W hW) (hb.keep (hkeep W hW)) x.V x.D A l c
  | up q =>
    rw [hph] at hth hpk
    obtain ⟨b, on, e, hb, b1, b2, b3, e2, h1, h2, h3⟩ := hth
    subst e2
    refine fin _ e _ (by simp; rfl) (fun w => by simp [go_sem]) fun W hW => ?_
    by_cases hv : x.V % 4294967296 = 0
    · simp only [if_pos hv]
      refine (fxLook1 (Q := fun w' => FxMoved F g (s.ahead (q + 8)) (seven W g 2 Ac.zero (.slice none 0 0) .nilFunc) (.returned (.tuple #[])) w') (hb.keep (hkeep W hW)).2.2 x.V x.D A l c true (by simp; omega) _ (by simp) (fun w => by simp [go_sem]) fun W2 hW2 => (fxAhead1Yes ((hbare W hW).below hW2) hpk (capt hW hW2 h1) (capt hW hW2 h2) (capt hW hW2 h3)).mono fun _ _ hm => moved hW2 hm).mono fun _ _ hm => back hm
    · simp only [if_neg hv]
      refine (fxLook1 (Q := fun w' => FxMoved F g (({ s with m := q } : Fs).back q) (seven W g 2 Ac.zero (.slice none 0 0) .nilFunc) (.returned (.tuple #[])) w') (hb.keep (hkeep W hW)).2.2 x.V x.D A l c false (by simp; omega) _ (by simp) (fun w => by simp [go_sem]) fun W2 hW2 => (fxAhead1No ((hbare W hW).below hW2) hpk (capt hW hW2 h1) (capt hW hW2 h2) (capt hW hW2 h3)).mono fun _ _ hm => moved hW2 hm).mono fun _ _ hm => back hm
  | down q =>
    rw [hph] at hth hpk
    obtain ⟨b, on, e, hb, b1, b2, e2, h1, h2⟩ := hth
    subst e2
    refine fin _ e _ (by simp; rfl) (fun w => by simp [go_sem]) fun W hW => ?_
    by_cases hv : x.V % 4294967296 = 0
    · simp only [if_pos hv]
      refine (fxLook1 (Q := fun w' => FxMoved F g (s.back q) (seven W g 2 Ac.zero (.slice none 0 0) .nilFunc) (.returned (.tuple #[])) w') (hb.keep (hkeep W hW)).2.2 x.V x.D A l c true (by simp; omega) _ (by simp) (fun w => by simp [go_sem]) fun W2 hW2 => (fxBack1Yes ((hbare W hW).below hW2) hpk (capt hW hW2 h1) (capt hW hW2 h2)).mono fun _ _ hm => moved hW2 hm).mono fun _ _ hm => back hm
    · simp only [if_neg hv]
      refine (fxLook1 (Q := fun w' => FxMoved F g { s with ph := .fin } (seven W g 2 Ac.zero (.slice none 0 0) .nilFunc) (.returned (.tuple #[])) w') (hb.keep (hkeep W hW)).2.2 x.V x.D A l c false (by simp; omega) _ (by simp) (fun w => by simp [go_sem]) fun W2 hW2 => (fxBack1No ((hbare W hW).below hW2) b1 b2).mono fun _ _ hm => moved hW2 hm).mono fun _ _ hm => back hm
  | padd n =>
    rw [hph] at hth hpk
    obtain ⟨b, b2, e, hb, hb2⟩ := hth
    exact fin _ e _ (by simp) (fun w => by simp [go_sem]) fun W hW => fxPad1 (hbare W hW) hpk (hb.keep (hkeep W hW)) (hb2.keep (hkeep W hW)) x.V x.D A l c
  | fin =>
    rw [hph] at hth
    have e : th = .nilFunc := hth
    subst e
    refine (stTakeNo hblk.c8 x.V x.D A l c).mono ?_
    rintro e w' ⟨rfl, hb⟩
    refine ⟨rfl, F, ⟨a, _, hblk.below hb, hFg, hok, ?_, ?_, fun b hb' => ?_⟩, Touch.of_below hb, fun k hk => .inl hk⟩
    · unfold Fs.PhOk; rw [hph]; trivial
    · unfold FThen; rw [hph]
    · unfold Fs.next at hb'; rw [hph] at hb'; cases hb'

/-- A fix: one that goes on, or one that never began. -/
inductive Fm where
  | live (s : Fs) | dead
namespace Fm
def next : Fm → Option Ac
  | .live s => s.next
  | .dead => none
def take : Fm → An → Fm
  | .live s, x => .live (s.take x)
  | .dead, _ => .dead
def busy : Fm → Bool
  | .live s => s.next.isSome
  | .dead => false
def size : Fm → Int
  | .live s => s.Z
  | .dead => 0
def fixed : Fm → Int
  | .live s => s.n
  | .dead => 0
/-- How it ended: bytes, an error. -/
def result (m : Fm) : Int × Int := if m.size = 0 then (0, 1) else if m.busy = true then (0, 10) else (m.fixed, 0)
/-- The one that is made. -/
def new (B Z : Int) : Fm := if Rg.right B Z then .live ⟨B.toNat, Z.toNat, 0, 0, 0, 0, .head⟩ else .dead
end Fm

/-- A fix stands in the blocks F, its own block is g. -/
def FmAt (w : World) (F : Nat → Prop) (g : Nat) : Fm → Prop
  | .live s => FixAt w F g s
  | .dead => F g ∧ FxBlk w g ⟨0, 0, 0, 0, 0, 0, .fin⟩ Ac.zero (.slice none 0 0) .nilFunc
/-- What a call on a fix leaves. -/
def FmMoved (F : Nat → Prop) (g : Nat) (m : Fm) (w : World) (e : Ending) (w' : World) : Prop :=
  e = .returned (.tuple #[]) ∧ ∃ F', FmAt w' F' g m ∧ Touch (fun k => k = g) w w' ∧ ∀ k, F' k → F k ∨ (w.heap.size ≤ k ∧ k < w'.heap.size)

theorem FmAt.keep {w w' : World} {F : Nat → Prop} {g : Nat} {m : Fm} (h : FmAt w F g m) (hb : ∀ k, F k → w'.heap[k]? = w.heap[k]?) : FmAt w' F g m := by
  cases m with
  | live s =>
    obtain ⟨a, th, h1, h2, h3, h4, h5, h6⟩ := h
    exact ⟨a, th, h1.of_block (hb g h2), h2, h3, h4, h5.keep (fun k hk _ => hb k hk) fun _ hk => hk, h6⟩
  | dead => exact ⟨h.1, h.2.of_block (hb g h.1)⟩
theorem FmAt.wide {w : World} {F F' : Nat → Prop} {g : Nat} {m : Fm} (h : FmAt w F g m) (hF : ∀ k, F k → F' k) : FmAt w F' g m := by
  cases m with
  | live s =>
    obtain ⟨a, th, h1, h2, h3, h4, h5, h6⟩ := h
    exact ⟨a, th, h1, hF g h2, h3, h4, h5.keep (fun k _ _ => rfl) hF, h6⟩
  | dead => exact ⟨hF g h.1, h.2⟩
theorem FmAt.own {w : World} {F : Nat → Prop} {g : Nat} {m : Fm} (h : FmAt w F g m) : F g := by
  cases m with
  | live s =>
    obtain ⟨a, th, h1, h2, _⟩ := h
    exact h2
  | dead => exact h.1

/-- Something goes on where, and only where, there is a next access. -/
theorem FThen.is {w : World} {F : Nat → Prop} {g : Nat} {s : Fs} {th : Value} (h : FThen w F g s th) : (s.next = none ∧ th = .nilFunc) ∨ (s.next ≠ none ∧ ∃ k rc caps, th = .func (.func k) rc caps) := by
  unfold FThen at h
  unfold Fs.next
  cases hph : s.ph with
  | fin => rw [hph] at h; exact .inl ⟨rfl, h⟩
  | head => rw [hph] at h; obtain ⟨_, e, _⟩ := h; exact .inr ⟨by simp, _, _, _, e⟩
  | tail d => rw [hph] at h; obtain ⟨_, _, e, _⟩ := h; exact .inr ⟨by simp, _, _, _, e⟩
  | hdr => rw [hph] at h; obtain ⟨_, e, _⟩ := h; exact .inr ⟨by simp, _, _, _, e⟩
  | up q => rw [hph] at h; obtain ⟨_, _, e, _⟩ := h; exact .inr ⟨by simp, _, _, _, e⟩
  | down q => rw [hph] at h; obtain ⟨_, _, e, _⟩ := h; exact .inr ⟨by simp, _, _, _, e⟩
  | padd n => rw [hph] at h; obtain ⟨_, _, e, _⟩ := h; exact .inr ⟨by simp, _, _, _, e⟩

set_option maxRecDepth 100000 in
set_option maxHeartbeats 800000 in
theorem fixTakeNil (V : Nat) (D : Bool) (A : Option Addr) (l c : Nat) (w : World) :
    Calls Tryz.prog 9 #[.pointer none, .agg #[.int .u64 V, .bool D, .slice A l c]] w (Made (.tuple #[]) w) := by
  have HW := Lib.hid ((Below.refl w.heap.size w).alloc (Nat.le_refl _) (.cells #[.int .u64 V, .bool D, .slice A l c] 37))
  go_enter Tryz.func9, Tryz.ntmps9
  go_upto_region 1 with (fail)
  generalize w.alloc (.cells #[.int .u64 V, .bool D, .slice A l c] 37) = W at HW ⊢
  go_wp2
  go_end0
  exact ⟨rfl, HW.out⟩

set_option maxRecDepth 100000 in
set_option maxHeartbeats 800000 in
theorem fixTake {w : World} {F : Nat → Prop} {g : Nat} {m : Fm} (h : FmAt w F g m) (hF : ∀ k, F k → k < w.heap.size) (x : An) (hx : x.V < 18446744073709551616) (A : Option Addr) (l c : Nat) :
    Calls Tryz.prog 9 #[.pointer (some ⟨g, 0, none⟩), .agg #[.int .u64 x.V, .bool x.D, .slice A l c]] w (FmMoved F g (m.take x) w) := by
  have hb0 := (Below.refl w.heap.size w).alloc (Nat.le_refl _) (.cells #[.int .u64 x.V, .bool x.D, .slice A l c] 37)
  obtain ⟨x0, x1, x2⟩ := rp_ans_box w x.V x.D A l c
  have HW := Lib.hid hb0
  have HC : Hid (∀ W, Below w.heap.size w W → Calls Tryz.prog 20 #[.pointer (some ⟨g, 2, none⟩), .agg #[.int .u64 x.V, .bool x.D, .slice A l c]] W (FmMoved F g (m.take x) W)) := Lib.hid fun W hW => by
    have hk := h.keep fun k hk => hW.block k (hF k hk)
    cases m with
    | live s => exact (fxStepsTake hk (fun k hk => Nat.lt_of_lt_of_le (hF k hk) hW.size) x hx A l c).mono fun e w' hm => hm
    | dead =>
      refine (stTakeNo hk.2.c8 x.V x.D A l c).mono ?_
      rintro e w' ⟨rfl, hb⟩
      exact ⟨rfl, F, ⟨hk.1, hk.2.below hb⟩, Touch.of_below hb, fun k hk => .inl hk⟩
  have hng : ¬ w.heap.size = g := fun e => Nat.lt_irrefl _ (e ▸ hF _ h.own)
  clear h hF hb0
  go_enter Tryz.func9, Tryz.ntmps9
  go_upto_region 1 with (fail)
  generalize w.alloc (.cells #[.int .u64 x.V, .bool x.D, .slice A l c] 37) = W at HW x0 x1 x2 ⊢
  go_upto_region 2 with (fail)
  go_region_held3 (fun w' => w'.cell? ⟨w.heap.size, 0, none⟩ = some (.int .u64 x.V) ∧ w'.cell? ⟨w.heap.size, 1, none⟩ = some (.bool x.D) ∧ w'.cell? ⟨w.heap.size, 2, none⟩ = some (.slice A l c)) (go_keep)
    (first | (go_at_call 20; refine (HC.out W.drew HW.out.drew).mono ?_; intro e w3 hm; have HM := Lib.hid hm; obtain ⟨rfl, F', hp, ht, hF'⟩ := hm; have y0 := (ht.cell (p := ⟨w.heap.size, 0, none⟩) (lt_of_cell x0) hng).trans x0; have y1 := (ht.cell (p := ⟨w.heap.size, 1, none⟩) (lt_of_cell x0) hng).trans x1; have y2 := (ht.cell (p := ⟨w.heap.size, 2, none⟩) (lt_of_cell x0) hng).trans x2))
  all_goals
    go_wp2
    go_end0
    exact ⟨rfl, F', hp, (Touch.of_below HW.out.drew).trans ht, fun k hk => (hF' k hk).imp id fun h => ⟨Nat.le_trans HW.out.size h.1, h.2⟩⟩

set_option maxRecDepth 100000 in
set_option maxHeartbeats 800000 in
theorem fixNextNil (w : World) : Calls Tryz.prog 8 #[.pointer none] w (NextTold none w) := by
  have HA := AccNew.made w
  have HW := Lib.hid ((Below.refl w.heap.size w).alloc (Nat.le_refl _) (.cells #[.int .i64 0, .int .i64 0, .int .i64 0, .int .u64 0, .int .u64 0, .slice none 0 0] 32))
  go_enter Tryz.func8, Tryz.ntmps8
  go_upto_region 1 with (fail)
  generalize w.alloc (.cells #[.int .i64 0, .int .i64 0, .int .i64 0, .int .u64 0, .int .u64 0, .slice none 0 0] 32) = W at HA HW ⊢
  obtain ⟨a0, a1, a2, a3, a4, a5, f0, f1, f2, f3, f4, f5, hbk⟩ := HA
  go_wp2
  refine bodyPost_ret (v := .tuple #[.agg #[.int .i64 0, .int .i64 0, .int .i64 0, .int .u64 0, .int .u64 0, .slice none 0 0], .bool false]) (by simp [results, Tryz.results8, go_sem, a0, a1, a2, a3, a4, a5]) rfl ?_
  exact ⟨six_below HW.out (Nat.le_refl _) _ _ _ _ _ _, rfl⟩

theorem Fm.fine {w : World} {F : Nat → Prop} {g : Nat} {m : Fm} (h : FmAt w F g m) {a : Ac} (ha : m.next = some a) : a.Fine := by
  cases m with
  | dead => cases ha
  | live s =>
    obtain ⟨a0, th, h1, h2, ok, h4, h5, h6⟩ := h
    have okr := ok.rg
    have z1 := okr.z1
    have b1 := okr.b1
    have jn_lt : ∀ x y : Int, (Hd.jn x y).toNat < 18446744073709551616 := fun x y => by have := Hd.jn_bounds x y; omega
    have num : ∀ k : Int, 0 ≤ k → k ≤ 16 → -9223372036854775808 ≤ Rg.num s.B s.Z k ∧ Rg.num s.B s.Z k ≤ 9223372036854775807 := fun k _ _ => by unfold Rg.num; omega
    have spot : ∀ v : Int, 0 ≤ Rg.spot s.B s.Z v ∧ Rg.spot s.B s.Z v ≤ 140000 := fun v => by have := okr.place_in v; unfold Rg.spot; omega
    have mk : ∀ (K P N : Int) (V U : Nat), (0 ≤ K ∧ K ≤ 8) → (-9223372036854775808 ≤ P ∧ P ≤ 9223372036854775807) → (0 ≤ N ∧ N ≤ 8) → V < 18446744073709551616 → U < 18446744073709551616 → Ac.Fine ⟨K, P, N, V, U, []⟩ := fun K P N V U h1 h2 h3 h4 h5 => ⟨h4, h5, ⟨by show _ ≤ K; omega, by show K ≤ _; omega⟩, h2, ⟨by show _ ≤ N; omega, by show N ≤ _; omega⟩, Bys.nil, by show (0 : Nat) ≤ _; omega⟩
    have ha' : s.next = some a := ha
    unfold Fs.next at ha'
    cases hph : s.ph with
    | fin => rw [hph] at ha'; cases ha'
    | head => rw [hph] at ha'; injection ha' with e; subst e; exact mk _ _ _ _ _ (by omega) (num _ (by omega) (by omega)) (by omega) (by omega) (by omega)
    | tail d => rw [hph] at ha'; injection ha' with e; subst e; exact mk _ _ _ _ _ (by omega) (num _ (by omega) (by omega)) (by omega) (by omega) (by omega)
    | hdr => rw [hph] at ha'; injection ha' with e; subst e; have := spot s.a; exact mk _ _ _ _ _ (by omega) (by omega) (by omega) (by omega) (by omega)
    | up q => rw [hph] at ha'; injection ha' with e; subst e; have := spot q; exact mk _ _ _ _ _ (by omega) (by omega) (by omega) (by omega) (by omega)
    | down q => rw [hph] at ha'; injection ha' with e; subst e; have := spot q; exact mk _ _ _ _ _ (by omega) (by omega) (by omega) (by omega) (by omega)
    | padd n => rw [hph] at ha'; injection ha' with e; subst e; have := spot s.a; exact mk _ _ _ _ _ (by omega) (by omega) (by omega) (jn_lt _ _) (by omega)

theorem Fs.next_bs {s : Fs} {b : Ac} (h : s.next = some b) : b.bs = [] := by
  unfold Fs.next at h
  cases hph : s.ph <;> (rw [hph] at h; first | (cases h; done) | (injection h with e; subst e; rfl))

set_option maxRecDepth 100000 in
set_option maxHeartbeats 800000 in
theorem fixNext {w : World} {F : Nat → Prop} {g : Nat} {m : Fm} (h : FmAt w F g m) (hF : ∀ k, F k → k < w.heap.size) :
    Calls Tryz.prog 8 #[.pointer (some ⟨g, 0, none⟩)] w (NextTold m.next w) := by
  have HA := Lib.hid (AccNew.made w)
  have HW := Lib.hid ((Below.refl w.heap.size w).alloc (Nat.le_refl _) (.cells #[.int .i64 0, .int .i64 0, .int .i64 0, .int .u64 0, .int .u64 0, .slice none 0 0] 32))
  have HC : Hid (∀ W, Below w.heap.size w W → Calls Tryz.prog 19 #[.pointer (some ⟨g, 2, none⟩)] W (NextTold m.next W)) := Lib.hid fun W hW => by
    have hk := h.keep fun k hk => hW.block k (hF k hk)
    have hfine := fun a (ha : m.next = some a) => Fm.fine hk ha
    cases m with
    | live s =>
      obtain ⟨a, th, h1, h2, h3, h4, h5, h6⟩ := hk
      show Calls _ _ _ _ (NextTold s.next W)
      rcases h5.is with ⟨e1, e2⟩ | ⟨e1, k, rc, caps, e2⟩
      · rw [e1]
        have := h1.c8
        rw [e2] at this
        exact stNextNo this
      · cases hn : s.next with
        | none => exact absurd hn e1
        | some b =>
          have e3 := h6 b hn
          subst e3
          subst e2
          exact stNextYes h1.st (by rw [Fs.next_bs hn]; exact BytesAt.nil W) (hfine a hn).few
    | dead => exact stNextNo hk.2.c8
  generalize m.next = o at HC ⊢
  clear h hF
  go_enter Tryz.func8, Tryz.ntmps8
  go_upto_region 1 with (fail)
  generalize w.alloc (.cells #[.int .i64 0, .int .i64 0, .int .i64 0, .int .u64 0, .int .u64 0, .slice none 0 0] 32) = W at HA HW ⊢
  cases o with
  | none =>
    go_wp2_with (go_at_call 19; refine (HC.out W HW.out).mono ?_; rintro e w2 ⟨hb, rfl⟩; obtain ⟨a0, a1, a2, a3, a4, a5, f0, f1, f2, f3, f4, f5, hbk⟩ := HA.out.later hb)
    refine bodyPost_ret (v := .tuple #[.agg #[.int .i64 0, .int .i64 0, .int .i64 0, .int .u64 0, .int .u64 0, .slice none 0 0], .bool false]) (by simp [results, Tryz.results8, go_sem, a0, a1, a2, a3, a4, a5]) rfl ?_
    exact ⟨six_below (HW.out.trans (hb.mono HW.out.size)) (Nat.le_refl _) _ _ _ _ _ _, rfl⟩
  | some a =>
    go_wp2_with (go_at_call 19; refine (HC.out W HW.out).mono ?_; rintro e w2 ⟨hb, A, l, c, rfl, ho⟩; obtain ⟨a0, a1, a2, a3, a4, a5, f0, f1, f2, f3, f4, f5, hbk⟩ := HA.out.later hb; have HO := Lib.hid ho)
    refine bodyPost_ret (v := .tuple #[.agg #[.int .i64 a.K, .int .i64 a.P, .int .i64 a.N, .int .u64 a.V, .int .u64 a.U, .slice A l c], .bool true]) (by simp [results, Tryz.results8, go_sem, a0, a1, a2, a3, a4, a5]) rfl ?_
    exact ⟨six_below (HW.out.trans (hb.mono HW.out.size)) (Nat.le_refl _) _ _ _ _ _ _, A, l, c, rfl, (six_own HO.out (Array.getElem?_eq_some_iff.1 HA.out.blk).1 _ _ _ _ _ _).down HW.out.size⟩

set_option maxRecDepth 100000 in
theorem fixResultNil (w : World) : Calls Tryz.prog 10 #[.pointer none] w (fun e w' => e = .returned (.tuple #[.int .i64 0, .int .i64 1]) ∧ w = w') := by
  go_enter Tryz.func10, Tryz.ntmps10
  go_wp2
  refine bodyPost_ret (v := .tuple #[.int .i64 0, .int .i64 1]) (by simp [results, Tryz.results10, go_sem]) rfl ?_
  exact ⟨rfl, rfl⟩

set_option maxRecDepth 100000 in
set_option maxHeartbeats 800000 in
theorem fixResult {w : World} {F : Nat → Prop} {g : Nat} {m : Fm} (h : FmAt w F g m) : Calls Tryz.prog 10 #[.pointer (some ⟨g, 0, none⟩)] w (fun e w' => e = .returned (.tuple #[.int .i64 m.result.1, .int .i64 m.result.2]) ∧ w = w') := by
  have hc : w.cell? ⟨g, 1, none⟩ = some (.int .i64 m.size) ∧ w.cell? ⟨g, 12, none⟩ = some (.int .i32 m.fixed) ∧ (-8192 ≤ m.fixed ∧ m.fixed ≤ 8192) ∧
      Calls Tryz.prog 21 #[.pointer (some ⟨g, 2, none⟩)] w (fun e w' => e = .returned (.bool m.busy) ∧ w = w') := by
    cases m with
    | live s =>
      obtain ⟨a, th, h1, _, h3, _, h5, _⟩ := h
      refine ⟨h1.c1, h1.c12, h3.n0, ?_⟩
      have h8 := h1.c8
      rcases h5.is with ⟨e1, e2⟩ | ⟨e1, k, rc, caps, e2⟩
      · rw [e2] at h8
        have hb : (Fm.live s).busy = false := by show s.next.isSome = false; rw [e1]; rfl
        rw [hb]
        exact stBusyNo h8
      · rw [e2] at h8
        have hb : (Fm.live s).busy = true := by
          show s.next.isSome = true
          cases hn : s.next with
          | none => exact absurd hn e1
          | some b => rfl
        rw [hb]
        exact stBusyYes k rc caps h8
    | dead => exact ⟨h.2.c1, h.2.c12, by simp [Fm.fixed], stBusyNo h.2.c8⟩
  obtain ⟨c1, c12, hn, hB⟩ := hc
  unfold Fm.result
  generalize m.size = Z at c1 ⊢
  generalize m.fixed = n at c12 hn ⊢
  generalize m.busy = bs at hB ⊢
  have HB := Lib.hid hB
  have e1 : IntKind.i64.wrap n = n := IntWalk.i64_in _ (by omega)
  clear h hB hn
  by_cases hz : Z = 0
  · subst hz
    rw [if_pos rfl]
    go_enter Tryz.func10, Tryz.ntmps10
    go_wp2
    refine bodyPost_ret (v := .tuple #[.int .i64 0, .int .i64 1]) (by simp [results, Tryz.results10, go_sem]) rfl ?_
    exact ⟨rfl, rfl⟩
  · rw [if_neg hz]
    have hd : decide (Z = 0) = false := by simpa using hz
    cases bs with
    | true =>
      rw [if_pos rfl]
      go_enter Tryz.func10, Tryz.ntmps10
      go_wp2_with (go_at_call 21; refine HB.out.mono ?_; rintro e w2 ⟨rfl, rfl⟩)
      refine bodyPost_ret (v := .tuple #[.int .i64 0, .int .i64 10]) (by simp [results, Tryz.results10, go_sem]) rfl ?_
      exact ⟨rfl, rfl⟩
    | false =>
      rw [if_neg (by decide)]
      go_enter Tryz.func10, Tryz.ntmps10
      go_wp2_with (go_at_call 21; refine HB.out.mono ?_; rintro e w2 ⟨rfl, rfl⟩)
      refine bodyPost_ret (v := .tuple #[.int .i64 n, .int .i64 0]) (by simp [results, Tryz.results10, go_sem]) rfl ?_
      exact ⟨rfl, rfl⟩

/-- A fix was made: it stands in new memory. -/
def FNewIs (m : Fm) (w : World) (e : Ending) (w' : World) : Prop :=
  ∃ g, e = .returned (.pointer (some ⟨g, 0, none⟩)) ∧ FmAt w' (fun k => w.heap.size ≤ k ∧ k < w'.heap.size) g m ∧ Below w.heap.size w w'

set_option maxRecDepth 100000 in
set_option maxHeartbeats 800000 in
theorem fxNewBad (B Z : Int) (hB : -9223372036854775808 ≤ B ∧ B ≤ 9223372036854775807) (hZ : -9223372036854775808 ≤ Z ∧ Z ≤ 9223372036854775807) (hbad : ¬ Rg.right B Z) (w : World) :
    Calls Tryz.prog 6 #[.agg #[.int .i64 B, .int .i64 Z]] w (FNewIs .dead w) := by
  have hb0 := un_below w (.int .i64 B) (.int .i64 Z) 23
  have hx := Go.Deep.blk_alloc_new w (.cells #[.int .i64 B, .int .i64 Z] 23)
  have HBZ := Lib.hid (And.intro hB hZ)
  have HN := Lib.hid hbad
  clear hB hZ hbad
  go_enter Tryz.func6, Tryz.ntmps6
  go_upto_region 1 with (fail)
  generalize w.alloc (.cells #[.int .i64 B, .int .i64 Z] 23) = W at hb0 hx ⊢
  have x0 : W.cell? ⟨w.heap.size, 0, none⟩ = some (.int .i64 B) := by simp [World.cell?, hx]
  have x1 : W.cell? ⟨w.heap.size, 1, none⟩ = some (.int .i64 Z) := by simp [World.cell?, hx]
  clear hx
  go_wp2_with (go_at_call 15; refine (rpCheck B Z HBZ.out.1 HBZ.out.2 W).mono ?_; rintro e w2 ⟨rfl, hb⟩; rw [if_neg HN.out])
  go_ret
  have hw2 := hb0.trans (hb.mono hb0.size)
  exact ⟨w2.heap.size, rfl, ⟨⟨hw2.size, by simp⟩, Go.Deep.blk_alloc_new _ _⟩, hw2.alloc hw2.size _⟩

/-- The block of a fix that is made. -/
theorem fx_made {w w4 W5 : World} {B Z : Int} (hW5 : W5 = w4.alloc (.cells #[.int .i64 B, .int .i64 Z, .int .i64 0, .int .i64 0, .int .i64 0, .int .u64 0, .int .u64 0, .slice none 0 0, .nilFunc, .int .i64 0, .int .i64 0, .int .i64 0, .int .i32 0] 57))
    (hb : Below w.heap.size w w4) (hr : Rg.right B Z) : FxBare W5 (fun k => w.heap.size ≤ k ∧ k < W5.heap.size) w4.heap.size ⟨B.toNat, Z.toNat, 0, 0, 0, 0, .head⟩ := by
  obtain ⟨h1, h2, h3, h4, h5, h6⟩ := hr
  have hB : ((B.toNat : Nat) : Int) = B := Int.toNat_of_nonneg h4
  have hZ : ((Z.toNat : Nat) : Int) = Z := Int.toNat_of_nonneg (by omega)
  have hsz : W5.heap.size = w4.heap.size + 1 := by rw [hW5]; simp
  refine ⟨⟨Ac.zero, ?_⟩, ⟨hb.size, by omega⟩, ⟨⟨by rw [← h1, hZ], by simp only; omega, by simp only; omega, by simp only; omega, by simp only; omega⟩, by simp only; omega, by simp only; omega, by simp only; omega, by simp only; omega⟩⟩
  unfold FxBlk
  rw [hW5, Go.Deep.blk_alloc_new]
  simp only [FxCells, hB, hZ, Ac.zero]
  rfl

set_option maxRecDepth 100000 in
set_option maxHeartbeats 800000 in
theorem fxNewOk (B Z : Int) (hB : -9223372036854775808 ≤ B ∧ B ≤ 9223372036854775807) (hZ : -9223372036854775808 ≤ Z ∧ Z ≤ 9223372036854775807) (hok : Rg.right B Z) (w : World) :
    Calls Tryz.prog 6 #[.agg #[.int .i64 B, .int .i64 Z]] w (FNewIs (.live ⟨B.toNat, Z.toNat, 0, 0, 0, 0, .head⟩) w) := by
  have hb0 := un_below w (.int .i64 B) (.int .i64 Z) 23
  have hx := Go.Deep.blk_alloc_new w (.cells #[.int .i64 B, .int .i64 Z] 23)
  have HBZ := Lib.hid (And.intro hB hZ)
  have HN := Lib.hid hok
  clear hB hZ hok
  go_enter Tryz.func6, Tryz.ntmps6
  go_upto_region 1 with (fail)
  generalize w.alloc (.cells #[.int .i64 B, .int .i64 Z] 23) = W at hb0 hx ⊢
  have x0 : W.cell? ⟨w.heap.size, 0, none⟩ = some (.int .i64 B) := by simp [World.cell?, hx]
  have x1 : W.cell? ⟨w.heap.size, 1, none⟩ = some (.int .i64 Z) := by simp [World.cell?, hx]
  have hlx := (Array.getElem?_eq_some_iff.1 hx).1
  clear hx
  go_upto_region 4 with (go_at_call 15; refine (rpCheck B Z HBZ.out.1 HBZ.out.2 W).mono ?_; rintro e w2 ⟨rfl, hb⟩; rw [if_pos HN.out]; have y0 := (hb.cell (p := ⟨w.heap.size, 0, none⟩) hlx).trans x0; have y1 := (hb.cell (p := ⟨w.heap.size, 1, none⟩) hlx).trans x1)
  have hw2 := hb0.trans (hb.mono hb0.size)
  obtain ⟨W5, hW5⟩ : ∃ W5, W5 = w2.alloc (.cells #[.int .i64 B, .int .i64 Z, .int .i64 0, .int .i64 0, .int .i64 0, .int .u64 0, .int .u64 0, .slice none 0 0, .nilFunc, .int .i64 0, .int .i64 0, .int .i64 0, .int .i32 0] 57) := ⟨_, rfl⟩
  have hmade := fx_made (w := w) hW5 hw2 HN.out
  have hbk : Below w.heap.size w W5 := by rw [hW5]; exact hw2.alloc hw2.size _
  rw [← hW5]
  have HM := Lib.hid (fxBegin hmade)
  have HBK := Lib.hid hbk
  have hgw := hw2.size
  clear hW5 hmade hbk hb0 hb y0 y1 hw2 hlx x0 x1
  go_wp2_with (go_at_call 16; refine HM.out.mono ?_; intro e w6 hm; have HMM := Lib.hid hm; obtain ⟨rfl, _⟩ := hm)
  go_ret
  obtain ⟨_, F', hp, ht, hF'⟩ := HMM.out
  refine ⟨_, rfl, ?_, ht.below HBK.out HBK.out.size fun k hk => by have e : k = w2.heap.size := hk; rw [e]; exact hgw⟩
  refine FmAt.wide (m := .live _) hp fun k hk => ?_
  rcases hF' k hk with e | e
  · exact ⟨e.1, Nat.lt_of_lt_of_le e.2 ht.size⟩
  · exact ⟨Nat.le_trans HBK.out.size e.1, e.2⟩

theorem fxNew (B Z : Int) (hB : -9223372036854775808 ≤ B ∧ B ≤ 9223372036854775807) (hZ : -9223372036854775808 ≤ Z ∧ Z ≤ 9223372036854775807) (w : World) :
    Calls Tryz.prog 6 #[.agg #[.int .i64 B, .int .i64 Z]] w (FNewIs (Fm.new B Z) w) := by
  unfold Fm.new
  by_cases h1 : Rg.right B Z
  · rw [if_pos h1]
    exact fxNewOk B Z hB hZ h1 w
  · rw [if_neg h1]
    exact fxNewBad B Z hB hZ h1 w
end Go.Proofs.YtaomkamdfbibbaaGreat
namespace Go.Proofs.YtaomkamdfbibbaaGreat
open Go.ChangeShapes Go.WideShapes Go.ChangeAt Go.RowKit Go.Deep

/-- An answer: its number, whether it stored, where its bytes stand, and which they are. -/
structure Ans where
  V : Nat
  D : Bool
  A : Option Addr
  L : Nat
  cap : Nat
  f : Nat → Nat

namespace Ans
/-- Its slice. -/
def sl (x : Ans) : Value := .slice x.A x.L x.cap
/-- Its bytes. -/
def bs (x : Ans) : List Int := Mb.bl x.f 0 x.L
/-- It reads so in w. -/
structure Is (x : Ans) (w : World) : Prop where
  num : x.V < 18446744073709551616
  isB : Mb.IsB x.f
  bytes : BytesAt w (.slice x.A x.L x.cap) (Mb.bl x.f 0 x.L)
  room : x.L ≤ x.cap
  few : x.cap ≤ 9223372036854775807
end Ans

theorem answerOne : Tryz.prog.cellsOf 37 = 3 := by kernel_rfl

set_option maxRecDepth 100000 in
theorem answer_cells {H : Type} {enc : TypeId × Value → H} {W : World} {fuel : Nat} {cs : List Value} {x : DataW H × List MemPlace} (hsz : cs.length = 3)
    (h : DataW.trod enc Tryz.prog W 0 (fun _ => true) true fuel 37 cs = some x) :
    ∃ y : Ans, cs = [.int .u64 y.V, .bool y.D, y.sl] ∧ y.Is W := by
  match cs, hsz with
  | [v0, v1, v2], _ =>
    obtain ⟨xs, n, _, _, _, hlen, hg⟩ := DataW.trod_struct Tryz.underlying37 h
    have g0 := hg 0 _ rfl
    have g1 := hg 1 _ rfl
    have g2 := hg 2 _ rfl
    have cU : Tryz.prog.cellsOf 29 = 1 := by kernel_rfl
    have cD : Tryz.prog.cellsOf 4 = 1 := by kernel_rfl
    have cB : Tryz.prog.cellsOf 30 = 1 := by kernel_rfl
    match xs, hlen with
    | [y0, y1, y2], _ =>
      simp [cU, cD, cB] at g0 g1 g2
      obtain ⟨V, e0, _, w0⟩ := DataW.trod_int Tryz.underlying29 g0
      obtain ⟨D, e1, _⟩ := DataW.trod_bool Tryz.underlying4 g1
      obtain ⟨A, L, cap, f, e2, h1, h2, h3, h4⟩ := bytes_cell g2
      simp only [List.cons.injEq, and_true] at e0 e1 e2
      subst e0 e1 e2
      have b0 := u64_wide w0
      obtain ⟨V, rfl⟩ := Int.eq_ofNat_of_zero_le b0.1
      exact ⟨⟨V, D, A, L, cap, f⟩, rfl, by show V < 18446744073709551616; omega, h1, h2, h3, h4⟩

set_option maxRecDepth 100000 in
theorem open_answer {H : Type} {enc : TypeId × Value → H} {W : World} {base : Nat} {v : Value} {d : DataW H} {ps : List MemPlace}
    (hv : Value.okWide Tryz.prog W .any base 37 v) (h : DataW.Trod enc Tryz.prog W 0 (fun _ => true) true 37 v d ps) :
    ∃ y : Ans, v = .agg #[.int .u64 y.V, .bool y.D, .slice y.A y.L y.cap] ∧ y.Is W := by
  obtain ⟨cs, rfl, hsz⟩ := okWide_struct Tryz.underlying37 hv
  obtain ⟨l⟩ := cs
  rw [answerOne] at hsz
  obtain ⟨fuel, hf⟩ := h
  obtain ⟨y, hy, hi⟩ := answer_cells (by simpa [Value.cells] using hsz) hf
  refine ⟨y, ?_, hi⟩
  simp [Value.cells] at hy
  rw [hy]
  rfl

/-- A slice of n answers that reads as T. -/
def ToldAt (W : World) (A : Option Addr) (n : Nat) (T : Nat → Ans) : Prop :=
  0 < n → ∃ b off, A = some ⟨b, off, none⟩ ∧ b < W.heap.size ∧ ∀ i, i < n → W.cell? ⟨b, off + i * 3, none⟩ = some (.int .u64 (T i).V) ∧ W.cell? ⟨b, off + i * 3 + 1, none⟩ = some (.bool (T i).D) ∧ W.cell? ⟨b, off + i * 3 + 2, none⟩ = some (.slice (T i).A (T i).L (T i).cap) ∧ (T i).Is W

set_option maxRecDepth 100000 in
theorem open_answers {H : Type} {enc : TypeId × Value → H} {W : World} {base : Nat} {v : Value} {d : DataW H} {ps : List MemPlace}
    (hv : Value.okWide Tryz.prog W .any base 24 v) (h : DataW.Trod enc Tryz.prog W 0 (fun _ => true) true 24 v d ps) :
    ∃ (A : Option Addr) (L cap : Nat) (T : Nat → Ans), v = .slice A L cap ∧ ToldAt W A L T ∧ L ≤ cap ∧ cap ≤ 9223372036854775807 := by
  obtain ⟨a0, len0, cap0, rfl⟩ := okWide_slice Tryz.underlying24 hv
  obtain ⟨fuel, hf⟩ := h
  rcases open_slice Tryz.underlying24 hf with ⟨hcs, _⟩ | ⟨a, len, cap, m, n, D, Pl, hcs, hb, hl, hm, hmm, _, hi⟩
  · simp [Value.cells] at hcs
    obtain ⟨rfl, rfl, rfl⟩ := hcs
    exact ⟨none, 0, 0, fun _ => ⟨0, false, none, 0, 0, fun _ => 0⟩, rfl, fun h => absurd h (Nat.lt_irrefl 0), Nat.le_refl _, by decide⟩
  · simp [Value.cells] at hcs
    obtain ⟨rfl, rfl, rfl⟩ := hcs
    simp only [if_true] at hmm
    rw [answerOne] at hi
    have hx : ∀ i, i < m → ∃ y : Ans, (∀ j : Nat, j < 3 → W.cell? ((a.add (i * 3)).add j) = ([.int .u64 y.V, .bool y.D, y.sl] : List Value)[j]?) ∧ y.Is W := by
      intro i him
      obtain ⟨cs', hc, ht'⟩ := hi i him
      obtain ⟨_, hcl, hat⟩ := World.cells?_some hc
      obtain ⟨y, hy, his⟩ := answer_cells hcl ht'
      subst hy
      exact ⟨y, hat, his⟩
    have hT : ∃ T : Nat → Ans, ∀ i, i < m → (∀ j : Nat, j < 3 → W.cell? ((a.add (i * 3)).add j) = ([.int .u64 (T i).V, .bool (T i).D, (T i).sl] : List Value)[j]?) ∧ (T i).Is W := by
      refine ⟨fun i => if h : i < m then Classical.choose (hx i h) else ⟨0, false, none, 0, 0, fun _ => 0⟩, fun i him => ?_⟩
      simp only [dif_pos him]
      exact Classical.choose_spec (hx i him)
    obtain ⟨T, hT⟩ := hT
    refine ⟨some a, _, _, T, rfl, fun hp => ?_, hl, by unfold maxLen at hm; omega⟩
    obtain ⟨b, off, spot⟩ := a
    have h00 := (hT 0 (by omega)).1 0 (by decide)
    have hspot : spot = none := by simpa [Addr.add] using World.cell?_spot h00
    subst hspot
    refine ⟨b, off, rfl, ?_, fun i him => ?_⟩
    · rcases Nat.lt_or_ge b W.heap.size with hlt | hge
      · exact hlt
      · simp [World.cell?, Addr.add, Array.getElem?_eq_none hge] at h00
    · obtain ⟨hc, his⟩ := hT i (by omega)
      have e : ∀ j, ((⟨b, off, none⟩ : Addr).add (i * 3)).add j = ⟨b, off + i * 3 + j, none⟩ := fun j => by
        unfold Addr.add
        split <;> split <;> simp_all
      have c0 := hc 0 (by decide)
      have c1 := hc 1 (by decide)
      have c2 := hc 2 (by decide)
      rw [e] at c0 c1 c2
      exact ⟨c0, c1, c2, his⟩

theorem Ans.Is.below {x : Ans} {w w' : World} (h : x.Is w) (hb : Below w.heap.size w w') : x.Is w' := ⟨h.num, h.isB, h.bytes.below hb, h.room, h.few⟩

theorem ToldAt.below {W W' : World} {A : Option Addr} {n : Nat} {T : Nat → Ans} (h : ToldAt W A n T) (hb : Below W.heap.size W W') : ToldAt W' A n T := by
  intro hp
  obtain ⟨b, off, e, hlt, hc⟩ := h hp
  refine ⟨b, off, e, Nat.lt_of_lt_of_le hlt hb.size, fun i hi => ?_⟩
  obtain ⟨c0, c1, c2, his⟩ := hc i hi
  have k := fun j => hb.cell (p := ⟨b, j, none⟩) hlt
  exact ⟨(k _).trans c0, (k _).trans c1, (k _).trans c2, his.below hb⟩
end Go.Proofs.YtaomkamdfbibbaaGreat
namespace Go.Proofs.YtaomkamdfbibbaaGreat
open Go.RowKit

/-- A tape stands at block p: n answers, j of them taken; what it wants. -/
structure Tp (w : World) (p : Nat) (A : Option Addr) (cap n j : Nat) (K P N V U : Int) (s : Value) (e : Bool) : Prop where
  blk : w.heap[p]? = some (.cells #[.slice A n cap, .int .i64 j, .int .i64 K, .int .i64 P, .int .i64 N, .int .u64 V, .int .u64 U, s, .bool e] 60 (0, 0))

namespace Tp
variable {w w' : World} {p cap n j : Nat} {A : Option Addr} {K P N V U : Int} {s : Value} {e : Bool}
theorem lt (h : Tp w p A cap n j K P N V U s e) : p < w.heap.size := (Array.getElem?_eq_some_iff.1 h.blk).1
theorem of_block (h : Tp w p A cap n j K P N V U s e) (hb : w'.heap[p]? = w.heap[p]?) : Tp w' p A cap n j K P N V U s e := ⟨hb.trans h.blk⟩
theorem below (h : Tp w p A cap n j K P N V U s e) (hb : Below w.heap.size w w') : Tp w' p A cap n j K P N V U s e := h.of_block (hb.block p h.lt)
theorem c0 (h : Tp w p A cap n j K P N V U s e) : w.cell? ⟨p, 0, none⟩ = some (.slice A n cap) := by simp [World.cell?, h.blk]
theorem c1 (h : Tp w p A cap n j K P N V U s e) : w.cell? ⟨p, 1, none⟩ = some (.int .i64 j) := by simp [World.cell?, h.blk]
theorem c2 (h : Tp w p A cap n j K P N V U s e) : w.cell? ⟨p, 2, none⟩ = some (.int .i64 K) := by simp [World.cell?, h.blk]
theorem c3 (h : Tp w p A cap n j K P N V U s e) : w.cell? ⟨p, 3, none⟩ = some (.int .i64 P) := by simp [World.cell?, h.blk]
theorem c4 (h : Tp w p A cap n j K P N V U s e) : w.cell? ⟨p, 4, none⟩ = some (.int .i64 N) := by simp [World.cell?, h.blk]
theorem c5 (h : Tp w p A cap n j K P N V U s e) : w.cell? ⟨p, 5, none⟩ = some (.int .u64 V) := by simp [World.cell?, h.blk]
theorem c6 (h : Tp w p A cap n j K P N V U s e) : w.cell? ⟨p, 6, none⟩ = some (.int .u64 U) := by simp [World.cell?, h.blk]
theorem c7 (h : Tp w p A cap n j K P N V U s e) : w.cell? ⟨p, 7, none⟩ = some s := by simp [World.cell?, h.blk]
theorem c8 (h : Tp w p A cap n j K P N V U s e) : w.cell? ⟨p, 8, none⟩ = some (.bool e) := by simp [World.cell?, h.blk]
theorem free (h : Tp w p A cap n j K P N V U s e) (i : Nat) : w.frozen? ⟨p, i, none⟩ = false := by simp [World.frozen?, h.blk]
end Tp

/-- The one block p. -/
def One (p k : Nat) : Prop := k = p

/-- A tape that knows no more: it wants the access. -/
def Wants (p : Nat) (A : Option Addr) (cap n j : Nat) (K P N V U : Int) (s : Value) (w : World) (e : Ending) (w' : World) : Prop :=
  e = .returned (.tuple #[.agg #[.int .u64 0, .bool false, .slice none 0 0], .bool false]) ∧ Tp w' p A cap n j K P N V U s true ∧ Touch (One p) w w'

/-- A tape that tells the next answer. -/
def Tells (x : Ans) (p : Nat) (A : Option Addr) (cap n j : Nat) (K P N V U : Int) (s : Value) (w : World) (e : Ending) (w' : World) : Prop :=
  e = .returned (.tuple #[.agg #[.int .u64 x.V, .bool x.D, .slice x.A x.L x.cap], .bool true]) ∧ Tp w' p A cap n (j + 1) K P N V U s false ∧ Touch (One p) w w'

theorem blk_set {w : World} {g i : Nat} {cs : Array Value} {t : TypeId} (h : w.heap[g]? = some (.cells cs t (0, 0))) (u : Value) : (w.setCell ⟨g, i, none⟩ u).heap[g]? = some (.cells (cs.setIfInBounds i u) t (0, 0)) := by
  simp [World.setCell, Array.getElem?_modify, h]

theorem blk_far {w : World} {g g' i : Nat} {o : Obj} (h : w.heap[g]? = some o) (hn : g ≠ g') (u : Value) : (w.setCell ⟨g', i, none⟩ u).heap[g]? = some o := (Below.heap_setCell w ⟨g', i, none⟩ u g hn).trans h

set_option maxRecDepth 100000 in
set_option maxHeartbeats 1000000 in
theorem tapeDo_wants {w : World} {p cap n : Nat} {A B : Option Addr} {K0 P0 N0 V0 U0 : Int} {A0 : Option Addr} {L0 c0 : Nat} (h : Tp w p A cap n n K0 P0 N0 V0 U0 (.slice A0 L0 c0) false) (K P N V U : Int) (L c : Nat) :
    Calls Tryz.prog 53 #[.pointer (some ⟨p, 0, none⟩), .agg #[.int .i64 K, .int .i64 P, .int .i64 N, .int .u64 V, .int .u64 U, .slice B L c]] w (Wants p A cap n n K P N V U (.slice B L c) w) := by
  have hlt := h.lt
  have HW := ((Below.refl w.heap.size w).alloc (Nat.le_refl _) (.cells #[.int .i64 K, .int .i64 P, .int .i64 N, .int .u64 V, .int .u64 U, .slice B L c] 32)).alloc (by simp) (.cells #[.int .u64 0, .bool false, .slice none 0 0] 37)
  have hX := (Below.heap_alloc _ (.cells #[.int .u64 0, .bool false, .slice none 0 0] 37) w.heap.size (by simp)).trans (Go.Deep.blk_alloc_new w (.cells #[.int .i64 K, .int .i64 P, .int .i64 N, .int .u64 V, .int .u64 U, .slice B L c] 32))
  have hR := Go.Deep.blk_alloc_new (w.alloc (.cells #[.int .i64 K, .int .i64 P, .int .i64 N, .int .u64 V, .int .u64 U, .slice B L c] 32)) (.cells #[.int .u64 0, .bool false, .slice none 0 0] 37)
  have e1 : (w.alloc (.cells #[.int .i64 K, .int .i64 P, .int .i64 N, .int .u64 V, .int .u64 U, .slice B L c] 32)).heap.size = w.heap.size + 1 := by simp
  rw [e1] at hR
  have HT := h.below HW
  have hc8 := h.c8
  clear h e1
  go_enter Tryz.func53, Tryz.ntmps53
  go_wp2_with fail
  clear hc8
  generalize (w.alloc (.cells #[.int .i64 K, .int .i64 P, .int .i64 N, .int .u64 V, .int .u64 U, .slice B L c] 32)).alloc (.cells #[.int .u64 0, .bool false, .slice none 0 0] 37) = W at HW hX hR HT ⊢
  have t0 := HT.c0
  have t1 := HT.c1
  have t2 := HT.c2
  have t3 := HT.c3
  have t4 := HT.c4
  have t5 := HT.c5
  have t6 := HT.c6
  have t7 := HT.c7
  have t8 := HT.c8
  have z2 := HT.free 2
  have z3 := HT.free 3
  have z4 := HT.free 4
  have z5 := HT.free 5
  have z6 := HT.free 6
  have z7 := HT.free 7
  have z8 := HT.free 8
  have x0 : W.cell? ⟨w.heap.size, 0, none⟩ = some (.int .i64 K) := by simp [World.cell?, hX]
  have x1 : W.cell? ⟨w.heap.size, 1, none⟩ = some (.int .i64 P) := by simp [World.cell?, hX]
  have x2 : W.cell? ⟨w.heap.size, 2, none⟩ = some (.int .i64 N) := by simp [World.cell?, hX]
  have x3 : W.cell? ⟨w.heap.size, 3, none⟩ = some (.int .u64 V) := by simp [World.cell?, hX]
  have x4 : W.cell? ⟨w.heap.size, 4, none⟩ = some (.int .u64 U) := by simp [World.cell?, hX]
  have x5 : W.cell? ⟨w.heap.size, 5, none⟩ = some (.slice B L c) := by simp [World.cell?, hX]
  obtain ⟨a0, a1, a2, f0, f1, f2, _⟩ := AnsAt.of_blk hR
  have hne : p ≠ w.heap.size := by omega
  have hne1 : p ≠ w.heap.size + 1 := by omega
  have HH := Lib.hid (And.intro HT hR)
  clear HT hX hR
  go_quiet (fail)
  go_wp2
  refine bodyPost_ret (v := .tuple #[.agg #[.int .u64 0, .bool false, .slice none 0 0], .bool false]) (by simp [results, Tryz.results53, go_sem, a0, a1, a2]) rfl ?_
  refine ⟨rfl, ⟨?_⟩, ?_⟩
  · have h0 : (W.drewN nq).heap[p]? = some (.cells #[.slice A n cap, .int .i64 n, .int .i64 K0, .int .i64 P0, .int .i64 N0, .int .u64 V0, .int .u64 U0, .slice A0 L0 c0, .bool false] 60 (0, 0)) := HH.out.1.blk
    exact blk_far (blk_far (blk_far (blk_set (blk_set (blk_set (blk_set (blk_set (blk_set (blk_set h0 _) _) _) _) _) _) _) hne1 _) hne1 _) hne1 _
  · have h0 : Touch (One p) w (W.drewN nq) := (Touch.of_below HW).drewN nq
    have h1 := ((((((h0.setCell (p := ⟨p, 2, none⟩) rfl (.int .i64 K)).setCell (p := ⟨p, 3, none⟩) rfl (.int .i64 P)).setCell (p := ⟨p, 4, none⟩) rfl (.int .i64 N)).setCell (p := ⟨p, 5, none⟩) rfl (.int .u64 V)).setCell (p := ⟨p, 6, none⟩) rfl (.int .u64 U)).setCell (p := ⟨p, 7, none⟩) rfl (.slice B L c)).setCell (p := ⟨p, 8, none⟩) rfl (.bool true)
    exact ((h1.setNew (p := ⟨w.heap.size + 1, 0, none⟩) (Nat.le_succ _) _).setNew (p := ⟨w.heap.size + 1, 1, none⟩) (Nat.le_succ _) _).setNew (p := ⟨w.heap.size + 1, 2, none⟩) (Nat.le_succ _) _

set_option maxRecDepth 100000 in
set_option maxHeartbeats 1000000 in
theorem tapeDo_tells {w : World} {p cap n j : Nat} {A B : Option Addr} {K0 P0 N0 V0 U0 : Int} {A0 : Option Addr} {L0 c0 : Nat} (h : Tp w p A cap n j K0 P0 N0 V0 U0 (.slice A0 L0 c0) false) (hj : j < n) (hn : n ≤ cap) (hcap : cap ≤ 9223372036854775807)
    {T : Nat → Ans} (hT : ToldAt w A n T) (hA : 0 < n → ∀ a, A = some a → a.block ≠ p) (K P N V U : Int) (L c : Nat) :
    Calls Tryz.prog 53 #[.pointer (some ⟨p, 0, none⟩), .agg #[.int .i64 K, .int .i64 P, .int .i64 N, .int .u64 V, .int .u64 U, .slice B L c]] w (Tells (T j) p A cap n j K0 P0 N0 V0 U0 (.slice A0 L0 c0) w) := by
  have hlt := h.lt
  have HW := ((Below.refl w.heap.size w).alloc (Nat.le_refl _) (.cells #[.int .i64 K, .int .i64 P, .int .i64 N, .int .u64 V, .int .u64 U, .slice B L c] 32)).alloc (by simp) (.cells #[.int .u64 0, .bool false, .slice none 0 0] 37)
  have hR := Go.Deep.blk_alloc_new (w.alloc (.cells #[.int .i64 K, .int .i64 P, .int .i64 N, .int .u64 V, .int .u64 U, .slice B L c] 32)) (.cells #[.int .u64 0, .bool false, .slice none 0 0] 37)
  have e1 : (w.alloc (.cells #[.int .i64 K, .int .i64 P, .int .i64 N, .int .u64 V, .int .u64 U, .slice B L c] 32)).heap.size = w.heap.size + 1 := by simp
  rw [e1] at hR
  obtain ⟨tb, tz, rfl, htl, htc⟩ := hT (by omega)
  have htp : tb ≠ p := hA (by omega) _ rfl
  obtain ⟨y0, y1, y2, _⟩ := htc j hj
  have v0 := (HW.cell (p := ⟨tb, tz + j * 3, none⟩) htl).trans y0
  have v1 := (HW.cell (p := ⟨tb, tz + j * 3 + 1, none⟩) htl).trans y1
  have v2 := (HW.cell (p := ⟨tb, tz + j * 3 + 2, none⟩) htl).trans y2
  have htn : tb ≠ w.heap.size := by omega
  have htn1 : tb ≠ w.heap.size + 1 := by omega
  have HT := h.below HW
  have hc8 := h.c8
  generalize T j = x at v0 v1 v2 ⊢
  clear h e1 hT hA htc y0 y1 y2
  go_enter Tryz.func53, Tryz.ntmps53
  go_wp2_with fail
  clear hc8
  generalize (w.alloc (.cells #[.int .i64 K, .int .i64 P, .int .i64 N, .int .u64 V, .int .u64 U, .slice B L c] 32)).alloc (.cells #[.int .u64 0, .bool false, .slice none 0 0] 37) = W at HW hR HT v0 v1 v2 ⊢
  have t0 := HT.c0
  have t1 := HT.c1
  have z1 := HT.free 1
  obtain ⟨a0, a1, a2, f0, f1, f2, _⟩ := AnsAt.of_blk hR
  have hne : p ≠ w.heap.size := by omega
  have hne1 : p ≠ w.heap.size + 1 := by omega
  have HH := Lib.hid (And.intro HT hR)
  have hj1 : ¬ ((n : Int) ≤ (j : Int)) := by omega
  have hj2 : decide ((n : Int) ≤ (j : Int)) = false := by simpa using hj1
  have hj3 : decide (n ≤ j) = false := by simpa using hj
  clear HT hR
  go_quiet (fail)
  go_wp2_with fail
  have HT2 : Tp ((W.drewN nq).setCell ⟨p, 1, none⟩ (.int .i64 ((j : Int) + 1))) p (some ⟨tb, tz, none⟩) cap n (j + 1) K0 P0 N0 V0 U0 (.slice A0 L0 c0) false := by
    have h0 : (W.drewN nq).heap[p]? = _ := HH.out.1.blk
    exact ⟨blk_set h0 _⟩
  have HR2 : AnsAt (w.heap.size + 1) ((W.drewN nq).setCell ⟨p, 1, none⟩ (.int .i64 ((j : Int) + 1))) := by
    have h0 : (W.drewN nq).heap[w.heap.size + 1]? = _ := HH.out.2
    exact .of_blk (blk_far h0 (Ne.symm hne1) _)
  have HX2 : Touch (One p) w ((W.drewN nq).setCell ⟨p, 1, none⟩ (.int .i64 ((j : Int) + 1))) := ((Touch.of_below HW).drewN nq).setCell (p := ⟨p, 1, none⟩) (show One p p from rfl) _
  have hcf : ∀ i, ((W.drewN nq).setCell ⟨p, 1, none⟩ (.int .i64 ((j : Int) + 1))).cell? ⟨tb, i, none⟩ = W.cell? ⟨tb, i, none⟩ := fun i => World.cell?_setCell_other (W.drewN nq) ⟨p, 1, none⟩ ⟨tb, i, none⟩ _ (fun e => htp (by injection e with e1; exact e1.symm))
  have u0 := (hcf _).trans v0
  have u1 := (hcf _).trans v1
  have u2 := (hcf _).trans v2
  clear v0 v1 v2 t0 t1 z1 a0 a1 a2 f0 f1 f2 hcf hj1 hj2 hj3
  generalize (W.drewN nq).setCell ⟨p, 1, none⟩ (.int .i64 ((j : Int) + 1)) = W2 at u0 u1 u2 HT2 HR2 HX2 ⊢
  have t0 := HT2.c0
  have t1 := HT2.c1
  have t1' : W2.cell? ⟨p, 1, none⟩ = some (.int .i64 ((j : Int) + 1)) := t1
  clear t1
  obtain ⟨a0, a1, a2, f0, f1, f2, _⟩ := HR2
  have HT3 := Lib.hid HT2
  clear HT2
  have hj1 : (j : Int) < n := by omega
  go_region
  all_goals go_wp2
  all_goals
    refine bodyPost_ret (v := .tuple #[.agg #[.int .u64 x.V, .bool x.D, .slice x.A x.L x.cap], .bool true]) (by simp [results, Tryz.results53, go_sem, a0, a1, a2]) rfl ?_
    refine ⟨rfl, ⟨blk_far (blk_far (blk_far HT3.out.blk hne1 _) hne1 _) hne1 _⟩, ?_⟩
    exact (((HX2.setNew (p := ⟨w.heap.size + 1, 0, none⟩) (Nat.le_succ _) _).setNew (p := ⟨w.heap.size + 1, 1, none⟩) (Nat.le_succ _) _).setNew (p := ⟨w.heap.size + 1, 2, none⟩) (Nat.le_succ _) _).drew
end Go.Proofs.YtaomkamdfbibbaaGreat
namespace Go.Proofs.YtaomkamdfbibbaaGreat
open Go.RowKit

/-- A byte's block is no tape's. -/
theorem Tp.byte_apart {w : World} {p cap n j : Nat} {A : Option Addr} {K P N V U : Int} {s : Value} {e : Bool} (h : Tp w p A cap n j K P N V U s e) (hs : ∀ x, s ≠ .int .u8 x) {b off : Nat} {x : Int} (hc : w.cell? ⟨b, off, none⟩ = some (.int .u8 x)) : b ≠ p := by
  rintro rfl
  have hb := h.blk
  simp [World.cell?, hb] at hc
  match off, hc with
  | 7, hc => simp at hc; exact hs _ hc
  | 0, hc | 1, hc | 2, hc | 3, hc | 4, hc | 5, hc | 6, hc | 8, hc => simp at hc
  | k + 9, hc => simp at hc

theorem BytesAt.one {w w' : World} {p cap n j : Nat} {A : Option Addr} {K P N V U : Int} {s : Value} {e : Bool} (h : Tp w p A cap n j K P N V U s e) (hs : ∀ x, s ≠ .int .u8 x) (ht : Touch (One p) w w') {v : Value} {xs : List Int} (hv : BytesAt w v xs) : BytesAt w' v xs := by
  obtain ⟨A2, c2, hv, hx⟩ := hv
  refine ⟨A2, c2, hv, fun hp => ?_⟩
  obtain ⟨b, off, e, hlt, hc⟩ := hx hp
  have hne : b ≠ p := h.byte_apart hs (hc 0 hp)
  exact ⟨b, off, e, Nat.lt_of_lt_of_le hlt ht.size, fun i hi => (ht.cell (p := ⟨b, off + i, none⟩) hlt hne).trans (hc i hi)⟩

theorem ToldAt.one {w w' : World} {p cap n j : Nat} {A : Option Addr} {K P N V U : Int} {s : Value} {e : Bool} (h : Tp w p A cap n j K P N V U s e) (hs : ∀ x, s ≠ .int .u8 x) (ht : Touch (One p) w w') {B : Option Addr} {m : Nat} {T : Nat → Ans} (hT : ToldAt w B m T)
    (hB : 0 < m → ∀ a, B = some a → a.block ≠ p) : ToldAt w' B m T := by
  intro hp
  obtain ⟨b, off, rfl, hlt, hc⟩ := hT hp
  have hne : b ≠ p := hB hp _ rfl
  refine ⟨b, off, rfl, Nat.lt_of_lt_of_le hlt ht.size, fun i hi => ?_⟩
  obtain ⟨c0, c1, c2, his⟩ := hc i hi
  have k := fun o => ht.cell (p := ⟨b, o, none⟩) hlt hne
  exact ⟨(k _).trans c0, (k _).trans c1, (k _).trans c2, ⟨his.num, his.isB, BytesAt.one h hs ht his.bytes, his.room, his.few⟩⟩

theorem cut_at (f : Nat → Nat) (a d n L : Nat) (h : d + n ≤ L) : ((Mb.bl f a L).drop d).take n = Mb.bl f (a + d) n := by
  have e : L = d + (n + (L - d - n)) := by omega
  rw [e, Mb.bl_append, Mb.bl_append, List.drop_left' (Mb.bl_length _ _ _), List.take_left' (by rw [Mb.bl_length])]

theorem bytesAt_none' (w : World) (A : Option Addr) (c : Nat) (f : Nat → Nat) (a : Nat) : BytesAt w (.slice A 0 c) (Mb.bl f a 0) := ⟨A, c, rfl, fun h => by simp [Mb.bl] at h⟩

/-- What a tape that was told i answers says of n bytes of f, written at 'at': the access that is wanted next, or none. -/
def SaidIn (p : Nat) (A : Option Addr) (cap i : Nat) (at_ : Int) (f : Nat → Nat) (n : Nat) (w : World) (e : Ending) (w' : World) : Prop :=
  ∃ b, e = .returned (.bool b) ∧ Touch (One p) w w' ∧
    ((8 * i < n ∧ ∃ B L c, Tp w' p A cap i i 6 (at_ + (8 * i : Nat)) (Cy.nx (n - 8 * i) : Nat) 0 0 (.slice B L c) true ∧ BytesAt w' (.slice B L c) (Mb.bl f (8 * i) (Cy.nx (n - 8 * i)))) ∨
     (n ≤ 8 * i ∧ ∃ j, Tp w' p A cap i j 0 0 0 0 0 (.slice none 0 0) false))

/-- The same; and the access' bytes lie in a block of K. -/
def SaidInK (K : Nat → Prop) (p : Nat) (A : Option Addr) (cap i : Nat) (at_ : Int) (f : Nat → Nat) (n : Nat) (w : World) (e : Ending) (w' : World) : Prop :=
  ∃ b, e = .returned (.bool b) ∧ Touch (One p) w w' ∧
    ((8 * i < n ∧ ∃ B L c, Tp w' p A cap i i 6 (at_ + (8 * i : Nat)) (Cy.nx (n - 8 * i) : Nat) 0 0 (.slice B L c) true ∧ BytesAt w' (.slice B L c) (Mb.bl f (8 * i) (Cy.nx (n - 8 * i))) ∧ ∀ a, B = some a → K a.block) ∨
     (n ≤ 8 * i ∧ ∃ j, Tp w' p A cap i j 0 0 0 0 0 (.slice none 0 0) false))

theorem SaidInK.said {K : Nat → Prop} {p : Nat} {A : Option Addr} {cap i : Nat} {at_ : Int} {f : Nat → Nat} {n : Nat} {w : World} {e : Ending} {w' : World} (h : SaidInK K p A cap i at_ f n w e w') : SaidIn p A cap i at_ f n w e w' := by
  obtain ⟨b, h1, h2, h3⟩ := h
  refine ⟨b, h1, h2, ?_⟩
  rcases h3 with ⟨h4, B, L, c, h5, h6, _⟩ | h3
  · exact .inl ⟨h4, B, L, c, h5, h6⟩
  · exact .inr h3

end Go.Proofs.YtaomkamdfbibbaaGreat
namespace Go.Proofs.YtaomkamdfbibbaaGreat
open Go.RowKit

/-- An answer that was told, as a machine takes it. -/
def Ans.an (x : Ans) : An := ⟨x.V, x.D, x.bs⟩

set_option maxRecDepth 100000 in
set_option maxHeartbeats 800000 in
theorem tapeLoad_tells {w : World} {p cap n j : Nat} {A : Option Addr} {K0 P0 N0 V0 U0 : Int} {A0 : Option Addr} {L0 c0 : Nat} (h : Tp w p A cap n j K0 P0 N0 V0 U0 (.slice A0 L0 c0) false) (hj : j < n) (hn : n ≤ cap) (hcap : cap ≤ 9223372036854775807)
    {T : Nat → Ans} (hT : ToldAt w A n T) (hA : 0 < n → ∀ a, A = some a → a.block ≠ p) (at_ k : Int) :
    Calls Tryz.prog 35 #[.pointer (some ⟨p, 0, none⟩), .int .i64 at_, .int .i64 k] w (fun e w' => e = .returned (.tuple #[.int .u64 (T j).V, .bool true]) ∧ Tp w' p A cap n (j + 1) K0 P0 N0 V0 U0 (.slice A0 L0 c0) false ∧ Touch (One p) w w') := by
  have HD := Lib.hid (tapeDo_tells (B := none) h hj hn hcap hT hA 1 at_ k 0 0 0 0)
  generalize T j = x at HD ⊢
  clear h hT hA
  go_enter Tryz.func35, Tryz.ntmps35
  go_wp2_with (go_at_call 53; refine HD.out.mono ?_; rintro e w1 ⟨rfl, ht, hto⟩; have HTO := Lib.hid (And.intro ht hto); clear ht hto)
  refine bodyPost_ret (v := .tuple #[.int .u64 x.V, .bool true]) (by simp [results, Tryz.results35, go_sem]) rfl ?_
  exact ⟨rfl, HTO.out.1.below ((Below.refl _ _).alloc (Nat.le_refl _) _), HTO.out.2.alloc _⟩

set_option maxRecDepth 100000 in
set_option maxHeartbeats 800000 in
theorem tapeLoad_wants {w : World} {p cap n : Nat} {A : Option Addr} {K0 P0 N0 V0 U0 : Int} {A0 : Option Addr} {L0 c0 : Nat} (h : Tp w p A cap n n K0 P0 N0 V0 U0 (.slice A0 L0 c0) false) (at_ k : Int) :
    Calls Tryz.prog 35 #[.pointer (some ⟨p, 0, none⟩), .int .i64 at_, .int .i64 k] w (fun e w' => e = .returned (.tuple #[.int .u64 0, .bool false]) ∧ Tp w' p A cap n n 1 at_ k 0 0 (.slice none 0 0) true ∧ Touch (One p) w w') := by
  have HD := Lib.hid (tapeDo_wants (B := none) h 1 at_ k 0 0 0 0)
  clear h
  go_enter Tryz.func35, Tryz.ntmps35
  go_wp2_with (go_at_call 53; refine HD.out.mono ?_; rintro e w1 ⟨rfl, ht, hto⟩; have HTO := Lib.hid (And.intro ht hto); clear ht hto)
  refine bodyPost_ret (v := .tuple #[.int .u64 0, .bool false]) (by simp [results, Tryz.results35, go_sem]) rfl ?_
  exact ⟨rfl, HTO.out.1.below ((Below.refl _ _).alloc (Nat.le_refl _) _), HTO.out.2.alloc _⟩

set_option maxRecDepth 100000 in
set_option maxHeartbeats 800000 in
theorem tapeStore_tells {w : World} {p cap n j : Nat} {A : Option Addr} {K0 P0 N0 V0 U0 : Int} {A0 : Option Addr} {L0 c0 : Nat} (h : Tp w p A cap n j K0 P0 N0 V0 U0 (.slice A0 L0 c0) false) (hj : j < n) (hn : n ≤ cap) (hcap : cap ≤ 9223372036854775807)
    {T : Nat → Ans} (hT : ToldAt w A n T) (hA : 0 < n → ∀ a, A = some a → a.block ≠ p) (at_ k V : Int) :
    Calls Tryz.prog 39 #[.pointer (some ⟨p, 0, none⟩), .int .i64 at_, .int .i64 k, .int .u64 V] w (fun e w' => e = .returned (.bool true) ∧ Tp w' p A cap n (j + 1) K0 P0 N0 V0 U0 (.slice A0 L0 c0) false ∧ Touch (One p) w w') := by
  have HD := Lib.hid (tapeDo_tells (B := none) h hj hn hcap hT hA 2 at_ k V 0 0 0)
  generalize T j = x at HD ⊢
  clear h hT hA
  go_enter Tryz.func39, Tryz.ntmps39
  go_wp2_with (go_at_call 53; refine HD.out.mono ?_; rintro e w1 ⟨rfl, ht, hto⟩; have HTO := Lib.hid (And.intro ht hto); clear ht hto)
  refine bodyPost_ret (v := .bool true) (by simp [results, Tryz.results39, go_sem]) rfl ?_
  exact ⟨rfl, HTO.out.1.below ((Below.refl _ _).alloc (Nat.le_refl _) _), HTO.out.2.alloc _⟩

set_option maxRecDepth 100000 in
set_option maxHeartbeats 800000 in
theorem tapeStore_wants {w : World} {p cap n : Nat} {A : Option Addr} {K0 P0 N0 V0 U0 : Int} {A0 : Option Addr} {L0 c0 : Nat} (h : Tp w p A cap n n K0 P0 N0 V0 U0 (.slice A0 L0 c0) false) (at_ k V : Int) :
    Calls Tryz.prog 39 #[.pointer (some ⟨p, 0, none⟩), .int .i64 at_, .int .i64 k, .int .u64 V] w (fun e w' => e = .returned (.bool false) ∧ Tp w' p A cap n n 2 at_ k V 0 (.slice none 0 0) true ∧ Touch (One p) w w') := by
  have HD := Lib.hid (tapeDo_wants (B := none) h 2 at_ k V 0 0 0)
  clear h
  go_enter Tryz.func39, Tryz.ntmps39
  go_wp2_with (go_at_call 53; refine HD.out.mono ?_; rintro e w1 ⟨rfl, ht, hto⟩; have HTO := Lib.hid (And.intro ht hto); clear ht hto)
  refine bodyPost_ret (v := .bool false) (by simp [results, Tryz.results39, go_sem]) rfl ?_
  exact ⟨rfl, HTO.out.1.below ((Below.refl _ _).alloc (Nat.le_refl _) _), HTO.out.2.alloc _⟩

/-- A tape that stands at j, nothing is wanted yet. -/
abbrev TpOpen (w : World) (p : Nat) (A : Option Addr) (cap i j : Nat) : Prop := Tp w p A cap i j 0 0 0 0 0 (.slice none 0 0) false
/-- A tape that wants the access a. -/
def TpWant (w : World) (p : Nat) (A : Option Addr) (cap i : Nat) (a : Ac) : Prop := ∃ B l c, Tp w p A cap i i a.K a.P a.N (a.V : Int) (a.U : Int) (.slice B l c) true ∧ BytesAt w (.slice B l c) a.bs

theorem tapeLoad_any {w : World} {p cap i j : Nat} {A : Option Addr} (h : TpOpen w p A cap i j) (hj : j ≤ i) (hi : i ≤ cap) (hcap : cap ≤ 9223372036854775807) {T : Nat → Ans} (hT : ToldAt w A i T) (hA : 0 < i → ∀ a, A = some a → a.block ≠ p) (at_ k : Int) :
    Calls Tryz.prog 35 #[.pointer (some ⟨p, 0, none⟩), .int .i64 at_, .int .i64 k] w (fun e w' => ∃ (v : Nat) (ok : Bool), e = .returned (.tuple #[.int .u64 v, .bool ok]) ∧ Touch (One p) w w' ∧ ((ok = true ∧ j < i ∧ v = (T j).V ∧ TpOpen w' p A cap i (j + 1)) ∨ (ok = false ∧ j = i ∧ v = 0 ∧ TpWant w' p A cap i ⟨1, at_, k, 0, 0, []⟩))) := by
  by_cases hlt : j < i
  · refine (tapeLoad_tells h hlt hi hcap hT hA at_ k).mono ?_
    rintro e w' ⟨rfl, ht, hto⟩
    exact ⟨(T j).V, true, rfl, hto, .inl ⟨rfl, hlt, rfl, ht⟩⟩
  · obtain rfl : j = i := by omega
    refine (tapeLoad_wants h at_ k).mono ?_
    rintro e w' ⟨rfl, ht, hto⟩
    exact ⟨0, false, rfl, hto, .inr ⟨rfl, rfl, rfl, none, 0, 0, ht, BytesAt.nil _⟩⟩

theorem tapeStore_any {w : World} {p cap i j : Nat} {A : Option Addr} (h : TpOpen w p A cap i j) (hj : j ≤ i) (hi : i ≤ cap) (hcap : cap ≤ 9223372036854775807) {T : Nat → Ans} (hT : ToldAt w A i T) (hA : 0 < i → ∀ a, A = some a → a.block ≠ p) (at_ k : Int) (V : Nat) :
    Calls Tryz.prog 39 #[.pointer (some ⟨p, 0, none⟩), .int .i64 at_, .int .i64 k, .int .u64 V] w (fun e w' => ∃ (ok : Bool), e = .returned (.bool ok) ∧ Touch (One p) w w' ∧ ((ok = true ∧ j < i ∧ True ∧ TpOpen w' p A cap i (j + 1)) ∨ (ok = false ∧ j = i ∧ True ∧ TpWant w' p A cap i ⟨2, at_, k, V, 0, []⟩))) := by
  by_cases hlt : j < i
  · refine (tapeStore_tells h hlt hi hcap hT hA at_ k V).mono ?_
    rintro e w' ⟨rfl, ht, hto⟩
    exact ⟨true, rfl, hto, .inl ⟨rfl, hlt, trivial, ht⟩⟩
  · obtain rfl : j = i := by omega
    refine (tapeStore_wants h at_ k V).mono ?_
    rintro e w' ⟨rfl, ht, hto⟩
    exact ⟨false, rfl, hto, .inr ⟨rfl, rfl, trivial, none, 0, 0, ht, BytesAt.nil _⟩⟩

end Go.Proofs.YtaomkamdfbibbaaGreat
namespace Go.Proofs.YtaomkamdfbibbaaGreat
open Go.RowKit

/-- What a tape that was told i answers, j0 of them taken, says of n bytes of f, written at 'at': the access that is wanted next, or that all was told. -/
def SaidFrom (p : Nat) (A : Option Addr) (cap i j0 : Nat) (at_ : Int) (f : Nat → Nat) (n : Nat) (w : World) (e : Ending) (w' : World) : Prop :=
  ∃ b, e = .returned (.bool b) ∧ Touch (One p) w w' ∧
    ((8 * (i - j0) < n ∧ b = false ∧ ∃ B L c, Tp w' p A cap i i 6 (at_ + (8 * (i - j0) : Nat)) (Cy.nx (n - 8 * (i - j0)) : Nat) 0 0 (.slice B L c) true ∧ BytesAt w' (.slice B L c) (Mb.bl f (8 * (i - j0)) (Cy.nx (n - 8 * (i - j0))))) ∨
     (n ≤ 8 * (i - j0) ∧ b = true ∧ Tp w' p A cap i (j0 + (n + 7) / 8) 0 0 0 0 0 (.slice none 0 0) false))

end Go.Proofs.YtaomkamdfbibbaaGreat
namespace Go.Proofs.YtaomkamdfbibbaaGreat
open Go.RowKit

/-- A put behind the first j answers. -/
def Pm.at (m : Pm) (T : Nat → Ans) : Nat → Pm
  | 0 => m
  | j + 1 => (m.at T j).take (T j).an

theorem Pm.at_succ {m : Pm} {T : Nat → Ans} {j : Nat} {s : Rs} (h : m.at T j = .live s) : m.at T (j + 1) = .live (s.take (T j).an) := by
  show (m.at T j).take (T j).an = _
  rw [h]
  rfl

theorem Pm.at_end {m : Pm} {T : Nat → Ans} {j : Nat} {s : Rs} (h : m.at T j = .live s) (hf : s.ph = .fin) : ∀ n, m.at T (j + n) = .live s := by
  intro n
  induction n with
  | zero => exact h
  | succ n ih =>
    have := Pm.at_succ ih
    rw [show s.take (T (j + n)).an = s by unfold Rs.take; rw [hf]] at this
    exact this

theorem Pm.at_dead {m : Pm} {T : Nat → Ans} {Z er : Int} (h : m = .dead Z er) : ∀ n, m.at T n = .dead Z er := by
  intro n
  induction n with
  | zero => exact h
  | succ n ih =>
    show (m.at T n).take (T n).an = _
    rw [ih]
    rfl

theorem Pm.at_byt {m : Pm} {T : Nat → Ans} {j : Nat} {s : Rs} (h : m.at T j = .live s) (hp : s.ph = .hdr) : ∀ k, 8 * k < s.L → m.at T (j + 1 + k) = .live { s with ph := .byt (8 * k) } := by
  intro k
  induction k with
  | zero =>
    intro hk
    have := Pm.at_succ h
    rw [show s.take (T j).an = { s with ph := .byt 0 } by unfold Rs.take; rw [hp]; simp only; rw [if_neg (by omega)]] at this
    exact this
  | succ k ih =>
    intro hk
    have h1 := ih (by omega)
    have h2 := Pm.at_succ h1
    have hn : Cy.nx (s.L - 8 * k) = 8 := by unfold Cy.nx; split <;> omega
    rw [show ({ s with ph := .byt (8 * k) } : Rs).take (T (j + 1 + k)).an = { s with ph := .byt (8 * (k + 1)) } by
      unfold Rs.take
      simp only [hn]
      rw [if_neg (by omega)]
      rfl] at h2
    exact h2

theorem Pm.at_len {m : Pm} {T : Nat → Ans} {j : Nat} {s : Rs} (h : m.at T j = .live s) (hp : s.ph = .hdr) : m.at T (j + 1 + (s.L + 7) / 8) = .live { s with ph := .len } := by
  by_cases hz : s.L = 0
  · have := Pm.at_succ h
    rw [show s.take (T j).an = { s with ph := .len } by unfold Rs.take; rw [hp]; simp only; rw [if_pos hz]] at this
    rw [show (s.L + 7) / 8 = 0 by omega]
    exact this
  · obtain ⟨k, hk⟩ : ∃ k, (s.L + 7) / 8 = k + 1 := ⟨(s.L + 7) / 8 - 1, by omega⟩
    have h1 := Pm.at_byt h hp k (by omega)
    have h2 := Pm.at_succ h1
    have hn : Cy.nx (s.L - 8 * k) = s.L - 8 * k := by unfold Cy.nx; split <;> omega
    rw [show ({ s with ph := .byt (8 * k) } : Rs).take (T (j + 1 + k)).an = { s with ph := .len } by
      unfold Rs.take
      simp only [hn]
      rw [if_pos (by omega)]] at h2
    rw [hk]
    exact h2

/-- What the document's put on a tape that was told i answers is to say of the put m: its position, whether it has one, how it ended; and what the tape wants. -/
def PutSays (p : Nat) (A : Option Addr) (cap i : Nat) (m : Pm) (w : World) (e : Ending) (w' : World) : Prop :=
  ∃ pos hs er, e = .returned (.tuple #[.int .i64 pos, .bool hs, .int .i64 er]) ∧ Touch (One p) w w' ∧ hs = m.has ∧ er = m.result.2 ∧ (er = 0 → pos = m.pos) ∧
    ∃ a B l c j, Tp w' p A cap i j a.K a.P a.N (a.V : Int) (a.U : Int) (.slice B l c) m.busy ∧ BytesAt w' (.slice B l c) a.bs ∧ a = m.next.getD Ac.zero

/-- A put that wants its next access. -/
theorem putSays_wants {p cap i : Nat} {A : Option Addr} {m : Pm} {s : Rs} {a : Ac} {w w' : World} {pos : Int} {B : Option Addr} {l c : Nat} (hm : m = .live s) (hn : s.next = some a) (hz : s.Z ≠ 0) (ht : Touch (One p) w w') (htp : Tp w' p A cap i i a.K a.P a.N (a.V : Int) (a.U : Int) (.slice B l c) true) (hb : BytesAt w' (.slice B l c) a.bs) :
    PutSays p A cap i m w (.returned (.tuple #[.int .i64 pos, .bool s.cl, .int .i64 10])) w' := by
  subst hm
  have hbusy : (Pm.live s).busy = true := by show s.next.isSome = true; rw [hn]; rfl
  refine ⟨pos, s.cl, 10, rfl, ht, rfl, ?_, fun h => absurd h (by decide), a, B, l, c, i, by rw [hbusy]; exact htp, hb, ?_⟩
  · unfold Pm.result
    rw [if_neg (by show ¬ (s.Z : Int) = 0; omega), if_pos hbusy]
  · show a = s.next.getD Ac.zero
    rw [hn]
    rfl

/-- A put at its end. -/
theorem putSays_end {p cap i j : Nat} {A : Option Addr} {m : Pm} {s : Rs} {w w' : World} {pos : Int} (hm : m = .live s) (hn : s.ph = .fin) (hz : s.Z ≠ 0) (hpos : s.er = 0 → pos = s.p) (ht : Touch (One p) w w') (htp : Tp w' p A cap i j 0 0 0 0 0 (.slice none 0 0) false) :
    PutSays p A cap i m w (.returned (.tuple #[.int .i64 pos, .bool s.cl, .int .i64 s.er])) w' := by
  subst hm
  have hnx : s.next = none := by unfold Rs.next; rw [hn]
  have hbusy : (Pm.live s).busy = false := by show s.next.isSome = false; rw [hnx]; rfl
  refine ⟨pos, s.cl, s.er, rfl, ht, rfl, ?_, hpos, Ac.zero, none, 0, 0, j, by rw [hbusy]; exact htp, BytesAt.nil _, ?_⟩
  · unfold Pm.result
    rw [if_neg (by show ¬ (s.Z : Int) = 0; omega), if_neg (by rw [hbusy]; decide)]
    show s.er = (if s.er = 0 then ((Pm.live s).pos, (0 : Int)) else (0, s.er)).2
    split
    · assumption
    · rfl
  · show Ac.zero = s.next.getD Ac.zero
    rw [hnx]
    rfl
end Go.Proofs.YtaomkamdfbibbaaGreat
