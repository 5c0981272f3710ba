/-
  Arguments opened: an answer by value, a slice of answers.
-/
import Derived.Test.YtplomefkmgkdjaaOpenAccess
import Derived.Deep.Slices
namespace Go.Proofs.Ytplomefkmgkdjaa
open Go.ChangeShapes Go.WideShapes Go.ChangeAt Go.RowKit Go.Deep

/-- An answer: its number, whether it stored, where its bytes stand, and which they are. -/
structure Ans where
  V : Nat
  D : Bool
  A : Option Addr
  L : Nat
  cap : Nat
  f : Nat → Nat

namespace Ans
/-- Its slice. -/
def sl (x : Ans) : Value := .slice x.A x.L x.cap
/-- Its bytes. -/
def bs (x : Ans) : List Int := Mb.bl x.f 0 x.L
/-- It reads so in w. -/
structure Is (x : Ans) (w : World) : Prop where
  num : x.V < 18446744073709551616
  isB : Mb.IsB x.f
  bytes : BytesAt w (.slice x.A x.L x.cap) (Mb.bl x.f 0 x.L)
  room : x.L ≤ x.cap
  few : x.cap ≤ 9223372036854775807
end Ans

theorem answerOne : Try.prog.cellsOf 39 = 3 := by kernel_rfl

set_option maxRecDepth 100000 in
theorem answer_cells {H : Type} {enc : TypeId × Value → H} {W : World} {fuel : Nat} {cs : List Value} {x : DataW H × List MemPlace} (hsz : cs.length = 3)
    (h : DataW.trod enc Try.prog W 0 (fun _ => true) true fuel 39 cs = some x) :
    ∃ y : Ans, cs = [.int .u64 y.V, .bool y.D, y.sl] ∧ y.Is W := by
  match cs, hsz with
  | [v0, v1, v2], _ =>
    obtain ⟨xs, n, _, _, _, hlen, hg⟩ := DataW.trod_struct Try.underlying39 h
    have g0 := hg 0 _ rfl
    have g1 := hg 1 _ rfl
    have g2 := hg 2 _ rfl
    have cU : Try.prog.cellsOf 28 = 1 := by kernel_rfl
    have cD : Try.prog.cellsOf 4 = 1 := by kernel_rfl
    have cB : Try.prog.cellsOf 22 = 1 := by kernel_rfl
    match xs, hlen with
    | [y0, y1, y2], _ =>
      simp [cU, cD, cB] at g0 g1 g2
      obtain ⟨V, e0, _, w0⟩ := DataW.trod_int Try.underlying28 g0
      obtain ⟨D, e1, _⟩ := DataW.trod_bool Try.underlying4 g1
      obtain ⟨A, L, cap, f, e2, h1, h2, h3, h4⟩ := bytes_cell g2
      simp only [List.cons.injEq, and_true] at e0 e1 e2
      subst e0 e1 e2
      have b0 := u64_wide w0
      obtain ⟨V, rfl⟩ := Int.eq_ofNat_of_zero_le b0.1
      exact ⟨⟨V, D, A, L, cap, f⟩, rfl, by show V < 18446744073709551616; omega, h1, h2, h3, h4⟩

set_option maxRecDepth 100000 in
theorem open_answer {H : Type} {enc : TypeId × Value → H} {W : World} {base : Nat} {v : Value} {d : DataW H} {ps : List MemPlace}
    (hv : Value.okWide Try.prog W .any base 39 v) (h : DataW.Trod enc Try.prog W 0 (fun _ => true) true 39 v d ps) :
    ∃ y : Ans, v = .agg #[.int .u64 y.V, .bool y.D, .slice y.A y.L y.cap] ∧ y.Is W := by
  obtain ⟨cs, rfl, hsz⟩ := okWide_struct Try.underlying39 hv
  obtain ⟨l⟩ := cs
  rw [answerOne] at hsz
  obtain ⟨fuel, hf⟩ := h
  obtain ⟨y, hy, hi⟩ := answer_cells (by simpa [Value.cells] using hsz) hf
  refine ⟨y, ?_, hi⟩
  simp [Value.cells] at hy
  rw [hy]
  rfl

/-- A slice of n answers that reads as T. -/
def ToldAt (W : World) (A : Option Addr) (n : Nat) (T : Nat → Ans) : Prop :=
  0 < n → ∃ b off, A = some ⟨b, off, none⟩ ∧ b < W.heap.size ∧ ∀ i, i < n → W.cell? ⟨b, off + i * 3, none⟩ = some (.int .u64 (T i).V) ∧ W.cell? ⟨b, off + i * 3 + 1, none⟩ = some (.bool (T i).D) ∧ W.cell? ⟨b, off + i * 3 + 2, none⟩ = some (.slice (T i).A (T i).L (T i).cap) ∧ (T i).Is W

set_option maxRecDepth 100000 in
theorem open_answers {H : Type} {enc : TypeId × Value → H} {W : World} {base : Nat} {v : Value} {d : DataW H} {ps : List MemPlace}
    (hv : Value.okWide Try.prog W .any base 23 v) (h : DataW.Trod enc Try.prog W 0 (fun _ => true) true 23 v d ps) :
    ∃ (A : Option Addr) (L cap : Nat) (T : Nat → Ans), v = .slice A L cap ∧ ToldAt W A L T ∧ L ≤ cap ∧ cap ≤ 9223372036854775807 := by
  obtain ⟨a0, len0, cap0, rfl⟩ := okWide_slice Try.underlying23 hv
  obtain ⟨fuel, hf⟩ := h
  rcases open_slice Try.underlying23 hf with ⟨hcs, _⟩ | ⟨a, len, cap, m, n, D, Pl, hcs, hb, hl, hm, hmm, _, hi⟩
  · simp [Value.cells] at hcs
    obtain ⟨rfl, rfl, rfl⟩ := hcs
    exact ⟨none, 0, 0, fun _ => ⟨0, false, none, 0, 0, fun _ => 0⟩, rfl, fun h => absurd h (Nat.lt_irrefl 0), Nat.le_refl _, by decide⟩
  · simp [Value.cells] at hcs
    obtain ⟨rfl, rfl, rfl⟩ := hcs
    simp only [if_true] at hmm
    rw [answerOne] at hi
    have hx : ∀ i, i < m → ∃ y : Ans, (∀ j : Nat, j < 3 → W.cell? ((a.add (i * 3)).add j) = ([.int .u64 y.V, .bool y.D, y.sl] : List Value)[j]?) ∧ y.Is W := by
      intro i him
      obtain ⟨cs', hc, ht'⟩ := hi i him
      obtain ⟨_, hcl, hat⟩ := World.cells?_some hc
      obtain ⟨y, hy, his⟩ := answer_cells hcl ht'
      subst hy
      exact ⟨y, hat, his⟩
    have hT : ∃ T : Nat → Ans, ∀ i, i < m → (∀ j : Nat, j < 3 → W.cell? ((a.add (i * 3)).add j) = ([.int .u64 (T i).V, .bool (T i).D, (T i).sl] : List Value)[j]?) ∧ (T i).Is W := by
      refine ⟨fun i => if h : i < m then Classical.choose (hx i h) else ⟨0, false, none, 0, 0, fun _ => 0⟩, fun i him => ?_⟩
      simp only [dif_pos him]
      exact Classical.choose_spec (hx i him)
    obtain ⟨T, hT⟩ := hT
    refine ⟨some a, _, _, T, rfl, fun hp => ?_, hl, by unfold maxLen at hm; omega⟩
    obtain ⟨b, off, spot⟩ := a
    have h00 := (hT 0 (by omega)).1 0 (by decide)
    have hspot : spot = none := by simpa [Addr.add] using World.cell?_spot h00
    subst hspot
    refine ⟨b, off, rfl, ?_, fun i him => ?_⟩
    · rcases Nat.lt_or_ge b W.heap.size with hlt | hge
      · exact hlt
      · simp [World.cell?, Addr.add, Array.getElem?_eq_none hge] at h00
    · obtain ⟨hc, his⟩ := hT i (by omega)
      have e : ∀ j, ((⟨b, off, none⟩ : Addr).add (i * 3)).add j = ⟨b, off + i * 3 + j, none⟩ := fun j => by
        unfold Addr.add
        split <;> split <;> simp_all
      have c0 := hc 0 (by decide)
      have c1 := hc 1 (by decide)
      have c2 := hc 2 (by decide)
      rw [e] at c0 c1 c2
      exact ⟨c0, c1, c2, his⟩

theorem Ans.Is.below {x : Ans} {w w' : World} (h : x.Is w) (hb : Below w.heap.size w w') : x.Is w' := ⟨h.num, h.isB, h.bytes.below hb, h.room, h.few⟩

theorem ToldAt.below {W W' : World} {A : Option Addr} {n : Nat} {T : Nat → Ans} (h : ToldAt W A n T) (hb : Below W.heap.size W W') : ToldAt W' A n T := by
  intro hp
  obtain ⟨b, off, e, hlt, hc⟩ := h hp
  refine ⟨b, off, e, Nat.lt_of_lt_of_le hlt hb.size, fun i hi => ?_⟩
  obtain ⟨c0, c1, c2, his⟩ := hc i hi
  have k := fun j => hb.cell (p := ⟨b, j, none⟩) hlt
  exact ⟨(k _).trans c0, (k _).trans c1, (k _).trans c2, his.below hb⟩
end Go.Proofs.Ytplomefkmgkdjaa
