/-
  Arguments of layer 6's statements opened: a slice of jobs, a slice of picks.
-/
import Derived.Test.YtijgfaggakbajaaOpenAccess
import Derived.Test.YtijgfaggakbajaaSchMades
import Derived.Test.YtijgfaggakbajaaSchRun
import Derived.Deep.Slices
namespace Go.Proofs.Ytijgfaggakbajaa
open Go.ChangeShapes Go.WideShapes Go.ChangeAt Go.RowKit Go.Deep

theorem u8_wide {n : Int} (h : (Lit.int .u8 n).wf = true) : 0 ≤ n ∧ n ≤ 255 := by
  simp only [Lit.wf, Bool.and_eq_true, decide_eq_true_eq] at h
  have e1 : IntKind.u8.min = 0 := by decide
  have e2 : IntKind.u8.max = 255 := by decide
  rw [e1, e2] at h
  exact h
theorem u16_wide {n : Int} (h : (Lit.int .u16 n).wf = true) : 0 ≤ n ∧ n ≤ 65535 := by
  simp only [Lit.wf, Bool.and_eq_true, decide_eq_true_eq] at h
  have e1 : IntKind.u16.min = 0 := by decide
  have e2 : IntKind.u16.max = 65535 := by decide
  rw [e1, e2] at h
  exact h

theorem jobOne : Try.prog.cellsOf 28 = 4 := by kernel_rfl
theorem pickOne : Try.prog.cellsOf 44 = 3 := by kernel_rfl

/-- A job's slice. -/
def Jb.sl (j : Jb) : Value := .slice j.A j.L j.cap

set_option maxRecDepth 100000 in
theorem job_cells {H : Type} {enc : TypeId × Value → H} {W : World} {fuel : Nat} {cs : List Value} {x : DataW H × List MemPlace} (hsz : cs.length = 4)
    (h : DataW.trod enc Try.prog W 0 (fun _ => true) true fuel 28 cs = some x) :
    ∃ y : Jb, cs = [.int .u8 y.K, .int .u16 y.P, .int .u16 y.N, y.sl] ∧ y.Is W := by
  match cs, hsz with
  | [v0, v1, v2, v3], _ =>
    obtain ⟨xs, n, _, _, _, hlen, hg⟩ := DataW.trod_struct Try.underlying28 h
    have g0 := hg 0 _ rfl
    have g1 := hg 1 _ rfl
    have g2 := hg 2 _ rfl
    have g3 := hg 3 _ rfl
    have cU : Try.prog.cellsOf 25 = 1 := by kernel_rfl
    have cB : Try.prog.cellsOf 26 = 1 := by kernel_rfl
    match xs, hlen with
    | [y0, y1, y2, y3], _ =>
      simp [cellsU8, cU, cB] at g0 g1 g2 g3
      obtain ⟨K, e0, _, w0⟩ := DataW.trod_int Try.underlying5 g0
      obtain ⟨P, e1, _, w1⟩ := DataW.trod_int Try.underlying25 g1
      obtain ⟨N, e2, _, w2⟩ := DataW.trod_int Try.underlying25 g2
      obtain ⟨A, L, cap, f, e3, h1, h2, h3, h4⟩ := bytes_cell g3
      simp only [List.cons.injEq, and_true] at e0 e1 e2 e3
      subst e0 e1 e2 e3
      have b0 := u8_wide w0
      have b1 := u16_wide w1
      have b2 := u16_wide w2
      obtain ⟨K, rfl⟩ := Int.eq_ofNat_of_zero_le b0.1
      obtain ⟨P, rfl⟩ := Int.eq_ofNat_of_zero_le b1.1
      obtain ⟨N, rfl⟩ := Int.eq_ofNat_of_zero_le b2.1
      exact ⟨⟨K, P, N, A, L, cap, f⟩, rfl, by show K < 256; omega, by show P < 65536; omega, by show N < 65536; omega, h1, h2, h3, h4⟩

set_option maxRecDepth 100000 in
theorem pick_cells {H : Type} {enc : TypeId × Value → H} {W : World} {fuel : Nat} {cs : List Value} {x : DataW H × List MemPlace} (hsz : cs.length = 3)
    (h : DataW.trod enc Try.prog W 0 (fun _ => true) true fuel 44 cs = some x) :
    ∃ y : Pk, cs = [.int .i64 y.K, .int .i64 y.A, .int .i64 y.N] := by
  match cs, hsz with
  | [v0, v1, v2], _ =>
    obtain ⟨xs, n, _, _, _, hlen, hg⟩ := DataW.trod_struct Try.underlying44 h
    have g0 := hg 0 _ rfl
    have g1 := hg 1 _ rfl
    have g2 := hg 2 _ rfl
    have cI : Try.prog.cellsOf 3 = 1 := by kernel_rfl
    have cJ : Try.prog.cellsOf 2 = 1 := by kernel_rfl
    match xs, hlen with
    | [y0, y1, y2], _ =>
      simp [cI, cJ] at g0 g1 g2
      obtain ⟨K, e0, _, _⟩ := DataW.trod_int Try.underlying3 g0
      obtain ⟨P, e1, _, _⟩ := DataW.trod_int Try.underlying3 g1
      obtain ⟨N, e2, _, _⟩ := DataW.trod_int Try.underlying2 g2
      simp only [List.cons.injEq, and_true] at e0 e1 e2
      subst e0 e1 e2
      exact ⟨⟨K, P, N⟩, rfl⟩

set_option maxRecDepth 100000 in
theorem open_jobs {H : Type} {enc : TypeId × Value → H} {W : World} {base : Nat} {v : Value} {d : DataW H} {ps : List MemPlace}
    (hv : Value.okWide Try.prog W .any base 22 v) (h : DataW.Trod enc Try.prog W 0 (fun _ => true) true 22 v d ps) :
    ∃ (A : Option Addr) (L cap : Nat) (T : Nat → Jb), v = .slice A L cap ∧ JbsAt W A L T ∧ L ≤ cap ∧ cap ≤ 9223372036854775807 := by
  obtain ⟨a0, len0, cap0, rfl⟩ := okWide_slice Try.underlying22 hv
  obtain ⟨fuel, hf⟩ := h
  rcases open_slice Try.underlying22 hf with ⟨hcs, _⟩ | ⟨a, len, cap, m, n, D, Pl, hcs, hb, hl, hm, hmm, _, hi⟩
  · simp [Value.cells] at hcs
    obtain ⟨rfl, rfl, rfl⟩ := hcs
    exact ⟨none, 0, 0, fun _ => ⟨0, 0, 0, none, 0, 0, fun _ => 0⟩, rfl, fun h => absurd h (Nat.lt_irrefl 0), Nat.le_refl _, by decide⟩
  · simp [Value.cells] at hcs
    obtain ⟨rfl, rfl, rfl⟩ := hcs
    simp only [if_true] at hmm
    rw [jobOne] at hi
    have hx : ∀ i, i < m → ∃ y : Jb, (∀ j : Nat, j < 4 → W.cell? ((a.add (i * 4)).add j) = ([.int .u8 y.K, .int .u16 y.P, .int .u16 y.N, y.sl] : List Value)[j]?) ∧ y.Is W := by
      intro i him
      obtain ⟨cs', hc, ht'⟩ := hi i him
      obtain ⟨_, hcl, hat⟩ := World.cells?_some hc
      obtain ⟨y, hy, his⟩ := job_cells hcl ht'
      subst hy
      exact ⟨y, hat, his⟩
    have hT : ∃ T : Nat → Jb, ∀ i, i < m → (∀ j : Nat, j < 4 → W.cell? ((a.add (i * 4)).add j) = ([.int .u8 (T i).K, .int .u16 (T i).P, .int .u16 (T i).N, (T i).sl] : List Value)[j]?) ∧ (T i).Is W := by
      refine ⟨fun i => if h : i < m then Classical.choose (hx i h) else ⟨0, 0, 0, none, 0, 0, fun _ => 0⟩, fun i him => ?_⟩
      simp only [dif_pos him]
      exact Classical.choose_spec (hx i him)
    obtain ⟨T, hT⟩ := hT
    refine ⟨some a, _, _, T, rfl, fun hp => ?_, hl, by unfold maxLen at hm; omega⟩
    obtain ⟨b, off, spot⟩ := a
    have h00 := (hT 0 (by omega)).1 0 (by decide)
    have hspot : spot = none := by simpa [Addr.add] using World.cell?_spot h00
    subst hspot
    refine ⟨b, off, rfl, ?_, fun i him => ?_⟩
    · rcases Nat.lt_or_ge b W.heap.size with hlt | hge
      · exact hlt
      · simp [World.cell?, Addr.add, Array.getElem?_eq_none hge] at h00
    · obtain ⟨hc, his⟩ := hT i (by omega)
      have e : ∀ j, ((⟨b, off, none⟩ : Addr).add (i * 4)).add j = ⟨b, off + i * 4 + j, none⟩ := fun j => by
        unfold Addr.add
        split <;> split <;> simp_all
      have c0 := hc 0 (by decide)
      have c1 := hc 1 (by decide)
      have c2 := hc 2 (by decide)
      have c3 := hc 3 (by decide)
      rw [e] at c0 c1 c2 c3
      exact ⟨c0, c1, c2, c3, his⟩

set_option maxRecDepth 100000 in
theorem open_picks {H : Type} {enc : TypeId × Value → H} {W : World} {base : Nat} {v : Value} {d : DataW H} {ps : List MemPlace}
    (hv : Value.okWide Try.prog W .any base 23 v) (h : DataW.Trod enc Try.prog W 0 (fun _ => true) true 23 v d ps) :
    ∃ (A : Option Addr) (cap : Nat) (pks : List Pk), v = .slice A pks.length cap ∧ PksAt W A pks ∧ pks.length ≤ cap ∧ cap ≤ 9223372036854775807 := by
  obtain ⟨a0, len0, cap0, rfl⟩ := okWide_slice Try.underlying23 hv
  obtain ⟨fuel, hf⟩ := h
  rcases open_slice Try.underlying23 hf with ⟨hcs, _⟩ | ⟨a, len, cap, m, n, D, Pl, hcs, hb, hl, hm, hmm, _, hi⟩
  · simp [Value.cells] at hcs
    obtain ⟨rfl, rfl, rfl⟩ := hcs
    exact ⟨none, 0, [], rfl, fun h => absurd h (Nat.lt_irrefl 0), Nat.le_refl _, by decide⟩
  · simp [Value.cells] at hcs
    obtain ⟨rfl, rfl, rfl⟩ := hcs
    simp only [if_true] at hmm
    rw [pickOne] at hi
    have hx : ∀ i, i < m → ∃ y : Pk, ∀ j : Nat, j < 3 → W.cell? ((a.add (i * 3)).add j) = ([.int .i64 y.K, .int .i64 y.A, .int .i64 y.N] : List Value)[j]? := by
      intro i him
      obtain ⟨cs', hc, ht'⟩ := hi i him
      obtain ⟨_, hcl, hat⟩ := World.cells?_some hc
      obtain ⟨y, hy⟩ := pick_cells hcl ht'
      subst hy
      exact ⟨y, hat⟩
    have hT : ∃ T : Nat → Pk, ∀ i, i < m → ∀ j : Nat, j < 3 → W.cell? ((a.add (i * 3)).add j) = ([.int .i64 (T i).K, .int .i64 (T i).A, .int .i64 (T i).N] : List Value)[j]? := by
      refine ⟨fun i => if h : i < m then Classical.choose (hx i h) else ⟨0, 0, 0⟩, fun i him => ?_⟩
      simp only [dif_pos him]
      exact Classical.choose_spec (hx i him)
    obtain ⟨T, hT⟩ := hT
    have elen : ((List.range len0).map T).length = len0 := by simp
    refine ⟨some a, _, (List.range len0).map T, by rw [elen], fun hp => ?_, by rw [elen]; exact hl, by unfold maxLen at hm; omega⟩
    rw [elen] at hp
    obtain ⟨b, off, spot⟩ := a
    have h00 := hT 0 (by omega) 0 (by decide)
    have hspot : spot = none := by simpa [Addr.add] using World.cell?_spot h00
    subst hspot
    refine ⟨b, off, rfl, ?_, fun i p hip => ?_⟩
    · rcases Nat.lt_or_ge b W.heap.size with hlt | hge
      · exact hlt
      · simp [World.cell?, Addr.add, Array.getElem?_eq_none hge] at h00
    · have him : i < len0 := by have := (List.getElem?_eq_some_iff.1 hip).1; rwa [elen] at this
      have hpi : p = T i := by simp [him] at hip; exact hip.symm
      subst hpi
      have hc := hT i (by omega)
      have e : ∀ j, ((⟨b, off, none⟩ : Addr).add (i * 3)).add j = ⟨b, off + i * 3 + j, none⟩ := fun j => by
        unfold Addr.add
        split <;> split <;> simp_all
      have c0 := hc 0 (by decide)
      have c1 := hc 1 (by decide)
      have c2 := hc 2 (by decide)
      rw [e] at c0 c1 c2
      exact ⟨c0, c1, c2⟩
end Go.Proofs.Ytijgfaggakbajaa
