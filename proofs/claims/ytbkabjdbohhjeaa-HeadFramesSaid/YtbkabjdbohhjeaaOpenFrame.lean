/-
  Arguments of layer 3's statements opened: a frame by value, four words by value.
-/
import Derived.Test.YtbkabjdbohhjeaaLaw
import Derived.Deep.Fields
import Derived.Laws.IdiomArrays
namespace Go.Proofs.Ytbkabjdbohhjeaa
open Go.ChangeShapes Go.WideShapes Go.ChangeAt Go.RowKit Go.Deep

theorem frameCells : Try.prog.cellsOf 30 = 9 := by kernel_rfl
theorem wordsCells : Try.prog.cellsOf 31 = 4 := by kernel_rfl

theorem open_frame {H : Type} {enc : TypeId × Value → H} {W : World} {base : Nat} {x : Value} {d : DataW H} {ps : List MemPlace}
    (hv : Value.okWide Try.prog W .any base 30 x) (h : DataW.Trod enc Try.prog W 0 (fun _ => true) true 30 x d ps) :
    ∃ (l v f t o s m r z : Int), x = .agg #[.int .i32 l, .int .u8 v, .int .u8 f, .int .u16 t, .int .i32 o, .int .i32 s, .int .i32 m, .int .i32 r, .int .u64 z] ∧ (-2147483648 ≤ l ∧ l ≤ 2147483647) ∧ (0 ≤ v ∧ v ≤ 255) ∧ (0 ≤ f ∧ f ≤ 255) ∧ (0 ≤ t ∧ t ≤ 65535) ∧ (-2147483648 ≤ o ∧ o ≤ 2147483647) ∧ (-2147483648 ≤ s ∧ s ≤ 2147483647) ∧ (-2147483648 ≤ m ∧ m ≤ 2147483647) ∧ (-2147483648 ≤ r ∧ r ≤ 2147483647) ∧ (0 ≤ z ∧ z ≤ 18446744073709551615) := by
  obtain ⟨cs, rfl, hsz⟩ := okWide_struct Try.underlying30 hv
  obtain ⟨l⟩ := cs
  rw [frameCells] at hsz
  match l, hsz with
  | [v0, v1, v2, v3, v4, v5, v6, v7, v8], _ =>
    obtain ⟨fuel, hf⟩ := h
    obtain ⟨xs, n, _, _, _, hlen, hg⟩ := DataW.trod_struct Try.underlying30 hf
    have g0 := hg 0 _ rfl
    have g1 := hg 1 _ rfl
    have g2 := hg 2 _ rfl
    have g3 := hg 3 _ rfl
    have g4 := hg 4 _ rfl
    have g5 := hg 5 _ rfl
    have g6 := hg 6 _ rfl
    have g7 := hg 7 _ rfl
    have g8 := hg 8 _ rfl
    have cint32 : Try.prog.cellsOf 21 = 1 := by kernel_rfl
    have cuint8 : Try.prog.cellsOf 5 = 1 := by kernel_rfl
    have cuint16 : Try.prog.cellsOf 28 = 1 := by kernel_rfl
    have cuint64 : Try.prog.cellsOf 22 = 1 := by kernel_rfl
    match xs, hlen with
    | [y0, y1, y2, y3, y4, y5, y6, y7, y8], _ =>
      simp [Value.cells, cint32, cuint8, cuint16, cuint64] at g0 g1 g2 g3 g4 g5 g6 g7 g8
      obtain ⟨l, e0, _, w0⟩ := DataW.trod_int Try.underlying21 g0
      obtain ⟨v, e1, _, w1⟩ := DataW.trod_int Try.underlying5 g1
      obtain ⟨f, e2, _, w2⟩ := DataW.trod_int Try.underlying5 g2
      obtain ⟨t, e3, _, w3⟩ := DataW.trod_int Try.underlying28 g3
      obtain ⟨o, e4, _, w4⟩ := DataW.trod_int Try.underlying21 g4
      obtain ⟨s, e5, _, w5⟩ := DataW.trod_int Try.underlying21 g5
      obtain ⟨m, e6, _, w6⟩ := DataW.trod_int Try.underlying21 g6
      obtain ⟨r, e7, _, w7⟩ := DataW.trod_int Try.underlying21 g7
      obtain ⟨z, e8, _, w8⟩ := DataW.trod_int Try.underlying22 g8
      simp only [List.cons.injEq, and_true] at e0 e1 e2 e3 e4 e5 e6 e7 e8
      subst e0 e1 e2 e3 e4 e5 e6 e7 e8
      exact ⟨l, v, f, t, o, s, m, r, z, rfl, bounds_i32 w0, bounds_u8 w1, bounds_u8 w2, bounds_u16 w3, bounds_i32 w4, bounds_i32 w5, bounds_i32 w6, bounds_i32 w7, bounds_u64 w8⟩

theorem list4 {α : Type} (l : List α) (h : l.toArray.size = 4) : ∃ a b c d, l = [a, b, c, d] := by
  match l, h with
  | [a, b, c, d], _ => exact ⟨a, b, c, d, rfl⟩

theorem open_words {H : Type} {enc : TypeId × Value → H} {W : World} {base : Nat} {x : Value} {d : DataW H} {ps : List MemPlace}
    (hv : Value.okWide Try.prog W .any base 31 x) (h : DataW.Trod enc Try.prog W 0 (fun _ => true) true 31 x d ps) :
    ∃ (a b c d : Int), x = .agg #[.int .u64 a, .int .u64 b, .int .u64 c, .int .u64 d] ∧ (0 ≤ a ∧ a ≤ 18446744073709551615) ∧ (0 ≤ b ∧ b ≤ 18446744073709551615) ∧
      (0 ≤ c ∧ c ≤ 18446744073709551615) ∧ (0 ≤ d ∧ d ≤ 18446744073709551615) := by
  obtain ⟨cs, rfl, hsz, _⟩ : ∃ cs, x = .agg cs ∧ cs.size = Try.prog.cellsOf 31 ∧ Row.okWide Try.prog W .any base 31 cs := by
    simpa [Value.okWide, Try.underlying31] using hv
  rw [wordsCells] at hsz
  obtain ⟨l⟩ := cs
  obtain ⟨c0, c1, c2, c3, rfl⟩ := list4 l hsz
  obtain ⟨fuel, hf⟩ := h
  have ce : Try.prog.cellsOf 22 = 1 := by kernel_rfl
  obtain ⟨y0, y1, y2, y3, m, hx, hy0, hy1, hy2, hy3⟩ := trod_array4 Try.underlying31 ce hf
  obtain ⟨x0, e0, _, w0⟩ := DataW.trod_int Try.underlying22 hy0
  obtain ⟨x1, e1, _, w1⟩ := DataW.trod_int Try.underlying22 hy1
  obtain ⟨x2, e2, _, w2⟩ := DataW.trod_int Try.underlying22 hy2
  obtain ⟨x3, e3, _, w3⟩ := DataW.trod_int Try.underlying22 hy3
  simp only [List.cons.injEq, and_true] at e0 e1 e2 e3
  subst e0 e1 e2 e3
  exact ⟨x0, x1, x2, x3, rfl, bounds_u64 w0, bounds_u64 w1, bounds_u64 w2, bounds_u64 w3⟩
end Go.Proofs.Ytbkabjdbohhjeaa
