/-
  Arguments of layer 2's statements opened: an access by value, a list of bytes.
-/
import Derived.Test.YtijgfaggakbajaaMembufCheck
import Derived.Test.YtijgfaggakbajaaLaw
import Derived.Deep.Fields
namespace Go.Proofs.Ytijgfaggakbajaa
open Go.ChangeShapes Go.WideShapes Go.ChangeAt Go.RowKit Go.Deep

theorem cellsU8 : Try.prog.cellsOf 5 = 1 := by kernel_rfl
theorem accessOne : Try.prog.cellsOf 47 = 6 := by kernel_rfl

/-- The bytes of a list, as numbers that stand everywhere. -/
def nums (zs : List Int) (i : Nat) : Nat := (zs.getD i 0).toNat % 256

theorem nums_isB (zs : List Int) : Mb.IsB (nums zs) := fun _ => Nat.mod_lt _ (by decide)

theorem bytes_cell {H : Type} {enc : TypeId × Value → H} {W : World} {fuel : Nat} {cs : List Value} {x : DataW H × List MemPlace}
    (h : DataW.trod enc Try.prog W 0 (fun _ => true) true fuel 26 cs = some x) :
    ∃ A L cap f, cs = [.slice A L cap] ∧ Mb.IsB f ∧ BytesAt W (.slice A L cap) (Mb.bl f 0 L) ∧ L ≤ cap ∧ cap ≤ 9223372036854775807 := by
  rcases open_ints Try.underlying26 Try.underlying5 cellsU8 h with ⟨hcs, _⟩ | ⟨a, len, cap, zs, hcs, _, hl, hm, hz, _, hcell, hwz⟩
  · exact ⟨none, 0, 0, fun _ => 0, hcs, Mb.zero_isB, bytesAt_none _ _ _ _, Nat.le_refl _, by decide⟩
  · simp only [if_true] at hz
    refine ⟨some a, len, cap, nums zs, hcs, nums_isB zs, ⟨some a, cap, by rw [Mb.bl_length], fun hp => ?_⟩, hl, by unfold maxLen at hm; omega⟩
    rw [Mb.bl_length] at hp ⊢
    obtain ⟨b, off, spot⟩ := a
    have hspot : spot = none := by simpa [Addr.add] using World.cell?_spot (hcell 0 (by omega))
    subst hspot
    have hc : ∀ i, i < len → W.cell? ⟨b, off + i, none⟩ = some (.int .u8 ((Mb.bl (nums zs) 0 len).getD i 0)) := by
      intro i hi
      have e : (⟨b, off, none⟩ : Addr).add i = ⟨b, off + i, none⟩ := by unfold Addr.add; split <;> simp_all
      have h1 := hcell i (by omega)
      rw [e] at h1
      rw [h1, Mb.bl_getD _ _ _ _ hi]
      have hmem : zs.getD i 0 ∈ zs := by
        rw [List.getD_eq_getElem?_getD, List.getElem?_eq_getElem (by omega)]
        exact List.getElem_mem _
      have hb := bounds_u8 (hwz _ hmem)
      unfold nums
      rw [Nat.zero_add]
      congr 2
      omega
    refine ⟨b, off, rfl, ?_, hc⟩
    rcases Nat.lt_or_ge b W.heap.size with hlt | hge
    · exact hlt
    · have := hc 0 hp
      simp [World.cell?, Array.getElem?_eq_none hge] at this

set_option maxRecDepth 100000 in
theorem open_bl {H : Type} {enc : TypeId × Value → H} {W : World} {base : Nat} {v : Value} {d : DataW H} {ps : List MemPlace}
    (hv : Value.okWide Try.prog W .any base 26 v) (h : DataW.Trod enc Try.prog W 0 (fun _ => true) true 26 v d ps) :
    ∃ A L cap f, v = .slice A L cap ∧ Mb.IsB f ∧ BytesAt W (.slice A L cap) (Mb.bl f 0 L) ∧ L ≤ cap ∧ cap ≤ 9223372036854775807 := by
  obtain ⟨a0, len, cap, rfl⟩ := okWide_slice Try.underlying26 hv
  obtain ⟨fuel, hf⟩ := h
  obtain ⟨A, L, cp, f, hcs, hr⟩ := bytes_cell hf
  simp [Value.cells] at hcs
  obtain ⟨rfl, rfl, rfl⟩ := hcs
  exact ⟨_, _, _, f, rfl, hr⟩

set_option maxRecDepth 100000 in
theorem open_access {H : Type} {enc : TypeId × Value → H} {W : World} {base : Nat} {v : Value} {d : DataW H} {ps : List MemPlace}
    (hv : Value.okWide Try.prog W .any base 47 v) (h : DataW.Trod enc Try.prog W 0 (fun _ => true) true 47 v d ps) :
    ∃ (K P N : Int) (V U : Nat) (A : Option Addr) (L cap : Nat) (f : Nat → Nat), v = .agg #[.int .i64 K, .int .i64 P, .int .i64 N, .int .u64 V, .int .u64 U, .slice A L cap] ∧
      (-9223372036854775808 ≤ K ∧ K ≤ 9223372036854775807) ∧ (-9223372036854775808 ≤ P ∧ P ≤ 9223372036854775807) ∧ (-9223372036854775808 ≤ N ∧ N ≤ 9223372036854775807) ∧
      V < 18446744073709551616 ∧ U < 18446744073709551616 ∧ Mb.IsB f ∧ BytesAt W (.slice A L cap) (Mb.bl f 0 L) ∧ L ≤ cap ∧ cap ≤ 9223372036854775807 := by
  obtain ⟨cs, rfl, hsz⟩ := okWide_struct Try.underlying47 hv
  obtain ⟨l⟩ := cs
  rw [accessOne] at hsz
  match l, hsz with
  | [v0, v1, v2, v3, v4, v5], _ =>
    obtain ⟨fuel, hf⟩ := h
    obtain ⟨xs, n, _, _, _, hlen, hg⟩ := DataW.trod_struct Try.underlying47 hf
    have g0 := hg 0 _ rfl
    have g1 := hg 1 _ rfl
    have g2 := hg 2 _ rfl
    have g3 := hg 3 _ rfl
    have g4 := hg 4 _ rfl
    have g5 := hg 5 _ rfl
    have cInt : Try.prog.cellsOf 3 = 1 := by kernel_rfl
    have cU : Try.prog.cellsOf 45 = 1 := by kernel_rfl
    have cB : Try.prog.cellsOf 26 = 1 := by kernel_rfl
    match xs, hlen with
    | [y0, y1, y2, y3, y4, y5], _ =>
      simp [Value.cells, cInt, cU, cB] at g0 g1 g2 g3 g4 g5
      obtain ⟨K, e0, _, w0⟩ := DataW.trod_int Try.underlying3 g0
      obtain ⟨P, e1, _, w1⟩ := DataW.trod_int Try.underlying3 g1
      obtain ⟨N, e2, _, w2⟩ := DataW.trod_int Try.underlying3 g2
      obtain ⟨V, e3, _, w3⟩ := DataW.trod_int Try.underlying45 g3
      obtain ⟨U, e4, _, w4⟩ := DataW.trod_int Try.underlying45 g4
      obtain ⟨A, L, cap, f, e5, hr⟩ := bytes_cell g5
      simp only [List.cons.injEq, and_true] at e0 e1 e2 e3 e4 e5
      subst e0 e1 e2 e3 e4 e5
      have b3 := u64_wide w3
      have b4 := u64_wide w4
      obtain ⟨V, rfl⟩ := Int.eq_ofNat_of_zero_le b3.1
      obtain ⟨U, rfl⟩ := Int.eq_ofNat_of_zero_le b4.1
      exact ⟨K, P, N, V, U, A, L, cap, f, rfl, i64_wide w0, i64_wide w1, i64_wide w2, by omega, by omega, hr⟩
end Go.Proofs.Ytijgfaggakbajaa
