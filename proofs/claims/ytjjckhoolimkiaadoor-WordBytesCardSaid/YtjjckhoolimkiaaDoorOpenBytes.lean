/-
  A []byte argument opened: whatever slice reads as data reads as a list of bytes.
-/
import Derived.Test.YtjjckhoolimkiaaDoorBytesWalks
import Derived.Test.YtjjckhoolimkiaaDoorNumWalks
import Derived.Test.YtjjckhoolimkiaaDoorLaw
namespace Go.Proofs.YtjjckhoolimkiaaDoor
open Go.ChangeShapes Go.WideShapes Go.ChangeAt Go.RowKit

theorem cellsU8' : Tryd.prog.cellsOf 5 = 1 := by kernel_rfl

theorem open_bytes {H : Type} {enc : TypeId × Value → H} {W : World} {base : Nat} {v : Value} {d : DataW H} {ps : List MemPlace}
    (hv : Value.okWide Tryd.prog W .any base 32 v) (h : DataW.Trod enc Tryd.prog W 0 (fun _ => true) true 32 v d ps) :
    ∃ A cap xs, v = .slice A xs.length cap ∧ Wd.Bytes8 xs ∧ xs.length ≤ maxLen ∧ BytesAt W (.slice A xs.length cap) xs := by
  obtain ⟨a0, len, cap, rfl⟩ := okWide_slice Tryd.underlying32 hv
  obtain ⟨fuel, hf⟩ := h
  rcases open_ints Tryd.underlying32 Tryd.underlying5 cellsU8' hf with ⟨hcs, _⟩ | ⟨a, len', cap', zs, hcs, _, hl, hm, hz, _, hcell, hwz⟩
  · simp [Value.cells] at hcs
    obtain ⟨rfl, rfl, rfl⟩ := hcs
    exact ⟨none, 0, [], rfl, fun x hx => by simp at hx, by simp, BytesAt.nil W⟩
  · simp [Value.cells] at hcs
    obtain ⟨rfl, rfl, rfl⟩ := hcs
    simp only [if_true] at hz
    have hlen : (zs.take len).length = len := by rw [List.length_take]; omega
    refine ⟨some a, cap, zs.take len, by rw [hlen], fun x hx => ?_, by omega, ⟨some a, cap, rfl, fun hp => ?_⟩⟩
    · exact bounds_u8 (hwz x (List.mem_of_mem_take hx))
    · rw [hlen] at hp ⊢
      obtain ⟨b, off, spot⟩ := a
      have hspot : spot = none := by simpa [Addr.add] using World.cell?_spot (hcell 0 (by omega))
      subst hspot
      have hc : ∀ i, i < len → W.cell? ⟨b, off + i, none⟩ = some (.int .u8 ((zs.take len).getD i 0)) := by
        intro i hi
        have e : (⟨b, off, none⟩ : Addr).add i = ⟨b, off + i, none⟩ := by unfold Addr.add; split <;> simp_all
        have h1 := hcell i (by omega)
        rw [e] at h1
        rw [h1]
        simp [List.getD, hi]
      refine ⟨b, off, rfl, ?_, hc⟩
      rcases Nat.lt_or_ge b W.heap.size with hlt | hge
      · exact hlt
      · have := hc 0 hp
        simp [World.cell?, Array.getElem?_eq_none hge] at this
end Go.Proofs.YtjjckhoolimkiaaDoor
