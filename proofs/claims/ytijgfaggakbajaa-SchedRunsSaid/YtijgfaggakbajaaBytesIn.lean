/-
  A slice that reads as bytes, and lies in blocks that K names; no function of the program is walked here.
-/
import Derived.Test.YtijgfaggakbajaaBytesMem
import Derived.Test.YtijgfaggakbajaaMembufMem
namespace Go.Proofs.Ytijgfaggakbajaa
open Go.RowKit

/-- The slice value v reads as the bytes xs, which lie in a block that K names (an empty one may lie anywhere). -/
def BytesIn (K : Nat → Prop) (w : World) (v : Value) (xs : List Int) : Prop :=
  ∃ A cap, v = .slice A xs.length cap ∧ (0 < xs.length → ∃ b off, A = some ⟨b, off, none⟩ ∧ K b ∧ b < w.heap.size ∧ ∀ i, i < xs.length → w.cell? ⟨b, off + i, none⟩ = some (.int .u8 (xs.getD i 0)))

namespace BytesIn
variable {K K' : Nat → Prop} {w w' : World} {v : Value} {xs : List Int}
theorem bytes (h : BytesIn K w v xs) : BytesAt w v xs := by
  obtain ⟨A, c, hv, h⟩ := h
  exact ⟨A, c, hv, fun hp => by obtain ⟨b, off, e, _, h3, h4⟩ := h hp; exact ⟨b, off, e, h3, h4⟩⟩
theorem none (K : Nat → Prop) (w : World) : BytesIn K w (.slice none 0 0) [] := ⟨Option.none, 0, rfl, fun h => absurd h (by simp)⟩
theorem empty (h : BytesAt w v []) (K : Nat → Prop) : BytesIn K w v [] := by
  obtain ⟨A, c, hv, _⟩ := h
  exact ⟨A, c, hv, fun h => absurd h (by simp)⟩
theorem mono (h : BytesIn K w v xs) (hK : ∀ k, K k → k < w.heap.size → K' k) : BytesIn K' w v xs := by
  obtain ⟨A, c, hv, h⟩ := h
  exact ⟨A, c, hv, fun hp => by obtain ⟨b, off, e, h2, h3, h4⟩ := h hp; exact ⟨b, off, e, hK b h2 h3, h3, h4⟩⟩
theorem keep (h : BytesIn K w v xs) (hs : w.heap.size ≤ w'.heap.size) (hb : ∀ k, K k → k < w.heap.size → w'.heap[k]? = w.heap[k]?) : BytesIn K w' v xs := by
  obtain ⟨A, c, hv, h⟩ := h
  refine ⟨A, c, hv, fun hp => ?_⟩
  obtain ⟨b, off, e, h2, h3, h4⟩ := h hp
  exact ⟨b, off, e, h2, Nat.lt_of_lt_of_le h3 hs, fun i hi => (World.cell?_of_block (w := w) (a := ⟨b, off + i, Option.none⟩) (hb b h2 h3)).trans (h4 i hi)⟩
theorem below (h : BytesIn K w v xs) (hb : Below w.heap.size w w') : BytesIn K w' v xs := h.keep hb.size fun k _ hk => hb.block k hk
theorem touch {S : Nat → Prop} (h : BytesIn K w v xs) (ht : Touch S w w') (hn : ∀ k, K k → ¬ S k) : BytesIn K w' v xs := h.keep ht.size fun k hk hl => ht.block k hl (hn k hk)
theorem of_at (h : BytesAt w v xs) : BytesIn (fun _ => True) w v xs := by
  obtain ⟨A, c, hv, h⟩ := h
  exact ⟨A, c, hv, fun hp => by obtain ⟨b, off, e, h3, h4⟩ := h hp; exact ⟨b, off, e, trivial, h3, h4⟩⟩
theorem lt (h : BytesIn K w v xs) : BytesIn (fun k => K k ∧ k < w.heap.size) w v xs := h.mono fun _ h1 h2 => ⟨h1, h2⟩
theorem of_own {base : Nat} (h : Owns base w v xs) : BytesIn (fun k => base ≤ k) w v xs := by
  by_cases hp : 0 < xs.length
  · obtain ⟨g, cap, hv, _⟩ := h.form hp
    have hge := World.ownsRow.lt h g (by rw [hv]; rfl)
    have hc := h.bytes
    rw [hv] at hc
    obtain ⟨A, c, e, hc⟩ := hc
    obtain ⟨b, off, e1, h3, h4⟩ := hc hp
    have e2 := e1
    injection e with e _ _
    rw [← e] at e1
    injection e1 with e1
    injection e1 with e5 e6
    subst e5 e6
    refine ⟨some ⟨g, 0, Option.none⟩, cap, hv, fun _ => ⟨g, 0, rfl, hge.1, h3, h4⟩⟩
  · have hx : xs = [] := List.eq_nil_of_length_eq_zero (by omega)
    subst hx
    exact empty h.bytes _
theorem length (h : BytesIn K w v xs) : ∃ A c, v = .slice A xs.length c := by
  obtain ⟨A, c, hv, _⟩ := h
  exact ⟨A, c, hv⟩
end BytesIn
end Go.Proofs.Ytijgfaggakbajaa
