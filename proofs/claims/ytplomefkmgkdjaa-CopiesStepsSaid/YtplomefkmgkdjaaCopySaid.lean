/-
  Layer 5's statements: what machine is made, and what the plain answer says of it, walked.
-/
import Derived.Test.YtplomefkmgkdjaaTapeOut
import Derived.Test.YtplomefkmgkdjaaCopyMake
namespace Go.Proofs.Ytplomefkmgkdjaa
open Go.RowKit

/-- Which machine a kind names. -/
def kdOf (k at_ : Int) (f : Nat → Nat) : Kd := if k % 3 = 0 then .wr at_ f else if k % 3 = 1 then .ze at_ else .rd at_
/-- How many bytes it copies. -/
def lenOf (k n : Int) (L : Nat) : Nat := if k % 3 = 0 then L else Cy.few n

/-- So many answers were taken, of i. -/
def upTo (i n : Nat) : Nat := if 8 * i < n then i else (n + 7) / 8

/-- What the plain answer says of a machine that was told i answers. -/
def Said (kd : Kd) (p : Nat) (A : Option Addr) (cap i : Nat) (T : Nat → Ans) (n : Nat) (w : World) (e : Ending) (w' : World) : Prop :=
  ∃ B l c, e = .returned (.slice B l c) ∧ Touch (One p) w w' ∧ Owns w.heap.size w' (.slice B l c) (if kd.reads then cat T (upTo i n) else []) ∧
    ((8 * i < n ∧ ∃ B L c, Tp w' p A cap i i kd.kind (kd.place + (8 * i : Nat)) (Cy.nx (n - 8 * i) : Nat) 0 0 (.slice B L c) true ∧ BytesAt w' (.slice B L c) (kd.bytes (8 * i) (Cy.nx (n - 8 * i)))) ∨
     (n ≤ 8 * i ∧ ∃ j, Tp w' p A cap i j 0 0 0 0 0 (.slice none 0 0) false))

set_option maxRecDepth 100000 in
set_option maxHeartbeats 1000000 in
theorem made_any (k at_ n : Int) (B : Option Addr) (L cp : Nat) (f : Nat → Nat) (w : World) (hk0 : 0 ≤ k) (hk1 : k ≤ 255) (hnear : -4611686018427387904 ≤ at_ ∧ at_ ≤ 4611686018427387904) (hB : BytesAt w (.slice B L cp) (Mb.bl f 0 L)) (hL : L ≤ 131072) :
    Calls Try.prog 7 #[.int .u8 k, .int .i64 at_, .int .i64 n, .slice B L cp] w (MadeCp (kdOf k at_ f) (lenOf k n L) w) := by
  have HB := Lib.hid hB
  have HN := Lib.hid hnear
  clear hB hnear
  unfold kdOf lenOf
  by_cases h0 : k % 3 = 0
  · rw [if_pos h0, if_pos h0]
    have hb0 : (k % 3 == 0) = true := by simpa using h0
    have HI := Lib.hid (in_any at_ B L cp f w HN.out HB.out hL)
    clear h0
    go_enter Try.func7, Try.ntmps7
    go_wp2_with fail
    refine HI.out.mono ?_
    rintro e w1 ⟨g, rfl, h⟩
    have HH := Lib.hid h
    clear h
    go_wp2
    go_ret
    exact ⟨g, rfl, HH.out⟩
  · rw [if_neg h0, if_neg h0]
    have hb0 : (k % 3 == 0) = false := by simpa using h0
    by_cases h1 : k % 3 = 1
    · rw [if_pos h1]
      have hb1 : (k % 3 == 1) = true := by simpa using h1
      have HI := Lib.hid (zero_any at_ n w HN.out)
      clear h0 h1
      go_enter Try.func7, Try.ntmps7
      go_wp2_with fail
      refine HI.out.mono ?_
      rintro e w1 ⟨g, rfl, h⟩
      have HH := Lib.hid h
      clear h
      go_wp2
      go_ret
      exact ⟨g, rfl, HH.out⟩
    · rw [if_neg h1]
      have hb1 : (k % 3 == 1) = false := by simpa using h1
      have HI := Lib.hid (out_any at_ n w HN.out)
      clear h0 h1
      go_enter Try.func7, Try.ntmps7
      go_wp2_with fail
      refine HI.out.mono ?_
      rintro e w1 ⟨g, rfl, h⟩
      have HH := Lib.hid h
      clear h
      go_wp2
      go_ret
      exact ⟨g, rfl, HH.out⟩

theorem said_in {kd : Kd} {p cap i n : Nat} {A : Option Addr} {T : Nat → Ans} {at_ : Int} {f : Nat → Nat} {w w' : World} {b : Bool} (hr : kd.reads = false) (hk : kd.kind = 6) (hp : kd.place = at_) (hb : ∀ c, kd.bytes (8 * i) c = Mb.bl f (8 * i) c)
    (h : SaidIn p A cap i at_ f n w (.returned (.bool b)) w') : Said kd p A cap i T n w (.returned (.slice none 0 0)) w' := by
  obtain ⟨b', _, ht, hc⟩ := h
  refine ⟨none, 0, 0, rfl, ht, by rw [hr]; exact World.ownsRow_nil _ _ _ _, ?_⟩
  rcases hc with ⟨h8, B, L, c, h1, h2⟩ | hc
  · refine .inl ⟨h8, B, L, c, ?_, ?_⟩
    · rw [hk, hp]; exact h1
    · rw [hb]; exact h2
  · exact .inr hc

set_option maxRecDepth 100000 in
set_option maxHeartbeats 1000000 in
theorem said_any (k at_ n : Int) (B : Option Addr) (L cp : Nat) (f : Nat → Nat) {w : World} {p cap i : Nat} {A : Option Addr} (h : Tp w p A cap i 0 0 0 0 0 0 (.slice none 0 0) false) (hi : i ≤ cap) (hcap : cap ≤ 9223372036854775807) {T : Nat → Ans} (hT : ToldAt w A i T) (hA : 0 < i → ∀ a, A = some a → a.block ≠ p)
    (hcat : (cat T i).length ≤ 1073741824) (hk0 : 0 ≤ k) (hk1 : k ≤ 255) (hat0 : -4611686018427387904 ≤ at_) (hat1 : at_ ≤ 4611686018427387904) (hB : BytesAt w (.slice B L cp) (Mb.bl f 0 L)) (hL : L ≤ 131072) (hcp : L ≤ cp) (hcp2 : cp ≤ 9223372036854775807) :
    Calls Try.prog 8 #[.pointer (some ⟨p, 0, none⟩), .int .u8 k, .int .i64 at_, .int .i64 n, .slice B L cp] w (Said (kdOf k at_ f) p A cap i T (lenOf k n L) w) := by
  have HI := Lib.hid (tapeIn_any h hi hcap hT hA at_ hat0 hat1 B L cp f hB hL hcp hcp2)
  have HZ := Lib.hid (tapeZero_any h hi hcap hT hA at_ hat0 hat1 n)
  have HO := Lib.hid (tapeOut_any h hi hcap hT hA hcat at_ hat0 hat1 n)
  clear h hT hA hB
  unfold kdOf lenOf
  by_cases h0 : k % 3 = 0
  · rw [if_pos h0, if_pos h0]
    have hb0 : (k % 3 == 0) = true := by simpa using h0
    clear h0 HZ HO
    go_enter Try.func8, Try.ntmps8
    go_wp2_with fail
    refine HI.out.mono ?_
    rintro e w1 ⟨b, rfl, h⟩
    have HH := Lib.hid h
    clear h
    go_wp2
    go_ret
    exact said_in rfl rfl rfl (fun _ => rfl) ⟨b, rfl, HH.out⟩
  · rw [if_neg h0, if_neg h0]
    have hb0 : (k % 3 == 0) = false := by simpa using h0
    by_cases h1 : k % 3 = 1
    · rw [if_pos h1]
      have hb1 : (k % 3 == 1) = true := by simpa using h1
      clear h0 h1 HI HO
      go_enter Try.func8, Try.ntmps8
      go_wp2_with fail
      refine HZ.out.mono ?_
      rintro e w1 ⟨b, rfl, h⟩
      have HH := Lib.hid h
      clear h
      go_wp2
      go_ret
      exact said_in rfl rfl rfl (fun _ => rfl) ⟨b, rfl, HH.out⟩
    · rw [if_neg h1]
      have hb1 : (k % 3 == 1) = false := by simpa using h1
      clear h0 h1 HI HZ
      go_enter Try.func8, Try.ntmps8
      go_wp2_with fail
      refine HO.out.mono ?_
      rintro e w1 ⟨B2, l2, c2, b, rfl, ht, ho, hc⟩
      have HH := Lib.hid hc
      have HT := Lib.hid ht
      have HOW := Lib.hid ho
      clear ht ho hc
      go_wp2
      go_ret
      refine ⟨B2, l2, c2, rfl, HT.out, HOW.out, ?_⟩
      rcases HH.out with ⟨h8, h1⟩ | hc
      · exact .inl ⟨h8, none, 0, 0, h1, BytesAt.nil _⟩
      · exact .inr hc
end Go.Proofs.Ytplomefkmgkdjaa
