/-
  What stands while copies run on a buffer (layer 5): the buffer, a row of bytes, two machines that read; bytes copied into a row.
-/
import Derived.Test.YtplomefkmgkdjaaCopyRun
import Derived.Test.YtplomefkmgkdjaaCopyMake
import Derived.Test.YtplomefkmgkdjaaCopyFixed
import Derived.Laws.CopyOwn
namespace Go.Proofs.Ytplomefkmgkdjaa
open Go.RowKit

/-- The one block q. -/
def Lone (q k : Nat) : Prop := k = q

theorem addr_add (b o j : Nat) : (⟨b, o, none⟩ : Addr).add j = ⟨b, o + j, none⟩ := by unfold Addr.add; split <;> simp_all

theorem map_bl_at (f : Nat → Nat) (a L j : Nat) (h : j < L) : ((Mb.bl f a L).map (Value.int .u8))[j]? = some (.int .u8 ((f (a + j) : Nat) : Int)) := by
  unfold Mb.bl
  rw [List.getElem?_map, List.getElem?_map, List.getElem?_range h]
  rfl

theorem splice_at {cur : Array Value} {u f : Nat → Nat} {off L n j : Nat} (hn : cur.size = n) (hcur : ∀ i, i < n → cur[i]? = some (.int .u8 ((u i : Nat) : Int))) (hfit : off + L ≤ n) (hj : j < n) :
    (cur.toList.take off ++ (Mb.bl f 0 L).map (Value.int .u8) ++ cur.toList.drop (off + L)).toArray[j]? = some (.int .u8 ((Cy.lay u f off L j : Nat) : Int)) := by
  have hcl : cur.toList.length = n := by rw [Array.length_toList]; exact hn
  have hlen : ((Mb.bl f 0 L).map (Value.int .u8)).length = L := by rw [List.length_map, Mb.bl_length]
  have htl : (cur.toList.take off).length = off := by rw [List.length_take, hcl]; omega
  have hcj := hcur j hj
  rw [List.getElem?_toArray, List.append_assoc]
  unfold Cy.lay
  by_cases h1 : j < off
  · rw [if_neg (by omega), List.getElem?_append_left (by omega), List.getElem?_take, if_pos h1, Array.getElem?_toList]
    exact hcj
  · rw [List.getElem?_append_right (by omega), htl]
    by_cases h2 : j < off + L
    · rw [if_pos (by omega), List.getElem?_append_left (by omega), map_bl_at f 0 L (j - off) (by omega), Nat.zero_add]
    · rw [if_neg (by omega), List.getElem?_append_right (by omega), hlen, List.getElem?_drop, Array.getElem?_toList]
      have e : off + L + (j - off - L) = j := by omega
      rw [e]
      exact hcj

/-- Bytes are copied into a row. -/
theorem run_copy_bytes {w : World} {q off n dLen dCap : Nat} {u f : Nat → Nat} (hr : w.rowIs q 5 n (fun j => .int .u8 ((u j : Nat) : Int))) (B : Option Addr) (L cp : Nat) (hB : BytesAt w (.slice B L cp) (Mb.bl f 0 L)) (hfit : off + L ≤ n) (hL : L ≤ dLen) (ty : TypeId) :
    ∃ w', (Builtin.copy_ #[22, 22] ty #[.slice (some ⟨q, off, none⟩) dLen dCap, .slice B L cp]).run Try.prog w = .ok (goInt L) w' ∧ w'.rowIs q 5 n (fun j => .int .u8 ((Cy.lay u f off L j : Nat) : Int)) ∧ Touch (Lone q) w w' := by
  obtain ⟨i0, hi, hz0, hz1, hz2⟩ := info_parts infoU8
  have hsz : (Try.prog.info? 5).map (·.size) = some 1 := by rw [hi]; simp [hz1]
  by_cases h0 : L = 0
  · subst h0
    refine ⟨w, run_copy_none (P := Try.prog) w _ _ ty 5 _ _ _ _ _ _ Try.underlying22 hsz (by simp), ?_, Touch.refl _ _⟩
    rw [Cy.lay_zero]
    exact hr
  · obtain ⟨A2, c2, hv, hx⟩ := hB
    obtain ⟨b, o, rfl, hlt, hc⟩ := hx (by rw [Mb.bl_length]; omega)
    injection hv with e1 _ _
    subst e1
    rw [Mb.bl_length] at hc
    obtain ⟨cur, hb, hn, hcur⟩ := hr
    have hlen : ((Mb.bl f 0 L).map (Value.int .u8)).length = L := by rw [List.length_map, Mb.bl_length]
    have hrun := run_copy_row (P := Try.prog) w 22 22 ty 5 q off dLen dCap ⟨b, o, none⟩ L cp cur _ ((Mb.bl f 0 L).map (Value.int .u8)) Try.underlying22 hsz hb (by rw [hlen]; exact (Nat.min_eq_left hL).symm)
      (by
        intro j v hj
        have hjl : j < L := by
          have := (List.getElem?_eq_some_iff.1 hj).1
          rw [hlen] at this
          exact this
        rw [addr_add b o j, hc j hjl, ← hj, map_bl_at f 0 L j hjl, Mb.bl_getD _ _ _ _ hjl]) (by rw [hlen, hn]; exact hfit) (by intro v hv; obtain ⟨z, _, rfl⟩ := List.mem_map.1 hv; rfl)
    rw [hlen] at hrun
    exact ⟨_, hrun, ⟨_, setRow_heap w q _ _ _ _ hb, by rw [List.size_toArray, List.length_append, List.length_append, hlen, List.length_take, List.length_drop, Array.length_toList, hn]; omega, fun j hj => splice_at hn hcur hfit hj⟩, ⟨rfl, rfl, rfl, by simp [World.setRow], fun k _ hk => setRow_other w q k _ hk⟩⟩

theorem wpList_copy_bytes {w : World} {ops : Array Oper} {rest : List Oper} {o : Oper} {ac : Act} {Q : Exit → Act → World → Prop} (hgd : o.guard = none) (d s : Operand)
    (ho : o.op = .call { callee := .builtin .copy, args := #[d, s], argTypes := #[22, 22] }) {q off n dLen dCap : Nat} {u f : Nat → Nat} (B : Option Addr) (L cp : Nat) (hd : ac.eval d = .slice (some ⟨q, off, none⟩) dLen dCap) (hs : ac.eval s = .slice B L cp)
    (hr : w.rowIs q 5 n (fun j => .int .u8 ((u j : Nat) : Int))) (hB : BytesAt w (.slice B L cp) (Mb.bl f 0 L)) (hfit : off + L ≤ n) (hL : L ≤ dLen)
    (h : ∀ w', w'.rowIs q 5 n (fun j => .int .u8 ((Cy.lay u f off L j : Nat) : Int)) → Touch (Lone q) w w' → wpList Try.prog ops Q rest (ac.put o.dst (goInt L)) w') : wpList Try.prog ops Q (o :: rest) ac w := by
  refine wpList_plain hgd fun K hK => ?_
  obtain ⟨w', hrun, h1, h2⟩ := run_copy_bytes hr B L cp hB hfit hL o.type (dCap := dCap)
  unfold Oper.wp
  simp [execOp, ho, resolve, invoke, builtin, hd, hs, hrun, Result.andThen]
  exact hK _ _ (h w' h1 h2)

/-- What stands while the machines run. -/
structure St (w W : World) (a gb hb wb b1 t1 g1 b2 t2 g2 : Nat) (m : Nat → Nat) (cn : Int) (u : Nat → Nat) (d1 r1 : Nat) (v1 : Value) (y1 : List Int) (d2 r2 : Nat) (v2 : Value) (y2 : List Int) : Prop where
  bel : Below w.heap.size w W
  buf : Buf W gb hb m 64 cn
  row : W.rowIs wb 5 512 (fun j => .int .u8 ((u j : Nat) : Int))
  out : Cp W b1 t1 g1 (.rd a) d1 r1 v1 y1
  back : Cp W b2 t2 g2 (.rd (0 : Nat)) d2 r2 v2 y2
  lo : w.heap.size ≤ gb ∧ w.heap.size ≤ hb
  mid : gb < wb ∧ hb < wb ∧ wb < b1 ∧ t1 ≤ b2
  own1 : ∀ q, v1.ownBlock = some q → t2 ≤ q
  own2 : ∀ q, v2.ownBlock = some q → t2 ≤ q

namespace St
variable {w W W' : World} {a gb hb wb b1 t1 g1 b2 t2 g2 : Nat} {m : Nat → Nat} {cn : Int} {u : Nat → Nat} {d1 r1 : Nat} {v1 : Value} {y1 : List Int} {d2 r2 : Nat} {v2 : Value} {y2 : List Int}
theorem below (h : St w W a gb hb wb b1 t1 g1 b2 t2 g2 m cn u d1 r1 v1 y1 d2 r2 v2 y2) (hb' : Below W.heap.size W W') : St w W' a gb hb wb b1 t1 g1 b2 t2 g2 m cn u d1 r1 v1 y1 d2 r2 v2 y2 :=
  ⟨h.bel.trans (hb'.mono h.bel.size), h.buf.below hb', h.row.of_block (hb'.block _ h.row.lt), h.out.below hb', h.back.below hb', h.lo, h.mid, h.own1, h.own2⟩
theorem order (h : St w W a gb hb wb b1 t1 g1 b2 t2 g2 m cn u d1 r1 v1 y1 d2 r2 v2 y2) : b1 ≤ g1 ∧ g1 < t1 ∧ b2 ≤ g2 ∧ g2 < t2 ∧ t2 ≤ W.heap.size := ⟨h.out.above, h.out.under, h.back.above, h.back.under, h.back.there⟩

/-- The row is written. -/
theorem rowed {u' : Nat → Nat} (h : St w W a gb hb wb b1 t1 g1 b2 t2 g2 m cn u d1 r1 v1 y1 d2 r2 v2 y2) (ht : Touch (Lone wb) W W') (hr : W'.rowIs wb 5 512 (fun j => .int .u8 ((u' j : Nat) : Int))) : St w W' a gb hb wb b1 t1 g1 b2 t2 g2 m cn u' d1 r1 v1 y1 d2 r2 v2 y2 := by
  have ho := h.order
  have hm := h.mid
  have hl := h.lo
  refine ⟨Touch.below h.bel ht h.bel.size (fun k hk => by have : k = wb := hk; omega), h.buf.touch ht (fun e => by have : gb = wb := e; omega) (fun e => by have : hb = wb := e; omega), hr,
    h.out.touch ht (fun k h1 _ e => by have : k = wb := e; omega) (fun k hk e => by have := h.own1 k hk; have : k = wb := e; omega), h.back.touch ht (fun k h1 _ e => by have : k = wb := e; omega) (fun k hk e => by have := h.own2 k hk; have : k = wb := e; omega), h.lo, h.mid, h.own1, h.own2⟩

/-- Another machine ran. -/
theorem ran {kd : Kd} {n p base top g : Nat} {e : Ending} (h : St w W a gb hb wb b1 t1 g1 b2 t2 g2 m cn u d1 r1 v1 y1 d2 r2 v2 y2) (hr : RunIs kd m p n gb hb 64 base top g (.slice none 0 0) W e W') (hg : t2 ≤ g)
    (h1 : ∀ q, v1.ownBlock = some q → q ≠ g) (h2 : ∀ q, v2.ownBlock = some q → q ≠ g) : ∃ c', e = .returned (.bool true) ∧ St w W' a gb hb wb b1 t1 g1 b2 t2 g2 (aftK kd m p n) c' u d1 r1 v1 y1 d2 r2 v2 y2 := by
  obtain ⟨v', c', he, hbuf, _, ht, _⟩ := hr
  have ho := h.order
  have hm := h.mid
  have hl := h.lo
  have hS : ∀ k, RunS gb hb g (.slice none 0 0) k → k = gb ∨ k = hb ∨ k = g := fun k hk => by
    rcases hk with hk | hk
    · rcases hk with hk | hk
      · exact .inl hk
      · exact .inr (.inl hk)
    · rcases hk with hk | hk
      · exact .inr (.inr hk)
      · cases hk
  refine ⟨c', he, Touch.below h.bel ht h.bel.size (fun k hk => by rcases hS k hk with e | e | e <;> omega), hbuf, h.row.of_block (ht.block _ h.row.lt (fun hk => by rcases hS _ hk with e | e | e <;> omega)),
    h.out.touch ht (fun k _ _ hk => by rcases hS k hk with e | e | e <;> omega) (fun k hq hk => by have := h.own1 k hq; have := h1 k hq; rcases hS k hk with e | e | e <;> omega),
    h.back.touch ht (fun k _ _ hk => by rcases hS k hk with e | e | e <;> omega) (fun k hq hk => by have := h.own2 k hq; have := h2 k hq; rcases hS k hk with e | e | e <;> omega), h.lo, h.mid, h.own1, h.own2⟩

/-- The first machine that reads ran. -/
theorem ranOut {n : Nat} {e : Ending} (h : St w W a gb hb wb b1 t1 g1 b2 t2 g2 m cn u 0 n (.slice none 0 0) y1 d2 r2 (.slice none 0 0) y2) (hr : RunIs (.rd a) m a n gb hb 64 b1 t1 g1 (.slice none 0 0) W e W') :
    ∃ c' v', e = .returned (.bool true) ∧ St w W' a gb hb wb b1 t1 g1 b2 t2 g2 m c' u n 0 v' (Mb.bl m a n) d2 r2 (.slice none 0 0) y2 := by
  obtain ⟨v', c', he, hbuf, hcp, ht, hly⟩ := hr
  have ho := h.order
  have hm := h.mid
  have hl := h.lo
  have hS : ∀ k, RunS gb hb g1 (.slice none 0 0) k → k = gb ∨ k = hb ∨ k = g1 := fun k hk => by
    rcases hk with hk | hk
    · rcases hk with hk | hk
      · exact .inl hk
      · exact .inr (.inl hk)
    · rcases hk with hk | hk
      · exact .inr (.inr hk)
      · cases hk
  refine ⟨c', v', he, Touch.below h.bel ht h.bel.size (fun k hk => by rcases hS k hk with e | e | e <;> omega), hbuf, h.row.of_block (ht.block _ h.row.lt (fun hk => by rcases hS _ hk with e | e | e <;> omega)), hcp,
    h.back.touch ht (fun k _ _ hk => by rcases hS k hk with e | e | e <;> omega) (fun k hq _ => by cases hq), h.lo, h.mid, fun q hq => ?_, h.own2⟩
  rcases hly q hq with e | e
  · cases e
  · omega

/-- The second one ran. -/
theorem ranBack {n : Nat} {e : Ending} (h : St w W a gb hb wb b1 t1 g1 b2 t2 g2 m cn u d1 r1 v1 y1 0 n (.slice none 0 0) y2) (hr : RunIs (.rd (0 : Nat)) m 0 n gb hb 64 b2 t2 g2 (.slice none 0 0) W e W') :
    ∃ c' v', e = .returned (.bool true) ∧ St w W' a gb hb wb b1 t1 g1 b2 t2 g2 m c' u d1 r1 v1 y1 n 0 v' (Mb.bl m 0 n) := by
  obtain ⟨v', c', he, hbuf, hcp, ht, hly⟩ := hr
  have ho := h.order
  have hm := h.mid
  have hl := h.lo
  have hS : ∀ k, RunS gb hb g2 (.slice none 0 0) k → k = gb ∨ k = hb ∨ k = g2 := fun k hk => by
    rcases hk with hk | hk
    · rcases hk with hk | hk
      · exact .inl hk
      · exact .inr (.inl hk)
    · rcases hk with hk | hk
      · exact .inr (.inr hk)
      · cases hk
  refine ⟨c', v', he, Touch.below h.bel ht h.bel.size (fun k hk => by rcases hS k hk with e | e | e <;> omega), hbuf, h.row.of_block (ht.block _ h.row.lt (fun hk => by rcases hS _ hk with e | e | e <;> omega)),
    h.out.touch ht (fun k _ _ hk => by rcases hS k hk with e | e | e <;> omega) (fun k hq hk => by have := h.own1 k hq; rcases hS k hk with e | e | e <;> omega), hcp, h.lo, h.mid, h.own1, fun q hq => ?_⟩
  rcases hly q hq with e | e
  · cases e
  · omega
end St

/-- A row of bytes reads as a slice. -/
theorem row_bytes {w : World} {q n : Nat} {u : Nat → Nat} (h : w.rowIs q 5 n (fun j => .int .u8 ((u j : Nat) : Int))) : BytesAt w (.slice (some ⟨q, 0, none⟩) n n) (Mb.bl u 0 n) := by
  refine ⟨_, n, by rw [Mb.bl_length], fun _ => ⟨q, 0, rfl, h.lt, fun i hi => ?_⟩⟩
  rw [Mb.bl_length] at hi
  rw [Mb.bl_getD _ _ _ _ hi]
  simp only [Nat.zero_add]
  exact h.cell hi
end Go.Proofs.Ytplomefkmgkdjaa
