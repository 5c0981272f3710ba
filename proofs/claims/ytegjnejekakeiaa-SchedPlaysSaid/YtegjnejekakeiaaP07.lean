/-
  Layer 6's statements: the machines of a list of jobs, walked.
  Layer 6's statements: the scheduler of the machines that were made.
  Layer 6's Run, walked: a row of picks.
  Layer 6's plain facts of rows of picks: what stays, what is counted.
  Bytes laid over bytes, and copied into a row, in memory (parted from layer 5's texts).
  The plain answer to layer 1's Bytes, walked.
  The plain answer to layer 1's Number, walked over any slice that reads as bytes.
  Layer 2's plain Check, for accesses that read or write some bytes (what copies ask for), walked.
  Layer 2's plain Do, for accesses that read or write some bytes (what copies ask for), walked.
  What every law of this seat asks at its end: the call answered true, and nothing that was there before has turned: so each argument reads as it read.
  Arguments of layer 2's statements opened: an access by value, a list of bytes.
  Arguments opened: an answer by value, a slice of answers.
  The tape of the plain answers (layer 5): an access told, or wanted; walked.
  The tape of the plain answers (layer 5): bytes written, walked.
-/
import Derived.Test.YtegjnejekakeiaaP06
import Derived.Test.YtegjnejekakeiaaP02
import Derived.Test.YtegjnejekakeiaaP01
import Derived.Laws.CopyOwn
import Derived.Test.YtegjnejekakeiaaP03
import Derived.Deep.CutRange
import Derived.Deep.QuietTactic
import Derived.BigQuiet
import Derived.Test.YtegjnejekakeiaaRows
import Derived.ProofKit
import Derived.LaidMore
import Derived.OpenShut
import Derived.Stop.Joined
import Derived.Lib.LaidTab
import Derived.Laws.BitsLemmas
import Derived.Laws.Bits64
import Derived.SevenTiedAt
import Derived.Deep.Fields
import Derived.Deep.Slices
import Derived.BigRegion
namespace Go.Proofs.Ytegjnejekakeiaa
open Go.RowKit

set_option maxRecDepth 100000 in
set_option maxHeartbeats 4000000 in
theorem made_walk {w : World} (A : Option Addr) (n cap : Nat) (js : Nat → Jb) (hj : JbsAt w A n js) (hn : n ≤ 6) (hcap : n ≤ cap) (hcap2 : cap ≤ 9223372036854775807) (hL : ∀ i, i < n → (js i).L ≤ 60) :
    Calls Try.prog 9 #[.slice A n cap] w fun e w' => ∃ o A4 c4 A5 c5 xs Bs, e = .returned (.tuple #[.slice A4 n c4, .slice A5 n c5]) ∧ MadeTo w w' o js n (.slice A4 n c4) (.slice A5 n c5) xs Bs := by
  obtain ⟨ij, hji, hjz, hjs, hjb⟩ := info_parts infoRefJob
  obtain ⟨im, hmi, hmz, hms, hmb⟩ := info_parts infoMachine
  have HJ := Lib.hid hj
  have HL := Lib.hid hL
  clear hj hL
  go_enter Try.func9, Try.ntmps9
  go_wp2
  go_loopw [13, 4, 5] (fun t13 t4 t5 wr => ∃ (i : Nat) (o : Nat → Pt) (A4 : Option Addr) (c4 : Nat) (A5 : Option Addr) (c5 : Nat) (n4 n5 : Nat) (xs Bs : Nat → Value), t13 = .int .i64 i ∧ t4 = .slice A4 n4 c4 ∧ t5 = .slice A5 n5 c5 ∧ n4 = i ∧ n5 = i ∧ i ≤ n ∧ MadeTo w wr o js i (.slice A4 n4 c4) (.slice A5 n5 c5) xs Bs) (fun t13 _ _ _ => n - (intOf t13).toNat)
  case atStart => exact ⟨0, fun _ => .no, none, 0, none, 0, 0, 0, fun _ => undef, fun _ => undef, rfl, rfl, rfl, rfl, rfl, Nat.zero_le _, World.ownsRow_nil _ _ _ _, World.ownsRow_nil _ _ _ _, fun k hk => absurd hk (by simp [Value.ownBlock]), fun k hk => absurd hk (by simp [Value.ownBlock]), fun j hj => absurd hj (Nat.not_lt_zero _), fun j hj => absurd hj (Nat.not_lt_zero _), fun k hk => absurd rfl hk, Below.refl _ _, fun j hj => absurd hj (Nat.not_lt_zero _)⟩
  case round =>
    obtain ⟨i, o, A4, c4, A5, c5, n4, n5, xs, Bs, rfl, rfl, rfl, hn4, hn5, hi, hmt⟩ := hrel
    have HN := Lib.hid (And.intro hn4 hn5)
    have HM := Lib.hid hmt
    clear hn4 hn5 hmt
    by_cases hlt : i < n
    · obtain ⟨b, off, rfl, hbl, hcl⟩ := HJ.out (by omega)
      obtain ⟨c0, c1, c2, c3, his⟩ := hcl i hlt
      have k := fun q => HM.out.low.cell (p := ⟨b, q, none⟩) hbl
      have c0 := (k _).trans c0
      have c1 := (k _).trans c1
      have c2 := (k _).trans c2
      have c3 := (k _).trans c3
      have hLi := HL.out i hlt
      have HIS := Lib.hid (his.below HM.out.low)
      have hk := his.k
      have hp := his.p
      have hnn := his.n
      have hrm := his.room
      have hfw := his.few
      clear k hcl his
      generalize hjq : js i = j at *
      have HJQ := Lib.hid hjq
      clear hjq
      go_wp2_with fail
      have hb1 := (Below.refl wr.heap.size wr).alloc (Nat.le_refl _) (.cells #[.int .u8 j.K, .int .u16 j.P, .int .u16 j.N, .slice j.A j.L j.cap] 28)
      have hx1 := Go.Deep.blk_alloc_new wr (.cells #[.int .u8 j.K, .int .u16 j.P, .int .u16 j.N, .slice j.A j.L j.cap] 28)
      generalize wr.alloc (.cells #[.int .u8 j.K, .int .u16 j.P, .int .u16 j.N, .slice j.A j.L j.cap] 28) = W1 at hb1 hx1 ⊢
      have d0 : W1.cell? ⟨wr.heap.size, 0, none⟩ = some (.int .u8 j.K) := by simp [World.cell?, hx1]
      have d1 : W1.cell? ⟨wr.heap.size, 1, none⟩ = some (.int .u16 j.P) := by simp [World.cell?, hx1]
      have d2 : W1.cell? ⟨wr.heap.size, 2, none⟩ = some (.int .u16 j.N) := by simp [World.cell?, hx1]
      have d3 : W1.cell? ⟨wr.heap.size, 3, none⟩ = some (.slice j.A j.L j.cap) := by simp [World.cell?, hx1]
      go_quiet (fail)
      have hb2 := hb1.trans ((drewN_below W1 nq).mono hb1.size)
      have hl1 := (Array.getElem?_eq_some_iff.1 hx1).1
      have hblk2 : (W1.drewN nq).heap[wr.heap.size]? = _ := hx1
      generalize W1.drewN nq = W2 at hb2 hblk2 ⊢
      have d0 : W2.cell? ⟨wr.heap.size, 0, none⟩ = some (.int .u8 j.K) := by simp [World.cell?, hblk2]
      have d3 : W2.cell? ⟨wr.heap.size, 3, none⟩ = some (.slice j.A j.L j.cap) := by simp [World.cell?, hblk2]
      have hl2 := (Array.getElem?_eq_some_iff.1 hblk2).1
      have HB2 := Lib.hid hb2
      have hown := Lib.hid (own_empty W2)
      have HBY := Lib.hid ((HIS.out.bytes.below hb2).below ((Below.refl W2.heap.size W2).alloc (Nat.le_refl _) (.cells #[] 5)))
      clear hb1 hx1 hblk2 hb2
      go_upto_region 8 with (at_builtin; refine wpList_app_any rfl _ _ rfl W2.heap.size _ _ [] (Mb.bl j.f 0 j.L) rfl rfl hown.out HBY.out (by simp [Mb.bl_length]; omega) (by simp) ?_; intro v' w3 happ; obtain ⟨A', c', rfl, _⟩ := happ.own.bytes)
      have hb3 := happ.below hown.out ((Below.refl _ W2).alloc (Nat.le_refl _) _) (by simp)
      have hall3 := HB2.out.after hb3
      have HM3 := Lib.hid (HM.out.keep hall3)
      have HOB := Lib.hid (show Owns W2.heap.size w3 (.slice A' j.L c') (Mb.bl j.f 0 j.L) by have h := happ.own; rw [List.nil_append, Mb.bl_length] at h; exact h)
      have d0 := (hb3.cell (p := ⟨wr.heap.size, 0, none⟩) hl2).trans d0
      have hl3 : wr.heap.size < w3.heap.size := Nat.lt_of_lt_of_le hl2 hb3.size
      have hs3 := hb3.size
      have hs3' := hall3.size
      have HW3 := Lib.hid hall3
      clear happ hb3 d3 hall3
      rw [Mb.bl_length] at *
      go_upto_region 9 with (at_builtin; refine wpList_app_job rfl _ _ rfl (.slice A5 n5 c5) i _ _ _ _ _ _ _ w3.heap.size 1 rfl rfl (HM3.out.keep ((Below.refl _ _).alloc (Nat.le_refl _) _)).jobs (Go.Deep.blk_alloc_new _ _) ⟨rfl, rfl, rfl, rfl, rfl, rfl⟩ (by omega) ?_; intro v' w4 happ2)
      obtain ⟨g5, cap5, rfl⟩ := happ2.form
      have HA := Lib.hid (HW3.out.alloc hs3' (.cells #[.int .i64 ((j.K : Int) % 3), .int .i64 ((j.P : Int) % 300), .int .i64 ((j.N : Int) % 60), .slice A' j.L c', .slice none 0 0, .bool false] 61))
      have hal : (w3.alloc (.cells #[.int .i64 ((j.K : Int) % 3), .int .i64 ((j.P : Int) % 300), .int .i64 ((j.N : Int) % 60), .slice A' j.L c', .slice none 0 0, .bool false] 61)).heap.size = w3.heap.size + 1 := by simp
      have HBI := Lib.hid (((BytesIn.of_own HOB.out).mono (K' := fun k => wr.heap.size ≤ k) fun k hk _ => Nat.le_trans (Nat.le_of_lt hl2) hk).below ((Below.refl w3.heap.size w3).alloc (Nat.le_refl _) (.cells #[.int .i64 ((j.K : Int) % 3), .int .i64 ((j.P : Int) % 300), .int .i64 ((j.N : Int) % 60), .slice A' j.L c', .slice none 0 0, .bool false] 61)))
      have d0 := (World.cell?_of_block (a := ⟨wr.heap.size, 0, none⟩) (HM.out.blk happ2 (k := wr.heap.size) (Nat.le_refl _) (hal ▸ Nat.lt_succ_of_lt hl3))).trans ((((Below.refl w3.heap.size w3).alloc (Nat.le_refl _) (.cells #[.int .i64 ((j.K : Int) % 3), .int .i64 ((j.P : Int) % 300), .int .i64 ((j.N : Int) % 60), .slice A' j.L c', .slice none 0 0, .bool false] 61)).cell (p := ⟨wr.heap.size, 0, none⟩) hl3).trans d0)
      have HR4 := Lib.hid (HM.out.row4 HA.out happ2)
      have HBA := Lib.hid (HBI.out.lt.keep (w' := w4) happ2.grown.size fun k hk _ => HM.out.blk happ2 hk.1 hk.2).bytes
      have HJ5 := Lib.hid happ2
      have hK : j.K % 3 = 0 ∨ j.K % 3 = 1 ∨ j.K % 3 = 2 := by omega
      clear c0 c1 c2 c3
      rcases hK with hK | hK | hK
      · have hKi : (j.K : Int) % 3 = 0 := by omega
        go_wp2_with (first | (go_at_call 25; refine (in_any j.at_ A' j.L c' j.f _ j.near HBA.out (by omega)).mono ?_; rintro e w5 ⟨g, rfl, hcp, hb5⟩) | (at_builtin; refine wpList_app_mach rfl _ _ rfl (.slice A4 n4 c4) i _ _ w5.heap.size 1 rfl rfl (ownsRow_keep HR4.out fun q hq => (hb5.alloc hb5.size _).block q (World.ownsRow.lt HR4.out q hq).2) (Go.Deep.blk_alloc_new _ _) rfl (by omega) ?_; intro v5 w6 happ3))
        obtain rfl := HJQ.out
        obtain ⟨o', xs', Bs', hmore⟩ := HM.out.more HA.out HBI.out ⟨A', c', rfl, (own_shape HOB.out).2.1, (own_shape HOB.out).2.2⟩ HJ5.out hb5 ((Jb.mc_in hK).symm ▸ MRep.fresh hcp HIS.out.isB) ((Below.refl _ _).alloc (Nat.le_refl _) _) happ3
        obtain ⟨g4, cap4, rfl⟩ := happ3.form
        exact ⟨⟨i + 1, o', _, _, _, _, i + 1, i + 1, xs', Bs', rfl, rfl, rfl, rfl, rfl, hlt, hmore⟩, by simp only [intOf]; omega⟩
      · have hKi : (j.K : Int) % 3 = 1 := by omega
        go_wp2_with (first | (go_at_call 26; refine (zero_any j.at_ j.num _ j.near).mono ?_; rintro e w5 ⟨g, rfl, hcp, hb5⟩) | (at_builtin; refine wpList_app_mach rfl _ _ rfl (.slice A4 n4 c4) i _ _ w5.heap.size 1 rfl rfl (ownsRow_keep HR4.out fun q hq => (hb5.alloc hb5.size _).block q (World.ownsRow.lt HR4.out q hq).2) (Go.Deep.blk_alloc_new _ _) rfl (by omega) ?_; intro v5 w6 happ3))
        obtain rfl := HJQ.out
        obtain ⟨o', xs', Bs', hmore⟩ := HM.out.more HA.out HBI.out ⟨A', c', rfl, (own_shape HOB.out).2.1, (own_shape HOB.out).2.2⟩ HJ5.out hb5 ((Jb.mc_zero hK).symm ▸ MRep.fresh hcp trivial) ((Below.refl _ _).alloc (Nat.le_refl _) _) happ3
        obtain ⟨g4, cap4, rfl⟩ := happ3.form
        exact ⟨⟨i + 1, o', _, _, _, _, i + 1, i + 1, xs', Bs', rfl, rfl, rfl, rfl, rfl, hlt, hmore⟩, by simp only [intOf]; omega⟩
      · have hKi : (j.K : Int) % 3 = 2 := by omega
        go_wp2_with (first | (go_at_call 27; refine (out_any j.at_ j.num _ j.near).mono ?_; rintro e w5 ⟨g, rfl, hcp, hb5⟩) | (at_builtin; refine wpList_app_mach rfl _ _ rfl (.slice A4 n4 c4) i _ _ w5.heap.size 1 rfl rfl (ownsRow_keep HR4.out fun q hq => (hb5.alloc hb5.size _).block q (World.ownsRow.lt HR4.out q hq).2) (Go.Deep.blk_alloc_new _ _) rfl (by omega) ?_; intro v5 w6 happ3))
        obtain rfl := HJQ.out
        obtain ⟨o', xs', Bs', hmore⟩ := HM.out.more HA.out HBI.out ⟨A', c', rfl, (own_shape HOB.out).2.1, (own_shape HOB.out).2.2⟩ HJ5.out hb5 ((Jb.mc_out hK).symm ▸ MRep.fresh hcp trivial) ((Below.refl _ _).alloc (Nat.le_refl _) _) happ3
        obtain ⟨g4, cap4, rfl⟩ := happ3.form
        exact ⟨⟨i + 1, o', _, _, _, _, i + 1, i + 1, xs', Bs', rfl, rfl, rfl, rfl, rfl, hlt, hmore⟩, by simp only [intOf]; omega⟩
    · obtain rfl : i = n := by omega
      go_wp2
      go_ret2
      obtain ⟨e4, e5⟩ := HN.out
      subst e4
      subst e5
      exact ⟨o, A4, c4, A5, c5, xs, Bs, rfl, HM.out⟩
end Go.Proofs.Ytegjnejekakeiaa
namespace Go.Proofs.Ytegjnejekakeiaa
open Go.RowKit

/-- A machine's block is the machine's, every other one nobody's. -/
def Pt.mach : Pt → Pt
  | .ma i => .ma i
  | _ => .no

theorem upto_get {α : Type} (xs : Nat → α) (n j : Nat) (hj : j < n) : (upto (fun i => [xs i]) n)[j]? = some (xs j) := by
  have e : upto (fun i => [xs i]) n = (List.range n).map xs := by
    unfold upto
    induction List.range n with
    | nil => rfl
    | cons a l ih => simp [ih]
  rw [e]
  simp [hj]

/-- The machines' row as New reads it. -/
theorem MadeTo.ms {w wr : World} {o : Nat → Pt} {js : Nat → Jb} {i c : Nat} {A : Option Addr} {V5 : Value} {xs Bs : Nat → Value} (h : MadeTo w wr o js i (.slice A i c) V5 xs Bs) : MsAt wr A i xs ∧ i ≤ c ∧ c ≤ 9223372036854775807 := by
  have hr := h.row
  rcases hr.2 with ⟨e, h0⟩ | ⟨g, cap, cur, e, _, hg, h1, h2, _, _⟩
  · subst h0
    cases e
    exact ⟨fun hp => absurd hp (Nat.lt_irrefl 0), Nat.le_refl _, by decide⟩
  · cases e
    refine ⟨fun _ => ⟨g, rfl, (Array.getElem?_eq_some_iff.1 hg).1, fun j hj => ?_⟩, h1, by unfold maxLen at h2; omega⟩
    rw [hr.cellAt j (by omega)]
    exact upto_get xs i j hj

set_option maxRecDepth 100000 in
theorem start_new {w0 w1 w2 : World} {g h n c4 nw : Nat} {o2 : Nat → Pt} {js : Nat → Jb} {A4 : Option Addr} {V5 : Value} {xs Bs : Nat → Value} (B : Buf w1 g h (fun _ => 0) nw 0) (h1 : w0.heap.size ≤ g) (h2 : w0.heap.size ≤ h) (hb1 : Below w0.heap.size w0 w1)
    (hm : MadeTo w1 w2 o2 js n (.slice A4 n c4) V5 xs Bs) (hn : n ≤ 6) :
    Calls Try.prog 10 #[.pointer (some ⟨g, 0, none⟩), .slice A4 n c4] w2 fun e w' => ∃ gw ga ax o', e = .returned (.pointer (some ⟨gw, 0, none⟩)) ∧ Stood w0 w' o' gw ga g h ax (St.made n (fun i => (js i).mc) (fun _ => 0) nw 0) ∧
      Below w2.heap.size w2 w' ∧ ∀ k, k < w2.heap.size → k ≠ g → k ≠ h → (∀ i, o2 k ≠ .ma i) → o' k = .no := by
  have s1 := hb1.size
  have s2 := hm.low.size
  have hgl := B.g_lt
  have hhl := B.h_lt
  obtain ⟨hms, hc1, hc2⟩ := hm.ms
  have hq : ∀ k, o2 k ≠ .no → w1.heap.size ≤ k ∧ k < w2.heap.size := hm.new
  refine (schedNew_any (B.below hm.low) A4 n c4 xs (fun i => (js i).mc) (by omega) hc1 hc2 hms (o := fun k => if k = g ∨ k = h then .bf else (o2 k).mach) (fun i hi => ?_) (if_pos (.inl rfl)) (if_pos (.inr rfl)) (fun k hk => ?_)).mono ?_
  · refine (hm.mach i hi).mono fun k hk => ?_
    have := (hq k (by rw [hk]; simp)).1
    show (if _ then _ else _) = _
    rw [if_neg (by omega), hk]
    rfl
  · by_cases e1 : k = g ∨ k = h
    · omega
    · rw [if_neg e1] at hk
      exact (hq k fun e => hk (by rw [e]; rfl)).2
  · rintro e w' ⟨gw, ga, o', rfl, _, hs, hbl, ho⟩
    refine ⟨gw, ga, _, o', rfl, ⟨⟨_, _, hs⟩, (hb1.trans (hm.low.mono s1)).trans (hbl.mono (by omega)), fun k hk => ?_⟩, hbl, fun k hk e1 e2 e3 => ?_⟩
    · rw [ho k (by omega)]
      show (if _ then _ else _) = _
      rw [if_neg (by omega)]
      have : o2 k = .no := Classical.byContradiction fun e => by have := (hq k e).1; omega
      rw [this]
      rfl
    · rw [ho k hk]
      show (if _ then _ else _) = _
      rw [if_neg (by omega)]
      cases he : o2 k with
      | ma i => exact absurd he (e3 i)
      | _ => rfl
end Go.Proofs.Ytegjnejekakeiaa
namespace Go.Proofs.Ytegjnejekakeiaa
open Go.RowKit

/-- A slice of picks stands in memory. -/
def PksAt (w : World) (A : Option Addr) (ps : List Pk) : Prop := 0 < ps.length → ∃ b off, A = some ⟨b, off, none⟩ ∧ b < w.heap.size ∧ ∀ i p, ps[i]? = some p → w.cell? ⟨b, off + i * 3, none⟩ = some (.int .i64 p.K) ∧ w.cell? ⟨b, off + i * 3 + 1, none⟩ = some (.int .i64 p.A) ∧ w.cell? ⟨b, off + i * 3 + 2, none⟩ = some (.int .i64 p.N)

theorem PksAt.keep {w w' : World} {A : Option Addr} {ps : List Pk} (h : PksAt w A ps) (hs : w.heap.size ≤ w'.heap.size) (hb : ∀ a, A = some a → a.block < w.heap.size → w'.heap[a.block]? = w.heap[a.block]?) : PksAt w' A ps := fun hp => by
  obtain ⟨b, off, e, hl, hc⟩ := h hp
  have hk := hb _ e hl
  have hcell : ∀ j, w'.cell? ⟨b, j, none⟩ = w.cell? ⟨b, j, none⟩ := fun j => World.cell?_of_block (w := w) (a := ⟨b, j, none⟩) hk
  exact ⟨b, off, e, Nat.lt_of_lt_of_le hl hs, fun i p hi => ⟨(hcell _).trans (hc i p hi).1, (hcell _).trans (hc i p hi).2.1, (hcell _).trans (hc i p hi).2.2⟩⟩

/-- A row of picks: the state, the events of those that answered OK. -/
def St.runs : List Pk → St → List Ev → St × List Ev
  | [], st, es => (st, es)
  | p :: ps, st, es => St.runs ps (st.pick p).1 (if (st.pick p).2.1 = 0 then es ++ [(st.pick p).2.2] else es)

theorem St.act_len (st : St) (p : Pk) : (st.pick p).1.tr.length ≤ st.tr.length + 1 := by
  have hp : ∀ (s : St) (e : Ev), (s.push e).tr.length = s.tr.length + 1 := fun s e => by show (s.tr ++ [e]).length = _; simp
  by_cases h0 : st.chk p = 0
  · by_cases h1 : p.K = 1
    · rw [St.pick_kill h0 h1]; exact Nat.le_of_eq (hp _ _)
    · by_cases h2 : p.K = 2
      · rw [St.pick_tick h0 h2]; exact Nat.le_of_eq (hp _ _)
      · have hk : p.K = 0 := by have := St.chk_kind h0; omega
        cases hn : (st.ms p.A.toNat).next with
        | none => rw [St.pick_end h0 hk hn]; exact Nat.le_of_eq (hp _ _)
        | some a =>
          by_cases he : a.err st.nw = 0
          · rw [St.pick_ok h0 hk hn he]; show (st.tr ++ [_]).length ≤ _; simp
          · rw [St.pick_bad h0 hk hn he]; exact Nat.le_succ _
  · rw [St.pick_no h0]; exact Nat.le_succ _

/-- Run told events, in new memory that is nobody's. -/
def RunTold (o : Nat → Pt) (gw ga gb hb : Nat) (ax : Nat → Value) (res : St × List Ev) (w : World) (e : Ending) (w' : World) : Prop :=
  ∃ o' tv' ts' A c qs, e = .returned (.slice A res.2.length c) ∧ qs.map Tx.e = res.2 ∧ EvsAt (fun k => w.heap.size ≤ k ∧ o' k = .no) w' (.slice A res.2.length c) qs ∧
    Sw w' o' gw ga gb hb ax tv' ts' res.1 ∧ Touch (Own o) w w' ∧ ∀ k, k < w.heap.size → o' k = o k

theorem own_form {w : World} {base n size : Nat} {T : TypeId} {v : Value} {xs : List Value} (h : w.ownsRow base T size v n xs) : ∃ A c, v = .slice A n c := by
  rcases h.2 with ⟨hv, h0⟩ | ⟨g, cap, cur, hv, _⟩
  · exact ⟨none, 0, by rw [hv, h0]⟩
  · exact ⟨_, _, hv⟩

theorem blk_new_at (W : World) (q : Obj) (H : Nat) (hH : W.heap.size = H) : (W.alloc q).heap[H]? = some q := by rw [← hH]; exact Go.Deep.blk_alloc_new _ _

/-- What a pick left, as Run goes on. -/
structure RunStep (w wr w2 : World) (o1 o2 : Nat → Pt) (gw ga gb hb : Nat) (ax : Nat → Value) (tv2 : Value) (ts2 : List Tx) (s2 : St) (V : Value) (qs : List Tx) (x : Ev) (u1 u2 : Value) : Prop where
  sw : Sw w2 o2 gw ga gb hb ax tv2 ts2 s2
  touch : Touch (Own o1) wr w2
  agree : ∀ k, k < wr.heap.size → o2 k = o1 k
  row : w2.ownsRow 0 51 12 V qs.length (qs.flatMap Tx.cells)
  own : ∀ k, V.ownBlock = some k → w.heap.size ≤ k ∧ o2 k = .no
  old : Texts (fun k => (w.heap.size ≤ k ∧ o2 k = .no) ∧ V.ownBlock ≠ some k) w2 qs
  n1 : BytesIn (fun k => (w.heap.size ≤ k ∧ o2 k = .no) ∧ V.ownBlock ≠ some k) w2 u1 x.ac.bs
  n2 : BytesIn (fun k => (w.heap.size ≤ k ∧ o2 k = .no) ∧ V.ownBlock ≠ some k) w2 u2 x.an.bs

theorem runStep {w wr wp w2 : World} {o1 o2 : Nat → Pt} {gw ga gb hb : Nat} {ax : Nat → Value} {tv1 tv2 : Value} {ts1 ts2 : List Tx} {st1 s2 : St} {V : Value} {qs : List Tx} {x : Ev} {u1 u2 : Value} (hw : w.heap.size ≤ wr.heap.size) (hb1 : Below wr.heap.size wr wp) (_hs : Sw wr o1 gw ga gb hb ax tv1 ts1 st1)
    (h : BytesIn (fun k => wp.heap.size ≤ k ∧ o2 k = .no) w2 u1 x.ac.bs ∧ BytesIn (fun k => wp.heap.size ≤ k ∧ o2 k = .no) w2 u2 x.an.bs ∧ Sw w2 o2 gw ga gb hb ax tv2 ts2 s2 ∧ Touch (Own o1) wp w2 ∧ ∀ k, k < wp.heap.size → o2 k = o1 k)
    (hr : wr.ownsRow 0 51 12 V qs.length (qs.flatMap Tx.cells)) (hob : ∀ k, V.ownBlock = some k → w.heap.size ≤ k ∧ o1 k = .no) (htx : Texts (fun k => (w.heap.size ≤ k ∧ o1 k = .no) ∧ V.ownBlock ≠ some k) wr qs) :
    RunStep w wr w2 o1 o2 gw ga gb hb ax tv2 ts2 s2 V qs x u1 u2 := by
  obtain ⟨h1, h2, h3, h4, h5⟩ := h
  have hsz := hb1.size
  have ht : Touch (Own o1) wr w2 := (Touch.of_below hb1).trans h4
  have hag : ∀ k, k < wr.heap.size → o2 k = o1 k := fun k hk => h5 k (by omega)
  have hlt : ∀ k, V.ownBlock = some k → k < wr.heap.size := fun k hk => (World.ownsRow.lt hr k hk).2
  refine ⟨h3, ht, hag, ownsRow_keep hr fun q hq => ht.block q (hlt q hq) fun e => e (hob q hq).2, fun k hk => ⟨(hob k hk).1, (hag k (hlt k hk)).trans (hob k hk).2⟩, (Texts.keep (w := wr) (htx.mono (K' := fun k => ((w.heap.size ≤ k ∧ o1 k = .no) ∧ V.ownBlock ≠ some k) ∧ k < wr.heap.size) fun k hk hl => ⟨hk, hl⟩) ht.size fun k hk hl => ht.block k hl fun e => e hk.1.1.2).mono fun k hk _ => ⟨⟨hk.1.1.1, (hag k hk.2).trans hk.1.1.2⟩, hk.1.2⟩, h1.mono (K' := fun k => (w.heap.size ≤ k ∧ o2 k = .no) ∧ V.ownBlock ≠ some k) fun k hk _ => ⟨⟨by have := hk.1; omega, hk.2⟩, fun e => by have := hlt k e; have := hk.1; omega⟩, h2.mono (K' := fun k => (w.heap.size ≤ k ∧ o2 k = .no) ∧ V.ownBlock ≠ some k) fun k hk _ => ⟨⟨by have := hk.1; omega, hk.2⟩, fun e => by have := hlt k e; have := hk.1; omega⟩⟩

/-- .. and the event was appended. -/
theorem runApp {w wr w2 w7 : World} {o o1 o2 : Nat → Pt} {gw ga gb hb : Nat} {ax : Nat → Value} {tv2 : Value} {ts2 : List Tx} {s2 : St} {V V' : Value} {qs : List Tx} {x : Ev} {u1 u2 : Value} {q1 q2 : Obj} (h : RunStep w wr w2 o1 o2 gw ga gb hb ax tv2 ts2 s2 V qs x u1 u2)
    (ha : AppEv qs.length V (qs.flatMap Tx.cells ++ (Tx.cells ⟨x, u1, u2⟩)) ((w2.alloc q1).alloc q2) V' w7) (ht : Touch (Own o) w wr) (hoo : ∀ k, k < w.heap.size → o1 k = o k) :
    Sw w7 o2 gw ga gb hb ax tv2 ts2 s2 ∧ w7.ownsRow 0 51 12 V' (qs ++ [(⟨x, u1, u2⟩ : Tx)]).length ((qs ++ [(⟨x, u1, u2⟩ : Tx)]).flatMap Tx.cells) ∧ (∀ k, V'.ownBlock = some k → w.heap.size ≤ k ∧ o2 k = .no) ∧
      Texts (fun k => (w.heap.size ≤ k ∧ o2 k = .no) ∧ V'.ownBlock ≠ some k) w7 (qs ++ [(⟨x, u1, u2⟩ : Tx)]) ∧ Touch (Own o) w w7 ∧ ∀ k, k < w.heap.size → o2 k = o k := by
  have hb2 : Below w2.heap.size w2 ((w2.alloc q1).alloc q2) := ((Below.refl _ w2).alloc (Nat.le_refl _) _).alloc (by simp) _
  have hs := hb2.size
  have hsz : ((w2.alloc q1).alloc q2).heap.size = w2.heap.size + 1 + 1 := by simp
  have hall := own_trans ht hoo h.touch h.agree
  have hlt : ∀ k, V.ownBlock = some k → k < w2.heap.size := fun k hk => (World.ownsRow.lt h.row k hk).2
  have hblk : ∀ k, k < w2.heap.size → V.ownBlock ≠ some k → w7.heap[k]? = w2.heap[k]? := fun k hk hn => (ha.grown.block k (by omega) fun e => hn e.symm).trans (hb2.block k hk)
  have hs7 : w2.heap.size ≤ w7.heap.size := Nat.le_trans hs ha.grown.size
  have hV' : ∀ k, V'.ownBlock = some k → V.ownBlock = some k ∨ k = w2.heap.size + 1 + 1 := fun k hk => by
    rcases ha.lies with e | e
    · exact .inl (e.symm.trans hk)
    · rw [e] at hk; injection hk with hk; exact .inr (by omega)
  have hno : ∀ k, w2.heap.size ≤ k → o2 k = .no := fun k hk => h.sw.new_no hk
  have hwsz := ht.size
  have hwr := h.touch.size
  refine ⟨h.sw.keep hs7 fun k hk => hblk k (h.sw.lt k hk) fun e => hk (h.own k e).2, ?_, fun k hk => ?_, ?_, ⟨ha.grown.os.trans (hb2.os.trans hall.1.os), ha.grown.tape.trans (hb2.tape.trans hall.1.tape), ha.grown.output.trans (hb2.output.trans hall.1.output), by omega, fun k hk hn => (hblk k (by omega) fun e => by have := (h.own k e).1; omega).trans (hall.1.block k hk hn)⟩, hall.2⟩
  · have hr := ha.row
    rw [show qs.length + 1 = (qs ++ [(⟨x, u1, u2⟩ : Tx)]).length by simp, show qs.flatMap Tx.cells ++ Tx.cells (⟨x, u1, u2⟩ : Tx) = (qs ++ [(⟨x, u1, u2⟩ : Tx)]).flatMap Tx.cells by simp] at hr
    exact hr
  · rcases hV' k hk with e | e
    · exact h.own k e
    · exact ⟨by omega, hno k (by omega)⟩
  · have hm : Texts (fun k => ((w.heap.size ≤ k ∧ o2 k = .no) ∧ V.ownBlock ≠ some k) ∧ k < w2.heap.size) w2 (qs ++ [(⟨x, u1, u2⟩ : Tx)]) := (h.old.append h.n1 h.n2).mono fun k hk hl => ⟨hk, hl⟩
    refine (hm.keep hs7 fun k hk _ => hblk k hk.2 hk.1.2).mono fun k hk _ => ⟨hk.1.1, fun e => ?_⟩
    rcases hV' k e with e1 | e1
    · exact hk.1.2 e1
    · have := hk.2; omega

set_option maxRecDepth 100000 in
set_option maxHeartbeats 4000000 in
theorem run_all {w : World} {o : Nat → Pt} {gw ga gb hb : Nat} {ax : Nat → Value} {tv : Value} {ts : List Tx} {st : St} (h : Sw w o gw ga gb hb ax tv ts st) (A : Option Addr) (cap : Nat) (ps : List Pk) (hps : PksAt w A ps) (hcap : ps.length ≤ cap) (hcap2 : cap ≤ 9223372036854775807)
    (hA : 0 < ps.length → ∀ a, A = some a → o a.block = .no) (hlong : st.tr.length + ps.length ≤ 1000000) :
    Calls Try.prog 23 #[.pointer (some ⟨gw, 0, none⟩), .slice A ps.length cap] w (RunTold o gw ga gb hb ax (St.runs ps st []) w) := by
  have HS := Lib.hid h
  have HP := Lib.hid hps
  have HA := Lib.hid hA
  have HL := Lib.hid hlong
  have hgw := h.gw_lt
  obtain ⟨res, hres⟩ : ∃ res, St.runs ps st [] = res := ⟨_, rfl⟩
  rw [hres]
  have HRES := Lib.hid hres
  clear h hps hA hres
  go_enter Try.func23, Try.ntmps23
  go_wp2
  go_loopw [12, 5] (fun t12 t5 wr => ∃ (i : Nat) (o1 : Nat → Pt) (tv1 : Value) (ts1 qs : List Tx) (st1 : St) (Av : Option Addr) (nv cv : Nat), t12 = .int .i64 i ∧ t5 = .slice Av nv cv ∧ nv = qs.length ∧ i ≤ ps.length ∧ qs.length ≤ i ∧ Sw wr o1 gw ga gb hb ax tv1 ts1 st1 ∧ St.runs (ps.drop i) st1 (qs.map Tx.e) = res ∧ st1.tr.length + (ps.length - i) ≤ 1000000 ∧
    wr.ownsRow 0 51 12 (.slice Av nv cv) qs.length (qs.flatMap Tx.cells) ∧ (∀ k, Value.ownBlock (.slice Av nv cv) = some k → w.heap.size ≤ k ∧ o1 k = .no) ∧ Texts (fun k => (w.heap.size ≤ k ∧ o1 k = .no) ∧ Value.ownBlock (.slice Av nv cv) ≠ some k) wr qs ∧ Touch (Own o) w wr ∧ ∀ k, k < w.heap.size → o1 k = o k) (fun t12 _ _ => ps.length - (intOf t12).toNat)
  case atStart => exact ⟨0, o, tv, ts, [], st, none, 0, 0, rfl, rfl, rfl, Nat.zero_le _, Nat.le_refl _, HS.out, by rw [List.drop_zero]; exact HRES.out, HL.out, World.ownsRow_nil _ _ _ _, fun k hk => absurd hk (by simp [Value.ownBlock]), Texts.nil _ _, Touch.refl _ _, fun _ _ => rfl⟩
  case round =>
    obtain ⟨i, o1, tv1, ts1, qs, st1, Av, nv, cv, rfl, rfl, hnv, hi, hqi, hsw, heq, hlen, hown, hob, htx, htt, hoo⟩ := hrel
    have HNV := Lib.hid hnv
    have HEQ := Lib.hid heq
    have HLEN := Lib.hid hlen
    have HSW := Lib.hid hsw
    have HOW := Lib.hid (And.intro hown (And.intro hob htx))
    have HTT := Lib.hid (And.intro htt hoo)
    have hszw := htt.size
    clear hnv heq hlen hsw hown hob htx htt hoo
    by_cases hlt : i < ps.length
    · obtain ⟨p, hp⟩ : ∃ p, ps[i]? = some p := ⟨_, List.getElem?_eq_getElem hlt⟩
      obtain ⟨b, off, rfl, hbl, hcl⟩ := HP.out (by omega)
      have hbo := HA.out (by omega) _ rfl
      have hbk := HTT.out.1.block b hbl fun e => e hbo
      have kc : ∀ j, wr.cell? ⟨b, j, none⟩ = w.cell? ⟨b, j, none⟩ := fun j => World.cell?_of_block (w := w) (a := ⟨b, j, none⟩) hbk
      obtain ⟨c0, c1, c2⟩ := hcl i p hp
      have c0 := (kc _).trans c0
      have c1 := (kc _).trans c1
      have c2 := (kc _).trans c2
      have hdrop : ps.drop i = p :: ps.drop (i + 1) := by
        rw [List.drop_eq_getElem_cons hlt]
        congr 1
        have := List.getElem?_eq_getElem hlt
        rw [hp] at this
        injection this with this
        exact this.symm
      have he := HEQ.out
      rw [hdrop] at he
      have he2 : St.runs (ps.drop (i + 1)) (st1.pick p).1 (if (st1.pick p).2.1 = 0 then qs.map Tx.e ++ [(st1.pick p).2.2] else qs.map Tx.e) = res := he
      have hpl := St.act_len st1 p
      obtain ⟨pr, hpr⟩ : ∃ pr, st1.pick p = pr := ⟨_, rfl⟩
      have hb1 := (Below.refl wr.heap.size wr).alloc (Nat.le_refl _) (.cells #[.int .i64 p.K, .int .i64 p.A, .int .i64 p.N] 44)
      have hlen := HLEN.out
      have hcall := pick_any (HSW.out.below hb1) p (by omega)
      rw [hpr] at he2 hcall hpl
      obtain ⟨s2, r, v⟩ := pr
      have HC := Lib.hid hcall
      have HE := Lib.hid he2
      have HPL := Lib.hid hpl
      clear hcall he he2 hpr hdrop kc hcl hbk hp hpl
      by_cases hr : r = 0
      · subst hr
        go_wp2_with (first
          | (go_at_call 11; refine HC.out.mono ?_; rintro e w2 ⟨o2, A1, l1, q1, A2, l2, q2, tv2, ts2, he, hb⟩; subst he; have HB := Lib.hid (runStep hszw hb1 HSW.out hb HOW.out.1 HOW.out.2.1 HOW.out.2.2); clear hb)
          | (at_builtin; refine wpList_app_ev rfl _ _ rfl (.slice Av nv cv) qs.length _ ⟨v, .slice A1 l1 q1, .slice A2 l2 q2⟩ _ _ rfl rfl ((HB.out.row.alloc _).alloc _) (blk_new_at _ _ _ (by simp)) rfl rfl (by omega) ?_; intro v7 w7 happ; obtain ⟨g7, q7, rfl⟩ := happ.form; have HAP := Lib.hid happ; clear happ))
        go_roundw
        case rel =>
          have he := HE.out
          rw [if_pos (by trivial)] at he
          have hpl := HPL.out
          obtain ⟨z1, z2, z3, z4, z5, z6⟩ := runApp HB.out HAP.out HTT.out.1 HTT.out.2
          exact ⟨i + 1, o2, tv2, ts2, qs ++ [⟨v, .slice A1 l1 q1, .slice A2 l2 q2⟩], s2, _, _, q7, by go_num, rfl, by simp, by omega, by simp; omega, z1, by rw [List.map_append]; exact he, by omega, z2, z3, z4, z5, z6⟩
        case measure => simp [intOf]; omega
      · have hr2 : (r == 0) = false := by simpa using hr
        go_wp2_with (go_at_call 11; refine HC.out.mono ?_; rintro e w2 ⟨o2, A1, l1, q1, A2, l2, q2, tv2, ts2, he, hb⟩; subst he; have HB := Lib.hid (runStep hszw hb1 HSW.out hb HOW.out.1 HOW.out.2.1 HOW.out.2.2); clear hb)
        go_roundw
        case rel =>
          have he := HE.out
          rw [if_neg hr] at he
          have hpl := HPL.out
          have hq := HB.out
          have hbx := (Below.refl w2.heap.size w2).alloc (Nat.le_refl _) (.cells #[.int .i64 v.pk.K, .int .i64 v.pk.A, .int .i64 v.pk.N, .int .i64 v.ac.K, .int .i64 v.ac.P, .int .i64 v.ac.N, .int .u64 v.ac.V, .int .u64 v.ac.U, .slice A1 l1 q1, .int .u64 v.an.V, .bool v.an.D, .slice A2 l2 q2] 51)
          have hall := own_trans HTT.out.1 HTT.out.2 hq.touch hq.agree
          exact ⟨i + 1, o2, tv2, ts2, qs, s2, _, _, cv, by go_num, rfl, HNV.out, by omega, by omega, hq.sw.alloc _, he, by omega, hq.row.alloc _, hq.own, hq.old.keep hbx.size (fun k _ hl => hbx.block k hl), hall.1.alloc _, hall.2⟩
        case measure => simp [intOf]; omega
    · obtain rfl : i = ps.length := by omega
      have he := HEQ.out
      rw [List.drop_length] at he
      have he2 : (st1, qs.map Tx.e) = res := he
      have HE := Lib.hid he2
      clear he he2
      go_wp2
      go_ret
      obtain ⟨hown, hob, htx⟩ := HOW.out
      refine ⟨o1, tv1, ts1, Av, cv, qs, ?_, by rw [← HE.out], ?_, by rw [← HE.out]; exact HSW.out, HTT.out.1, HTT.out.2⟩
      · rw [← HE.out, HNV.out]; simp
      · have e : (res.2).length = qs.length := by rw [← HE.out]; simp
        rw [e, ← HNV.out]
        exact EvsAt.of_own hown (htx.mono fun k hk _ => hk.1) hob
end Go.Proofs.Ytegjnejekakeiaa
namespace Go.Proofs.Ytegjnejekakeiaa
open Go.RowKit

theorem St.pick_na (st : St) (p : Pk) : (st.pick p).1.na = st.na ∧ (st.pick p).1.nw = st.nw := by
  by_cases h0 : st.chk p = 0
  · by_cases h1 : p.K = 1
    · rw [St.pick_kill h0 h1]; exact ⟨rfl, rfl⟩
    · by_cases h2 : p.K = 2
      · rw [St.pick_tick h0 h2]; exact ⟨rfl, rfl⟩
      · have hk : p.K = 0 := by have := St.chk_kind h0; omega
        cases hn : (st.ms p.A.toNat).next with
        | none => rw [St.pick_end h0 hk hn]; exact ⟨rfl, rfl⟩
        | some a =>
          by_cases he : a.err st.nw = 0
          · rw [St.pick_ok h0 hk hn he]; exact ⟨rfl, rfl⟩
          · rw [St.pick_bad h0 hk hn he]; exact ⟨rfl, rfl⟩
  · rw [St.pick_no h0]; exact ⟨rfl, rfl⟩

/-- What a pick counts: nothing; or one access, of a step of one that lives, that went well. -/
theorem St.pick_count (st : St) (p : Pk) : (st.pick p).1.c = st.c ∨ ((st.pick p).1.c = nxt st.c ∧ p.K = 0 ∧ st.deadB p.A = false ∧ (st.pick p).2.1 = 0) := by
  by_cases h0 : st.chk p = 0
  · by_cases h1 : p.K = 1
    · rw [St.pick_kill h0 h1]; exact .inl rfl
    · by_cases h2 : p.K = 2
      · rw [St.pick_tick h0 h2]; exact .inl rfl
      · have hk : p.K = 0 := by have := St.chk_kind h0; omega
        cases hn : (st.ms p.A.toNat).next with
        | none => rw [St.pick_end h0 hk hn]; exact .inl rfl
        | some a =>
          by_cases he : a.err st.nw = 0
          · obtain ⟨i, hi, _, hd⟩ := St.chk_actor h0 (.inl hk)
            rw [St.pick_ok h0 hk hn he]
            refine .inr ⟨rfl, hk, ?_, rfl⟩
            unfold St.deadB
            rw [hi, Int.toNat_natCast, hd, Bool.and_false]
          · rw [St.pick_bad h0 hk hn he]; exact .inl rfl
  · rw [St.pick_no h0]; exact .inl rfl

theorem St.runs_na (ps : List Pk) : ∀ (st : St) (es : List Ev), (St.runs ps st es).1.na = st.na := by
  induction ps with
  | nil => exact fun _ _ => rfl
  | cons p ps ih => exact fun st es => (ih _ _).trans (St.pick_na st p).1

theorem St.runs_tr (ps : List Pk) : ∀ (st : St) (es : List Ev), (St.runs ps st es).1.tr.length ≤ st.tr.length + ps.length := by
  induction ps with
  | nil => exact fun _ _ => Nat.le_refl _
  | cons p ps ih =>
    intro st es
    have h1 := ih (st.pick p).1 (if (st.pick p).2.1 = 0 then es ++ [(st.pick p).2.2] else es)
    have h2 := St.act_len st p
    show (St.runs ps _ _).1.tr.length ≤ _
    simp only [List.length_cons]
    omega

/-- One that is there and dead takes no step; one that isn't there neither. -/
theorem St.pick_dead (st : St) (k : Nat) (hk : k < st.na) (hd : st.dead k = true) : st.pick ⟨0, k, 0⟩ = (st, 11, Ev.zero) := by
  have hc : st.chk ⟨0, k, 0⟩ = 11 := by
    unfold St.chk
    rw [if_pos (.inl rfl), if_pos (show hasB st.na (k : Int) = true by simp [hasB]; omega), if_pos (by rw [Int.toNat_natCast]; exact hd)]
  rw [St.pick_no (by rw [hc]; decide), hc]
theorem St.pick_away (st : St) (i : Int) (hi : hasB st.na i = false) : st.pick ⟨0, i, 0⟩ = (st, 2, Ev.zero) := by
  have hc : st.chk ⟨0, i, 0⟩ = 2 := by
    unfold St.chk
    rw [if_pos (.inl rfl), if_neg (by simp [hi])]
  rw [St.pick_no (by rw [hc]; decide), hc]
end Go.Proofs.Ytegjnejekakeiaa
namespace Go.Proofs.Ytegjnejekakeiaa
open Go.RowKit

namespace Cy
/-- The bytes m, and d of f laid over them at a. -/
def lay (m f : Nat → Nat) (a d : Nat) : Nat → Nat := fun i => if a ≤ i ∧ i < a + d then f (i - a) else m i

theorem lay_isB {m f : Nat → Nat} (hm : Mb.IsB m) (hf : Mb.IsB f) (a d : Nat) : Mb.IsB (lay m f a d) := fun i => by
  unfold lay
  split
  · exact hf _
  · exact hm _

theorem lay_zero (m f : Nat → Nat) (a : Nat) : lay m f a 0 = m := by
  funext i
  unfold lay
  rw [if_neg (by omega)]

theorem lay_step {m f : Nat → Nat} (hf : Mb.IsB f) (a d c : Nat) : Mb.put (lay m f a d) (a + d) c (Mb.nm (fun i => f (d + i)) 0 c) = lay m f a (d + c) := by
  funext i
  unfold Mb.put lay
  by_cases h1 : a + d ≤ i ∧ i < a + d + c
  · rw [if_pos h1, if_pos (by omega), Mb.byt_nm (m := fun i => f (d + i)) (fun _ => hf _) 0 c _ (by omega)]
    show f (d + (0 + (i - (a + d)))) = _
    congr 1
    omega
  · rw [if_neg h1]
    by_cases h2 : a ≤ i ∧ i < a + d
    · rw [if_pos h2, if_pos (by omega)]
    · rw [if_neg h2, if_neg (by omega)]
end Cy

/-- The one block q. -/
def Lone (q k : Nat) : Prop := k = q

theorem addr_add (b o j : Nat) : (⟨b, o, none⟩ : Addr).add j = ⟨b, o + j, none⟩ := by unfold Addr.add; split <;> simp_all

theorem map_bl_at (f : Nat → Nat) (a L j : Nat) (h : j < L) : ((Mb.bl f a L).map (Value.int .u8))[j]? = some (.int .u8 ((f (a + j) : Nat) : Int)) := by
  unfold Mb.bl
  rw [List.getElem?_map, List.getElem?_map, List.getElem?_range h]
  rfl

theorem splice_at {cur : Array Value} {u f : Nat → Nat} {off L n j : Nat} (hn : cur.size = n) (hcur : ∀ i, i < n → cur[i]? = some (.int .u8 ((u i : Nat) : Int))) (hfit : off + L ≤ n) (hj : j < n) :
    (cur.toList.take off ++ (Mb.bl f 0 L).map (Value.int .u8) ++ cur.toList.drop (off + L)).toArray[j]? = some (.int .u8 ((Cy.lay u f off L j : Nat) : Int)) := by
  have hcl : cur.toList.length = n := by rw [Array.length_toList]; exact hn
  have hlen : ((Mb.bl f 0 L).map (Value.int .u8)).length = L := by rw [List.length_map, Mb.bl_length]
  have htl : (cur.toList.take off).length = off := by rw [List.length_take, hcl]; omega
  have hcj := hcur j hj
  rw [List.getElem?_toArray, List.append_assoc]
  unfold Cy.lay
  by_cases h1 : j < off
  · rw [if_neg (by omega), List.getElem?_append_left (by omega), List.getElem?_take, if_pos h1, Array.getElem?_toList]
    exact hcj
  · rw [List.getElem?_append_right (by omega), htl]
    by_cases h2 : j < off + L
    · rw [if_pos (by omega), List.getElem?_append_left (by omega), map_bl_at f 0 L (j - off) (by omega), Nat.zero_add]
    · rw [if_neg (by omega), List.getElem?_append_right (by omega), hlen, List.getElem?_drop, Array.getElem?_toList]
      have e : off + L + (j - off - L) = j := by omega
      rw [e]
      exact hcj

/-- Bytes are copied into a row. -/
theorem run_copy_bytes {w : World} {q off n dLen dCap : Nat} {u f : Nat → Nat} (hr : w.rowIs q 5 n (fun j => .int .u8 ((u j : Nat) : Int))) (B : Option Addr) (L cp : Nat) (hB : BytesAt w (.slice B L cp) (Mb.bl f 0 L)) (hfit : off + L ≤ n) (hL : L ≤ dLen) (ty : TypeId) :
    ∃ w', (Builtin.copy_ #[26, 26] ty #[.slice (some ⟨q, off, none⟩) dLen dCap, .slice B L cp]).run Try.prog w = .ok (goInt L) w' ∧ w'.rowIs q 5 n (fun j => .int .u8 ((Cy.lay u f off L j : Nat) : Int)) ∧ Touch (Lone q) w w' := by
  obtain ⟨i0, hi, hz0, hz1, hz2⟩ := info_parts infoU8
  have hsz : (Try.prog.info? 5).map (·.size) = some 1 := by rw [hi]; simp [hz1]
  by_cases h0 : L = 0
  · subst h0
    refine ⟨w, run_copy_none (P := Try.prog) w _ _ ty 5 _ _ _ _ _ _ Try.underlying26 hsz (by simp), ?_, Touch.refl _ _⟩
    rw [Cy.lay_zero]
    exact hr
  · obtain ⟨A2, c2, hv, hx⟩ := hB
    obtain ⟨b, o, rfl, hlt, hc⟩ := hx (by rw [Mb.bl_length]; omega)
    injection hv with e1 _ _
    subst e1
    rw [Mb.bl_length] at hc
    obtain ⟨cur, hb, hn, hcur⟩ := hr
    have hlen : ((Mb.bl f 0 L).map (Value.int .u8)).length = L := by rw [List.length_map, Mb.bl_length]
    have hrun := run_copy_row (P := Try.prog) w 26 26 ty 5 q off dLen dCap ⟨b, o, none⟩ L cp cur _ ((Mb.bl f 0 L).map (Value.int .u8)) Try.underlying26 hsz hb (by rw [hlen]; exact (Nat.min_eq_left hL).symm)
      (by
        intro j v hj
        have hjl : j < L := by
          have := (List.getElem?_eq_some_iff.1 hj).1
          rw [hlen] at this
          exact this
        rw [addr_add b o j, hc j hjl, ← hj, map_bl_at f 0 L j hjl, Mb.bl_getD _ _ _ _ hjl]) (by rw [hlen, hn]; exact hfit) (by intro v hv; obtain ⟨z, _, rfl⟩ := List.mem_map.1 hv; rfl)
    rw [hlen] at hrun
    exact ⟨_, hrun, ⟨_, setRow_heap w q _ _ _ _ hb, by rw [List.size_toArray, List.length_append, List.length_append, hlen, List.length_take, List.length_drop, Array.length_toList, hn]; omega, fun j hj => splice_at hn hcur hfit hj⟩, ⟨rfl, rfl, rfl, by simp [World.setRow], fun k _ hk => setRow_other w q k _ hk⟩⟩

theorem wpList_copy_bytes {w : World} {ops : Array Oper} {rest : List Oper} {o : Oper} {ac : Act} {Q : Exit → Act → World → Prop} (hgd : o.guard = none) (d s : Operand)
    (ho : o.op = .call { callee := .builtin .copy, args := #[d, s], argTypes := #[26, 26] }) {q off n dLen dCap : Nat} {u f : Nat → Nat} (B : Option Addr) (L cp : Nat) (hd : ac.eval d = .slice (some ⟨q, off, none⟩) dLen dCap) (hs : ac.eval s = .slice B L cp)
    (hr : w.rowIs q 5 n (fun j => .int .u8 ((u j : Nat) : Int))) (hB : BytesAt w (.slice B L cp) (Mb.bl f 0 L)) (hfit : off + L ≤ n) (hL : L ≤ dLen)
    (h : ∀ w', w'.rowIs q 5 n (fun j => .int .u8 ((Cy.lay u f off L j : Nat) : Int)) → Touch (Lone q) w w' → wpList Try.prog ops Q rest (ac.put o.dst (goInt L)) w') : wpList Try.prog ops Q (o :: rest) ac w := by
  refine wpList_plain hgd fun K hK => ?_
  obtain ⟨w', hrun, h1, h2⟩ := run_copy_bytes hr B L cp hB hfit hL o.type (dCap := dCap)
  unfold Oper.wp
  simp [execOp, ho, resolve, invoke, builtin, hd, hs, hrun, Result.andThen]
  exact hK _ _ (h w' h1 h2)
end Go.Proofs.Ytegjnejekakeiaa
namespace Go.Proofs.Ytegjnejekakeiaa
open Go.RowKit

set_option maxHeartbeats 400000 in
theorem refBytes_no (v n : Int) (w : World) (h : n < 0 ∨ 8 < n) :
    Calls Try.prog 59 #[.int .u64 v, .int .i64 n] w fun e w' => e = .returned (.slice none 0 0) ∧ w = w' := by
  rcases h with h | h
  · go_enter Try.func59, Try.ntmps59
    go_wp2
    go_ret
    exact ⟨rfl, rfl⟩
  · have h' : 0 ≤ n := by omega
    go_enter Try.func59, Try.ntmps59
    go_wp2
    go_ret
    exact ⟨rfl, rfl⟩

theorem quo_u64 (x : Int) (h0 : 0 ≤ x) (h1 : x ≤ 18446744073709551615) : IntKind.u64.wrap (x.tdiv 256) = x / 256 := by
  rw [Int.tdiv_eq_ediv_of_nonneg h0, IntKind.wrap_u64]
  omega

theorem div_next (v : Int) (k : Nat) : v / 2 ^ (k * 8) / 256 = v / 2 ^ ((k + 1) * 8) := by
  have e : ((2 : Int) ^ ((k + 1) * 8)) = 2 ^ (k * 8) * 256 := by
    rw [Nat.add_mul, Int.pow_add]; rfl
  rw [e, Int.ediv_ediv_of_nonneg (Int.pow_nonneg (by decide))]

set_option maxRecDepth 100000 in
set_option maxHeartbeats 400000 in
theorem refBytes_own (v : Int) (n : Nat) (w : World) (hv : 0 ≤ v) (hv1 : v ≤ 18446744073709551615) (hn : n ≤ 8) :
    Calls Try.prog 59 #[.int .u64 v, .int .i64 n] w fun e w' => ∃ x, e = .returned x ∧ Owns w.heap.size w' x (Wd.bs v n) ∧ Below w.heap.size w w' := by
  obtain ⟨i0, hi, hz0, hz1, hz2⟩ := info_parts infoU8
  go_enter Try.func59, Try.ntmps59
  go_wp2
  go_loopw [0, 5, 6] (fun x r i wr => ∃ k : Nat, k ≤ n ∧ i = .int .i64 k ∧ x = .int .u64 (v / 2 ^ (k * 8)) ∧ Below w.heap.size w wr ∧ wr.ownsRow w.heap.size 5 1 r k ((Wd.bs v k).map (Value.int .u8))) (fun _ _ i _ => n - (intOf i).toNat)
  case atStart =>
    exact ⟨0, by omega, rfl, by simp, Below.refl _ _, World.ownsRow_nil _ _ _ _⟩
  case round =>
    obtain ⟨k, hk, rfl, rfl, hbel, hown⟩ := hrel
    by_cases hlt : k < n
    · have hpos : 0 ≤ v / 2 ^ (k * 8) := Int.ediv_nonneg hv (Int.pow_nonneg (by decide))
      have hsz := hbel.size
      go_wp2_with (at_builtin; refine wpList_append_own _ rfl _ _ 26 rfl w.heap.size 5 i0 (.int .u8 0) 1 1 Try.underlying26 hi hz0 hz1 hz2 rfl (by decide) _ _ _ rfl (hown.alloc _) ⟨wr.heap.size, 0, none⟩ 1 1 [.int .u8 (v / 2 ^ (k * 8) % 256)] rfl rfl ?c1 ?c2 ?c3 ?c4 ?c5 ?_)
      case c1 =>
        intro j u hj
        match j, hj with
        | 0, hj => simp at hj; subst hj; simp [Addr.add]
      case c2 => intro u hu; simp at hu; subst hu; rfl
      case c3 => unfold maxLen; omega
      case c4 => omega
      case c5 => simp; omega
      · intro v' w1 hown' hgrow _
        have hown2 : w1.ownsRow w.heap.size 5 1 v' (k + 1) ((Wd.bs v (k + 1)).map (Value.int .u8)) := by
          rw [bs_snoc, List.map_append]; exact hown'
        have hbel2 : Below w.heap.size w w1 := (hbel.alloc hsz _).grown hgrow (by simp; omega) (fun g hg => (hown.lt g hg).1)
        clear hown' hgrow hown hbel
        go_wp2
        go_roundw
        case rel => exact ⟨k + 1, by omega, by go_num, by rw [← div_next, quo_u64 _ hpos (by have := Int.ediv_le_self (2 ^ (k * 8)) hv; omega)], hbel2, hown2⟩
        case measure => simp [intOf]; omega
    · have hkn : k = n := by omega
      have HK := Lib.hid hkn
      clear hkn
      go_wp2
      go_ret
      have hkn := HK.out
      subst hkn
      exact ⟨_, rfl, by unfold Owns; rw [Wd.bs_length]; exact hown, hbel⟩

theorem refBytes_yes (v : Int) (n : Nat) (w : World) (hv : 0 ≤ v) (hv1 : v ≤ 18446744073709551615) (hn : n ≤ 8) :
    Calls Try.prog 59 #[.int .u64 v, .int .i64 n] w (MadeBytes (Wd.bs v n) w) :=
  (refBytes_own v n w hv hv1 hn).mono fun _ _ ⟨x, he, hx, hb⟩ => ⟨x, he, hx.bytes, hb⟩

end Go.Proofs.Ytegjnejekakeiaa
namespace Go.Proofs.Ytegjnejekakeiaa
open Go.RowKit

set_option maxHeartbeats 400000 in
theorem refNumber_short (b off cap : Nat) (xs : List Int) (w : World) (h8 : Wd.Bytes8 xs) (hm : xs.length ≤ 8)
    (hc : ∀ i, i < xs.length → w.cell? ⟨b, off + i, none⟩ = some (.int .u8 (xs.getD i 0))) :
    Calls Try.prog 58 #[.slice (some ⟨b, off, none⟩) xs.length cap] w fun e w' => e = .returned (.int .u64 (Wd.num (xs.take 8))) ∧ w = w' := by
  go_enter Try.func58, Try.ntmps58
  go_wp2
  go_loop [3, 4] (fun v i => ∃ k : Nat, k ≤ xs.length ∧ i = .int .i64 ((k : Int) - 1) ∧ v = .int .u64 (Wd.num ((xs.take 8).drop k))) (fun _ i => (intOf i + 1).toNat)
  case atStart =>
    have hl : (xs.take 8).length = xs.length := by rw [List.length_take]; omega
    exact ⟨xs.length, by omega, by first | rfl | (congr 1; omega), by rw [List.drop_of_length_le (by omega)]; rfl⟩
  case round =>
    obtain ⟨k, hk, rfl, rfl⟩ := hrel
    by_cases hlt : 0 < k
    · obtain ⟨j, rfl⟩ : ∃ j, k = j + 1 := ⟨k - 1, by omega⟩
      have hl : (xs.take 8).length = xs.length := by rw [List.length_take]; omega
      have hcell := hc j (by omega)
      obtain ⟨hb0, hb1⟩ := h8.at_ (show j < xs.length by omega)
      have hg : (xs.take 8).getD j 0 = xs.getD j 0 := by simp [List.getD, show j < 8 by omega]
      have hstep := Wd.drop_num (xs.take 8) j (by omega)
      rw [hg] at hstep
      have hn := Wd.num_small _ (Wd.drop_bytes (Wd.take_bytes h8 8) j) (by rw [List.length_drop]; omega)
      have hn0 := (Wd.num_bounds _ (Wd.drop_bytes (Wd.take_bytes h8 8) (j + 1))).1
      have H2 := Lib.hid hstep
      have HN := Lib.hid hn
      have H5 := Lib.hid h8
      have H6 := Lib.hid hc
      have hxl : j < xs.length := by omega
      have e0 : ((j + 1 : Nat) : Int) - 1 = j := by omega
      rw [e0]
      clear hl hg hstep h8 hc hn e0
      go_wp2
      go_round
      case rel =>
        refine ⟨j, by omega, by go_num, ?_⟩
        rw [H2.out]
        have e1 : xs.getD j 0 = xs[j] := by simp [List.getD, hxl]
        have hn2 := HN.out
        rw [H2.out] at hn2
        rw [e1] at hn2 hb0 hb1 ⊢
        rw [Wd.wrap_next _ _ hn0 hb0 hb1 hn2]
      case measure => simp [intOf]
    · obtain rfl : k = 0 := by omega
      go_wp2
      go_ret
      exact ⟨rfl, rfl⟩

set_option maxHeartbeats 400000 in
theorem refNumber_long (b off cap : Nat) (xs : List Int) (w : World) (h8 : Wd.Bytes8 xs) (hm : 8 < xs.length)
    (hc : ∀ i, i < xs.length → w.cell? ⟨b, off + i, none⟩ = some (.int .u8 (xs.getD i 0))) :
    Calls Try.prog 58 #[.slice (some ⟨b, off, none⟩) xs.length cap] w fun e w' => e = .returned (.int .u64 (Wd.num (xs.take 8))) ∧ w = w' := by
  go_enter Try.func58, Try.ntmps58
  go_wp2
  go_loop [3, 4] (fun v i => ∃ k : Nat, k ≤ 8 ∧ i = .int .i64 ((k : Int) - 1) ∧ v = .int .u64 (Wd.num ((xs.take 8).drop k))) (fun _ i => (intOf i + 1).toNat)
  case atStart =>
    have hl : (xs.take 8).length = 8 := by rw [List.length_take]; omega
    exact ⟨8, by omega, by first | rfl | (congr 1; omega), by rw [List.drop_of_length_le (by omega)]; rfl⟩
  case round =>
    obtain ⟨k, hk, rfl, rfl⟩ := hrel
    by_cases hlt : 0 < k
    · obtain ⟨j, rfl⟩ : ∃ j, k = j + 1 := ⟨k - 1, by omega⟩
      have hl : (xs.take 8).length = 8 := by rw [List.length_take]; omega
      have hcell := hc j (by omega)
      obtain ⟨hb0, hb1⟩ := h8.at_ (show j < xs.length by omega)
      have hg : (xs.take 8).getD j 0 = xs.getD j 0 := by simp [List.getD, show j < 8 by omega]
      have hstep := Wd.drop_num (xs.take 8) j (by omega)
      rw [hg] at hstep
      have hn := Wd.num_small _ (Wd.drop_bytes (Wd.take_bytes h8 8) j) (by rw [List.length_drop]; omega)
      have hn0 := (Wd.num_bounds _ (Wd.drop_bytes (Wd.take_bytes h8 8) (j + 1))).1
      have H2 := Lib.hid hstep
      have HN := Lib.hid hn
      have H5 := Lib.hid h8
      have H6 := Lib.hid hc
      have hxl : j < xs.length := by omega
      have e0 : ((j + 1 : Nat) : Int) - 1 = j := by omega
      rw [e0]
      clear hl hg hstep h8 hc hn e0
      go_wp2
      go_round
      case rel =>
        refine ⟨j, by omega, by go_num, ?_⟩
        rw [H2.out]
        have e1 : xs.getD j 0 = xs[j] := by simp [List.getD, hxl]
        have hn2 := HN.out
        rw [H2.out] at hn2
        rw [e1] at hn2 hb0 hb1 ⊢
        rw [Wd.wrap_next _ _ hn0 hb0 hb1 hn2]
      case measure => simp [intOf]
    · obtain rfl : k = 0 := by omega
      go_wp2
      go_ret
      exact ⟨rfl, rfl⟩

set_option maxHeartbeats 400000 in
theorem refNumber_zero (A : Option Addr) (cap : Nat) (w : World) :
    Calls Try.prog 58 #[.slice A 0 cap] w fun e w' => e = .returned (.int .u64 0) ∧ w = w' := by
  go_enter Try.func58, Try.ntmps58
  go_wp2
  refine wp_loop_rounds 1 ?_
  rw [rounds_succ]
  go_wp2
  go_ret
  exact ⟨rfl, rfl⟩

/-- Number, over whatever slice that reads as bytes. -/
theorem refNumber_any (v : Value) (xs : List Int) (w : World) (h8 : Wd.Bytes8 xs) (h : BytesAt w v xs) :
    Calls Try.prog 58 #[v] w fun e w' => e = .returned (.int .u64 (Wd.num (xs.take 8))) ∧ w = w' := by
  obtain ⟨A, cap, rfl, h⟩ := h
  by_cases hp : 0 < xs.length
  · obtain ⟨b, off, rfl, _, hc⟩ := h hp
    by_cases hl : xs.length ≤ 8
    · exact refNumber_short b off cap xs w h8 hl hc
    · exact refNumber_long b off cap xs w h8 (by omega) hc
  · have hx : xs = [] := List.eq_nil_of_length_eq_zero (by omega)
    subst hx
    exact refNumber_zero A cap w

end Go.Proofs.Ytegjnejekakeiaa
namespace Go.Proofs.Ytegjnejekakeiaa
open Go.RowKit

set_option maxRecDepth 100000 in
set_option maxHeartbeats 1000000 in
theorem refCheck_ok (n : Nat) (K P N V U : Int) (A : Option Addr) (L cap : Nat) (w : World) (hK : K = 5 ∨ (K = 6 ∧ N = (L : Int))) (h0 : 0 ≤ N) (h1 : N ≤ 8) (h2 : 0 ≤ P) (hn : n ≤ 1000000) (h : P + N ≤ n) :
    Calls Try.prog 57 #[.int .i64 n, .agg #[.int .i64 K, .int .i64 P, .int .i64 N, .int .u64 V, .int .u64 U, .slice A L cap]] w fun e w' => e = .returned (.int .i64 0) ∧ Below w.heap.size w w' := by
  have hb := (Below.refl w.heap.size w).alloc (Nat.le_refl _) (.cells #[.int .i64 K, .int .i64 P, .int .i64 N, .int .u64 V, .int .u64 U, .slice A L cap] 47)
  have g1 : P ≤ n := by omega
  have g2 : N ≤ n - P := by omega
  have HB := Lib.hid hb
  clear h hb
  rcases hK with rfl | ⟨rfl, rfl⟩
  · go_enter Try.func57, Try.ntmps57
    go_wp2
    go_ret
    exact ⟨rfl, HB.out⟩
  · go_enter Try.func57, Try.ntmps57
    go_wp2
    go_ret
    exact ⟨rfl, HB.out⟩

set_option maxRecDepth 100000 in
set_option maxHeartbeats 1000000 in
theorem refCheck_no (n : Nat) (K P N V U : Int) (A : Option Addr) (L cap : Nat) (w : World) (hK : K = 5 ∨ (K = 6 ∧ N = (L : Int))) (h0 : 0 ≤ N) (h1 : N ≤ 8) (h2 : 0 ≤ P) (h : n < P + N) :
    Calls Try.prog 57 #[.int .i64 n, .agg #[.int .i64 K, .int .i64 P, .int .i64 N, .int .u64 V, .int .u64 U, .slice A L cap]] w fun e w' => e = .returned (.int .i64 2) ∧ Below w.heap.size w w' := by
  have hb := (Below.refl w.heap.size w).alloc (Nat.le_refl _) (.cells #[.int .i64 K, .int .i64 P, .int .i64 N, .int .u64 V, .int .u64 U, .slice A L cap] 47)
  have HB := Lib.hid hb
  clear hb
  by_cases g1 : P ≤ n
  · have g2 : n - P < N := by omega
    clear h
    rcases hK with rfl | ⟨rfl, rfl⟩
    · go_enter Try.func57, Try.ntmps57
      go_wp2
      go_ret
      exact ⟨rfl, HB.out⟩
    · go_enter Try.func57, Try.ntmps57
      go_wp2
      go_ret
      exact ⟨rfl, HB.out⟩
  · have g3 : n < P := by omega
    clear h g1
    rcases hK with rfl | ⟨rfl, rfl⟩
    · go_enter Try.func57, Try.ntmps57
      go_wp2
      go_ret
      exact ⟨rfl, HB.out⟩
    · go_enter Try.func57, Try.ntmps57
      go_wp2
      go_ret
      exact ⟨rfl, HB.out⟩
end Go.Proofs.Ytegjnejekakeiaa
namespace Go.Proofs.Ytegjnejekakeiaa
open Go.RowKit

/-- A row of n bytes stands at block q. -/
abbrev PlainAt (w : World) (q n : Nat) (u : Nat → Nat) : Prop := w.rowIs q 5 n (fun j => .int .u8 ((u j : Nat) : Int))

theorem PlainAt.part {w : World} {q n : Nat} {u : Nat → Nat} (h : PlainAt w q n u) (a k c : Nat) (hk : a + k ≤ n) : BytesAt w (.slice (some ⟨q, a, none⟩) k c) (Mb.bl u a k) := by
  refine ⟨some ⟨q, a, none⟩, c, by rw [Mb.bl_length], fun _ => ⟨q, a, rfl, h.lt, fun i hi => ?_⟩⟩
  rw [Mb.bl_length] at hi
  rw [h.cell (i := a + i) (by omega), Mb.bl_getD _ _ _ _ hi]

set_option maxRecDepth 100000 in
set_option maxHeartbeats 1000000 in
theorem refDo_no (q n : Nat) (K P N V U : Int) (A : Option Addr) (L cap : Nat) (w : World) (hK : K = 5 ∨ (K = 6 ∧ N = (L : Int))) (h0 : 0 ≤ N) (h1 : N ≤ 8) (h2 : 0 ≤ P) (h : n < P + N) :
    Calls Try.prog 32 #[.slice (some ⟨q, 0, none⟩) n n, .agg #[.int .i64 K, .int .i64 P, .int .i64 N, .int .u64 V, .int .u64 U, .slice A L cap]] w
      fun e w' => e = .returned (.tuple #[.agg #[.int .u64 0, .bool false, .slice none 0 0], .int .i64 2]) ∧ Below w.heap.size w w' := by
  have HK := fun W => Lib.hid (refCheck_no n K P N V U A L cap W hK h0 h1 h2 h)
  clear hK h0 h1 h2 h
  have HC := Lib.hid (acc_made w K P N V U (.slice A L cap) (.cells #[.int .u64 0, .bool false, .slice none 0 0] 49))
  have HA := Lib.hid (ans_made w (.cells #[.int .i64 K, .int .i64 P, .int .i64 N, .int .u64 V, .int .u64 U, .slice A L cap] 47))
  have HW := Lib.hid (((Below.refl w.heap.size w).alloc (Nat.le_refl _) (.cells #[.int .i64 K, .int .i64 P, .int .i64 N, .int .u64 V, .int .u64 U, .slice A L cap] 47)).alloc (by simp) (.cells #[.int .u64 0, .bool false, .slice none 0 0] 49))
  go_enter Try.func32, Try.ntmps32
  go_upto_region 1 with (fail)
  generalize (w.alloc (.cells #[.int .i64 K, .int .i64 P, .int .i64 N, .int .u64 V, .int .u64 U, .slice A L cap] 47)).alloc (.cells #[.int .u64 0, .bool false, .slice none 0 0] 49) = W at HC HA HW ⊢
  obtain ⟨c0, c1, c2, c3, c4, c5⟩ := HC.out
  go_wp2_with (go_at_call 57; refine (HK _).out.mono ?_; rintro e w1 ⟨rfl, hb1⟩; obtain ⟨a0, a1, a2, f0, f1, f2, _⟩ := HA.out.later hb1)
  refine bodyPost_ret (v := .tuple #[.agg #[.int .u64 0, .bool false, .slice none 0 0], .int .i64 2]) (by simp [results, Try.results32, go_sem, a0, a1, a2]) rfl ?_
  exact ⟨rfl, (((HW.out.trans (hb1.mono HW.out.size)).setCell (Nat.le_succ _) _).setCell (Nat.le_succ _) _).setCell (Nat.le_succ _) _⟩

set_option maxRecDepth 100000 in
set_option maxHeartbeats 1000000 in
theorem refDo_read {w : World} {q n : Nat} {u : Nat → Nat} (hr : PlainAt w q n u) (hu : Mb.IsB u) (P N : Nat) (V U : Int) (A : Option Addr) (L cap : Nat) (h1 : N ≤ 8) (h2 : 1 ≤ N) (hn : n ≤ 1000000) (h : P + N ≤ n) :
    Calls Try.prog 32 #[.slice (some ⟨q, 0, none⟩) n n, .agg #[.int .i64 5, .int .i64 P, .int .i64 N, .int .u64 V, .int .u64 U, .slice A L cap]] w
      fun e w' => ∃ A' l c, e = .returned (.tuple #[.agg #[.int .u64 0, .bool false, .slice A' l c], .int .i64 0]) ∧ Owns w.heap.size w' (.slice A' l c) (Mb.bl u P N) ∧ Below w.heap.size w w' := by
  have HK := fun W => Lib.hid (refCheck_ok n 5 P N V U A L cap W (.inl rfl) (by omega) (by omega) (by omega) hn (by omega))
  have HR := Lib.hid hr
  have HU := Lib.hid hu
  clear hr hu
  have HC := Lib.hid (acc_made w 5 P N V U (.slice A L cap) (.cells #[.int .u64 0, .bool false, .slice none 0 0] 49))
  have HA := Lib.hid (ans_made w (.cells #[.int .i64 5, .int .i64 P, .int .i64 N, .int .u64 V, .int .u64 U, .slice A L cap] 47))
  have HW := Lib.hid (((Below.refl w.heap.size w).alloc (Nat.le_refl _) (.cells #[.int .i64 5, .int .i64 P, .int .i64 N, .int .u64 V, .int .u64 U, .slice A L cap] 47)).alloc (by simp) (.cells #[.int .u64 0, .bool false, .slice none 0 0] 49))
  go_enter Try.func32, Try.ntmps32
  go_upto_region 1 with (fail)
  generalize (w.alloc (.cells #[.int .i64 5, .int .i64 P, .int .i64 N, .int .u64 V, .int .u64 U, .slice A L cap] 47)).alloc (.cells #[.int .u64 0, .bool false, .slice none 0 0] 49) = W at HC HA HW ⊢
  obtain ⟨c0, c1, c2, c3, c4, c5⟩ := HC.out
  go_upto_region 2 with (go_at_call 57; refine (HK _).out.mono ?_; rintro e w1 ⟨rfl, hb1⟩)
  have HA1 := Lib.hid (HA.out.later hb1)
  have HW1 := Lib.hid (HW.out.trans (hb1.mono HW.out.size))
  have hw1 : w.heap.size + 1 < w1.heap.size := Nat.lt_of_lt_of_le (lt_of_cell HA.out.a0) hb1.size
  obtain ⟨c0, c1, c2, c3, c4, c5⟩ := HC.out.below hb1
  have hr1 : PlainAt w1 q n u := HR.out.of_block (HW1.out.block q HR.out.lt)
  have HP := Lib.hid (hr1.part P N (n - P) h)
  have hpq : (P : Int) + N ≤ n := by omega
  have hpq2 : (P : Int) ≤ P + N := by omega
  have h8 : Hid (Wd.Bytes8 (Mb.bl u P N)) := Lib.hid (fun x hx => by have := Bys.bl HU.out P N x hx; omega)
  clear hb1 hr1
  go_upto_region 5 with (fail)
  have hown := Lib.hid (own_empty w1)
  have hby := Lib.hid (HP.out.below ((Below.refl w1.heap.size w1).alloc (Nat.le_refl _) (.cells #[] 5)))
  go_wp2_with (first
    | (go_at_call 58; refine (refNumber_any _ (Mb.bl u P N) _ h8.out HP.out).mono ?_; rintro e w2 ⟨rfl, rfl⟩)
    | (at_builtin; refine wpList_app_any rfl _ _ rfl w1.heap.size _ _ [] (Mb.bl u P N) rfl rfl hown.out hby.out (by simp [Mb.bl_length]; omega) (by simp) ?_; intro v' w3 happ; obtain ⟨A', c', rfl, _⟩ := happ.own.bytes; have hb3 := happ.below hown.out ((Below.refl _ w1).alloc (Nat.le_refl _) _) (by simp); have hap := Lib.hid happ.own; clear happ; obtain ⟨a0, a1, a2, f0, f1, f2, _⟩ := HA1.out.later hb3))
  refine bodyPost_ret (v := .tuple #[.agg #[.int .u64 0, .bool false, .slice A' (Mb.bl u P N).length c'], .int .i64 0]) (by simp [results, Try.results32, go_sem, a0, a1, a2]) rfl ?_
  have hsz : w.heap.size + 1 < w1.heap.size := hw1
  have how : Owns w1.heap.size w3 (.slice A' (Mb.bl u P N).length c') (Mb.bl u P N) := hap.out
  refine ⟨A', _, c', rfl, ?_, ((((HW1.out.trans (hb3.mono (by omega))).setCell (Nat.le_succ _) _).setCell (Nat.le_succ _) _).setCell (Nat.le_succ _) _)⟩
  exact (((how.setCell (p := ⟨w.heap.size + 1, 0, none⟩) hsz _).setCell (p := ⟨w.heap.size + 1, 1, none⟩) hsz _).setCell (p := ⟨w.heap.size + 1, 2, none⟩) hsz _).down (by omega)

set_option maxRecDepth 100000 in
set_option maxHeartbeats 1000000 in
theorem refDo_write {w : World} {q n : Nat} {u : Nat → Nat} (hr : PlainAt w q n u) (hu : Mb.IsB u) (P N : Nat) (V U : Int) (A : Option Addr) (cap : Nat) (f : Nat → Nat) (hB : BytesAt w (.slice A N cap) (Mb.bl f 0 N)) (h1 : N ≤ 8) (h2 : 1 ≤ N) (hn : n ≤ 1000000) (h : P + N ≤ n) :
    Calls Try.prog 32 #[.slice (some ⟨q, 0, none⟩) n n, .agg #[.int .i64 6, .int .i64 P, .int .i64 N, .int .u64 V, .int .u64 U, .slice A N cap]] w
      fun e w' => e = .returned (.tuple #[.agg #[.int .u64 0, .bool false, .slice none 0 0], .int .i64 0]) ∧ PlainAt w' q n (Cy.lay u f P N) ∧ Touch (Lone q) w w' := by
  have HK := fun W => Lib.hid (refCheck_ok n 6 P N V U A N cap W (.inr ⟨rfl, rfl⟩) (by omega) (by omega) (by omega) hn (by omega))
  have HR := Lib.hid hr
  have hql := hr.lt
  have HU := Lib.hid hu
  have HBY := Lib.hid hB
  clear hr hu hB
  have HC := Lib.hid (acc_made w 6 P N V U (.slice A N cap) (.cells #[.int .u64 0, .bool false, .slice none 0 0] 49))
  have HA := Lib.hid (ans_made w (.cells #[.int .i64 6, .int .i64 P, .int .i64 N, .int .u64 V, .int .u64 U, .slice A N cap] 47))
  have HW := Lib.hid (((Below.refl w.heap.size w).alloc (Nat.le_refl _) (.cells #[.int .i64 6, .int .i64 P, .int .i64 N, .int .u64 V, .int .u64 U, .slice A N cap] 47)).alloc (by simp) (.cells #[.int .u64 0, .bool false, .slice none 0 0] 49))
  go_enter Try.func32, Try.ntmps32
  go_upto_region 1 with (fail)
  generalize (w.alloc (.cells #[.int .i64 6, .int .i64 P, .int .i64 N, .int .u64 V, .int .u64 U, .slice A N cap] 47)).alloc (.cells #[.int .u64 0, .bool false, .slice none 0 0] 49) = W at HC HA HW ⊢
  obtain ⟨c0, c1, c2, c3, c4, c5⟩ := HC.out
  go_upto_region 2 with (go_at_call 57; refine (HK _).out.mono ?_; rintro e w1 ⟨rfl, hb1⟩)
  have HA1 := Lib.hid (HA.out.later hb1)
  have HW1 := Lib.hid (HW.out.trans (hb1.mono HW.out.size))
  have hw1 : w.heap.size + 1 < w1.heap.size := Nat.lt_of_lt_of_le (lt_of_cell HA.out.a0) hb1.size
  obtain ⟨c0, c1, c2, c3, c4, c5⟩ := HC.out.below hb1
  have hr1 : PlainAt w1 q n u := HR.out.of_block (HW1.out.block q HR.out.lt)
  have HP := Lib.hid (hr1.part P N (n - P) h)
  have hpq : (P : Int) + N ≤ n := by omega
  have hpq2 : (P : Int) ≤ P + N := by omega
  have h8 : Hid (Wd.Bytes8 (Mb.bl u P N)) := Lib.hid (fun x hx => by have := Bys.bl HU.out P N x hx; omega)
  have HR1 := Lib.hid hr1
  have HB1 := Lib.hid (HBY.out.below HW1.out)
  clear hb1 hr1
  go_upto_region 5 with (fail)
  obtain ⟨w3, hrun3, hr3, ht3⟩ := run_copy_bytes (dLen := N) (dCap := n - P) (off := P) HR1.out A N cap HB1.out h (Nat.le_refl _) 3
  have ht4 := Lib.hid ht3
  have hr4 := Lib.hid hr3
  obtain ⟨a0, a1, a2, f0, f1, f2, _⟩ := AnsAt.of_blk ((ht3.block _ hw1 fun e => by have e : w.heap.size + 1 = q := e; omega).trans HA1.out.blk)
  clear ht3 hr3
  go_wp2_with (go_at_call 58; refine (refNumber_any _ (Mb.bl u P N) _ h8.out HP.out).mono ?_; rintro e w2 ⟨rfl, rfl⟩)
  refine bodyPost_ret (v := .tuple #[.agg #[.int .u64 0, .bool false, .slice none 0 0], .int .i64 0]) (by simp [results, Try.results32, go_sem, a0, a1, a2]) rfl ?_
  have hq3 : q ≠ w.heap.size + 1 := by omega
  refine ⟨rfl, hr4.out.of_block ((Below.heap_setCell _ _ _ _ hq3).trans ((Below.heap_setCell _ _ _ _ hq3).trans (Below.heap_setCell _ _ _ _ hq3))), ?_⟩
  have ht5 : Touch (Lone q) w w3 := (Touch.of_below HW1.out).trans ht4.out
  exact ((ht5.setNew (p := ⟨w.heap.size + 1, 0, none⟩) (Nat.le_succ _) _).setNew (p := ⟨w.heap.size + 1, 1, none⟩) (Nat.le_succ _) _).setNew (p := ⟨w.heap.size + 1, 2, none⟩) (Nat.le_succ _) _
end Go.Proofs.Ytegjnejekakeiaa
namespace Go.Proofs.Ytegjnejekakeiaa
open Go.ChangeShapes Go.WideShapes Go.ChangeAt Go.RowKit

theorem own : ownKnob Try.prog.godebug = none := by kernel_rfl
theorem laidOut : laidOutB Try.prog = true := by kernel_rfl

/-- What an int64 argument's width says. -/
theorem i64_wide {n : Int} (h : (Lit.int .i64 n).wf = true) : -9223372036854775808 ≤ n ∧ n ≤ 9223372036854775807 := by
  simp only [Lit.wf, Bool.and_eq_true, decide_eq_true_eq] at h
  have e1 : IntKind.i64.min = -9223372036854775808 := by decide
  have e2 : IntKind.i64.max = 9223372036854775807 := by decide
  rw [e1, e2] at h
  exact h
theorem u64_wide {n : Int} (h : (Lit.int .u64 n).wf = true) : 0 ≤ n ∧ n ≤ 18446744073709551615 := by
  simp only [Lit.wf, Bool.and_eq_true, decide_eq_true_eq] at h
  have e1 : IntKind.u64.min = 0 := by decide
  have e2 : IntKind.u64.max = 18446744073709551615 := by decide
  rw [e1, e2] at h
  exact h

theorem noStandIn {P : Program} {ts : Array TypeId} {t : TypeId} (h : (ts.toList.all fun u => !P.wantsStandIn u) = true) (ht : t ∈ ts) : P.wantsStandIn t = false := by
  simpa using List.all_eq_true.1 h t (by simpa using ht)

section
variable {H : Type} {enc : TypeId × Value → H} {P : Program}

/-- Arguments that lie below the heap's old size read on as they read. -/
theorem trodAll_below (hl : laidOutB P = true) {W W' : World} (hb : Below W.heap.size W W') :
    ∀ {ts : List TypeId} {vs : List Value} {ds : List (DataW H)} {ps : List MemPlace}, (∀ t ∈ ts, P.readableRec t = true ∧ t < P.types.size) → (∀ x ∈ ps, x.block < W.heap.size) →
      DataW.TrodAll enc P W 0 (fun _ => true) true ts vs ds ps → DataW.TrodAll enc P W' 0 (fun b => decide (b < W.heap.size)) true ts vs ds ps
  | [], [], [], _, _, _, h => h
  | t :: ts, v :: vs, d :: ds, ps, ht, hp, h => by
    obtain ⟨p, q, h1, h2, rfl⟩ := h
    have hh := ht t (List.mem_cons_self ..)
    exact ⟨p, q, Below.trod hl hh.1 hh.2 h1 hb fun x hx => hp x (List.mem_append_left _ hx),
      trodAll_below hl hb (fun u hu => ht u (List.mem_cons_of_mem _ hu)) (fun x hx => hp x (List.mem_append_right _ hx)) h2, rfl⟩
  | [], [], _ :: _, _, _, _, h => h.elim
  | [], _ :: _, _, _, _, _, h => h.elim
  | _ :: _, [], _, _, _, _, h => h.elim
  | _ :: _, _ :: _, [], _, _, _, h => h.elim

theorem law_post {f : Func} {s : ChangeSpec} {tb : TypeId} (hl : laidOutB P = true) (hps : (f.params.toList.all fun t => P.readableRec t && decide (t < P.types.size)) = true)
    (hrt : f.resultTypes = #[tb]) (htb : P.underlying tb = some .bool) (hv : s.vars = []) {W W' : World} {args : Array Value} {ds : List (DataW H)} {before : List MemPlace}
    (hW : DataW.Whole enc P f.params.toList s.vars false W args.toList ds [] before)
    (hfn : s.fn H (ds ++ []) = { results := [.lit (.bool true)], args := ds }) (hb : Below W.heap.size W W') :
    s.post enc P f false true false false W args (.bool true) W' := by
  have hlt : ∀ p ∈ before, p.block < W.heap.size := fun p hp => hW.lt p hp
  have hW2 := hW
  obtain ⟨p, q, hA, hV, rfl, _, _⟩ := hW
  rw [hv] at hV
  have hq : q = [] := hV
  subst hq
  refine ⟨ds, [], p ++ [], [], p, [], hW2, ?_, ?_, ?_, World.keptBut_mono (fun x hx => ⟨hx, .inr (.inl (by simpa using hx))⟩) (hb.frame (· ∈ p ++ [])), fun h => by cases h⟩
  · rw [hfn, hrt]
    exact trodAll_mk1 (shut_bool htb true)
  · rw [hfn]
    refine trodAll_below hl hb (fun t ht => ?_) (fun x hx => hlt x (by simpa using hx)) hA
    have := List.all_eq_true.1 hps t ht
    simpa using this
  · rw [hfn, hv]
    rfl
end
end Go.Proofs.Ytegjnejekakeiaa
namespace Go.Proofs.Ytegjnejekakeiaa
open Go.ChangeShapes Go.WideShapes Go.ChangeAt Go.RowKit Go.Deep

theorem cellsU8 : Try.prog.cellsOf 5 = 1 := by kernel_rfl
theorem accessOne : Try.prog.cellsOf 47 = 6 := by kernel_rfl

/-- The bytes of a list, as numbers that stand everywhere. -/
def nums (zs : List Int) (i : Nat) : Nat := (zs.getD i 0).toNat % 256

theorem nums_isB (zs : List Int) : Mb.IsB (nums zs) := fun _ => Nat.mod_lt _ (by decide)

theorem bytes_cell {H : Type} {enc : TypeId × Value → H} {W : World} {fuel : Nat} {cs : List Value} {x : DataW H × List MemPlace}
    (h : DataW.trod enc Try.prog W 0 (fun _ => true) true fuel 26 cs = some x) :
    ∃ A L cap f, cs = [.slice A L cap] ∧ Mb.IsB f ∧ BytesAt W (.slice A L cap) (Mb.bl f 0 L) ∧ L ≤ cap ∧ cap ≤ 9223372036854775807 := by
  rcases open_ints Try.underlying26 Try.underlying5 cellsU8 h with ⟨hcs, _⟩ | ⟨a, len, cap, zs, hcs, _, hl, hm, hz, _, hcell, hwz⟩
  · exact ⟨none, 0, 0, fun _ => 0, hcs, Mb.zero_isB, bytesAt_none _ _ _ _, Nat.le_refl _, by decide⟩
  · simp only [if_true] at hz
    refine ⟨some a, len, cap, nums zs, hcs, nums_isB zs, ⟨some a, cap, by rw [Mb.bl_length], fun hp => ?_⟩, hl, by unfold maxLen at hm; omega⟩
    rw [Mb.bl_length] at hp ⊢
    obtain ⟨b, off, spot⟩ := a
    have hspot : spot = none := by simpa [Addr.add] using World.cell?_spot (hcell 0 (by omega))
    subst hspot
    have hc : ∀ i, i < len → W.cell? ⟨b, off + i, none⟩ = some (.int .u8 ((Mb.bl (nums zs) 0 len).getD i 0)) := by
      intro i hi
      have e : (⟨b, off, none⟩ : Addr).add i = ⟨b, off + i, none⟩ := by unfold Addr.add; split <;> simp_all
      have h1 := hcell i (by omega)
      rw [e] at h1
      rw [h1, Mb.bl_getD _ _ _ _ hi]
      have hmem : zs.getD i 0 ∈ zs := by
        rw [List.getD_eq_getElem?_getD, List.getElem?_eq_getElem (by omega)]
        exact List.getElem_mem _
      have hb := bounds_u8 (hwz _ hmem)
      unfold nums
      rw [Nat.zero_add]
      congr 2
      omega
    refine ⟨b, off, rfl, ?_, hc⟩
    rcases Nat.lt_or_ge b W.heap.size with hlt | hge
    · exact hlt
    · have := hc 0 hp
      simp [World.cell?, Array.getElem?_eq_none hge] at this

set_option maxRecDepth 100000 in
theorem open_bl {H : Type} {enc : TypeId × Value → H} {W : World} {base : Nat} {v : Value} {d : DataW H} {ps : List MemPlace}
    (hv : Value.okWide Try.prog W .any base 26 v) (h : DataW.Trod enc Try.prog W 0 (fun _ => true) true 26 v d ps) :
    ∃ A L cap f, v = .slice A L cap ∧ Mb.IsB f ∧ BytesAt W (.slice A L cap) (Mb.bl f 0 L) ∧ L ≤ cap ∧ cap ≤ 9223372036854775807 := by
  obtain ⟨a0, len, cap, rfl⟩ := okWide_slice Try.underlying26 hv
  obtain ⟨fuel, hf⟩ := h
  obtain ⟨A, L, cp, f, hcs, hr⟩ := bytes_cell hf
  simp [Value.cells] at hcs
  obtain ⟨rfl, rfl, rfl⟩ := hcs
  exact ⟨_, _, _, f, rfl, hr⟩

set_option maxRecDepth 100000 in
theorem open_access {H : Type} {enc : TypeId × Value → H} {W : World} {base : Nat} {v : Value} {d : DataW H} {ps : List MemPlace}
    (hv : Value.okWide Try.prog W .any base 47 v) (h : DataW.Trod enc Try.prog W 0 (fun _ => true) true 47 v d ps) :
    ∃ (K P N : Int) (V U : Nat) (A : Option Addr) (L cap : Nat) (f : Nat → Nat), v = .agg #[.int .i64 K, .int .i64 P, .int .i64 N, .int .u64 V, .int .u64 U, .slice A L cap] ∧
      (-9223372036854775808 ≤ K ∧ K ≤ 9223372036854775807) ∧ (-9223372036854775808 ≤ P ∧ P ≤ 9223372036854775807) ∧ (-9223372036854775808 ≤ N ∧ N ≤ 9223372036854775807) ∧
      V < 18446744073709551616 ∧ U < 18446744073709551616 ∧ Mb.IsB f ∧ BytesAt W (.slice A L cap) (Mb.bl f 0 L) ∧ L ≤ cap ∧ cap ≤ 9223372036854775807 := by
  obtain ⟨cs, rfl, hsz⟩ := okWide_struct Try.underlying47 hv
  obtain ⟨l⟩ := cs
  rw [accessOne] at hsz
  match l, hsz with
  | [v0, v1, v2, v3, v4, v5], _ =>
    obtain ⟨fuel, hf⟩ := h
    obtain ⟨xs, n, _, _, _, hlen, hg⟩ := DataW.trod_struct Try.underlying47 hf
    have g0 := hg 0 _ rfl
    have g1 := hg 1 _ rfl
    have g2 := hg 2 _ rfl
    have g3 := hg 3 _ rfl
    have g4 := hg 4 _ rfl
    have g5 := hg 5 _ rfl
    have cInt : Try.prog.cellsOf 3 = 1 := by kernel_rfl
    have cU : Try.prog.cellsOf 45 = 1 := by kernel_rfl
    have cB : Try.prog.cellsOf 26 = 1 := by kernel_rfl
    match xs, hlen with
    | [y0, y1, y2, y3, y4, y5], _ =>
      simp [Value.cells, cInt, cU, cB] at g0 g1 g2 g3 g4 g5
      obtain ⟨K, e0, _, w0⟩ := DataW.trod_int Try.underlying3 g0
      obtain ⟨P, e1, _, w1⟩ := DataW.trod_int Try.underlying3 g1
      obtain ⟨N, e2, _, w2⟩ := DataW.trod_int Try.underlying3 g2
      obtain ⟨V, e3, _, w3⟩ := DataW.trod_int Try.underlying45 g3
      obtain ⟨U, e4, _, w4⟩ := DataW.trod_int Try.underlying45 g4
      obtain ⟨A, L, cap, f, e5, hr⟩ := bytes_cell g5
      simp only [List.cons.injEq, and_true] at e0 e1 e2 e3 e4 e5
      subst e0 e1 e2 e3 e4 e5
      have b3 := u64_wide w3
      have b4 := u64_wide w4
      obtain ⟨V, rfl⟩ := Int.eq_ofNat_of_zero_le b3.1
      obtain ⟨U, rfl⟩ := Int.eq_ofNat_of_zero_le b4.1
      exact ⟨K, P, N, V, U, A, L, cap, f, rfl, i64_wide w0, i64_wide w1, i64_wide w2, by omega, by omega, hr⟩
end Go.Proofs.Ytegjnejekakeiaa
namespace Go.Proofs.Ytegjnejekakeiaa
open Go.ChangeShapes Go.WideShapes Go.ChangeAt Go.RowKit Go.Deep

/-- An answer: its number, whether it stored, where its bytes stand, and which they are. -/
structure Ans where
  V : Nat
  D : Bool
  A : Option Addr
  L : Nat
  cap : Nat
  f : Nat → Nat

namespace Ans
/-- Its slice. -/
def sl (x : Ans) : Value := .slice x.A x.L x.cap
/-- Its bytes. -/
def bs (x : Ans) : List Int := Mb.bl x.f 0 x.L
/-- It reads so in w. -/
structure Is (x : Ans) (w : World) : Prop where
  num : x.V < 18446744073709551616
  isB : Mb.IsB x.f
  bytes : BytesAt w (.slice x.A x.L x.cap) (Mb.bl x.f 0 x.L)
  room : x.L ≤ x.cap
  few : x.cap ≤ 9223372036854775807
end Ans

theorem answerOne : Try.prog.cellsOf 49 = 3 := by kernel_rfl

set_option maxRecDepth 100000 in
theorem answer_cells {H : Type} {enc : TypeId × Value → H} {W : World} {fuel : Nat} {cs : List Value} {x : DataW H × List MemPlace} (hsz : cs.length = 3)
    (h : DataW.trod enc Try.prog W 0 (fun _ => true) true fuel 49 cs = some x) :
    ∃ y : Ans, cs = [.int .u64 y.V, .bool y.D, y.sl] ∧ y.Is W := by
  match cs, hsz with
  | [v0, v1, v2], _ =>
    obtain ⟨xs, n, _, _, _, hlen, hg⟩ := DataW.trod_struct Try.underlying49 h
    have g0 := hg 0 _ rfl
    have g1 := hg 1 _ rfl
    have g2 := hg 2 _ rfl
    have cU : Try.prog.cellsOf 45 = 1 := by kernel_rfl
    have cD : Try.prog.cellsOf 4 = 1 := by kernel_rfl
    have cB : Try.prog.cellsOf 26 = 1 := by kernel_rfl
    match xs, hlen with
    | [y0, y1, y2], _ =>
      simp [cU, cD, cB] at g0 g1 g2
      obtain ⟨V, e0, _, w0⟩ := DataW.trod_int Try.underlying45 g0
      obtain ⟨D, e1, _⟩ := DataW.trod_bool Try.underlying4 g1
      obtain ⟨A, L, cap, f, e2, h1, h2, h3, h4⟩ := bytes_cell g2
      simp only [List.cons.injEq, and_true] at e0 e1 e2
      subst e0 e1 e2
      have b0 := u64_wide w0
      obtain ⟨V, rfl⟩ := Int.eq_ofNat_of_zero_le b0.1
      exact ⟨⟨V, D, A, L, cap, f⟩, rfl, by show V < 18446744073709551616; omega, h1, h2, h3, h4⟩

set_option maxRecDepth 100000 in
theorem open_answer {H : Type} {enc : TypeId × Value → H} {W : World} {base : Nat} {v : Value} {d : DataW H} {ps : List MemPlace}
    (hv : Value.okWide Try.prog W .any base 49 v) (h : DataW.Trod enc Try.prog W 0 (fun _ => true) true 49 v d ps) :
    ∃ y : Ans, v = .agg #[.int .u64 y.V, .bool y.D, .slice y.A y.L y.cap] ∧ y.Is W := by
  obtain ⟨cs, rfl, hsz⟩ := okWide_struct Try.underlying49 hv
  obtain ⟨l⟩ := cs
  rw [answerOne] at hsz
  obtain ⟨fuel, hf⟩ := h
  obtain ⟨y, hy, hi⟩ := answer_cells (by simpa [Value.cells] using hsz) hf
  refine ⟨y, ?_, hi⟩
  simp [Value.cells] at hy
  rw [hy]
  rfl

/-- A slice of n answers that reads as T. -/
def ToldAt (W : World) (A : Option Addr) (n : Nat) (T : Nat → Ans) : Prop :=
  0 < n → ∃ b off, A = some ⟨b, off, none⟩ ∧ b < W.heap.size ∧ ∀ i, i < n → W.cell? ⟨b, off + i * 3, none⟩ = some (.int .u64 (T i).V) ∧ W.cell? ⟨b, off + i * 3 + 1, none⟩ = some (.bool (T i).D) ∧ W.cell? ⟨b, off + i * 3 + 2, none⟩ = some (.slice (T i).A (T i).L (T i).cap) ∧ (T i).Is W

set_option maxRecDepth 100000 in
theorem open_answers {H : Type} {enc : TypeId × Value → H} {W : World} {base : Nat} {v : Value} {d : DataW H} {ps : List MemPlace}
    (hv : Value.okWide Try.prog W .any base 59 v) (h : DataW.Trod enc Try.prog W 0 (fun _ => true) true 59 v d ps) :
    ∃ (A : Option Addr) (L cap : Nat) (T : Nat → Ans), v = .slice A L cap ∧ ToldAt W A L T ∧ L ≤ cap ∧ cap ≤ 9223372036854775807 := by
  obtain ⟨a0, len0, cap0, rfl⟩ := okWide_slice Try.underlying59 hv
  obtain ⟨fuel, hf⟩ := h
  rcases open_slice Try.underlying59 hf with ⟨hcs, _⟩ | ⟨a, len, cap, m, n, D, Pl, hcs, hb, hl, hm, hmm, _, hi⟩
  · simp [Value.cells] at hcs
    obtain ⟨rfl, rfl, rfl⟩ := hcs
    exact ⟨none, 0, 0, fun _ => ⟨0, false, none, 0, 0, fun _ => 0⟩, rfl, fun h => absurd h (Nat.lt_irrefl 0), Nat.le_refl _, by decide⟩
  · simp [Value.cells] at hcs
    obtain ⟨rfl, rfl, rfl⟩ := hcs
    simp only [if_true] at hmm
    rw [answerOne] at hi
    have hx : ∀ i, i < m → ∃ y : Ans, (∀ j : Nat, j < 3 → W.cell? ((a.add (i * 3)).add j) = ([.int .u64 y.V, .bool y.D, y.sl] : List Value)[j]?) ∧ y.Is W := by
      intro i him
      obtain ⟨cs', hc, ht'⟩ := hi i him
      obtain ⟨_, hcl, hat⟩ := World.cells?_some hc
      obtain ⟨y, hy, his⟩ := answer_cells hcl ht'
      subst hy
      exact ⟨y, hat, his⟩
    have hT : ∃ T : Nat → Ans, ∀ i, i < m → (∀ j : Nat, j < 3 → W.cell? ((a.add (i * 3)).add j) = ([.int .u64 (T i).V, .bool (T i).D, (T i).sl] : List Value)[j]?) ∧ (T i).Is W := by
      refine ⟨fun i => if h : i < m then Classical.choose (hx i h) else ⟨0, false, none, 0, 0, fun _ => 0⟩, fun i him => ?_⟩
      simp only [dif_pos him]
      exact Classical.choose_spec (hx i him)
    obtain ⟨T, hT⟩ := hT
    refine ⟨some a, _, _, T, rfl, fun hp => ?_, hl, by unfold maxLen at hm; omega⟩
    obtain ⟨b, off, spot⟩ := a
    have h00 := (hT 0 (by omega)).1 0 (by decide)
    have hspot : spot = none := by simpa [Addr.add] using World.cell?_spot h00
    subst hspot
    refine ⟨b, off, rfl, ?_, fun i him => ?_⟩
    · rcases Nat.lt_or_ge b W.heap.size with hlt | hge
      · exact hlt
      · simp [World.cell?, Addr.add, Array.getElem?_eq_none hge] at h00
    · obtain ⟨hc, his⟩ := hT i (by omega)
      have e : ∀ j, ((⟨b, off, none⟩ : Addr).add (i * 3)).add j = ⟨b, off + i * 3 + j, none⟩ := fun j => by
        unfold Addr.add
        split <;> split <;> simp_all
      have c0 := hc 0 (by decide)
      have c1 := hc 1 (by decide)
      have c2 := hc 2 (by decide)
      rw [e] at c0 c1 c2
      exact ⟨c0, c1, c2, his⟩

theorem Ans.Is.below {x : Ans} {w w' : World} (h : x.Is w) (hb : Below w.heap.size w w') : x.Is w' := ⟨h.num, h.isB, h.bytes.below hb, h.room, h.few⟩

theorem ToldAt.below {W W' : World} {A : Option Addr} {n : Nat} {T : Nat → Ans} (h : ToldAt W A n T) (hb : Below W.heap.size W W') : ToldAt W' A n T := by
  intro hp
  obtain ⟨b, off, e, hlt, hc⟩ := h hp
  refine ⟨b, off, e, Nat.lt_of_lt_of_le hlt hb.size, fun i hi => ?_⟩
  obtain ⟨c0, c1, c2, his⟩ := hc i hi
  have k := fun j => hb.cell (p := ⟨b, j, none⟩) hlt
  exact ⟨(k _).trans c0, (k _).trans c1, (k _).trans c2, his.below hb⟩
end Go.Proofs.Ytegjnejekakeiaa
namespace Go.Proofs.Ytegjnejekakeiaa
open Go.RowKit

/-- A tape stands at block p: n answers, j of them taken; what it wants. -/
structure Tp (w : World) (p : Nat) (A : Option Addr) (cap n j : Nat) (K P N V U : Int) (s : Value) (e : Bool) : Prop where
  blk : w.heap[p]? = some (.cells #[.slice A n cap, .int .i64 j, .int .i64 K, .int .i64 P, .int .i64 N, .int .u64 V, .int .u64 U, s, .bool e] 102 (0, 0))

namespace Tp
variable {w w' : World} {p cap n j : Nat} {A : Option Addr} {K P N V U : Int} {s : Value} {e : Bool}
theorem lt (h : Tp w p A cap n j K P N V U s e) : p < w.heap.size := (Array.getElem?_eq_some_iff.1 h.blk).1
theorem of_block (h : Tp w p A cap n j K P N V U s e) (hb : w'.heap[p]? = w.heap[p]?) : Tp w' p A cap n j K P N V U s e := ⟨hb.trans h.blk⟩
theorem below (h : Tp w p A cap n j K P N V U s e) (hb : Below w.heap.size w w') : Tp w' p A cap n j K P N V U s e := h.of_block (hb.block p h.lt)
theorem c0 (h : Tp w p A cap n j K P N V U s e) : w.cell? ⟨p, 0, none⟩ = some (.slice A n cap) := by simp [World.cell?, h.blk]
theorem c1 (h : Tp w p A cap n j K P N V U s e) : w.cell? ⟨p, 1, none⟩ = some (.int .i64 j) := by simp [World.cell?, h.blk]
theorem c2 (h : Tp w p A cap n j K P N V U s e) : w.cell? ⟨p, 2, none⟩ = some (.int .i64 K) := by simp [World.cell?, h.blk]
theorem c3 (h : Tp w p A cap n j K P N V U s e) : w.cell? ⟨p, 3, none⟩ = some (.int .i64 P) := by simp [World.cell?, h.blk]
theorem c4 (h : Tp w p A cap n j K P N V U s e) : w.cell? ⟨p, 4, none⟩ = some (.int .i64 N) := by simp [World.cell?, h.blk]
theorem c5 (h : Tp w p A cap n j K P N V U s e) : w.cell? ⟨p, 5, none⟩ = some (.int .u64 V) := by simp [World.cell?, h.blk]
theorem c6 (h : Tp w p A cap n j K P N V U s e) : w.cell? ⟨p, 6, none⟩ = some (.int .u64 U) := by simp [World.cell?, h.blk]
theorem c7 (h : Tp w p A cap n j K P N V U s e) : w.cell? ⟨p, 7, none⟩ = some s := by simp [World.cell?, h.blk]
theorem c8 (h : Tp w p A cap n j K P N V U s e) : w.cell? ⟨p, 8, none⟩ = some (.bool e) := by simp [World.cell?, h.blk]
theorem free (h : Tp w p A cap n j K P N V U s e) (i : Nat) : w.frozen? ⟨p, i, none⟩ = false := by simp [World.frozen?, h.blk]
end Tp

/-- The one block p. -/
def One (p k : Nat) : Prop := k = p

/-- A tape that knows no more: it wants the access. -/
def Wants (p : Nat) (A : Option Addr) (cap n j : Nat) (K P N V U : Int) (s : Value) (w : World) (e : Ending) (w' : World) : Prop :=
  e = .returned (.tuple #[.agg #[.int .u64 0, .bool false, .slice none 0 0], .bool false]) ∧ Tp w' p A cap n j K P N V U s true ∧ Touch (One p) w w'

/-- A tape that tells the next answer. -/
def Tells (x : Ans) (p : Nat) (A : Option Addr) (cap n j : Nat) (K P N V U : Int) (s : Value) (w : World) (e : Ending) (w' : World) : Prop :=
  e = .returned (.tuple #[.agg #[.int .u64 x.V, .bool x.D, .slice x.A x.L x.cap], .bool true]) ∧ Tp w' p A cap n (j + 1) K P N V U s false ∧ Touch (One p) w w'

theorem blk_set {w : World} {g i : Nat} {cs : Array Value} {t : TypeId} (h : w.heap[g]? = some (.cells cs t (0, 0))) (u : Value) : (w.setCell ⟨g, i, none⟩ u).heap[g]? = some (.cells (cs.setIfInBounds i u) t (0, 0)) := by
  simp [World.setCell, Array.getElem?_modify, h]

theorem blk_far {w : World} {g g' i : Nat} {o : Obj} (h : w.heap[g]? = some o) (hn : g ≠ g') (u : Value) : (w.setCell ⟨g', i, none⟩ u).heap[g]? = some o := (Below.heap_setCell w ⟨g', i, none⟩ u g hn).trans h

set_option maxRecDepth 100000 in
set_option maxHeartbeats 1000000 in
theorem tapeDo_wants {w : World} {p cap n : Nat} {A B : Option Addr} {K0 P0 N0 V0 U0 : Int} {A0 : Option Addr} {L0 c0 : Nat} (h : Tp w p A cap n n K0 P0 N0 V0 U0 (.slice A0 L0 c0) false) (K P N V U : Int) (L c : Nat) :
    Calls Try.prog 65 #[.pointer (some ⟨p, 0, none⟩), .agg #[.int .i64 K, .int .i64 P, .int .i64 N, .int .u64 V, .int .u64 U, .slice B L c]] w (Wants p A cap n n K P N V U (.slice B L c) w) := by
  have hlt := h.lt
  have HW := ((Below.refl w.heap.size w).alloc (Nat.le_refl _) (.cells #[.int .i64 K, .int .i64 P, .int .i64 N, .int .u64 V, .int .u64 U, .slice B L c] 47)).alloc (by simp) (.cells #[.int .u64 0, .bool false, .slice none 0 0] 49)
  have hX := (Below.heap_alloc _ (.cells #[.int .u64 0, .bool false, .slice none 0 0] 49) w.heap.size (by simp)).trans (Go.Deep.blk_alloc_new w (.cells #[.int .i64 K, .int .i64 P, .int .i64 N, .int .u64 V, .int .u64 U, .slice B L c] 47))
  have hR := Go.Deep.blk_alloc_new (w.alloc (.cells #[.int .i64 K, .int .i64 P, .int .i64 N, .int .u64 V, .int .u64 U, .slice B L c] 47)) (.cells #[.int .u64 0, .bool false, .slice none 0 0] 49)
  have e1 : (w.alloc (.cells #[.int .i64 K, .int .i64 P, .int .i64 N, .int .u64 V, .int .u64 U, .slice B L c] 47)).heap.size = w.heap.size + 1 := by simp
  rw [e1] at hR
  have HT := h.below HW
  have hc8 := h.c8
  clear h e1
  go_enter Try.func65, Try.ntmps65
  go_wp2_with fail
  clear hc8
  generalize (w.alloc (.cells #[.int .i64 K, .int .i64 P, .int .i64 N, .int .u64 V, .int .u64 U, .slice B L c] 47)).alloc (.cells #[.int .u64 0, .bool false, .slice none 0 0] 49) = W at HW hX hR HT ⊢
  have t0 := HT.c0
  have t1 := HT.c1
  have t2 := HT.c2
  have t3 := HT.c3
  have t4 := HT.c4
  have t5 := HT.c5
  have t6 := HT.c6
  have t7 := HT.c7
  have t8 := HT.c8
  have z2 := HT.free 2
  have z3 := HT.free 3
  have z4 := HT.free 4
  have z5 := HT.free 5
  have z6 := HT.free 6
  have z7 := HT.free 7
  have z8 := HT.free 8
  have x0 : W.cell? ⟨w.heap.size, 0, none⟩ = some (.int .i64 K) := by simp [World.cell?, hX]
  have x1 : W.cell? ⟨w.heap.size, 1, none⟩ = some (.int .i64 P) := by simp [World.cell?, hX]
  have x2 : W.cell? ⟨w.heap.size, 2, none⟩ = some (.int .i64 N) := by simp [World.cell?, hX]
  have x3 : W.cell? ⟨w.heap.size, 3, none⟩ = some (.int .u64 V) := by simp [World.cell?, hX]
  have x4 : W.cell? ⟨w.heap.size, 4, none⟩ = some (.int .u64 U) := by simp [World.cell?, hX]
  have x5 : W.cell? ⟨w.heap.size, 5, none⟩ = some (.slice B L c) := by simp [World.cell?, hX]
  obtain ⟨a0, a1, a2, f0, f1, f2, _⟩ := AnsAt.of_blk hR
  have hne : p ≠ w.heap.size := by omega
  have hne1 : p ≠ w.heap.size + 1 := by omega
  have HH := Lib.hid (And.intro HT hR)
  clear HT hX hR
  go_quiet (fail)
  go_wp2
  refine bodyPost_ret (v := .tuple #[.agg #[.int .u64 0, .bool false, .slice none 0 0], .bool false]) (by simp [results, Try.results65, go_sem, a0, a1, a2]) rfl ?_
  refine ⟨rfl, ⟨?_⟩, ?_⟩
  · have h0 : (W.drewN nq).heap[p]? = some (.cells #[.slice A n cap, .int .i64 n, .int .i64 K0, .int .i64 P0, .int .i64 N0, .int .u64 V0, .int .u64 U0, .slice A0 L0 c0, .bool false] 102 (0, 0)) := HH.out.1.blk
    exact blk_far (blk_far (blk_far (blk_set (blk_set (blk_set (blk_set (blk_set (blk_set (blk_set h0 _) _) _) _) _) _) _) hne1 _) hne1 _) hne1 _
  · have h0 : Touch (One p) w (W.drewN nq) := (Touch.of_below HW).drewN nq
    have h1 := ((((((h0.setCell (p := ⟨p, 2, none⟩) rfl (.int .i64 K)).setCell (p := ⟨p, 3, none⟩) rfl (.int .i64 P)).setCell (p := ⟨p, 4, none⟩) rfl (.int .i64 N)).setCell (p := ⟨p, 5, none⟩) rfl (.int .u64 V)).setCell (p := ⟨p, 6, none⟩) rfl (.int .u64 U)).setCell (p := ⟨p, 7, none⟩) rfl (.slice B L c)).setCell (p := ⟨p, 8, none⟩) rfl (.bool true)
    exact ((h1.setNew (p := ⟨w.heap.size + 1, 0, none⟩) (Nat.le_succ _) _).setNew (p := ⟨w.heap.size + 1, 1, none⟩) (Nat.le_succ _) _).setNew (p := ⟨w.heap.size + 1, 2, none⟩) (Nat.le_succ _) _

set_option maxRecDepth 100000 in
set_option maxHeartbeats 1000000 in
theorem tapeDo_tells {w : World} {p cap n j : Nat} {A B : Option Addr} {K0 P0 N0 V0 U0 : Int} {A0 : Option Addr} {L0 c0 : Nat} (h : Tp w p A cap n j K0 P0 N0 V0 U0 (.slice A0 L0 c0) false) (hj : j < n) (hn : n ≤ cap) (hcap : cap ≤ 9223372036854775807)
    {T : Nat → Ans} (hT : ToldAt w A n T) (hA : 0 < n → ∀ a, A = some a → a.block ≠ p) (K P N V U : Int) (L c : Nat) :
    Calls Try.prog 65 #[.pointer (some ⟨p, 0, none⟩), .agg #[.int .i64 K, .int .i64 P, .int .i64 N, .int .u64 V, .int .u64 U, .slice B L c]] w (Tells (T j) p A cap n j K0 P0 N0 V0 U0 (.slice A0 L0 c0) w) := by
  have hlt := h.lt
  have HW := ((Below.refl w.heap.size w).alloc (Nat.le_refl _) (.cells #[.int .i64 K, .int .i64 P, .int .i64 N, .int .u64 V, .int .u64 U, .slice B L c] 47)).alloc (by simp) (.cells #[.int .u64 0, .bool false, .slice none 0 0] 49)
  have hR := Go.Deep.blk_alloc_new (w.alloc (.cells #[.int .i64 K, .int .i64 P, .int .i64 N, .int .u64 V, .int .u64 U, .slice B L c] 47)) (.cells #[.int .u64 0, .bool false, .slice none 0 0] 49)
  have e1 : (w.alloc (.cells #[.int .i64 K, .int .i64 P, .int .i64 N, .int .u64 V, .int .u64 U, .slice B L c] 47)).heap.size = w.heap.size + 1 := by simp
  rw [e1] at hR
  obtain ⟨tb, tz, rfl, htl, htc⟩ := hT (by omega)
  have htp : tb ≠ p := hA (by omega) _ rfl
  obtain ⟨y0, y1, y2, _⟩ := htc j hj
  have v0 := (HW.cell (p := ⟨tb, tz + j * 3, none⟩) htl).trans y0
  have v1 := (HW.cell (p := ⟨tb, tz + j * 3 + 1, none⟩) htl).trans y1
  have v2 := (HW.cell (p := ⟨tb, tz + j * 3 + 2, none⟩) htl).trans y2
  have htn : tb ≠ w.heap.size := by omega
  have htn1 : tb ≠ w.heap.size + 1 := by omega
  have HT := h.below HW
  have hc8 := h.c8
  generalize T j = x at v0 v1 v2 ⊢
  clear h e1 hT hA htc y0 y1 y2
  go_enter Try.func65, Try.ntmps65
  go_wp2_with fail
  clear hc8
  generalize (w.alloc (.cells #[.int .i64 K, .int .i64 P, .int .i64 N, .int .u64 V, .int .u64 U, .slice B L c] 47)).alloc (.cells #[.int .u64 0, .bool false, .slice none 0 0] 49) = W at HW hR HT v0 v1 v2 ⊢
  have t0 := HT.c0
  have t1 := HT.c1
  have z1 := HT.free 1
  obtain ⟨a0, a1, a2, f0, f1, f2, _⟩ := AnsAt.of_blk hR
  have hne : p ≠ w.heap.size := by omega
  have hne1 : p ≠ w.heap.size + 1 := by omega
  have HH := Lib.hid (And.intro HT hR)
  have hj1 : ¬ ((n : Int) ≤ (j : Int)) := by omega
  have hj2 : decide ((n : Int) ≤ (j : Int)) = false := by simpa using hj1
  have hj3 : decide (n ≤ j) = false := by simpa using hj
  clear HT hR
  go_quiet (fail)
  go_wp2_with fail
  have HT2 : Tp ((W.drewN nq).setCell ⟨p, 1, none⟩ (.int .i64 ((j : Int) + 1))) p (some ⟨tb, tz, none⟩) cap n (j + 1) K0 P0 N0 V0 U0 (.slice A0 L0 c0) false := by
    have h0 : (W.drewN nq).heap[p]? = _ := HH.out.1.blk
    exact ⟨blk_set h0 _⟩
  have HR2 : AnsAt (w.heap.size + 1) ((W.drewN nq).setCell ⟨p, 1, none⟩ (.int .i64 ((j : Int) + 1))) := by
    have h0 : (W.drewN nq).heap[w.heap.size + 1]? = _ := HH.out.2
    exact .of_blk (blk_far h0 (Ne.symm hne1) _)
  have HX2 : Touch (One p) w ((W.drewN nq).setCell ⟨p, 1, none⟩ (.int .i64 ((j : Int) + 1))) := ((Touch.of_below HW).drewN nq).setCell (p := ⟨p, 1, none⟩) (show One p p from rfl) _
  have hcf : ∀ i, ((W.drewN nq).setCell ⟨p, 1, none⟩ (.int .i64 ((j : Int) + 1))).cell? ⟨tb, i, none⟩ = W.cell? ⟨tb, i, none⟩ := fun i => World.cell?_setCell_other (W.drewN nq) ⟨p, 1, none⟩ ⟨tb, i, none⟩ _ (fun e => htp (by injection e with e1; exact e1.symm))
  have u0 := (hcf _).trans v0
  have u1 := (hcf _).trans v1
  have u2 := (hcf _).trans v2
  clear v0 v1 v2 t0 t1 z1 a0 a1 a2 f0 f1 f2 hcf hj1 hj2 hj3
  generalize (W.drewN nq).setCell ⟨p, 1, none⟩ (.int .i64 ((j : Int) + 1)) = W2 at u0 u1 u2 HT2 HR2 HX2 ⊢
  have t0 := HT2.c0
  have t1 := HT2.c1
  have t1' : W2.cell? ⟨p, 1, none⟩ = some (.int .i64 ((j : Int) + 1)) := t1
  clear t1
  obtain ⟨a0, a1, a2, f0, f1, f2, _⟩ := HR2
  have HT3 := Lib.hid HT2
  clear HT2
  have hj1 : (j : Int) < n := by omega
  go_region
  all_goals go_wp2
  all_goals
    refine bodyPost_ret (v := .tuple #[.agg #[.int .u64 x.V, .bool x.D, .slice x.A x.L x.cap], .bool true]) (by simp [results, Try.results65, go_sem, a0, a1, a2]) rfl ?_
    refine ⟨rfl, ⟨blk_far (blk_far (blk_far HT3.out.blk hne1 _) hne1 _) hne1 _⟩, ?_⟩
    exact (((HX2.setNew (p := ⟨w.heap.size + 1, 0, none⟩) (Nat.le_succ _) _).setNew (p := ⟨w.heap.size + 1, 1, none⟩) (Nat.le_succ _) _).setNew (p := ⟨w.heap.size + 1, 2, none⟩) (Nat.le_succ _) _).drew
end Go.Proofs.Ytegjnejekakeiaa
namespace Go.Proofs.Ytegjnejekakeiaa
open Go.RowKit

theorem refChunks_parts (n : Int) (w : World) : Calls Try.prog 64 #[.int .i64 n] w (MadeParts (Cy.cks (Cy.few n)) w) := by
  refine (refChunks_any n w).mono ?_
  rintro e w' ⟨v, rfl, ho, hb⟩
  rw [Cy.ckOf_few] at ho
  exact ⟨v, rfl, (Parts.of_own ho), hb⟩

/-- A byte's block is no tape's. -/
theorem Tp.byte_apart {w : World} {p cap n j : Nat} {A : Option Addr} {K P N V U : Int} {s : Value} {e : Bool} (h : Tp w p A cap n j K P N V U s e) (hs : ∀ x, s ≠ .int .u8 x) {b off : Nat} {x : Int} (hc : w.cell? ⟨b, off, none⟩ = some (.int .u8 x)) : b ≠ p := by
  rintro rfl
  have hb := h.blk
  simp [World.cell?, hb] at hc
  match off, hc with
  | 7, hc => simp at hc; exact hs _ hc
  | 0, hc | 1, hc | 2, hc | 3, hc | 4, hc | 5, hc | 6, hc | 8, hc => simp at hc
  | k + 9, hc => simp at hc

theorem BytesAt.one {w w' : World} {p cap n j : Nat} {A : Option Addr} {K P N V U : Int} {s : Value} {e : Bool} (h : Tp w p A cap n j K P N V U s e) (hs : ∀ x, s ≠ .int .u8 x) (ht : Touch (One p) w w') {v : Value} {xs : List Int} (hv : BytesAt w v xs) : BytesAt w' v xs := by
  obtain ⟨A2, c2, hv, hx⟩ := hv
  refine ⟨A2, c2, hv, fun hp => ?_⟩
  obtain ⟨b, off, e, hlt, hc⟩ := hx hp
  have hne : b ≠ p := h.byte_apart hs (hc 0 hp)
  exact ⟨b, off, e, Nat.lt_of_lt_of_le hlt ht.size, fun i hi => (ht.cell (p := ⟨b, off + i, none⟩) hlt hne).trans (hc i hi)⟩

theorem ToldAt.one {w w' : World} {p cap n j : Nat} {A : Option Addr} {K P N V U : Int} {s : Value} {e : Bool} (h : Tp w p A cap n j K P N V U s e) (hs : ∀ x, s ≠ .int .u8 x) (ht : Touch (One p) w w') {B : Option Addr} {m : Nat} {T : Nat → Ans} (hT : ToldAt w B m T)
    (hB : 0 < m → ∀ a, B = some a → a.block ≠ p) : ToldAt w' B m T := by
  intro hp
  obtain ⟨b, off, rfl, hlt, hc⟩ := hT hp
  have hne : b ≠ p := hB hp _ rfl
  refine ⟨b, off, rfl, Nat.lt_of_lt_of_le hlt ht.size, fun i hi => ?_⟩
  obtain ⟨c0, c1, c2, his⟩ := hc i hi
  have k := fun o => ht.cell (p := ⟨b, o, none⟩) hlt hne
  exact ⟨(k _).trans c0, (k _).trans c1, (k _).trans c2, ⟨his.num, his.isB, BytesAt.one h hs ht his.bytes, his.room, his.few⟩⟩

theorem cut_at (f : Nat → Nat) (a d n L : Nat) (h : d + n ≤ L) : ((Mb.bl f a L).drop d).take n = Mb.bl f (a + d) n := by
  have e : L = d + (n + (L - d - n)) := by omega
  rw [e, Mb.bl_append, Mb.bl_append, List.drop_left' (Mb.bl_length _ _ _), List.take_left' (by rw [Mb.bl_length])]

theorem bytesAt_none' (w : World) (A : Option Addr) (c : Nat) (f : Nat → Nat) (a : Nat) : BytesAt w (.slice A 0 c) (Mb.bl f a 0) := ⟨A, c, rfl, fun h => by simp [Mb.bl] at h⟩

/-- What a tape that was told i answers says of n bytes of f, written at 'at': the access that is wanted next, or none. -/
def SaidIn (p : Nat) (A : Option Addr) (cap i : Nat) (at_ : Int) (f : Nat → Nat) (n : Nat) (w : World) (e : Ending) (w' : World) : Prop :=
  ∃ b, e = .returned (.bool b) ∧ Touch (One p) w w' ∧
    ((8 * i < n ∧ ∃ B L c, Tp w' p A cap i i 6 (at_ + (8 * i : Nat)) (Cy.nx (n - 8 * i) : Nat) 0 0 (.slice B L c) true ∧ BytesAt w' (.slice B L c) (Mb.bl f (8 * i) (Cy.nx (n - 8 * i)))) ∨
     (n ≤ 8 * i ∧ ∃ j, Tp w' p A cap i j 0 0 0 0 0 (.slice none 0 0) false))

/-- The same; and the access' bytes lie in a block of K. -/
def SaidInK (K : Nat → Prop) (p : Nat) (A : Option Addr) (cap i : Nat) (at_ : Int) (f : Nat → Nat) (n : Nat) (w : World) (e : Ending) (w' : World) : Prop :=
  ∃ b, e = .returned (.bool b) ∧ Touch (One p) w w' ∧
    ((8 * i < n ∧ ∃ B L c, Tp w' p A cap i i 6 (at_ + (8 * i : Nat)) (Cy.nx (n - 8 * i) : Nat) 0 0 (.slice B L c) true ∧ BytesAt w' (.slice B L c) (Mb.bl f (8 * i) (Cy.nx (n - 8 * i))) ∧ ∀ a, B = some a → K a.block) ∨
     (n ≤ 8 * i ∧ ∃ j, Tp w' p A cap i j 0 0 0 0 0 (.slice none 0 0) false))

theorem SaidInK.said {K : Nat → Prop} {p : Nat} {A : Option Addr} {cap i : Nat} {at_ : Int} {f : Nat → Nat} {n : Nat} {w : World} {e : Ending} {w' : World} (h : SaidInK K p A cap i at_ f n w e w') : SaidIn p A cap i at_ f n w e w' := by
  obtain ⟨b, h1, h2, h3⟩ := h
  refine ⟨b, h1, h2, ?_⟩
  rcases h3 with ⟨h4, B, L, c, h5, h6, _⟩ | h3
  · exact .inl ⟨h4, B, L, c, h5, h6⟩
  · exact .inr h3

set_option maxRecDepth 100000 in
set_option maxHeartbeats 2000000 in
theorem tapeIn_lies {K : Nat → Prop} {w : World} {p cap i : Nat} {A : Option Addr} (h : Tp w p A cap i 0 0 0 0 0 0 (.slice none 0 0) false) (hi : i ≤ cap) (hcap : cap ≤ 9223372036854775807) {T : Nat → Ans} (hT : ToldAt w A i T) (hA : 0 < i → ∀ a, A = some a → a.block ≠ p)
    (at_ : Int) (hat0 : -4611686018427387904 ≤ at_) (hat1 : at_ ≤ 4611686018427387904) (B : Option Addr) (n cp : Nat) (f : Nat → Nat) (hB : BytesAt w (.slice B n cp) (Mb.bl f 0 n)) (hn : n ≤ 131072) (hcp : n ≤ cp) (hcp2 : cp ≤ 9223372036854775807) (hBK : 0 < n → ∀ a, B = some a → K a.block) :
    Calls Try.prog 39 #[.pointer (some ⟨p, 0, none⟩), .int .i64 at_, .slice B n cp] w (SaidInK K p A cap i at_ f n w) := by
  have hlt := h.lt
  have HT := Lib.hid h
  have HTo := Lib.hid hT
  have HA := Lib.hid hA
  have HB := Lib.hid hB
  have HBK := Lib.hid hBK
  clear h hT hA hB hBK
  go_enter Try.func39, Try.ntmps39
  go_wp2_with fail
  refine (refChunks_parts n w).mono ?_
  rintro e w1 ⟨v1, rfl, ⟨A1, c1, rfl, p1, p2, p3⟩, hb1⟩
  rw [Cy.few_nat hn] at p1 p3 ⊢
  have hlen := Cy.cks_length n
  generalize hm : (Cy.cks n).length = m at p1 p3 hlen ⊢
  have HT1 := Lib.hid (HT.out.below hb1)
  have HTo1 := Lib.hid (HTo.out.below hb1)
  have HB1 := Lib.hid (HB.out.below hb1)
  have HP3 := Lib.hid p3
  have hs1 := hb1.size
  have hw1 := Lib.hid hb1
  have HM := Lib.hid hm
  have hm1 : m ≤ 16384 := by omega
  have HL := Lib.hid hlen
  clear p3 hb1 hm hlen
  go_wp2_with fail
  go_loopw [1, 2, 15] (fun a b t wr => ∃ (k : Nat) (A' : Option Addr) (cp' : Nat), t = .int .i64 k ∧ a = .int .i64 (at_ + (Cy.at_ n k : Nat)) ∧ b = .slice A' (n - Cy.at_ n k) cp' ∧ n - Cy.at_ n k ≤ cp' ∧ cp' ≤ 9223372036854775807 ∧ BytesAt wr b (Mb.bl f (Cy.at_ n k) (n - Cy.at_ n k)) ∧ k ≤ m ∧ k ≤ i ∧ (0 < n → ∀ a, A' = some a → K a.block) ∧
      Tp wr p A cap i k 0 0 0 0 0 (.slice none 0 0) false ∧ Touch (One p) w1 wr) (fun _ _ t _ => m - (intOf t).toNat)
  case atStart => 
    refine ⟨0, B, cp, rfl, by rw [Cy.at_zero]; simp, by rw [Cy.at_zero]; rfl, by omega, hcp2, ?_, by omega, by omega, HBK.out, HT1.out, Touch.refl _ _⟩
    rw [Cy.at_zero]; exact HB1.out
  case round =>
    obtain ⟨k, A', cp', rfl, rfl, rfl, hq1, hq2, hbk, hkm, hki, hkk, htk, htt⟩ := hrel
    have HKK := Lib.hid hkk
    clear hkk
    by_cases hlt : k < m
    · have hk8 : 8 * k < n := by have := HL.out; omega
      have hd := Cy.at_here hk8
      have hnx := Cy.at_next hk8
      rw [hd] at hnx hq1 hbk ⊢
      have hc0 := Cy.nx_pos (r := n - 8 * k) (by omega)
      have hc1 := Cy.nx_le (n - 8 * k)
      obtain ⟨cb, co, rfl, ⟨hcb, _⟩, hcl, hcell⟩ := HP3.out (by omega)
      have hcp : cb ≠ p := by omega
      have hck := (htt.cell (p := ⟨cb, co + k, none⟩) hcl hcp).trans (hcell k hlt)
      rw [← HM.out] at hlt
      have hgd := Cy.cks_getD n k hk8
      rw [hgd] at hck
      rw [HM.out] at hlt
      generalize hcq : Cy.nx (n - 8 * k) = c at hc0 hc1 hck hnx hgd
      generalize hrq : n - 8 * k = r at hc1 hq1 hbk hcq ⊢
      have HCQ := Lib.hid (And.intro hcq hrq)
      have HNX := Lib.hid hnx
      have hrn : r ≤ 131072 := by omega
      have HK8 := Lib.hid hk8
      obtain ⟨gb, ob, rfl⟩ : ∃ gb ob, A' = some ⟨gb, ob, none⟩ := by
        obtain ⟨A2, c2, hv, hx⟩ := hbk
        obtain ⟨gb, ob, e, _⟩ := hx (by rw [Mb.bl_length]; omega)
        injection hv with e1 _ _
        exact ⟨gb, ob, e1.trans e⟩
      have HGB : Hid (K gb) := Lib.hid (HKK.out (by omega) _ rfl)
      have HBK := Lib.hid hbk
      have HTK := Lib.hid htk
      have HTT := Lib.hid htt
      have htold := Lib.hid (HTo1.out.one HT1.out (by intro x e; cases e) htt HA.out)
      have hg1 : (k : Int) < m := by omega
      have hg2 : (0 : Int) ≤ c := by omega
      have hg3 : (c : Int) ≤ r := by omega
      have hg4 : (r : Int) ≤ cp' := by omega
      have hk13 : k ≤ 16384 := by omega
      have hg5 : IntKind.i64.wrap (at_ + ((8 * k : Nat) : Int) + (c : Int)) = at_ + ((8 * k : Nat) : Int) + c := IntWalk.i64_in _ (by omega)
      have hq3 : -4611686018427387904 ≤ at_ + ((8 * k : Nat) : Int) := by omega
      have hq4 : at_ + ((8 * k : Nat) : Int) ≤ 4611686018427518976 := by omega
      generalize hqq : at_ + ((8 * k : Nat) : Int) = q at hg5 hq3 hq4 ⊢
      have HQ := Lib.hid hqq
      have hn1 : n - Cy.at_ n (k + 1) = r - c := by rw [hnx]; omega
      have HN1 := Lib.hid hn1
      clear hcell hgd hcq hrq hd hnx hbk htk htt hk8 hqq hn1
      by_cases hki2 : k < i
      · have hrel2 : ∀ (w2 : World) (A2 : Option Addr) (cp2 : Nat), (A2 = some ⟨gb, ob + c, none⟩ ∨ r = c) → r - c ≤ cp2 → Tp w2 p A cap i (k + 1) 0 0 0 0 0 (.slice none 0 0) false → Touch (One p) wr w2 →
            BytesAt w2 (.slice A2 (r - c) cp2) (Mb.bl f (Cy.at_ n (k + 1)) (n - Cy.at_ n (k + 1))) := by
          intro w2 A2 cp2 hA2 _ _ ht2
          rw [HN1.out, HNX.out]
          rcases hA2 with rfl | hrc
          · have := (BytesAt.one HTK.out (by intro x e; cases e) ht2 HBK.out).cut c (r - c) cp2 (by rw [Mb.bl_length]; omega)
            rw [cut_at f (8 * k) c (r - c) r (by omega)] at this
            exact this
          · have : r - c = 0 := by omega
            rw [this]
            exact bytesAt_none' _ _ _ _ _
        have HREL := Lib.hid hrel2
        clear hrel2
        by_cases hcc : cp' = c
        · subst hcc
          have hrc : r = cp' := by omega
          have HRC := Lib.hid hrc
          clear hrc
          go_wp2_with fail
          refine (tapeDo_tells HTK.out hki2 hi hcap htold.out HA.out 6 q cp' 0 0 cp' cp').mono ?_
          rintro e w2 ⟨rfl, htk2, htt2⟩
          go_wp2
          go_roundw
          case rel =>
            refine ⟨k + 1, some ⟨gb, ob, none⟩, 0, by go_num, by rw [HNX.out, ← HQ.out]; congr 1; omega, by rw [HN1.out]; congr 1; have := HRC.out; omega, by rw [HN1.out]; have := HRC.out; omega, by omega, ?_, by omega, by omega, (fun _ a ha => by cases ha; exact HGB.out), htk2.below ((Below.refl _ _).alloc (Nat.le_refl _) _), (HTT.out.trans htt2).alloc _⟩
            have e0 : r - cp' = 0 := by have := HRC.out; omega
            have h0 := HREL.out _ (some ⟨gb, ob, none⟩) 0 (.inr HRC.out) (by omega) (htk2.below ((Below.refl _ _).alloc (Nat.le_refl _) (.cells #[.int .u64 (T k).V, .bool (T k).D, .slice (T k).A (T k).L (T k).cap] 49))) (htt2.alloc _)
            rw [e0] at h0
            exact h0
          case measure => simp [intOf]; omega
        · go_wp2_with fail
          refine (tapeDo_tells HTK.out hki2 hi hcap htold.out HA.out 6 q c 0 0 c cp').mono ?_
          rintro e w2 ⟨rfl, htk2, htt2⟩
          go_wp2
          go_roundw
          case rel =>
            refine ⟨k + 1, some ⟨gb, ob + c, none⟩, cp' - c, by go_num, by rw [HNX.out, ← HQ.out]; congr 1; omega, by rw [HN1.out], by rw [HN1.out]; omega, by omega, ?_, by omega, by omega, (fun _ a ha => by cases ha; exact HGB.out), htk2.below ((Below.refl _ _).alloc (Nat.le_refl _) _), (HTT.out.trans htt2).alloc _⟩
            exact HREL.out _ _ _ (.inl rfl) (by omega) (htk2.below ((Below.refl _ _).alloc (Nat.le_refl _) _)) (htt2.alloc _)
          case measure => simp [intOf]; omega
      · obtain rfl : k = i := by omega
        go_wp2_with fail
        refine (tapeDo_wants HTK.out 6 q c 0 0 c cp').mono ?_
        rintro e w2 ⟨rfl, htk2, htt2⟩
        go_wp2
        go_ret
        refine ⟨false, rfl, ((Touch.of_below hw1.out).trans (HTT.out.trans htt2)).alloc _, .inl ⟨HK8.out, some ⟨gb, ob, none⟩, c, cp', ?_, ?_, fun a ha => by cases ha; exact HGB.out⟩⟩
        · rw [HQ.out, HCQ.out.2, HCQ.out.1]
          exact htk2.below ((Below.refl _ _).alloc (Nat.le_refl _) _)
        · rw [HCQ.out.2, HCQ.out.1]
          have := ((BytesAt.one HTK.out (by intro x e; cases e) htt2 HBK.out).alloc (.cells #[.int .u64 0, .bool false, .slice none 0 0] 49)).cut 0 c cp' (by rw [Mb.bl_length]; omega)
          rw [cut_at f (8 * k) 0 c r (by omega)] at this
          exact this
    · have hkm2 : k = m := by omega
      have hkn : n ≤ 8 * k := by have := HL.out; omega
      have HKN := Lib.hid hkn
      have hg1 : (m : Int) ≤ k := by omega
      have HTK := Lib.hid htk
      have HTT := Lib.hid htt
      clear htk htt hkm2 hkn
      go_wp2
      go_ret
      exact ⟨true, rfl, (Touch.of_below hw1.out).trans HTT.out, .inr ⟨by have := HKN.out; omega, k, HTK.out⟩⟩

theorem tapeIn_any {w : World} {p cap i : Nat} {A : Option Addr} (h : Tp w p A cap i 0 0 0 0 0 0 (.slice none 0 0) false) (hi : i ≤ cap) (hcap : cap ≤ 9223372036854775807) {T : Nat → Ans} (hT : ToldAt w A i T) (hA : 0 < i → ∀ a, A = some a → a.block ≠ p)
    (at_ : Int) (hat0 : -4611686018427387904 ≤ at_) (hat1 : at_ ≤ 4611686018427387904) (B : Option Addr) (n cp : Nat) (f : Nat → Nat) (hB : BytesAt w (.slice B n cp) (Mb.bl f 0 n)) (hn : n ≤ 131072) (hcp : n ≤ cp) (hcp2 : cp ≤ 9223372036854775807) :
    Calls Try.prog 39 #[.pointer (some ⟨p, 0, none⟩), .int .i64 at_, .slice B n cp] w (SaidIn p A cap i at_ f n w) :=
  (tapeIn_lies (K := fun _ => True) h hi hcap hT hA at_ hat0 hat1 B n cp f hB hn hcp hcp2 (fun _ _ _ => trivial)).mono fun _ _ hs => hs.said
end Go.Proofs.Ytegjnejekakeiaa
