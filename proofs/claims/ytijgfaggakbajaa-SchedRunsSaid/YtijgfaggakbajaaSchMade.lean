/-
  Layer 6's statements: the machines of a list of jobs, walked.
-/
import Derived.Test.YtijgfaggakbajaaSchMades
namespace Go.Proofs.Ytijgfaggakbajaa
open Go.RowKit

set_option maxRecDepth 100000 in
set_option maxHeartbeats 4000000 in
theorem made_walk {w : World} (A : Option Addr) (n cap : Nat) (js : Nat → Jb) (hj : JbsAt w A n js) (hn : n ≤ 6) (hcap : n ≤ cap) (hcap2 : cap ≤ 9223372036854775807) (hL : ∀ i, i < n → (js i).L ≤ 60) :
    Calls Try.prog 9 #[.slice A n cap] w fun e w' => ∃ o A4 c4 A5 c5 xs Bs, e = .returned (.tuple #[.slice A4 n c4, .slice A5 n c5]) ∧ MadeTo w w' o js n (.slice A4 n c4) (.slice A5 n c5) xs Bs := by
  obtain ⟨ij, hji, hjz, hjs, hjb⟩ := info_parts infoRefJob
  obtain ⟨im, hmi, hmz, hms, hmb⟩ := info_parts infoMachine
  have HJ := Lib.hid hj
  have HL := Lib.hid hL
  clear hj hL
  go_enter Try.func9, Try.ntmps9
  go_wp2
  go_loopw [13, 4, 5] (fun t13 t4 t5 wr => ∃ (i : Nat) (o : Nat → Pt) (A4 : Option Addr) (c4 : Nat) (A5 : Option Addr) (c5 : Nat) (n4 n5 : Nat) (xs Bs : Nat → Value), t13 = .int .i64 i ∧ t4 = .slice A4 n4 c4 ∧ t5 = .slice A5 n5 c5 ∧ n4 = i ∧ n5 = i ∧ i ≤ n ∧ MadeTo w wr o js i (.slice A4 n4 c4) (.slice A5 n5 c5) xs Bs) (fun t13 _ _ _ => n - (intOf t13).toNat)
  case atStart => exact ⟨0, fun _ => .no, none, 0, none, 0, 0, 0, fun _ => undef, fun _ => undef, rfl, rfl, rfl, rfl, rfl, Nat.zero_le _, World.ownsRow_nil _ _ _ _, World.ownsRow_nil _ _ _ _, fun k hk => absurd hk (by simp [Value.ownBlock]), fun k hk => absurd hk (by simp [Value.ownBlock]), fun j hj => absurd hj (Nat.not_lt_zero _), fun j hj => absurd hj (Nat.not_lt_zero _), fun k hk => absurd rfl hk, Below.refl _ _⟩
  case round =>
    obtain ⟨i, o, A4, c4, A5, c5, n4, n5, xs, Bs, rfl, rfl, rfl, hn4, hn5, hi, hmt⟩ := hrel
    have HN := Lib.hid (And.intro hn4 hn5)
    have HM := Lib.hid hmt
    clear hn4 hn5 hmt
    by_cases hlt : i < n
    · obtain ⟨b, off, rfl, hbl, hcl⟩ := HJ.out (by omega)
      obtain ⟨c0, c1, c2, c3, his⟩ := hcl i hlt
      have k := fun q => HM.out.low.cell (p := ⟨b, q, none⟩) hbl
      have c0 := (k _).trans c0
      have c1 := (k _).trans c1
      have c2 := (k _).trans c2
      have c3 := (k _).trans c3
      have hLi := HL.out i hlt
      have HIS := Lib.hid (his.below HM.out.low)
      have hk := his.k
      have hp := his.p
      have hnn := his.n
      have hrm := his.room
      have hfw := his.few
      clear k hcl his
      generalize hjq : js i = j at *
      have HJQ := Lib.hid hjq
      clear hjq
      go_wp2_with fail
      have hb1 := (Below.refl wr.heap.size wr).alloc (Nat.le_refl _) (.cells #[.int .u8 j.K, .int .u16 j.P, .int .u16 j.N, .slice j.A j.L j.cap] 28)
      have hx1 := Go.Deep.blk_alloc_new wr (.cells #[.int .u8 j.K, .int .u16 j.P, .int .u16 j.N, .slice j.A j.L j.cap] 28)
      generalize wr.alloc (.cells #[.int .u8 j.K, .int .u16 j.P, .int .u16 j.N, .slice j.A j.L j.cap] 28) = W1 at hb1 hx1 ⊢
      have d0 : W1.cell? ⟨wr.heap.size, 0, none⟩ = some (.int .u8 j.K) := by simp [World.cell?, hx1]
      have d1 : W1.cell? ⟨wr.heap.size, 1, none⟩ = some (.int .u16 j.P) := by simp [World.cell?, hx1]
      have d2 : W1.cell? ⟨wr.heap.size, 2, none⟩ = some (.int .u16 j.N) := by simp [World.cell?, hx1]
      have d3 : W1.cell? ⟨wr.heap.size, 3, none⟩ = some (.slice j.A j.L j.cap) := by simp [World.cell?, hx1]
      go_quiet (fail)
      have hb2 := hb1.trans ((drewN_below W1 nq).mono hb1.size)
      have hl1 := (Array.getElem?_eq_some_iff.1 hx1).1
      have hblk2 : (W1.drewN nq).heap[wr.heap.size]? = _ := hx1
      generalize W1.drewN nq = W2 at hb2 hblk2 ⊢
      have d0 : W2.cell? ⟨wr.heap.size, 0, none⟩ = some (.int .u8 j.K) := by simp [World.cell?, hblk2]
      have d3 : W2.cell? ⟨wr.heap.size, 3, none⟩ = some (.slice j.A j.L j.cap) := by simp [World.cell?, hblk2]
      have hl2 := (Array.getElem?_eq_some_iff.1 hblk2).1
      have HB2 := Lib.hid hb2
      have hown := Lib.hid (own_empty W2)
      have HBY := Lib.hid ((HIS.out.bytes.below hb2).below ((Below.refl W2.heap.size W2).alloc (Nat.le_refl _) (.cells #[] 5)))
      clear hb1 hx1 hblk2 hb2
      go_upto_region 8 with (at_builtin; refine wpList_app_any rfl _ _ rfl W2.heap.size _ _ [] (Mb.bl j.f 0 j.L) rfl rfl hown.out HBY.out (by simp [Mb.bl_length]; omega) (by simp) ?_; intro v' w3 happ; obtain ⟨A', c', rfl, _⟩ := happ.own.bytes)
      have hb3 := happ.below hown.out ((Below.refl _ W2).alloc (Nat.le_refl _) _) (by simp)
      have hall3 := HB2.out.after hb3
      have HM3 := Lib.hid (HM.out.keep hall3)
      have HOB := Lib.hid (show Owns W2.heap.size w3 (.slice A' j.L c') (Mb.bl j.f 0 j.L) by have h := happ.own; rw [List.nil_append, Mb.bl_length] at h; exact h)
      have d0 := (hb3.cell (p := ⟨wr.heap.size, 0, none⟩) hl2).trans d0
      have hl3 : wr.heap.size < w3.heap.size := Nat.lt_of_lt_of_le hl2 hb3.size
      have hs3 := hb3.size
      have hs3' := hall3.size
      have HW3 := Lib.hid hall3
      clear happ hb3 d3 hall3
      rw [Mb.bl_length] at *
      go_upto_region 9 with (at_builtin; refine wpList_app_job rfl _ _ rfl (.slice A5 n5 c5) i _ _ _ _ _ _ _ w3.heap.size 1 rfl rfl (HM3.out.keep ((Below.refl _ _).alloc (Nat.le_refl _) _)).jobs (Go.Deep.blk_alloc_new _ _) ⟨rfl, rfl, rfl, rfl, rfl, rfl⟩ (by omega) ?_; intro v' w4 happ2)
      obtain ⟨g5, cap5, rfl⟩ := happ2.form
      have HA := Lib.hid (HW3.out.alloc hs3' (.cells #[.int .i64 ((j.K : Int) % 3), .int .i64 ((j.P : Int) % 300), .int .i64 ((j.N : Int) % 60), .slice A' j.L c', .slice none 0 0, .bool false] 61))
      have hal : (w3.alloc (.cells #[.int .i64 ((j.K : Int) % 3), .int .i64 ((j.P : Int) % 300), .int .i64 ((j.N : Int) % 60), .slice A' j.L c', .slice none 0 0, .bool false] 61)).heap.size = w3.heap.size + 1 := by simp
      have HBI := Lib.hid (((BytesIn.of_own HOB.out).mono (K' := fun k => wr.heap.size ≤ k) fun k hk _ => Nat.le_trans (Nat.le_of_lt hl2) hk).below ((Below.refl w3.heap.size w3).alloc (Nat.le_refl _) (.cells #[.int .i64 ((j.K : Int) % 3), .int .i64 ((j.P : Int) % 300), .int .i64 ((j.N : Int) % 60), .slice A' j.L c', .slice none 0 0, .bool false] 61)))
      have d0 := (World.cell?_of_block (a := ⟨wr.heap.size, 0, none⟩) (HM.out.blk happ2 (k := wr.heap.size) (Nat.le_refl _) (hal ▸ Nat.lt_succ_of_lt hl3))).trans ((((Below.refl w3.heap.size w3).alloc (Nat.le_refl _) (.cells #[.int .i64 ((j.K : Int) % 3), .int .i64 ((j.P : Int) % 300), .int .i64 ((j.N : Int) % 60), .slice A' j.L c', .slice none 0 0, .bool false] 61)).cell (p := ⟨wr.heap.size, 0, none⟩) hl3).trans d0)
      have HR4 := Lib.hid (HM.out.row4 HA.out happ2)
      have HBA := Lib.hid (HBI.out.lt.keep (w' := w4) happ2.grown.size fun k hk _ => HM.out.blk happ2 hk.1 hk.2).bytes
      have HJ5 := Lib.hid happ2
      have hK : j.K % 3 = 0 ∨ j.K % 3 = 1 ∨ j.K % 3 = 2 := by omega
      clear c0 c1 c2 c3
      rcases hK with hK | hK | hK
      · have hKi : (j.K : Int) % 3 = 0 := by omega
        go_wp2_with (first | (go_at_call 25; refine (in_any j.at_ A' j.L c' j.f _ j.near HBA.out (by omega)).mono ?_; rintro e w5 ⟨g, rfl, hcp, hb5⟩) | (at_builtin; refine wpList_app_mach rfl _ _ rfl (.slice A4 n4 c4) i _ _ w5.heap.size 1 rfl rfl (ownsRow_keep HR4.out fun q hq => (hb5.alloc hb5.size _).block q (World.ownsRow.lt HR4.out q hq).2) (Go.Deep.blk_alloc_new _ _) rfl (by omega) ?_; intro v5 w6 happ3))
        obtain rfl := HJQ.out
        obtain ⟨o', xs', Bs', hmore⟩ := HM.out.more HA.out HBI.out HJ5.out hb5 ((Jb.mc_in hK).symm ▸ MRep.fresh hcp HIS.out.isB) ((Below.refl _ _).alloc (Nat.le_refl _) _) happ3
        obtain ⟨g4, cap4, rfl⟩ := happ3.form
        exact ⟨⟨i + 1, o', _, _, _, _, i + 1, i + 1, xs', Bs', rfl, rfl, rfl, rfl, rfl, hlt, hmore⟩, by simp only [intOf]; omega⟩
      · have hKi : (j.K : Int) % 3 = 1 := by omega
        go_wp2_with (first | (go_at_call 26; refine (zero_any j.at_ j.num _ j.near).mono ?_; rintro e w5 ⟨g, rfl, hcp, hb5⟩) | (at_builtin; refine wpList_app_mach rfl _ _ rfl (.slice A4 n4 c4) i _ _ w5.heap.size 1 rfl rfl (ownsRow_keep HR4.out fun q hq => (hb5.alloc hb5.size _).block q (World.ownsRow.lt HR4.out q hq).2) (Go.Deep.blk_alloc_new _ _) rfl (by omega) ?_; intro v5 w6 happ3))
        obtain rfl := HJQ.out
        obtain ⟨o', xs', Bs', hmore⟩ := HM.out.more HA.out HBI.out HJ5.out hb5 ((Jb.mc_zero hK).symm ▸ MRep.fresh hcp trivial) ((Below.refl _ _).alloc (Nat.le_refl _) _) happ3
        obtain ⟨g4, cap4, rfl⟩ := happ3.form
        exact ⟨⟨i + 1, o', _, _, _, _, i + 1, i + 1, xs', Bs', rfl, rfl, rfl, rfl, rfl, hlt, hmore⟩, by simp only [intOf]; omega⟩
      · have hKi : (j.K : Int) % 3 = 2 := by omega
        go_wp2_with (first | (go_at_call 27; refine (out_any j.at_ j.num _ j.near).mono ?_; rintro e w5 ⟨g, rfl, hcp, hb5⟩) | (at_builtin; refine wpList_app_mach rfl _ _ rfl (.slice A4 n4 c4) i _ _ w5.heap.size 1 rfl rfl (ownsRow_keep HR4.out fun q hq => (hb5.alloc hb5.size _).block q (World.ownsRow.lt HR4.out q hq).2) (Go.Deep.blk_alloc_new _ _) rfl (by omega) ?_; intro v5 w6 happ3))
        obtain rfl := HJQ.out
        obtain ⟨o', xs', Bs', hmore⟩ := HM.out.more HA.out HBI.out HJ5.out hb5 ((Jb.mc_out hK).symm ▸ MRep.fresh hcp trivial) ((Below.refl _ _).alloc (Nat.le_refl _) _) happ3
        obtain ⟨g4, cap4, rfl⟩ := happ3.form
        exact ⟨⟨i + 1, o', _, _, _, _, i + 1, i + 1, xs', Bs', rfl, rfl, rfl, rfl, rfl, hlt, hmore⟩, by simp only [intOf]; omega⟩
    · obtain rfl : i = n := by omega
      go_wp2
      go_ret2
      obtain ⟨e4, e5⟩ := HN.out
      subst e4
      subst e5
      exact ⟨o, A4, c4, A5, c5, xs, Bs, rfl, HM.out⟩
end Go.Proofs.Ytijgfaggakbajaa
