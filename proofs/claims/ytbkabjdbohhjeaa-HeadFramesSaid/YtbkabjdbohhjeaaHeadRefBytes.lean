/-
  The plain answer to a frame's header's bytes (layer 3), walked.
-/
import Derived.Test.YtbkabjdbohhjeaaHeadFrame
namespace Go.Proofs.Ytbkabjdbohhjeaa
open Go.RowKit

theorem lit_cell {w : World} {b : Nat} {o s m r : Int} (h : w.heap[b]? = some (.cells #[.int .i32 o, .int .i32 s, .int .i32 m, .int .i32 r] 21 (0, 0))) (k : Nat) (hk : k < 4) : w.cell? ⟨b, k, none⟩ = some (.int .i32 (Hd.sel o s m r k)) := by
  match k, hk with
  | 0, _ | 1, _ | 2, _ | 3, _ => simp [World.cell?, h, Hd.sel]

set_option maxHeartbeats 1000000 in
theorem frBytes_any (l v f t o s m r z : Int) (w : World) (t0 : 0 ≤ t) (t1 : t ≤ 65535) (z0 : 0 ≤ z) (z1 : z ≤ 18446744073709551615) :
    Calls Try.prog 27 #[.agg #[.int .i32 l, .int .u8 v, .int .u8 f, .int .u16 t, .int .i32 o, .int .i32 s, .int .i32 m, .int .i32 r, .int .u64 z]] w fun e w' => ∃ x, e = .returned x ∧ Owns w.heap.size w' x (Hd.fb l v f t o s m r z) ∧ Below w.heap.size w w' := by
  have HF := FrAt.made w l v f t o s m r z
  have HW := (Below.refl w.heap.size w).alloc (Nat.le_refl _) (.cells #[.int .i32 l, .int .u8 v, .int .u8 f, .int .u16 t, .int .i32 o, .int .i32 s, .int .i32 m, .int .i32 r, .int .u64 z] 30)
  have hsz : (w.alloc (.cells #[.int .i32 l, .int .u8 v, .int .u8 f, .int .u16 t, .int .i32 o, .int .i32 s, .int .i32 m, .int .i32 r, .int .u64 z] 30)).heap.size = w.heap.size + 1 := by simp
  go_enter Try.func27, Try.ntmps27
  go_wp2
  generalize w.alloc (.cells #[.int .i32 l, .int .u8 v, .int .u8 f, .int .u16 t, .int .i32 o, .int .i32 s, .int .i32 m, .int .i32 r, .int .u64 z] 30) = W at HF HW hsz ⊢
  have HFW := Lib.hid HF
  obtain ⟨c0, c1, c2, c3, c4, c5, c6, c7, c8⟩ := HF
  have hne := World.new_ne W _ c0
  go_region_held3 (fun w' => w'.cell? ⟨w.heap.size, 0, none⟩ = some (.int .i32 l) ∧ w'.cell? ⟨w.heap.size, 1, none⟩ = some (.int .u8 v) ∧ w'.cell? ⟨w.heap.size, 2, none⟩ = some (.int .u8 f) ∧ w'.cell? ⟨w.heap.size, 3, none⟩ = some (.int .u16 t) ∧ w'.cell? ⟨w.heap.size, 4, none⟩ = some (.int .i32 o) ∧ w'.cell? ⟨w.heap.size, 5, none⟩ = some (.int .i32 s) ∧ w'.cell? ⟨w.heap.size, 6, none⟩ = some (.int .i32 m) ∧ w'.cell? ⟨w.heap.size, 7, none⟩ = some (.int .i32 r) ∧ w'.cell? ⟨w.heap.size, 8, none⟩ = some (.int .u64 z))
    (go_keep)
    (first
      | (go_at_call 25; refine (hbytes_any _ 4 _ (by omega)).mono ?_; rintro e w1 ⟨x, rfl, hx, hb1⟩; have hlit := (two_made_at W.drew v f (w.heap.size + 1) hsz).below hb1; have hb2 := below_drew_alloc hb1; have hx1 := hx.down (b' := W.heap.size) (by simp); obtain ⟨k0, k1, k2, k3, k4, k5, k6, k7, k8⟩ := (FrAt.mk c0 c1 c2 c3 c4 c5 c6 c7 c8).below hb2 (by omega); have hn1 := World.new_ne w1 _ k0)
      | (go_at_call 25; refine (hbytes_any _ 4 _ (by omega)).mono ?_; rintro e w1 ⟨x, rfl, hx, hb1⟩; have hb2 := below_drew hb1; have hx1 := hx.down (b' := W.heap.size) (by simp); have hlit := two_made w1 v f; obtain ⟨k0, k1, k2, k3, k4, k5, k6, k7, k8⟩ := (FrAt.mk c0 c1 c2 c3 c4 c5 c6 c7 c8).below hb2 (by omega); have hn1 := World.new_ne w1 _ k0)
      | (refine step_app rfl _ _ rfl W.heap.size x _ _ _ rfl rfl (hx1.alloc _) hlit (by simp) (by simp [Wd.bs_length]) (by have := hb2.size; simp; omega) ?_; intro v2 w2 hv2 hb3; have HB2 := (hb2.alloc hb2.size _).trans hb3; have HF2 := (FrAt.mk c0 c1 c2 c3 c4 c5 c6 c7 c8).below HB2 (by omega); obtain ⟨l0, l1, l2, l3, l4, l5, l6, l7, l8⟩ := HF2; clear hb3)
      | (refine step_app rfl _ _ rfl W.heap.size x _ _ _ rfl rfl hx1 hlit (by simp) (by simp [Wd.bs_length]) (by have := hb2.size; simp; omega) ?_; intro v2 w2 hv2 hb3; have HB2 := hb2.trans hb3; have HF2 := (FrAt.mk c0 c1 c2 c3 c4 c5 c6 c7 c8).below HB2 (by omega); obtain ⟨l0, l1, l2, l3, l4, l5, l6, l7, l8⟩ := HF2; clear hb3))
  all_goals
    have HF2 := Lib.hid (FrAt.mk l0 l1 l2 l3 l4 l5 l6 l7 l8)
    have HBW := Lib.hid HB2
    have HV2 := Lib.hid hv2
    clear c0 c1 c2 c3 c4 c5 c6 c7 c8 k0 k1 k2 k3 k4 k5 k6 k7 k8 l0 l1 l2 l4 l5 l6 l7 l8 hv2 hlit hx hx1 hb2 hn1 hne HB2
    go_wp2_with (first
      | (go_at_call 25; refine (hbytes_any _ 2 _ (by omega)).mono ?_; rintro e w3 ⟨y, rfl, hy, hb3⟩; have hv3 := HV2.out.below hb3; have hy3 := hy.bytes; have HB3 := HBW.out.trans (hb3.mono HBW.out.size); clear hy)
      | (at_builtin; refine wpList_app rfl _ _ rfl W.heap.size _ _ _ _ rfl rfl hv3 hy3 (by simp [Wd.bs_length]) (by simp [Wd.bs_length]) HB3.size ?_; intro v4 w4 hv4 hb4 hk4; clear hk4; have HB4 := HB3.trans hb4; obtain ⟨c0, c1, c2, c3, c4, c5, c6, c7, c8⟩ := (HF2.out.below (hb3.mono HBW.out.size) (by omega)).below hb4 (by omega)))
  all_goals
    have hv5 : Owns W.heap.size (w4.alloc (.cells #[.int .i32 o, .int .i32 s, .int .i32 m, .int .i32 r] 21)) v4 (Wd.bs (l % 18446744073709551616) 4 ++ [v, f] ++ Wd.bs (t % 18446744073709551616) 2 ++ Hd.part o s m r 0) := by
      rw [Hd.wrap_mod] at hv4
      rw [show Hd.part o s m r 0 = [] from rfl, List.append_nil]
      exact hv4.alloc _
    have hb5 : Below W.heap.size W (w4.alloc (.cells #[.int .i32 o, .int .i32 s, .int .i32 m, .int .i32 r] 21)) := HB4.alloc HB4.size _
    have hk5 : (w4.alloc (.cells #[.int .i32 o, .int .i32 s, .int .i32 m, .int .i32 r] 21)).heap[w4.heap.size]? = some (.cells #[.int .i32 o, .int .i32 s, .int .i32 m, .int .i32 r] 21 (0, 0)) := Go.Deep.blk_alloc_new _ _
    have hn5 : v4.ownBlock ≠ some w4.heap.size := fun e => by have := (hv4.lt _ e).2; omega
    clear hv4 HB4 hb4 HV2 HBW HF2 hv3 HB3 hy3 hb3 hb1 l3 c0 c1 c2 c3 c4 c5 c6 c7 c8
    generalize w4.alloc (.cells #[.int .i32 o, .int .i32 s, .int .i32 m, .int .i32 r] 21) = W5 at hv5 hb5 hk5 ⊢
    go_loopw [3, 5, 32] (fun b6 x i wr => ∃ k : Nat, k ≤ 4 ∧ i = .int .i64 k ∧ Owns W.heap.size wr b6 (Wd.bs (l % 18446744073709551616) 4 ++ [v, f] ++ Wd.bs (t % 18446744073709551616) 2 ++ Hd.part o s m r k) ∧ Below W.heap.size W wr ∧ b6.ownBlock ≠ some w4.heap.size ∧ wr.heap[w4.heap.size]? = some (.cells #[.int .i32 o, .int .i32 s, .int .i32 m, .int .i32 r] 21 (0, 0))) (fun _ _ i _ => 4 - (intOf i).toNat)
    case atStart => exact ⟨0, by omega, rfl, hv5, hb5, hn5, hk5⟩
    case round =>
      obtain ⟨k, hk, rfl, hown, hbel, hne6, hblk⟩ := hrel
      have hlt6 : w4.heap.size < wr.heap.size := by
        rcases Nat.lt_or_ge w4.heap.size wr.heap.size with h | h
        · exact h
        · rw [Array.getElem?_eq_none h] at hblk; cases hblk
      by_cases hlt : k < 4
      · have hcell := lit_cell hblk k hlt
        have HO := Lib.hid hown
        have HP := Lib.hid (Hd.part_length o s m r k)
        have HB := Lib.hid hbel
        clear hown hbel hk5 hb5 hv5 hn5
        go_wp2_with (first
          | (go_at_call 25; refine (hbytes_any _ 4 _ (by omega)).mono ?_; rintro e w6 ⟨y6, rfl, hy, hb6⟩; have hv6 := HO.out.below hb6; have hy6 := hy.bytes; have HB6 := HB.out.trans (hb6.mono HB.out.size); have hblk6 := (hb6.block _ hlt6).trans hblk; have hlt7 : w4.heap.size < w6.heap.size := Nat.lt_of_lt_of_le hlt6 hb6.size; clear hy hb6)
          | (at_builtin; refine wpList_app rfl _ _ rfl W.heap.size u3 y6 _ _ rfl rfl hv6 hy6 (by simp [Wd.bs_length]) (by simp [Wd.bs_length, HP.out]; omega) HB6.size ?_; intro v7 w7 hv7 hb7 hk7; obtain ⟨hne7, hblk7⟩ := hk7 _ hlt7 hne6; have HB7 := HB6.trans hb7; have hblk8 := hblk7.trans hblk6; clear hk7 hv6 hy6 hb7 hblk7 hblk6 HB6))
        go_roundw
        case rel =>
          refine ⟨k + 1, by omega, by go_num, ?_, HB7, hne7, hblk8⟩
          have ew : wrap64 (Hd.sel o s m r k) % 18446744073709551616 = Hd.sel o s m r k % 18446744073709551616 := by unfold wrap64; omega
          rw [ew, List.append_assoc] at hv7
          exact hv7
        case measure => simp [intOf]; omega
      · obtain rfl : k = 4 := by omega
        have HB := Lib.hid hbel
        have HO := Lib.hid hown
        have HP := Lib.hid (Hd.part_length o s m r 4)
        have HE := Lib.hid (Hd.fb_part l v f t o s m r z)
        have HZ := Lib.hid (fun W' => refBytes_own z 8 W' z0 z1 (by omega))
        obtain ⟨c0, c1, c2, c3, c4, c5, c6, c7, c8⟩ := HFW.out.below hbel (by omega)
        clear hown hbel hk5 hb5 hv5 hn5 hblk hk c0 c1 c2 c3 c4 c5 c6 c7 z0 z1
        go_wp2_with (first
          | (go_at_call 22; refine (HZ.out _).mono ?_; rintro e w6 ⟨y6, rfl, hy, hb6⟩; have hv6 := HO.out.below hb6; have hy6 := hy.bytes; have HB6 := HB.out.trans (hb6.mono HB.out.size); clear hy hb6)
          | (at_builtin; refine wpList_app rfl _ _ rfl W.heap.size u3 y6 _ _ rfl rfl hv6 hy6 (by simp [Wd.bs_length]) (by simp [Wd.bs_length, HP.out]) HB6.size ?_; intro v7 w7 hv7 hb7 hk7; clear hk7; have HB7 := HB6.trans hb7; clear hv6 hy6 hb7 HB6))
        go_ret
        refine ⟨_, rfl, ?_, HW.trans (HB7.mono HW.size)⟩
        rw [HE.out] at hv7
        exact hv7.down HW.size

end Go.Proofs.Ytbkabjdbohhjeaa
