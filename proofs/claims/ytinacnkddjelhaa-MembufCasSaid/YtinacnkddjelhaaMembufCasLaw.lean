/-
  The statement on two that compare and swap (layer 2), walked.
-/
import Derived.Test.YtinacnkddjelhaaMembufFixed
namespace Go.Proofs.Ytinacnkddjelhaa
open Go.RowKit

theorem chk_num (K : Int) (k n : Nat) (hK : K = 1 ∨ K = 2 ∨ K = 4) (hn : n = 4 ∨ n = 8) (hk : k % n = 0) (hin : k + n ≤ 64) : chk (8 * ((8 : Nat) : Int)) K k n 0 = 0 := by
  have hf : formed K n 0 = true := by
    unfold formed
    rw [if_pos hK]
    rcases hn with rfl | rfl <;> rfl
  have hm : (k : Int) % (n : Int) = 0 := by omega
  unfold chk
  rw [if_neg (by simp [hf]), if_neg (by omega), if_neg (by simp [hm])]

section
variable {w : World} {g h : Nat} {m : Nat → Nat} {c : Int}
theorem store_at (B : Buf w g h m 8 c) (k n v : Nat) (N : Int) (hN : (n : Int) = N) (hn : n = 4 ∨ n = 8) (hk : k % n = 0) (hin : k + n ≤ 64) (hv : v < 18446744073709551616) :
    Calls Try.prog 8 #[.pointer (some ⟨g, 0, none⟩), .agg #[.int .i64 2, .int .i64 k, .int .i64 N, .int .u64 v, .int .u64 0, .slice none 0 0]] w
      (Told3 0 false g h (Mb.put m k n v) 8 (nxt c) w) := by
  subst hN
  refine Calls.mono (do_plain B 2 k n v 0 hv (chk_num 2 k n (by decide) hn hk hin)) fun e w' hd => ?_
  have h := hd.told
  simpa [Mb.ansV, Mb.ansD, Mb.aft] using h
theorem cas_at (B : Buf w g h m 8 c) (k n v u : Nat) (N : Int) (hN : (n : Int) = N) (hn : n = 4 ∨ n = 8) (hk : k % n = 0) (hin : k + n ≤ 64) (hv : v < 18446744073709551616) (hv2 : v < 2 ^ (8 * n)) (x : Nat) (hx : Mb.nm m k n = x) :
    Calls Try.prog 8 #[.pointer (some ⟨g, 0, none⟩), .agg #[.int .i64 4, .int .i64 k, .int .i64 N, .int .u64 v, .int .u64 u, .slice none 0 0]] w
      (Told3 x (decide (x = v)) g h (if x = v then Mb.put m k n u else m) 8 (nxt c) w) := by
  subst hN
  refine Calls.mono (do_plain B 4 k n v u hv (chk_num 4 k n (by decide) hn hk hin)) fun e w' hd => ?_
  have h := hd.told
  rw [show Mb.ansV m 4 k n = x by simp [Mb.ansV, hx], show Mb.ansD m 4 k n v = decide (x = v) by simp [Mb.ansD, hx, Nat.mod_eq_of_lt hv2], show Mb.aft m 4 k n v u (fun _ => 0) = (if x = v then Mb.put m k n u else m) by simp [Mb.aft, hx, Nat.mod_eq_of_lt hv2]] at h
  exact h
theorem load_at (B : Buf w g h m 8 c) (k n : Nat) (N : Int) (hN : (n : Int) = N) (hn : n = 4 ∨ n = 8) (hk : k % n = 0) (hin : k + n ≤ 64) (x : Nat) (hx : Mb.nm m k n = x) :
    Calls Try.prog 8 #[.pointer (some ⟨g, 0, none⟩), .agg #[.int .i64 1, .int .i64 k, .int .i64 N, .int .u64 0, .int .u64 0, .slice none 0 0]] w
      (Told3 x false g h m 8 (nxt c) w) := by
  subst hN
  refine Calls.mono (do_plain B 1 k n 0 0 (by decide) (chk_num 1 k n (by decide) hn hk hin)) fun e w' hd => ?_
  have h := hd.told
  simpa [Mb.ansV, Mb.ansD, Mb.aft, hx] using h
end

set_option maxHeartbeats 2000000 in
theorem casLaw_hit (v y : Nat) (t : Int) (w : World) (hv : v < 18446744073709551616) (hy : y < 18446744073709551616) (ht0 : 0 ≤ t) (ht : t ≤ 255) :
    Calls Try.prog 4 #[.int .u64 v, .int .u64 v, .int .u64 y, .int .u8 t, .bool false] w (TrueBelow w) := by
  have hv8 : v < 2 ^ (8 * 8) := hv
  have hy8 : y < 2 ^ (8 * 8) := hy
  have hx8 : v < 2 ^ (8 * 8) := hv
  obtain ⟨k, hk⟩ : ∃ k : Nat, t % 8 * 8 = (k : Int) := ⟨(t % 8 * 8).toNat, by omega⟩
  have hk1 : k % 8 = 0 := by omega
  have hk2 : k + 8 ≤ 64 := by omega
  go_enter Try.func4, Try.ntmps4
  go_wp2_with fail
  refine (fixed_any w).mono ?_
  rintro e w1 ⟨rfl, hb1⟩
  go_wp2_with fail
  refine (new_yes 64 8 w1 (by decide) (by decide) (by decide) (by decide)).mono ?_
  rintro e w2 ⟨g, h, rfl, hB, hg, hh, hb2⟩
  have hgl := hB.g_lt
  have hhl := hB.h_lt
  go_wp2_with fail
  refine (store_at hB k 8 v 8 rfl (by decide) hk1 hk2 hv).mono ?_
  rintro e w3 ⟨A3, l3, cp3, rfl, hs3⟩
  have HB3 := hs3.1
  have HT3 := hs3.2
  clear hs3
  go_wp2_with fail
  have hcas1 := cas_at HB3 k 8 v v 8 rfl (by decide) hk1 hk2 hv hv8 v (by rw [Mb.nm_put]; exact Nat.mod_eq_of_lt hv8)
  rw [if_pos rfl, decide_eq_true rfl, Mb.put_put] at hcas1
  refine hcas1.mono ?_
  rintro e w4 ⟨A4, l4, cp4, rfl, hs4⟩
  clear hcas1
  go_wp2_with fail
  have HB4 := hs4.1.alloc (.cells #[.int .u64 (v : Int), .bool true, .slice A4 l4 cp4] 32)
  have HT4 := (HT3.trans hs4.2).alloc (.cells #[.int .u64 (v : Int), .bool true, .slice A4 l4 cp4] 32)
  have hp0 : (w4.alloc (.cells #[.int .u64 (v : Int), .bool true, .slice A4 l4 cp4] 32)).cell? ⟨w4.heap.size, 0, none⟩ = some (.int .u64 (v : Int)) := by go_simp
  have hp1 : (w4.alloc (.cells #[.int .u64 (v : Int), .bool true, .slice A4 l4 cp4] 32)).cell? ⟨w4.heap.size, 1, none⟩ = some (.bool true) := by go_simp
  have hz4 : (w4.alloc (.cells #[.int .u64 (v : Int), .bool true, .slice A4 l4 cp4] 32)).heap.size = w4.heap.size + 1 := by simp
  have hl4 : w2.heap.size ≤ w4.heap.size := (HT3.trans hs4.2).size
  generalize w4.alloc (.cells #[.int .u64 (v : Int), .bool true, .slice A4 l4 cp4] 32) = W4 at HB4 HT4 hp0 hp1 hz4 ⊢
  clear hs4 HT3
  have hcas2 := cas_at HB4 k 8 v y 8 rfl (by decide) hk1 hk2 hv hv8 v (by rw [Mb.nm_put]; exact Nat.mod_eq_of_lt hx8)
  rw [if_pos rfl, decide_eq_true rfl, Mb.put_put] at hcas2
  refine hcas2.mono ?_
  rintro e w5 ⟨A5, l5, cp5, rfl, hs5⟩
  clear hcas2
  have hn4 : ¬ Two g h w4.heap.size := by unfold Two; omega
  have hq0 : w5.cell? ⟨w4.heap.size, 0, none⟩ = some (.int .u64 (v : Int)) := (hs5.2.cell (p := ⟨w4.heap.size, 0, none⟩) (by show w4.heap.size < _; omega) hn4).trans hp0
  have hq1 : w5.cell? ⟨w4.heap.size, 1, none⟩ = some (.bool true) := (hs5.2.cell (p := ⟨w4.heap.size, 1, none⟩) (by show w4.heap.size < _; omega) hn4).trans hp1
  have hl5 : w4.heap.size < w5.heap.size := by have := hs5.2.size; omega
  have HB5 := hs5.1.alloc (.cells #[.int .u64 (v : Int), .bool true, .slice A5 l5 cp5] 32)
  have HT5 := (HT4.trans hs5.2).alloc (.cells #[.int .u64 (v : Int), .bool true, .slice A5 l5 cp5] 32)
  clear hs5 hp0 hp1 hz4 HT4 HB4
  go_wp2_with fail
  have hr0 : (w5.alloc (.cells #[.int .u64 (v : Int), .bool true, .slice A5 l5 cp5] 32)).cell? ⟨w4.heap.size, 0, none⟩ = some (.int .u64 (v : Int)) := by go_simp
  have hr1 : (w5.alloc (.cells #[.int .u64 (v : Int), .bool true, .slice A5 l5 cp5] 32)).cell? ⟨w4.heap.size, 1, none⟩ = some (.bool true) := by go_simp
  have hr2 : (w5.alloc (.cells #[.int .u64 (v : Int), .bool true, .slice A5 l5 cp5] 32)).cell? ⟨w5.heap.size, 0, none⟩ = some (.int .u64 (v : Int)) := by go_simp
  have hr3 : (w5.alloc (.cells #[.int .u64 (v : Int), .bool true, .slice A5 l5 cp5] 32)).cell? ⟨w5.heap.size, 1, none⟩ = some (.bool true) := by go_simp
  have hz5 : (w5.alloc (.cells #[.int .u64 (v : Int), .bool true, .slice A5 l5 cp5] 32)).heap.size = w5.heap.size + 1 := by simp
  generalize w5.alloc (.cells #[.int .u64 (v : Int), .bool true, .slice A5 l5 cp5] 32) = W5 at HB5 HT5 hr0 hr1 hr2 hr3 hz5 ⊢
  clear hq0 hq1
  refine (load_at HB5 k 8 8 rfl (by decide) hk1 hk2 y (by rw [Mb.nm_put]; exact Nat.mod_eq_of_lt hy8)).mono ?_
  rintro e w6 ⟨A6, l6, cp6, rfl, hs6⟩
  have hn5 : ¬ Two g h w5.heap.size := by unfold Two; omega
  have ha0 : w6.cell? ⟨w4.heap.size, 0, none⟩ = some (.int .u64 (v : Int)) := (hs6.2.cell (p := ⟨w4.heap.size, 0, none⟩) (by show w4.heap.size < _; omega) hn4).trans hr0
  have ha1 : w6.cell? ⟨w4.heap.size, 1, none⟩ = some (.bool true) := (hs6.2.cell (p := ⟨w4.heap.size, 1, none⟩) (by show w4.heap.size < _; omega) hn4).trans hr1
  have ha2 : w6.cell? ⟨w5.heap.size, 0, none⟩ = some (.int .u64 (v : Int)) := (hs6.2.cell (p := ⟨w5.heap.size, 0, none⟩) (by show w5.heap.size < _; omega) hn5).trans hr2
  have ha3 : w6.cell? ⟨w5.heap.size, 1, none⟩ = some (.bool true) := (hs6.2.cell (p := ⟨w5.heap.size, 1, none⟩) (by show w5.heap.size < _; omega) hn5).trans hr3
  have hl6 : w5.heap.size < w6.heap.size := by have := hs6.2.size; omega
  have hl7 : w4.heap.size < w6.heap.size := by omega
  have HT6 := HT5.trans hs6.2
  clear hr0 hr1 hr2 hr3 hs6 hn4 hn5
  go_wp2
  go_ret
  exact ⟨rfl, Touch.below (hb1.after hb2) (HT6.alloc _) (Nat.le_trans hb1.size hb2.size) fun k hk => by have := hb1.size; rcases hk with rfl | rfl <;> omega⟩

set_option maxHeartbeats 2000000 in
theorem casLaw_miss (v x y : Nat) (t : Int) (w : World) (hv : v < 18446744073709551616) (hx : x < 18446744073709551616) (hy : y < 18446744073709551616) (hne : ¬ x = v) (ht0 : 0 ≤ t) (ht : t ≤ 255) :
    Calls Try.prog 4 #[.int .u64 v, .int .u64 x, .int .u64 y, .int .u8 t, .bool false] w (TrueBelow w) := by
  have hv8 : v < 2 ^ (8 * 8) := hv
  have hy8 : y < 2 ^ (8 * 8) := hy
  have hx8 : x < 2 ^ (8 * 8) := hx
  have HNE := Lib.hid hne
  have hne1 : (((x : Nat) : Int) == ((v : Nat) : Int)) = false := by simpa using fun e => hne (Int.ofNat_inj.1 e)
  have hne2 : (((x : Nat) : Int) != ((v : Nat) : Int)) = true := by simp [hne1, bne]
  clear hne
  obtain ⟨k, hk⟩ : ∃ k : Nat, t % 8 * 8 = (k : Int) := ⟨(t % 8 * 8).toNat, by omega⟩
  have hk1 : k % 8 = 0 := by omega
  have hk2 : k + 8 ≤ 64 := by omega
  go_enter Try.func4, Try.ntmps4
  go_wp2_with fail
  refine (fixed_any w).mono ?_
  rintro e w1 ⟨rfl, hb1⟩
  go_wp2_with fail
  refine (new_yes 64 8 w1 (by decide) (by decide) (by decide) (by decide)).mono ?_
  rintro e w2 ⟨g, h, rfl, hB, hg, hh, hb2⟩
  have hgl := hB.g_lt
  have hhl := hB.h_lt
  go_wp2_with fail
  refine (store_at hB k 8 v 8 rfl (by decide) hk1 hk2 hv).mono ?_
  rintro e w3 ⟨A3, l3, cp3, rfl, hs3⟩
  have HB3 := hs3.1
  have HT3 := hs3.2
  clear hs3
  go_wp2_with fail
  have hcas1 := cas_at HB3 k 8 v x 8 rfl (by decide) hk1 hk2 hv hv8 v (by rw [Mb.nm_put]; exact Nat.mod_eq_of_lt hv8)
  rw [if_pos rfl, decide_eq_true rfl, Mb.put_put] at hcas1
  refine hcas1.mono ?_
  rintro e w4 ⟨A4, l4, cp4, rfl, hs4⟩
  clear hcas1
  go_wp2_with fail
  have HB4 := hs4.1.alloc (.cells #[.int .u64 (v : Int), .bool true, .slice A4 l4 cp4] 32)
  have HT4 := (HT3.trans hs4.2).alloc (.cells #[.int .u64 (v : Int), .bool true, .slice A4 l4 cp4] 32)
  have hp0 : (w4.alloc (.cells #[.int .u64 (v : Int), .bool true, .slice A4 l4 cp4] 32)).cell? ⟨w4.heap.size, 0, none⟩ = some (.int .u64 (v : Int)) := by go_simp
  have hp1 : (w4.alloc (.cells #[.int .u64 (v : Int), .bool true, .slice A4 l4 cp4] 32)).cell? ⟨w4.heap.size, 1, none⟩ = some (.bool true) := by go_simp
  have hz4 : (w4.alloc (.cells #[.int .u64 (v : Int), .bool true, .slice A4 l4 cp4] 32)).heap.size = w4.heap.size + 1 := by simp
  have hl4 : w2.heap.size ≤ w4.heap.size := (HT3.trans hs4.2).size
  generalize w4.alloc (.cells #[.int .u64 (v : Int), .bool true, .slice A4 l4 cp4] 32) = W4 at HB4 HT4 hp0 hp1 hz4 ⊢
  clear hs4 HT3
  have hcas2 := cas_at HB4 k 8 v y 8 rfl (by decide) hk1 hk2 hv hv8 x (by rw [Mb.nm_put]; exact Nat.mod_eq_of_lt hx8)
  rw [if_neg HNE.out, decide_eq_false HNE.out] at hcas2
  refine hcas2.mono ?_
  rintro e w5 ⟨A5, l5, cp5, rfl, hs5⟩
  clear hcas2
  have hn4 : ¬ Two g h w4.heap.size := by unfold Two; omega
  have hq0 : w5.cell? ⟨w4.heap.size, 0, none⟩ = some (.int .u64 (v : Int)) := (hs5.2.cell (p := ⟨w4.heap.size, 0, none⟩) (by show w4.heap.size < _; omega) hn4).trans hp0
  have hq1 : w5.cell? ⟨w4.heap.size, 1, none⟩ = some (.bool true) := (hs5.2.cell (p := ⟨w4.heap.size, 1, none⟩) (by show w4.heap.size < _; omega) hn4).trans hp1
  have hl5 : w4.heap.size < w5.heap.size := by have := hs5.2.size; omega
  have HB5 := hs5.1.alloc (.cells #[.int .u64 (x : Int), .bool false, .slice A5 l5 cp5] 32)
  have HT5 := (HT4.trans hs5.2).alloc (.cells #[.int .u64 (x : Int), .bool false, .slice A5 l5 cp5] 32)
  clear hs5 hp0 hp1 hz4 HT4 HB4
  go_wp2_with fail
  have hr0 : (w5.alloc (.cells #[.int .u64 (x : Int), .bool false, .slice A5 l5 cp5] 32)).cell? ⟨w4.heap.size, 0, none⟩ = some (.int .u64 (v : Int)) := by go_simp
  have hr1 : (w5.alloc (.cells #[.int .u64 (x : Int), .bool false, .slice A5 l5 cp5] 32)).cell? ⟨w4.heap.size, 1, none⟩ = some (.bool true) := by go_simp
  have hr2 : (w5.alloc (.cells #[.int .u64 (x : Int), .bool false, .slice A5 l5 cp5] 32)).cell? ⟨w5.heap.size, 0, none⟩ = some (.int .u64 (x : Int)) := by go_simp
  have hr3 : (w5.alloc (.cells #[.int .u64 (x : Int), .bool false, .slice A5 l5 cp5] 32)).cell? ⟨w5.heap.size, 1, none⟩ = some (.bool false) := by go_simp
  have hz5 : (w5.alloc (.cells #[.int .u64 (x : Int), .bool false, .slice A5 l5 cp5] 32)).heap.size = w5.heap.size + 1 := by simp
  generalize w5.alloc (.cells #[.int .u64 (x : Int), .bool false, .slice A5 l5 cp5] 32) = W5 at HB5 HT5 hr0 hr1 hr2 hr3 hz5 ⊢
  clear hq0 hq1
  refine (load_at HB5 k 8 8 rfl (by decide) hk1 hk2 x (by rw [Mb.nm_put]; exact Nat.mod_eq_of_lt hx8)).mono ?_
  rintro e w6 ⟨A6, l6, cp6, rfl, hs6⟩
  have hn5 : ¬ Two g h w5.heap.size := by unfold Two; omega
  have ha0 : w6.cell? ⟨w4.heap.size, 0, none⟩ = some (.int .u64 (v : Int)) := (hs6.2.cell (p := ⟨w4.heap.size, 0, none⟩) (by show w4.heap.size < _; omega) hn4).trans hr0
  have ha1 : w6.cell? ⟨w4.heap.size, 1, none⟩ = some (.bool true) := (hs6.2.cell (p := ⟨w4.heap.size, 1, none⟩) (by show w4.heap.size < _; omega) hn4).trans hr1
  have ha2 : w6.cell? ⟨w5.heap.size, 0, none⟩ = some (.int .u64 (x : Int)) := (hs6.2.cell (p := ⟨w5.heap.size, 0, none⟩) (by show w5.heap.size < _; omega) hn5).trans hr2
  have ha3 : w6.cell? ⟨w5.heap.size, 1, none⟩ = some (.bool false) := (hs6.2.cell (p := ⟨w5.heap.size, 1, none⟩) (by show w5.heap.size < _; omega) hn5).trans hr3
  have hl6 : w5.heap.size < w6.heap.size := by have := hs6.2.size; omega
  have hl7 : w4.heap.size < w6.heap.size := by omega
  have HT6 := HT5.trans hs6.2
  clear hr0 hr1 hr2 hr3 hs6 hn4 hn5
  go_wp2
  go_ret
  exact ⟨rfl, Touch.below (hb1.after hb2) (HT6.alloc _) (Nat.le_trans hb1.size hb2.size) fun k hk => by have := hb1.size; rcases hk with rfl | rfl <;> omega⟩

set_option maxHeartbeats 2000000 in
theorem casLaw_hit4 (v0 x0 y0 : Int) (v y : Nat) (e1 : v0 % 4294967296 = (v : Int)) (e2 : x0 % 4294967296 = (v : Int)) (e3 : y0 % 4294967296 = (y : Int)) (h1 : 0 ≤ v0) (h1' : v0 ≤ 18446744073709551615) (h2 : 0 ≤ x0) (h2' : x0 ≤ 18446744073709551615) (h3 : 0 ≤ y0) (h3' : y0 ≤ 18446744073709551615) (t : Int) (w : World) (ht0 : 0 ≤ t) (ht : t ≤ 255) :
    Calls Try.prog 4 #[.int .u64 v0, .int .u64 x0, .int .u64 y0, .int .u8 t, .bool true] w (TrueBelow w) := by
  have hv8 : v < 2 ^ (8 * 4) := by omega
  have hy8 : y < 2 ^ (8 * 4) := by omega
  have hx8 : v < 2 ^ (8 * 4) := by omega
  have hv : v < 18446744073709551616 := by omega
  obtain ⟨k, hk⟩ : ∃ k : Nat, t % 8 * 4 = (k : Int) := ⟨(t % 8 * 4).toNat, by omega⟩
  have hk1 : k % 4 = 0 := by omega
  have hk2 : k + 4 ≤ 64 := by omega
  go_enter Try.func4, Try.ntmps4
  go_wp2_with fail
  refine (fixed_any w).mono ?_
  rintro e w1 ⟨rfl, hb1⟩
  go_wp2_with fail
  refine (new_yes 64 8 w1 (by decide) (by decide) (by decide) (by decide)).mono ?_
  rintro e w2 ⟨g, h, rfl, hB, hg, hh, hb2⟩
  have hgl := hB.g_lt
  have hhl := hB.h_lt
  go_wp2_with fail
  refine (store_at hB k 4 v 4 rfl (by decide) hk1 hk2 hv).mono ?_
  rintro e w3 ⟨A3, l3, cp3, rfl, hs3⟩
  have HB3 := hs3.1
  have HT3 := hs3.2
  clear hs3
  go_wp2_with fail
  have hcas1 := cas_at HB3 k 4 v v 4 rfl (by decide) hk1 hk2 hv hv8 v (by rw [Mb.nm_put]; exact Nat.mod_eq_of_lt hv8)
  rw [if_pos rfl, decide_eq_true rfl, Mb.put_put] at hcas1
  refine hcas1.mono ?_
  rintro e w4 ⟨A4, l4, cp4, rfl, hs4⟩
  clear hcas1
  go_wp2_with fail
  have HB4 := hs4.1.alloc (.cells #[.int .u64 (v : Int), .bool true, .slice A4 l4 cp4] 32)
  have HT4 := (HT3.trans hs4.2).alloc (.cells #[.int .u64 (v : Int), .bool true, .slice A4 l4 cp4] 32)
  have hp0 : (w4.alloc (.cells #[.int .u64 (v : Int), .bool true, .slice A4 l4 cp4] 32)).cell? ⟨w4.heap.size, 0, none⟩ = some (.int .u64 (v : Int)) := by go_simp
  have hp1 : (w4.alloc (.cells #[.int .u64 (v : Int), .bool true, .slice A4 l4 cp4] 32)).cell? ⟨w4.heap.size, 1, none⟩ = some (.bool true) := by go_simp
  have hz4 : (w4.alloc (.cells #[.int .u64 (v : Int), .bool true, .slice A4 l4 cp4] 32)).heap.size = w4.heap.size + 1 := by simp
  have hl4 : w2.heap.size ≤ w4.heap.size := (HT3.trans hs4.2).size
  generalize w4.alloc (.cells #[.int .u64 (v : Int), .bool true, .slice A4 l4 cp4] 32) = W4 at HB4 HT4 hp0 hp1 hz4 ⊢
  clear hs4 HT3
  have hcas2 := cas_at HB4 k 4 v y 4 rfl (by decide) hk1 hk2 hv hv8 v (by rw [Mb.nm_put]; exact Nat.mod_eq_of_lt hx8)
  rw [if_pos rfl, decide_eq_true rfl, Mb.put_put] at hcas2
  refine hcas2.mono ?_
  rintro e w5 ⟨A5, l5, cp5, rfl, hs5⟩
  clear hcas2
  have hn4 : ¬ Two g h w4.heap.size := by unfold Two; omega
  have hq0 : w5.cell? ⟨w4.heap.size, 0, none⟩ = some (.int .u64 (v : Int)) := (hs5.2.cell (p := ⟨w4.heap.size, 0, none⟩) (by show w4.heap.size < _; omega) hn4).trans hp0
  have hq1 : w5.cell? ⟨w4.heap.size, 1, none⟩ = some (.bool true) := (hs5.2.cell (p := ⟨w4.heap.size, 1, none⟩) (by show w4.heap.size < _; omega) hn4).trans hp1
  have hl5 : w4.heap.size < w5.heap.size := by have := hs5.2.size; omega
  have HB5 := hs5.1.alloc (.cells #[.int .u64 (v : Int), .bool true, .slice A5 l5 cp5] 32)
  have HT5 := (HT4.trans hs5.2).alloc (.cells #[.int .u64 (v : Int), .bool true, .slice A5 l5 cp5] 32)
  clear hs5 hp0 hp1 hz4 HT4 HB4
  go_wp2_with fail
  have hr0 : (w5.alloc (.cells #[.int .u64 (v : Int), .bool true, .slice A5 l5 cp5] 32)).cell? ⟨w4.heap.size, 0, none⟩ = some (.int .u64 (v : Int)) := by go_simp
  have hr1 : (w5.alloc (.cells #[.int .u64 (v : Int), .bool true, .slice A5 l5 cp5] 32)).cell? ⟨w4.heap.size, 1, none⟩ = some (.bool true) := by go_simp
  have hr2 : (w5.alloc (.cells #[.int .u64 (v : Int), .bool true, .slice A5 l5 cp5] 32)).cell? ⟨w5.heap.size, 0, none⟩ = some (.int .u64 (v : Int)) := by go_simp
  have hr3 : (w5.alloc (.cells #[.int .u64 (v : Int), .bool true, .slice A5 l5 cp5] 32)).cell? ⟨w5.heap.size, 1, none⟩ = some (.bool true) := by go_simp
  have hz5 : (w5.alloc (.cells #[.int .u64 (v : Int), .bool true, .slice A5 l5 cp5] 32)).heap.size = w5.heap.size + 1 := by simp
  generalize w5.alloc (.cells #[.int .u64 (v : Int), .bool true, .slice A5 l5 cp5] 32) = W5 at HB5 HT5 hr0 hr1 hr2 hr3 hz5 ⊢
  clear hq0 hq1
  refine (load_at HB5 k 4 4 rfl (by decide) hk1 hk2 y (by rw [Mb.nm_put]; exact Nat.mod_eq_of_lt hy8)).mono ?_
  rintro e w6 ⟨A6, l6, cp6, rfl, hs6⟩
  have hn5 : ¬ Two g h w5.heap.size := by unfold Two; omega
  have ha0 : w6.cell? ⟨w4.heap.size, 0, none⟩ = some (.int .u64 (v : Int)) := (hs6.2.cell (p := ⟨w4.heap.size, 0, none⟩) (by show w4.heap.size < _; omega) hn4).trans hr0
  have ha1 : w6.cell? ⟨w4.heap.size, 1, none⟩ = some (.bool true) := (hs6.2.cell (p := ⟨w4.heap.size, 1, none⟩) (by show w4.heap.size < _; omega) hn4).trans hr1
  have ha2 : w6.cell? ⟨w5.heap.size, 0, none⟩ = some (.int .u64 (v : Int)) := (hs6.2.cell (p := ⟨w5.heap.size, 0, none⟩) (by show w5.heap.size < _; omega) hn5).trans hr2
  have ha3 : w6.cell? ⟨w5.heap.size, 1, none⟩ = some (.bool true) := (hs6.2.cell (p := ⟨w5.heap.size, 1, none⟩) (by show w5.heap.size < _; omega) hn5).trans hr3
  have hl6 : w5.heap.size < w6.heap.size := by have := hs6.2.size; omega
  have hl7 : w4.heap.size < w6.heap.size := by omega
  have HT6 := HT5.trans hs6.2
  clear hr0 hr1 hr2 hr3 hs6 hn4 hn5
  go_wp2
  go_ret
  exact ⟨rfl, Touch.below (hb1.after hb2) (HT6.alloc _) (Nat.le_trans hb1.size hb2.size) fun k hk => by have := hb1.size; rcases hk with rfl | rfl <;> omega⟩

set_option maxHeartbeats 2000000 in
theorem casLaw_miss4 (v0 x0 y0 : Int) (v x y : Nat) (e1 : v0 % 4294967296 = (v : Int)) (e2 : x0 % 4294967296 = (x : Int)) (e3 : y0 % 4294967296 = (y : Int)) (h1 : 0 ≤ v0) (h1' : v0 ≤ 18446744073709551615) (h2 : 0 ≤ x0) (h2' : x0 ≤ 18446744073709551615) (h3 : 0 ≤ y0) (h3' : y0 ≤ 18446744073709551615) (t : Int) (w : World) (hne : ¬ x = v) (ht0 : 0 ≤ t) (ht : t ≤ 255) :
    Calls Try.prog 4 #[.int .u64 v0, .int .u64 x0, .int .u64 y0, .int .u8 t, .bool true] w (TrueBelow w) := by
  have hv8 : v < 2 ^ (8 * 4) := by omega
  have hy8 : y < 2 ^ (8 * 4) := by omega
  have hx8 : x < 2 ^ (8 * 4) := by omega
  have hv : v < 18446744073709551616 := by omega
  have HNE := Lib.hid hne
  have hne1 : (((x : Nat) : Int) == ((v : Nat) : Int)) = false := by simpa using fun e => hne (Int.ofNat_inj.1 e)
  have hne2 : (((x : Nat) : Int) != ((v : Nat) : Int)) = true := by simp [hne1, bne]
  clear hne
  obtain ⟨k, hk⟩ : ∃ k : Nat, t % 8 * 4 = (k : Int) := ⟨(t % 8 * 4).toNat, by omega⟩
  have hk1 : k % 4 = 0 := by omega
  have hk2 : k + 4 ≤ 64 := by omega
  go_enter Try.func4, Try.ntmps4
  go_wp2_with fail
  refine (fixed_any w).mono ?_
  rintro e w1 ⟨rfl, hb1⟩
  go_wp2_with fail
  refine (new_yes 64 8 w1 (by decide) (by decide) (by decide) (by decide)).mono ?_
  rintro e w2 ⟨g, h, rfl, hB, hg, hh, hb2⟩
  have hgl := hB.g_lt
  have hhl := hB.h_lt
  go_wp2_with fail
  refine (store_at hB k 4 v 4 rfl (by decide) hk1 hk2 hv).mono ?_
  rintro e w3 ⟨A3, l3, cp3, rfl, hs3⟩
  have HB3 := hs3.1
  have HT3 := hs3.2
  clear hs3
  go_wp2_with fail
  have hcas1 := cas_at HB3 k 4 v x 4 rfl (by decide) hk1 hk2 hv hv8 v (by rw [Mb.nm_put]; exact Nat.mod_eq_of_lt hv8)
  rw [if_pos rfl, decide_eq_true rfl, Mb.put_put] at hcas1
  refine hcas1.mono ?_
  rintro e w4 ⟨A4, l4, cp4, rfl, hs4⟩
  clear hcas1
  go_wp2_with fail
  have HB4 := hs4.1.alloc (.cells #[.int .u64 (v : Int), .bool true, .slice A4 l4 cp4] 32)
  have HT4 := (HT3.trans hs4.2).alloc (.cells #[.int .u64 (v : Int), .bool true, .slice A4 l4 cp4] 32)
  have hp0 : (w4.alloc (.cells #[.int .u64 (v : Int), .bool true, .slice A4 l4 cp4] 32)).cell? ⟨w4.heap.size, 0, none⟩ = some (.int .u64 (v : Int)) := by go_simp
  have hp1 : (w4.alloc (.cells #[.int .u64 (v : Int), .bool true, .slice A4 l4 cp4] 32)).cell? ⟨w4.heap.size, 1, none⟩ = some (.bool true) := by go_simp
  have hz4 : (w4.alloc (.cells #[.int .u64 (v : Int), .bool true, .slice A4 l4 cp4] 32)).heap.size = w4.heap.size + 1 := by simp
  have hl4 : w2.heap.size ≤ w4.heap.size := (HT3.trans hs4.2).size
  generalize w4.alloc (.cells #[.int .u64 (v : Int), .bool true, .slice A4 l4 cp4] 32) = W4 at HB4 HT4 hp0 hp1 hz4 ⊢
  clear hs4 HT3
  have hcas2 := cas_at HB4 k 4 v y 4 rfl (by decide) hk1 hk2 hv hv8 x (by rw [Mb.nm_put]; exact Nat.mod_eq_of_lt hx8)
  rw [if_neg HNE.out, decide_eq_false HNE.out] at hcas2
  refine hcas2.mono ?_
  rintro e w5 ⟨A5, l5, cp5, rfl, hs5⟩
  clear hcas2
  have hn4 : ¬ Two g h w4.heap.size := by unfold Two; omega
  have hq0 : w5.cell? ⟨w4.heap.size, 0, none⟩ = some (.int .u64 (v : Int)) := (hs5.2.cell (p := ⟨w4.heap.size, 0, none⟩) (by show w4.heap.size < _; omega) hn4).trans hp0
  have hq1 : w5.cell? ⟨w4.heap.size, 1, none⟩ = some (.bool true) := (hs5.2.cell (p := ⟨w4.heap.size, 1, none⟩) (by show w4.heap.size < _; omega) hn4).trans hp1
  have hl5 : w4.heap.size < w5.heap.size := by have := hs5.2.size; omega
  have HB5 := hs5.1.alloc (.cells #[.int .u64 (x : Int), .bool false, .slice A5 l5 cp5] 32)
  have HT5 := (HT4.trans hs5.2).alloc (.cells #[.int .u64 (x : Int), .bool false, .slice A5 l5 cp5] 32)
  clear hs5 hp0 hp1 hz4 HT4 HB4
  go_wp2_with fail
  have hr0 : (w5.alloc (.cells #[.int .u64 (x : Int), .bool false, .slice A5 l5 cp5] 32)).cell? ⟨w4.heap.size, 0, none⟩ = some (.int .u64 (v : Int)) := by go_simp
  have hr1 : (w5.alloc (.cells #[.int .u64 (x : Int), .bool false, .slice A5 l5 cp5] 32)).cell? ⟨w4.heap.size, 1, none⟩ = some (.bool true) := by go_simp
  have hr2 : (w5.alloc (.cells #[.int .u64 (x : Int), .bool false, .slice A5 l5 cp5] 32)).cell? ⟨w5.heap.size, 0, none⟩ = some (.int .u64 (x : Int)) := by go_simp
  have hr3 : (w5.alloc (.cells #[.int .u64 (x : Int), .bool false, .slice A5 l5 cp5] 32)).cell? ⟨w5.heap.size, 1, none⟩ = some (.bool false) := by go_simp
  have hz5 : (w5.alloc (.cells #[.int .u64 (x : Int), .bool false, .slice A5 l5 cp5] 32)).heap.size = w5.heap.size + 1 := by simp
  generalize w5.alloc (.cells #[.int .u64 (x : Int), .bool false, .slice A5 l5 cp5] 32) = W5 at HB5 HT5 hr0 hr1 hr2 hr3 hz5 ⊢
  clear hq0 hq1
  refine (load_at HB5 k 4 4 rfl (by decide) hk1 hk2 x (by rw [Mb.nm_put]; exact Nat.mod_eq_of_lt hx8)).mono ?_
  rintro e w6 ⟨A6, l6, cp6, rfl, hs6⟩
  have hn5 : ¬ Two g h w5.heap.size := by unfold Two; omega
  have ha0 : w6.cell? ⟨w4.heap.size, 0, none⟩ = some (.int .u64 (v : Int)) := (hs6.2.cell (p := ⟨w4.heap.size, 0, none⟩) (by show w4.heap.size < _; omega) hn4).trans hr0
  have ha1 : w6.cell? ⟨w4.heap.size, 1, none⟩ = some (.bool true) := (hs6.2.cell (p := ⟨w4.heap.size, 1, none⟩) (by show w4.heap.size < _; omega) hn4).trans hr1
  have ha2 : w6.cell? ⟨w5.heap.size, 0, none⟩ = some (.int .u64 (x : Int)) := (hs6.2.cell (p := ⟨w5.heap.size, 0, none⟩) (by show w5.heap.size < _; omega) hn5).trans hr2
  have ha3 : w6.cell? ⟨w5.heap.size, 1, none⟩ = some (.bool false) := (hs6.2.cell (p := ⟨w5.heap.size, 1, none⟩) (by show w5.heap.size < _; omega) hn5).trans hr3
  have hl6 : w5.heap.size < w6.heap.size := by have := hs6.2.size; omega
  have hl7 : w4.heap.size < w6.heap.size := by omega
  have HT6 := HT5.trans hs6.2
  clear hr0 hr1 hr2 hr3 hs6 hn4 hn5
  go_wp2
  go_ret
  exact ⟨rfl, Touch.below (hb1.after hb2) (HT6.alloc _) (Nat.le_trans hb1.size hb2.size) fun k hk => by have := hb1.size; rcases hk with rfl | rfl <;> omega⟩

/-- The statement, whatever the arguments. -/
theorem casLaw_all (v x y t : Int) (b : Bool) (w : World) (h1 : 0 ≤ v) (h1' : v ≤ 18446744073709551615) (h2 : 0 ≤ x) (h2' : x ≤ 18446744073709551615) (h3 : 0 ≤ y) (h3' : y ≤ 18446744073709551615) (ht0 : 0 ≤ t) (ht : t ≤ 255) :
    Calls Try.prog 4 #[.int .u64 v, .int .u64 x, .int .u64 y, .int .u8 t, .bool b] w (TrueBelow w) := by
  cases b with
  | false =>
    obtain ⟨v, rfl⟩ := Int.eq_ofNat_of_zero_le h1
    obtain ⟨x, rfl⟩ := Int.eq_ofNat_of_zero_le h2
    obtain ⟨y, rfl⟩ := Int.eq_ofNat_of_zero_le h3
    by_cases e : x = v
    · subst e
      exact casLaw_hit x y t w (by omega) (by omega) ht0 ht
    · exact casLaw_miss v x y t w (by omega) (by omega) (by omega) e ht0 ht
  | true =>
    obtain ⟨v2, e1⟩ : ∃ k : Nat, v % 4294967296 = (k : Int) := ⟨(v % 4294967296).toNat, by omega⟩
    obtain ⟨x2, e2⟩ : ∃ k : Nat, x % 4294967296 = (k : Int) := ⟨(x % 4294967296).toNat, by omega⟩
    obtain ⟨y2, e3⟩ : ∃ k : Nat, y % 4294967296 = (k : Int) := ⟨(y % 4294967296).toNat, by omega⟩
    by_cases e : x2 = v2
    · subst e
      exact casLaw_hit4 v x y x2 y2 e1 e2 e3 h1 h1' h2 h2' h3 h3' t w ht0 ht
    · exact casLaw_miss4 v x y v2 x2 y2 e1 e2 e3 h1 h1' h2 h2' h3 h3' t w e ht0 ht
end Go.Proofs.Ytinacnkddjelhaa
