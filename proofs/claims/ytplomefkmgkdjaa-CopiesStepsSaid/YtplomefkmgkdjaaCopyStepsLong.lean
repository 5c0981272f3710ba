/-
  The statement that each access of a copy is the document's (layer 5), walked for more bytes than may be.
-/
import Derived.Test.YtplomefkmgkdjaaCopyStepsLaw
namespace Go.Proofs.Ytplomefkmgkdjaa
open Go.RowKit

set_option linter.unusedSimpArgs false in
set_option maxRecDepth 100000 in
set_option maxHeartbeats 4000000 in
theorem stepsLaw_mainb (w : World) (k at_ n : Int) (B : Option Addr) (L cp : Nat) (f : Nat → Nat) (hB : BytesAt w (.slice B L cp) (Mb.bl f 0 L)) (hcp : L ≤ cp) (hcp2 : cp ≤ 9223372036854775807)
    (A : Option Addr) (M cap : Nat) (T : Nat → Ans) (hT : ToldAt w A M T) (hM : M ≤ cap) (hcap : cap ≤ 9223372036854775807) (hk0 : 0 ≤ k) (hk1 : k ≤ 255) (hL : L ≤ 600) (hM2 : M ≤ 90) (hn6 : 131072 < n) (hat0 : -1099511627776 ≤ at_) (hat1 : at_ ≤ 1099511627776) :
    Calls Try.prog 3 #[.int .u8 k, .int .i64 at_, .int .i64 n, .slice B L cp, .slice A M cap] w (TrueBelow w) := by
  have HB := Lib.hid hB
  have HT := Lib.hid hT
  have hn7 : 600 < n := by omega
  clear hB hT
  go_enter Try.func3, Try.ntmps3
  go_wp2_with fail
  refine (copiesFixed_any w).mono ?_
  rintro e w1 ⟨rfl, hq1⟩
  have HW1 := Lib.hid hq1
  have HB1 := Lib.hid (HB.out.below hq1)
  have hown := Lib.hid (own_empty w1)
  have hs1 := hq1.size
  clear hq1
  have hlen : (Mb.bl f 0 L).length = L := Mb.bl_length _ _ _
  have HLEN := Lib.hid hlen
  clear hlen
  go_wp2_with (at_builtin; refine wpList_app_any rfl _ _ rfl w1.heap.size _ _ [] (Mb.bl f 0 L) rfl rfl hown.out (HB1.out.below ((Below.refl _ _).alloc (Nat.le_refl _) _)) (by have := HLEN.out; simp; omega) (by simp) ?_; intro v2 w2 happ)
  have hbel2 := happ.below hown.out ((Below.refl w1.heap.size w1).alloc (Nat.le_refl _) (.cells #[] 5)) (by simp)
  obtain ⟨A2, c2, rfl, _⟩ := happ.own.bytes
  have ho2 := happ.own
  rw [List.nil_append, HLEN.out] at ho2 ⊢
  have HO2 := Lib.hid ho2
  have HW2 := Lib.hid (HW1.out.trans (hbel2.mono hs1))
  have hs2 := hbel2.size
  clear happ ho2 hbel2
  refine (made_any k at_ n A2 L c2 f w2 hk0 hk1 (by omega) HO2.out.bytes (by omega)).mono ?_
  rintro e w3 ⟨g, rfl, hc3, hb3⟩
  have HC3 := Lib.hid hc3
  have HO3 := Lib.hid (HO2.out.below hb3)
  have HW3 := Lib.hid (HW2.out.trans (hb3.mono (Nat.le_trans hs1 hs2)))
  have hs3 := hb3.size
  clear hc3 hb3
  go_wp2_with fail
  go_loopw [57] (fun t wr => ∃ i : Nat, t = .int .i64 i ∧ i ≤ L ∧ Touch (fun q => (Value.slice A2 L c2).ownBlock = some q) w3 wr ∧ ∀ g2, A2 = some ⟨g2, 0, none⟩ → 0 < L → ByteRow wr g2 L) (fun t _ => L - (intOf t).toNat)
  case atStart =>
    refine ⟨0, rfl, Nat.zero_le _, Touch.refl _ _, fun g2 hg2 hp => ?_⟩
    obtain ⟨g3, e3, _, _, hr⟩ := HO3.out.row HLEN.out hp
    rw [hg2] at e3
    injection e3 with e3
    injection e3 with e3
    rw [e3]
    exact hr
  case round =>
    obtain ⟨i, rfl, hi, htt, hrow⟩ := hrel
    by_cases hlt : i < L
    · obtain ⟨g2, rfl, hg2, hg3, _⟩ := HO3.out.row HLEN.out (by omega)
      have hr := hrow g2 rfl (by omega)
      obtain ⟨x, hcx, hfx⟩ := hr.cell hlt
      have HR := Lib.hid hr
      have HTT := Lib.hid htt
      have hg4 : (i : Int) < L := by omega
      clear hrow hr htt
      go_wp2
      go_roundw
      case rel =>
        exact ⟨i + 1, by go_num, by omega, HTT.out.setCell (p := ⟨g2, i, none⟩) rfl _, fun g5 e5 _ => by injection e5 with e5; injection e5 with e5; subst e5; exact HR.out.set _⟩
      case measure => simp [intOf]; omega
    · have hiL : (L : Int) ≤ i := by omega
      have hnear : ∀ q, (Value.slice A2 L c2).ownBlock = some q → w1.heap.size ≤ q ∧ q < w2.heap.size := fun q hq => HO2.out.ge hq
      have HC4 := Lib.hid (HC3.out.touch htt (fun q h1 _ h3 => by have := (hnear q h3).2; omega) (fun q hq => by cases hq))
      have HW4 := Lib.hid (Touch.below HW3.out htt (Nat.le_trans hs1 (Nat.le_trans hs2 hs3)) (fun q hq => by have := (hnear q hq).1; omega))
      clear hnear htt hrow
      have hs4 := HW4.out.size
      have hbase : w.heap.size ≤ w2.heap.size := by omega
      go_wp2_with fail
      generalize hkd : kdOf k at_ f = kd at HC4
      have hpl := kdOf_place k at_ f
      rw [hkd] at hpl
      have hN : lenOf k n L ≤ 131072 := by
        have := HC4.out.few
        omega
      generalize hNq : lenOf k n L = N at HC4 hN
      have HKD := Lib.hid (And.intro hkd (And.intro hNq hpl))
      clear hkd hNq hpl
      have hMp : M ≤ 9223372036854775807 := by omega
      go_loopw [14] (fun t wr => ∃ i : Nat, t = .int .i64 i ∧ i ≤ M + 1 ∧ Below w.heap.size w wr ∧ w3.heap.size ≤ wr.heap.size ∧ (i ≤ M → StepsAt kd N T w2.heap.size w3.heap.size g i wr)) (fun t _ => M + 1 - (intOf t).toNat)
      case atStart =>
        refine ⟨0, rfl, Nat.zero_le _, HW4.out, ?_, fun _ => ⟨.slice none 0 0, ?_, Nat.le_refl _⟩⟩
        · exact HC4.out.there
        · rw [Cy.at_zero, upTo_zero]
          simpa [cat] using HC4.out
      case round =>
        obtain ⟨i, rfl, hi, hbel, htop, hst⟩ := hrel
        by_cases hlt : i ≤ M
        · obtain ⟨v, hc, hcat⟩ := hst hlt
          have HC := Lib.hid hc
          have HCAT := Lib.hid hcat
          have HBEL := Lib.hid hbel
          have hsz := hbel.size
          have hg5 : (i : Int) ≤ M := by omega
          have hg6 : (0 : Int) ≤ i := by omega
          have hg7 : (i : Int) ≤ cap := by omega
          clear hc hcat hbel hst hi
          have htape := Go.Deep.blk_alloc_new wr (.cells #[.slice A i cap, .int .i64 0, .int .i64 0, .int .i64 0, .int .i64 0, .int .u64 0, .int .u64 0, .slice none 0 0, .bool false] 32)
          have HTP : Hid (Tp (wr.alloc (.cells #[.slice A i cap, .int .i64 0, .int .i64 0, .int .i64 0, .int .i64 0, .int .u64 0, .int .u64 0, .slice none 0 0, .bool false] 32)) wr.heap.size A cap i 0 0 0 0 0 0 (.slice none 0 0) false) := ⟨htape⟩
          have hbW := (Below.refl wr.heap.size wr).alloc (Nat.le_refl _) (.cells #[.slice A i cap, .int .i64 0, .int .i64 0, .int .i64 0, .int .i64 0, .int .u64 0, .int .u64 0, .slice none 0 0, .bool false] 32)
          have HCW := Lib.hid (HC.out.below hbW)
          have HBW := Lib.hid (HBEL.out.trans (hbW.mono hsz))
          clear htape hbW
          go_wp2_with fail
          generalize hpq : wr.heap.size = p at HTP ⊢
          have HPQ := Lib.hid hpq
          rw [hpq] at htop hsz
          clear hpq
          generalize wr.alloc (.cells #[.slice A i cap, .int .i64 0, .int .i64 0, .int .i64 0, .int .i64 0, .int .u64 0, .int .u64 0, .slice none 0 0, .bool false] 32) = W at HTP HCW HBW ⊢
          have hpW := HTP.out.lt
          have hTW := HT.out.below HBW.out
          refine (said_any k at_ n B L cp f HTP.out (by omega) hcap (hTW.le hlt) (fun hp a ha => by obtain ⟨tb, to, e, htb, _⟩ := HT.out (by omega); rw [ha] at e; injection e with e; subst e; show tb ≠ p; omega) (by have := HCAT.out; omega) hk0 hk1 (by omega) (by omega) (HB.out.below HBW.out) (by omega) hcp hcp2).mono ?_
          rw [HKD.out.1, HKD.out.2.1]
          rintro e w5 ⟨B5, l5, c5, rfl, ht5, ho5, hcase⟩
          have hvp : ∀ q, v.ownBlock = some q → ¬ One p q := fun q hq h2 => by
            have h3 := (HC.out.own.ge hq).2
            have h4 := HPQ.out
            have : q = p := h2
            omega
          have HC5 := Lib.hid (HCW.out.touch ht5 (fun q _ h2 h3 => by have : q = p := h3; omega) hvp)
          have HO5 := Lib.hid ho5
          have HW5 := Lib.hid (Touch.below HBW.out ht5 HBW.out.size (fun q hq => by have : q = p := hq; omega))
          have hs5 := ht5.size
          have hbase5 : p < w5.heap.size := Nat.lt_of_lt_of_le hpW ht5.size
          have HTD := Lib.hid hTW
          clear ht5 ho5 hvp hTW
          obtain ⟨K, P, Q, bs, ee, hnx, B3, L3, c3, j3, htw, hbw⟩ := next_both (base := w2.heap.size) (top := w3.heap.size) (g := g) hcase
          have HNX := Lib.hid hnx
          have HTW5 := Lib.hid htw
          have HBW5 := Lib.hid hbw
          clear hcase hnx htw hbw
          go_wp2_with fail
          refine (HNX.out _ _ _ HC5.out).mono ?_
          rintro e w6 ⟨A6, l6, c6, rfl, ho6, hb6⟩
          have hb6a := (Below.refl w6.heap.size w6).alloc (Nat.le_refl _) (.cells #[.int .i64 K, .int .i64 P, .int .i64 Q, .int .u64 0, .int .u64 0, .slice A6 l6 c6] 30)
          have HC6 := Lib.hid ((HC5.out.below hb6).below hb6a)
          have HO6 := Lib.hid ((HO5.out.below hb6).below hb6a)
          have HP6 := Lib.hid (ho6.below hb6a)
          have HTW6 := Lib.hid ((HTW5.out.below hb6).below hb6a)
          have HBW6 := Lib.hid ((HBW5.out.below hb6).below hb6a)
          have HW6 := Lib.hid ((HW5.out.trans (hb6.mono (by omega))).trans (hb6a.mono (by have := hb6.size; omega)))
          have HA6 := Lib.hid (AcAt.made w6 K P Q 0 0 (.slice A6 l6 c6))
          have hs6 := hb6.size
          clear ho6 hb6 hb6a
          go_wp2_with fail
          generalize w6.heap.size = x6 at HA6 hs6 ⊢
          generalize w6.alloc (.cells #[.int .i64 K, .int .i64 P, .int .i64 Q, .int .u64 0, .int .u64 0, .slice A6 l6 c6] 30) = W6 at HC6 HO6 HP6 HTW6 HBW6 HW6 HA6 ⊢
          refine (HNX.out _ _ _ HC6.out).mono ?_
          rintro e w7 ⟨A7, l7, c7, rfl, ho7, hb7⟩
          have hb7a := (Below.refl w7.heap.size w7).alloc (Nat.le_refl _) (.cells #[.int .i64 K, .int .i64 P, .int .i64 Q, .int .u64 0, .int .u64 0, .slice A7 l7 c7] 30)
          have HC7 := Lib.hid ((HC6.out.below hb7).below hb7a)
          have HO7 := Lib.hid ((HO6.out.below hb7).below hb7a)
          have HP7 := Lib.hid ((HP6.out.below hb7).below hb7a)
          have HQ7 := Lib.hid (ho7.below hb7a)
          have HBW7 := Lib.hid ((HBW6.out.below hb7).below hb7a)
          have HA7 := AcAt.made w7 K P Q 0 0 (.slice A7 l7 c7)
          have hs7 := hb7.size
          have hs6W := HW6.out.size
          have HW7 := Lib.hid ((HW6.out.trans (hb7.mono hs6W)).trans (hb7a.mono (by omega)))
          have HBO7 : Hid (Both x6 w7.heap.size p (w7.alloc (.cells #[.int .i64 K, .int .i64 P, .int .i64 Q, .int .u64 0, .int .u64 0, .slice A7 l7 c7] 30)) K P Q (.slice A6 l6 c6) (.slice A7 l7 c7) A cap i j3 K P Q (.slice B3 L3 c3) ee) := ⟨(HA6.out.below hb7).below hb7a, HA7, (HTW6.out.below hb7).below hb7a⟩
          have hx67 : x6 < w7.heap.size := Nat.lt_of_lt_of_le HA6.out.lt hs7
          clear ho7 hb7 hb7a HA7
          go_wp2_with fail
          generalize w7.heap.size = x7 at HBO7 hx67 ⊢
          generalize w7.alloc (.cells #[.int .i64 K, .int .i64 P, .int .i64 Q, .int .u64 0, .int .u64 0, .slice A7 l7 c7] 30) = W7 at HC7 HO7 HP7 HQ7 HBW7 HBO7 HW7 ⊢
          have HBB := HBO7.out
          obtain ⟨⟨a0, a1, a2, a3, a4, a5⟩, ⟨b0, b1, b2, b3, b4, b5⟩, htt⟩ := HBB
          have t2 := htt.c2
          have t3 := htt.c3
          have t4 := htt.c4
          have t5 := htt.c5
          have t6 := htt.c6
          have t7 := htt.c7
          have t8 := htt.c8
          clear htt
          have hys : Hid ((if kd.reads = true then cat T (upTo i N) else []).length ≤ 1073741824) := by
            have h1 := cat_le T (upTo_le i N)
            have h2 := HCAT.out
            show _ ≤ _
            split
            · omega
            · simp
          generalize hysq : (if kd.reads = true then cat T (upTo i N) else []) = ys at hys HC7 HO7
          have HYS := Lib.hid hysq
          clear hysq
          have hk7 := HO7.out.bytes.drew.conv
          refine wp_region_noPanic ?_
          refine wp_region_held_drew (S := (fun w' => (convert 22 9 (.slice B5 l5 c5)).run Try.prog w' = .ok (.string (strOfNums ys)) w' ∧ w'.cell? ⟨p, 8, none⟩ = some (.bool ee) ∧ w'.cell? ⟨x6, 0, none⟩ = some (.int .i64 K) ∧ w'.cell? ⟨x6, 1, none⟩ = some (.int .i64 P) ∧ w'.cell? ⟨x6, 2, none⟩ = some (.int .i64 Q) ∧ w'.cell? ⟨x6, 3, none⟩ = some (.int .u64 0) ∧ w'.cell? ⟨x6, 4, none⟩ = some (.int .u64 0) ∧ w'.cell? ⟨x6, 5, none⟩ = some (.slice A6 l6 c6) ∧ w'.cell? ⟨x7, 0, none⟩ = some (.int .i64 K) ∧ w'.cell? ⟨x7, 1, none⟩ = some (.int .i64 P) ∧ w'.cell? ⟨x7, 2, none⟩ = some (.int .i64 Q) ∧ w'.cell? ⟨x7, 3, none⟩ = some (.int .u64 0) ∧ w'.cell? ⟨x7, 4, none⟩ = some (.int .u64 0) ∧ w'.cell? ⟨x7, 5, none⟩ = some (.slice A7 l7 c7) ∧ w'.cell? ⟨p, 2, none⟩ = some (.int .i64 K) ∧ w'.cell? ⟨p, 3, none⟩ = some (.int .i64 P) ∧ w'.cell? ⟨p, 4, none⟩ = some (.int .i64 Q) ∧ w'.cell? ⟨p, 5, none⟩ = some (.int .u64 0) ∧ w'.cell? ⟨p, 6, none⟩ = some (.int .u64 0) ∧ w'.cell? ⟨p, 7, none⟩ = some (.slice B3 L3 c3))) (by kernel_rfl) ?_ (fun hHeld => ?_)
          · (try dsimp only); go_keep
          refine wpAnyH_take (i := 0) (oi := _) (v := ?_) rfl (by kernel_rfl) (by kernel_rfl) (by kernel_rfl) (fun _ _ _ h => h) (Or.inl ⟨by rfl, ?_⟩) (by assumption) ?_
          rotate_left
          · (intro w hSw; (try dsimp only at hSw); go_simp; try (with_reducible rfl))
          try simp only [Act.put, Array.reduceGetElem, List.setIfInBounds_toArray, List.set_cons_zero, List.set_cons_succ]
          refine wpAnyH_take (i := 1) (oi := _) (v := ?_) rfl (by kernel_rfl) (by kernel_rfl) (by kernel_rfl) (fun _ _ _ h => h) (Or.inl ⟨by rfl, ?_⟩) (by assumption) ?_
          rotate_left
          · (intro w hSw; (try dsimp only at hSw); go_simp; try (with_reducible rfl))
          try simp only [Act.put, Array.reduceGetElem, List.setIfInBounds_toArray, List.set_cons_zero, List.set_cons_succ]
          refine wpAnyH_take (i := 2) (oi := _) (v := ?_) rfl (by kernel_rfl) (by kernel_rfl) (by kernel_rfl) (fun _ _ _ h => h) (Or.inl ⟨by rfl, ?_⟩) (by assumption) ?_
          rotate_left
          · (intro w hSw; (try dsimp only at hSw); go_simp; try (with_reducible rfl))
          try simp only [Act.put, Array.reduceGetElem, List.setIfInBounds_toArray, List.set_cons_zero, List.set_cons_succ]
          refine wpAnyH_take (i := 3) (oi := _) (v := ?_) rfl (by kernel_rfl) (by kernel_rfl) (by kernel_rfl) (fun _ _ _ h => h) (Or.inl ⟨by rfl, ?_⟩) (by assumption) ?_
          rotate_left
          · (intro w hSw; (try dsimp only at hSw); go_simp; try (with_reducible rfl))
          try simp only [Act.put, Array.reduceGetElem, List.setIfInBounds_toArray, List.set_cons_zero, List.set_cons_succ]
          refine wpAnyH_take (i := 4) (oi := _) (v := ?_) rfl (by kernel_rfl) (by kernel_rfl) (by kernel_rfl) (fun _ _ _ h => h) (Or.inl ⟨by rfl, ?_⟩) (by assumption) ?_
          rotate_left
          · (intro w hSw; (try dsimp only at hSw); go_simp; try (with_reducible rfl))
          try simp only [Act.put, Array.reduceGetElem, List.setIfInBounds_toArray, List.set_cons_zero, List.set_cons_succ]
          refine wpAnyH_take (i := 5) (oi := _) (v := ?_) rfl (by kernel_rfl) (by kernel_rfl) (by kernel_rfl) (fun _ _ _ h => h) (Or.inl ⟨by rfl, ?_⟩) (by assumption) ?_
          rotate_left
          · (intro w hSw; (try dsimp only at hSw); go_simp; try (with_reducible rfl))
          try simp only [Act.put, Array.reduceGetElem, List.setIfInBounds_toArray, List.set_cons_zero, List.set_cons_succ]
          refine wpAnyH_take (i := 6) (oi := _) (v := ?_) rfl (by kernel_rfl) (by kernel_rfl) (by kernel_rfl) (fun _ _ _ h => h) (Or.inl ⟨by rfl, ?_⟩) (by assumption) ?_
          rotate_left
          · (intro w hSw; (try dsimp only at hSw); go_simp; try (with_reducible rfl))
          try simp only [Act.put, Array.reduceGetElem, List.setIfInBounds_toArray, List.set_cons_zero, List.set_cons_succ]
          refine wpAnyH_take (i := 7) (oi := _) (v := ?_) rfl (by kernel_rfl) (by kernel_rfl) (by kernel_rfl) (fun _ _ _ h => h) (Or.inl ⟨by rfl, ?_⟩) (by assumption) ?_
          rotate_left
          · (intro w hSw; (try dsimp only at hSw); go_simp; try (with_reducible rfl))
          try simp only [Act.put, Array.reduceGetElem, List.setIfInBounds_toArray, List.set_cons_zero, List.set_cons_succ]
          refine wpAnyH_take (i := 8) (oi := _) (v := ?_) rfl (by kernel_rfl) (by kernel_rfl) (by kernel_rfl) (fun _ _ _ h => h) (Or.inl ⟨by rfl, ?_⟩) (by assumption) ?_
          rotate_left
          · (intro w hSw; (try dsimp only at hSw); go_simp; try (with_reducible rfl))
          try simp only [Act.put, Array.reduceGetElem, List.setIfInBounds_toArray, List.set_cons_zero, List.set_cons_succ]
          refine wpAnyH_take (i := 9) (oi := _) (v := ?_) rfl (by kernel_rfl) (by kernel_rfl) (by kernel_rfl) (fun _ _ _ h => h) (Or.inl ⟨by rfl, ?_⟩) (by assumption) ?_
          rotate_left
          · (intro w hSw; (try dsimp only at hSw); go_simp; try (with_reducible rfl))
          try simp only [Act.put, Array.reduceGetElem, List.setIfInBounds_toArray, List.set_cons_zero, List.set_cons_succ]
          refine wpAnyH_take (i := 10) (oi := _) (v := ?_) rfl (by kernel_rfl) (by kernel_rfl) (by kernel_rfl) (fun _ _ _ h => h) (Or.inl ⟨by rfl, ?_⟩) (by assumption) ?_
          rotate_left
          · (intro w hSw; (try dsimp only at hSw); go_simp; try (with_reducible rfl))
          try simp only [Act.put, Array.reduceGetElem, List.setIfInBounds_toArray, List.set_cons_zero, List.set_cons_succ]
          refine wpAnyH_take (i := 11) (oi := _) (v := ?_) rfl (by kernel_rfl) (by kernel_rfl) (by kernel_rfl) (fun _ _ _ h => h) (Or.inl ⟨by rfl, ?_⟩) (by assumption) ?_
          rotate_left
          · (intro w hSw; (try dsimp only at hSw); go_simp; try (with_reducible rfl))
          try simp only [Act.put, Array.reduceGetElem, List.setIfInBounds_toArray, List.set_cons_zero, List.set_cons_succ]
          refine wpAnyH_take (i := 12) (oi := _) (v := ?_) rfl (by kernel_rfl) (by kernel_rfl) (by kernel_rfl) (fun _ _ _ h => h) (Or.inl ⟨by rfl, ?_⟩) (by assumption) ?_
          rotate_left
          · (intro w hSw; (try dsimp only at hSw); go_simp; try (with_reducible rfl))
          try simp only [Act.put, Array.reduceGetElem, List.setIfInBounds_toArray, List.set_cons_zero, List.set_cons_succ]
          refine wpAnyH_take (i := 13) (oi := _) (v := ?_) rfl (by kernel_rfl) (by kernel_rfl) (by kernel_rfl) (fun _ _ _ h => h) (Or.inl ⟨by rfl, ?_⟩) (by assumption) ?_
          rotate_left
          · (intro w hSw; (try dsimp only at hSw); go_simp; try (with_reducible rfl))
          try simp only [Act.put, Array.reduceGetElem, List.setIfInBounds_toArray, List.set_cons_zero, List.set_cons_succ]
          refine wpAnyH_take (i := 14) (oi := _) (v := ?_) rfl (by kernel_rfl) (by kernel_rfl) (by kernel_rfl) (fun _ _ _ h => h) (Or.inl ⟨by rfl, ?_⟩) (by assumption) ?_
          rotate_left
          · (intro w hSw; (try dsimp only at hSw); go_simp; try (with_reducible rfl))
          try simp only [Act.put, Array.reduceGetElem, List.setIfInBounds_toArray, List.set_cons_zero, List.set_cons_succ]
          refine wpAnyH_take (i := 15) (oi := _) (v := ?_) rfl (by kernel_rfl) (by kernel_rfl) (by kernel_rfl) (fun _ _ _ h => h) (Or.inl ⟨by rfl, ?_⟩) (by assumption) ?_
          rotate_left
          · (intro w hSw; (try dsimp only at hSw); go_simp; try (with_reducible rfl))
          try simp only [Act.put, Array.reduceGetElem, List.setIfInBounds_toArray, List.set_cons_zero, List.set_cons_succ]
          refine wpAnyH_take (i := 16) (oi := _) (v := ?_) rfl (by kernel_rfl) (by kernel_rfl) (by kernel_rfl) (fun _ _ _ h => h) (Or.inl ⟨by rfl, ?_⟩) (by assumption) ?_
          rotate_left
          · (intro w hSw; (try dsimp only at hSw); go_simp; try (with_reducible rfl))
          try simp only [Act.put, Array.reduceGetElem, List.setIfInBounds_toArray, List.set_cons_zero, List.set_cons_succ]
          refine wpAnyH_ready (rs := [17]) (by kernel_rfl) (by simp) ?_
          refine AllReadyH.cons (o := _) rfl (fun K9 hK => ?_) ?_
          rotate_left
          · exact AllReadyH.nil
          go_simp
          go_at_call 10
          (with_reducible refine (same_any K P Q 0 0 A6 B3 l6 L3 c6 c3 bs W7.drew HP7.out.bytes.drew HBW7.out.drew).mono ?_)
          rintro e w8 ⟨rfl, hb8⟩
          have hd8 := below_drew hb8
          clear hb8
          have HB8 := HBO7.out.below hd8
          have HBO8 := Lib.hid HB8
          obtain ⟨⟨a0, a1, a2, a3, a4, a5⟩, ⟨b0, b1, b2, b3, b4, b5⟩, htt⟩ := HB8
          have t2 := htt.c2
          have t3 := htt.c3
          have t4 := htt.c4
          have t5 := htt.c5
          have t6 := htt.c6
          have t7 := htt.c7
          have t8 := htt.c8
          have HC8 := Lib.hid (HC7.out.below hd8)
          have HO8 := Lib.hid (HO7.out.below hd8)
          have HP8 := Lib.hid (HP7.out.below hd8)
          have HQ8 := Lib.hid (HQ7.out.below hd8)
          have HW8 := Lib.hid (HW7.out.trans (hd8.mono HW7.out.size))
          clear htt hd8
          have hk8 := HO8.out.bytes.conv
          refine hK.out _ _ ?_ (fun hHeld => ?_)
          · (try dsimp only); go_keep
          clear hK K9
          try simp only [Act.put, Array.reduceGetElem, List.setIfInBounds_toArray, List.set_cons_zero, List.set_cons_succ]
          refine wpAnyH_take (i := 18) (oi := _) (v := ?_) rfl (by kernel_rfl) (by kernel_rfl) (by kernel_rfl) (fun _ _ _ h => h) (Or.inl ⟨by rfl, ?_⟩) (by assumption) ?_
          rotate_left
          · (intro w hSw; (try dsimp only at hSw); go_simp; try (with_reducible rfl))
          try simp only [Act.put, Array.reduceGetElem, List.setIfInBounds_toArray, List.set_cons_zero, List.set_cons_succ]
          refine wpAnyH_take (i := 19) (oi := _) (v := ?_) rfl (by kernel_rfl) (by kernel_rfl) (by kernel_rfl) (fun _ _ _ h => h) (Or.inl ⟨by rfl, ?_⟩) (by assumption) ?_
          rotate_left
          · (intro w hSw; (try dsimp only at hSw); go_simp; try (with_reducible rfl))
          try simp only [Act.put, Array.reduceGetElem, List.setIfInBounds_toArray, List.set_cons_zero, List.set_cons_succ]
          refine wpAnyH_take (i := 20) (oi := _) (v := ?_) rfl (by kernel_rfl) (by kernel_rfl) (by kernel_rfl) (fun _ _ _ h => h) (Or.inl ⟨by rfl, ?_⟩) (by assumption) ?_
          rotate_left
          · (intro w hSw; (try dsimp only at hSw); go_simp; try (with_reducible rfl))
          try simp only [Act.put, Array.reduceGetElem, List.setIfInBounds_toArray, List.set_cons_zero, List.set_cons_succ]
          refine wpAnyH_take (i := 21) (oi := _) (v := ?_) rfl (by kernel_rfl) (by kernel_rfl) (by kernel_rfl) (fun _ _ _ h => h) (Or.inl ⟨by rfl, ?_⟩) (by assumption) ?_
          rotate_left
          · (intro w hSw; (try dsimp only at hSw); go_simp; try (with_reducible rfl))
          try simp only [Act.put, Array.reduceGetElem, List.setIfInBounds_toArray, List.set_cons_zero, List.set_cons_succ]
          refine wpAnyH_take (i := 22) (oi := _) (v := ?_) rfl (by kernel_rfl) (by kernel_rfl) (by kernel_rfl) (fun _ _ _ h => h) (Or.inl ⟨by rfl, ?_⟩) (by assumption) ?_
          rotate_left
          · (intro w hSw; (try dsimp only at hSw); go_simp; try (with_reducible rfl))
          try simp only [Act.put, Array.reduceGetElem, List.setIfInBounds_toArray, List.set_cons_zero, List.set_cons_succ]
          refine wpAnyH_ready (rs := [23]) (by kernel_rfl) (by simp) ?_
          refine AllReadyH.cons (o := _) rfl (fun K9 hK => ?_) ?_
          rotate_left
          · exact AllReadyH.nil
          go_simp
          go_at_call 10
          (with_reducible refine (same_any K P Q 0 0 A6 A7 l6 l7 c6 c7 bs w8 HP8.out.bytes HQ8.out.bytes).mono ?_)
          rintro e w9 ⟨rfl, hd9⟩
          have HB9 := HBO8.out.below hd9
          have HBO9 := Lib.hid HB9
          obtain ⟨⟨a0, a1, a2, a3, a4, a5⟩, ⟨b0, b1, b2, b3, b4, b5⟩, htt⟩ := HB9
          have t2 := htt.c2
          have t3 := htt.c3
          have t4 := htt.c4
          have t5 := htt.c5
          have t6 := htt.c6
          have t7 := htt.c7
          have t8 := htt.c8
          have HC9 := Lib.hid (HC8.out.below hd9)
          have HO9 := Lib.hid (HO8.out.below hd9)
          have HP9 := Lib.hid (HP8.out.below hd9)
          have HQ9 := Lib.hid (HQ8.out.below hd9)
          have HW9 := Lib.hid (HW8.out.trans (hd9.mono HW8.out.size))
          clear htt hd9
          have hk9 := HO9.out.bytes.conv
          refine hK.out _ _ ?_ (fun hHeld => ?_)
          · (try dsimp only); go_keep
          clear hK K9
          try simp only [Act.put, Array.reduceGetElem, List.setIfInBounds_toArray, List.set_cons_zero, List.set_cons_succ]
          refine wpAnyH_take (i := 24) (oi := _) (v := ?_) rfl (by kernel_rfl) (by kernel_rfl) (by kernel_rfl) (fun _ _ _ h => h) (Or.inl ⟨by rfl, ?_⟩) (by assumption) ?_
          rotate_left
          · (intro w hSw; (try dsimp only at hSw); go_simp; try (with_reducible rfl))
          try simp only [Act.put, Array.reduceGetElem, List.setIfInBounds_toArray, List.set_cons_zero, List.set_cons_succ]
          refine wpAnyH_take (i := 25) (oi := _) (v := ?_) rfl (by kernel_rfl) (by kernel_rfl) (by kernel_rfl) (fun _ _ _ h => h) (Or.inl ⟨by rfl, ?_⟩) (by assumption) ?_
          rotate_left
          · (intro w hSw; (try dsimp only at hSw); go_simp; try (with_reducible rfl))
          try simp only [Act.put, Array.reduceGetElem, List.setIfInBounds_toArray, List.set_cons_zero, List.set_cons_succ]
          refine wpAnyH_take (i := 26) (oi := _) (v := ?_) rfl (by kernel_rfl) (by kernel_rfl) (by kernel_rfl) (fun _ _ _ h => h) (Or.inl ⟨by rfl, ?_⟩) (by assumption) ?_
          rotate_left
          · (intro w hSw; (try dsimp only at hSw); go_simp; try (with_reducible rfl))
          try simp only [Act.put, Array.reduceGetElem, List.setIfInBounds_toArray, List.set_cons_zero, List.set_cons_succ]
          refine wpAnyH_take (i := 27) (oi := _) (v := ?_) rfl (by kernel_rfl) (by kernel_rfl) (by kernel_rfl) (fun _ _ _ h => h) (Or.inl ⟨by rfl, ?_⟩) (by assumption) ?_
          rotate_left
          · (intro w hSw; (try dsimp only at hSw); go_simp; try (with_reducible rfl))
          try simp only [Act.put, Array.reduceGetElem, List.setIfInBounds_toArray, List.set_cons_zero, List.set_cons_succ]
          refine wpAnyH_take (i := 30) (oi := _) (v := ?_) rfl (by kernel_rfl) (by kernel_rfl) (by kernel_rfl) (fun _ _ _ h => h) (Or.inl ⟨by rfl, ?_⟩) (by assumption) ?_
          rotate_left
          · (intro w hSw; (try dsimp only at hSw); go_simp; try (with_reducible rfl))
          try simp only [Act.put, Array.reduceGetElem, List.setIfInBounds_toArray, List.set_cons_zero, List.set_cons_succ]
          refine wpAnyH_take (i := 31) (oi := _) (v := ?_) rfl (by kernel_rfl) (by kernel_rfl) (by kernel_rfl) (fun _ _ _ h => h) (Or.inl ⟨by rfl, ?_⟩) (by assumption) ?_
          rotate_left
          · (intro w hSw; (try dsimp only at hSw); go_simp; try (with_reducible rfl))
          try simp only [Act.put, Array.reduceGetElem, List.setIfInBounds_toArray, List.set_cons_zero, List.set_cons_succ]
          refine wpAnyH_ready (rs := [28]) (by kernel_rfl) (by simp) ?_
          refine AllReadyH.cons (o := _) rfl (fun K9 hK => ?_) ?_
          rotate_left
          · exact AllReadyH.nil
          go_simp
          go_at_call 11
          refine (bytes_any HC9.out hys.out).mono ?_
          rintro e w10 ⟨A10, c10, rfl, ho10, hd10⟩
          have HB10 := HBO9.out.below hd10
          have HBO10 := Lib.hid HB10
          obtain ⟨⟨a0, a1, a2, a3, a4, a5⟩, ⟨b0, b1, b2, b3, b4, b5⟩, htt⟩ := HB10
          have t2 := htt.c2
          have t3 := htt.c3
          have t4 := htt.c4
          have t5 := htt.c5
          have t6 := htt.c6
          have t7 := htt.c7
          have t8 := htt.c8
          have HC10 := Lib.hid (HC9.out.below hd10)
          have HO10 := Lib.hid (HO9.out.below hd10)
          have HP10 := Lib.hid (HP9.out.below hd10)
          have HQ10 := Lib.hid (HQ9.out.below hd10)
          have HW10 := Lib.hid (HW9.out.trans (hd10.mono HW9.out.size))
          clear htt hd10
          have hk1 := ho10.bytes.conv
          have hk2 := HO10.out.bytes.conv
          refine hK.out _ _ ?_ (fun hHeld => ?_)
          · (try dsimp only); go_keep
          clear hK K9
          try simp only [Act.put, Array.reduceGetElem, List.setIfInBounds_toArray, List.set_cons_zero, List.set_cons_succ]
          refine wpAnyH_ready (rs := [29]) (by kernel_rfl) (by simp) ?_
          refine AllReadyH.cons (o := _) rfl (fun K9 hK => ?_) ?_
          rotate_left
          · exact AllReadyH.nil
          go_simp
          refine hK.out _ _ ?_ (fun hHeld => ?_)
          · (try dsimp only); go_keep
          clear hK K9
          try simp only [Act.put, Array.reduceGetElem, List.setIfInBounds_toArray, List.set_cons_zero, List.set_cons_succ]
          refine wpAnyH_take (i := 32) (oi := _) (v := ?_) rfl (by kernel_rfl) (by kernel_rfl) (by kernel_rfl) (fun _ _ _ h => h) (Or.inl ⟨by rfl, ?_⟩) (by assumption) ?_
          rotate_left
          · (intro w hSw; (try dsimp only at hSw); go_simp; try (with_reducible rfl))
          try simp only [Act.put, Array.reduceGetElem, List.setIfInBounds_toArray, List.set_cons_zero, List.set_cons_succ]
          refine wpAnyH_take (i := 33) (oi := _) (v := ?_) rfl (by kernel_rfl) (by kernel_rfl) (by kernel_rfl) (fun _ _ _ h => h) (Or.inl ⟨by rfl, ?_⟩) (by assumption) ?_
          rotate_left
          · (intro w hSw; (try dsimp only at hSw); go_simp; try (with_reducible rfl))
          try simp only [Act.put, Array.reduceGetElem, List.setIfInBounds_toArray, List.set_cons_zero, List.set_cons_succ]
          refine wpAnyH_done (by kernel_rfl) ?_ _
          refine NoPanic.normal ?_
          clear hk1 hk2 hk7 hk8 hk9 a0 a1 a2 a3 a4 a5 b0 b1 b2 b3 b4 b5 t2 t3 t4 t5 t6 t7 t8
          by_cases hiM : i < M
          · have hT10 := HT.out.below HW10.out
            obtain ⟨tb, to, rfl, htb, htc⟩ := hT10 (by omega)
            obtain ⟨y0, y1, y2, hyi⟩ := htc i hiM
            have HYI := Lib.hid hyi
            have hg9 : (i : Int) < M := by omega
            have hlen9 : ((T i).L : Int) ≤ 9223372036854775807 := by have := hyi.room; have := hyi.few; omega
            clear htc hyi
            by_cases h100 : 100 < (T i).L
            · go_wp2
              go_ret
              exact ⟨rfl, HW10.out⟩
            · have h101 : (T i).L ≤ 100 := by omega
              clear h100
              have hbl : (T i).bs.length ≤ 100 := by rw [Ans.bs, Mb.bl_length]; exact h101
              have HTK := Lib.hid (take_both (T := T) (i := i) (n := N) (kd := kd) (by rw [HYS.out]; exact HC10.out) HYI.out.bytes (by have := HCAT.out; omega))
              have HBL := Lib.hid hbl
              clear hbl
              go_wp2_with fail
              refine HTK.out.mono ?_
              rintro e w11 ⟨v', rfl, hc11, ht11⟩
              have HC11 := Lib.hid hc11
              have HT11 := Lib.hid ht11
              clear hc11 ht11
              go_wp2
              go_roundw
              case rel =>
                refine ⟨i + 1, by go_num, by omega, Touch.below HW10.out HT11.out HW10.out.size (fun q hq => ?_), HC11.out.there, fun _ => ⟨v', HC11.out, ?_⟩⟩
                · rcases hq with hq | hq
                  · have := HC.out.above; omega
                  · have := (HC.out.own.ge hq).1; have := HC.out.above; have := HC.out.under; omega
                · show (cat T i ++ (T i).bs).length ≤ 100 * (i + 1)
                  rw [List.length_append]
                  have := HCAT.out
                  have := HBL.out
                  omega
              case measure => simp [intOf]; omega
          · have hiM2 : (M : Int) ≤ i := by omega
            go_wp2
            go_roundw
            case rel =>
              exact ⟨i + 1, by go_num, by omega, HW10.out, HC10.out.there, fun h => by omega⟩
            case measure => simp [intOf]; omega
        · have hiM3 : (M : Int) < i := by omega
          have HBEL := Lib.hid hbel
          clear hbel hst
          go_wp2
          go_ret
          exact ⟨rfl, HBEL.out⟩
end Go.Proofs.Ytplomefkmgkdjaa
