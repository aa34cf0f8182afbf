/- roundhouselaw3.WireNats answers true for any kind, any numbers, any bytes, any place; no condition. -/
import Derived.Test.YtjljaecjnpmdoaaWirLaw
import Derived.Test.YtjljaecjnpmdoaaWirLawP
import Derived.Test.YtjljaecjnpmdoaaTakes
import Derived.BigQuiet
import Derived.Deep.RegionHeld3
import Derived.Deep.Cut
namespace Go.Proofs.Ytjljaecjnpmdoaa.wireNats
set_option linter.unusedVariables false
set_option linter.unusedSimpArgs false
open Go.RowKit Go.ChangeShapes Go.WideShapes Go.ChangeAt

set_option maxRecDepth 100000 in
set_option maxHeartbeats 4000000 in
theorem walk (W : World) (a0 : Int) (r_a0 : -9223372036854775808 ≤ a0 ∧ a0 ≤ 9223372036854775807) (A1 : Option Addr) (n1 c1 : Nat) (g1 : Nat → Int) (hn1 : n1 ≤ c1) (hc1 : c1 ≤ maxLen) (hr1 : Is W A1 n1 g1) (hg1 : IsI g1) (hl1 : ∀ ad, A1 = some ad → 0 < n1 → ad.block < W.heap.size) (re1 : c1 * 8 ≤ 140737488351232) (A2 : Option Addr) (n2 c2 : Nat) (g2 : Nat → Int) (hn2 : n2 ≤ c2) (hc2 : c2 ≤ maxLen) (hr2 : By W A2 n2 g2) (hg2 : IsB g2) (hl2 : ∀ ad, A2 = some ad → 0 < n2 → ad.block < W.heap.size) (re2 : c2 * 1 ≤ 140737488351232) (a3 : Bool) (a4 : Int) (r_a4 : -9223372036854775808 ≤ a4 ∧ a4 ≤ 9223372036854775807) (a5 : Int) (r_a5 : -9223372036854775808 ≤ a5 ∧ a5 ≤ 9223372036854775807) (A6 : Option Addr) (n6 c6 : Nat) (g6 : Nat → Int) (hn6 : n6 ≤ c6) (hc6 : c6 ≤ maxLen) (hr6 : By W A6 n6 g6) (hg6 : IsB g6) (hl6 : ∀ ad, A6 = some ad → 0 < n6 → ad.block < W.heap.size) (re6 : c6 * 1 ≤ 140737488351232) (a7 : Int) (r_a7 : -9223372036854775808 ≤ a7 ∧ a7 ≤ 9223372036854775807) (a8 : Int) (r_a8 : -9223372036854775808 ≤ a8 ∧ a8 ≤ 9223372036854775807) :
    Calls Try.prog 7 #[.int .i64 a0, .slice A1 n1 c1, .slice A2 n2 c2, .bool a3, .int .i64 a4, .int .i64 a5, .slice A6 n6 c6, .int .i64 a7, .int .i64 a8] W fun e w' => e = .returned (.bool true) ∧ Below W.heap.size W w' := by
  have HG := hid hg2
  have m1 : (n1 : Int) ≤ 9223372036854775807 := by unfold maxLen at hc1; omega
  have m2 : (n2 : Int) ≤ 9223372036854775807 := by unfold maxLen at hc2; omega
  have H1 := hid (hr1)
  have H2 := hid (hr2)
  obtain ⟨p, hp⟩ : ∃ p, p = mkPk a0 (nv g1 n1) g2 n2 := ⟨_, rfl⟩
  obtain ⟨L, hL⟩ : ∃ L, L = lenP p := ⟨_, rfl⟩
  obtain ⟨F, hF⟩ : ∃ F, F = builtF p := ⟨_, rfl⟩
  have M := mk_all hp HG.out hL hF
  have MK := hid (make_p p a0 A1 n1 c1 g1 A2 n2 c2 g2 hp HG.out m1 hn2 m2)
  have BU := hid (build_p p L F hL hF M.E M.go M.gd (Nat.le_trans M.no (by decide)) (Nat.le_trans M.nd (by decide)))
  have RB := hid (rbuild_p p L F hL hF M.E M.go M.gd (Nat.le_trans M.no (by decide)) (Nat.le_trans M.nd (by decide)))
  have HM := hid M
  have L0 := M.L0
  have L1 := M.L1
  have LN : L ≤ 1000000 := by omega
  clear M
  clear hp hL hF hr1 hr2 hg1 hg2 hl1 hl2 re1 re2 hc1 hc2 m1 m2
  clear BU
  have H6 := hid (hr6)
  have HG6 := hid hg6
  clear hr6 hg6 hl6 re6 hc6
  obtain ⟨a, ha⟩ : ∃ x, x = wi a4 4294967296 := ⟨_, rfl⟩
  have ba := wi_bd a4 4294967296 (by omega)
  rw [← ha] at ba
  have Wa := hid (fun w => re_i64 (within_any a4 4294967296 w (by omega) (by omega)) ha.symm)
  clear ha
  obtain ⟨ba1, ba2⟩ := ba
  obtain ⟨q, hq⟩ : ∃ x, x = wi a5 65536 := ⟨_, rfl⟩
  have bq := wi_bd a5 65536 (by omega)
  rw [← hq] at bq
  have Wq := hid (fun w => re_i64 (within_any a5 65536 w (by omega) (by omega)) hq.symm)
  clear hq
  obtain ⟨bq1, bq2⟩ := bq
  go_enter Try.func7, Try.ntmps7
  go_wp2_with fail
  refine (known_any _).mono ?_
  rintro e w1 ⟨rfl, hb⟩
  have S1 := hid hb
  clear hb
  have ck : (200 : Int) < (n6 : Int) ∨ ¬ (200 : Int) < (n6 : Int) := by omega
  rcases ck with ck | ck
  · go_wp2_with fail
    go_ret
    exact ⟨rfl, S1.out⟩
  · go_wp2_with fail
    refine (MK.out w1 (Sl.below H1.out S1.out (Nat.le_refl _)) (Sl.below H2.out S1.out (Nat.le_refl _))).mono ?_
    rintro e w2 ⟨AO, cO, AD, cD, rfl, hO, hD, hb⟩
    have S2 := hid hb
    clear hb
    have RO := hid (hO)
    have RD := hid (hD)
    clear hO hD
    clear MK
    go_wp2_with fail
    refine (RB.out AO cO AD cD w2 (Sl.below RO.out (Below.refl _ _) (Nat.le_refl _)) (Sl.below RD.out (Below.refl _ _) (Nat.le_refl _))).mono ?_
    rintro e w3 ⟨A4, c4, rfl, hO, hc4, hb⟩
    have S3 := hid hb
    clear hb
    have O4 := hid hO
    clear hO RB
    clear RO
    clear RD
    have R4 := hid (O4.out.sl1)
    clear O4
    go_upto_region 7 with (fail)
    have C4 := hid (Ce.made (w := w3) (l := [.slice A4 L c4, .slice A6 n6 c6]) (T := 23) rfl)
    simp only [List.toArray] at C4
    have S4 := hid ((Below.refl w3.heap.size w3).alloc (Nat.le_refl _) (.cells #[.slice A4 L c4, .slice A6 n6 c6] 23))
    generalize (w3.alloc (.cells #[.slice A4 L c4, .slice A6 n6 c6] 23)) = w4 at *
    generalize w3.heap.size = P at C4 ⊢
    go_wp2_with fail
    go_loopw [22, 23, 24, 25, 26, 27, 28, 29, 30, 31, 32, 33, 34] (fun i _ _ _ _ _ _ _ _ _ _ _ _ wr => ∃ k : Nat, k ≤ 2 ∧ i = .int .i64 (k : Int) ∧ Below w4.heap.size w4 wr) (fun i _ _ _ _ _ _ _ _ _ _ _ _ _ => 2 - (intOf i).toNat)
    case atStart => exact ⟨0, by omega, rfl, Below.refl _ _⟩
    case round =>
      obtain ⟨k, hk, rfl, hb⟩ := hrel
      have BR := hid hb
      clear hb
      have k0 : (0 : Int) ≤ k := by omega
      by_cases hlt : k < 2
      · have k1 : (k : Int) < 2 := by omega
        obtain ⟨X, m, d, h, hx, hB, hm, hmL⟩ : ∃ (X : Option Addr) (m d : Nat) (h : Nat → Int), (∀ w', Below wr.heap.size wr w' → w'.cell? ⟨P, k, none⟩ = some (.slice X m d) ∧ By w' X m h) ∧ IsB h ∧ m ≤ d ∧ m ≤ 1000000 := by
          have h2 : k = 0 ∨ k = 1 := by omega
          rcases h2 with rfl | rfl
          · exact ⟨A4, L, c4, F, fun w' hb => ⟨(Ce.below (Ce.below C4.out BR.out) hb).2.1 0 _ rfl, Sl.below (Sl.below R4.out (then_ S4.out BR.out) (Nat.le_refl _)) hb (Nat.le_refl _)⟩, HM.out.B, hc4, LN⟩
          · exact ⟨A6, n6, c6, g6, fun w' hb => ⟨(Ce.below (Ce.below C4.out BR.out) hb).2.1 1 _ rfl, Sl.below (Sl.below H6.out (then_ (then_ (then_ (then_ S1.out S2.out) S3.out) S4.out) BR.out) (Nat.le_refl _)) hb (Nat.le_refl _)⟩, HG6.out, hn6, by omega⟩
        have HX := hid hx
        have HB := hid hB
        clear hx hB
        clear H1
        clear H2
        clear H6
        clear R4
        clear C4
        clear HG6
        obtain ⟨E1, hE1⟩ : ∃ E, E = natE h m a q := ⟨_, rfl⟩
        obtain ⟨N1, hN1⟩ : ∃ N, N = if E1 = 0 then m else 0 := ⟨_, rfl⟩
        obtain ⟨G1, hG1⟩ : ∃ G, G = natF h m a3 a q := ⟨_, rfl⟩
        have T1 := hid (nat_q h m a3 a q E1 N1 G1 hE1 hN1 hG1 HB.out hmL)
        have V1 := hid (rnat_q h m a3 a q E1 N1 G1 hE1 hN1 hG1 HB.out hmL)
        clear hE1 hN1 hG1
        obtain ⟨E2, hE2⟩ : ∃ E, E = natE h m a7 a8 := ⟨_, rfl⟩
        obtain ⟨N2, hN2⟩ : ∃ N, N = if E2 = 0 then m else 0 := ⟨_, rfl⟩
        obtain ⟨G2, hG2⟩ : ∃ G, G = natF h m a3 a7 a8 := ⟨_, rfl⟩
        have T2 := hid (nat_q h m a3 a7 a8 E2 N2 G2 hE2 hN2 hG2 HB.out hmL)
        have V2 := hid (rnat_q h m a3 a7 a8 E2 N2 G2 hE2 hN2 hG2 HB.out hmL)
        clear hE2 hN2 hG2
        obtain ⟨E3, hE3⟩ : ∃ E, E = ageE h m := ⟨_, rfl⟩
        obtain ⟨N3, hN3⟩ : ∃ N, N = if E3 = 0 then m else 0 := ⟨_, rfl⟩
        obtain ⟨G3, hG3⟩ : ∃ G, G = ageF h := ⟨_, rfl⟩
        have T3 := hid (age_q h m  E3 N3 G3 hE3 hN3 hG3 HB.out hmL)
        have V3 := hid (rage_q h m  E3 N3 G3 hE3 hN3 hG3 HB.out hmL)
        clear hE3 hN3 hG3
        go_upto_region 10 with (fail)
        refine wp_region_held_drew (S := (fun w' => w'.cell? ⟨P, k, none⟩ = some (.slice X m d))) (by kernel_rfl) (HX.out _ (Below.refl _ _)).1 (fun hHeld => ?_)
        refine tk 0 (v := ?_) rfl (by kernel_rfl) (by kernel_rfl) (by kernel_rfl) (fun _ _ _ h => h) rfl ?_ hHeld ?_; rotate_left; (focus (intro w hSw; (try dsimp only at hSw);  go_simp; (try with_reducible rfl))); (try simp only [Act.put, List.setIfInBounds_toArray, List.set_cons_zero, List.set_cons_succ])
        refine tk 1 (v := ?_) rfl (by kernel_rfl) (by kernel_rfl) (by kernel_rfl) (fun _ _ _ h => h) rfl ?_ hHeld ?_; rotate_left; (focus (intro w hSw; (try dsimp only at hSw);  go_simp; (try with_reducible rfl))); (try simp only [Act.put, List.setIfInBounds_toArray, List.set_cons_zero, List.set_cons_succ])
        refine tk 2 (v := ?_) rfl (by kernel_rfl) (by kernel_rfl) (by kernel_rfl) (fun _ _ _ h => h) rfl ?_ hHeld ?_; rotate_left; (focus (intro w hSw; (try dsimp only at hSw);  go_simp; (try with_reducible rfl))); (try simp only [Act.put, List.setIfInBounds_toArray, List.set_cons_zero, List.set_cons_succ])
        refine tk 3 (v := ?_) rfl (by kernel_rfl) (by kernel_rfl) (by kernel_rfl) (fun _ _ _ h => h) rfl ?_ hHeld ?_; rotate_left; (focus (intro w hSw; (try dsimp only at hSw);  go_simp; (try with_reducible rfl))); (try simp only [Act.put, List.setIfInBounds_toArray, List.set_cons_zero, List.set_cons_succ])
        refine tk 4 (v := ?_) rfl (by kernel_rfl) (by kernel_rfl) (by kernel_rfl) (fun _ _ _ h => h) rfl ?_ hHeld ?_; rotate_left; (focus (intro w hSw; (try dsimp only at hSw);  go_simp; (try with_reducible rfl))); (try simp only [Act.put, List.setIfInBounds_toArray, List.set_cons_zero, List.set_cons_succ])
        refine tk 5 (v := ?_) rfl (by kernel_rfl) (by kernel_rfl) (by kernel_rfl) (fun _ _ _ h => h) rfl ?_ hHeld ?_; rotate_left; (focus (intro w hSw; (try dsimp only at hSw);  go_simp; (try with_reducible rfl))); (try simp only [Act.put, List.setIfInBounds_toArray, List.set_cons_zero, List.set_cons_succ])
        refine tk 7 (v := ?_) rfl (by kernel_rfl) (by kernel_rfl) (by kernel_rfl) (fun _ _ _ h => h) rfl ?_ hHeld ?_; rotate_left; (focus (intro w hSw; (try dsimp only at hSw);  go_simp; (try with_reducible rfl))); (try simp only [Act.put, List.setIfInBounds_toArray, List.set_cons_zero, List.set_cons_succ])
        refine only 6 rfl (by kernel_rfl) rfl (fun K hK => ?_)
        go_simp
        refine (Wa.out _).mono ?_
        rintro e w' ⟨rfl, rfl⟩
        try go_wp2_with fail
        refine hK.out _ _ hHeld (fun _ => ?_)
        clear hK
        (try simp only [Act.put, List.setIfInBounds_toArray, List.set_cons_zero, List.set_cons_succ])
        refine only 8 rfl (by kernel_rfl) rfl (fun K hK => ?_)
        go_simp
        refine (Wq.out _).mono ?_
        rintro e w' ⟨rfl, rfl⟩
        try go_wp2_with fail
        refine hK.out _ _ hHeld (fun _ => ?_)
        clear hK
        (try simp only [Act.put, List.setIfInBounds_toArray, List.set_cons_zero, List.set_cons_succ])
        have S5 := hid (Below.drew (Below.refl wr.heap.size wr))
        clear hHeld
        generalize wr.drew = v0 at *
        refine only 9 rfl (by kernel_rfl) rfl (fun K hK => ?_)
        go_simp
        refine (T1.out X d hm v0 (HX.out _ S5.out).2).mono ?_
        rintro e u0 ⟨X0, d0, rfl, hO, _, hb⟩
        have S6 := hid hb
        clear hb
        have Y0 := hid (hO.sl1)
        clear hO T1
        try go_wp2_with fail
        refine hK.out _ _ (HX.out _ (then_ S5.out S6.out)).1 (fun hHeld => ?_)
        clear hK
        (try simp only [Act.put, List.setIfInBounds_toArray, List.set_cons_zero, List.set_cons_succ])
        refine tk 10 (v := ?_) rfl (by kernel_rfl) (by kernel_rfl) (by kernel_rfl) (fun _ _ _ h => h) rfl ?_ hHeld ?_; rotate_left; (focus (intro w hSw; (try dsimp only at hSw);  go_simp; (try with_reducible rfl))); (try simp only [Act.put, List.setIfInBounds_toArray, List.set_cons_zero, List.set_cons_succ])
        refine tk 11 (v := ?_) rfl (by kernel_rfl) (by kernel_rfl) (by kernel_rfl) (fun _ _ _ h => h) rfl ?_ hHeld ?_; rotate_left; (focus (intro w hSw; (try dsimp only at hSw);  go_simp; (try with_reducible rfl))); (try simp only [Act.put, List.setIfInBounds_toArray, List.set_cons_zero, List.set_cons_succ])
        refine tk 12 (v := ?_) rfl (by kernel_rfl) (by kernel_rfl) (by kernel_rfl) (fun _ _ _ h => h) rfl ?_ hHeld ?_; rotate_left; (focus (intro w hSw; (try dsimp only at hSw);  go_simp; (try with_reducible rfl))); (try simp only [Act.put, List.setIfInBounds_toArray, List.set_cons_zero, List.set_cons_succ])
        refine tk 13 (v := ?_) rfl (by kernel_rfl) (by kernel_rfl) (by kernel_rfl) (fun _ _ _ h => h) rfl ?_ hHeld ?_; rotate_left; (focus (intro w hSw; (try dsimp only at hSw);  go_simp; (try with_reducible rfl))); (try simp only [Act.put, List.setIfInBounds_toArray, List.set_cons_zero, List.set_cons_succ])
        refine tk 14 (v := ?_) rfl (by kernel_rfl) (by kernel_rfl) (by kernel_rfl) (fun _ _ _ h => h) rfl ?_ hHeld ?_; rotate_left; (focus (intro w hSw; (try dsimp only at hSw);  go_simp; (try with_reducible rfl))); (try simp only [Act.put, List.setIfInBounds_toArray, List.set_cons_zero, List.set_cons_succ])
        refine wpAnyH_done (by kernel_rfl) ?_ _
        clear hHeld
        go_upto_region 11 with (fail)
        refine wp_region_held_drew (S := (fun w' => w'.cell? ⟨P, k, none⟩ = some (.slice X m d))) (by kernel_rfl) (HX.out _ (then_ S5.out S6.out)).1 (fun hHeld => ?_)
        refine tk 0 (v := ?_) rfl (by kernel_rfl) (by kernel_rfl) (by kernel_rfl) (fun _ _ _ h => h) rfl ?_ hHeld ?_; rotate_left; (focus (intro w hSw; (try dsimp only at hSw);  go_simp; (try with_reducible rfl))); (try simp only [Act.put, List.setIfInBounds_toArray, List.set_cons_zero, List.set_cons_succ])
        refine tk 1 (v := ?_) rfl (by kernel_rfl) (by kernel_rfl) (by kernel_rfl) (fun _ _ _ h => h) rfl ?_ hHeld ?_; rotate_left; (focus (intro w hSw; (try dsimp only at hSw);  go_simp; (try with_reducible rfl))); (try simp only [Act.put, List.setIfInBounds_toArray, List.set_cons_zero, List.set_cons_succ])
        refine tk 2 (v := ?_) rfl (by kernel_rfl) (by kernel_rfl) (by kernel_rfl) (fun _ _ _ h => h) rfl ?_ hHeld ?_; rotate_left; (focus (intro w hSw; (try dsimp only at hSw);  go_simp; (try with_reducible rfl))); (try simp only [Act.put, List.setIfInBounds_toArray, List.set_cons_zero, List.set_cons_succ])
        refine tk 3 (v := ?_) rfl (by kernel_rfl) (by kernel_rfl) (by kernel_rfl) (fun _ _ _ h => h) rfl ?_ hHeld ?_; rotate_left; (focus (intro w hSw; (try dsimp only at hSw);  go_simp; (try with_reducible rfl))); (try simp only [Act.put, List.setIfInBounds_toArray, List.set_cons_zero, List.set_cons_succ])
        refine tk 4 (v := ?_) rfl (by kernel_rfl) (by kernel_rfl) (by kernel_rfl) (fun _ _ _ h => h) rfl ?_ hHeld ?_; rotate_left; (focus (intro w hSw; (try dsimp only at hSw);  go_simp; (try with_reducible rfl))); (try simp only [Act.put, List.setIfInBounds_toArray, List.set_cons_zero, List.set_cons_succ])
        refine tk 5 (v := ?_) rfl (by kernel_rfl) (by kernel_rfl) (by kernel_rfl) (fun _ _ _ h => h) rfl ?_ hHeld ?_; rotate_left; (focus (intro w hSw; (try dsimp only at hSw);  go_simp; (try with_reducible rfl))); (try simp only [Act.put, List.setIfInBounds_toArray, List.set_cons_zero, List.set_cons_succ])
        refine tk 7 (v := ?_) rfl (by kernel_rfl) (by kernel_rfl) (by kernel_rfl) (fun _ _ _ h => h) rfl ?_ hHeld ?_; rotate_left; (focus (intro w hSw; (try dsimp only at hSw);  go_simp; (try with_reducible rfl))); (try simp only [Act.put, List.setIfInBounds_toArray, List.set_cons_zero, List.set_cons_succ])
        refine only 6 rfl (by kernel_rfl) rfl (fun K hK => ?_)
        go_simp
        refine (Wa.out _).mono ?_
        rintro e w' ⟨rfl, rfl⟩
        try go_wp2_with fail
        refine hK.out _ _ hHeld (fun _ => ?_)
        clear hK
        (try simp only [Act.put, List.setIfInBounds_toArray, List.set_cons_zero, List.set_cons_succ])
        refine only 8 rfl (by kernel_rfl) rfl (fun K hK => ?_)
        go_simp
        refine (Wq.out _).mono ?_
        rintro e w' ⟨rfl, rfl⟩
        try go_wp2_with fail
        refine hK.out _ _ hHeld (fun _ => ?_)
        clear hK
        (try simp only [Act.put, List.setIfInBounds_toArray, List.set_cons_zero, List.set_cons_succ])
        have S7 := hid (Below.drew (Below.refl u0.heap.size u0))
        clear hHeld
        generalize u0.drew = v1 at *
        refine only 9 rfl (by kernel_rfl) rfl (fun K hK => ?_)
        go_simp
        refine (V1.out X d hm v1 (HX.out _ (then_ (then_ S5.out S6.out) S7.out)).2).mono ?_
        rintro e u1 ⟨X1, d1, rfl, hO, _, hb⟩
        have S8 := hid hb
        clear hb
        have Y1 := hid (hO.sl1)
        clear hO V1
        try go_wp2_with fail
        refine hK.out _ _ (HX.out _ (then_ (then_ (then_ S5.out S6.out) S7.out) S8.out)).1 (fun hHeld => ?_)
        clear hK
        (try simp only [Act.put, List.setIfInBounds_toArray, List.set_cons_zero, List.set_cons_succ])
        refine tk 10 (v := ?_) rfl (by kernel_rfl) (by kernel_rfl) (by kernel_rfl) (fun _ _ _ h => h) rfl ?_ hHeld ?_; rotate_left; (focus (intro w hSw; (try dsimp only at hSw);  go_simp; (try with_reducible rfl))); (try simp only [Act.put, List.setIfInBounds_toArray, List.set_cons_zero, List.set_cons_succ])
        refine tk 11 (v := ?_) rfl (by kernel_rfl) (by kernel_rfl) (by kernel_rfl) (fun _ _ _ h => h) rfl ?_ hHeld ?_; rotate_left; (focus (intro w hSw; (try dsimp only at hSw);  go_simp; (try with_reducible rfl))); (try simp only [Act.put, List.setIfInBounds_toArray, List.set_cons_zero, List.set_cons_succ])
        refine tk 12 (v := ?_) rfl (by kernel_rfl) (by kernel_rfl) (by kernel_rfl) (fun _ _ _ h => h) rfl ?_ hHeld ?_; rotate_left; (focus (intro w hSw; (try dsimp only at hSw);  go_simp; (try with_reducible rfl))); (try simp only [Act.put, List.setIfInBounds_toArray, List.set_cons_zero, List.set_cons_succ])
        refine tk 13 (v := ?_) rfl (by kernel_rfl) (by kernel_rfl) (by kernel_rfl) (fun _ _ _ h => h) rfl ?_ hHeld ?_; rotate_left; (focus (intro w hSw; (try dsimp only at hSw);  go_simp; (try with_reducible rfl))); (try simp only [Act.put, List.setIfInBounds_toArray, List.set_cons_zero, List.set_cons_succ])
        refine tk 14 (v := ?_) rfl (by kernel_rfl) (by kernel_rfl) (by kernel_rfl) (fun _ _ _ h => h) rfl ?_ hHeld ?_; rotate_left; (focus (intro w hSw; (try dsimp only at hSw);  go_simp; (try with_reducible rfl))); (try simp only [Act.put, List.setIfInBounds_toArray, List.set_cons_zero, List.set_cons_succ])
        refine wpAnyH_done (by kernel_rfl) ?_ _
        clear hHeld
        go_upto_region 12 with (fail)
        have y1 := (HX.out _ (then_ (then_ (then_ S5.out S6.out) S7.out) S8.out)).1
        go_wp2_with fail
        clear y1
        refine (T2.out X d hm u1 (HX.out _ (then_ (then_ (then_ S5.out S6.out) S7.out) S8.out)).2).mono ?_
        rintro e u2 ⟨X2, d2, rfl, hO, _, hb⟩
        have S9 := hid hb
        clear hb
        have Y2 := hid (hO.sl1)
        clear hO T2
        go_upto_region 13 with (fail)
        have y1 := (HX.out _ (then_ (then_ (then_ (then_ S5.out S6.out) S7.out) S8.out) S9.out)).1
        go_wp2_with fail
        clear y1
        refine (V2.out X d hm u2 (HX.out _ (then_ (then_ (then_ (then_ S5.out S6.out) S7.out) S8.out) S9.out)).2).mono ?_
        rintro e u3 ⟨X3, d3, rfl, hO, _, hb⟩
        have S10 := hid hb
        clear hb
        have Y3 := hid (hO.sl1)
        clear hO V2
        go_upto_region 14 with (fail)
        have y1 := (HX.out _ (then_ (then_ (then_ (then_ (then_ S5.out S6.out) S7.out) S8.out) S9.out) S10.out)).1
        go_wp2_with fail
        clear y1
        refine (T3.out X d hm u3 (HX.out _ (then_ (then_ (then_ (then_ (then_ S5.out S6.out) S7.out) S8.out) S9.out) S10.out)).2).mono ?_
        rintro e u4 ⟨X4, d4, rfl, hO, _, hb⟩
        have S11 := hid hb
        clear hb
        have Y4 := hid (hO.sl1)
        clear hO T3
        go_upto_region 15 with (fail)
        have y1 := (HX.out _ (then_ (then_ (then_ (then_ (then_ (then_ S5.out S6.out) S7.out) S8.out) S9.out) S10.out) S11.out)).1
        go_wp2_with fail
        clear y1
        refine (V3.out X d hm u4 (HX.out _ (then_ (then_ (then_ (then_ (then_ (then_ S5.out S6.out) S7.out) S8.out) S9.out) S10.out) S11.out)).2).mono ?_
        rintro e u5 ⟨X5, d5, rfl, hO, _, hb⟩
        have S12 := hid hb
        clear hb
        have Y5 := hid (hO.sl1)
        clear hO V3
        go_upto_region 16 with (fail)
        have x0 := conv_str d0 (Sl.below Y0.out (then_ (then_ (then_ (then_ (then_ S7.out S8.out) S9.out) S10.out) S11.out) S12.out) (Nat.le_refl _))
        have x1 := conv_str d1 (Sl.below Y1.out (then_ (then_ (then_ S9.out S10.out) S11.out) S12.out) (Nat.le_refl _))
        have x2 := conv_str d2 (Sl.below Y2.out (then_ (then_ S10.out S11.out) S12.out) (Nat.le_refl _))
        have x3 := conv_str d3 (Sl.below Y3.out (then_ S11.out S12.out) (Nat.le_refl _))
        have x4 := conv_str d4 (Sl.below Y4.out S12.out (Nat.le_refl _))
        have x5 := conv_str d5 (Sl.below Y5.out (Below.refl _ _) (Nat.le_refl _))
        go_wp2_with fail
        go_roundw
        case rel => exact ⟨k + 1, by omega, by go_num, (then_ (then_ (then_ (then_ (then_ (then_ (then_ (then_ BR.out S5.out) S6.out) S7.out) S8.out) S9.out) S10.out) S11.out) S12.out)⟩
        case measure => simp [intOf]; omega
      · have k1 : ¬ (k : Int) < 2 := by omega
        go_wp2_with fail
        go_ret
        exact ⟨rfl, (then_ (then_ (then_ (then_ S1.out S2.out) S3.out) S4.out) BR.out)⟩

set_option maxRecDepth 100000 in
theorem lifted (os : Os) (started : os.Started) (H : Type) (enc : TypeId × Value → H) :
    ReturnsInHanded {} Try.checked os 7 .any (Rows.wireNatsSpec.pre6 enc Try.prog Try.f7 [] false) (Rows.wireNatsSpec.post enc Try.prog Try.f7 false true false false) :=
  law_step (s := Rows.wireNatsSpec) started (by kernel_rfl) Try.func7
    (ChangeSpec.witness6 (s := Rows.wireNatsSpec) (enc := enc) (C := Try.checked) false ⟨#[], #[.int .i64 0, .slice none 0 0, .slice none 0 0, .bool false, .int .i64 0, .int .i64 0, .slice none 0 0, .int .i64 0, .int .i64 0], []⟩ 8 (by kernel_rfl) (by kernel_rfl) (by kernel_rfl) (by kernel_rfl))
    rfl (by rw [Try.params7]; decide +kernel) rfl Try.underlying4
    (fun ds h => by
      rw [Try.params7] at h
      match ds, h with
      | [_, _, _, _, _, _, _, _, _], _ => rfl)
    (fun W base args ds ps hval hA hsz => by
      rw [Try.params7] at hA hval hsz
      obtain ⟨v0, vs0, d0, ds0, p0, q0, hargs, rfl, rfl, h0, r0⟩ := trodAll_cons hA
      obtain ⟨v1, vs1, d1, ds1, p1, q1, rfl, rfl, rfl, h1, r1⟩ := trodAll_cons r0
      obtain ⟨v2, vs2, d2, ds2, p2, q2, rfl, rfl, rfl, h2, r2⟩ := trodAll_cons r1
      obtain ⟨v3, vs3, d3, ds3, p3, q3, rfl, rfl, rfl, h3, r3⟩ := trodAll_cons r2
      obtain ⟨v4, vs4, d4, ds4, p4, q4, rfl, rfl, rfl, h4, r4⟩ := trodAll_cons r3
      obtain ⟨v5, vs5, d5, ds5, p5, q5, rfl, rfl, rfl, h5, r5⟩ := trodAll_cons r4
      obtain ⟨v6, vs6, d6, ds6, p6, q6, rfl, rfl, rfl, h6, r6⟩ := trodAll_cons r5
      obtain ⟨v7, vs7, d7, ds7, p7, q7, rfl, rfl, rfl, h7, r7⟩ := trodAll_cons r6
      obtain ⟨v8, vs8, d8, ds8, p8, q8, rfl, rfl, rfl, h8, r8⟩ := trodAll_cons r7
      obtain ⟨rfl, rfl, rfl⟩ := trodAll_nil r8
      obtain rfl : args = #[v0, v1, v2, v3, v4, v5, v6, v7, v8] := by cases args; simp_all
      obtain ⟨a0, rfl, rfl, rfl, w0⟩ := open_int Try.underlying3 (hval 0 3 v0 rfl rfl) h0
      obtain ⟨A1, n1, c1, g1, rfl, hn1, hc1, hs1, hw1, hl1, hd1⟩ := open_row Try.underlying22 Try.underlying3 (by kernel_rfl) (hval 1 22 v1 rfl rfl) h1
      have re1 : c1 * 8 ≤ 140737488351232 := by
        rcases hd1 with ⟨_, h0⟩ | ⟨xs, ys, h1, h2⟩
        · omega
        · have := sized_slice hsz (j := 1) (t := 22) (e := 3) rfl (by rw [h1]; rfl) Try.underlying22
          rw [h2, show Try.prog.bytesOf 3 = 8 from by kernel_rfl] at this
          simpa [reachBytes] using this
      obtain ⟨A2, n2, c2, g2, rfl, hn2, hc2, hs2, hw2, hl2, hd2⟩ := open_row Try.underlying23 Try.underlying5 (by kernel_rfl) (hval 2 23 v2 rfl rfl) h2
      have re2 : c2 * 1 ≤ 140737488351232 := by
        rcases hd2 with ⟨_, h0⟩ | ⟨xs, ys, h1, h2⟩
        · omega
        · have := sized_slice hsz (j := 2) (t := 23) (e := 5) rfl (by rw [h1]; rfl) Try.underlying23
          rw [h2, show Try.prog.bytesOf 5 = 1 from by kernel_rfl] at this
          simpa [reachBytes] using this
      obtain ⟨a3, rfl, rfl, rfl⟩ := open_bool Try.underlying4 (hval 3 4 v3 rfl rfl) h3
      obtain ⟨a4, rfl, rfl, rfl, w4⟩ := open_int Try.underlying3 (hval 4 3 v4 rfl rfl) h4
      obtain ⟨a5, rfl, rfl, rfl, w5⟩ := open_int Try.underlying3 (hval 5 3 v5 rfl rfl) h5
      obtain ⟨A6, n6, c6, g6, rfl, hn6, hc6, hs6, hw6, hl6, hd6⟩ := open_row Try.underlying23 Try.underlying5 (by kernel_rfl) (hval 6 23 v6 rfl rfl) h6
      have re6 : c6 * 1 ≤ 140737488351232 := by
        rcases hd6 with ⟨_, h0⟩ | ⟨xs, ys, h1, h2⟩
        · omega
        · have := sized_slice hsz (j := 6) (t := 23) (e := 5) rfl (by rw [h1]; rfl) Try.underlying23
          rw [h2, show Try.prog.bytesOf 5 = 1 from by kernel_rfl] at this
          simpa [reachBytes] using this
      obtain ⟨a7, rfl, rfl, rfl, w7⟩ := open_int Try.underlying3 (hval 7 3 v7 rfl rfl) h7
      obtain ⟨a8, rfl, rfl, rfl, w8⟩ := open_int Try.underlying3 (hval 8 3 v8 rfl rfl) h8
      exact walk W a0 (bounds_i64 w0) A1 n1 c1 g1 hn1 hc1 hs1 (fun j => bounds_i64 (hw1 j)) hl1 re1 A2 n2 c2 g2 hn2 hc2 hs2 (fun j => bounds_u8 (hw2 j)) hl2 re2 a3 a4 (bounds_i64 w4) a5 (bounds_i64 w5) A6 n6 c6 g6 hn6 hc6 hs6 (fun j => bounds_u8 (hw6 j)) hl6 re6 a7 (bounds_i64 w7) a8 (bounds_i64 w8))

theorem proved : Rows.WireNatsSaid :=
  OpenClaim.holds_of_wide 7 Try.f7 rfl rfl rfl rfl rfl rfl rfl ⟨rfl, rfl, rfl, rfl, rfl⟩ rfl rfl rfl rfl rfl (by kernel_rfl) Try.func7 (by kernel_rfl)
    (of_decide_eq_true (by kernel_rfl)) (by unfold Func.isWrapper; first | (rw [if_pos (by decide +kernel)]; kernel_rfl) | (rw [if_neg (by decide +kernel)]; exact ⟨rfl, rfl⟩))
    (fun os started H enc _ => lifted os started H enc)
end Go.Proofs.Ytjljaecjnpmdoaa.wireNats
