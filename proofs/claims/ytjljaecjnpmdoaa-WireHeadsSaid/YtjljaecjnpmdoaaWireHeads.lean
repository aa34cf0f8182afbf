/- roundhouselaw3.WireHeads answers true for any kind, any numbers, any bytes; no condition. -/
import Derived.Test.YtjljaecjnpmdoaaWirLaw
import Derived.Test.YtjljaecjnpmdoaaWirLawP
import Derived.Test.YtjljaecjnpmdoaaTakes
import Derived.Test.YtjljaecjnpmdoaaWirMkb
import Derived.BigQuiet
import Derived.Deep.RegionHeld3
import Derived.Deep.Cut
namespace Go.Proofs.Ytjljaecjnpmdoaa.wireHeads
set_option linter.unusedVariables false
set_option linter.unusedSimpArgs false
open Go.RowKit Go.ChangeShapes Go.WideShapes Go.ChangeAt

set_option maxRecDepth 100000 in
set_option maxHeartbeats 4000000 in
theorem walk (W : World) (a0 : Int) (r_a0 : -9223372036854775808 ≤ a0 ∧ a0 ≤ 9223372036854775807) (A1 : Option Addr) (n1 c1 : Nat) (g1 : Nat → Int) (hn1 : n1 ≤ c1) (hc1 : c1 ≤ maxLen) (hr1 : Is W A1 n1 g1) (hg1 : IsI g1) (hl1 : ∀ ad, A1 = some ad → 0 < n1 → ad.block < W.heap.size) (re1 : c1 * 8 ≤ 140737488351232) (A2 : Option Addr) (n2 c2 : Nat) (g2 : Nat → Int) (hn2 : n2 ≤ c2) (hc2 : c2 ≤ maxLen) (hr2 : By W A2 n2 g2) (hg2 : IsB g2) (hl2 : ∀ ad, A2 = some ad → 0 < n2 → ad.block < W.heap.size) (re2 : c2 * 1 ≤ 140737488351232) (a3 : Int) (r_a3 : -9223372036854775808 ≤ a3 ∧ a3 ≤ 9223372036854775807) (a4 : Int) (r_a4 : 0 ≤ a4 ∧ a4 ≤ 255) (a5 : Int) (r_a5 : -9223372036854775808 ≤ a5 ∧ a5 ≤ 9223372036854775807) :
    Calls Try.prog 13 #[.int .i64 a0, .slice A1 n1 c1, .slice A2 n2 c2, .int .i64 a3, .int .u8 a4, .int .i64 a5] W fun e w' => e = .returned (.bool true) ∧ Below W.heap.size W w' := by
  have HG := hid hg2
  have m1 : (n1 : Int) ≤ 9223372036854775807 := by unfold maxLen at hc1; omega
  have m2 : (n2 : Int) ≤ 9223372036854775807 := by unfold maxLen at hc2; omega
  have H1 := hid (hr1)
  have H2 := hid (hr2)
  obtain ⟨p, hp⟩ : ∃ p, p = mkPk a0 (nv g1 n1) g2 n2 := ⟨_, rfl⟩
  obtain ⟨L, hL⟩ : ∃ L, L = lenP p := ⟨_, rfl⟩
  obtain ⟨F, hF⟩ : ∃ F, F = builtF p := ⟨_, rfl⟩
  have M := mk_all hp HG.out hL hF
  have MK := hid (make_p p a0 A1 n1 c1 g1 A2 n2 c2 g2 hp HG.out m1 hn2 m2)
  have BU := hid (build_p p L F hL hF M.E M.go M.gd (Nat.le_trans M.no (by decide)) (Nat.le_trans M.nd (by decide)))
  have RB := hid (rbuild_p p L F hL hF M.E M.go M.gd (Nat.le_trans M.no (by decide)) (Nat.le_trans M.nd (by decide)))
  have HM := hid M
  have L0 := M.L0
  have L1 := M.L1
  have LN : L ≤ 1000000 := by omega
  clear M
  clear hp hL hF hr1 hr2 hg1 hg2 hl1 hl2 re1 re2 hc1 hc2 m1 m2
  clear BU
  obtain ⟨j, hj⟩ : ∃ x, x = wi a3 16 := ⟨_, rfl⟩
  have bj := wi_bd a3 16 (by omega)
  rw [← hj] at bj
  have Wj := hid (fun w => re_i64 (within_any a3 16 w (by omega) (by omega)) hj.symm)
  clear hj
  obtain ⟨bj1, bj2⟩ := bj
  obtain ⟨k, hk⟩ : ∃ x, x = wi a5 40 := ⟨_, rfl⟩
  have bk := wi_bd a5 40 (by omega)
  rw [← hk] at bk
  have Wk := hid (fun w => re_i64 (within_any a5 40 w (by omega) (by omega)) hk.symm)
  clear hk
  obtain ⟨bk1, bk2⟩ := bk
  obtain ⟨j, rfl⟩ := Int.eq_ofNat_of_zero_le bj1
  obtain ⟨k, rfl⟩ := Int.eq_ofNat_of_zero_le bk1
  go_enter Try.func13, Try.ntmps13
  go_wp2_with fail
  refine (known_any _).mono ?_
  rintro e w1 ⟨rfl, hb⟩
  have S1 := hid hb
  clear hb
  go_wp2_with fail
  refine (MK.out w1 (Sl.below H1.out S1.out (Nat.le_refl _)) (Sl.below H2.out S1.out (Nat.le_refl _))).mono ?_
  rintro e w2 ⟨AO, cO, AD, cD, rfl, hO, hD, hb⟩
  have S2 := hid hb
  clear hb
  have RO := hid (hO)
  have RD := hid (hD)
  clear hO hD
  clear MK
  go_wp2_with fail
  refine (RB.out AO cO AD cD w2 (Sl.below RO.out (Below.refl _ _) (Nat.le_refl _)) (Sl.below RD.out (Below.refl _ _) (Nat.le_refl _))).mono ?_
  rintro e w3 ⟨A4, c4, rfl, hO, hc4, hb⟩
  have S3 := hid hb
  clear hb
  have O4 := hid hO
  clear hO RB
  clear RO
  clear RD
  have O4b := O4.out
  obtain ⟨G, eG, hGB, hGs, hce, hfr⟩ := Ow.block_ O4b (by omega)
  subst eG
  clear O4
  have y1 := hce j (by omega)
  have f1 := hfr j
  skip
  go_wp2_with fail
  refine (Wj.out _).mono ?_
  rintro e w' ⟨rfl, rfl⟩
  go_upto_region 5 with (fail)
  have OZ := hid (OB.store O4b j a4)
  have ZB : Hid (IsB (set1 F j a4)) := hid (set1_B HM.out.B j a4 r_a4.1 r_a4.2)
  have SZ := hid (Below.setCell (p := ⟨G, j, none⟩) (B := w2.heap.size) S3.out hGB (.int .u8 a4))
  clear O4b hce hfr y1 f1 S3
  generalize (w3.setCell ⟨G, j, none⟩ (.int .u8 a4)) = w4 at *
  generalize set1 F j a4 = Z at OZ ZB
  have RZ := hid (OZ.out.sl1)
  clear OZ hGB hGs
  go_wp2_with fail
  refine (Wk.out _).mono ?_
  rintro e w' ⟨rfl, rfl⟩
  by_cases hkl : (L : Int) < (k : Int)
  · have hmL : L ≤ L := by omega
    have m1 := cut_to_b (some ⟨G, 0, none⟩) L c4 L hmL hc4 (L : Int) rfl
    go_upto_region 7 with (fail)
    clear m1 hkl
    have C5 := hid (Ce.made (w := w4) (l := [.slice (some ⟨G, 0, none⟩) L c4, .slice (some ⟨G, 0, none⟩) L c4]) (T := 23) rfl)
    simp only [List.toArray] at C5
    have S4 := hid ((Below.refl w4.heap.size w4).alloc (Nat.le_refl _) (.cells #[.slice (some ⟨G, 0, none⟩) L c4, .slice (some ⟨G, 0, none⟩) L c4] 23))
    generalize (w4.alloc (.cells #[.slice (some ⟨G, 0, none⟩) L c4, .slice (some ⟨G, 0, none⟩) L c4] 23)) = w5 at *
    generalize w4.heap.size = P at C5 ⊢
    go_wp2_with fail
    go_loopw [17, 18, 19, 20, 21] (fun i _ _ _ _ wr => ∃ q : Nat, q ≤ 2 ∧ i = .int .i64 (q : Int) ∧ Below w5.heap.size w5 wr) (fun i _ _ _ _ _ => 2 - (intOf i).toNat)
    case atStart => exact ⟨0, by omega, rfl, Below.refl _ _⟩
    case round =>
      obtain ⟨q, hq, rfl, hb⟩ := hrel
      have BR := hid hb
      clear hb
      have q0 : (0 : Int) ≤ q := by omega
      by_cases hlt : q < 2
      · have q1 : (q : Int) < 2 := by omega
        obtain ⟨m2, hx, hm, hmL2⟩ : ∃ m2 : Nat, (∀ w', Below wr.heap.size wr w' → w'.cell? ⟨P, q, none⟩ = some (.slice (some ⟨G, 0, none⟩) m2 c4) ∧ By w' (some ⟨G, 0, none⟩) m2 Z) ∧ m2 ≤ c4 ∧ m2 ≤ 1000000 := by
          have h2 : q = 0 ∨ q = 1 := by omega
          rcases h2 with rfl | rfl
          · exact ⟨L, fun w' hb => ⟨(Ce.below (Ce.below C5.out BR.out) hb).2.1 0 _ rfl, Sl.below (Sl.below RZ.out (then_ S4.out BR.out) (Nat.le_refl _)) hb (Nat.le_refl _)⟩, hc4, LN⟩
          · exact ⟨L, fun w' hb => ⟨(Ce.below (Ce.below C5.out BR.out) hb).2.1 1 _ rfl, (Sl.below (Sl.below RZ.out (then_ S4.out BR.out) (Nat.le_refl _)) hb (Nat.le_refl _)).less hmL⟩, by omega, by omega⟩
        have HX := hid hx
        clear hx
        clear H1
        clear H2
        clear RZ
        clear C5
        obtain ⟨p1, hp1⟩ : ∃ p1, p1 = parseR Z m2 := ⟨_, rfl⟩
        obtain ⟨E1, hE1⟩ : ∃ E, E = parseE Z m2 := ⟨_, rfl⟩
        have T := hid (parse_q p1 E1 Z m2 hp1 hE1 ZB.out hmL2 (some ⟨G, 0, none⟩) c4 hm)
        have V := hid (rparse_q p1 E1 Z m2 hp1 hE1 ZB.out hmL2 (some ⟨G, 0, none⟩) c4 hm)
        clear hp1 hE1
        have y1 := (HX.out _ (Below.refl _ _)).1
        go_wp2_with fail
        clear y1
        refine (T.out wr (HX.out _ (Below.refl _ _)).2).mono ?_
        rintro e u0 ⟨AO0, cO0, AD0, cD0, rfl, hO, hD, hb⟩
        have S5 := hid hb
        clear hb
        clear hO hD T
        go_upto_region 11 with (fail)
        have D0 := hid (Ce.made (w := u0) (l := [.int .i64 p1.kind, .int .i64 p1.life, .int .i64 p1.piece, .int .i64 p1.src, .int .i64 p1.dst, .int .i64 p1.fp, .int .i64 p1.tp, .int .i64 p1.flags, .int .i64 p1.label, .bool p1.bare, .int .i64 p1.code, .slice AO0 p1.no cO0, .slice AD0 p1.nd cD0]) (T := 26) rfl)
        simp only [List.toArray] at D0
        have S6 := hid ((Below.refl u0.heap.size u0).alloc (Nat.le_refl _) (.cells #[.int .i64 p1.kind, .int .i64 p1.life, .int .i64 p1.piece, .int .i64 p1.src, .int .i64 p1.dst, .int .i64 p1.fp, .int .i64 p1.tp, .int .i64 p1.flags, .int .i64 p1.label, .bool p1.bare, .int .i64 p1.code, .slice AO0 p1.no cO0, .slice AD0 p1.nd cD0] 26))
        generalize (u0.alloc (.cells #[.int .i64 p1.kind, .int .i64 p1.life, .int .i64 p1.piece, .int .i64 p1.src, .int .i64 p1.dst, .int .i64 p1.fp, .int .i64 p1.tp, .int .i64 p1.flags, .int .i64 p1.label, .bool p1.bare, .int .i64 p1.code, .slice AO0 p1.no cO0, .slice AD0 p1.nd cD0] 26)) = v0 at *
        generalize hQ0 : u0.heap.size = Q0 at D0 ⊢
        have HQ0 := hid hQ0
        clear hQ0
        clear D0
        have y1 := (HX.out _ (then_ S5.out S6.out)).1
        go_wp2_with fail
        clear y1
        refine (V.out v0 (HX.out _ (then_ S5.out S6.out)).2).mono ?_
        rintro e u1 ⟨AO1, cO1, AD1, cD1, rfl, hO, hD, hb⟩
        have S7 := hid hb
        clear hb
        clear hO hD V
        go_upto_region 12 with (fail)
        have D1 := hid (Ce.made (w := u1) (l := [.int .i64 p1.kind, .int .i64 p1.life, .int .i64 p1.piece, .int .i64 p1.src, .int .i64 p1.dst, .int .i64 p1.fp, .int .i64 p1.tp, .int .i64 p1.flags, .int .i64 p1.label, .bool p1.bare, .int .i64 p1.code, .slice AO1 p1.no cO1, .slice AD1 p1.nd cD1]) (T := 26) rfl)
        simp only [List.toArray] at D1
        have S8 := hid ((Below.refl u1.heap.size u1).alloc (Nat.le_refl _) (.cells #[.int .i64 p1.kind, .int .i64 p1.life, .int .i64 p1.piece, .int .i64 p1.src, .int .i64 p1.dst, .int .i64 p1.fp, .int .i64 p1.tp, .int .i64 p1.flags, .int .i64 p1.label, .bool p1.bare, .int .i64 p1.code, .slice AO1 p1.no cO1, .slice AD1 p1.nd cD1] 26))
        generalize (u1.alloc (.cells #[.int .i64 p1.kind, .int .i64 p1.life, .int .i64 p1.piece, .int .i64 p1.src, .int .i64 p1.dst, .int .i64 p1.fp, .int .i64 p1.tp, .int .i64 p1.flags, .int .i64 p1.label, .bool p1.bare, .int .i64 p1.code, .slice AO1 p1.no cO1, .slice AD1 p1.nd cD1] 26)) = v1 at *
        generalize hQ1 : u1.heap.size = Q1 at D1 ⊢
        have HQ1 := hid hQ1
        clear hQ1
        clear D1
        go_wp2_with fail
        go_roundw
        case rel => exact ⟨q + 1, by omega, by go_num, (then_ (then_ (then_ (then_ BR.out S5.out) S6.out) S7.out) S8.out)⟩
        case measure => simp [intOf]; omega
      · have q1 : ¬ (q : Int) < 2 := by omega
        go_wp2_with fail
        obtain ⟨b, hb⟩ : ∃ b, b = wholeB Z L := ⟨_, rfl⟩
        refine (re_bool (whole_any (some ⟨G, 0, none⟩) L c4 Z wr (Sl.below RZ.out (then_ S4.out BR.out) (Nat.le_refl _)) ZB.out hc4 LN) hb.symm).mono ?_
        rintro e w9 ⟨rfl, hb2⟩
        have S5 := hid hb2
        clear hb2
        have HW := hid hb
        clear hb
        cases b
        · go_wp2_with fail
          go_ret
          exact ⟨rfl, (then_ (then_ (then_ (then_ (then_ S1.out S2.out) SZ.out) S4.out) BR.out) S5.out)⟩
        · have m1 := cut_to_b (some ⟨G, 0, none⟩) L c4 16 (by omega) hc4 16 rfl
          go_wp2_with fail
          clear m1
          refine (re_bool (rright_any (some ⟨G, 0, none⟩) 16 c4 Z w9 ((Sl.below RZ.out (then_ (then_ S4.out BR.out) S5.out) (Nat.le_refl _)).less (by omega)) ZB.out (by omega)) (whole_head HW.out.symm)).mono ?_
          rintro e w' ⟨rfl, rfl⟩
          go_wp2_with fail
          go_ret
          exact ⟨rfl, (then_ (then_ (then_ (then_ (then_ S1.out S2.out) SZ.out) S4.out) BR.out) S5.out)⟩
  · have hmL : k ≤ L := by omega
    have m1 := cut_to_b (some ⟨G, 0, none⟩) L c4 k hmL hc4 (k : Int) rfl
    go_upto_region 7 with (fail)
    clear m1 hkl
    have C5 := hid (Ce.made (w := w4) (l := [.slice (some ⟨G, 0, none⟩) L c4, .slice (some ⟨G, 0, none⟩) k c4]) (T := 23) rfl)
    simp only [List.toArray] at C5
    have S4 := hid ((Below.refl w4.heap.size w4).alloc (Nat.le_refl _) (.cells #[.slice (some ⟨G, 0, none⟩) L c4, .slice (some ⟨G, 0, none⟩) k c4] 23))
    generalize (w4.alloc (.cells #[.slice (some ⟨G, 0, none⟩) L c4, .slice (some ⟨G, 0, none⟩) k c4] 23)) = w5 at *
    generalize w4.heap.size = P at C5 ⊢
    go_wp2_with fail
    go_loopw [17, 18, 19, 20, 21] (fun i _ _ _ _ wr => ∃ q : Nat, q ≤ 2 ∧ i = .int .i64 (q : Int) ∧ Below w5.heap.size w5 wr) (fun i _ _ _ _ _ => 2 - (intOf i).toNat)
    case atStart => exact ⟨0, by omega, rfl, Below.refl _ _⟩
    case round =>
      obtain ⟨q, hq, rfl, hb⟩ := hrel
      have BR := hid hb
      clear hb
      have q0 : (0 : Int) ≤ q := by omega
      by_cases hlt : q < 2
      · have q1 : (q : Int) < 2 := by omega
        obtain ⟨m2, hx, hm, hmL2⟩ : ∃ m2 : Nat, (∀ w', Below wr.heap.size wr w' → w'.cell? ⟨P, q, none⟩ = some (.slice (some ⟨G, 0, none⟩) m2 c4) ∧ By w' (some ⟨G, 0, none⟩) m2 Z) ∧ m2 ≤ c4 ∧ m2 ≤ 1000000 := by
          have h2 : q = 0 ∨ q = 1 := by omega
          rcases h2 with rfl | rfl
          · exact ⟨L, fun w' hb => ⟨(Ce.below (Ce.below C5.out BR.out) hb).2.1 0 _ rfl, Sl.below (Sl.below RZ.out (then_ S4.out BR.out) (Nat.le_refl _)) hb (Nat.le_refl _)⟩, hc4, LN⟩
          · exact ⟨k, fun w' hb => ⟨(Ce.below (Ce.below C5.out BR.out) hb).2.1 1 _ rfl, (Sl.below (Sl.below RZ.out (then_ S4.out BR.out) (Nat.le_refl _)) hb (Nat.le_refl _)).less hmL⟩, by omega, by omega⟩
        have HX := hid hx
        clear hx
        clear H1
        clear H2
        clear RZ
        clear C5
        obtain ⟨p1, hp1⟩ : ∃ p1, p1 = parseR Z m2 := ⟨_, rfl⟩
        obtain ⟨E1, hE1⟩ : ∃ E, E = parseE Z m2 := ⟨_, rfl⟩
        have T := hid (parse_q p1 E1 Z m2 hp1 hE1 ZB.out hmL2 (some ⟨G, 0, none⟩) c4 hm)
        have V := hid (rparse_q p1 E1 Z m2 hp1 hE1 ZB.out hmL2 (some ⟨G, 0, none⟩) c4 hm)
        clear hp1 hE1
        have y1 := (HX.out _ (Below.refl _ _)).1
        go_wp2_with fail
        clear y1
        refine (T.out wr (HX.out _ (Below.refl _ _)).2).mono ?_
        rintro e u0 ⟨AO0, cO0, AD0, cD0, rfl, hO, hD, hb⟩
        have S5 := hid hb
        clear hb
        clear hO hD T
        go_upto_region 11 with (fail)
        have D0 := hid (Ce.made (w := u0) (l := [.int .i64 p1.kind, .int .i64 p1.life, .int .i64 p1.piece, .int .i64 p1.src, .int .i64 p1.dst, .int .i64 p1.fp, .int .i64 p1.tp, .int .i64 p1.flags, .int .i64 p1.label, .bool p1.bare, .int .i64 p1.code, .slice AO0 p1.no cO0, .slice AD0 p1.nd cD0]) (T := 26) rfl)
        simp only [List.toArray] at D0
        have S6 := hid ((Below.refl u0.heap.size u0).alloc (Nat.le_refl _) (.cells #[.int .i64 p1.kind, .int .i64 p1.life, .int .i64 p1.piece, .int .i64 p1.src, .int .i64 p1.dst, .int .i64 p1.fp, .int .i64 p1.tp, .int .i64 p1.flags, .int .i64 p1.label, .bool p1.bare, .int .i64 p1.code, .slice AO0 p1.no cO0, .slice AD0 p1.nd cD0] 26))
        generalize (u0.alloc (.cells #[.int .i64 p1.kind, .int .i64 p1.life, .int .i64 p1.piece, .int .i64 p1.src, .int .i64 p1.dst, .int .i64 p1.fp, .int .i64 p1.tp, .int .i64 p1.flags, .int .i64 p1.label, .bool p1.bare, .int .i64 p1.code, .slice AO0 p1.no cO0, .slice AD0 p1.nd cD0] 26)) = v0 at *
        generalize hQ0 : u0.heap.size = Q0 at D0 ⊢
        have HQ0 := hid hQ0
        clear hQ0
        clear D0
        have y1 := (HX.out _ (then_ S5.out S6.out)).1
        go_wp2_with fail
        clear y1
        refine (V.out v0 (HX.out _ (then_ S5.out S6.out)).2).mono ?_
        rintro e u1 ⟨AO1, cO1, AD1, cD1, rfl, hO, hD, hb⟩
        have S7 := hid hb
        clear hb
        clear hO hD V
        go_upto_region 12 with (fail)
        have D1 := hid (Ce.made (w := u1) (l := [.int .i64 p1.kind, .int .i64 p1.life, .int .i64 p1.piece, .int .i64 p1.src, .int .i64 p1.dst, .int .i64 p1.fp, .int .i64 p1.tp, .int .i64 p1.flags, .int .i64 p1.label, .bool p1.bare, .int .i64 p1.code, .slice AO1 p1.no cO1, .slice AD1 p1.nd cD1]) (T := 26) rfl)
        simp only [List.toArray] at D1
        have S8 := hid ((Below.refl u1.heap.size u1).alloc (Nat.le_refl _) (.cells #[.int .i64 p1.kind, .int .i64 p1.life, .int .i64 p1.piece, .int .i64 p1.src, .int .i64 p1.dst, .int .i64 p1.fp, .int .i64 p1.tp, .int .i64 p1.flags, .int .i64 p1.label, .bool p1.bare, .int .i64 p1.code, .slice AO1 p1.no cO1, .slice AD1 p1.nd cD1] 26))
        generalize (u1.alloc (.cells #[.int .i64 p1.kind, .int .i64 p1.life, .int .i64 p1.piece, .int .i64 p1.src, .int .i64 p1.dst, .int .i64 p1.fp, .int .i64 p1.tp, .int .i64 p1.flags, .int .i64 p1.label, .bool p1.bare, .int .i64 p1.code, .slice AO1 p1.no cO1, .slice AD1 p1.nd cD1] 26)) = v1 at *
        generalize hQ1 : u1.heap.size = Q1 at D1 ⊢
        have HQ1 := hid hQ1
        clear hQ1
        clear D1
        go_wp2_with fail
        go_roundw
        case rel => exact ⟨q + 1, by omega, by go_num, (then_ (then_ (then_ (then_ BR.out S5.out) S6.out) S7.out) S8.out)⟩
        case measure => simp [intOf]; omega
      · have q1 : ¬ (q : Int) < 2 := by omega
        go_wp2_with fail
        obtain ⟨b, hb⟩ : ∃ b, b = wholeB Z L := ⟨_, rfl⟩
        refine (re_bool (whole_any (some ⟨G, 0, none⟩) L c4 Z wr (Sl.below RZ.out (then_ S4.out BR.out) (Nat.le_refl _)) ZB.out hc4 LN) hb.symm).mono ?_
        rintro e w9 ⟨rfl, hb2⟩
        have S5 := hid hb2
        clear hb2
        have HW := hid hb
        clear hb
        cases b
        · go_wp2_with fail
          go_ret
          exact ⟨rfl, (then_ (then_ (then_ (then_ (then_ S1.out S2.out) SZ.out) S4.out) BR.out) S5.out)⟩
        · have m1 := cut_to_b (some ⟨G, 0, none⟩) L c4 16 (by omega) hc4 16 rfl
          go_wp2_with fail
          clear m1
          refine (re_bool (rright_any (some ⟨G, 0, none⟩) 16 c4 Z w9 ((Sl.below RZ.out (then_ (then_ S4.out BR.out) S5.out) (Nat.le_refl _)).less (by omega)) ZB.out (by omega)) (whole_head HW.out.symm)).mono ?_
          rintro e w' ⟨rfl, rfl⟩
          go_wp2_with fail
          go_ret
          exact ⟨rfl, (then_ (then_ (then_ (then_ (then_ S1.out S2.out) SZ.out) S4.out) BR.out) S5.out)⟩

set_option maxRecDepth 100000 in
theorem lifted (os : Os) (started : os.Started) (H : Type) (enc : TypeId × Value → H) :
    ReturnsInHanded {} Try.checked os 13 .any (Rows.wireHeadsSpec.pre6 enc Try.prog Try.f13 [] false) (Rows.wireHeadsSpec.post enc Try.prog Try.f13 false true false false) :=
  law_step (s := Rows.wireHeadsSpec) started (by kernel_rfl) Try.func13
    (ChangeSpec.witness6 (s := Rows.wireHeadsSpec) (enc := enc) (C := Try.checked) false ⟨#[], #[.int .i64 0, .slice none 0 0, .slice none 0 0, .int .i64 0, .int .u8 0, .int .i64 0], []⟩ 8 (by kernel_rfl) (by kernel_rfl) (by kernel_rfl) (by kernel_rfl))
    rfl (by rw [Try.params13]; decide +kernel) rfl Try.underlying4
    (fun ds h => by
      rw [Try.params13] at h
      match ds, h with
      | [_, _, _, _, _, _], _ => rfl)
    (fun W base args ds ps hval hA hsz => by
      rw [Try.params13] at hA hval hsz
      obtain ⟨v0, vs0, d0, ds0, p0, q0, hargs, rfl, rfl, h0, r0⟩ := trodAll_cons hA
      obtain ⟨v1, vs1, d1, ds1, p1, q1, rfl, rfl, rfl, h1, r1⟩ := trodAll_cons r0
      obtain ⟨v2, vs2, d2, ds2, p2, q2, rfl, rfl, rfl, h2, r2⟩ := trodAll_cons r1
      obtain ⟨v3, vs3, d3, ds3, p3, q3, rfl, rfl, rfl, h3, r3⟩ := trodAll_cons r2
      obtain ⟨v4, vs4, d4, ds4, p4, q4, rfl, rfl, rfl, h4, r4⟩ := trodAll_cons r3
      obtain ⟨v5, vs5, d5, ds5, p5, q5, rfl, rfl, rfl, h5, r5⟩ := trodAll_cons r4
      obtain ⟨rfl, rfl, rfl⟩ := trodAll_nil r5
      obtain rfl : args = #[v0, v1, v2, v3, v4, v5] := by cases args; simp_all
      obtain ⟨a0, rfl, rfl, rfl, w0⟩ := open_int Try.underlying3 (hval 0 3 v0 rfl rfl) h0
      obtain ⟨A1, n1, c1, g1, rfl, hn1, hc1, hs1, hw1, hl1, hd1⟩ := open_row Try.underlying22 Try.underlying3 (by kernel_rfl) (hval 1 22 v1 rfl rfl) h1
      have re1 : c1 * 8 ≤ 140737488351232 := by
        rcases hd1 with ⟨_, h0⟩ | ⟨xs, ys, h1, h2⟩
        · omega
        · have := sized_slice hsz (j := 1) (t := 22) (e := 3) rfl (by rw [h1]; rfl) Try.underlying22
          rw [h2, show Try.prog.bytesOf 3 = 8 from by kernel_rfl] at this
          simpa [reachBytes] using this
      obtain ⟨A2, n2, c2, g2, rfl, hn2, hc2, hs2, hw2, hl2, hd2⟩ := open_row Try.underlying23 Try.underlying5 (by kernel_rfl) (hval 2 23 v2 rfl rfl) h2
      have re2 : c2 * 1 ≤ 140737488351232 := by
        rcases hd2 with ⟨_, h0⟩ | ⟨xs, ys, h1, h2⟩
        · omega
        · have := sized_slice hsz (j := 2) (t := 23) (e := 5) rfl (by rw [h1]; rfl) Try.underlying23
          rw [h2, show Try.prog.bytesOf 5 = 1 from by kernel_rfl] at this
          simpa [reachBytes] using this
      obtain ⟨a3, rfl, rfl, rfl, w3⟩ := open_int Try.underlying3 (hval 3 3 v3 rfl rfl) h3
      obtain ⟨a4, rfl, rfl, rfl, w4⟩ := open_int Try.underlying5 (hval 4 5 v4 rfl rfl) h4
      obtain ⟨a5, rfl, rfl, rfl, w5⟩ := open_int Try.underlying3 (hval 5 3 v5 rfl rfl) h5
      exact walk W a0 (bounds_i64 w0) A1 n1 c1 g1 hn1 hc1 hs1 (fun j => bounds_i64 (hw1 j)) hl1 re1 A2 n2 c2 g2 hn2 hc2 hs2 (fun j => bounds_u8 (hw2 j)) hl2 re2 a3 (bounds_i64 w3) a4 (bounds_u8 w4) a5 (bounds_i64 w5))

theorem proved : Rows.WireHeadsSaid :=
  OpenClaim.holds_of_wide 13 Try.f13 rfl rfl rfl rfl rfl rfl rfl ⟨rfl, rfl, rfl, rfl, rfl⟩ rfl rfl rfl rfl rfl (by kernel_rfl) Try.func13 (by kernel_rfl)
    (of_decide_eq_true (by kernel_rfl)) (by unfold Func.isWrapper; first | (rw [if_pos (by decide +kernel)]; kernel_rfl) | (rw [if_neg (by decide +kernel)]; exact ⟨rfl, rfl⟩))
    (fun os started H enc _ => lifted os started H enc)
end Go.Proofs.Ytjljaecjnpmdoaa.wireHeads
