/- roundhouselaw3.WireWrites answers true for any kind, any numbers, any bytes; no condition. -/
import Derived.Test.YtjljaecjnpmdoaaWirLaw
import Derived.BigQuiet
import Derived.Deep.RegionHeld3
import Derived.Deep.Cut
namespace Go.Proofs.Ytjljaecjnpmdoaa.wireWrites
set_option linter.unusedVariables false
set_option linter.unusedSimpArgs false
open Go.RowKit Go.ChangeShapes Go.WideShapes Go.ChangeAt

set_option maxRecDepth 100000 in
set_option maxHeartbeats 4000000 in
theorem walk (W : World) (a0 : Int) (r_a0 : -9223372036854775808 ≤ a0 ∧ a0 ≤ 9223372036854775807) (A1 : Option Addr) (n1 c1 : Nat) (g1 : Nat → Int) (hn1 : n1 ≤ c1) (hc1 : c1 ≤ maxLen) (hr1 : Is W A1 n1 g1) (hg1 : IsI g1) (hl1 : ∀ ad, A1 = some ad → 0 < n1 → ad.block < W.heap.size) (re1 : c1 * 8 ≤ 140737488351232) (A2 : Option Addr) (n2 c2 : Nat) (g2 : Nat → Int) (hn2 : n2 ≤ c2) (hc2 : c2 ≤ maxLen) (hr2 : By W A2 n2 g2) (hg2 : IsB g2) (hl2 : ∀ ad, A2 = some ad → 0 < n2 → ad.block < W.heap.size) (re2 : c2 * 1 ≤ 140737488351232) (a3 : Int) (r_a3 : -9223372036854775808 ≤ a3 ∧ a3 ≤ 9223372036854775807) (a4 : Int) (r_a4 : -9223372036854775808 ≤ a4 ∧ a4 ≤ 9223372036854775807) (a5 : Int) (r_a5 : -9223372036854775808 ≤ a5 ∧ a5 ≤ 9223372036854775807) (a6 : Int) (r_a6 : -9223372036854775808 ≤ a6 ∧ a6 ≤ 9223372036854775807) (a7 : Int) (r_a7 : -9223372036854775808 ≤ a7 ∧ a7 ≤ 9223372036854775807) :
    Calls Try.prog 6 #[.int .i64 a0, .slice A1 n1 c1, .slice A2 n2 c2, .int .i64 a3, .int .i64 a4, .int .i64 a5, .int .i64 a6, .int .i64 a7] W fun e w' => e = .returned (.bool true) ∧ Below W.heap.size W w' := by
  have HG := hid hg2
  have m1 : (n1 : Int) ≤ 9223372036854775807 := by unfold maxLen at hc1; omega
  have m2 : (n2 : Int) ≤ 9223372036854775807 := by unfold maxLen at hc2; omega
  have H1 := hid (hr1)
  have H2 := hid (hr2)
  obtain ⟨p, hp⟩ : ∃ p, p = mkPk a0 (nv g1 n1) g2 n2 := ⟨_, rfl⟩
  obtain ⟨L, hL⟩ : ∃ L, L = lenP p := ⟨_, rfl⟩
  obtain ⟨F, hF⟩ : ∃ F, F = builtF p := ⟨_, rfl⟩
  have M := mk_all hp HG.out hL hF
  have MK := hid (make_p p a0 A1 n1 c1 g1 A2 n2 c2 g2 hp HG.out m1 hn2 m2)
  have BU := hid (build_p p L F hL hF M.E M.go M.gd (Nat.le_trans M.no (by decide)) (Nat.le_trans M.nd (by decide)))
  have RB := hid (rbuild_p p L F hL hF M.E M.go M.gd (Nat.le_trans M.no (by decide)) (Nat.le_trans M.nd (by decide)))
  have HM := hid M
  have L0 := M.L0
  have L1 := M.L1
  have LN : L ≤ 1000000 := by omega
  clear M
  clear hp hL hF hr1 hr2 hg1 hg2 hl1 hl2 re1 re2 hc1 hc2 m1 m2
  clear BU
  have wr := r_a6
  have at_ := r_a3
  obtain ⟨k, hk⟩ : ∃ x, x = wi a7 4 := ⟨_, rfl⟩
  have bk := wi_bd a7 4 (by omega)
  rw [← hk] at bk
  have Wk := hid (fun w => re_i64 (within_any a7 4 w (by omega) (by omega)) hk.symm)
  clear hk
  obtain ⟨bk1, bk2⟩ := bk
  obtain ⟨j, hj⟩ : ∃ x, x = wi a4 6 := ⟨_, rfl⟩
  have bj := wi_bd a4 6 (by omega)
  rw [← hj] at bj
  have Wj := hid (fun w => re_i64 (within_any a4 6 w (by omega) (by omega)) hj.symm)
  clear hj
  obtain ⟨bj1, bj2⟩ := bj
  obtain ⟨i, hi⟩ : ∃ x, x = wi a3 ((L : Int) - 10) := ⟨_, rfl⟩
  have bi := wi_bd a3 ((L : Int) - 10) (by omega)
  rw [← hi] at bi
  have Wi := hid (fun w => re_i64 (within_any a3 ((L : Int) - 10) w (by omega) (by omega)) hi.symm)
  clear hi
  obtain ⟨bi1, bi2⟩ := bi
  obtain ⟨x, hx⟩ : ∃ x, x = wi a5 65536 := ⟨_, rfl⟩
  have bx := wi_bd a5 65536 (by omega)
  rw [← hx] at bx
  have Wx := hid (fun w => re_i64 (within_any a5 65536 w (by omega) (by omega)) hx.symm)
  clear hx
  obtain ⟨bx1, bx2⟩ := bx
  go_enter Try.func6, Try.ntmps6
  go_wp2_with fail
  refine (known_any _).mono ?_
  rintro e w1 ⟨rfl, hb⟩
  have S1 := hid hb
  clear hb
  go_wp2_with fail
  refine (MK.out w1 (Sl.below H1.out S1.out (Nat.le_refl _)) (Sl.below H2.out S1.out (Nat.le_refl _))).mono ?_
  rintro e w2 ⟨AO, cO, AD, cD, rfl, hO, hD, hb⟩
  have S2 := hid hb
  clear hb
  have RO := hid (hO)
  have RD := hid (hD)
  clear hO hD
  clear MK
  go_wp2_with fail
  refine (RB.out AO cO AD cD w2 (Sl.below RO.out (Below.refl _ _) (Nat.le_refl _)) (Sl.below RD.out (Below.refl _ _) (Nat.le_refl _))).mono ?_
  rintro e w3 ⟨A4, c4, rfl, hO, hc4, hb⟩
  have S3 := hid hb
  clear hb
  have O4 := hid hO
  clear hO RB
  clear RO
  clear RD
  go_wp2_with fail
  refine (Wk.out _).mono ?_
  rintro e w' ⟨rfl, rfl⟩
  have ck : (k == 0) = true ∨ (k == 0) = false := by cases (k == 0) <;> simp
  rcases ck with ck | ck
  · obtain ⟨G, eG, hGB, hGs, hce, hfr⟩ := Ow.block_ O4.out (by omega)
    subst eG
    have c1 := hce (L - 1) (by omega)
    have f1 := hfr (L - 1)
    have qL : ((L : Int) - 1) = ((L - 1 : Nat) : Int) := by omega
    obtain ⟨y, hy⟩ : ∃ y, IntKind.u8.wrap (F (L - 1) + 1) = y := ⟨_, rfl⟩
    have yb : 0 ≤ y ∧ y ≤ 255 := by rw [← hy, IntKind.wrap_u8]; omega
    go_upto_region 6 with (fail)
    have OZ := hid (OB.store O4.out (L - 1) y)
    have ZB : Hid (IsB (set1 F (L - 1) y)) := hid (set1_B HM.out.B (L - 1) y yb.1 yb.2)
    have SZ := hid (Below.setCell (p := ⟨G, L - 1, none⟩) (B := w2.heap.size) S3.out hGB (.int .u8 y))
    clear hce hfr c1 f1 qL hy yb S3
    generalize (w3.setCell ⟨G, L - 1, none⟩ (.int .u8 y)) = v4 at *
    generalize set1 F (L - 1) y = Z at OZ ZB
    have R := hid (OZ.out.sl1)
    clear OZ hGB hGs O4
    go_upto_region 6 with (fail)
    go_wp2_with fail
    refine (Wj.out _).mono ?_
    rintro e w' ⟨rfl, rfl⟩
    go_upto_region 7 with (fail)
    obtain ⟨m, hm⟩ : ∃ v : Int, v = [1, 2, 4, 0, 3, a4].getD j.toNat 0 := ⟨_, rfl⟩
    have hq : ([.int .i64 1, .int .i64 2, .int .i64 4, .int .i64 0, .int .i64 3, .int .i64 a4] : List Value)[j.toNat]'(by simp only [List.length_cons, List.length_nil]; omega) = .int .i64 m := by
      rw [hm]
      have h5 : j = 0 ∨ j = 1 ∨ j = 2 ∨ j = 3 ∨ j = 4 ∨ j = 5 := by omega
      rcases h5 with rfl | rfl | rfl | rfl | rfl | rfl <;> rfl
    simp only [hq]
    clear hq
    have SB := hid ((Below.refl v4.heap.size v4).alloc (Nat.le_refl _) (.cells #[.int .i64 1, .int .i64 2, .int .i64 4, .int .i64 0, .int .i64 3, .int .i64 a4] 3))
    generalize (v4.alloc (.cells #[.int .i64 1, .int .i64 2, .int .i64 4, .int .i64 0, .int .i64 3, .int .i64 a4] 3)) = u1 at *
    clear hm
    go_wp2_with fail
    refine (Wi.out _).mono ?_
    rintro e w' ⟨rfl, rfl⟩
    go_wp2_with fail
    refine (Wx.out _).mono ?_
    rintro e w' ⟨rfl, rfl⟩
    obtain ⟨E1, hE1⟩ : ∃ E, E = wrE Z L (14 + i) m x := ⟨_, rfl⟩
    obtain ⟨N1, hN1⟩ : ∃ N, N = if E1 = 0 then L else 0 := ⟨_, rfl⟩
    obtain ⟨G1, hG1⟩ : ∃ G, G = wrF Z L (14 + i).toNat m.toNat x := ⟨_, rfl⟩
    have T1 := hid (write_q Z L (14 + i) m x E1 N1 G1 hE1 hN1 hG1 ZB.out LN (by omega))
    have V1 := hid (rwrite_q Z L (14 + i) m x E1 N1 G1 hE1 hN1 hG1 ZB.out LN (by omega))
    clear hE1 hN1 hG1
    obtain ⟨E2, hE2⟩ : ∃ E, E = wrE Z L a3 m a6 := ⟨_, rfl⟩
    obtain ⟨N2, hN2⟩ : ∃ N, N = if E2 = 0 then L else 0 := ⟨_, rfl⟩
    obtain ⟨G2, hG2⟩ : ∃ G, G = wrF Z L a3.toNat m.toNat a6 := ⟨_, rfl⟩
    have T2 := hid (write_q Z L a3 m a6 E2 N2 G2 hE2 hN2 hG2 ZB.out LN at_)
    have V2 := hid (rwrite_q Z L a3 m a6 E2 N2 G2 hE2 hN2 hG2 ZB.out LN at_)
    clear hE2 hN2 hG2
    go_wp2_with fail
    refine (T1.out (some ⟨G, 0, none⟩) c4 hc4 u1 (Sl.below R.out SB.out (Nat.le_refl _))).mono ?_
    rintro e u2 ⟨X0, d0, rfl, hO, _, hb⟩
    have S4 := hid hb
    clear hb
    have Y0 := hid (hO.sl1)
    clear hO T1
    go_wp2_with fail
    refine (V1.out (some ⟨G, 0, none⟩) c4 hc4 u2 (Sl.below R.out (then_ SB.out S4.out) (Nat.le_refl _))).mono ?_
    rintro e u3 ⟨X1, d1, rfl, hO, _, hb⟩
    have S5 := hid hb
    clear hb
    have Y1 := hid (hO.sl1)
    clear hO V1
    go_wp2_with fail
    refine (T2.out (some ⟨G, 0, none⟩) c4 hc4 u3 (Sl.below R.out (then_ (then_ SB.out S4.out) S5.out) (Nat.le_refl _))).mono ?_
    rintro e u4 ⟨X2, d2, rfl, hO, _, hb⟩
    have S6 := hid hb
    clear hb
    have Y2 := hid (hO.sl1)
    clear hO T2
    go_wp2_with fail
    refine (V2.out (some ⟨G, 0, none⟩) c4 hc4 u4 (Sl.below R.out (then_ (then_ (then_ SB.out S4.out) S5.out) S6.out) (Nat.le_refl _))).mono ?_
    rintro e u5 ⟨X3, d3, rfl, hO, _, hb⟩
    have S7 := hid hb
    clear hb
    have Y3 := hid (hO.sl1)
    clear hO V2
    go_upto_region 13 with (fail)
    have x0 := conv_str d0 (Sl.below Y0.out (then_ (then_ S5.out S6.out) S7.out) (Nat.le_refl _))
    have x1 := conv_str d1 (Sl.below Y1.out (then_ S6.out S7.out) (Nat.le_refl _))
    have x2 := conv_str d2 (Sl.below Y2.out S7.out (Nat.le_refl _))
    have x3 := conv_str d3 (Sl.below Y3.out (Below.refl _ _) (Nat.le_refl _))
    go_wp2_with fail
    go_ret
    exact ⟨rfl, (then_ (then_ (then_ (then_ (then_ (then_ (then_ S1.out S2.out) SZ.out) SB.out) S4.out) S5.out) S6.out) S7.out)⟩
  · have R := hid (O4.out.sl1)
    go_upto_region 6 with (fail)
    go_wp2_with fail
    refine (Wj.out _).mono ?_
    rintro e w' ⟨rfl, rfl⟩
    go_upto_region 7 with (fail)
    obtain ⟨m, hm⟩ : ∃ v : Int, v = [1, 2, 4, 0, 3, a4].getD j.toNat 0 := ⟨_, rfl⟩
    have hq : ([.int .i64 1, .int .i64 2, .int .i64 4, .int .i64 0, .int .i64 3, .int .i64 a4] : List Value)[j.toNat]'(by simp only [List.length_cons, List.length_nil]; omega) = .int .i64 m := by
      rw [hm]
      have h5 : j = 0 ∨ j = 1 ∨ j = 2 ∨ j = 3 ∨ j = 4 ∨ j = 5 := by omega
      rcases h5 with rfl | rfl | rfl | rfl | rfl | rfl <;> rfl
    simp only [hq]
    clear hq
    have SB := hid ((Below.refl w3.heap.size w3).alloc (Nat.le_refl _) (.cells #[.int .i64 1, .int .i64 2, .int .i64 4, .int .i64 0, .int .i64 3, .int .i64 a4] 3))
    generalize (w3.alloc (.cells #[.int .i64 1, .int .i64 2, .int .i64 4, .int .i64 0, .int .i64 3, .int .i64 a4] 3)) = u1 at *
    clear hm
    go_wp2_with fail
    refine (Wi.out _).mono ?_
    rintro e w' ⟨rfl, rfl⟩
    go_wp2_with fail
    refine (Wx.out _).mono ?_
    rintro e w' ⟨rfl, rfl⟩
    obtain ⟨E1, hE1⟩ : ∃ E, E = wrE F L (14 + i) m x := ⟨_, rfl⟩
    obtain ⟨N1, hN1⟩ : ∃ N, N = if E1 = 0 then L else 0 := ⟨_, rfl⟩
    obtain ⟨G1, hG1⟩ : ∃ G, G = wrF F L (14 + i).toNat m.toNat x := ⟨_, rfl⟩
    have T1 := hid (write_q F L (14 + i) m x E1 N1 G1 hE1 hN1 hG1 HM.out.B LN (by omega))
    have V1 := hid (rwrite_q F L (14 + i) m x E1 N1 G1 hE1 hN1 hG1 HM.out.B LN (by omega))
    clear hE1 hN1 hG1
    obtain ⟨E2, hE2⟩ : ∃ E, E = wrE F L a3 m a6 := ⟨_, rfl⟩
    obtain ⟨N2, hN2⟩ : ∃ N, N = if E2 = 0 then L else 0 := ⟨_, rfl⟩
    obtain ⟨G2, hG2⟩ : ∃ G, G = wrF F L a3.toNat m.toNat a6 := ⟨_, rfl⟩
    have T2 := hid (write_q F L a3 m a6 E2 N2 G2 hE2 hN2 hG2 HM.out.B LN at_)
    have V2 := hid (rwrite_q F L a3 m a6 E2 N2 G2 hE2 hN2 hG2 HM.out.B LN at_)
    clear hE2 hN2 hG2
    go_wp2_with fail
    refine (T1.out A4 c4 hc4 u1 (Sl.below R.out SB.out (Nat.le_refl _))).mono ?_
    rintro e u2 ⟨X0, d0, rfl, hO, _, hb⟩
    have S4 := hid hb
    clear hb
    have Y0 := hid (hO.sl1)
    clear hO T1
    go_wp2_with fail
    refine (V1.out A4 c4 hc4 u2 (Sl.below R.out (then_ SB.out S4.out) (Nat.le_refl _))).mono ?_
    rintro e u3 ⟨X1, d1, rfl, hO, _, hb⟩
    have S5 := hid hb
    clear hb
    have Y1 := hid (hO.sl1)
    clear hO V1
    go_wp2_with fail
    refine (T2.out A4 c4 hc4 u3 (Sl.below R.out (then_ (then_ SB.out S4.out) S5.out) (Nat.le_refl _))).mono ?_
    rintro e u4 ⟨X2, d2, rfl, hO, _, hb⟩
    have S6 := hid hb
    clear hb
    have Y2 := hid (hO.sl1)
    clear hO T2
    go_wp2_with fail
    refine (V2.out A4 c4 hc4 u4 (Sl.below R.out (then_ (then_ (then_ SB.out S4.out) S5.out) S6.out) (Nat.le_refl _))).mono ?_
    rintro e u5 ⟨X3, d3, rfl, hO, _, hb⟩
    have S7 := hid hb
    clear hb
    have Y3 := hid (hO.sl1)
    clear hO V2
    go_upto_region 13 with (fail)
    have x0 := conv_str d0 (Sl.below Y0.out (then_ (then_ S5.out S6.out) S7.out) (Nat.le_refl _))
    have x1 := conv_str d1 (Sl.below Y1.out (then_ S6.out S7.out) (Nat.le_refl _))
    have x2 := conv_str d2 (Sl.below Y2.out S7.out (Nat.le_refl _))
    have x3 := conv_str d3 (Sl.below Y3.out (Below.refl _ _) (Nat.le_refl _))
    go_wp2_with fail
    go_ret
    exact ⟨rfl, (then_ (then_ (then_ (then_ (then_ (then_ (then_ S1.out S2.out) S3.out) SB.out) S4.out) S5.out) S6.out) S7.out)⟩

set_option maxRecDepth 100000 in
theorem lifted (os : Os) (started : os.Started) (H : Type) (enc : TypeId × Value → H) :
    ReturnsInHanded {} Try.checked os 6 .any (Rows.wireWritesSpec.pre6 enc Try.prog Try.f6 [] false) (Rows.wireWritesSpec.post enc Try.prog Try.f6 false true false false) :=
  law_step (s := Rows.wireWritesSpec) started (by kernel_rfl) Try.func6
    (ChangeSpec.witness6 (s := Rows.wireWritesSpec) (enc := enc) (C := Try.checked) false ⟨#[], #[.int .i64 0, .slice none 0 0, .slice none 0 0, .int .i64 0, .int .i64 0, .int .i64 0, .int .i64 0, .int .i64 0], []⟩ 8 (by kernel_rfl) (by kernel_rfl) (by kernel_rfl) (by kernel_rfl))
    rfl (by rw [Try.params6]; decide +kernel) rfl Try.underlying4
    (fun ds h => by
      rw [Try.params6] at h
      match ds, h with
      | [_, _, _, _, _, _, _, _], _ => rfl)
    (fun W base args ds ps hval hA hsz => by
      rw [Try.params6] at hA hval hsz
      obtain ⟨v0, vs0, d0, ds0, p0, q0, hargs, rfl, rfl, h0, r0⟩ := trodAll_cons hA
      obtain ⟨v1, vs1, d1, ds1, p1, q1, rfl, rfl, rfl, h1, r1⟩ := trodAll_cons r0
      obtain ⟨v2, vs2, d2, ds2, p2, q2, rfl, rfl, rfl, h2, r2⟩ := trodAll_cons r1
      obtain ⟨v3, vs3, d3, ds3, p3, q3, rfl, rfl, rfl, h3, r3⟩ := trodAll_cons r2
      obtain ⟨v4, vs4, d4, ds4, p4, q4, rfl, rfl, rfl, h4, r4⟩ := trodAll_cons r3
      obtain ⟨v5, vs5, d5, ds5, p5, q5, rfl, rfl, rfl, h5, r5⟩ := trodAll_cons r4
      obtain ⟨v6, vs6, d6, ds6, p6, q6, rfl, rfl, rfl, h6, r6⟩ := trodAll_cons r5
      obtain ⟨v7, vs7, d7, ds7, p7, q7, rfl, rfl, rfl, h7, r7⟩ := trodAll_cons r6
      obtain ⟨rfl, rfl, rfl⟩ := trodAll_nil r7
      obtain rfl : args = #[v0, v1, v2, v3, v4, v5, v6, v7] := by cases args; simp_all
      obtain ⟨a0, rfl, rfl, rfl, w0⟩ := open_int Try.underlying3 (hval 0 3 v0 rfl rfl) h0
      obtain ⟨A1, n1, c1, g1, rfl, hn1, hc1, hs1, hw1, hl1, hd1⟩ := open_row Try.underlying22 Try.underlying3 (by kernel_rfl) (hval 1 22 v1 rfl rfl) h1
      have re1 : c1 * 8 ≤ 140737488351232 := by
        rcases hd1 with ⟨_, h0⟩ | ⟨xs, ys, h1, h2⟩
        · omega
        · have := sized_slice hsz (j := 1) (t := 22) (e := 3) rfl (by rw [h1]; rfl) Try.underlying22
          rw [h2, show Try.prog.bytesOf 3 = 8 from by kernel_rfl] at this
          simpa [reachBytes] using this
      obtain ⟨A2, n2, c2, g2, rfl, hn2, hc2, hs2, hw2, hl2, hd2⟩ := open_row Try.underlying23 Try.underlying5 (by kernel_rfl) (hval 2 23 v2 rfl rfl) h2
      have re2 : c2 * 1 ≤ 140737488351232 := by
        rcases hd2 with ⟨_, h0⟩ | ⟨xs, ys, h1, h2⟩
        · omega
        · have := sized_slice hsz (j := 2) (t := 23) (e := 5) rfl (by rw [h1]; rfl) Try.underlying23
          rw [h2, show Try.prog.bytesOf 5 = 1 from by kernel_rfl] at this
          simpa [reachBytes] using this
      obtain ⟨a3, rfl, rfl, rfl, w3⟩ := open_int Try.underlying3 (hval 3 3 v3 rfl rfl) h3
      obtain ⟨a4, rfl, rfl, rfl, w4⟩ := open_int Try.underlying3 (hval 4 3 v4 rfl rfl) h4
      obtain ⟨a5, rfl, rfl, rfl, w5⟩ := open_int Try.underlying3 (hval 5 3 v5 rfl rfl) h5
      obtain ⟨a6, rfl, rfl, rfl, w6⟩ := open_int Try.underlying3 (hval 6 3 v6 rfl rfl) h6
      obtain ⟨a7, rfl, rfl, rfl, w7⟩ := open_int Try.underlying3 (hval 7 3 v7 rfl rfl) h7
      exact walk W a0 (bounds_i64 w0) A1 n1 c1 g1 hn1 hc1 hs1 (fun j => bounds_i64 (hw1 j)) hl1 re1 A2 n2 c2 g2 hn2 hc2 hs2 (fun j => bounds_u8 (hw2 j)) hl2 re2 a3 (bounds_i64 w3) a4 (bounds_i64 w4) a5 (bounds_i64 w5) a6 (bounds_i64 w6) a7 (bounds_i64 w7))

theorem proved : Rows.WireWritesSaid :=
  OpenClaim.holds_of_wide 6 Try.f6 rfl rfl rfl rfl rfl rfl rfl ⟨rfl, rfl, rfl, rfl, rfl⟩ rfl rfl rfl rfl rfl (by kernel_rfl) Try.func6 (by kernel_rfl)
    (of_decide_eq_true (by kernel_rfl)) (by unfold Func.isWrapper; first | (rw [if_pos (by decide +kernel)]; kernel_rfl) | (rw [if_neg (by decide +kernel)]; exact ⟨rfl, rfl⟩))
    (fun os started H enc _ => lifted os started H enc)
end Go.Proofs.Ytjljaecjnpmdoaa.wireWrites
