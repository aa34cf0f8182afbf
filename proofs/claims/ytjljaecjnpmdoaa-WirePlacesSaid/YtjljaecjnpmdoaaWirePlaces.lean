/- roundhouselaw3.WirePlaces answers true for any kind, any numbers, any bytes, any place; no condition. -/
import Derived.Test.YtjljaecjnpmdoaaWirLaw
import Derived.Test.YtjljaecjnpmdoaaWirLawP
import Derived.BigQuiet
import Derived.Deep.RegionHeld3
import Derived.Deep.Cut
namespace Go.Proofs.Ytjljaecjnpmdoaa.wirePlaces
set_option linter.unusedVariables false
set_option linter.unusedSimpArgs false
open Go.RowKit Go.ChangeShapes Go.WideShapes Go.ChangeAt

set_option maxRecDepth 100000 in
set_option maxHeartbeats 4000000 in
theorem walk (W : World) (a0 : Int) (r_a0 : -9223372036854775808 ≤ a0 ∧ a0 ≤ 9223372036854775807) (A1 : Option Addr) (n1 c1 : Nat) (g1 : Nat → Int) (hn1 : n1 ≤ c1) (hc1 : c1 ≤ maxLen) (hr1 : Is W A1 n1 g1) (hg1 : IsI g1) (hl1 : ∀ ad, A1 = some ad → 0 < n1 → ad.block < W.heap.size) (re1 : c1 * 8 ≤ 140737488351232) (A2 : Option Addr) (n2 c2 : Nat) (g2 : Nat → Int) (hn2 : n2 ≤ c2) (hc2 : c2 ≤ maxLen) (hr2 : By W A2 n2 g2) (hg2 : IsB g2) (hl2 : ∀ ad, A2 = some ad → 0 < n2 → ad.block < W.heap.size) (re2 : c2 * 1 ≤ 140737488351232) (a3 : Bool) (a4 : Int) (r_a4 : -9223372036854775808 ≤ a4 ∧ a4 ≤ 9223372036854775807) (a5 : Int) (r_a5 : -9223372036854775808 ≤ a5 ∧ a5 ≤ 9223372036854775807) :
    Calls Try.prog 10 #[.int .i64 a0, .slice A1 n1 c1, .slice A2 n2 c2, .bool a3, .int .i64 a4, .int .i64 a5] W fun e w' => e = .returned (.bool true) ∧ Below W.heap.size W w' := by
  have HG := hid hg2
  have m1 : (n1 : Int) ≤ 9223372036854775807 := by unfold maxLen at hc1; omega
  have m2 : (n2 : Int) ≤ 9223372036854775807 := by unfold maxLen at hc2; omega
  have H1 := hid (hr1)
  have H2 := hid (hr2)
  obtain ⟨p, hp⟩ : ∃ p, p = mkPk a0 (nv g1 n1) g2 n2 := ⟨_, rfl⟩
  obtain ⟨L, hL⟩ : ∃ L, L = lenP p := ⟨_, rfl⟩
  obtain ⟨F, hF⟩ : ∃ F, F = builtF p := ⟨_, rfl⟩
  have M := mk_all hp HG.out hL hF
  have MK := hid (make_p p a0 A1 n1 c1 g1 A2 n2 c2 g2 hp HG.out m1 hn2 m2)
  have BU := hid (build_p p L F hL hF M.E M.go M.gd (Nat.le_trans M.no (by decide)) (Nat.le_trans M.nd (by decide)))
  have RB := hid (rbuild_p p L F hL hF M.E M.go M.gd (Nat.le_trans M.no (by decide)) (Nat.le_trans M.nd (by decide)))
  have HM := hid M
  have L0 := M.L0
  have L1 := M.L1
  have LN : L ≤ 1000000 := by omega
  clear M
  clear hp hL hF hr1 hr2 hg1 hg2 hl1 hl2 re1 re2 hc1 hc2 m1 m2
  clear BU
  obtain ⟨a, ha⟩ : ∃ x, x = wi a4 4294967296 := ⟨_, rfl⟩
  have ba := wi_bd a4 4294967296 (by omega)
  rw [← ha] at ba
  have Wa := hid (fun w => re_i64 (within_any a4 4294967296 w (by omega) (by omega)) ha.symm)
  clear ha
  obtain ⟨ba1, ba2⟩ := ba
  obtain ⟨q, hq⟩ : ∃ x, x = wi a5 65536 := ⟨_, rfl⟩
  have bq := wi_bd a5 65536 (by omega)
  rw [← hq] at bq
  have Wq := hid (fun w => re_i64 (within_any a5 65536 w (by omega) (by omega)) hq.symm)
  clear hq
  obtain ⟨bq1, bq2⟩ := bq
  have SA := hid (same_p p)
  have KF := hid (pe_kind HM.out.P HM.out.pe)
  have ck : (p.kind == 3) = true ∨ (p.kind == 3) = false := by cases (p.kind == 3) <;> simp
  rcases ck with ck | ck
  · have T := hid (nat_q F L a3 1 2 2 0 _ (nat_no HM.out.P (by rw [KF.out]; simpa using ck)).symm (by simp) rfl HM.out.B LN)
    generalize natF F L a3 1 2 = G at T
    go_enter Try.func10, Try.ntmps10
    go_wp2_with fail
    refine (known_any _).mono ?_
    rintro e w1 ⟨rfl, hb⟩
    have S1 := hid hb
    clear hb
    go_wp2_with fail
    refine (MK.out w1 (Sl.below H1.out S1.out (Nat.le_refl _)) (Sl.below H2.out S1.out (Nat.le_refl _))).mono ?_
    rintro e w2 ⟨AO, cO, AD, cD, rfl, hO, hD, hb⟩
    have S2 := hid hb
    clear hb
    have RO := hid (hO)
    have RD := hid (hD)
    clear hO hD
    clear MK
    go_upto_region 4 with (fail)
    have C1 := hid (Ce.made (w := w2) (l := [.int .i64 p.kind, .int .i64 p.life, .int .i64 p.piece, .int .i64 p.src, .int .i64 p.dst, .int .i64 p.fp, .int .i64 p.tp, .int .i64 p.flags, .int .i64 p.label, .bool p.bare, .int .i64 p.code, .slice AO p.no cO, .slice AD p.nd cD]) (T := 26) rfl)
    simp only [List.toArray] at C1
    have S3 := hid ((Below.refl w2.heap.size w2).alloc (Nat.le_refl _) (.cells #[.int .i64 p.kind, .int .i64 p.life, .int .i64 p.piece, .int .i64 p.src, .int .i64 p.dst, .int .i64 p.fp, .int .i64 p.tp, .int .i64 p.flags, .int .i64 p.label, .bool p.bare, .int .i64 p.code, .slice AO p.no cO, .slice AD p.nd cD] 26))
    generalize (w2.alloc (.cells #[.int .i64 p.kind, .int .i64 p.life, .int .i64 p.piece, .int .i64 p.src, .int .i64 p.dst, .int .i64 p.fp, .int .i64 p.tp, .int .i64 p.flags, .int .i64 p.label, .bool p.bare, .int .i64 p.code, .slice AO p.no cO, .slice AD p.nd cD] 26)) = w3 at *
    generalize hP1 : w2.heap.size = P1 at C1 ⊢
    have HP1 := hid hP1
    clear hP1
    have yC := (Ce.below C1.out (Below.refl _ _))
    have y0 := yC.2.1 0 _ rfl
    clear yC
    go_upto_region 5 with (fail)
    clear y0
    go_upto_region 5 with (fail)
    have yC := (Ce.below C1.out (Below.refl _ _))
    have y0 := yC.2.1 0 _ rfl
    have y1 := yC.2.1 1 _ rfl
    have y2 := yC.2.1 2 _ rfl
    have y3 := yC.2.1 3 _ rfl
    have y4 := yC.2.1 4 _ rfl
    have y5 := yC.2.1 5 _ rfl
    have y6 := yC.2.1 6 _ rfl
    have y7 := yC.2.1 7 _ rfl
    have y8 := yC.2.1 8 _ rfl
    have y9 := yC.2.1 9 _ rfl
    have y10 := yC.2.1 10 _ rfl
    have y11 := yC.2.1 11 _ rfl
    have y12 := yC.2.1 12 _ rfl
    clear yC
    go_wp2_with fail
    refine (RB.out AO cO AD cD w3 (Sl.below RO.out S3.out (Nat.le_refl _)) (Sl.below RD.out S3.out (Nat.le_refl _))).mono ?_
    rintro e w5 ⟨A5, c5, rfl, hO, hc5, hb⟩
    have S4 := hid hb
    clear hb
    have R5 := hid (hO.sl1)
    clear hO RB
    clear y0 y1 y2 y3 y4 y5 y6 y7 y8 y9 y10 y11 y12
    go_wp2_with fail
    refine (T.out A5 c5 hc5 w5 (Sl.below R5.out (Below.refl _ _) (Nat.le_refl _))).mono ?_
    rintro e w6 ⟨A6, c6, rfl, hO, _, hb⟩
    have S5 := hid hb
    clear hb
    clear hO T
    go_wp2_with fail
    go_ret
    exact ⟨rfl, (then_ (then_ (then_ (then_ S1.out S2.out) S3.out) S4.out) S5.out)⟩
  · have k3 : p.kind ≠ 3 := by simpa using ck
    have g3 : F 0 ≠ 3 := by rw [KF.out]; exact k3
    have PB := hid (place_bd HM.out.E k3)
    have G3 := hid g3
    have E1 := hid (nat_yes HM.out.P g3 (ad := a) (po := q) ⟨ba1, by omega⟩ ⟨bq1, by omega⟩)
    clear k3 g3
    cases a3
    · obtain ⟨G, hG⟩ : ∃ G, G = natF F L false a q := ⟨_, rfl⟩
      have GP : Hid (parseE G L = 0) := hid (by rw [hG]; exact nat_parse HM.out.B E1.out)
      have GB : Hid (IsB G) := hid (by rw [hG]; exact nat_isB HM.out.B _ _ _ _)
      have GW : Hid (wholeB G L = true) := hid (by rw [hG, nat_whole HM.out.B E1.out]; exact HM.out.w)
      have GE : Hid (Pe (parseR G L) { p with dst := a, tp := q }) := hid (by rw [hG]; exact nat_pe HM.out.B HM.out.pe E1.out)
      have T := hid (nat_q F L false a q 0 L G E1.out.symm (by simp) hG HM.out.B LN)
      have PA := parse_p { p with dst := a, tp := q } G L GB.out LN GP.out GE.out
      dsimp only at PA
      replace PA := hid PA
      have SQ := same_p { p with dst := a, tp := q }
      dsimp only at SQ
      replace SQ := hid SQ
      have E2 : Hid (natE G L p.dst p.tp = 0) := hid (nat_yes GP.out (by rw [pe_kind GP.out GE.out]; dsimp only; rw [← KF.out]; exact G3.out) PB.out.2.1 PB.out.2.2.2)
      obtain ⟨H, hH⟩ : ∃ H, H = natF G L false p.dst p.tp := ⟨_, rfl⟩
      have HP : Hid (parseE H L = 0) := hid (by rw [hH]; exact nat_parse GB.out E2.out)
      have HB : Hid (IsB H) := hid (by rw [hH]; exact nat_isB GB.out _ _ _ _)
      have HW : Hid (wholeB H L = true) := hid (by rw [hH, nat_whole GB.out E2.out]; exact GW.out)
      have HE : Hid (Pe (parseR H L) p) := hid (by rw [hH]; have h5 := nat_pe (p := { p with dst := a, tp := q }) (s := false) GB.out GE.out E2.out; exact h5)
      have T2 := hid (nat_q G L false p.dst p.tp 0 L H E2.out.symm (by simp) hH GB.out LN)
      have PA2 := hid (parse_p p H L HB.out LN HP.out HE.out)
      clear hG hH E1 E2
      go_enter Try.func10, Try.ntmps10
      go_wp2_with fail
      refine (known_any _).mono ?_
      rintro e w1 ⟨rfl, hb⟩
      have S1 := hid hb
      clear hb
      go_wp2_with fail
      refine (MK.out w1 (Sl.below H1.out S1.out (Nat.le_refl _)) (Sl.below H2.out S1.out (Nat.le_refl _))).mono ?_
      rintro e w2 ⟨AO, cO, AD, cD, rfl, hO, hD, hb⟩
      have S2 := hid hb
      clear hb
      have RO := hid (hO)
      have RD := hid (hD)
      clear hO hD
      clear MK
      go_upto_region 4 with (fail)
      have C1 := hid (Ce.made (w := w2) (l := [.int .i64 p.kind, .int .i64 p.life, .int .i64 p.piece, .int .i64 p.src, .int .i64 p.dst, .int .i64 p.fp, .int .i64 p.tp, .int .i64 p.flags, .int .i64 p.label, .bool p.bare, .int .i64 p.code, .slice AO p.no cO, .slice AD p.nd cD]) (T := 26) rfl)
      simp only [List.toArray] at C1
      have S3 := hid ((Below.refl w2.heap.size w2).alloc (Nat.le_refl _) (.cells #[.int .i64 p.kind, .int .i64 p.life, .int .i64 p.piece, .int .i64 p.src, .int .i64 p.dst, .int .i64 p.fp, .int .i64 p.tp, .int .i64 p.flags, .int .i64 p.label, .bool p.bare, .int .i64 p.code, .slice AO p.no cO, .slice AD p.nd cD] 26))
      generalize (w2.alloc (.cells #[.int .i64 p.kind, .int .i64 p.life, .int .i64 p.piece, .int .i64 p.src, .int .i64 p.dst, .int .i64 p.fp, .int .i64 p.tp, .int .i64 p.flags, .int .i64 p.label, .bool p.bare, .int .i64 p.code, .slice AO p.no cO, .slice AD p.nd cD] 26)) = w3 at *
      generalize hP1 : w2.heap.size = P1 at C1 ⊢
      have HP1 := hid hP1
      clear hP1
      have yC := (Ce.below C1.out (Below.refl _ _))
      have y0 := yC.2.1 0 _ rfl
      clear yC
      go_upto_region 8 with (fail)
      clear y0
      go_upto_region 8 with (fail)
      have yC := (Ce.below C1.out (Below.refl _ _))
      have y0 := yC.2.1 0 _ rfl
      have y1 := yC.2.1 1 _ rfl
      have y2 := yC.2.1 2 _ rfl
      have y3 := yC.2.1 3 _ rfl
      have y4 := yC.2.1 4 _ rfl
      have y5 := yC.2.1 5 _ rfl
      have y6 := yC.2.1 6 _ rfl
      have y7 := yC.2.1 7 _ rfl
      have y8 := yC.2.1 8 _ rfl
      have y9 := yC.2.1 9 _ rfl
      have y10 := yC.2.1 10 _ rfl
      have y11 := yC.2.1 11 _ rfl
      have y12 := yC.2.1 12 _ rfl
      clear yC
      go_wp2_with fail
      refine (RB.out AO cO AD cD w3 (Sl.below RO.out S3.out (Nat.le_refl _)) (Sl.below RD.out S3.out (Nat.le_refl _))).mono ?_
      rintro e w5 ⟨A5, c5, rfl, hO, hc5, hb⟩
      have S4 := hid hb
      clear hb
      have R5 := hid (hO.sl1)
      clear hO RB
      clear y0 y1 y2 y3 y4 y5 y6 y7 y8 y9 y10 y11 y12
      go_wp2_with fail
      refine (Wa.out _).mono ?_
      rintro e w' ⟨rfl, rfl⟩
      go_wp2_with fail
      refine (Wq.out _).mono ?_
      rintro e w' ⟨rfl, rfl⟩
      go_wp2_with fail
      refine (T.out A5 c5 hc5 w5 (Sl.below R5.out (Below.refl _ _) (Nat.le_refl _))).mono ?_
      rintro e w6 ⟨A6, c6, rfl, hO, hc6, hb⟩
      have S5 := hid hb
      clear hb
      have R6 := hid (hO.sl1)
      clear hO T
      go_wp2_with fail
      refine (PA.out A6 c6 hc6 w6 (Sl.below R6.out (Below.refl _ _) (Nat.le_refl _))).mono ?_
      rintro e w7 ⟨AO2, cO2, AD2, cD2, rfl, hO, hD, hb⟩
      have S6 := hid hb
      clear hb
      have RO2 := hid (hO.sl1)
      have RD2 := hid (hD.sl1)
      clear hO hD PA
      go_upto_region 12 with (fail)
      have C2 := hid (Ce.made (w := w7) (l := [.int .i64 p.kind, .int .i64 p.life, .int .i64 p.piece, .int .i64 p.src, .int .i64 a, .int .i64 p.fp, .int .i64 q, .int .i64 p.flags, .int .i64 p.label, .bool p.bare, .int .i64 p.code, .slice AO2 p.no cO2, .slice AD2 p.nd cD2]) (T := 26) rfl)
      simp only [List.toArray] at C2
      have S7 := hid ((Below.refl w7.heap.size w7).alloc (Nat.le_refl _) (.cells #[.int .i64 p.kind, .int .i64 p.life, .int .i64 p.piece, .int .i64 p.src, .int .i64 a, .int .i64 p.fp, .int .i64 q, .int .i64 p.flags, .int .i64 p.label, .bool p.bare, .int .i64 p.code, .slice AO2 p.no cO2, .slice AD2 p.nd cD2] 26))
      generalize (w7.alloc (.cells #[.int .i64 p.kind, .int .i64 p.life, .int .i64 p.piece, .int .i64 p.src, .int .i64 a, .int .i64 p.fp, .int .i64 q, .int .i64 p.flags, .int .i64 p.label, .bool p.bare, .int .i64 p.code, .slice AO2 p.no cO2, .slice AD2 p.nd cD2] 26)) = w8 at *
      generalize hP2 : w7.heap.size = P2 at C2 ⊢
      have HP2 := hid hP2
      clear hP2
      go_wp2_with fail
      refine (re_bool (whole_any A6 L c6 G w8 (Sl.below R6.out (then_ S6.out S7.out) (Nat.le_refl _)) GB.out hc6 LN) GW.out).mono ?_
      rintro e w9 ⟨rfl, hb⟩
      have S8 := hid hb
      clear hb
      go_upto_region 14 with (fail)
      have yC := (Ce.below C1.out (then_ (then_ (then_ (then_ S4.out S5.out) S6.out) S7.out) S8.out))
      have y0 := yC.2.1 0 _ rfl
      have y1 := yC.2.1 1 _ rfl
      have y2 := yC.2.1 2 _ rfl
      have y3 := yC.2.1 3 _ rfl
      have y4 := yC.2.1 4 _ rfl
      have y5 := yC.2.1 5 _ rfl
      have y6 := yC.2.1 6 _ rfl
      have y7 := yC.2.1 7 _ rfl
      have y8 := yC.2.1 8 _ rfl
      have y9 := yC.2.1 9 _ rfl
      have y10 := yC.2.1 10 _ rfl
      have y11 := yC.2.1 11 _ rfl
      have y12 := yC.2.1 12 _ rfl
      clear yC
      go_upto_region 15 with (fail)
      clear y0 y1 y2 y3 y4 y5 y6 y7 y8 y9 y10 y11 y12
      have C3 := hid (Ce.made (w := w9) (l := [.int .i64 p.kind, .int .i64 p.life, .int .i64 p.piece, .int .i64 p.src, .int .i64 p.dst, .int .i64 p.fp, .int .i64 p.tp, .int .i64 p.flags, .int .i64 p.label, .bool p.bare, .int .i64 p.code, .slice AO p.no cO, .slice AD p.nd cD]) (T := 26) rfl)
      simp only [List.toArray] at C3
      have S9 := hid ((Below.refl w9.heap.size w9).alloc (Nat.le_refl _) (.cells #[.int .i64 p.kind, .int .i64 p.life, .int .i64 p.piece, .int .i64 p.src, .int .i64 p.dst, .int .i64 p.fp, .int .i64 p.tp, .int .i64 p.flags, .int .i64 p.label, .bool p.bare, .int .i64 p.code, .slice AO p.no cO, .slice AD p.nd cD] 26))
      generalize (w9.alloc (.cells #[.int .i64 p.kind, .int .i64 p.life, .int .i64 p.piece, .int .i64 p.src, .int .i64 p.dst, .int .i64 p.fp, .int .i64 p.tp, .int .i64 p.flags, .int .i64 p.label, .bool p.bare, .int .i64 p.code, .slice AO p.no cO, .slice AD p.nd cD] 26)) = w10 at *
      generalize hP3 : w9.heap.size = P3 at C3 ⊢
      have HP3 := hid hP3
      clear hP3
      have y1 := C3.out.2.1 4 _ rfl
      have f1 := C3.out.2.2 4
      have y2 := C3.out.2.1 6 _ rfl
      have f2 := C3.out.2.2 6
      go_upto_region 18 with (fail)
      clear y1 f1 y2 f2
      have S10 := hid (Below.setCell (p := ⟨P3, 6, none⟩) (B := w9.heap.size) (Below.setCell (p := ⟨P3, 4, none⟩) (B := w9.heap.size) S9.out (by rw [HP3.out]; exact Nat.le_refl _) (.int .i64 a)) (by rw [HP3.out]; exact Nat.le_refl _) (.int .i64 q))
      have C3N := hid (Ce.set (Ce.set C3.out 4 (.int .i64 a) (by simp)) 6 (.int .i64 q) (by simp))
      simp only [List.set_cons_zero, List.set_cons_succ] at C3N
      clear S9 C3
      generalize ((w10.setCell ⟨P3, 4, none⟩ (.int .i64 a)).setCell ⟨P3, 6, none⟩ (.int .i64 q)) = w11 at *
      have yC := (Ce.below C2.out (then_ S8.out S10.out))
      have y0 := yC.2.1 0 _ rfl
      have y1 := yC.2.1 1 _ rfl
      have y2 := yC.2.1 2 _ rfl
      have y3 := yC.2.1 3 _ rfl
      have y4 := yC.2.1 4 _ rfl
      have y5 := yC.2.1 5 _ rfl
      have y6 := yC.2.1 6 _ rfl
      have y7 := yC.2.1 7 _ rfl
      have y8 := yC.2.1 8 _ rfl
      have y9 := yC.2.1 9 _ rfl
      have y10 := yC.2.1 10 _ rfl
      have y11 := yC.2.1 11 _ rfl
      have y12 := yC.2.1 12 _ rfl
      clear yC
      have zC := (Ce.below C3N.out (Below.refl _ _))
      have z0 := zC.2.1 0 _ rfl
      have z1 := zC.2.1 1 _ rfl
      have z2 := zC.2.1 2 _ rfl
      have z3 := zC.2.1 3 _ rfl
      have z4 := zC.2.1 4 _ rfl
      have z5 := zC.2.1 5 _ rfl
      have z6 := zC.2.1 6 _ rfl
      have z7 := zC.2.1 7 _ rfl
      have z8 := zC.2.1 8 _ rfl
      have z9 := zC.2.1 9 _ rfl
      have z10 := zC.2.1 10 _ rfl
      have z11 := zC.2.1 11 _ rfl
      have z12 := zC.2.1 12 _ rfl
      clear zC
      go_wp2_with fail
      refine (SQ.out AO2 AD2 AO AD cO2 cD2 cO cD w11 (Sl.below RO2.out (then_ (then_ S7.out S8.out) S10.out) (Nat.le_refl _)) (Sl.below RD2.out (then_ (then_ S7.out S8.out) S10.out) (Nat.le_refl _)) (Sl.below RO.out (then_ (then_ (then_ (then_ (then_ (then_ S3.out S4.out) S5.out) S6.out) S7.out) S8.out) S10.out) (Nat.le_refl _)) (Sl.below RD.out (then_ (then_ (then_ (then_ (then_ (then_ S3.out S4.out) S5.out) S6.out) S7.out) S8.out) S10.out) (Nat.le_refl _))).mono ?_
      rintro e w12 ⟨rfl, hb⟩
      have S11 := hid hb
      clear hb
      clear y0 y1 y2 y3 y4 y5 y6 y7 y8 y9 y10 y11 y12
      clear z0 z1 z2 z3 z4 z5 z6 z7 z8 z9 z10 z11 z12
      clear SQ
      skip
      have y1 := (Ce.below C1.out (then_ (then_ (then_ (then_ (then_ (then_ S4.out S5.out) S6.out) S7.out) S8.out) S10.out) S11.out))
      have y3 := y1.2.1 4 _ rfl
      have y5 := y1.2.1 6 _ rfl
      clear y1
      go_wp2_with fail
      go_quiet (fail)
      rename_i nq
      have S12 := hid (below_drewN (Below.refl w12.heap.size w12) nq)
      generalize w12.drewN nq = w13 at *
      clear y3 y5
      go_wp2_with fail
      refine (T2.out A6 c6 hc6 w13 (Sl.below R6.out (then_ (then_ (then_ (then_ (then_ S6.out S7.out) S8.out) S10.out) S11.out) S12.out) (Nat.le_refl _))).mono ?_
      rintro e w14 ⟨A14, c14, rfl, hO, hc14, hb⟩
      have S13 := hid hb
      clear hb
      have R14 := hid (hO.sl1)
      clear hO T2
      go_wp2_with fail
      refine (PA2.out A14 c14 hc14 w14 (Sl.below R14.out (Below.refl _ _) (Nat.le_refl _))).mono ?_
      rintro e w15 ⟨AO3, cO3, AD3, cD3, rfl, hO, hD, hb⟩
      have S14 := hid hb
      clear hb
      have RO3 := hid (hO.sl1)
      have RD3 := hid (hD.sl1)
      clear hO hD PA2
      go_upto_region 25 with (fail)
      have C4 := hid (Ce.made (w := w15) (l := [.int .i64 p.kind, .int .i64 p.life, .int .i64 p.piece, .int .i64 p.src, .int .i64 p.dst, .int .i64 p.fp, .int .i64 p.tp, .int .i64 p.flags, .int .i64 p.label, .bool p.bare, .int .i64 p.code, .slice AO3 p.no cO3, .slice AD3 p.nd cD3]) (T := 26) rfl)
      simp only [List.toArray] at C4
      have S15 := hid ((Below.refl w15.heap.size w15).alloc (Nat.le_refl _) (.cells #[.int .i64 p.kind, .int .i64 p.life, .int .i64 p.piece, .int .i64 p.src, .int .i64 p.dst, .int .i64 p.fp, .int .i64 p.tp, .int .i64 p.flags, .int .i64 p.label, .bool p.bare, .int .i64 p.code, .slice AO3 p.no cO3, .slice AD3 p.nd cD3] 26))
      generalize (w15.alloc (.cells #[.int .i64 p.kind, .int .i64 p.life, .int .i64 p.piece, .int .i64 p.src, .int .i64 p.dst, .int .i64 p.fp, .int .i64 p.tp, .int .i64 p.flags, .int .i64 p.label, .bool p.bare, .int .i64 p.code, .slice AO3 p.no cO3, .slice AD3 p.nd cD3] 26)) = w16 at *
      generalize hP4 : w15.heap.size = P4 at C4 ⊢
      have HP4 := hid hP4
      clear hP4
      have yC := (Ce.below C4.out (Below.refl _ _))
      have y0 := yC.2.1 0 _ rfl
      have y1 := yC.2.1 1 _ rfl
      have y2 := yC.2.1 2 _ rfl
      have y3 := yC.2.1 3 _ rfl
      have y4 := yC.2.1 4 _ rfl
      have y5 := yC.2.1 5 _ rfl
      have y6 := yC.2.1 6 _ rfl
      have y7 := yC.2.1 7 _ rfl
      have y8 := yC.2.1 8 _ rfl
      have y9 := yC.2.1 9 _ rfl
      have y10 := yC.2.1 10 _ rfl
      have y11 := yC.2.1 11 _ rfl
      have y12 := yC.2.1 12 _ rfl
      clear yC
      have zC := (Ce.below C1.out (then_ (then_ (then_ (then_ (then_ (then_ (then_ (then_ (then_ (then_ S4.out S5.out) S6.out) S7.out) S8.out) S10.out) S11.out) S12.out) S13.out) S14.out) S15.out))
      have z0 := zC.2.1 0 _ rfl
      have z1 := zC.2.1 1 _ rfl
      have z2 := zC.2.1 2 _ rfl
      have z3 := zC.2.1 3 _ rfl
      have z4 := zC.2.1 4 _ rfl
      have z5 := zC.2.1 5 _ rfl
      have z6 := zC.2.1 6 _ rfl
      have z7 := zC.2.1 7 _ rfl
      have z8 := zC.2.1 8 _ rfl
      have z9 := zC.2.1 9 _ rfl
      have z10 := zC.2.1 10 _ rfl
      have z11 := zC.2.1 11 _ rfl
      have z12 := zC.2.1 12 _ rfl
      clear zC
      go_wp2_with fail
      refine (SA.out AO3 AD3 AO AD cO3 cD3 cO cD w16 (Sl.below RO3.out S15.out (Nat.le_refl _)) (Sl.below RD3.out S15.out (Nat.le_refl _)) (Sl.below RO.out (then_ (then_ (then_ (then_ (then_ (then_ (then_ (then_ (then_ (then_ (then_ S3.out S4.out) S5.out) S6.out) S7.out) S8.out) S10.out) S11.out) S12.out) S13.out) S14.out) S15.out) (Nat.le_refl _)) (Sl.below RD.out (then_ (then_ (then_ (then_ (then_ (then_ (then_ (then_ (then_ (then_ (then_ S3.out S4.out) S5.out) S6.out) S7.out) S8.out) S10.out) S11.out) S12.out) S13.out) S14.out) S15.out) (Nat.le_refl _))).mono ?_
      rintro e w17 ⟨rfl, hb⟩
      have S16 := hid hb
      clear hb
      clear y0 y1 y2 y3 y4 y5 y6 y7 y8 y9 y10 y11 y12
      clear z0 z1 z2 z3 z4 z5 z6 z7 z8 z9 z10 z11 z12
      clear SA
      go_wp2_with fail
      refine (re_bool (whole_any A14 L c14 H w17 (Sl.below R14.out (then_ (then_ S14.out S15.out) S16.out) (Nat.le_refl _)) HB.out hc14 LN) HW.out).mono ?_
      rintro e w18 ⟨rfl, hb⟩
      have S17 := hid hb
      clear hb
      go_wp2_with fail
      go_ret
      exact ⟨rfl, (then_ (then_ (then_ (then_ (then_ (then_ (then_ (then_ (then_ (then_ (then_ (then_ (then_ (then_ (then_ S1.out S2.out) S3.out) S4.out) S5.out) S6.out) S7.out) S8.out) S10.out) S11.out) S12.out) S13.out) S14.out) S15.out) S16.out) S17.out)⟩
    · obtain ⟨G, hG⟩ : ∃ G, G = natF F L true a q := ⟨_, rfl⟩
      have GP : Hid (parseE G L = 0) := hid (by rw [hG]; exact nat_parse HM.out.B E1.out)
      have GB : Hid (IsB G) := hid (by rw [hG]; exact nat_isB HM.out.B _ _ _ _)
      have GW : Hid (wholeB G L = true) := hid (by rw [hG, nat_whole HM.out.B E1.out]; exact HM.out.w)
      have GE : Hid (Pe (parseR G L) { p with src := a, fp := q }) := hid (by rw [hG]; exact nat_pe HM.out.B HM.out.pe E1.out)
      have T := hid (nat_q F L true a q 0 L G E1.out.symm (by simp) hG HM.out.B LN)
      have PA := parse_p { p with src := a, fp := q } G L GB.out LN GP.out GE.out
      dsimp only at PA
      replace PA := hid PA
      have SQ := same_p { p with src := a, fp := q }
      dsimp only at SQ
      replace SQ := hid SQ
      have E2 : Hid (natE G L p.src p.fp = 0) := hid (nat_yes GP.out (by rw [pe_kind GP.out GE.out]; dsimp only; rw [← KF.out]; exact G3.out) PB.out.1 PB.out.2.2.1)
      obtain ⟨H, hH⟩ : ∃ H, H = natF G L true p.src p.fp := ⟨_, rfl⟩
      have HP : Hid (parseE H L = 0) := hid (by rw [hH]; exact nat_parse GB.out E2.out)
      have HB : Hid (IsB H) := hid (by rw [hH]; exact nat_isB GB.out _ _ _ _)
      have HW : Hid (wholeB H L = true) := hid (by rw [hH, nat_whole GB.out E2.out]; exact GW.out)
      have HE : Hid (Pe (parseR H L) p) := hid (by rw [hH]; have h5 := nat_pe (p := { p with src := a, fp := q }) (s := true) GB.out GE.out E2.out; exact h5)
      have T2 := hid (nat_q G L true p.src p.fp 0 L H E2.out.symm (by simp) hH GB.out LN)
      have PA2 := hid (parse_p p H L HB.out LN HP.out HE.out)
      clear hG hH E1 E2
      go_enter Try.func10, Try.ntmps10
      go_wp2_with fail
      refine (known_any _).mono ?_
      rintro e w1 ⟨rfl, hb⟩
      have S1 := hid hb
      clear hb
      go_wp2_with fail
      refine (MK.out w1 (Sl.below H1.out S1.out (Nat.le_refl _)) (Sl.below H2.out S1.out (Nat.le_refl _))).mono ?_
      rintro e w2 ⟨AO, cO, AD, cD, rfl, hO, hD, hb⟩
      have S2 := hid hb
      clear hb
      have RO := hid (hO)
      have RD := hid (hD)
      clear hO hD
      clear MK
      go_upto_region 4 with (fail)
      have C1 := hid (Ce.made (w := w2) (l := [.int .i64 p.kind, .int .i64 p.life, .int .i64 p.piece, .int .i64 p.src, .int .i64 p.dst, .int .i64 p.fp, .int .i64 p.tp, .int .i64 p.flags, .int .i64 p.label, .bool p.bare, .int .i64 p.code, .slice AO p.no cO, .slice AD p.nd cD]) (T := 26) rfl)
      simp only [List.toArray] at C1
      have S3 := hid ((Below.refl w2.heap.size w2).alloc (Nat.le_refl _) (.cells #[.int .i64 p.kind, .int .i64 p.life, .int .i64 p.piece, .int .i64 p.src, .int .i64 p.dst, .int .i64 p.fp, .int .i64 p.tp, .int .i64 p.flags, .int .i64 p.label, .bool p.bare, .int .i64 p.code, .slice AO p.no cO, .slice AD p.nd cD] 26))
      generalize (w2.alloc (.cells #[.int .i64 p.kind, .int .i64 p.life, .int .i64 p.piece, .int .i64 p.src, .int .i64 p.dst, .int .i64 p.fp, .int .i64 p.tp, .int .i64 p.flags, .int .i64 p.label, .bool p.bare, .int .i64 p.code, .slice AO p.no cO, .slice AD p.nd cD] 26)) = w3 at *
      generalize hP1 : w2.heap.size = P1 at C1 ⊢
      have HP1 := hid hP1
      clear hP1
      have yC := (Ce.below C1.out (Below.refl _ _))
      have y0 := yC.2.1 0 _ rfl
      clear yC
      go_upto_region 8 with (fail)
      clear y0
      go_upto_region 8 with (fail)
      have yC := (Ce.below C1.out (Below.refl _ _))
      have y0 := yC.2.1 0 _ rfl
      have y1 := yC.2.1 1 _ rfl
      have y2 := yC.2.1 2 _ rfl
      have y3 := yC.2.1 3 _ rfl
      have y4 := yC.2.1 4 _ rfl
      have y5 := yC.2.1 5 _ rfl
      have y6 := yC.2.1 6 _ rfl
      have y7 := yC.2.1 7 _ rfl
      have y8 := yC.2.1 8 _ rfl
      have y9 := yC.2.1 9 _ rfl
      have y10 := yC.2.1 10 _ rfl
      have y11 := yC.2.1 11 _ rfl
      have y12 := yC.2.1 12 _ rfl
      clear yC
      go_wp2_with fail
      refine (RB.out AO cO AD cD w3 (Sl.below RO.out S3.out (Nat.le_refl _)) (Sl.below RD.out S3.out (Nat.le_refl _))).mono ?_
      rintro e w5 ⟨A5, c5, rfl, hO, hc5, hb⟩
      have S4 := hid hb
      clear hb
      have R5 := hid (hO.sl1)
      clear hO RB
      clear y0 y1 y2 y3 y4 y5 y6 y7 y8 y9 y10 y11 y12
      go_wp2_with fail
      refine (Wa.out _).mono ?_
      rintro e w' ⟨rfl, rfl⟩
      go_wp2_with fail
      refine (Wq.out _).mono ?_
      rintro e w' ⟨rfl, rfl⟩
      go_wp2_with fail
      refine (T.out A5 c5 hc5 w5 (Sl.below R5.out (Below.refl _ _) (Nat.le_refl _))).mono ?_
      rintro e w6 ⟨A6, c6, rfl, hO, hc6, hb⟩
      have S5 := hid hb
      clear hb
      have R6 := hid (hO.sl1)
      clear hO T
      go_wp2_with fail
      refine (PA.out A6 c6 hc6 w6 (Sl.below R6.out (Below.refl _ _) (Nat.le_refl _))).mono ?_
      rintro e w7 ⟨AO2, cO2, AD2, cD2, rfl, hO, hD, hb⟩
      have S6 := hid hb
      clear hb
      have RO2 := hid (hO.sl1)
      have RD2 := hid (hD.sl1)
      clear hO hD PA
      go_upto_region 12 with (fail)
      have C2 := hid (Ce.made (w := w7) (l := [.int .i64 p.kind, .int .i64 p.life, .int .i64 p.piece, .int .i64 a, .int .i64 p.dst, .int .i64 q, .int .i64 p.tp, .int .i64 p.flags, .int .i64 p.label, .bool p.bare, .int .i64 p.code, .slice AO2 p.no cO2, .slice AD2 p.nd cD2]) (T := 26) rfl)
      simp only [List.toArray] at C2
      have S7 := hid ((Below.refl w7.heap.size w7).alloc (Nat.le_refl _) (.cells #[.int .i64 p.kind, .int .i64 p.life, .int .i64 p.piece, .int .i64 a, .int .i64 p.dst, .int .i64 q, .int .i64 p.tp, .int .i64 p.flags, .int .i64 p.label, .bool p.bare, .int .i64 p.code, .slice AO2 p.no cO2, .slice AD2 p.nd cD2] 26))
      generalize (w7.alloc (.cells #[.int .i64 p.kind, .int .i64 p.life, .int .i64 p.piece, .int .i64 a, .int .i64 p.dst, .int .i64 q, .int .i64 p.tp, .int .i64 p.flags, .int .i64 p.label, .bool p.bare, .int .i64 p.code, .slice AO2 p.no cO2, .slice AD2 p.nd cD2] 26)) = w8 at *
      generalize hP2 : w7.heap.size = P2 at C2 ⊢
      have HP2 := hid hP2
      clear hP2
      go_wp2_with fail
      refine (re_bool (whole_any A6 L c6 G w8 (Sl.below R6.out (then_ S6.out S7.out) (Nat.le_refl _)) GB.out hc6 LN) GW.out).mono ?_
      rintro e w9 ⟨rfl, hb⟩
      have S8 := hid hb
      clear hb
      go_upto_region 14 with (fail)
      have yC := (Ce.below C1.out (then_ (then_ (then_ (then_ S4.out S5.out) S6.out) S7.out) S8.out))
      have y0 := yC.2.1 0 _ rfl
      have y1 := yC.2.1 1 _ rfl
      have y2 := yC.2.1 2 _ rfl
      have y3 := yC.2.1 3 _ rfl
      have y4 := yC.2.1 4 _ rfl
      have y5 := yC.2.1 5 _ rfl
      have y6 := yC.2.1 6 _ rfl
      have y7 := yC.2.1 7 _ rfl
      have y8 := yC.2.1 8 _ rfl
      have y9 := yC.2.1 9 _ rfl
      have y10 := yC.2.1 10 _ rfl
      have y11 := yC.2.1 11 _ rfl
      have y12 := yC.2.1 12 _ rfl
      clear yC
      go_upto_region 15 with (fail)
      clear y0 y1 y2 y3 y4 y5 y6 y7 y8 y9 y10 y11 y12
      have C3 := hid (Ce.made (w := w9) (l := [.int .i64 p.kind, .int .i64 p.life, .int .i64 p.piece, .int .i64 p.src, .int .i64 p.dst, .int .i64 p.fp, .int .i64 p.tp, .int .i64 p.flags, .int .i64 p.label, .bool p.bare, .int .i64 p.code, .slice AO p.no cO, .slice AD p.nd cD]) (T := 26) rfl)
      simp only [List.toArray] at C3
      have S9 := hid ((Below.refl w9.heap.size w9).alloc (Nat.le_refl _) (.cells #[.int .i64 p.kind, .int .i64 p.life, .int .i64 p.piece, .int .i64 p.src, .int .i64 p.dst, .int .i64 p.fp, .int .i64 p.tp, .int .i64 p.flags, .int .i64 p.label, .bool p.bare, .int .i64 p.code, .slice AO p.no cO, .slice AD p.nd cD] 26))
      generalize (w9.alloc (.cells #[.int .i64 p.kind, .int .i64 p.life, .int .i64 p.piece, .int .i64 p.src, .int .i64 p.dst, .int .i64 p.fp, .int .i64 p.tp, .int .i64 p.flags, .int .i64 p.label, .bool p.bare, .int .i64 p.code, .slice AO p.no cO, .slice AD p.nd cD] 26)) = w10 at *
      generalize hP3 : w9.heap.size = P3 at C3 ⊢
      have HP3 := hid hP3
      clear hP3
      have y1 := C3.out.2.1 3 _ rfl
      have f1 := C3.out.2.2 3
      have y2 := C3.out.2.1 5 _ rfl
      have f2 := C3.out.2.2 5
      go_upto_region 18 with (fail)
      clear y1 f1 y2 f2
      have S10 := hid (Below.setCell (p := ⟨P3, 5, none⟩) (B := w9.heap.size) (Below.setCell (p := ⟨P3, 3, none⟩) (B := w9.heap.size) S9.out (by rw [HP3.out]; exact Nat.le_refl _) (.int .i64 a)) (by rw [HP3.out]; exact Nat.le_refl _) (.int .i64 q))
      have C3N := hid (Ce.set (Ce.set C3.out 3 (.int .i64 a) (by simp)) 5 (.int .i64 q) (by simp))
      simp only [List.set_cons_zero, List.set_cons_succ] at C3N
      clear S9 C3
      generalize ((w10.setCell ⟨P3, 3, none⟩ (.int .i64 a)).setCell ⟨P3, 5, none⟩ (.int .i64 q)) = w11 at *
      have yC := (Ce.below C2.out (then_ S8.out S10.out))
      have y0 := yC.2.1 0 _ rfl
      have y1 := yC.2.1 1 _ rfl
      have y2 := yC.2.1 2 _ rfl
      have y3 := yC.2.1 3 _ rfl
      have y4 := yC.2.1 4 _ rfl
      have y5 := yC.2.1 5 _ rfl
      have y6 := yC.2.1 6 _ rfl
      have y7 := yC.2.1 7 _ rfl
      have y8 := yC.2.1 8 _ rfl
      have y9 := yC.2.1 9 _ rfl
      have y10 := yC.2.1 10 _ rfl
      have y11 := yC.2.1 11 _ rfl
      have y12 := yC.2.1 12 _ rfl
      clear yC
      have zC := (Ce.below C3N.out (Below.refl _ _))
      have z0 := zC.2.1 0 _ rfl
      have z1 := zC.2.1 1 _ rfl
      have z2 := zC.2.1 2 _ rfl
      have z3 := zC.2.1 3 _ rfl
      have z4 := zC.2.1 4 _ rfl
      have z5 := zC.2.1 5 _ rfl
      have z6 := zC.2.1 6 _ rfl
      have z7 := zC.2.1 7 _ rfl
      have z8 := zC.2.1 8 _ rfl
      have z9 := zC.2.1 9 _ rfl
      have z10 := zC.2.1 10 _ rfl
      have z11 := zC.2.1 11 _ rfl
      have z12 := zC.2.1 12 _ rfl
      clear zC
      go_wp2_with fail
      refine (SQ.out AO2 AD2 AO AD cO2 cD2 cO cD w11 (Sl.below RO2.out (then_ (then_ S7.out S8.out) S10.out) (Nat.le_refl _)) (Sl.below RD2.out (then_ (then_ S7.out S8.out) S10.out) (Nat.le_refl _)) (Sl.below RO.out (then_ (then_ (then_ (then_ (then_ (then_ S3.out S4.out) S5.out) S6.out) S7.out) S8.out) S10.out) (Nat.le_refl _)) (Sl.below RD.out (then_ (then_ (then_ (then_ (then_ (then_ S3.out S4.out) S5.out) S6.out) S7.out) S8.out) S10.out) (Nat.le_refl _))).mono ?_
      rintro e w12 ⟨rfl, hb⟩
      have S11 := hid hb
      clear hb
      clear y0 y1 y2 y3 y4 y5 y6 y7 y8 y9 y10 y11 y12
      clear z0 z1 z2 z3 z4 z5 z6 z7 z8 z9 z10 z11 z12
      clear SQ
      skip
      have y1 := (Ce.below C1.out (then_ (then_ (then_ (then_ (then_ (then_ S4.out S5.out) S6.out) S7.out) S8.out) S10.out) S11.out))
      have y3 := y1.2.1 4 _ rfl
      have y5 := y1.2.1 6 _ rfl
      have y7 := y1.2.1 3 _ rfl
      have y9 := y1.2.1 5 _ rfl
      clear y1
      go_wp2_with fail
      go_quiet (fail)
      rename_i nq
      have S12 := hid (below_drewN (Below.refl w12.heap.size w12) nq)
      generalize hwz : w12.drewN nq = wz at *
      have y7 : wz.cell? ⟨P1, 3, none⟩ = some (.int .i64 p.src) := by rw [← hwz]; exact y7
      have y9 : wz.cell? ⟨P1, 5, none⟩ = some (.int .i64 p.fp) := by rw [← hwz]; exact y9
      clear hwz
      go_wp2_with fail
      go_quiet (fail)
      have S13 := hid (below_drewN (Below.refl wz.heap.size wz) nq)
      generalize wz.drewN nq = w13 at *
      clear y3 y5 y7 y9
      go_wp2_with fail
      refine (T2.out A6 c6 hc6 w13 (Sl.below R6.out (then_ (then_ (then_ (then_ (then_ (then_ S6.out S7.out) S8.out) S10.out) S11.out) S12.out) S13.out) (Nat.le_refl _))).mono ?_
      rintro e w14 ⟨A14, c14, rfl, hO, hc14, hb⟩
      have S14 := hid hb
      clear hb
      have R14 := hid (hO.sl1)
      clear hO T2
      go_wp2_with fail
      refine (PA2.out A14 c14 hc14 w14 (Sl.below R14.out (Below.refl _ _) (Nat.le_refl _))).mono ?_
      rintro e w15 ⟨AO3, cO3, AD3, cD3, rfl, hO, hD, hb⟩
      have S15 := hid hb
      clear hb
      have RO3 := hid (hO.sl1)
      have RD3 := hid (hD.sl1)
      clear hO hD PA2
      go_upto_region 25 with (fail)
      have C4 := hid (Ce.made (w := w15) (l := [.int .i64 p.kind, .int .i64 p.life, .int .i64 p.piece, .int .i64 p.src, .int .i64 p.dst, .int .i64 p.fp, .int .i64 p.tp, .int .i64 p.flags, .int .i64 p.label, .bool p.bare, .int .i64 p.code, .slice AO3 p.no cO3, .slice AD3 p.nd cD3]) (T := 26) rfl)
      simp only [List.toArray] at C4
      have S16 := hid ((Below.refl w15.heap.size w15).alloc (Nat.le_refl _) (.cells #[.int .i64 p.kind, .int .i64 p.life, .int .i64 p.piece, .int .i64 p.src, .int .i64 p.dst, .int .i64 p.fp, .int .i64 p.tp, .int .i64 p.flags, .int .i64 p.label, .bool p.bare, .int .i64 p.code, .slice AO3 p.no cO3, .slice AD3 p.nd cD3] 26))
      generalize (w15.alloc (.cells #[.int .i64 p.kind, .int .i64 p.life, .int .i64 p.piece, .int .i64 p.src, .int .i64 p.dst, .int .i64 p.fp, .int .i64 p.tp, .int .i64 p.flags, .int .i64 p.label, .bool p.bare, .int .i64 p.code, .slice AO3 p.no cO3, .slice AD3 p.nd cD3] 26)) = w16 at *
      generalize hP4 : w15.heap.size = P4 at C4 ⊢
      have HP4 := hid hP4
      clear hP4
      have yC := (Ce.below C4.out (Below.refl _ _))
      have y0 := yC.2.1 0 _ rfl
      have y1 := yC.2.1 1 _ rfl
      have y2 := yC.2.1 2 _ rfl
      have y3 := yC.2.1 3 _ rfl
      have y4 := yC.2.1 4 _ rfl
      have y5 := yC.2.1 5 _ rfl
      have y6 := yC.2.1 6 _ rfl
      have y7 := yC.2.1 7 _ rfl
      have y8 := yC.2.1 8 _ rfl
      have y9 := yC.2.1 9 _ rfl
      have y10 := yC.2.1 10 _ rfl
      have y11 := yC.2.1 11 _ rfl
      have y12 := yC.2.1 12 _ rfl
      clear yC
      have zC := (Ce.below C1.out (then_ (then_ (then_ (then_ (then_ (then_ (then_ (then_ (then_ (then_ (then_ S4.out S5.out) S6.out) S7.out) S8.out) S10.out) S11.out) S12.out) S13.out) S14.out) S15.out) S16.out))
      have z0 := zC.2.1 0 _ rfl
      have z1 := zC.2.1 1 _ rfl
      have z2 := zC.2.1 2 _ rfl
      have z3 := zC.2.1 3 _ rfl
      have z4 := zC.2.1 4 _ rfl
      have z5 := zC.2.1 5 _ rfl
      have z6 := zC.2.1 6 _ rfl
      have z7 := zC.2.1 7 _ rfl
      have z8 := zC.2.1 8 _ rfl
      have z9 := zC.2.1 9 _ rfl
      have z10 := zC.2.1 10 _ rfl
      have z11 := zC.2.1 11 _ rfl
      have z12 := zC.2.1 12 _ rfl
      clear zC
      go_wp2_with fail
      refine (SA.out AO3 AD3 AO AD cO3 cD3 cO cD w16 (Sl.below RO3.out S16.out (Nat.le_refl _)) (Sl.below RD3.out S16.out (Nat.le_refl _)) (Sl.below RO.out (then_ (then_ (then_ (then_ (then_ (then_ (then_ (then_ (then_ (then_ (then_ (then_ S3.out S4.out) S5.out) S6.out) S7.out) S8.out) S10.out) S11.out) S12.out) S13.out) S14.out) S15.out) S16.out) (Nat.le_refl _)) (Sl.below RD.out (then_ (then_ (then_ (then_ (then_ (then_ (then_ (then_ (then_ (then_ (then_ (then_ S3.out S4.out) S5.out) S6.out) S7.out) S8.out) S10.out) S11.out) S12.out) S13.out) S14.out) S15.out) S16.out) (Nat.le_refl _))).mono ?_
      rintro e w17 ⟨rfl, hb⟩
      have S17 := hid hb
      clear hb
      clear y0 y1 y2 y3 y4 y5 y6 y7 y8 y9 y10 y11 y12
      clear z0 z1 z2 z3 z4 z5 z6 z7 z8 z9 z10 z11 z12
      clear SA
      go_wp2_with fail
      refine (re_bool (whole_any A14 L c14 H w17 (Sl.below R14.out (then_ (then_ S15.out S16.out) S17.out) (Nat.le_refl _)) HB.out hc14 LN) HW.out).mono ?_
      rintro e w18 ⟨rfl, hb⟩
      have S18 := hid hb
      clear hb
      go_wp2_with fail
      go_ret
      exact ⟨rfl, (then_ (then_ (then_ (then_ (then_ (then_ (then_ (then_ (then_ (then_ (then_ (then_ (then_ (then_ (then_ (then_ S1.out S2.out) S3.out) S4.out) S5.out) S6.out) S7.out) S8.out) S10.out) S11.out) S12.out) S13.out) S14.out) S15.out) S16.out) S17.out) S18.out)⟩

set_option maxRecDepth 100000 in
theorem lifted (os : Os) (started : os.Started) (H : Type) (enc : TypeId × Value → H) :
    ReturnsInHanded {} Try.checked os 10 .any (Rows.wirePlacesSpec.pre6 enc Try.prog Try.f10 [] false) (Rows.wirePlacesSpec.post enc Try.prog Try.f10 false true false false) :=
  law_step (s := Rows.wirePlacesSpec) started (by kernel_rfl) Try.func10
    (ChangeSpec.witness6 (s := Rows.wirePlacesSpec) (enc := enc) (C := Try.checked) false ⟨#[], #[.int .i64 0, .slice none 0 0, .slice none 0 0, .bool false, .int .i64 0, .int .i64 0], []⟩ 8 (by kernel_rfl) (by kernel_rfl) (by kernel_rfl) (by kernel_rfl))
    rfl (by rw [Try.params10]; decide +kernel) rfl Try.underlying4
    (fun ds h => by
      rw [Try.params10] at h
      match ds, h with
      | [_, _, _, _, _, _], _ => rfl)
    (fun W base args ds ps hval hA hsz => by
      rw [Try.params10] at hA hval hsz
      obtain ⟨v0, vs0, d0, ds0, p0, q0, hargs, rfl, rfl, h0, r0⟩ := trodAll_cons hA
      obtain ⟨v1, vs1, d1, ds1, p1, q1, rfl, rfl, rfl, h1, r1⟩ := trodAll_cons r0
      obtain ⟨v2, vs2, d2, ds2, p2, q2, rfl, rfl, rfl, h2, r2⟩ := trodAll_cons r1
      obtain ⟨v3, vs3, d3, ds3, p3, q3, rfl, rfl, rfl, h3, r3⟩ := trodAll_cons r2
      obtain ⟨v4, vs4, d4, ds4, p4, q4, rfl, rfl, rfl, h4, r4⟩ := trodAll_cons r3
      obtain ⟨v5, vs5, d5, ds5, p5, q5, rfl, rfl, rfl, h5, r5⟩ := trodAll_cons r4
      obtain ⟨rfl, rfl, rfl⟩ := trodAll_nil r5
      obtain rfl : args = #[v0, v1, v2, v3, v4, v5] := by cases args; simp_all
      obtain ⟨a0, rfl, rfl, rfl, w0⟩ := open_int Try.underlying3 (hval 0 3 v0 rfl rfl) h0
      obtain ⟨A1, n1, c1, g1, rfl, hn1, hc1, hs1, hw1, hl1, hd1⟩ := open_row Try.underlying22 Try.underlying3 (by kernel_rfl) (hval 1 22 v1 rfl rfl) h1
      have re1 : c1 * 8 ≤ 140737488351232 := by
        rcases hd1 with ⟨_, h0⟩ | ⟨xs, ys, h1, h2⟩
        · omega
        · have := sized_slice hsz (j := 1) (t := 22) (e := 3) rfl (by rw [h1]; rfl) Try.underlying22
          rw [h2, show Try.prog.bytesOf 3 = 8 from by kernel_rfl] at this
          simpa [reachBytes] using this
      obtain ⟨A2, n2, c2, g2, rfl, hn2, hc2, hs2, hw2, hl2, hd2⟩ := open_row Try.underlying23 Try.underlying5 (by kernel_rfl) (hval 2 23 v2 rfl rfl) h2
      have re2 : c2 * 1 ≤ 140737488351232 := by
        rcases hd2 with ⟨_, h0⟩ | ⟨xs, ys, h1, h2⟩
        · omega
        · have := sized_slice hsz (j := 2) (t := 23) (e := 5) rfl (by rw [h1]; rfl) Try.underlying23
          rw [h2, show Try.prog.bytesOf 5 = 1 from by kernel_rfl] at this
          simpa [reachBytes] using this
      obtain ⟨a3, rfl, rfl, rfl⟩ := open_bool Try.underlying4 (hval 3 4 v3 rfl rfl) h3
      obtain ⟨a4, rfl, rfl, rfl, w4⟩ := open_int Try.underlying3 (hval 4 3 v4 rfl rfl) h4
      obtain ⟨a5, rfl, rfl, rfl, w5⟩ := open_int Try.underlying3 (hval 5 3 v5 rfl rfl) h5
      exact walk W a0 (bounds_i64 w0) A1 n1 c1 g1 hn1 hc1 hs1 (fun j => bounds_i64 (hw1 j)) hl1 re1 A2 n2 c2 g2 hn2 hc2 hs2 (fun j => bounds_u8 (hw2 j)) hl2 re2 a3 a4 (bounds_i64 w4) a5 (bounds_i64 w5))

theorem proved : Rows.WirePlacesSaid :=
  OpenClaim.holds_of_wide 10 Try.f10 rfl rfl rfl rfl rfl rfl rfl ⟨rfl, rfl, rfl, rfl, rfl⟩ rfl rfl rfl rfl rfl (by kernel_rfl) Try.func10 (by kernel_rfl)
    (of_decide_eq_true (by kernel_rfl)) (by unfold Func.isWrapper; first | (rw [if_pos (by decide +kernel)]; kernel_rfl) | (rw [if_neg (by decide +kernel)]; exact ⟨rfl, rfl⟩))
    (fun os started H enc _ => lifted os started H enc)
end Go.Proofs.Ytjljaecjnpmdoaa.wirePlaces
