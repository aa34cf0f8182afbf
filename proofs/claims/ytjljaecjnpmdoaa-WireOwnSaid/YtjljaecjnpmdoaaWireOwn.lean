/- roundhouselaw3.WireOwn answers true for any kind, any numbers, any bytes; no condition. -/
import Derived.Test.YtjljaecjnpmdoaaWirLaw
import Derived.Test.YtjljaecjnpmdoaaWirLawP
import Derived.BigQuiet
import Derived.Deep.RegionHeld3
import Derived.Deep.Cut
namespace Go.Proofs.Ytjljaecjnpmdoaa.wireOwn
set_option linter.unusedVariables false
set_option linter.unusedSimpArgs false
open Go.RowKit Go.ChangeShapes Go.WideShapes Go.ChangeAt

theorem any_store {w : World} {B n g j : Nat} {v : Value} {x : Int} (h : ∃ f : Nat → Int, OB w B v n f) : ∃ f : Nat → Int, OB (w.setCell ⟨g, j, none⟩ (.int .u8 x)) B v n f := by
  obtain ⟨f, h⟩ := h
  by_cases e : v.ownBlock = some g
  · obtain ⟨A, c, rfl, hc, hm, hb⟩ := h.form_
    rcases A with _ | ad
    · cases e
    · obtain ⟨g', rfl, _, _⟩ := hb _ rfl
      have : g' = g := by simpa [Value.ownBlock] using e
      subst this
      exact ⟨_, h.store j x⟩
  · exact ⟨f, h.grown (grown_set w ⟨g, j, none⟩ _) e⟩

set_option maxRecDepth 100000 in
set_option maxHeartbeats 4000000 in
theorem walk (W : World) (a0 : Int) (r_a0 : -9223372036854775808 ≤ a0 ∧ a0 ≤ 9223372036854775807) (A1 : Option Addr) (n1 c1 : Nat) (g1 : Nat → Int) (hn1 : n1 ≤ c1) (hc1 : c1 ≤ maxLen) (hr1 : Is W A1 n1 g1) (hg1 : IsI g1) (hl1 : ∀ ad, A1 = some ad → 0 < n1 → ad.block < W.heap.size) (re1 : c1 * 8 ≤ 140737488351232) (A2 : Option Addr) (n2 c2 : Nat) (g2 : Nat → Int) (hn2 : n2 ≤ c2) (hc2 : c2 ≤ maxLen) (hr2 : By W A2 n2 g2) (hg2 : IsB g2) (hl2 : ∀ ad, A2 = some ad → 0 < n2 → ad.block < W.heap.size) (re2 : c2 * 1 ≤ 140737488351232) :
    Calls Try.prog 14 #[.int .i64 a0, .slice A1 n1 c1, .slice A2 n2 c2] W fun e w' => e = .returned (.bool true) ∧ Below W.heap.size W w' := by
  have HG := hid hg2
  have m1 : (n1 : Int) ≤ 9223372036854775807 := by unfold maxLen at hc1; omega
  have m2 : (n2 : Int) ≤ 9223372036854775807 := by unfold maxLen at hc2; omega
  have H1 := hid (hr1)
  have H2 := hid (hr2)
  obtain ⟨p, hp⟩ : ∃ p, p = mkPk a0 (nv g1 n1) g2 n2 := ⟨_, rfl⟩
  obtain ⟨L, hL⟩ : ∃ L, L = lenP p := ⟨_, rfl⟩
  obtain ⟨F, hF⟩ : ∃ F, F = builtF p := ⟨_, rfl⟩
  have M := mk_all hp HG.out hL hF
  have MK := hid (make_p p a0 A1 n1 c1 g1 A2 n2 c2 g2 hp HG.out m1 hn2 m2)
  have BU := hid (build_p p L F hL hF M.E M.go M.gd (Nat.le_trans M.no (by decide)) (Nat.le_trans M.nd (by decide)))
  have RB := hid (rbuild_p p L F hL hF M.E M.go M.gd (Nat.le_trans M.no (by decide)) (Nat.le_trans M.nd (by decide)))
  have HM := hid M
  have L0 := M.L0
  have L1 := M.L1
  have LN : L ≤ 1000000 := by omega
  clear M
  clear hp hL hF hr1 hr2 hg1 hg2 hl1 hl2 re1 re2 hc1 hc2 m1 m2
  clear RB
  have PA := hid (parse_p p F L HM.out.B LN HM.out.P HM.out.pe)
  have SA := hid (same_p p)
  obtain ⟨E1, hE1⟩ : ∃ E, E = ageE F L := ⟨_, rfl⟩
  obtain ⟨N1, hN1⟩ : ∃ N, N = if E1 = 0 then L else 0 := ⟨_, rfl⟩
  obtain ⟨G1, hG1⟩ : ∃ G, G = ageF F := ⟨_, rfl⟩
  have T1 := hid (age_q F L  E1 N1 G1 hE1 hN1 hG1 HM.out.B LN)
  have NL1 : N1 ≤ 1000000 := by rw [hN1]; split <;> omega
  clear hE1 hN1 hG1
  obtain ⟨E2, hE2⟩ : ∃ E, E = natE F L 1 2 := ⟨_, rfl⟩
  obtain ⟨N2, hN2⟩ : ∃ N, N = if E2 = 0 then L else 0 := ⟨_, rfl⟩
  obtain ⟨G2, hG2⟩ : ∃ G, G = natF F L true 1 2 := ⟨_, rfl⟩
  have T2 := hid (nat_q F L true 1 2 E2 N2 G2 hE2 hN2 hG2 HM.out.B LN)
  have NL2 : N2 ≤ 1000000 := by rw [hN2]; split <;> omega
  clear hE2 hN2 hG2
  obtain ⟨E3, hE3⟩ : ∃ E, E = wrE F L 24 1 7 := ⟨_, rfl⟩
  obtain ⟨N3, hN3⟩ : ∃ N, N = if E3 = 0 then L else 0 := ⟨_, rfl⟩
  obtain ⟨G3, hG3⟩ : ∃ G, G = wrF F L (24 : Int).toNat (1 : Int).toNat 7 := ⟨_, rfl⟩
  have T3 := hid (write_q F L 24 1 7 E3 N3 G3 hE3 hN3 hG3 HM.out.B LN (by omega))
  have NL3 : N3 ≤ 1000000 := by rw [hN3]; split <;> omega
  clear hE3 hN3 hG3
  have hno : p.no ≤ 1000 := HM.out.no
  have hnd : p.nd ≤ 2000 := HM.out.nd
  go_enter Try.func14, Try.ntmps14
  go_wp2_with fail
  refine (known_any _).mono ?_
  rintro e w1 ⟨rfl, hb⟩
  have S1 := hid hb
  clear hb
  go_wp2_with fail
  refine (MK.out w1 (Sl.below H1.out S1.out (Nat.le_refl _)) (Sl.below H2.out S1.out (Nat.le_refl _))).mono ?_
  rintro e w2 ⟨AO, cO, AD, cD, rfl, hO, hD, hb⟩
  have S2 := hid hb
  clear hb
  have RO := hid (hO)
  have RD := hid (hD)
  clear hO hD
  go_wp2_with fail
  refine (MK.out w2 (Sl.below H1.out (then_ S1.out S2.out) (Nat.le_refl _)) (Sl.below H2.out (then_ S1.out S2.out) (Nat.le_refl _))).mono ?_
  rintro e w3 ⟨AO', cO', AD', cD', rfl, hO, hD, hb⟩
  have S3 := hid hb
  clear hb
  have SO := hid (hO)
  have SD := hid (hD)
  clear hO hD MK
  go_upto_region 4 with (fail)
  have e1 := hid (show (w3.alloc (.cells #[.int .i64 p.kind, .int .i64 p.life, .int .i64 p.piece, .int .i64 p.src, .int .i64 p.dst, .int .i64 p.fp, .int .i64 p.tp, .int .i64 p.flags, .int .i64 p.label, .bool p.bare, .int .i64 p.code, .slice AO p.no cO, .slice AD p.nd cD] 26)).heap.size = w3.heap.size + 1 from by simp)
  have C1 := hid (Ce.made (w := w3) (l := [.int .i64 p.kind, .int .i64 p.life, .int .i64 p.piece, .int .i64 p.src, .int .i64 p.dst, .int .i64 p.fp, .int .i64 p.tp, .int .i64 p.flags, .int .i64 p.label, .bool p.bare, .int .i64 p.code, .slice AO p.no cO, .slice AD p.nd cD]) (T := 26) rfl)
  simp only [List.toArray] at C1
  have S4 := hid ((Below.refl w3.heap.size w3).alloc (Nat.le_refl _) (.cells #[.int .i64 p.kind, .int .i64 p.life, .int .i64 p.piece, .int .i64 p.src, .int .i64 p.dst, .int .i64 p.fp, .int .i64 p.tp, .int .i64 p.flags, .int .i64 p.label, .bool p.bare, .int .i64 p.code, .slice AO p.no cO, .slice AD p.nd cD] 26))
  generalize (w3.alloc (.cells #[.int .i64 p.kind, .int .i64 p.life, .int .i64 p.piece, .int .i64 p.src, .int .i64 p.dst, .int .i64 p.fp, .int .i64 p.tp, .int .i64 p.flags, .int .i64 p.label, .bool p.bare, .int .i64 p.code, .slice AO p.no cO, .slice AD p.nd cD] 26)) = w4 at *
  generalize hP1 : w3.heap.size = P1 at C1 ⊢
  have HP1 := hid hP1
  clear hP1
  have C1' := hid (Ce.made (w := w4) (l := [.int .i64 p.kind, .int .i64 p.life, .int .i64 p.piece, .int .i64 p.src, .int .i64 p.dst, .int .i64 p.fp, .int .i64 p.tp, .int .i64 p.flags, .int .i64 p.label, .bool p.bare, .int .i64 p.code, .slice AO' p.no cO', .slice AD' p.nd cD']) (T := 26) rfl)
  simp only [List.toArray] at C1'
  have S5 := hid ((Below.refl w4.heap.size w4).alloc (Nat.le_refl _) (.cells #[.int .i64 p.kind, .int .i64 p.life, .int .i64 p.piece, .int .i64 p.src, .int .i64 p.dst, .int .i64 p.fp, .int .i64 p.tp, .int .i64 p.flags, .int .i64 p.label, .bool p.bare, .int .i64 p.code, .slice AO' p.no cO', .slice AD' p.nd cD'] 26))
  generalize (w4.alloc (.cells #[.int .i64 p.kind, .int .i64 p.life, .int .i64 p.piece, .int .i64 p.src, .int .i64 p.dst, .int .i64 p.fp, .int .i64 p.tp, .int .i64 p.flags, .int .i64 p.label, .bool p.bare, .int .i64 p.code, .slice AO' p.no cO', .slice AD' p.nd cD'] 26)) = w5 at *
  generalize hP1' : w4.heap.size = P1' at C1' ⊢
  have HP1' := hid hP1'
  clear hP1'
  obtain rfl : P1' = P1 + 1 := by have := e1.out; have := HP1.out; have := HP1'.out; omega
  clear e1 HP1 HP1'
  have yC := (Ce.below C1.out S5.out)
  have y0 := yC.2.1 0 _ rfl
  have y1 := yC.2.1 1 _ rfl
  have y2 := yC.2.1 2 _ rfl
  have y3 := yC.2.1 3 _ rfl
  have y4 := yC.2.1 4 _ rfl
  have y5 := yC.2.1 5 _ rfl
  have y6 := yC.2.1 6 _ rfl
  have y7 := yC.2.1 7 _ rfl
  have y8 := yC.2.1 8 _ rfl
  have y9 := yC.2.1 9 _ rfl
  have y10 := yC.2.1 10 _ rfl
  have y11 := yC.2.1 11 _ rfl
  have y12 := yC.2.1 12 _ rfl
  clear yC
  go_wp2_with fail
  refine (BU.out AO cO AD cD w5 (Sl.below RO.out (then_ (then_ S3.out S4.out) S5.out) (Nat.le_refl _)) (Sl.below RD.out (then_ (then_ S3.out S4.out) S5.out) (Nat.le_refl _))).mono ?_
  rintro e w6 ⟨A4, c4, rfl, hO, hc4, hb⟩
  have S6 := hid hb
  clear hb
  have R4 := hid (hO.sl1)
  clear hO BU
  clear y0 y1 y2 y3 y4 y5 y6 y7 y8 y9 y10 y11 y12
  go_upto_region 5 with (fail)
  have x1 := conv_str c4 (Sl.below R4.out (Below.refl _ _) (Nat.le_refl _))
  go_upto_region 6 with (fail)
  clear x1
  go_wp2_with fail
  refine (PA.out A4 c4 hc4 w6 (Sl.below R4.out (Below.refl _ _) (Nat.le_refl _))).mono ?_
  rintro e w7 ⟨AO2, cO2, AD2, cD2, rfl, hO, hD, hb⟩
  have S7 := hid hb
  clear hb
  have OO := hid hO
  have OD := hid hD
  clear hO hD
  go_upto_region 7 with (fail)
  have C2 := hid (Ce.made (w := w7) (l := [.int .i64 p.kind, .int .i64 p.life, .int .i64 p.piece, .int .i64 p.src, .int .i64 p.dst, .int .i64 p.fp, .int .i64 p.tp, .int .i64 p.flags, .int .i64 p.label, .bool p.bare, .int .i64 p.code, .slice AO2 p.no cO2, .slice AD2 p.nd cD2]) (T := 26) rfl)
  simp only [List.toArray] at C2
  have S8 := hid ((Below.refl w7.heap.size w7).alloc (Nat.le_refl _) (.cells #[.int .i64 p.kind, .int .i64 p.life, .int .i64 p.piece, .int .i64 p.src, .int .i64 p.dst, .int .i64 p.fp, .int .i64 p.tp, .int .i64 p.flags, .int .i64 p.label, .bool p.bare, .int .i64 p.code, .slice AO2 p.no cO2, .slice AD2 p.nd cD2] 26))
  generalize (w7.alloc (.cells #[.int .i64 p.kind, .int .i64 p.life, .int .i64 p.piece, .int .i64 p.src, .int .i64 p.dst, .int .i64 p.fp, .int .i64 p.tp, .int .i64 p.flags, .int .i64 p.label, .bool p.bare, .int .i64 p.code, .slice AO2 p.no cO2, .slice AD2 p.nd cD2] 26)) = w8 at *
  generalize hP2 : w7.heap.size = P2 at C2 ⊢
  have HP2 := hid hP2
  clear hP2
  have nO : Hid (∀ ad, AO2 = some ad → ad.block ≠ P2) := hid (fun ad e => by have := OO.out.size_le ad e; have := HP2.out; omega)
  have nD : Hid (∀ ad, AD2 = some ad → ad.block ≠ P2) := hid (fun ad e => by have := OD.out.size_le ad e; have := HP2.out; omega)
  have lP : Hid (w6.heap.size ≤ P2) := hid (by have := S7.out.size; have := HP2.out; omega)
  have ST := hid (show Ce w8 P2 [.int .i64 p.kind, .int .i64 p.life, .int .i64 p.piece, .int .i64 p.src, .int .i64 p.dst, .int .i64 p.fp, .int .i64 p.tp, .int .i64 p.flags, .int .i64 p.label, .bool p.bare, .int .i64 p.code, .slice AO2 p.no cO2, .slice AD2 p.nd cD2] ∧ (∃ f, OB w8 w6.heap.size (.slice AO2 p.no cO2) p.no f) ∧ (∃ f, OB w8 w6.heap.size (.slice AD2 p.nd cD2) p.nd f) ∧ Below w6.heap.size w6 w8 from ⟨C2.out, ⟨_, OB.keep_ OO.out S8.out⟩, ⟨_, OB.keep_ OD.out S8.out⟩, then_ S7.out S8.out⟩)
  clear C2 OO OD S7 S8
  go_wp2_with fail
  try clear y1
  go_loopw [14] (fun i wr => ∃ k : Nat, k ≤ p.nd ∧ i = .int .i64 (k : Int) ∧ Ce wr P2 [.int .i64 p.kind, .int .i64 p.life, .int .i64 p.piece, .int .i64 p.src, .int .i64 p.dst, .int .i64 p.fp, .int .i64 p.tp, .int .i64 p.flags, .int .i64 p.label, .bool p.bare, .int .i64 p.code, .slice AO2 p.no cO2, .slice AD2 p.nd cD2] ∧ (∃ f, OB wr w6.heap.size (.slice AO2 p.no cO2) p.no f) ∧ (∃ f, OB wr w6.heap.size (.slice AD2 p.nd cD2) p.nd f) ∧ Below w6.heap.size w6 wr) (fun i _ => p.nd - (intOf i).toNat)
  case atStart => exact ⟨0, by omega, rfl, ST.out⟩
  case round =>
    clear ST
    obtain ⟨k, hk, rfl, hC, hO, hD, hb⟩ := hrel
    have k0 : (0 : Int) ≤ k := by omega
    by_cases hlt : k < p.nd
    · have k1 : (k : Int) < p.nd := by omega
      have y1 := hC.2.1 12 _ rfl
      have hX := hD
      obtain ⟨f, hf⟩ := hX
      obtain ⟨g, eg, hB, hgs, hce, hfr⟩ := Ow.block_ hf (by omega)
      have ng := nD.out _ eg
      have z1 := hce k (by omega)
      have z2 := hfr k
      have R := hid (show ∀ x : Int, Ce (wr.setCell ⟨g, k, none⟩ (.int .u8 x)) P2 [.int .i64 p.kind, .int .i64 p.life, .int .i64 p.piece, .int .i64 p.src, .int .i64 p.dst, .int .i64 p.fp, .int .i64 p.tp, .int .i64 p.flags, .int .i64 p.label, .bool p.bare, .int .i64 p.code, .slice AO2 p.no cO2, .slice AD2 p.nd cD2] ∧ (∃ f, OB (wr.setCell ⟨g, k, none⟩ (.int .u8 x)) w6.heap.size (.slice AO2 p.no cO2) p.no f) ∧ (∃ f, OB (wr.setCell ⟨g, k, none⟩ (.int .u8 x)) w6.heap.size (.slice AD2 p.nd cD2) p.nd f) ∧ Below w6.heap.size w6 (wr.setCell ⟨g, k, none⟩ (.int .u8 x)) from fun x => ⟨hC.grown (grown_set wr ⟨g, k, none⟩ _) (fun e => ng (by injection e)), any_store hO, any_store hD, hb.setCell (p := ⟨g, k, none⟩) hB _⟩)
      subst eg
      clear hC hO hD hb hf hce hfr hgs ng nO nD
      go_wp2_with fail
      go_roundw
      case rel => exact ⟨k + 1, by omega, by go_num, R.out _⟩
      case measure => simp [intOf]; omega
    · have k1 : ¬ (k : Int) < p.nd := by omega
      have y1 := hC.2.1 12 _ rfl
      have ST := hid (show Ce wr P2 [.int .i64 p.kind, .int .i64 p.life, .int .i64 p.piece, .int .i64 p.src, .int .i64 p.dst, .int .i64 p.fp, .int .i64 p.tp, .int .i64 p.flags, .int .i64 p.label, .bool p.bare, .int .i64 p.code, .slice AO2 p.no cO2, .slice AD2 p.nd cD2] ∧ (∃ f, OB wr w6.heap.size (.slice AO2 p.no cO2) p.no f) ∧ (∃ f, OB wr w6.heap.size (.slice AD2 p.nd cD2) p.nd f) ∧ Below w6.heap.size w6 wr from ⟨hC, hO, hD, hb⟩)
      clear hC hO hD hb
      obtain ⟨u1, rfl⟩ : ∃ wo : World, wo = wr := ⟨_, rfl⟩
      clear k0 hk hlt
      go_upto_region 11 with (fail)
      clear y1 k1
      go_wp2_with fail
      try clear y1
      go_loopw [15] (fun i wr => ∃ k : Nat, k ≤ p.no ∧ i = .int .i64 (k : Int) ∧ Ce wr P2 [.int .i64 p.kind, .int .i64 p.life, .int .i64 p.piece, .int .i64 p.src, .int .i64 p.dst, .int .i64 p.fp, .int .i64 p.tp, .int .i64 p.flags, .int .i64 p.label, .bool p.bare, .int .i64 p.code, .slice AO2 p.no cO2, .slice AD2 p.nd cD2] ∧ (∃ f, OB wr w6.heap.size (.slice AO2 p.no cO2) p.no f) ∧ (∃ f, OB wr w6.heap.size (.slice AD2 p.nd cD2) p.nd f) ∧ Below w6.heap.size w6 wr) (fun i _ => p.no - (intOf i).toNat)
      case atStart => exact ⟨0, by omega, rfl, ST.out⟩
      case round =>
        clear ST
        obtain ⟨k, hk, rfl, hC, hO, hD, hb⟩ := hrel
        have k0 : (0 : Int) ≤ k := by omega
        by_cases hlt : k < p.no
        · have k1 : (k : Int) < p.no := by omega
          have y1 := hC.2.1 11 _ rfl
          have hX := hO
          obtain ⟨f, hf⟩ := hX
          obtain ⟨g, eg, hB, hgs, hce, hfr⟩ := Ow.block_ hf (by omega)
          have ng := nO.out _ eg
          have z1 := hce k (by omega)
          have z2 := hfr k
          have R := hid (show ∀ x : Int, Ce (wr.setCell ⟨g, k, none⟩ (.int .u8 x)) P2 [.int .i64 p.kind, .int .i64 p.life, .int .i64 p.piece, .int .i64 p.src, .int .i64 p.dst, .int .i64 p.fp, .int .i64 p.tp, .int .i64 p.flags, .int .i64 p.label, .bool p.bare, .int .i64 p.code, .slice AO2 p.no cO2, .slice AD2 p.nd cD2] ∧ (∃ f, OB (wr.setCell ⟨g, k, none⟩ (.int .u8 x)) w6.heap.size (.slice AO2 p.no cO2) p.no f) ∧ (∃ f, OB (wr.setCell ⟨g, k, none⟩ (.int .u8 x)) w6.heap.size (.slice AD2 p.nd cD2) p.nd f) ∧ Below w6.heap.size w6 (wr.setCell ⟨g, k, none⟩ (.int .u8 x)) from fun x => ⟨hC.grown (grown_set wr ⟨g, k, none⟩ _) (fun e => ng (by injection e)), any_store hO, any_store hD, hb.setCell (p := ⟨g, k, none⟩) hB _⟩)
          subst eg
          clear hC hO hD hb hf hce hfr hgs ng nO nD
          go_wp2_with fail
          go_roundw
          case rel => exact ⟨k + 1, by omega, by go_num, R.out _⟩
          case measure => simp [intOf]; omega
        · have k1 : ¬ (k : Int) < p.no := by omega
          have y1 := hC.2.1 11 _ rfl
          have ST := hid (show Ce wr P2 [.int .i64 p.kind, .int .i64 p.life, .int .i64 p.piece, .int .i64 p.src, .int .i64 p.dst, .int .i64 p.fp, .int .i64 p.tp, .int .i64 p.flags, .int .i64 p.label, .bool p.bare, .int .i64 p.code, .slice AO2 p.no cO2, .slice AD2 p.nd cD2] ∧ (∃ f, OB wr w6.heap.size (.slice AO2 p.no cO2) p.no f) ∧ (∃ f, OB wr w6.heap.size (.slice AD2 p.nd cD2) p.nd f) ∧ Below w6.heap.size w6 wr from ⟨hC, hO, hD, hb⟩)
          clear hC hO hD hb
          obtain ⟨u2, rfl⟩ : ∃ wo : World, wo = wr := ⟨_, rfl⟩
          clear k0 hk hlt
          go_upto_region 15 with (fail)
          clear y1 k1
          have SL := hid ST.out.2.2.2
          clear ST nO nD lP
          go_wp2_with fail
          refine (T1.out A4 c4 hc4 u2 (Sl.below R4.out SL.out (Nat.le_refl _))).mono ?_
          rintro e v0 ⟨X0, d0, rfl, hO, _, hb⟩
          have S9 := hid hb
          clear hb
          have ST := hid (show (∃ f, OB v0 u2.heap.size (.slice X0 N1 d0) N1 f) ∧ Below u2.heap.size u2 v0 from ⟨⟨_, hO⟩, S9.out⟩)
          clear hO T1 S9
          go_wp2_with fail
          go_loopw [18] (fun i wr => ∃ k : Nat, k ≤ N1 ∧ i = .int .i64 (k : Int) ∧ (∃ f, OB wr u2.heap.size (.slice X0 N1 d0) N1 f) ∧ Below u2.heap.size u2 wr) (fun i _ => N1 - (intOf i).toNat)
          case atStart => exact ⟨0, by omega, rfl, ST.out⟩
          case round =>
            clear ST
            obtain ⟨k, hk, rfl, ⟨f, hf⟩, hb⟩ := hrel
            have k0 : (0 : Int) ≤ k := by omega
            by_cases hlt : k < N1
            · have k1 : (k : Int) < N1 := by omega
              obtain ⟨g, rfl, hB, hgs, hce, hfr⟩ := Ow.block_ hf (by omega)
              have z1 := hce k (by omega)
              have z2 := hfr k
              have R := hid (show ∀ x : Int, (∃ f, OB (wr.setCell ⟨g, k, none⟩ (.int .u8 x)) u2.heap.size (.slice (some ⟨g, 0, none⟩) N1 d0) N1 f) ∧ Below u2.heap.size u2 (wr.setCell ⟨g, k, none⟩ (.int .u8 x)) from fun x => ⟨any_store ⟨f, hf⟩, hb.setCell (p := ⟨g, k, none⟩) hB _⟩)
              clear hf hb hce hfr hgs
              go_wp2_with fail
              go_roundw
              case rel => exact ⟨k + 1, by omega, by go_num, R.out _⟩
              case measure => simp [intOf]; omega
            · have k1 : ¬ (k : Int) < N1 := by omega
              have SL0 := hid hb
              clear hf hb
              obtain ⟨t0, rfl⟩ : ∃ wo : World, wo = wr := ⟨_, rfl⟩
              go_upto_region 20 with (fail)
              clear k0 hk k1 hlt
              go_wp2_with fail
              refine (T2.out A4 c4 hc4 t0 (Sl.below R4.out (then_ SL.out SL0.out) (Nat.le_refl _))).mono ?_
              rintro e v1 ⟨X1, d1, rfl, hO, _, hb⟩
              have S10 := hid hb
              clear hb
              have ST := hid (show (∃ f, OB v1 t0.heap.size (.slice X1 N2 d1) N2 f) ∧ Below t0.heap.size t0 v1 from ⟨⟨_, hO⟩, S10.out⟩)
              clear hO T2 S10
              go_wp2_with fail
              go_loopw [21] (fun i wr => ∃ k : Nat, k ≤ N2 ∧ i = .int .i64 (k : Int) ∧ (∃ f, OB wr t0.heap.size (.slice X1 N2 d1) N2 f) ∧ Below t0.heap.size t0 wr) (fun i _ => N2 - (intOf i).toNat)
              case atStart => exact ⟨0, by omega, rfl, ST.out⟩
              case round =>
                clear ST
                obtain ⟨k, hk, rfl, ⟨f, hf⟩, hb⟩ := hrel
                have k0 : (0 : Int) ≤ k := by omega
                by_cases hlt : k < N2
                · have k1 : (k : Int) < N2 := by omega
                  obtain ⟨g, rfl, hB, hgs, hce, hfr⟩ := Ow.block_ hf (by omega)
                  have z1 := hce k (by omega)
                  have z2 := hfr k
                  have R := hid (show ∀ x : Int, (∃ f, OB (wr.setCell ⟨g, k, none⟩ (.int .u8 x)) t0.heap.size (.slice (some ⟨g, 0, none⟩) N2 d1) N2 f) ∧ Below t0.heap.size t0 (wr.setCell ⟨g, k, none⟩ (.int .u8 x)) from fun x => ⟨any_store ⟨f, hf⟩, hb.setCell (p := ⟨g, k, none⟩) hB _⟩)
                  clear hf hb hce hfr hgs
                  go_wp2_with fail
                  go_roundw
                  case rel => exact ⟨k + 1, by omega, by go_num, R.out _⟩
                  case measure => simp [intOf]; omega
                · have k1 : ¬ (k : Int) < N2 := by omega
                  have SL1 := hid hb
                  clear hf hb
                  obtain ⟨t1, rfl⟩ : ∃ wo : World, wo = wr := ⟨_, rfl⟩
                  go_upto_region 25 with (fail)
                  clear k0 hk k1 hlt
                  go_wp2_with fail
                  refine (T3.out A4 c4 hc4 t1 (Sl.below R4.out (then_ (then_ SL.out SL0.out) SL1.out) (Nat.le_refl _))).mono ?_
                  rintro e v2 ⟨X2, d2, rfl, hO, _, hb⟩
                  have S11 := hid hb
                  clear hb
                  have ST := hid (show (∃ f, OB v2 t1.heap.size (.slice X2 N3 d2) N3 f) ∧ Below t1.heap.size t1 v2 from ⟨⟨_, hO⟩, S11.out⟩)
                  clear hO T3 S11
                  go_wp2_with fail
                  go_loopw [24] (fun i wr => ∃ k : Nat, k ≤ N3 ∧ i = .int .i64 (k : Int) ∧ (∃ f, OB wr t1.heap.size (.slice X2 N3 d2) N3 f) ∧ Below t1.heap.size t1 wr) (fun i _ => N3 - (intOf i).toNat)
                  case atStart => exact ⟨0, by omega, rfl, ST.out⟩
                  case round =>
                    clear ST
                    obtain ⟨k, hk, rfl, ⟨f, hf⟩, hb⟩ := hrel
                    have k0 : (0 : Int) ≤ k := by omega
                    by_cases hlt : k < N3
                    · have k1 : (k : Int) < N3 := by omega
                      obtain ⟨g, rfl, hB, hgs, hce, hfr⟩ := Ow.block_ hf (by omega)
                      have z1 := hce k (by omega)
                      have z2 := hfr k
                      have R := hid (show ∀ x : Int, (∃ f, OB (wr.setCell ⟨g, k, none⟩ (.int .u8 x)) t1.heap.size (.slice (some ⟨g, 0, none⟩) N3 d2) N3 f) ∧ Below t1.heap.size t1 (wr.setCell ⟨g, k, none⟩ (.int .u8 x)) from fun x => ⟨any_store ⟨f, hf⟩, hb.setCell (p := ⟨g, k, none⟩) hB _⟩)
                      clear hf hb hce hfr hgs
                      go_wp2_with fail
                      go_roundw
                      case rel => exact ⟨k + 1, by omega, by go_num, R.out _⟩
                      case measure => simp [intOf]; omega
                    · have k1 : ¬ (k : Int) < N3 := by omega
                      have SL2 := hid hb
                      clear hf hb
                      obtain ⟨t2, rfl⟩ : ∃ wo : World, wo = wr := ⟨_, rfl⟩
                      go_upto_region 30 with (fail)
                      clear k0 hk k1 hlt
                      go_wp2_with fail
                      refine (PA.out A4 c4 hc4 t2 (Sl.below R4.out (then_ (then_ (then_ SL.out SL0.out) SL1.out) SL2.out) (Nat.le_refl _))).mono ?_
                      rintro e w20 ⟨AO3, cO3, AD3, cD3, rfl, hO, hD, hb⟩
                      have S12 := hid hb
                      clear hb
                      have RO3 := hid (hO.sl1)
                      have RD3 := hid (hD.sl1)
                      clear hO hD PA
                      go_upto_region 31 with (fail)
                      have C3 := hid (Ce.made (w := w20) (l := [.int .i64 p.kind, .int .i64 p.life, .int .i64 p.piece, .int .i64 p.src, .int .i64 p.dst, .int .i64 p.fp, .int .i64 p.tp, .int .i64 p.flags, .int .i64 p.label, .bool p.bare, .int .i64 p.code, .slice AO3 p.no cO3, .slice AD3 p.nd cD3]) (T := 26) rfl)
                      simp only [List.toArray] at C3
                      have S13 := hid ((Below.refl w20.heap.size w20).alloc (Nat.le_refl _) (.cells #[.int .i64 p.kind, .int .i64 p.life, .int .i64 p.piece, .int .i64 p.src, .int .i64 p.dst, .int .i64 p.fp, .int .i64 p.tp, .int .i64 p.flags, .int .i64 p.label, .bool p.bare, .int .i64 p.code, .slice AO3 p.no cO3, .slice AD3 p.nd cD3] 26))
                      generalize (w20.alloc (.cells #[.int .i64 p.kind, .int .i64 p.life, .int .i64 p.piece, .int .i64 p.src, .int .i64 p.dst, .int .i64 p.fp, .int .i64 p.tp, .int .i64 p.flags, .int .i64 p.label, .bool p.bare, .int .i64 p.code, .slice AO3 p.no cO3, .slice AD3 p.nd cD3] 26)) = w21 at *
                      generalize hP3 : w20.heap.size = P3 at C3 ⊢
                      have HP3 := hid hP3
                      clear hP3
                      have yC := (Ce.below C1.out (then_ (then_ (then_ (then_ (then_ (then_ (then_ S5.out S6.out) SL.out) SL0.out) SL1.out) SL2.out) S12.out) S13.out))
                      have y0 := yC.2.1 0 _ rfl
                      have y1 := yC.2.1 1 _ rfl
                      have y2 := yC.2.1 2 _ rfl
                      have y3 := yC.2.1 3 _ rfl
                      have y4 := yC.2.1 4 _ rfl
                      have y5 := yC.2.1 5 _ rfl
                      have y6 := yC.2.1 6 _ rfl
                      have y7 := yC.2.1 7 _ rfl
                      have y8 := yC.2.1 8 _ rfl
                      have y9 := yC.2.1 9 _ rfl
                      have y10 := yC.2.1 10 _ rfl
                      have y11 := yC.2.1 11 _ rfl
                      have y12 := yC.2.1 12 _ rfl
                      clear yC
                      have zC := (Ce.below C1'.out (then_ (then_ (then_ (then_ (then_ (then_ S6.out SL.out) SL0.out) SL1.out) SL2.out) S12.out) S13.out))
                      have z0 := zC.2.1 0 _ rfl
                      have z1 := zC.2.1 1 _ rfl
                      have z2 := zC.2.1 2 _ rfl
                      have z3 := zC.2.1 3 _ rfl
                      have z4 := zC.2.1 4 _ rfl
                      have z5 := zC.2.1 5 _ rfl
                      have z6 := zC.2.1 6 _ rfl
                      have z7 := zC.2.1 7 _ rfl
                      have z8 := zC.2.1 8 _ rfl
                      have z9 := zC.2.1 9 _ rfl
                      have z10 := zC.2.1 10 _ rfl
                      have z11 := zC.2.1 11 _ rfl
                      have z12 := zC.2.1 12 _ rfl
                      clear zC
                      go_wp2_with fail
                      refine (SA.out AO AD AO' AD' cO cD cO' cD' w21 (Sl.below RO.out (then_ (then_ (then_ (then_ (then_ (then_ (then_ (then_ (then_ S3.out S4.out) S5.out) S6.out) SL.out) SL0.out) SL1.out) SL2.out) S12.out) S13.out) (Nat.le_refl _)) (Sl.below RD.out (then_ (then_ (then_ (then_ (then_ (then_ (then_ (then_ (then_ S3.out S4.out) S5.out) S6.out) SL.out) SL0.out) SL1.out) SL2.out) S12.out) S13.out) (Nat.le_refl _)) (Sl.below SO.out (then_ (then_ (then_ (then_ (then_ (then_ (then_ (then_ S4.out S5.out) S6.out) SL.out) SL0.out) SL1.out) SL2.out) S12.out) S13.out) (Nat.le_refl _)) (Sl.below SD.out (then_ (then_ (then_ (then_ (then_ (then_ (then_ (then_ S4.out S5.out) S6.out) SL.out) SL0.out) SL1.out) SL2.out) S12.out) S13.out) (Nat.le_refl _))).mono ?_
                      rintro e w22 ⟨rfl, hb⟩
                      have S14 := hid hb
                      clear hb
                      clear y0 y1 y2 y3 y4 y5 y6 y7 y8 y9 y10 y11 y12
                      clear z0 z1 z2 z3 z4 z5 z6 z7 z8 z9 z10 z11 z12
                      have x1 := conv_str c4 (Sl.below R4.out (then_ (then_ (then_ (then_ (then_ (then_ SL.out SL0.out) SL1.out) SL2.out) S12.out) S13.out) S14.out) (Nat.le_refl _))
                      have yC := (Ce.below C3.out S14.out)
                      have y0 := yC.2.1 0 _ rfl
                      have y1 := yC.2.1 1 _ rfl
                      have y2 := yC.2.1 2 _ rfl
                      have y3 := yC.2.1 3 _ rfl
                      have y4 := yC.2.1 4 _ rfl
                      have y5 := yC.2.1 5 _ rfl
                      have y6 := yC.2.1 6 _ rfl
                      have y7 := yC.2.1 7 _ rfl
                      have y8 := yC.2.1 8 _ rfl
                      have y9 := yC.2.1 9 _ rfl
                      have y10 := yC.2.1 10 _ rfl
                      have y11 := yC.2.1 11 _ rfl
                      have y12 := yC.2.1 12 _ rfl
                      clear yC
                      have zC := (Ce.below C1'.out (then_ (then_ (then_ (then_ (then_ (then_ (then_ S6.out SL.out) SL0.out) SL1.out) SL2.out) S12.out) S13.out) S14.out))
                      have z0 := zC.2.1 0 _ rfl
                      have z1 := zC.2.1 1 _ rfl
                      have z2 := zC.2.1 2 _ rfl
                      have z3 := zC.2.1 3 _ rfl
                      have z4 := zC.2.1 4 _ rfl
                      have z5 := zC.2.1 5 _ rfl
                      have z6 := zC.2.1 6 _ rfl
                      have z7 := zC.2.1 7 _ rfl
                      have z8 := zC.2.1 8 _ rfl
                      have z9 := zC.2.1 9 _ rfl
                      have z10 := zC.2.1 10 _ rfl
                      have z11 := zC.2.1 11 _ rfl
                      have z12 := zC.2.1 12 _ rfl
                      clear zC
                      go_wp2_with fail
                      refine (SA.out AO3 AD3 AO' AD' cO3 cD3 cO' cD' w22 (Sl.below RO3.out (then_ S13.out S14.out) (Nat.le_refl _)) (Sl.below RD3.out (then_ S13.out S14.out) (Nat.le_refl _)) (Sl.below SO.out (then_ (then_ (then_ (then_ (then_ (then_ (then_ (then_ (then_ S4.out S5.out) S6.out) SL.out) SL0.out) SL1.out) SL2.out) S12.out) S13.out) S14.out) (Nat.le_refl _)) (Sl.below SD.out (then_ (then_ (then_ (then_ (then_ (then_ (then_ (then_ (then_ S4.out S5.out) S6.out) SL.out) SL0.out) SL1.out) SL2.out) S12.out) S13.out) S14.out) (Nat.le_refl _))).mono ?_
                      rintro e w23 ⟨rfl, hb⟩
                      have S15 := hid hb
                      clear hb
                      clear y0 y1 y2 y3 y4 y5 y6 y7 y8 y9 y10 y11 y12
                      clear z0 z1 z2 z3 z4 z5 z6 z7 z8 z9 z10 z11 z12
                      clear x1
                      go_wp2_with fail
                      go_ret
                      exact ⟨rfl, (then_ (then_ (then_ (then_ (then_ (then_ (then_ (then_ (then_ (then_ (then_ (then_ (then_ S1.out S2.out) S3.out) S4.out) S5.out) S6.out) SL.out) SL0.out) SL1.out) SL2.out) S12.out) S13.out) S14.out) S15.out)⟩

set_option maxRecDepth 100000 in
theorem lifted (os : Os) (started : os.Started) (H : Type) (enc : TypeId × Value → H) :
    ReturnsInHanded {} Try.checked os 14 .any (Rows.wireOwnSpec.pre6 enc Try.prog Try.f14 [] false) (Rows.wireOwnSpec.post enc Try.prog Try.f14 false true false false) :=
  law_step (s := Rows.wireOwnSpec) started (by kernel_rfl) Try.func14
    (ChangeSpec.witness6 (s := Rows.wireOwnSpec) (enc := enc) (C := Try.checked) false ⟨#[], #[.int .i64 0, .slice none 0 0, .slice none 0 0], []⟩ 8 (by kernel_rfl) (by kernel_rfl) (by kernel_rfl) (by kernel_rfl))
    rfl (by rw [Try.params14]; decide +kernel) rfl Try.underlying4
    (fun ds h => by
      rw [Try.params14] at h
      match ds, h with
      | [_, _, _], _ => rfl)
    (fun W base args ds ps hval hA hsz => by
      rw [Try.params14] at hA hval hsz
      obtain ⟨v0, vs0, d0, ds0, p0, q0, hargs, rfl, rfl, h0, r0⟩ := trodAll_cons hA
      obtain ⟨v1, vs1, d1, ds1, p1, q1, rfl, rfl, rfl, h1, r1⟩ := trodAll_cons r0
      obtain ⟨v2, vs2, d2, ds2, p2, q2, rfl, rfl, rfl, h2, r2⟩ := trodAll_cons r1
      obtain ⟨rfl, rfl, rfl⟩ := trodAll_nil r2
      obtain rfl : args = #[v0, v1, v2] := by cases args; simp_all
      obtain ⟨a0, rfl, rfl, rfl, w0⟩ := open_int Try.underlying3 (hval 0 3 v0 rfl rfl) h0
      obtain ⟨A1, n1, c1, g1, rfl, hn1, hc1, hs1, hw1, hl1, hd1⟩ := open_row Try.underlying22 Try.underlying3 (by kernel_rfl) (hval 1 22 v1 rfl rfl) h1
      have re1 : c1 * 8 ≤ 140737488351232 := by
        rcases hd1 with ⟨_, h0⟩ | ⟨xs, ys, h1, h2⟩
        · omega
        · have := sized_slice hsz (j := 1) (t := 22) (e := 3) rfl (by rw [h1]; rfl) Try.underlying22
          rw [h2, show Try.prog.bytesOf 3 = 8 from by kernel_rfl] at this
          simpa [reachBytes] using this
      obtain ⟨A2, n2, c2, g2, rfl, hn2, hc2, hs2, hw2, hl2, hd2⟩ := open_row Try.underlying23 Try.underlying5 (by kernel_rfl) (hval 2 23 v2 rfl rfl) h2
      have re2 : c2 * 1 ≤ 140737488351232 := by
        rcases hd2 with ⟨_, h0⟩ | ⟨xs, ys, h1, h2⟩
        · omega
        · have := sized_slice hsz (j := 2) (t := 23) (e := 5) rfl (by rw [h1]; rfl) Try.underlying23
          rw [h2, show Try.prog.bytesOf 5 = 1 from by kernel_rfl] at this
          simpa [reachBytes] using this
      exact walk W a0 (bounds_i64 w0) A1 n1 c1 g1 hn1 hc1 hs1 (fun j => bounds_i64 (hw1 j)) hl1 re1 A2 n2 c2 g2 hn2 hc2 hs2 (fun j => bounds_u8 (hw2 j)) hl2 re2)

theorem proved : Rows.WireOwnSaid :=
  OpenClaim.holds_of_wide 14 Try.f14 rfl rfl rfl rfl rfl rfl rfl ⟨rfl, rfl, rfl, rfl, rfl⟩ rfl rfl rfl rfl rfl (by kernel_rfl) Try.func14 (by kernel_rfl)
    (of_decide_eq_true (by kernel_rfl)) (by unfold Func.isWrapper; first | (rw [if_pos (by decide +kernel)]; kernel_rfl) | (rw [if_neg (by decide +kernel)]; exact ⟨rfl, rfl⟩))
    (fun os started H enc _ => lifted os started H enc)
end Go.Proofs.Ytjljaecjnpmdoaa.wireOwn
