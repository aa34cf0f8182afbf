/- roundhouselaw3.WireKeeps answers true for any kind, any numbers, any bytes, any changes; no condition. -/
import Derived.Test.YtjljaecjnpmdoaaWirLaw
import Derived.Test.YtjljaecjnpmdoaaWirLawP
import Derived.Test.YtjljaecjnpmdoaaTakes
import Derived.Test.YtjljaecjnpmdoaaWirMkb
import Derived.Deep.CutBlock
import Derived.Deep.CutRange
import Derived.Deep.LoopGhost
import Derived.BigQuiet
import Derived.Deep.RegionHeld3
import Derived.Deep.Cut
namespace Go.Proofs.Ytjljaecjnpmdoaa.wireKeeps
set_option linter.unusedVariables false
set_option linter.unusedSimpArgs false
open Go.RowKit Go.ChangeShapes Go.WideShapes Go.ChangeAt

theorem spoil_keeps {F : Nat → Int} {L : Nat} {y : Int} (hL : 24 < L) (hp : parseE F L = 0) : parseE (set1 F (L - 1) y) L = 0 ∧ set1 F (L - 1) y 0 = F 0 ∧ bareF (set1 F (L - 1) y) = bareF F := by
  have e : ∀ j, j < 24 → set1 F (L - 1) y j = F j := fun j hj => by unfold set1; rw [if_neg (by omega)]
  have h := parseE_0 hp
  refine ⟨?_, e 0 (by omega), bare_ext (e 0 (by omega)) (e 22 (by omega)) (e 23 (by omega))⟩
  unfold parseE
  rw [headE_ext (fun j hj => e j (by omega)), bodyE_ext (e 0 (by omega)) (e 17 (by omega)) (fun _ => e 20 (by omega)) (fun _ => e 21 (by omega)), if_pos h.1]
  exact h.2
/-- What a change keeps. -/
def Kept (p : Pk) (wb : Bool) (g : Nat → Int) (L : Nat) : Prop := IsB g ∧ parseE g L = 0 ∧ wholeB g L = wb ∧ g 0 = p.kind ∧ bareF g = p.bare
theorem kept_age {p : Pk} {wb : Bool} {g : Nat → Int} {L : Nat} (h : Kept p wb g L) (e : ageE g L = 0) : Kept p wb (ageF g) L := by
  obtain ⟨h1, h2, h3, h4, h5⟩ := h
  exact ⟨age_isB h1 e, age_parse h1 e, (age_whole h1 e).trans h3, (age_out (by omega) (.inl (by omega))).trans h4, (bare_ext (age_out (by omega) (.inl (by omega))) (age_out (by omega) (.inr (by omega))) (age_out (by omega) (.inr (by omega)))).trans h5⟩
theorem kept_nat {p : Pk} {wb : Bool} {g : Nat → Int} {L : Nat} {s : Bool} {ad po : Int} (h : Kept p wb g L) (e : natE g L ad po = 0) : Kept p wb (natF g L s ad po) L := by
  obtain ⟨h1, h2, h3, h4, h5⟩ := h
  refine ⟨nat_isB h1 L s ad po, nat_parse h1 e, (nat_whole h1 e).trans h3, ?_, nat_bare.trans h5⟩
  rw [nat_at (.inl (by omega)) (.inl (by omega)), natP_out (.inl (by have := aA_or s; omega)) (.inl (by have := aA_or s; omega)), h4]
theorem kept_wr {p : Pk} {wb : Bool} {g : Nat → Int} {L : Nat} {a m v : Int} (h : Kept p wb g L) (ha : 24 ≤ a) (hm : 0 < m) (e : wrE g L a m v = 0) : Kept p wb (wrF g L a.toNat m.toNat v) L := by
  obtain ⟨a, rfl⟩ := Int.eq_ofNat_of_zero_le (show 0 ≤ a by omega)
  obtain ⟨m, rfl⟩ := Int.eq_ofNat_of_zero_le (show 0 ≤ m by omega)
  rw [Int.toNat_natCast, Int.toNat_natCast]
  obtain ⟨h1, h2, h3, h4, h5⟩ := h
  have hi := mayB_iff (wrE_0 e).2
  have hs := kind_num g
  exact ⟨wr_B h1 L a m v, wr_parse (by omega) h2, (wr_whole h1 (by omega) (by omega) (by omega) h2).trans h3, (wr_out (.inl (by omega)) (.inl (by omega)) (by omega)).trans h4, (wr_bare (by omega) (.inr (by omega))).trans h5⟩

set_option maxRecDepth 100000 in
set_option maxHeartbeats 4000000 in
theorem walk (W : World) (a0 : Int) (r_a0 : -9223372036854775808 ≤ a0 ∧ a0 ≤ 9223372036854775807) (A1 : Option Addr) (n1 c1 : Nat) (g1 : Nat → Int) (hn1 : n1 ≤ c1) (hc1 : c1 ≤ maxLen) (hr1 : Is W A1 n1 g1) (hg1 : IsI g1) (hl1 : ∀ ad, A1 = some ad → 0 < n1 → ad.block < W.heap.size) (re1 : c1 * 8 ≤ 140737488351232) (A2 : Option Addr) (n2 c2 : Nat) (g2 : Nat → Int) (hn2 : n2 ≤ c2) (hc2 : c2 ≤ maxLen) (hr2 : By W A2 n2 g2) (hg2 : IsB g2) (hl2 : ∀ ad, A2 = some ad → 0 < n2 → ad.block < W.heap.size) (re2 : c2 * 1 ≤ 140737488351232) (a3 : Bool) (A4 : Option Addr) (n4 c4 : Nat) (g4 : Nat → Int) (hn4 : n4 ≤ c4) (hc4 : c4 ≤ maxLen) (hr4 : Is W A4 n4 g4) (hg4 : IsI g4) (hl4 : ∀ ad, A4 = some ad → 0 < n4 → ad.block < W.heap.size) (re4 : c4 * 8 ≤ 140737488351232) (A5 : Option Addr) (n5 c5 : Nat) (g5 : Nat → Int) (hn5 : n5 ≤ c5) (hc5 : c5 ≤ maxLen) (hr5 : Is W A5 n5 g5) (hg5 : IsI g5) (hl5 : ∀ ad, A5 = some ad → 0 < n5 → ad.block < W.heap.size) (re5 : c5 * 8 ≤ 140737488351232) :
    Calls Try.prog 8 #[.int .i64 a0, .slice A1 n1 c1, .slice A2 n2 c2, .bool a3, .slice A4 n4 c4, .slice A5 n5 c5] W fun e w' => e = .returned (.bool true) ∧ Below W.heap.size W w' := by
  have HG := hid hg2
  have m1 : (n1 : Int) ≤ 9223372036854775807 := by unfold maxLen at hc1; omega
  have m2 : (n2 : Int) ≤ 9223372036854775807 := by unfold maxLen at hc2; omega
  have H1 := hid (hr1)
  have H2 := hid (hr2)
  obtain ⟨p, hp⟩ : ∃ p, p = mkPk a0 (nv g1 n1) g2 n2 := ⟨_, rfl⟩
  obtain ⟨L, hL⟩ : ∃ L, L = lenP p := ⟨_, rfl⟩
  obtain ⟨F, hF⟩ : ∃ F, F = builtF p := ⟨_, rfl⟩
  have M := mk_all hp HG.out hL hF
  have MK := hid (make_p p a0 A1 n1 c1 g1 A2 n2 c2 g2 hp HG.out m1 hn2 m2)
  have BU := hid (build_p p L F hL hF M.E M.go M.gd (Nat.le_trans M.no (by decide)) (Nat.le_trans M.nd (by decide)))
  have RB := hid (rbuild_p p L F hL hF M.E M.go M.gd (Nat.le_trans M.no (by decide)) (Nat.le_trans M.nd (by decide)))
  have HM := hid M
  have L0 := M.L0
  have L1 := M.L1
  have LN : L ≤ 1000000 := by omega
  clear M
  clear hp hL hF hr1 hr2 hg1 hg2 hl1 hl2 re1 re2 hc1 hc2 m1 m2
  clear BU
  have H4 := hid (hr4)
  have H5 := hid (hr5)
  have m4 : (n4 : Int) ≤ 9223372036854775807 := by unfold maxLen at hc4; omega
  have m5 : (n5 : Int) ≤ 9223372036854775807 := by unfold maxLen at hc5; omega
  clear hr4 hr5 hl4 hl5 re4 re5 hc4 hc5
  have KF := hid (pe_kind HM.out.P HM.out.pe)
  have KE := hid (pe_bare HM.out.P HM.out.pe)
  go_enter Try.func8, Try.ntmps8
  go_wp2_with fail
  refine (known_any _).mono ?_
  rintro e w1 ⟨rfl, hb⟩
  have S1 := hid hb
  clear hb
  go_wp2_with fail
  refine (MK.out w1 (Sl.below H1.out S1.out (Nat.le_refl _)) (Sl.below H2.out S1.out (Nat.le_refl _))).mono ?_
  rintro e w2 ⟨AO, cO, AD, cD, rfl, hO, hD, hb⟩
  have S2 := hid hb
  clear hb
  have RO := hid (hO)
  have RD := hid (hD)
  clear hO hD
  clear MK
  go_upto_region 4 with (fail)
  have C1 := hid (Ce.made (w := w2) (l := [.int .i64 p.kind, .int .i64 p.life, .int .i64 p.piece, .int .i64 p.src, .int .i64 p.dst, .int .i64 p.fp, .int .i64 p.tp, .int .i64 p.flags, .int .i64 p.label, .bool p.bare, .int .i64 p.code, .slice AO p.no cO, .slice AD p.nd cD]) (T := 26) rfl)
  simp only [List.toArray] at C1
  have S3 := hid ((Below.refl w2.heap.size w2).alloc (Nat.le_refl _) (.cells #[.int .i64 p.kind, .int .i64 p.life, .int .i64 p.piece, .int .i64 p.src, .int .i64 p.dst, .int .i64 p.fp, .int .i64 p.tp, .int .i64 p.flags, .int .i64 p.label, .bool p.bare, .int .i64 p.code, .slice AO p.no cO, .slice AD p.nd cD] 26))
  generalize (w2.alloc (.cells #[.int .i64 p.kind, .int .i64 p.life, .int .i64 p.piece, .int .i64 p.src, .int .i64 p.dst, .int .i64 p.fp, .int .i64 p.tp, .int .i64 p.flags, .int .i64 p.label, .bool p.bare, .int .i64 p.code, .slice AO p.no cO, .slice AD p.nd cD] 26)) = w3 at *
  generalize hP1 : w2.heap.size = P1 at C1 ⊢
  have HP1 := hid hP1
  clear hP1
  have yC := (Ce.below C1.out (Below.refl _ _))
  have y0 := yC.2.1 0 _ rfl
  have y1 := yC.2.1 1 _ rfl
  have y2 := yC.2.1 2 _ rfl
  have y3 := yC.2.1 3 _ rfl
  have y4 := yC.2.1 4 _ rfl
  have y5 := yC.2.1 5 _ rfl
  have y6 := yC.2.1 6 _ rfl
  have y7 := yC.2.1 7 _ rfl
  have y8 := yC.2.1 8 _ rfl
  have y9 := yC.2.1 9 _ rfl
  have y10 := yC.2.1 10 _ rfl
  have y11 := yC.2.1 11 _ rfl
  have y12 := yC.2.1 12 _ rfl
  clear yC
  go_wp2_with fail
  refine (RB.out AO cO AD cD w3 (Sl.below RO.out S3.out (Nat.le_refl _)) (Sl.below RD.out S3.out (Nat.le_refl _))).mono ?_
  rintro e w4 ⟨A4, c4, rfl, hO, hc4, hb⟩
  have S4 := hid hb
  clear hb
  have O4 := hid hO
  clear hO RB
  clear y0 y1 y2 y3 y4 y5 y6 y7 y8 y9 y10 y11 y12
  go_upto_region 5 with (fail)
  have yC := (Ce.below C1.out S4.out)
  have y9 := yC.2.1 9 _ rfl
  clear yC
  go_cut [48] from 27 (fun s wx => wx = w4 ∧ ∃ sp : Bool, s = .bool sp ∧ (sp = true → 24 < L))
  case first =>
    cases a3
    · go_wp2_with fail
      go_meet
      exact ⟨rfl, false, rfl, fun h => by cases h⟩
    · by_cases h24 : (24 : Int) < (L : Int)
      · obtain ⟨bb, hbb⟩ : ∃ b, b = p.bare := ⟨_, rfl⟩
        rw [← hbb] at y9
        clear hbb
        cases bb
        · go_wp2_with fail
          go_meet
          exact ⟨rfl, true, rfl, fun _ => by omega⟩
        · go_wp2_with fail
          go_meet
          exact ⟨rfl, false, rfl, fun h => by cases h⟩
      · go_wp2_with fail
        go_meet
        exact ⟨rfl, false, rfl, fun h => by cases h⟩
  case rest =>
    obtain ⟨rfl, sp, rfl, hsp⟩ := hcut
    have HSP := hid hsp
    clear hsp
    obtain ⟨G, eG, hGB, hGs, hce, hfr⟩ := Ow.block_ O4.out (by omega)
    subst eG
    skip
    go_upto_if 48 with (fail)
    go_cut [] from 27 (fun wx => ∃ Z : Nat → Int, By wx (some ⟨G, 0, none⟩) L Z ∧ IsB Z ∧ parseE Z L = 0 ∧ Z 0 = p.kind ∧ bareF Z = p.bare ∧ Below w3.heap.size w3 wx)
    case first =>
      cases sp
      · go_wp2_with fail
        go_meet
        exact ⟨F, O4.out.sl1, HM.out.B, HM.out.P, KF.out, KE.out, S4.out⟩
      · have h24 := HSP.out rfl
        have c1 := hce (L - 1) (by omega)
        have f1 := hfr (L - 1)
        have qL : ((L : Int) - 1) = ((L - 1 : Nat) : Int) := by omega
        obtain ⟨y, hy⟩ : ∃ y, IntKind.u8.wrap (F (L - 1) + 1) = y := ⟨_, rfl⟩
        have yb : 0 ≤ y ∧ y ≤ 255 := by rw [← hy, IntKind.wrap_u8]; omega
        have OZ := hid (OB.store O4.out (L - 1) y)
        have SK := hid (spoil_keeps (y := y) h24 HM.out.P)
        go_wp2_with fail
        go_meet
        exact ⟨set1 F (L - 1) y, OZ.out.sl1, set1_B HM.out.B (L - 1) y yb.1 yb.2, SK.out.1, SK.out.2.1.trans KF.out, SK.out.2.2.trans KE.out, S4.out.setCell (p := ⟨G, L - 1, none⟩) hGB _⟩
    case rest =>
      obtain ⟨Z, hR, hZ, hP, hk, hbr, hb⟩ := hcut
      have RZ := hid hR
      have HZ := hid hZ
      have SZ := hid hb
      obtain ⟨wb, hwb⟩ : ∃ b, b = wholeB Z L := ⟨_, rfl⟩
      have KZ := hid (show Kept p wb Z L from ⟨hZ, hP, hwb.symm, hk, hbr⟩)
      have HWB := hid hwb
      clear hR hP hk hbr hb hZ hwb hce hfr hGB hGs O4 KF KE HSP S4
      obtain ⟨w5, rfl⟩ : ∃ wo : World, wo = wc := ⟨_, rfl⟩
      go_wp2_with fail
      refine (re_bool (whole_any (some ⟨G, 0, none⟩) L c4 Z w5 (Sl.below RZ.out (Below.refl _ _) (Nat.le_refl _)) HZ.out hc4 LN) HWB.out.symm).mono ?_
      rintro e w6 ⟨rfl, hb⟩
      have S5 := hid hb
      clear hb
      clear HWB HZ
      go_wp2_with fail
      go_loopg [17, 18, 19, 20, 21, 22, 23, 24] 8 (fun gh x i _ _ _ _ _ _ wr => ∃ (q : Nat) (A : Option Addr) (c : Nat) (g : Nat → Int), gh = 8 - q ∧ q ≤ 8 ∧ i = .int .i64 (q : Int) ∧ x = .slice A L c ∧ L ≤ c ∧ By wr A L g ∧ Kept p wb g L ∧ Below w6.heap.size w6 wr)
      case atStart => exact ⟨0, some ⟨G, 0, none⟩, c4, Z, rfl, by omega, rfl, rfl, hc4, (Sl.below RZ.out S5.out (Nat.le_refl _)), KZ.out, Below.refl _ _⟩
      case round =>
        obtain ⟨q, A, c, g, hgh, hq, rfl, rfl, hc, hr, hkp, hb⟩ := hrel
        have BR := hid hb
        have R := hid hr
        have KG := hid hkp
        clear hr hkp hb
        have q0 : (0 : Int) ≤ q := by omega
        by_cases hq4 : q < n4
        · have j4 : (q : Int) < n4 := by omega
          by_cases hq5 : q < n5
          · have j5 : (q : Int) < n5 := by omega
            by_cases hq8 : q < 8
            · have j8 : (q : Int) < 8 := by omega
              obtain ⟨b4, o4, hA4, hb4, hcell⟩ := (Sl.below H4.out (then_ (then_ (then_ (then_ (then_ S1.out S2.out) S3.out) SZ.out) S5.out) BR.out) (Nat.le_refl _)) (by omega)
              subst hA4
              have c4' := hcell q hq4
              clear hcell hb4
              obtain ⟨b5, o5, hA5, b5lt, hcell⟩ := (Sl.below H5.out (then_ (then_ (then_ (then_ (then_ S1.out S2.out) S3.out) SZ.out) S5.out) BR.out) (Nat.le_refl _)) (by omega)
              subst hA5
              have c5' := hcell q hq5
              clear hcell
              have C5 := hid (fun w' (hb : Below wr.heap.size wr w') => (hb.cell (p := ⟨b5, o5 + q, none⟩) b5lt).trans c5')
              clear c5' b5lt
              obtain ⟨K, hK⟩ : ∃ x, x = wi (g4 q) 1073741824 := ⟨_, rfl⟩
              have bK := wi_bd (g4 q) 1073741824 (by omega)
              rw [← hK] at bK
              have WK := hid (fun w => re_i64 (within_any (g4 q) 1073741824 w (by omega) (by omega)) hK.symm)
              clear hK
              obtain ⟨bK1, bK2⟩ := bK
              go_wp2_with fail
              refine (WK.out _).mono ?_
              rintro e w' ⟨rfl, rfl⟩
              clear c4'
              obtain ⟨r, hr⟩ : ∃ r, K.tmod 4 = r := ⟨_, rfl⟩
              have r4 : 0 ≤ r ∧ r < 4 := by rw [← hr, tmod_pos_ K 4 bK1]; omega
              have hrr : r = 0 ∨ r = 1 ∨ (2 : Int) ≤ r := by omega
              clear r4
              go_upto_block 2 with (fail)
              go_cut [20, 21, 22] from 60 to 150 (fun y e _ wx => ∃ (E : Int) (N d : Nat) (X : Option Addr) (G : Nat → Int), y = .slice X N d ∧ e = .int .i64 E ∧ N ≤ d ∧ By wx X N G ∧ (E = 0 → N = L ∧ Kept p wb G L) ∧ Below wr.heap.size wr wx)
              case first =>
                rcases hrr with rfl | rfl | hr23
                · obtain ⟨E1, hE1⟩ : ∃ E, E = ageE g L := ⟨_, rfl⟩
                  obtain ⟨N1, hN1⟩ : ∃ N, N = if E1 = 0 then L else 0 := ⟨_, rfl⟩
                  obtain ⟨G1, hG1⟩ : ∃ G, G = ageF g := ⟨_, rfl⟩
                  have T := hid (age_q g L E1 N1 G1 hE1 hN1 hG1 KG.out.1 LN A c hc)
                  have HN1 := hid hN1
                  have HG1 := hid hG1
                  have HE1 := hid hE1
                  clear hN1 hG1 hE1
                  go_wp2_with fail
                  refine (T.out wr (Sl.below R.out (Below.refl _ _) (Nat.le_refl _))).mono ?_
                  rintro e v1 ⟨X1, d1, rfl, hO, hd1, hb⟩
                  have S6 := hid hb
                  clear hb
                  have Y1 := hid (hO.sl1)
                  clear hO T
                  go_wp2_with fail
                  go_meet
                  have hN1 := HN1.out
                  have hG1 := HG1.out
                  exact ⟨E1, N1, d1, X1, G1, rfl, rfl, hd1, (Sl.below Y1.out (Below.refl _ _) (Nat.le_refl _)), fun e => ⟨by rw [hN1, if_pos e], by rw [hG1]; exact kept_age KG.out (by rw [← HE1.out]; exact e)⟩, S6.out⟩
                · obtain ⟨s, hs⟩ : ∃ s, (((IntKind.i64.wrap (K.tdiv 4)).tmod 2) == 0) = s := ⟨_, rfl⟩
                  obtain ⟨u3, hu3⟩ : ∃ u, IntKind.i64.wrap ((g5 q).tdiv 3) = u := ⟨_, rfl⟩
                  obtain ⟨ad, had⟩ : ∃ x, x = wi (g5 q) 4294967296 := ⟨_, rfl⟩
                  have bad := wi_bd (g5 q) 4294967296 (by omega)
                  rw [← had] at bad
                  have Wad := hid (fun w => re_i64 (within_any (g5 q) 4294967296 w (by omega) (by omega)) had.symm)
                  clear had
                  obtain ⟨bad1, bad2⟩ := bad
                  obtain ⟨po, hpo⟩ : ∃ x, x = wi u3 65536 := ⟨_, rfl⟩
                  have bpo := wi_bd u3 65536 (by omega)
                  rw [← hpo] at bpo
                  have Wpo := hid (fun w => re_i64 (within_any u3 65536 w (by omega) (by omega)) hpo.symm)
                  clear hpo
                  obtain ⟨bpo1, bpo2⟩ := bpo
                  obtain ⟨E1, hE1⟩ : ∃ E, E = natE g L ad po := ⟨_, rfl⟩
                  obtain ⟨N1, hN1⟩ : ∃ N, N = if E1 = 0 then L else 0 := ⟨_, rfl⟩
                  obtain ⟨G1, hG1⟩ : ∃ G, G = natF g L s ad po := ⟨_, rfl⟩
                  have T := hid (nat_q g L s ad po E1 N1 G1 hE1 hN1 hG1 KG.out.1 LN A c hc)
                  have HN1 := hid hN1
                  have HG1 := hid hG1
                  have HE1 := hid hE1
                  clear hN1 hG1 hE1
                  go_upto_region 21 with (fail)
                  have c5' := C5.out _ (Below.refl _ _)
                  refine wp_region_held_drew (S := fun w' => w'.cell? ⟨b5, o5 + q, none⟩ = some (.int .i64 (g5 q))) (by kernel_rfl) c5' (fun hHeld => ?_)
                  refine tk 0 (v := ?_) rfl (by kernel_rfl) (by kernel_rfl) (by kernel_rfl) (fun _ _ _ h => h) rfl ?_ hHeld ?_; rotate_left; (focus (intro w hSw; (try dsimp only at hSw);  go_simp; (try with_reducible rfl))); (try simp only [Act.put, List.setIfInBounds_toArray, List.set_cons_zero, List.set_cons_succ])
                  refine tk 1 (v := ?_) rfl (by kernel_rfl) (by kernel_rfl) (by kernel_rfl) (fun _ _ _ h => h) rfl ?_ hHeld ?_; rotate_left; (focus (intro w hSw; (try dsimp only at hSw);  go_simp; (try with_reducible rfl))); (try simp only [Act.put, List.setIfInBounds_toArray, List.set_cons_zero, List.set_cons_succ])
                  refine tk 2 (v := ?_) rfl (by kernel_rfl) (by kernel_rfl) (by kernel_rfl) (fun _ _ _ h => h) rfl ?_ hHeld ?_; rotate_left; (focus (intro w hSw; (try dsimp only at hSw);  go_simp; (try with_reducible rfl))); (try simp only [Act.put, List.setIfInBounds_toArray, List.set_cons_zero, List.set_cons_succ])
                  refine tk 3 (v := ?_) rfl (by kernel_rfl) (by kernel_rfl) (by kernel_rfl) (fun _ _ _ h => h) rfl ?_ hHeld ?_; rotate_left; (focus (intro w hSw; (try dsimp only at hSw);  go_simp; (try with_reducible rfl))); (try simp only [Act.put, List.setIfInBounds_toArray, List.set_cons_zero, List.set_cons_succ])
                  refine tk 4 (v := ?_) rfl (by kernel_rfl) (by kernel_rfl) (by kernel_rfl) (fun _ _ _ h => h) rfl ?_ hHeld ?_; rotate_left; (focus (intro w hSw; (try dsimp only at hSw);  go_simp; (try with_reducible rfl))); (try simp only [Act.put, List.setIfInBounds_toArray, List.set_cons_zero, List.set_cons_succ])
                  refine tk 5 (v := ?_) rfl (by kernel_rfl) (by kernel_rfl) (by kernel_rfl) (fun _ _ _ h => h) rfl ?_ hHeld ?_; rotate_left; (focus (intro w hSw; (try dsimp only at hSw);  go_simp; (try with_reducible rfl))); (try simp only [Act.put, List.setIfInBounds_toArray, List.set_cons_zero, List.set_cons_succ])
                  refine tk 6 (v := ?_) rfl (by kernel_rfl) (by kernel_rfl) (by kernel_rfl) (fun _ _ _ h => h) rfl ?_ hHeld ?_; rotate_left; (focus (intro w hSw; (try dsimp only at hSw);  go_simp; (try with_reducible rfl))); (try simp only [Act.put, List.setIfInBounds_toArray, List.set_cons_zero, List.set_cons_succ])
                  refine tk 7 (v := ?_) rfl (by kernel_rfl) (by kernel_rfl) (by kernel_rfl) (fun _ _ _ h => h) rfl ?_ hHeld ?_; rotate_left; (focus (intro w hSw; (try dsimp only at hSw);  go_simp; (try with_reducible rfl))); (try simp only [Act.put, List.setIfInBounds_toArray, List.set_cons_zero, List.set_cons_succ])
                  refine tk 8 (v := ?_) rfl (by kernel_rfl) (by kernel_rfl) (by kernel_rfl) (fun _ _ _ h => h) rfl ?_ hHeld ?_; rotate_left; (focus (intro w hSw; (try dsimp only at hSw);  go_simp; (try with_reducible rfl))); (try simp only [Act.put, List.setIfInBounds_toArray, List.set_cons_zero, List.set_cons_succ])
                  refine tk 10 (v := ?_) rfl (by kernel_rfl) (by kernel_rfl) (by kernel_rfl) (fun _ _ _ h => h) rfl ?_ hHeld ?_; rotate_left; (focus (intro w hSw; (try dsimp only at hSw);  go_simp; (try with_reducible rfl))); (try simp only [Act.put, List.setIfInBounds_toArray, List.set_cons_zero, List.set_cons_succ])
                  refine tk 11 (v := ?_) rfl (by kernel_rfl) (by kernel_rfl) (by kernel_rfl) (fun _ _ _ h => h) rfl ?_ hHeld ?_; rotate_left; (focus (intro w hSw; (try dsimp only at hSw);  go_simp; (try with_reducible rfl))); (try simp only [Act.put, List.setIfInBounds_toArray, List.set_cons_zero, List.set_cons_succ])
                  refine tk 12 (v := ?_) rfl (by kernel_rfl) (by kernel_rfl) (by kernel_rfl) (fun _ _ _ h => h) rfl ?_ hHeld ?_; rotate_left; (focus (intro w hSw; (try dsimp only at hSw);  go_simp; (try with_reducible rfl))); (try simp only [Act.put, List.setIfInBounds_toArray, List.set_cons_zero, List.set_cons_succ])
                  refine tk 13 (v := ?_) rfl (by kernel_rfl) (by kernel_rfl) (by kernel_rfl) (fun _ _ _ h => h) rfl ?_ hHeld ?_; rotate_left; (focus (intro w hSw; (try dsimp only at hSw);  go_simp; (try with_reducible rfl))); (try simp only [Act.put, List.setIfInBounds_toArray, List.set_cons_zero, List.set_cons_succ])
                  refine tk 14 (v := ?_) rfl (by kernel_rfl) (by kernel_rfl) (by kernel_rfl) (fun _ _ _ h => h) rfl ?_ hHeld ?_; rotate_left; (focus (intro w hSw; (try dsimp only at hSw);  go_simp; (try with_reducible rfl))); (try simp only [Act.put, List.setIfInBounds_toArray, List.set_cons_zero, List.set_cons_succ])
                  refine only 9 rfl (by kernel_rfl) rfl (fun K hK => ?_)
                  go_simp
                  refine (Wad.out _).mono ?_
                  rintro e w' ⟨rfl, rfl⟩
                  try go_wp2_with fail
                  refine hK.out _ _ hHeld (fun _ => ?_)
                  clear hK
                  (try simp only [Act.put, List.setIfInBounds_toArray, List.set_cons_zero, List.set_cons_succ])
                  refine only 15 rfl (by kernel_rfl) rfl (fun K hK => ?_)
                  go_simp
                  refine (Wpo.out _).mono ?_
                  rintro e w' ⟨rfl, rfl⟩
                  try go_wp2_with fail
                  refine hK.out _ _ hHeld (fun _ => ?_)
                  clear hK
                  (try simp only [Act.put, List.setIfInBounds_toArray, List.set_cons_zero, List.set_cons_succ])
                  have S6 := hid (Below.drew (Below.refl wr.heap.size wr))
                  clear hHeld c5'
                  generalize wr.drew = v0 at *
                  refine only 16 rfl (by kernel_rfl) rfl (fun K hK => ?_)
                  go_simp
                  refine (T.out v0 (Sl.below R.out S6.out (Nat.le_refl _))).mono ?_
                  rintro e v1 ⟨X1, d1, rfl, hO, hd1, hb⟩
                  have S7 := hid hb
                  clear hb
                  have Y1 := hid (hO.sl1)
                  clear hO T
                  try go_wp2_with fail
                  refine hK.out _ _ (C5.out _ (then_ S6.out S7.out)) (fun hHeld => ?_)
                  clear hK
                  (try simp only [Act.put, List.setIfInBounds_toArray, List.set_cons_zero, List.set_cons_succ])
                  refine tk 17 (v := ?_) rfl (by kernel_rfl) (by kernel_rfl) (by kernel_rfl) (fun _ _ _ h => h) rfl ?_ hHeld ?_; rotate_left; (focus (intro w hSw; (try dsimp only at hSw);  go_simp; (try with_reducible rfl))); (try simp only [Act.put, List.setIfInBounds_toArray, List.set_cons_zero, List.set_cons_succ])
                  refine tk 18 (v := ?_) rfl (by kernel_rfl) (by kernel_rfl) (by kernel_rfl) (fun _ _ _ h => h) rfl ?_ hHeld ?_; rotate_left; (focus (intro w hSw; (try dsimp only at hSw);  go_simp; (try with_reducible rfl))); (try simp only [Act.put, List.setIfInBounds_toArray, List.set_cons_zero, List.set_cons_succ])
                  refine tk 19 (v := ?_) rfl (by kernel_rfl) (by kernel_rfl) (by kernel_rfl) (fun _ _ _ h => h) rfl ?_ hHeld ?_; rotate_left; (focus (intro w hSw; (try dsimp only at hSw);  go_simp; (try with_reducible rfl))); (try simp only [Act.put, List.setIfInBounds_toArray, List.set_cons_zero, List.set_cons_succ])
                  refine tk 20 (v := ?_) rfl (by kernel_rfl) (by kernel_rfl) (by kernel_rfl) (fun _ _ _ h => h) rfl ?_ hHeld ?_; rotate_left; (focus (intro w hSw; (try dsimp only at hSw);  go_simp; (try with_reducible rfl))); (try simp only [Act.put, List.setIfInBounds_toArray, List.set_cons_zero, List.set_cons_succ])
                  refine tk 21 (v := ?_) rfl (by kernel_rfl) (by kernel_rfl) (by kernel_rfl) (fun _ _ _ h => h) rfl ?_ hHeld ?_; rotate_left; (focus (intro w hSw; (try dsimp only at hSw);  go_simp; (try with_reducible rfl))); (try simp only [Act.put, List.setIfInBounds_toArray, List.set_cons_zero, List.set_cons_succ])
                  refine wpAnyH_done (by kernel_rfl) ?_ _
                  clear hHeld
                  go_wp2_with fail
                  go_meet
                  have hN1 := HN1.out
                  have hG1 := HG1.out
                  exact ⟨E1, N1, d1, X1, G1, rfl, rfl, hd1, (Sl.below Y1.out (Below.refl _ _) (Nat.le_refl _)), fun e => ⟨by rw [hN1, if_pos e], by rw [hG1]; exact kept_nat KG.out (by rw [← HE1.out]; exact e)⟩, (then_ S6.out S7.out)⟩
                · have d0 : (r == 0) = false := by simp; omega
                  have d1 : (r == 1) = false := by simp; omega
                  clear hr23
                  have td4 : K.tdiv 4 = K / 4 := tdiv_pos_ K 4 bK1
                  have w4' : RowKit.wrap64 (K / 4) = K / 4 := IntWalk.wrap64_in _ (by omega)
                  obtain ⟨j, hj⟩ : ∃ j, (K / 4).tmod 3 = j := ⟨_, rfl⟩
                  have hj3 : 0 ≤ j ∧ j < 3 := by rw [← hj, tmod_pos_ (K / 4) 3 (by omega)]; omega
                  obtain ⟨hj1, hj2⟩ := hj3
                  go_upto_region 17 with (fail)
                  obtain ⟨m, hm⟩ : ∃ v : Int, v = [1, 2, 4].getD j.toNat 0 := ⟨_, rfl⟩
                  have hq' : ([.int .i64 1, .int .i64 2, .int .i64 4] : List Value)[j.toNat]'(by simp only [List.length_cons, List.length_nil]; omega) = .int .i64 m := by
                    rw [hm]
                    have h5 : j = 0 ∨ j = 1 ∨ j = 2 := by omega
                    rcases h5 with rfl | rfl | rfl <;> rfl
                  simp only [hq']
                  clear hq'
                  have hm0 : 0 < m := by
                    have h5 : j = 0 ∨ j = 1 ∨ j = 2 := by omega
                    rw [hm]
                    rcases h5 with rfl | rfl | rfl <;> decide
                  clear hm
                  have S6 := hid ((Below.refl wr.heap.size wr).alloc (Nat.le_refl _) (.cells #[.int .i64 1, .int .i64 2, .int .i64 4] 3))
                  generalize (wr.alloc (.cells #[.int .i64 1, .int .i64 2, .int .i64 4] 3)) = v0 at *
                  clear td4 w4' hj hj1 hj2
                  have td12 : K.tdiv 12 = K / 12 := tdiv_pos_ K 12 bK1
                  have w12' : IntKind.i64.wrap (K / 12) = K / 12 := IntWalk.i64_in _ (by omega)
                  have q20 : IntKind.i64.wrap ((L : Int) - 20) = (L : Int) - 20 := IntWalk.i64_in _ (by omega)
                  have n20 : ((L : Int) - 20 == 0) = false := by simp; omega
                  have n20b : ¬ ((L : Int) - 20 = 0) := by omega
                  have n20c : ¬ ((L : Int) = 20) := by omega
                  obtain ⟨i, hi⟩ : ∃ i, (K / 12).tmod ((L : Int) - 20) = i := ⟨_, rfl⟩
                  have hib : 0 ≤ i ∧ i < (L : Int) - 20 := by rw [← hi, tmod_pos_ (K / 12) ((L : Int) - 20) (by omega)]; exact ⟨Int.emod_nonneg _ (by omega), Int.emod_lt_of_pos _ (by omega)⟩
                  obtain ⟨hi1, hi2⟩ := hib
                  have q24 : IntKind.i64.wrap (24 + i) = 24 + i := IntWalk.i64_in _ (by omega)
                  obtain ⟨x, hx⟩ : ∃ x, x = wi (g5 q) 256 := ⟨_, rfl⟩
                  have bx := wi_bd (g5 q) 256 (by omega)
                  rw [← hx] at bx
                  have Wx := hid (fun w => re_i64 (within_any (g5 q) 256 w (by omega) (by omega)) hx.symm)
                  clear hx
                  obtain ⟨bx1, bx2⟩ := bx
                  obtain ⟨E1, hE1⟩ : ∃ E, E = wrE g L (24 + i) m x := ⟨_, rfl⟩
                  obtain ⟨N1, hN1⟩ : ∃ N, N = if E1 = 0 then L else 0 := ⟨_, rfl⟩
                  obtain ⟨G1, hG1⟩ : ∃ G, G = wrF g L (24 + i).toNat m.toNat x := ⟨_, rfl⟩
                  have T := hid (write_q g L (24 + i) m x E1 N1 G1 hE1 hN1 hG1 KG.out.1 LN (by omega) A c hc)
                  have HN1 := hid hN1
                  have HG1 := hid hG1
                  have HE1 := hid hE1
                  clear hN1 hG1 hE1
                  have c5' := C5.out _ S6.out
                  refine wp_region_held_drew (S := fun w' => w'.cell? ⟨b5, o5 + q, none⟩ = some (.int .i64 (g5 q))) (by kernel_rfl) c5' (fun hHeld => ?_)
                  refine tk 0 (v := ?_) rfl (by kernel_rfl) (by kernel_rfl) (by kernel_rfl) (fun _ _ _ h => h) rfl ?_ hHeld ?_; rotate_left; (focus (intro w hSw; (try dsimp only at hSw);  go_simp; (try with_reducible rfl))); (try simp only [Act.put, List.setIfInBounds_toArray, List.set_cons_zero, List.set_cons_succ])
                  refine tk 1 (v := ?_) rfl (by kernel_rfl) (by kernel_rfl) (by kernel_rfl) (fun _ _ _ h => h) rfl ?_ hHeld ?_; rotate_left; (focus (intro w hSw; (try dsimp only at hSw);  go_simp; (try with_reducible rfl))); (try simp only [Act.put, List.setIfInBounds_toArray, List.set_cons_zero, List.set_cons_succ])
                  refine tk 2 (v := ?_) rfl (by kernel_rfl) (by kernel_rfl) (by kernel_rfl) (fun _ _ _ h => h) rfl ?_ hHeld ?_; rotate_left; (focus (intro w hSw; (try dsimp only at hSw);  go_simp; (try with_reducible rfl))); (try simp only [Act.put, List.setIfInBounds_toArray, List.set_cons_zero, List.set_cons_succ])
                  refine tk 3 (v := ?_) rfl (by kernel_rfl) (by kernel_rfl) (by kernel_rfl) (fun _ _ _ h => h) rfl ?_ hHeld ?_; rotate_left; (focus (intro w hSw; (try dsimp only at hSw);  go_simp; (try with_reducible rfl))); (try simp only [Act.put, List.setIfInBounds_toArray, List.set_cons_zero, List.set_cons_succ])
                  refine tk 4 (v := ?_) rfl (by kernel_rfl) (by kernel_rfl) (by kernel_rfl) (fun _ _ _ h => h) rfl ?_ hHeld ?_; rotate_left; (focus (intro w hSw; (try dsimp only at hSw);  go_simp; (try with_reducible rfl))); (try simp only [Act.put, List.setIfInBounds_toArray, List.set_cons_zero, List.set_cons_succ])
                  refine tk 5 (v := ?_) rfl (by kernel_rfl) (by kernel_rfl) (by kernel_rfl) (fun _ _ _ h => h) rfl ?_ hHeld ?_; rotate_left; (focus (intro w hSw; (try dsimp only at hSw);  go_simp; (try with_reducible rfl))); (try simp only [Act.put, List.setIfInBounds_toArray, List.set_cons_zero, List.set_cons_succ])
                  refine tk 6 (v := ?_) rfl (by kernel_rfl) (by kernel_rfl) (by kernel_rfl) (fun _ _ _ h => h) rfl ?_ hHeld ?_; rotate_left; (focus (intro w hSw; (try dsimp only at hSw);  go_simp; (try with_reducible rfl))); (try simp only [Act.put, List.setIfInBounds_toArray, List.set_cons_zero, List.set_cons_succ])
                  refine tk 7 (v := ?_) rfl (by kernel_rfl) (by kernel_rfl) (by kernel_rfl) (fun _ _ _ h => h) rfl ?_ hHeld ?_; rotate_left; (focus (intro w hSw; (try dsimp only at hSw);  go_simp; (try with_reducible rfl))); (try simp only [Act.put, List.setIfInBounds_toArray, List.set_cons_zero, List.set_cons_succ])
                  refine tk 8 (v := ?_) rfl (by kernel_rfl) (by kernel_rfl) (by kernel_rfl) (fun _ _ _ h => h) rfl ?_ hHeld ?_; rotate_left; (focus (intro w hSw; (try dsimp only at hSw);  go_simp; (try with_reducible rfl))); (try simp only [Act.put, List.setIfInBounds_toArray, List.set_cons_zero, List.set_cons_succ])
                  refine tk 9 (v := ?_) rfl (by kernel_rfl) (by kernel_rfl) (by kernel_rfl) (fun _ _ _ h => h) rfl ?_ hHeld ?_; rotate_left; (focus (intro w hSw; (try dsimp only at hSw);  go_simp; (try with_reducible rfl))); (try simp only [Act.put, List.setIfInBounds_toArray, List.set_cons_zero, List.set_cons_succ])
                  refine tk 10 (v := ?_) rfl (by kernel_rfl) (by kernel_rfl) (by kernel_rfl) (fun _ _ _ h => h) rfl ?_ hHeld ?_; rotate_left; (focus (intro w hSw; (try dsimp only at hSw);  go_simp; (try with_reducible rfl))); (try simp only [Act.put, List.setIfInBounds_toArray, List.set_cons_zero, List.set_cons_succ])
                  refine tk 11 (v := ?_) rfl (by kernel_rfl) (by kernel_rfl) (by kernel_rfl) (fun _ _ _ h => h) rfl ?_ hHeld ?_; rotate_left; (focus (intro w hSw; (try dsimp only at hSw);  go_simp; (try with_reducible rfl))); (try simp only [Act.put, List.setIfInBounds_toArray, List.set_cons_zero, List.set_cons_succ])
                  refine tk 12 (v := ?_) rfl (by kernel_rfl) (by kernel_rfl) (by kernel_rfl) (fun _ _ _ h => h) rfl ?_ hHeld ?_; rotate_left; (focus (intro w hSw; (try dsimp only at hSw);  go_simp; (try with_reducible rfl))); (try simp only [Act.put, List.setIfInBounds_toArray, List.set_cons_zero, List.set_cons_succ])
                  refine only 13 rfl (by kernel_rfl) rfl (fun K hK => ?_)
                  go_simp
                  refine (Wx.out _).mono ?_
                  rintro e w' ⟨rfl, rfl⟩
                  try go_wp2_with fail
                  refine hK.out _ _ hHeld (fun _ => ?_)
                  clear hK
                  (try simp only [Act.put, List.setIfInBounds_toArray, List.set_cons_zero, List.set_cons_succ])
                  have S7 := hid (Below.drew (Below.refl v0.heap.size v0))
                  clear hHeld c5'
                  generalize v0.drew = v1 at *
                  refine only 14 rfl (by kernel_rfl) rfl (fun K hK => ?_)
                  go_simp
                  refine (T.out v1 (Sl.below R.out (then_ S6.out S7.out) (Nat.le_refl _))).mono ?_
                  rintro e v2 ⟨X1, d2, rfl, hO, hd2, hb⟩
                  have S8 := hid hb
                  clear hb
                  have Y1 := hid (hO.sl1)
                  clear hO T
                  try go_wp2_with fail
                  refine hK.out _ _ (C5.out _ (then_ (then_ S6.out S7.out) S8.out)) (fun hHeld => ?_)
                  clear hK
                  (try simp only [Act.put, List.setIfInBounds_toArray, List.set_cons_zero, List.set_cons_succ])
                  refine tk 15 (v := ?_) rfl (by kernel_rfl) (by kernel_rfl) (by kernel_rfl) (fun _ _ _ h => h) rfl ?_ hHeld ?_; rotate_left; (focus (intro w hSw; (try dsimp only at hSw);  go_simp; (try with_reducible rfl))); (try simp only [Act.put, List.setIfInBounds_toArray, List.set_cons_zero, List.set_cons_succ])
                  refine tk 16 (v := ?_) rfl (by kernel_rfl) (by kernel_rfl) (by kernel_rfl) (fun _ _ _ h => h) rfl ?_ hHeld ?_; rotate_left; (focus (intro w hSw; (try dsimp only at hSw);  go_simp; (try with_reducible rfl))); (try simp only [Act.put, List.setIfInBounds_toArray, List.set_cons_zero, List.set_cons_succ])
                  refine tk 17 (v := ?_) rfl (by kernel_rfl) (by kernel_rfl) (by kernel_rfl) (fun _ _ _ h => h) rfl ?_ hHeld ?_; rotate_left; (focus (intro w hSw; (try dsimp only at hSw);  go_simp; (try with_reducible rfl))); (try simp only [Act.put, List.setIfInBounds_toArray, List.set_cons_zero, List.set_cons_succ])
                  refine tk 18 (v := ?_) rfl (by kernel_rfl) (by kernel_rfl) (by kernel_rfl) (fun _ _ _ h => h) rfl ?_ hHeld ?_; rotate_left; (focus (intro w hSw; (try dsimp only at hSw);  go_simp; (try with_reducible rfl))); (try simp only [Act.put, List.setIfInBounds_toArray, List.set_cons_zero, List.set_cons_succ])
                  refine tk 19 (v := ?_) rfl (by kernel_rfl) (by kernel_rfl) (by kernel_rfl) (fun _ _ _ h => h) rfl ?_ hHeld ?_; rotate_left; (focus (intro w hSw; (try dsimp only at hSw);  go_simp; (try with_reducible rfl))); (try simp only [Act.put, List.setIfInBounds_toArray, List.set_cons_zero, List.set_cons_succ])
                  refine wpAnyH_done (by kernel_rfl) ?_ _
                  clear hHeld
                  go_wp2_with fail
                  go_meet
                  have hN1 := HN1.out
                  have hG1 := HG1.out
                  exact ⟨E1, N1, d2, X1, G1, rfl, rfl, hd2, (Sl.below Y1.out (Below.refl _ _) (Nat.le_refl _)), fun e => ⟨by rw [hN1, if_pos e], by rw [hG1]; exact kept_wr KG.out (by omega) hm0 (by rw [← HE1.out]; exact e)⟩, (then_ (then_ S6.out S7.out) S8.out)⟩
              case rest =>
                obtain ⟨E, N, d, X, Y, rfl, rfl, hd, hY, hok, hb⟩ := hcut
                have RY := hid hY
                have OK_ := hid hok
                have SY := hid hb
                clear hY hok hb
                obtain ⟨v5, rfl⟩ : ∃ wo : World, wo = wc := ⟨_, rfl⟩
                by_cases hE : E = 0
                · subst hE
                  have hok := OK_.out rfl
                  obtain ⟨hN, hK⟩ := hok
                  subst hN
                  have KY := hid hK
                  clear hK OK_
                  obtain ⟨p', hp'⟩ : ∃ p', p' = parseR Y N := ⟨_, rfl⟩
                  have PQ := hid (rparse_q p' 0 Y N hp' KY.out.2.1.symm KY.out.1 LN X d hd)
                  clear hp'
                  go_wp2_with fail
                  refine (PQ.out v5 (Sl.below RY.out (Below.refl _ _) (Nat.le_refl _))).mono ?_
                  rintro e v6 ⟨AO2, cO2, AD2, cD2, rfl, hO, hD, hb⟩
                  have S6 := hid hb
                  clear hb
                  clear hO hD PQ
                  go_upto_region 26 with (fail)
                  have C2 := hid (Ce.made (w := v6) (l := [.int .i64 p'.kind, .int .i64 p'.life, .int .i64 p'.piece, .int .i64 p'.src, .int .i64 p'.dst, .int .i64 p'.fp, .int .i64 p'.tp, .int .i64 p'.flags, .int .i64 p'.label, .bool p'.bare, .int .i64 p'.code, .slice AO2 p'.no cO2, .slice AD2 p'.nd cD2]) (T := 26) rfl)
                  simp only [List.toArray] at C2
                  have S7 := hid ((Below.refl v6.heap.size v6).alloc (Nat.le_refl _) (.cells #[.int .i64 p'.kind, .int .i64 p'.life, .int .i64 p'.piece, .int .i64 p'.src, .int .i64 p'.dst, .int .i64 p'.fp, .int .i64 p'.tp, .int .i64 p'.flags, .int .i64 p'.label, .bool p'.bare, .int .i64 p'.code, .slice AO2 p'.no cO2, .slice AD2 p'.nd cD2] 26))
                  generalize (v6.alloc (.cells #[.int .i64 p'.kind, .int .i64 p'.life, .int .i64 p'.piece, .int .i64 p'.src, .int .i64 p'.dst, .int .i64 p'.fp, .int .i64 p'.tp, .int .i64 p'.flags, .int .i64 p'.label, .bool p'.bare, .int .i64 p'.code, .slice AO2 p'.no cO2, .slice AD2 p'.nd cD2] 26)) = v7 at *
                  generalize hP2 : v6.heap.size = P2 at C2 ⊢
                  have HP2 := hid hP2
                  clear hP2
                  clear C2
                  go_wp2_with fail
                  go_roundg (8 - (q + 1))
                  case measure => omega
                  case rel => exact ⟨q + 1, X, d, Y, rfl, by omega, by go_num, rfl, hd, (Sl.below RY.out (then_ S6.out S7.out) (Nat.le_refl _)), KY.out, (then_ (then_ (then_ BR.out SY.out) S6.out) S7.out)⟩
                · have nE : (E == 0) = false := by simpa using hE
                  clear OK_ hE
                  go_wp2_with fail
                  go_roundg (8 - (q + 1))
                  case measure => omega
                  case rel => exact ⟨q + 1, A, c, g, rfl, by omega, by go_num, rfl, hc, (Sl.below R.out SY.out (Nat.le_refl _)), KG.out, (then_ BR.out SY.out)⟩
            · have j8 : ¬ (q : Int) < 8 := by omega
              obtain ⟨p', hp'⟩ : ∃ p', p' = parseR g L := ⟨_, rfl⟩
              have PK : Hid (p'.kind = p.kind) := hid (by rw [hp', (parse_life KG.out.2.1).2]; exact KG.out.2.2.2.1)
              have PB : Hid (p'.bare = p.bare) := hid (by rw [hp', parseR_bare KG.out.2.1]; exact KG.out.2.2.2.2)
              have PQ := hid (parse_q p' 0 g L hp' KG.out.2.1.symm KG.out.1 LN A c hc)
              clear hp'
              go_wp2_with fail
              refine (PQ.out wr (Sl.below R.out (Below.refl _ _) (Nat.le_refl _))).mono ?_
              rintro e v1 ⟨AO2, cO2, AD2, cD2, rfl, hO, hD, hb⟩
              have S6 := hid hb
              clear hb
              clear hO hD PQ
              go_upto_region 30 with (fail)
              have C2 := hid (Ce.made (w := v1) (l := [.int .i64 p'.kind, .int .i64 p'.life, .int .i64 p'.piece, .int .i64 p'.src, .int .i64 p'.dst, .int .i64 p'.fp, .int .i64 p'.tp, .int .i64 p'.flags, .int .i64 p'.label, .bool p'.bare, .int .i64 p'.code, .slice AO2 p'.no cO2, .slice AD2 p'.nd cD2]) (T := 26) rfl)
              simp only [List.toArray] at C2
              have S7 := hid ((Below.refl v1.heap.size v1).alloc (Nat.le_refl _) (.cells #[.int .i64 p'.kind, .int .i64 p'.life, .int .i64 p'.piece, .int .i64 p'.src, .int .i64 p'.dst, .int .i64 p'.fp, .int .i64 p'.tp, .int .i64 p'.flags, .int .i64 p'.label, .bool p'.bare, .int .i64 p'.code, .slice AO2 p'.no cO2, .slice AD2 p'.nd cD2] 26))
              generalize (v1.alloc (.cells #[.int .i64 p'.kind, .int .i64 p'.life, .int .i64 p'.piece, .int .i64 p'.src, .int .i64 p'.dst, .int .i64 p'.fp, .int .i64 p'.tp, .int .i64 p'.flags, .int .i64 p'.label, .bool p'.bare, .int .i64 p'.code, .slice AO2 p'.no cO2, .slice AD2 p'.nd cD2] 26)) = v2 at *
              generalize hP2 : v1.heap.size = P2 at C2 ⊢
              have HP2 := hid hP2
              clear hP2
              go_wp2_with fail
              refine (re_bool (whole_any A L c g v2 (Sl.below R.out (then_ S6.out S7.out) (Nat.le_refl _)) KG.out.1 hc LN) KG.out.2.2.1).mono ?_
              rintro e v3 ⟨rfl, hb⟩
              have S8 := hid hb
              clear hb
              have yC := (Ce.below C1.out (then_ (then_ (then_ (then_ (then_ SZ.out S5.out) BR.out) S6.out) S7.out) S8.out))
              have y0 := yC.2.1 0 _ rfl
              have y9 := yC.2.1 9 _ rfl
              clear yC
              have zC := (Ce.below C2.out S8.out)
              have z0 := zC.2.1 0 _ rfl
              have z9 := zC.2.1 9 _ rfl
              clear zC
              rw [PK.out] at z0
              rw [PB.out] at z9
              go_wp2_with fail
              go_ret
              exact ⟨rfl, (then_ (then_ (then_ (then_ (then_ (then_ (then_ (then_ S1.out S2.out) S3.out) SZ.out) S5.out) BR.out) S6.out) S7.out) S8.out)⟩
          · have j5 : ¬ (q : Int) < n5 := by omega
            obtain ⟨p', hp'⟩ : ∃ p', p' = parseR g L := ⟨_, rfl⟩
            have PK : Hid (p'.kind = p.kind) := hid (by rw [hp', (parse_life KG.out.2.1).2]; exact KG.out.2.2.2.1)
            have PB : Hid (p'.bare = p.bare) := hid (by rw [hp', parseR_bare KG.out.2.1]; exact KG.out.2.2.2.2)
            have PQ := hid (parse_q p' 0 g L hp' KG.out.2.1.symm KG.out.1 LN A c hc)
            clear hp'
            go_wp2_with fail
            refine (PQ.out wr (Sl.below R.out (Below.refl _ _) (Nat.le_refl _))).mono ?_
            rintro e v1 ⟨AO2, cO2, AD2, cD2, rfl, hO, hD, hb⟩
            have S6 := hid hb
            clear hb
            clear hO hD PQ
            go_upto_region 30 with (fail)
            have C2 := hid (Ce.made (w := v1) (l := [.int .i64 p'.kind, .int .i64 p'.life, .int .i64 p'.piece, .int .i64 p'.src, .int .i64 p'.dst, .int .i64 p'.fp, .int .i64 p'.tp, .int .i64 p'.flags, .int .i64 p'.label, .bool p'.bare, .int .i64 p'.code, .slice AO2 p'.no cO2, .slice AD2 p'.nd cD2]) (T := 26) rfl)
            simp only [List.toArray] at C2
            have S7 := hid ((Below.refl v1.heap.size v1).alloc (Nat.le_refl _) (.cells #[.int .i64 p'.kind, .int .i64 p'.life, .int .i64 p'.piece, .int .i64 p'.src, .int .i64 p'.dst, .int .i64 p'.fp, .int .i64 p'.tp, .int .i64 p'.flags, .int .i64 p'.label, .bool p'.bare, .int .i64 p'.code, .slice AO2 p'.no cO2, .slice AD2 p'.nd cD2] 26))
            generalize (v1.alloc (.cells #[.int .i64 p'.kind, .int .i64 p'.life, .int .i64 p'.piece, .int .i64 p'.src, .int .i64 p'.dst, .int .i64 p'.fp, .int .i64 p'.tp, .int .i64 p'.flags, .int .i64 p'.label, .bool p'.bare, .int .i64 p'.code, .slice AO2 p'.no cO2, .slice AD2 p'.nd cD2] 26)) = v2 at *
            generalize hP2 : v1.heap.size = P2 at C2 ⊢
            have HP2 := hid hP2
            clear hP2
            go_wp2_with fail
            refine (re_bool (whole_any A L c g v2 (Sl.below R.out (then_ S6.out S7.out) (Nat.le_refl _)) KG.out.1 hc LN) KG.out.2.2.1).mono ?_
            rintro e v3 ⟨rfl, hb⟩
            have S8 := hid hb
            clear hb
            have yC := (Ce.below C1.out (then_ (then_ (then_ (then_ (then_ SZ.out S5.out) BR.out) S6.out) S7.out) S8.out))
            have y0 := yC.2.1 0 _ rfl
            have y9 := yC.2.1 9 _ rfl
            clear yC
            have zC := (Ce.below C2.out S8.out)
            have z0 := zC.2.1 0 _ rfl
            have z9 := zC.2.1 9 _ rfl
            clear zC
            rw [PK.out] at z0
            rw [PB.out] at z9
            go_wp2_with fail
            go_ret
            exact ⟨rfl, (then_ (then_ (then_ (then_ (then_ (then_ (then_ (then_ S1.out S2.out) S3.out) SZ.out) S5.out) BR.out) S6.out) S7.out) S8.out)⟩
        · have j4 : ¬ (q : Int) < n4 := by omega
          obtain ⟨p', hp'⟩ : ∃ p', p' = parseR g L := ⟨_, rfl⟩
          have PK : Hid (p'.kind = p.kind) := hid (by rw [hp', (parse_life KG.out.2.1).2]; exact KG.out.2.2.2.1)
          have PB : Hid (p'.bare = p.bare) := hid (by rw [hp', parseR_bare KG.out.2.1]; exact KG.out.2.2.2.2)
          have PQ := hid (parse_q p' 0 g L hp' KG.out.2.1.symm KG.out.1 LN A c hc)
          clear hp'
          go_wp2_with fail
          refine (PQ.out wr (Sl.below R.out (Below.refl _ _) (Nat.le_refl _))).mono ?_
          rintro e v1 ⟨AO2, cO2, AD2, cD2, rfl, hO, hD, hb⟩
          have S6 := hid hb
          clear hb
          clear hO hD PQ
          go_upto_region 30 with (fail)
          have C2 := hid (Ce.made (w := v1) (l := [.int .i64 p'.kind, .int .i64 p'.life, .int .i64 p'.piece, .int .i64 p'.src, .int .i64 p'.dst, .int .i64 p'.fp, .int .i64 p'.tp, .int .i64 p'.flags, .int .i64 p'.label, .bool p'.bare, .int .i64 p'.code, .slice AO2 p'.no cO2, .slice AD2 p'.nd cD2]) (T := 26) rfl)
          simp only [List.toArray] at C2
          have S7 := hid ((Below.refl v1.heap.size v1).alloc (Nat.le_refl _) (.cells #[.int .i64 p'.kind, .int .i64 p'.life, .int .i64 p'.piece, .int .i64 p'.src, .int .i64 p'.dst, .int .i64 p'.fp, .int .i64 p'.tp, .int .i64 p'.flags, .int .i64 p'.label, .bool p'.bare, .int .i64 p'.code, .slice AO2 p'.no cO2, .slice AD2 p'.nd cD2] 26))
          generalize (v1.alloc (.cells #[.int .i64 p'.kind, .int .i64 p'.life, .int .i64 p'.piece, .int .i64 p'.src, .int .i64 p'.dst, .int .i64 p'.fp, .int .i64 p'.tp, .int .i64 p'.flags, .int .i64 p'.label, .bool p'.bare, .int .i64 p'.code, .slice AO2 p'.no cO2, .slice AD2 p'.nd cD2] 26)) = v2 at *
          generalize hP2 : v1.heap.size = P2 at C2 ⊢
          have HP2 := hid hP2
          clear hP2
          go_wp2_with fail
          refine (re_bool (whole_any A L c g v2 (Sl.below R.out (then_ S6.out S7.out) (Nat.le_refl _)) KG.out.1 hc LN) KG.out.2.2.1).mono ?_
          rintro e v3 ⟨rfl, hb⟩
          have S8 := hid hb
          clear hb
          have yC := (Ce.below C1.out (then_ (then_ (then_ (then_ (then_ SZ.out S5.out) BR.out) S6.out) S7.out) S8.out))
          have y0 := yC.2.1 0 _ rfl
          have y9 := yC.2.1 9 _ rfl
          clear yC
          have zC := (Ce.below C2.out S8.out)
          have z0 := zC.2.1 0 _ rfl
          have z9 := zC.2.1 9 _ rfl
          clear zC
          rw [PK.out] at z0
          rw [PB.out] at z9
          go_wp2_with fail
          go_ret
          exact ⟨rfl, (then_ (then_ (then_ (then_ (then_ (then_ (then_ (then_ S1.out S2.out) S3.out) SZ.out) S5.out) BR.out) S6.out) S7.out) S8.out)⟩

set_option maxRecDepth 100000 in
theorem lifted (os : Os) (started : os.Started) (H : Type) (enc : TypeId × Value → H) :
    ReturnsInHanded {} Try.checked os 8 .any (Rows.wireKeepsSpec.pre6 enc Try.prog Try.f8 [] false) (Rows.wireKeepsSpec.post enc Try.prog Try.f8 false true false false) :=
  law_step (s := Rows.wireKeepsSpec) started (by kernel_rfl) Try.func8
    (ChangeSpec.witness6 (s := Rows.wireKeepsSpec) (enc := enc) (C := Try.checked) false ⟨#[], #[.int .i64 0, .slice none 0 0, .slice none 0 0, .bool false, .slice none 0 0, .slice none 0 0], []⟩ 8 (by kernel_rfl) (by kernel_rfl) (by kernel_rfl) (by kernel_rfl))
    rfl (by rw [Try.params8]; decide +kernel) rfl Try.underlying4
    (fun ds h => by
      rw [Try.params8] at h
      match ds, h with
      | [_, _, _, _, _, _], _ => rfl)
    (fun W base args ds ps hval hA hsz => by
      rw [Try.params8] at hA hval hsz
      obtain ⟨v0, vs0, d0, ds0, p0, q0, hargs, rfl, rfl, h0, r0⟩ := trodAll_cons hA
      obtain ⟨v1, vs1, d1, ds1, p1, q1, rfl, rfl, rfl, h1, r1⟩ := trodAll_cons r0
      obtain ⟨v2, vs2, d2, ds2, p2, q2, rfl, rfl, rfl, h2, r2⟩ := trodAll_cons r1
      obtain ⟨v3, vs3, d3, ds3, p3, q3, rfl, rfl, rfl, h3, r3⟩ := trodAll_cons r2
      obtain ⟨v4, vs4, d4, ds4, p4, q4, rfl, rfl, rfl, h4, r4⟩ := trodAll_cons r3
      obtain ⟨v5, vs5, d5, ds5, p5, q5, rfl, rfl, rfl, h5, r5⟩ := trodAll_cons r4
      obtain ⟨rfl, rfl, rfl⟩ := trodAll_nil r5
      obtain rfl : args = #[v0, v1, v2, v3, v4, v5] := by cases args; simp_all
      obtain ⟨a0, rfl, rfl, rfl, w0⟩ := open_int Try.underlying3 (hval 0 3 v0 rfl rfl) h0
      obtain ⟨A1, n1, c1, g1, rfl, hn1, hc1, hs1, hw1, hl1, hd1⟩ := open_row Try.underlying22 Try.underlying3 (by kernel_rfl) (hval 1 22 v1 rfl rfl) h1
      have re1 : c1 * 8 ≤ 140737488351232 := by
        rcases hd1 with ⟨_, h0⟩ | ⟨xs, ys, h1, h2⟩
        · omega
        · have := sized_slice hsz (j := 1) (t := 22) (e := 3) rfl (by rw [h1]; rfl) Try.underlying22
          rw [h2, show Try.prog.bytesOf 3 = 8 from by kernel_rfl] at this
          simpa [reachBytes] using this
      obtain ⟨A2, n2, c2, g2, rfl, hn2, hc2, hs2, hw2, hl2, hd2⟩ := open_row Try.underlying23 Try.underlying5 (by kernel_rfl) (hval 2 23 v2 rfl rfl) h2
      have re2 : c2 * 1 ≤ 140737488351232 := by
        rcases hd2 with ⟨_, h0⟩ | ⟨xs, ys, h1, h2⟩
        · omega
        · have := sized_slice hsz (j := 2) (t := 23) (e := 5) rfl (by rw [h1]; rfl) Try.underlying23
          rw [h2, show Try.prog.bytesOf 5 = 1 from by kernel_rfl] at this
          simpa [reachBytes] using this
      obtain ⟨a3, rfl, rfl, rfl⟩ := open_bool Try.underlying4 (hval 3 4 v3 rfl rfl) h3
      obtain ⟨A4, n4, c4, g4, rfl, hn4, hc4, hs4, hw4, hl4, hd4⟩ := open_row Try.underlying22 Try.underlying3 (by kernel_rfl) (hval 4 22 v4 rfl rfl) h4
      have re4 : c4 * 8 ≤ 140737488351232 := by
        rcases hd4 with ⟨_, h0⟩ | ⟨xs, ys, h1, h2⟩
        · omega
        · have := sized_slice hsz (j := 4) (t := 22) (e := 3) rfl (by rw [h1]; rfl) Try.underlying22
          rw [h2, show Try.prog.bytesOf 3 = 8 from by kernel_rfl] at this
          simpa [reachBytes] using this
      obtain ⟨A5, n5, c5, g5, rfl, hn5, hc5, hs5, hw5, hl5, hd5⟩ := open_row Try.underlying22 Try.underlying3 (by kernel_rfl) (hval 5 22 v5 rfl rfl) h5
      have re5 : c5 * 8 ≤ 140737488351232 := by
        rcases hd5 with ⟨_, h0⟩ | ⟨xs, ys, h1, h2⟩
        · omega
        · have := sized_slice hsz (j := 5) (t := 22) (e := 3) rfl (by rw [h1]; rfl) Try.underlying22
          rw [h2, show Try.prog.bytesOf 3 = 8 from by kernel_rfl] at this
          simpa [reachBytes] using this
      exact walk W a0 (bounds_i64 w0) A1 n1 c1 g1 hn1 hc1 hs1 (fun j => bounds_i64 (hw1 j)) hl1 re1 A2 n2 c2 g2 hn2 hc2 hs2 (fun j => bounds_u8 (hw2 j)) hl2 re2 a3 A4 n4 c4 g4 hn4 hc4 hs4 (fun j => bounds_i64 (hw4 j)) hl4 re4 A5 n5 c5 g5 hn5 hc5 hs5 (fun j => bounds_i64 (hw5 j)) hl5 re5)

theorem proved : Rows.WireKeepsSaid :=
  OpenClaim.holds_of_wide 8 Try.f8 rfl rfl rfl rfl rfl rfl rfl ⟨rfl, rfl, rfl, rfl, rfl⟩ rfl rfl rfl rfl rfl (by kernel_rfl) Try.func8 (by kernel_rfl)
    (of_decide_eq_true (by kernel_rfl)) (by unfold Func.isWrapper; first | (rw [if_pos (by decide +kernel)]; kernel_rfl) | (rw [if_neg (by decide +kernel)]; exact ⟨rfl, rfl⟩))
    (fun os started H enc _ => lifted os started H enc)
end Go.Proofs.Ytjljaecjnpmdoaa.wireKeeps
