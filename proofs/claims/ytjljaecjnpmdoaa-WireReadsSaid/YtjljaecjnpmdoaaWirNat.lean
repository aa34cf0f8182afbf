/- Nat. -/
import Derived.Test.YtjljaecjnpmdoaaWirWr2
import Derived.BigQuiet
import Derived.Deep.RegionHeld3
import Derived.Deep.Cut
namespace Go.Proofs.Ytjljaecjnpmdoaa
set_option linter.unusedVariables false
set_option linter.unusedSimpArgs false
open Go.RowKit Go.ChangeShapes Go.WideShapes Go.ChangeAt

set_option maxHeartbeats 8000000 in
theorem nat_any (A : Option Addr) (L c : Nat) (g : Nat → Int) (w : World) (h : By w A L g) (hg : IsB g) (hc : L ≤ c) (hb : L ≤ 1000000) (s : Bool) (ad po : Int) :
    Calls Try.prog 28 #[.slice A L c, .bool s, .int .i64 ad, .int .i64 po] w (Outd w (natE g L ad po) L (natF g L s ad po)) := by
  have HP := hid (parse_any A L c g w h hg hc hb)
  have HBY := hid (fun (W : World) (hw : Below w.heap.size w W) => Sl.below h hw (Nat.le_refl _))
  have HG := hid hg
  have HH := hid h
  clear h hg
  obtain ⟨z, hz⟩ : ∃ z, z = parseE g L := ⟨_, rfl⟩
  unfold Parsed at HP
  rw [← hz] at HP
  cases hz0 : (z != 0)
  · have z0 : parseE g L = 0 := by rw [← hz]; simpa using hz0
    have pf := parse_facts z0
    have n24 := pf.1
    have n15 := pf.2.1
    have PK := hid (parse_life z0).2
    have PBR := hid (parseR_bare z0)
    have HE : Hid (natE g L ad po = if g 0 = 3 then 2 else if (inR ad 4294967295 && inR po 65535) = true then 0 else 14) := hid (by unfold natE; rw [if_neg (fun h => h z0)])
    clear pf z0
    generalize parseR g L = p at HP PK PBR
    cases k3 : (p.kind == 3)
    · have k3' : ¬ g 0 = 3 := by rw [← PK.out]; simpa using k3
      rw [if_neg k3'] at HE
      have S22 : Hid (sumA (g 0) = 22) := hid (by unfold sumA; rw [if_neg k3'])
      clear k3'
      have RA := hid (fun w => wwithin_any ad 4294967295 w)
      have RP := hid (fun w => wwithin_any po 65535 w)
      cases r1 : inR ad 4294967295
      · rw [r1] at RA HE
        rw [Bool.false_and, if_neg (by decide)] at HE
        clear r1 hz
        go_enter Try.func28, Try.ntmps28
        go_wp2_with fail
        refine HP.out.mono ?_
        rintro x w1 ⟨O, D, rfl, hO, hD, hb1⟩
        obtain ⟨AO, cO, rfl, _, _, _⟩ := hO.form_
        obtain ⟨AD, cD, rfl, _, _, _⟩ := hD.form_
        have B1 := hid (hb1.alloc hb1.size (.cells #[.int .i64 p.kind, .int .i64 p.life, .int .i64 p.piece, .int .i64 p.src, .int .i64 p.dst, .int .i64 p.fp, .int .i64 p.tp, .int .i64 p.flags, .int .i64 p.label, .bool p.bare, .int .i64 p.code, .slice AO p.no cO, .slice AD p.nd cD] 26))
        clear hb1 HP hO hD
        unfold pkV pkL
        go_simp
        have CE := hid (Ce.made (w := w1) (l := [.int .i64 p.kind, .int .i64 p.life, .int .i64 p.piece, .int .i64 p.src, .int .i64 p.dst, .int .i64 p.fp, .int .i64 p.tp, .int .i64 p.flags, .int .i64 p.label, .bool p.bare, .int .i64 p.code, .slice AO p.no cO, .slice AD p.nd cD]) (T := 26) rfl)
        simp only [List.toArray] at CE
        have k0 := CE.out.2.1 0 _ rfl
        go_wp2_with fail
        refine (RA.out _).mono ?_
        rintro e w' ⟨rfl, rfl⟩
        go_wp2_with fail
        refine bodyPost_ret (v := .tuple #[.slice none 0 0, .int .i64 14]) (by simp [results, Try.results28, go_sem]) rfl ?_
        rw [HE.out]
        exact outd_no (by decide) B1.out
      · cases r2 : inR po 65535
        · rw [r1] at RA HE
          rw [r2] at RP HE
          rw [Bool.and_false, if_neg (by decide)] at HE
          clear r1 r2 hz
          go_enter Try.func28, Try.ntmps28
          go_wp2_with fail
          refine HP.out.mono ?_
          rintro x w1 ⟨O, D, rfl, hO, hD, hb1⟩
          obtain ⟨AO, cO, rfl, _, _, _⟩ := hO.form_
          obtain ⟨AD, cD, rfl, _, _, _⟩ := hD.form_
          have B1 := hid (hb1.alloc hb1.size (.cells #[.int .i64 p.kind, .int .i64 p.life, .int .i64 p.piece, .int .i64 p.src, .int .i64 p.dst, .int .i64 p.fp, .int .i64 p.tp, .int .i64 p.flags, .int .i64 p.label, .bool p.bare, .int .i64 p.code, .slice AO p.no cO, .slice AD p.nd cD] 26))
          clear hb1 HP hO hD
          unfold pkV pkL
          go_simp
          have CE := hid (Ce.made (w := w1) (l := [.int .i64 p.kind, .int .i64 p.life, .int .i64 p.piece, .int .i64 p.src, .int .i64 p.dst, .int .i64 p.fp, .int .i64 p.tp, .int .i64 p.flags, .int .i64 p.label, .bool p.bare, .int .i64 p.code, .slice AO p.no cO, .slice AD p.nd cD]) (T := 26) rfl)
          simp only [List.toArray] at CE
          have k0 := CE.out.2.1 0 _ rfl
          go_wp2_with fail
          refine (RA.out _).mono ?_
          rintro e w' ⟨rfl, rfl⟩
          go_wp2_with fail
          refine (RP.out _).mono ?_
          rintro e w' ⟨rfl, rfl⟩
          go_wp2_with fail
          refine bodyPost_ret (v := .tuple #[.slice none 0 0, .int .i64 14]) (by simp [results, Try.results28, go_sem]) rfl ?_
          rw [HE.out]
          exact outd_no (by decide) B1.out
        · rw [r1] at RA HE
          rw [r2] at RP HE
          rw [Bool.and_true, if_pos rfl] at HE
          clear r1 r2 hz
          obtain ⟨b, off, rfl, hblt, _⟩ := HH.out (by omega)
          cases s
          · skip
            have NP : natP g false ad po = putF (putF g 8 4 ad) 18 2 po := rfl
            go_enter Try.func28, Try.ntmps28
            go_wp2_with fail
            refine HP.out.mono ?_
            rintro x w1 ⟨O, D, rfl, hO, hD, hb1⟩
            obtain ⟨AO, cO, rfl, _, _, _⟩ := hO.form_
            obtain ⟨AD, cD, rfl, _, _, _⟩ := hD.form_
            have B1 := hid (hb1.alloc hb1.size (.cells #[.int .i64 p.kind, .int .i64 p.life, .int .i64 p.piece, .int .i64 p.src, .int .i64 p.dst, .int .i64 p.fp, .int .i64 p.tp, .int .i64 p.flags, .int .i64 p.label, .bool p.bare, .int .i64 p.code, .slice AO p.no cO, .slice AD p.nd cD] 26))
            clear hb1 HP hO hD
            unfold pkV pkL
            go_simp
            have CE := hid (Ce.made (w := w1) (l := [.int .i64 p.kind, .int .i64 p.life, .int .i64 p.piece, .int .i64 p.src, .int .i64 p.dst, .int .i64 p.fp, .int .i64 p.tp, .int .i64 p.flags, .int .i64 p.label, .bool p.bare, .int .i64 p.code, .slice AO p.no cO, .slice AD p.nd cD]) (T := 26) rfl)
            simp only [List.toArray] at CE
            have k0 := CE.out.2.1 0 _ rfl
            go_wp2_with fail
            refine (RA.out _).mono ?_
            rintro e w' ⟨rfl, rfl⟩
            go_wp2_with fail
            refine (RP.out _).mono ?_
            rintro e w' ⟨rfl, rfl⟩
            clear k0
            have CL := hid (fun (W : World) (hW : By W (some ⟨b, off, none⟩) L g) => clone_any (some ⟨b, off, none⟩) L c g W hW hb)
            go_wp2_with fail
            refine (CL.out _ (HBY.out _ B1.out)).mono ?_
            rintro e w2 ⟨G, rfl, hG, hO, hb2⟩
            have O2 := hid (OB.base hO (show w.heap.size ≤ _ from B1.out.size))
            have hGw : w.heap.size ≤ G := Nat.le_trans B1.out.size hG
            have hGc : w1.heap.size ≠ G := by simp at hG; omega
            have B2 := hid (B1.out.trans (hb2.mono B1.out.size))
            have hne : b ≠ G := by omega
            have CE2 := hid (CE.out.below hb2)
            clear hO hb2 hG CL B1 CE RA RP
            have CP := fun W => cut_put (G := G) (n := L) (c := L) 8 4 (by omega) (Nat.le_refl _) (by omega) 8 (8 + 4) (8 + 4) rfl rfl rfl W
            have CQ := fun W => cut_put (G := G) (n := L) (c := L) 18 2 (by omega) (Nat.le_refl _) (by omega) 18 (18 + 2) (18 + 2) rfl rfl rfl W
            simp only [Int.reduceAdd] at CP CQ
            go_wp2_with fail
            refine (put_any O2.out 8 4 4 ad (by omega) (by omega)).mono ?_
            rintro e w3 ⟨rfl, hO, hg3⟩
            have O3 := hid hO
            have G3 := hid hg3
            clear hO hg3 O2
            go_wp2_with fail
            refine (put_any O3.out 18 2 2 po (by omega) (by omega)).mono ?_
            rintro e w4 ⟨rfl, hO, hg3⟩
            rw [← NP] at hO
            have O4 := hid hO
            have G4 := hid (G3.out.trans hg3)
            clear hO hg3 O3 G3 CP CQ NP
            have XB := hid (show IsB (natP g false ad po) from by unfold natP; split <;> exact putF_B (putF_B HG.out _ _ _) _ _ _)
            go_wp2_with fail
            go_loopw [15] (fun i wr => ∃ k : Nat, k ≤ 2 ∧ i = .int .i64 ((8 + 2 * k : Nat) : Int) ∧ OB wr w.heap.size (.slice (some ⟨G, 0, none⟩) L L) L (tbody 14 L g k 8 (natP g false ad po)) ∧ w2.grownBy wr (some G)) (fun i _ => 20 - (intOf i).toNat)
            case atStart => exact ⟨0, by omega, rfl, O4.out, G4.out⟩
            case round =>
              obtain ⟨k, hk, rfl, ho, hgr⟩ := hrel
              obtain ⟨i, hi⟩ : ∃ i, i = 8 + 2 * k := ⟨_, rfl⟩
              rw [← hi]
              have HI := hid hi
              have HO := hid ho
              have HR := hid hgr
              have hkK : k < 2 ↔ i < 8 + 4 := by omega
              clear hi ho hgr O4 G4
              have B5 := hid (B2.out.trans (below_of_grown HR.out hGw B2.out.size))
              by_cases hlt : i < 8 + 4
              · have i1 : (i : Int) < 8 + 4 := by omega
                have i1' : (i : Int) < 12 := by omega
                have i2 : i < L := by omega
                have i3 : IntKind.i64.wrap ((i : Int) + 2) = (i : Int) + 2 := IntWalk.i64_in _ (by omega)
                have HB := hid (tbody_B (s := 14) (L := L) (g := g) k 8 _ XB.out)
                have kl := hkK.2 hlt
                have bx := pairF_bd HB.out L i
                have bg := pairF_bd HG.out L i
                have PG := hid (pair_any_ (some ⟨b, off, none⟩) L c g wr (HBY.out _ B5.out) HG.out i i2 hc hb)
                have PO := hid (pair_any_ (some ⟨G, 0, none⟩) L L _ wr HO.out.sl1 HB.out i i2 (Nat.le_refl _) hb)
                have TU := hid (wturn_any HO.out HB.out 14 (by omega) (Nat.le_refl _) hb (pairF g L i) (pairF (tbody 14 L g k 8 (natP g false ad po)) L i) bg.1 bg.2 bx.1 bx.2)
                clear hkK bx bg hlt
                go_wp2_with fail
                refine PG.out.mono ?_
                rintro e w' ⟨rfl, rfl⟩
                go_wp2_with fail
                refine PO.out.mono ?_
                rintro e w' ⟨rfl, rfl⟩
                go_wp2_with fail
                refine TU.out.mono ?_
                rintro e w5 ⟨rfl, ho2, hg2⟩
                have HO2 := hid ho2
                have HR2 := hid (HR.out.trans hg2)
                clear ho2 hg2
                go_wp2_with fail
                go_roundw
                case rel =>
                  refine ⟨k + 1, kl, by rw [HI.out]; go_num, ?_, HR2.out⟩
                  have e := tbody_snoc 14 L g k 8 (natP g false ad po)
                  rw [← e, ← HI.out]
                  exact HO2.out
                case measure => simp [intOf]; omega
              · have i1 : ¬ (i : Int) < 12 := by omega
                have kk : k = 2 := by omega
                subst kk
                clear hkK hlt HI
                have CE5 := CE2.out.grown HR.out (fun e => hGc (by injection e with e; exact e.symm))
                have k9 := CE5.2.1 9 _ rfl
                clear CE5
                have YB := hid (tbody_B (s := 14) (L := L) (g := g) 2 8 _ XB.out)
                cases hbf : p.bare
                · have NF : Hid (natF g L false ad po = fillF (tbody 22 L g 1 18 (tbody 22 L g 2 8 (tbody 14 L g 2 8 (natP g false ad po))))) := hid (by unfold natF; rw [← PBR.out, hbf]; rfl)
                  rw [hbf] at k9
                  have TB := hid (turnbody_any HO.out YB.out (HBY.out _ B5.out) hne HG.out (Nat.le_refl _) hc hb n24 8 4 (by omega))
                  rw [S22.out, show (4 + 8 % 2 + 1) / 2 = 2 from rfl, show 8 - 8 % 2 = 8 from rfl] at TB
                  clear hbf
                  go_wp2_with fail
                  refine TB.out.mono ?_
                  rintro e w6 ⟨rfl, ho, hg6⟩
                  have O6 := hid ho
                  have B6 := hid (B5.out.trans (below_of_grown hg6 hGw B5.out.size))
                  clear ho hg6 TB HO k9
                  have Y6 := hid (tbody_B (s := 22) (L := L) (g := g) 2 8 _ YB.out)
                  have TB := hid (turnbody_any O6.out Y6.out (HBY.out _ B6.out) hne HG.out (Nat.le_refl _) hc hb n24 18 2 (by omega))
                  rw [S22.out, show (2 + 18 % 2 + 1) / 2 = 1 from rfl, show 18 - 18 % 2 = 18 from rfl] at TB
                  go_wp2_with fail
                  refine TB.out.mono ?_
                  rintro e w7 ⟨rfl, ho, hg7⟩
                  have O7 := hid ho
                  have B7 := hid (B6.out.trans (below_of_grown hg7 hGw B6.out.size))
                  clear ho hg7 TB O6
                  have Y7 := hid (tbody_B (s := 22) (L := L) (g := g) 1 18 _ Y6.out)
                  go_wp2_with fail
                  refine (fill_any O7.out Y7.out (by omega) (.inr n24) (Nat.le_refl _) hb).mono ?_
                  rintro e w8 ⟨rfl, ho, hg8⟩
                  have O8 := hid ho
                  have B8 := hid (B7.out.trans (below_of_grown hg8 hGw B7.out.size))
                  clear ho hg8
                  go_wp2_with fail
                  refine bodyPost_ret (v := .tuple #[.slice (some ⟨G, 0, none⟩) L L, .int .i64 0]) (by simp [results, Try.results28, go_sem]) rfl ?_
                  rw [HE.out, NF.out]
                  exact ⟨_, rfl, O8.out, B8.out⟩
                · have NF : Hid (natF g L false ad po = tbody 14 L g 2 8 (natP g false ad po)) := hid (by unfold natF; rw [← PBR.out, hbf]; rfl)
                  rw [hbf] at k9
                  clear hbf
                  go_wp2_with fail
                  refine bodyPost_ret (v := .tuple #[.slice (some ⟨G, 0, none⟩) L L, .int .i64 0]) (by simp [results, Try.results28, go_sem]) rfl ?_
                  rw [HE.out, NF.out]
                  exact ⟨_, rfl, HO.out, B5.out⟩
          · skip
            have NP : natP g true ad po = putF (putF g 4 4 ad) 16 2 po := rfl
            go_enter Try.func28, Try.ntmps28
            go_wp2_with fail
            refine HP.out.mono ?_
            rintro x w1 ⟨O, D, rfl, hO, hD, hb1⟩
            obtain ⟨AO, cO, rfl, _, _, _⟩ := hO.form_
            obtain ⟨AD, cD, rfl, _, _, _⟩ := hD.form_
            have B1 := hid (hb1.alloc hb1.size (.cells #[.int .i64 p.kind, .int .i64 p.life, .int .i64 p.piece, .int .i64 p.src, .int .i64 p.dst, .int .i64 p.fp, .int .i64 p.tp, .int .i64 p.flags, .int .i64 p.label, .bool p.bare, .int .i64 p.code, .slice AO p.no cO, .slice AD p.nd cD] 26))
            clear hb1 HP hO hD
            unfold pkV pkL
            go_simp
            have CE := hid (Ce.made (w := w1) (l := [.int .i64 p.kind, .int .i64 p.life, .int .i64 p.piece, .int .i64 p.src, .int .i64 p.dst, .int .i64 p.fp, .int .i64 p.tp, .int .i64 p.flags, .int .i64 p.label, .bool p.bare, .int .i64 p.code, .slice AO p.no cO, .slice AD p.nd cD]) (T := 26) rfl)
            simp only [List.toArray] at CE
            have k0 := CE.out.2.1 0 _ rfl
            go_wp2_with fail
            refine (RA.out _).mono ?_
            rintro e w' ⟨rfl, rfl⟩
            go_wp2_with fail
            refine (RP.out _).mono ?_
            rintro e w' ⟨rfl, rfl⟩
            clear k0
            have CL := hid (fun (W : World) (hW : By W (some ⟨b, off, none⟩) L g) => clone_any (some ⟨b, off, none⟩) L c g W hW hb)
            go_wp2_with fail
            refine (CL.out _ (HBY.out _ B1.out)).mono ?_
            rintro e w2 ⟨G, rfl, hG, hO, hb2⟩
            have O2 := hid (OB.base hO (show w.heap.size ≤ _ from B1.out.size))
            have hGw : w.heap.size ≤ G := Nat.le_trans B1.out.size hG
            have hGc : w1.heap.size ≠ G := by simp at hG; omega
            have B2 := hid (B1.out.trans (hb2.mono B1.out.size))
            have hne : b ≠ G := by omega
            have CE2 := hid (CE.out.below hb2)
            clear hO hb2 hG CL B1 CE RA RP
            have CP := fun W => cut_put (G := G) (n := L) (c := L) 4 4 (by omega) (Nat.le_refl _) (by omega) 4 (4 + 4) (4 + 4) rfl rfl rfl W
            have CQ := fun W => cut_put (G := G) (n := L) (c := L) 16 2 (by omega) (Nat.le_refl _) (by omega) 16 (16 + 2) (16 + 2) rfl rfl rfl W
            simp only [Int.reduceAdd] at CP CQ
            go_wp2_with fail
            refine (put_any O2.out 4 4 4 ad (by omega) (by omega)).mono ?_
            rintro e w3 ⟨rfl, hO, hg3⟩
            have O3 := hid hO
            have G3 := hid hg3
            clear hO hg3 O2
            go_wp2_with fail
            refine (put_any O3.out 16 2 2 po (by omega) (by omega)).mono ?_
            rintro e w4 ⟨rfl, hO, hg3⟩
            rw [← NP] at hO
            have O4 := hid hO
            have G4 := hid (G3.out.trans hg3)
            clear hO hg3 O3 G3 CP CQ NP
            have XB := hid (show IsB (natP g true ad po) from by unfold natP; split <;> exact putF_B (putF_B HG.out _ _ _) _ _ _)
            go_wp2_with fail
            go_loopw [15] (fun i wr => ∃ k : Nat, k ≤ 2 ∧ i = .int .i64 ((4 + 2 * k : Nat) : Int) ∧ OB wr w.heap.size (.slice (some ⟨G, 0, none⟩) L L) L (tbody 14 L g k 4 (natP g true ad po)) ∧ w2.grownBy wr (some G)) (fun i _ => 20 - (intOf i).toNat)
            case atStart => exact ⟨0, by omega, rfl, O4.out, G4.out⟩
            case round =>
              obtain ⟨k, hk, rfl, ho, hgr⟩ := hrel
              obtain ⟨i, hi⟩ : ∃ i, i = 4 + 2 * k := ⟨_, rfl⟩
              rw [← hi]
              have HI := hid hi
              have HO := hid ho
              have HR := hid hgr
              have hkK : k < 2 ↔ i < 4 + 4 := by omega
              clear hi ho hgr O4 G4
              have B5 := hid (B2.out.trans (below_of_grown HR.out hGw B2.out.size))
              by_cases hlt : i < 4 + 4
              · have i1 : (i : Int) < 4 + 4 := by omega
                have i1' : (i : Int) < 8 := by omega
                have i2 : i < L := by omega
                have i3 : IntKind.i64.wrap ((i : Int) + 2) = (i : Int) + 2 := IntWalk.i64_in _ (by omega)
                have HB := hid (tbody_B (s := 14) (L := L) (g := g) k 4 _ XB.out)
                have kl := hkK.2 hlt
                have bx := pairF_bd HB.out L i
                have bg := pairF_bd HG.out L i
                have PG := hid (pair_any_ (some ⟨b, off, none⟩) L c g wr (HBY.out _ B5.out) HG.out i i2 hc hb)
                have PO := hid (pair_any_ (some ⟨G, 0, none⟩) L L _ wr HO.out.sl1 HB.out i i2 (Nat.le_refl _) hb)
                have TU := hid (wturn_any HO.out HB.out 14 (by omega) (Nat.le_refl _) hb (pairF g L i) (pairF (tbody 14 L g k 4 (natP g true ad po)) L i) bg.1 bg.2 bx.1 bx.2)
                clear hkK bx bg hlt
                go_wp2_with fail
                refine PG.out.mono ?_
                rintro e w' ⟨rfl, rfl⟩
                go_wp2_with fail
                refine PO.out.mono ?_
                rintro e w' ⟨rfl, rfl⟩
                go_wp2_with fail
                refine TU.out.mono ?_
                rintro e w5 ⟨rfl, ho2, hg2⟩
                have HO2 := hid ho2
                have HR2 := hid (HR.out.trans hg2)
                clear ho2 hg2
                go_wp2_with fail
                go_roundw
                case rel =>
                  refine ⟨k + 1, kl, by rw [HI.out]; go_num, ?_, HR2.out⟩
                  have e := tbody_snoc 14 L g k 4 (natP g true ad po)
                  rw [← e, ← HI.out]
                  exact HO2.out
                case measure => simp [intOf]; omega
              · have i1 : ¬ (i : Int) < 8 := by omega
                have kk : k = 2 := by omega
                subst kk
                clear hkK hlt HI
                have CE5 := CE2.out.grown HR.out (fun e => hGc (by injection e with e; exact e.symm))
                have k9 := CE5.2.1 9 _ rfl
                clear CE5
                have YB := hid (tbody_B (s := 14) (L := L) (g := g) 2 4 _ XB.out)
                cases hbf : p.bare
                · have NF : Hid (natF g L true ad po = fillF (tbody 22 L g 1 16 (tbody 22 L g 2 4 (tbody 14 L g 2 4 (natP g true ad po))))) := hid (by unfold natF; rw [← PBR.out, hbf]; rfl)
                  rw [hbf] at k9
                  have TB := hid (turnbody_any HO.out YB.out (HBY.out _ B5.out) hne HG.out (Nat.le_refl _) hc hb n24 4 4 (by omega))
                  rw [S22.out, show (4 + 4 % 2 + 1) / 2 = 2 from rfl, show 4 - 4 % 2 = 4 from rfl] at TB
                  clear hbf
                  go_wp2_with fail
                  refine TB.out.mono ?_
                  rintro e w6 ⟨rfl, ho, hg6⟩
                  have O6 := hid ho
                  have B6 := hid (B5.out.trans (below_of_grown hg6 hGw B5.out.size))
                  clear ho hg6 TB HO k9
                  have Y6 := hid (tbody_B (s := 22) (L := L) (g := g) 2 4 _ YB.out)
                  have TB := hid (turnbody_any O6.out Y6.out (HBY.out _ B6.out) hne HG.out (Nat.le_refl _) hc hb n24 16 2 (by omega))
                  rw [S22.out, show (2 + 16 % 2 + 1) / 2 = 1 from rfl, show 16 - 16 % 2 = 16 from rfl] at TB
                  go_wp2_with fail
                  refine TB.out.mono ?_
                  rintro e w7 ⟨rfl, ho, hg7⟩
                  have O7 := hid ho
                  have B7 := hid (B6.out.trans (below_of_grown hg7 hGw B6.out.size))
                  clear ho hg7 TB O6
                  have Y7 := hid (tbody_B (s := 22) (L := L) (g := g) 1 16 _ Y6.out)
                  go_wp2_with fail
                  refine (fill_any O7.out Y7.out (by omega) (.inr n24) (Nat.le_refl _) hb).mono ?_
                  rintro e w8 ⟨rfl, ho, hg8⟩
                  have O8 := hid ho
                  have B8 := hid (B7.out.trans (below_of_grown hg8 hGw B7.out.size))
                  clear ho hg8
                  go_wp2_with fail
                  refine bodyPost_ret (v := .tuple #[.slice (some ⟨G, 0, none⟩) L L, .int .i64 0]) (by simp [results, Try.results28, go_sem]) rfl ?_
                  rw [HE.out, NF.out]
                  exact ⟨_, rfl, O8.out, B8.out⟩
                · have NF : Hid (natF g L true ad po = tbody 14 L g 2 4 (natP g true ad po)) := hid (by unfold natF; rw [← PBR.out, hbf]; rfl)
                  rw [hbf] at k9
                  clear hbf
                  go_wp2_with fail
                  refine bodyPost_ret (v := .tuple #[.slice (some ⟨G, 0, none⟩) L L, .int .i64 0]) (by simp [results, Try.results28, go_sem]) rfl ?_
                  rw [HE.out, NF.out]
                  exact ⟨_, rfl, HO.out, B5.out⟩
    · have k3' : g 0 = 3 := by rw [← PK.out]; simpa using k3
      rw [if_pos k3'] at HE
      clear k3' hz
      go_enter Try.func28, Try.ntmps28
      go_wp2_with fail
      refine HP.out.mono ?_
      rintro x w1 ⟨O, D, rfl, hO, hD, hb1⟩
      obtain ⟨AO, cO, rfl, _, _, _⟩ := hO.form_
      obtain ⟨AD, cD, rfl, _, _, _⟩ := hD.form_
      have B1 := hid (hb1.alloc hb1.size (.cells #[.int .i64 p.kind, .int .i64 p.life, .int .i64 p.piece, .int .i64 p.src, .int .i64 p.dst, .int .i64 p.fp, .int .i64 p.tp, .int .i64 p.flags, .int .i64 p.label, .bool p.bare, .int .i64 p.code, .slice AO p.no cO, .slice AD p.nd cD] 26))
      clear hb1 HP hO hD
      unfold pkV pkL
      go_simp
      have CE := hid (Ce.made (w := w1) (l := [.int .i64 p.kind, .int .i64 p.life, .int .i64 p.piece, .int .i64 p.src, .int .i64 p.dst, .int .i64 p.fp, .int .i64 p.tp, .int .i64 p.flags, .int .i64 p.label, .bool p.bare, .int .i64 p.code, .slice AO p.no cO, .slice AD p.nd cD]) (T := 26) rfl)
      simp only [List.toArray] at CE
      have k0 := CE.out.2.1 0 _ rfl
      go_wp2_with fail
      refine bodyPost_ret (v := .tuple #[.slice none 0 0, .int .i64 2]) (by simp [results, Try.results28, go_sem]) rfl ?_
      rw [HE.out]
      exact outd_no (by decide) B1.out
  · have HE : Hid (natE g L ad po = z) := hid (by unfold natE; rw [← hz, if_pos (by simpa using hz0)])
    have HZ0 : Hid (z ≠ 0) := hid (by simpa using hz0)
    generalize parseR g L = p at HP
    clear hz
    go_enter Try.func28, Try.ntmps28
    go_wp2_with fail
    refine HP.out.mono ?_
    rintro x w1 ⟨O, D, rfl, hO, hD, hb1⟩
    obtain ⟨AO, cO, rfl, _, _, _⟩ := hO.form_
    obtain ⟨AD, cD, rfl, _, _, _⟩ := hD.form_
    have B1 := hid (hb1.alloc hb1.size (.cells #[.int .i64 p.kind, .int .i64 p.life, .int .i64 p.piece, .int .i64 p.src, .int .i64 p.dst, .int .i64 p.fp, .int .i64 p.tp, .int .i64 p.flags, .int .i64 p.label, .bool p.bare, .int .i64 p.code, .slice AO p.no cO, .slice AD p.nd cD] 26))
    clear hb1 HP hO hD
    unfold pkV pkL
    go_simp
    go_wp2_with fail
    refine bodyPost_ret (v := .tuple #[.slice none 0 0, .int .i64 z]) (by simp [results, Try.results28, go_sem]) rfl ?_
    rw [HE.out]
    exact outd_no HZ0.out B1.out
end Go.Proofs.Ytjljaecjnpmdoaa
