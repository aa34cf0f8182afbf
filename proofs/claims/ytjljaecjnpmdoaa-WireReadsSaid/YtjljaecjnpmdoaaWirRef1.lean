/- The reference's Whole, Age. -/
import Derived.Test.YtjljaecjnpmdoaaWirRparse2
import Derived.Test.YtjljaecjnpmdoaaWirWr2
import Derived.BigQuiet
import Derived.Deep.RegionHeld3
import Derived.Deep.Cut
namespace Go.Proofs.Ytjljaecjnpmdoaa
set_option linter.unusedVariables false
set_option linter.unusedSimpArgs false
open Go.RowKit Go.ChangeShapes Go.WideShapes Go.ChangeAt

set_option maxHeartbeats 4000000 in
theorem rwhole_any (A : Option Addr) (L c : Nat) (g : Nat → Int) (w : World) (h : By w A L g) (hg : IsB g) (hc : L ≤ c) (hb : L ≤ 1000000) :
    Calls Try.prog 25 #[.slice A L c] w fun e w' => e = .returned (.bool (wholeB g L)) ∧ Below w.heap.size w w' := by
  have HP := hid (rparse_any A L c g w h hg hc hb)
  have HBY := hid (fun (W : World) (hw : Below w.heap.size w W) => Sl.below h hw (Nat.le_refl _))
  have HG := hid hg
  have HH := hid h
  clear h hg
  obtain ⟨z, hz⟩ : ∃ z, z = parseE g L := ⟨_, rfl⟩
  unfold Parsed at HP
  rw [← hz] at HP
  cases hz0 : (z == 0)
  · have HW : Hid (wholeB g L = false) := hid (by unfold wholeB; rw [← hz, hz0]; rfl)
    generalize parseR g L = p at HP
    clear hz
    go_enter Try.func25, Try.ntmps25
    go_wp2_with fail
    refine HP.out.mono ?_
    rintro x w1 ⟨O, D, rfl, hO, hD, hb1⟩
    obtain ⟨AO, cO, rfl, _, _, _⟩ := hO.form_
    obtain ⟨AD, cD, rfl, _, _, _⟩ := hD.form_
    have B1 := hid (hb1.alloc hb1.size (.cells #[.int .i64 p.kind, .int .i64 p.life, .int .i64 p.piece, .int .i64 p.src, .int .i64 p.dst, .int .i64 p.fp, .int .i64 p.tp, .int .i64 p.flags, .int .i64 p.label, .bool p.bare, .int .i64 p.code, .slice AO p.no cO, .slice AD p.nd cD] 26))
    clear hb1 HP hO hD
    unfold pkV pkL
    go_simp
    skip
    have CE := hid (Ce.made (w := w1) (l := [.int .i64 p.kind, .int .i64 p.life, .int .i64 p.piece, .int .i64 p.src, .int .i64 p.dst, .int .i64 p.fp, .int .i64 p.tp, .int .i64 p.flags, .int .i64 p.label, .bool p.bare, .int .i64 p.code, .slice AO p.no cO, .slice AD p.nd cD]) (T := 26) rfl)
    simp only [List.toArray] at CE
    go_wp2_with fail
    go_ret
    exact ⟨ret_bool HW.out.symm, B1.out⟩
  · have z0 : parseE g L = 0 := by rw [← hz]; simpa using hz0
    have pf := parse_facts z0
    have n24 := pf.1
    have n15 := pf.2.1
    have HW : Hid (wholeB g L = (bareF g || norm (tot (sumF g L) (sumN g L)) == 65535)) := hid (by unfold wholeB; rw [z0]; rfl)
    have PB := hid (parseR_bare z0)
    have HSB := hid (sumF_B HG.out L)
    have HSN : Hid (sumN g L ≤ 140737488355328) := hid (by unfold sumN; split <;> omega)
    have HSM := hid (fun W hW => rsummed_any A L c g W hW HG.out n24 hc n15)
    clear pf z0 hz
    generalize parseR g L = p at HP PB
    cases bb : p.bare
    · rw [bb] at PB
      have BB := hid bb
      clear bb
      go_enter Try.func25, Try.ntmps25
      go_wp2_with fail
      refine HP.out.mono ?_
      rintro x w1 ⟨O, D, rfl, hO, hD, hb1⟩
      obtain ⟨AO, cO, rfl, _, _, _⟩ := hO.form_
      obtain ⟨AD, cD, rfl, _, _, _⟩ := hD.form_
      have B1 := hid (hb1.alloc hb1.size (.cells #[.int .i64 p.kind, .int .i64 p.life, .int .i64 p.piece, .int .i64 p.src, .int .i64 p.dst, .int .i64 p.fp, .int .i64 p.tp, .int .i64 p.flags, .int .i64 p.label, .bool p.bare, .int .i64 p.code, .slice AO p.no cO, .slice AD p.nd cD] 26))
      clear hb1 HP hO hD
      unfold pkV pkL
      go_simp
      skip
      have CE := hid (Ce.made (w := w1) (l := [.int .i64 p.kind, .int .i64 p.life, .int .i64 p.piece, .int .i64 p.src, .int .i64 p.dst, .int .i64 p.fp, .int .i64 p.tp, .int .i64 p.flags, .int .i64 p.label, .bool p.bare, .int .i64 p.code, .slice AO p.no cO, .slice AD p.nd cD]) (T := 26) rfl)
      simp only [List.toArray] at CE
      go_upto_region 2 with (fail)
      generalize (w1.alloc (.cells #[.int .i64 p.kind, .int .i64 p.life, .int .i64 p.piece, .int .i64 p.src, .int .i64 p.dst, .int .i64 p.fp, .int .i64 p.tp, .int .i64 p.flags, .int .i64 p.label, .bool p.bare, .int .i64 p.code, .slice AO p.no cO, .slice AD p.nd cD] 26)) = wA at *
      have k9 := CE.out.2.1 9 _ rfl
      rw [BB.out] at k9
      go_wp2_with fail
      refine (HSM.out _ (HBY.out _ B1.out)).mono ?_
      rintro x w2 ⟨A2, c2, rfl, hS, hb2⟩
      have S2 := hid hS
      have B2 := hid (B1.out.trans (hb2.mono B1.out.size))
      clear hS hb2 k9
      go_wp2_with fail
      refine (rright_any A2 _ c2 _ _ S2.out HSB.out HSN.out).mono ?_
      rintro x w' ⟨rfl, rfl⟩
      go_wp2_with fail
      go_ret
      refine ⟨ret_bool ?_, B2.out⟩
      rw [HW.out, ← PB.out]
      rfl
    · rw [bb] at PB
      have BB := hid bb
      clear bb
      go_enter Try.func25, Try.ntmps25
      go_wp2_with fail
      refine HP.out.mono ?_
      rintro x w1 ⟨O, D, rfl, hO, hD, hb1⟩
      obtain ⟨AO, cO, rfl, _, _, _⟩ := hO.form_
      obtain ⟨AD, cD, rfl, _, _, _⟩ := hD.form_
      have B1 := hid (hb1.alloc hb1.size (.cells #[.int .i64 p.kind, .int .i64 p.life, .int .i64 p.piece, .int .i64 p.src, .int .i64 p.dst, .int .i64 p.fp, .int .i64 p.tp, .int .i64 p.flags, .int .i64 p.label, .bool p.bare, .int .i64 p.code, .slice AO p.no cO, .slice AD p.nd cD] 26))
      clear hb1 HP hO hD
      unfold pkV pkL
      go_simp
      skip
      have CE := hid (Ce.made (w := w1) (l := [.int .i64 p.kind, .int .i64 p.life, .int .i64 p.piece, .int .i64 p.src, .int .i64 p.dst, .int .i64 p.fp, .int .i64 p.tp, .int .i64 p.flags, .int .i64 p.label, .bool p.bare, .int .i64 p.code, .slice AO p.no cO, .slice AD p.nd cD]) (T := 26) rfl)
      simp only [List.toArray] at CE
      go_upto_region 2 with (fail)
      generalize (w1.alloc (.cells #[.int .i64 p.kind, .int .i64 p.life, .int .i64 p.piece, .int .i64 p.src, .int .i64 p.dst, .int .i64 p.fp, .int .i64 p.tp, .int .i64 p.flags, .int .i64 p.label, .bool p.bare, .int .i64 p.code, .slice AO p.no cO, .slice AD p.nd cD] 26)) = wA at *
      have k9 := CE.out.2.1 9 _ rfl
      rw [BB.out] at k9
      go_wp2_with fail
      go_ret
      refine ⟨ret_bool ?_, B1.out⟩
      rw [HW.out, ← PB.out]
      rfl
theorem u8_dec {x : Int} (h : 1 ≤ x) (h' : x ≤ 255) : IntKind.u8.wrap (x - 1) = x - 1 := by rw [IntKind.wrap_u8]; omega
set_option maxHeartbeats 4000000 in
theorem rage_any (A : Option Addr) (L c : Nat) (g : Nat → Int) (w : World) (h : By w A L g) (hg : IsB g) (hc : L ≤ c) (hb : L ≤ 1000000) :
    Calls Try.prog 31 #[.slice A L c] w (Outd w (ageE g L) L (ageF g)) := by
  have HP := hid (rparse_any A L c g w h hg hc hb)
  have HBY := hid (fun (W : World) (hw : Below w.heap.size w W) => Sl.below h hw (Nat.le_refl _))
  have HG := hid hg
  have HH := hid h
  clear h hg
  obtain ⟨z, hz⟩ : ∃ z, z = parseE g L := ⟨_, rfl⟩
  unfold Parsed at HP
  rw [← hz] at HP
  cases hz0 : (z != 0)
  · have z0 : parseE g L = 0 := by rw [← hz]; simpa using hz0
    have pf := parse_facts z0
    have n24 := pf.1
    have n15 := pf.2.1
    have HE : Hid (ageE g L = if g 1 ≤ 1 then 7 else 0) := hid (by unfold ageE; rw [if_neg (fun h => h z0)])
    have PLI := hid (parse_life z0).1
    clear pf z0
    generalize parseR g L = p at HP PLI
    have hl0 := HG.out 1
    rw [← PLI.out] at hl0 HE
    obtain ⟨hl0, hl1⟩ := hl0
    by_cases hl : p.life ≤ 1
    · rw [if_pos hl] at HE
      have hl2 : p.life < 2 := by omega
      clear hz hl
      go_enter Try.func31, Try.ntmps31
      go_wp2_with fail
      refine HP.out.mono ?_
      rintro x w1 ⟨O, D, rfl, hO, hD, hb1⟩
      obtain ⟨AO, cO, rfl, _, _, _⟩ := hO.form_
      obtain ⟨AD, cD, rfl, _, _, _⟩ := hD.form_
      have B1 := hid (hb1.alloc hb1.size (.cells #[.int .i64 p.kind, .int .i64 p.life, .int .i64 p.piece, .int .i64 p.src, .int .i64 p.dst, .int .i64 p.fp, .int .i64 p.tp, .int .i64 p.flags, .int .i64 p.label, .bool p.bare, .int .i64 p.code, .slice AO p.no cO, .slice AD p.nd cD] 26))
      clear hb1 HP hO hD
      unfold pkV pkL
      go_simp
      skip
      have CE := hid (Ce.made (w := w1) (l := [.int .i64 p.kind, .int .i64 p.life, .int .i64 p.piece, .int .i64 p.src, .int .i64 p.dst, .int .i64 p.fp, .int .i64 p.tp, .int .i64 p.flags, .int .i64 p.label, .bool p.bare, .int .i64 p.code, .slice AO p.no cO, .slice AD p.nd cD]) (T := 26) rfl)
      simp only [List.toArray] at CE
      have k1 := CE.out.2.1 1 _ rfl
      go_wp2_with fail
      refine bodyPost_ret (v := .tuple #[.slice none 0 0, .int .i64 7]) (by simp [results, Try.results31, go_sem]) rfl ?_
      rw [HE.out]
      exact outd_no (by decide) B1.out
    · rw [if_neg hl] at HE
      have hl2 : ¬ p.life < 2 := by omega
      clear hz
      obtain ⟨b, off, rfl, hblt, _⟩ := HH.out (by omega)
      go_enter Try.func31, Try.ntmps31
      go_wp2_with fail
      refine HP.out.mono ?_
      rintro x w1 ⟨O, D, rfl, hO, hD, hb1⟩
      obtain ⟨AO, cO, rfl, _, _, _⟩ := hO.form_
      obtain ⟨AD, cD, rfl, _, _, _⟩ := hD.form_
      have B1 := hid (hb1.alloc hb1.size (.cells #[.int .i64 p.kind, .int .i64 p.life, .int .i64 p.piece, .int .i64 p.src, .int .i64 p.dst, .int .i64 p.fp, .int .i64 p.tp, .int .i64 p.flags, .int .i64 p.label, .bool p.bare, .int .i64 p.code, .slice AO p.no cO, .slice AD p.nd cD] 26))
      clear hb1 HP hO hD
      unfold pkV pkL
      go_simp
      skip
      have CE := hid (Ce.made (w := w1) (l := [.int .i64 p.kind, .int .i64 p.life, .int .i64 p.piece, .int .i64 p.src, .int .i64 p.dst, .int .i64 p.fp, .int .i64 p.tp, .int .i64 p.flags, .int .i64 p.label, .bool p.bare, .int .i64 p.code, .slice AO p.no cO, .slice AD p.nd cD]) (T := 26) rfl)
      simp only [List.toArray] at CE
      have k1 := CE.out.2.1 1 _ rfl
      go_upto_region 6 with (fail)
      clear k1
      generalize (w1.alloc (.cells #[.int .i64 p.kind, .int .i64 p.life, .int .i64 p.piece, .int .i64 p.src, .int .i64 p.dst, .int .i64 p.fp, .int .i64 p.tp, .int .i64 p.flags, .int .i64 p.label, .bool p.bare, .int .i64 p.code, .slice AO p.no cO, .slice AD p.nd cD] 26)) = wA at *
      have lA : w.heap.size ≤ wA.heap.size := B1.out.size
      have lP : w1.heap.size < wA.heap.size := CE.out.1
      go_upto_region 7 with (at_builtin; refine wp_app_b0 rfl (.tmp 18) (.tmp 19) rfl wA.heap.size _ rfl (fun f => Ow.new' (w := wA) rfl) _ L _ g rfl (Sl.alloc (HBY.out _ B1.out) _) (by omega) (by simp) ?_; intro A2 c2 w2 h1 h2 h3 h4 h5 h6; have HOx := hid h1; have hc2 := h2; have BA := hid (Below.trans ((Below.refl wA.heap.size wA).alloc (Nat.le_refl _) (.cells #[] 5)) h4); clear h1 h2 h3 h4 h5 h6)
      have CE2 := hid (CE.out.below BA.out)
      have B2 := hid (B1.out.trans (BA.out.mono lA))
      obtain ⟨G, e, hB, hgs, hce, hfr⟩ := Ow.block_ HOx.out (by omega)
      subst e
      have O2 := hid (OB.base HOx.out lA)
      have hGw : w.heap.size ≤ G := by omega
      have hne : b ≠ G := by omega
      have hPG : w1.heap.size ≠ G := by omega
      have c1 := hce 1 (by omega)
      have f1 := hfr 1
      clear hce hfr HOx hgs
      have g1 : 1 ≤ g 1 := by rw [← PLI.out]; omega
      have g1' : g 1 ≤ 255 := by rw [← PLI.out]; exact hl1
      have u1 := u8_dec g1 g1'
      have i1 : (1 : Int) < L := by omega
      go_upto_region 8 with (fail)
      have O3 := hid (OB.store O2.out 1 (g 1 - 1))
      have B3 := hid (B2.out.trans (below_of_grown (grown_set w2 ⟨G, 1, none⟩ (.int .u8 (g 1 - 1))) hGw B2.out.size))
      clear c1 f1 CE2 O2 B2 CE BA
      generalize w2.setCell ⟨G, 1, none⟩ (.int .u8 (g 1 - 1)) = w3 at *
      have XB := hid (set1_B HG.out 1 (g 1 - 1) (by omega) (by omega))
      have N14 := hid (rnum_any (some ⟨b, off, none⟩) L c g w3 (HBY.out _ B3.out) HG.out 14 2 (by omega) (by omega) hb)
      have N0 := hid (rnum_any (some ⟨b, off, none⟩) L c g w3 (HBY.out _ B3.out) HG.out 0 2 (by omega) (by omega) hb)
      have X0 := hid (rnum_any (some ⟨G, 0, none⟩) L c2 _ w3 O3.out.sl1 XB.out 0 2 (by omega) (by omega) hb)
      have b0 := num2_bd HG.out 14
      have b1 := num2_bd HG.out 0
      have b2 := num2_bd XB.out 0
      have TU := hid (fun w => rturn_any (num g 14 2) (num g 0 2) (num (set1 g 1 (g 1 - 1)) 0 2) w b0.1 b0.2 b1.1 b1.2 b2.1 b2.2)
      clear b0 b1 b2
      go_wp2_with fail
      refine N14.out.mono ?_
      rintro e w' ⟨rfl, rfl⟩
      go_wp2_with fail
      refine N0.out.mono ?_
      rintro e w' ⟨rfl, rfl⟩
      go_wp2_with fail
      refine X0.out.mono ?_
      rintro e w' ⟨rfl, rfl⟩
      go_wp2_with fail
      refine (TU.out _).mono ?_
      rintro e w' ⟨rfl, rfl⟩
      go_wp2_with fail
      refine (rput_any O3.out 14 2 _ (by omega) (by omega) hb).mono ?_
      rintro e w4 ⟨rfl, hO, hg4⟩
      have O4 := hid hO
      have B4 := hid (B3.out.trans (below_of_grown hg4 hGw B3.out.size))
      clear hO hg4
      go_wp2_with fail
      refine bodyPost_ret (v := .tuple #[.slice (some ⟨G, 0, none⟩) L c2, .int .i64 0]) (by simp [results, Try.results31, go_sem]) rfl ?_
      rw [HE.out]
      exact ⟨_, rfl, O4.out, B4.out⟩
  · have HE : Hid (ageE g L = z) := hid (by unfold ageE; rw [← hz, if_pos (by simpa using hz0)])
    have HZ0 : Hid (z ≠ 0) := hid (by simpa using hz0)
    generalize parseR g L = p at HP
    clear hz
    go_enter Try.func31, Try.ntmps31
    go_wp2_with fail
    refine HP.out.mono ?_
    rintro x w1 ⟨O, D, rfl, hO, hD, hb1⟩
    obtain ⟨AO, cO, rfl, _, _, _⟩ := hO.form_
    obtain ⟨AD, cD, rfl, _, _, _⟩ := hD.form_
    have B1 := hid (hb1.alloc hb1.size (.cells #[.int .i64 p.kind, .int .i64 p.life, .int .i64 p.piece, .int .i64 p.src, .int .i64 p.dst, .int .i64 p.fp, .int .i64 p.tp, .int .i64 p.flags, .int .i64 p.label, .bool p.bare, .int .i64 p.code, .slice AO p.no cO, .slice AD p.nd cD] 26))
    clear hb1 HP hO hD
    unfold pkV pkL
    go_simp
    skip
    go_wp2_with fail
    refine bodyPost_ret (v := .tuple #[.slice none 0 0, .int .i64 z]) (by simp [results, Try.results31, go_sem]) rfl ?_
    rw [HE.out]
    exact outd_no HZ0.out B1.out
end Go.Proofs.Ytjljaecjnpmdoaa
