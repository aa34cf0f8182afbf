/- The reference's Whole, Age. -/
import Derived.Test.YteapnfdpkjbfhaaGreatGa
import Derived.Test.YteapnfdpkjbfhaaGreatWirRp3
import Derived.Test.YteapnfdpkjbfhaaGreatGwc
import Derived.BigQuiet
import Derived.Deep.RegionHeld3
import Derived.Deep.Cut
namespace Go.Proofs.YteapnfdpkjbfhaaGreat
set_option linter.unusedVariables false
set_option linter.unusedSimpArgs false
open Go.RowKit Go.ChangeShapes Go.WideShapes Go.ChangeAt
set_option maxHeartbeats 4000000 in
theorem rwhole3 (A : Option Addr) (L c : Nat) (g : Nat → Int) (w : World) (h : By w A L g) (hg : IsB g) (hc : L ≤ c) (hb : L ≤ 1000000) (H3 : Hid (g 0 = 3)) (HP0 : Hid (parseE g L = 0)) :
 Calls Tryz.prog 18 #[.slice A L c] w fun e w' => e = .returned (.bool (wholeB g L)) ∧ Below w.heap.size w w' := by
 have HP := hid (rparse3 A L c g w h hg hc hb H3 HP0 (.inl (parseE_0 HP0.out).1))
 have HBY := hid (fun (W : World) (hw : Below w.heap.size w W) => Sl.below h hw (Nat.le_refl _))
 have HG := hid hg
 have HH := hid h
 clear h hg
 obtain ⟨z, hz⟩ : ∃ z, z = parseE g L := ⟨_, rfl⟩
 unfold Parsed at HP
 rw [← hz] at HP
 cases hz0 : (z == 0)
 ·have HW : Hid (wholeB g L = false) := hid (by unfold wholeB; rw [← hz, hz0]; rfl)
  generalize parseR g L = p at HP
  clear hz
  go_enter Tryz.func18, Tryz.ntmps18
  go_wp2_with fail
  refine HP.out.mono ?_
  rintro x w1 ⟨O, D, rfl, hO, hD, hb1⟩
  obtain ⟨AO, cO, rfl, _, _, _⟩ := hO.form_
  obtain ⟨AD, cD, rfl, _, _, _⟩ := hD.form_
  have B1 := hid (hb1.alloc hb1.size (.cells #[.int .i64 p.kind, .int .i64 p.life, .int .i64 p.piece, .int .i64 p.src, .int .i64 p.dst, .int .i64 p.fp, .int .i64 p.tp, .int .i64 p.flags, .int .i64 p.label, .bool p.bare, .int .i64 p.code, .slice AO p.no cO, .slice AD p.nd cD] 39))
  clear hb1 HP hO hD
  unfold pkV pkL
  go_simp
  skip
  have CE := hid (Ce.made (w := w1) (l := [.int .i64 p.kind, .int .i64 p.life, .int .i64 p.piece, .int .i64 p.src, .int .i64 p.dst, .int .i64 p.fp, .int .i64 p.tp, .int .i64 p.flags, .int .i64 p.label, .bool p.bare, .int .i64 p.code, .slice AO p.no cO, .slice AD p.nd cD]) (T := 39) rfl)
  simp only [List.toArray] at CE
  go_wp2_with fail
  go_ret
  exact ⟨ret_bool HW.out.symm, B1.out⟩
 ·have z0 : parseE g L = 0 := by rw [← hz]; simpa using hz0
  have pf := parse_facts z0
  have n24 := pf.1
  have n15 := pf.2.1
  have HW : Hid (wholeB g L = (bareF g || norm (tot (sumF g L) (sumN g L)) == 65535)) := hid (by unfold wholeB; rw [z0]; rfl)
  have PB := hid (parseR_bare z0)
  have HSB := hid (sumF_B HG.out L)
  have HSN : Hid (sumN g L ≤ 140737488355328) := hid (by unfold sumN; split <;> omega)
  have HSM := hid (fun W hW => rsummed_any A L c g W hW HG.out n24 hc n15)
  clear pf z0 hz
  generalize parseR g L = p at HP PB
  cases bb : p.bare
  ·rw [bb] at PB
   have BB := hid bb
   clear bb
   go_enter Tryz.func18, Tryz.ntmps18
   go_wp2_with fail
   refine HP.out.mono ?_
   rintro x w1 ⟨O, D, rfl, hO, hD, hb1⟩
   obtain ⟨AO, cO, rfl, _, _, _⟩ := hO.form_
   obtain ⟨AD, cD, rfl, _, _, _⟩ := hD.form_
   have B1 := hid (hb1.alloc hb1.size (.cells #[.int .i64 p.kind, .int .i64 p.life, .int .i64 p.piece, .int .i64 p.src, .int .i64 p.dst, .int .i64 p.fp, .int .i64 p.tp, .int .i64 p.flags, .int .i64 p.label, .bool p.bare, .int .i64 p.code, .slice AO p.no cO, .slice AD p.nd cD] 39))
   clear hb1 HP hO hD
   unfold pkV pkL
   go_simp
   skip
   have CE := hid (Ce.made (w := w1) (l := [.int .i64 p.kind, .int .i64 p.life, .int .i64 p.piece, .int .i64 p.src, .int .i64 p.dst, .int .i64 p.fp, .int .i64 p.tp, .int .i64 p.flags, .int .i64 p.label, .bool p.bare, .int .i64 p.code, .slice AO p.no cO, .slice AD p.nd cD]) (T := 39) rfl)
   simp only [List.toArray] at CE
   go_upto_region 2 with (fail)
   generalize (w1.alloc (.cells #[.int .i64 p.kind, .int .i64 p.life, .int .i64 p.piece, .int .i64 p.src, .int .i64 p.dst, .int .i64 p.fp, .int .i64 p.tp, .int .i64 p.flags, .int .i64 p.label, .bool p.bare, .int .i64 p.code, .slice AO p.no cO, .slice AD p.nd cD] 39)) = wA at *
   have k9 := CE.out.2.1 9 _ rfl
   rw [BB.out] at k9
   go_wp2_with fail
   refine (HSM.out _ (HBY.out _ B1.out)).mono ?_
   rintro x w2 ⟨A2, c2, rfl, hS, hb2⟩
   have S2 := hid hS
   have B2 := hid (B1.out.trans (hb2.mono B1.out.size))
   clear hS hb2 k9
   go_wp2_with fail
   refine (rright_any A2 _ c2 _ _ S2.out HSB.out HSN.out).mono ?_
   rintro x w' ⟨rfl, rfl⟩
   go_wp2_with fail
   go_ret
   refine ⟨ret_bool ?_, B2.out⟩
   rw [HW.out, ← PB.out]
   rfl
  ·rw [bb] at PB
   have BB := hid bb
   clear bb
   go_enter Tryz.func18, Tryz.ntmps18
   go_wp2_with fail
   refine HP.out.mono ?_
   rintro x w1 ⟨O, D, rfl, hO, hD, hb1⟩
   obtain ⟨AO, cO, rfl, _, _, _⟩ := hO.form_
   obtain ⟨AD, cD, rfl, _, _, _⟩ := hD.form_
   have B1 := hid (hb1.alloc hb1.size (.cells #[.int .i64 p.kind, .int .i64 p.life, .int .i64 p.piece, .int .i64 p.src, .int .i64 p.dst, .int .i64 p.fp, .int .i64 p.tp, .int .i64 p.flags, .int .i64 p.label, .bool p.bare, .int .i64 p.code, .slice AO p.no cO, .slice AD p.nd cD] 39))
   clear hb1 HP hO hD
   unfold pkV pkL
   go_simp
   skip
   have CE := hid (Ce.made (w := w1) (l := [.int .i64 p.kind, .int .i64 p.life, .int .i64 p.piece, .int .i64 p.src, .int .i64 p.dst, .int .i64 p.fp, .int .i64 p.tp, .int .i64 p.flags, .int .i64 p.label, .bool p.bare, .int .i64 p.code, .slice AO p.no cO, .slice AD p.nd cD]) (T := 39) rfl)
   simp only [List.toArray] at CE
   go_upto_region 2 with (fail)
   generalize (w1.alloc (.cells #[.int .i64 p.kind, .int .i64 p.life, .int .i64 p.piece, .int .i64 p.src, .int .i64 p.dst, .int .i64 p.fp, .int .i64 p.tp, .int .i64 p.flags, .int .i64 p.label, .bool p.bare, .int .i64 p.code, .slice AO p.no cO, .slice AD p.nd cD] 39)) = wA at *
   have k9 := CE.out.2.1 9 _ rfl
   rw [BB.out] at k9
   go_wp2_with fail
   go_ret
   refine ⟨ret_bool ?_, B1.out⟩
   rw [HW.out, ← PB.out]
   rfl
end Go.Proofs.YteapnfdpkjbfhaaGreat
