/- A fault's other To. -/
import Derived.Test.YteapnfdpkjbfhaaGreatGa
import Derived.Test.YteapnfdpkjbfhaaGreatGz
import Derived.Test.YteapnfdpkjbfhaaGreatPlRE
import Derived.Test.YteapnfdpkjbfhaaGreatGwd
import Derived.BigQuiet
import Derived.Deep.RegionHeld3
import Derived.Deep.Cut
import Derived.IntWalk
namespace Go.Proofs.YteapnfdpkjbfhaaGreat
set_option linter.unusedVariables false
set_option linter.unusedSimpArgs false
open Go.RowKit Go.ChangeShapes Go.WideShapes Go.ChangeAt
set_option maxRecDepth 100000
set_option maxHeartbeats 4000000 in
theorem way_rea {w : World} {wb n c : Nat} {X : Option Addr} {g : Nat → Int} (hC : Ce w wb [.slice X n c, .int .i64 0]) (hX : By w X n g) (hg : IsB g) (hE : parseE g n = 0) (h3 : g 0 = 3) (hc : n ≤ c) (a : Int) (ha : 0 ≤ a ∧ a ≤ 4294967295) :
 Calls Tryz.prog 82 #[.pointer (some ⟨wb, 0, none⟩), .int .i64 a] w fun x w' => x = .returned (.tuple #[]) ∧ Way w wb n (reaF g n a) w.heap.size w' := by
 have ln := rd_len hg hE
 have n15 : n ≤ 1500 := ln.2.1
 have n44 : 44 ≤ n := (ln.2.2.2.2.2.2.2.2 h3).1
 have bd := rd_bd hg hE
 have RE := hid (rea_E hg hE h3 ha)
 have PS := hid (parse_any X n c g w hX hg hc (by omega))
 unfold Parsed at PS
 rw [hE] at PS
 have HCN := hid hc
 have HW := hid hC
 have HX := hid (fun (w' : World) (hb : Below w.heap.size w w') => (show By w' X n g from Sl.below hX hb (Nat.le_refl _)))
 have HRF : Hid (∀ j, reaF g n a j = if j < 16 then builtF { parseR g n with dst := a } j else g j) := hid (fun j => rfl)
 have HGO := hid bd.2.2.2.2.2.1
 have HGD := hid bd.2.2.2.2.2.2
 obtain ⟨x, hx⟩ : ∃ x, x = parseR g n := ⟨_, rfl⟩
 rw [← hx] at RE PS HRF HGO HGD
 have XL : Hid (x.no ≤ 1000000 ∧ x.nd ≤ 1000000) := hid (by
  have h1 := ln.2.2.2.2.2.2.2.1
  have h2 := (ln.2.2.2.2.2.2.2.2 h3).2.1
  rw [← hx] at h1 h2
  omega)
 have c0 := hC.2.1 0 _ rfl
 have c1 := hC.2.1 1 _ rfl
 have hlt := hC.1
 have S0 : Hid (HS [] w w []) := hid HS.start
 clear hC hX hE h3 hc ln bd hx ha
 replace hg := hid hg
 go_enter Tryz.func82, Tryz.ntmps82
 go_wp2_with fail
 refine PS.out.mono ?_
 rintro e w1 ⟨O, D, rfl, hO, hD, hb⟩
 have S1 := hid (S0.out.newOD hb hO hD rfl)
 obtain ⟨AO, cO, rfl, hcO, _, _⟩ := hO.form_
 obtain ⟨AD, cD, rfl, _, _, _⟩ := hD.form_
 clear hb S0 PS hO hD hcO c0 c1
 unfold pkV pkL
 go_simp
 go_upto_region 2 with (first | ((with_reducible refine wl_id ?_); refine wl_ow rfl (ow_allocC rfl (zPk _) (by simp) S1.out ?_); intro E w_ hZ _; have S2 := hid hZ; clear hZ) | ((with_reducible refine wl_id ?_); refine wl_ow rfl (ow_storeC (A := []) [.int .i64 x.kind, .int .i64 x.life, .int .i64 x.piece, .int .i64 x.src, .int .i64 x.dst, .int .i64 x.fp, .int .i64 x.tp, .int .i64 x.flags, .int .i64 x.label, .bool x.bare, .int .i64 x.code, .slice AO x.no cO, .slice AD x.nd cD] rfl rfl (rfl) S2.out rfl iPk rfl ?_); intro w_ hZ; have S3 := hid hZ; clear hZ))
 obtain ⟨y0, y1, y2, y3, y4, y5, y6, y7, y8, y9, y10, y11, y12⟩ := (S3.out.ce 0 rfl).c13
 have z4 := (S3.out.ce 0 rfl).2.2 4
 go_upto_region 5 with (fail)
 have S4 := hid (HS.setC (A := []) S3.out 4 (.int .i64 a) (by simp))
 simp only [List.set_cons_succ, List.set_cons_zero, List.nil_append] at S4
 generalize w_.setCell ⟨E, 4, none⟩ (.int .i64 a) = w4 at *
 clear S1 S2 S3 y0 y1 y2 y3 y4 y5 y6 y7 y8 y9 y10 y11 y12 z4
 obtain ⟨y0, y1, y2, y3, y4, y5, y6, y7, y8, y9, y10, y11, y12⟩ := (S4.out.ce 0 rfl).c13
 go_wp2_with fail
 have BD := build_any { x with dst := a } AO cO AD cD w4 (Ow.sl1 (S4.out.nth 1 rfl).1) (Ow.sl1 (S4.out.nth 1 rfl).2) HGO.out HGD.out XL.out.1 XL.out.2
 rw [RE.out.1, RE.out.2] at BD
 refine BD.mono ?_
 intro e w5 hBD
 obtain ⟨A2, c2, rfl, hO2, hc2, hb⟩ := outd_ok hBD
 have S5 := hid (S4.out.below hb)
 have HB2 := hid hO2.sl1
 have hC5 := HW.out.below S5.out.bl
 clear hb hBD hO2 BD S4 y0 y1 y2 y3 y4 y5 y6 y7 y8 y9 y10 y11 y12
 go_simp
 obtain ⟨b2, o2, rfl⟩ := HB2.out.addr (by omega)
 have C5 := hid (Ce.below_ hC5 ⟨rfl, rfl, rfl, Nat.le_refl _, fun _ _ => rfl⟩ hC5.1 : Ce w5.drew wb [.slice X n c, .int .i64 0])
 clear hC5
 have HA := hid ((Sl.less HB2.out (show 16 ≤ n by omega)).drew)
 have HX5 := hid (HX.out w5.drew S5.out.drew.bl)
 obtain ⟨A9, r1, r2⟩ := cut_from_b X n c 16 (by omega) HCN.out 16 rfl
 replace r2 := hid r2
 have hsl : ∀ W, (Instr.slice 37 (.slice (some ⟨b2, o2, none⟩) n c2) none (some (.int .i64 16)) (some (.int .i64 16))).run Tryz.prog W = .ok (.slice (some ⟨b2, o2, none⟩) 16 16) W := fun W => by
  rw [run_slice_hm W 37 _ n c2 elem_b .i64 .i64 _ _ (by omega) (by omega) (by omega), size_b W]
  simp [Result.andThen, sliced, Addr.add]
 have c0 := C5.out.2.1 0 _ rfl
 have f0 := C5.out.2.2 0
 go_upto_region 8 with (fail)
 refine wp_region_held_drew (S := fun w' => True) (by kernel_rfl) ?_ (fun hHeld => ?_)
 ·trivial
 refine tkq 0 trivial ?_
 refine tkq 1 trivial ?_
 refine tkq 2 trivial ?_
 refine tkq 3 trivial ?_
 refine tkq 4 trivial ?_
 refine tkq 5 trivial ?_
 refine only 6 rfl (by kernel_rfl) rfl (fun K hK => ?_)
 refine ov_val (v := .slice X n c) (by go_simp) ?_
 refine hK.out _ _ trivial (fun _ => ?_)
 clear hK
 try simp only [Act.put, List.setIfInBounds_toArray, List.set_cons_zero, List.set_cons_succ]
 refine tkq 7 trivial ?_
 refine only 8 rfl (by kernel_rfl) rfl (fun K hK => ?_)
 refine wpo_full (.tmp 41) (.tmp 46) rfl _ 16 _ rfl HA.out (by omega) _ (n - 16) _ (fun j => g (16 + j)) rfl (r2.out _ g HX5.out) (by omega) (by omega) ?_
 intro A3 c3 w6 O3 g3
 rw [show 16 + (n - 16) = n from by omega] at O3 ⊢
 refine hK.out _ _ trivial (fun _ => ?_)
 have B6 := hid (S5.out.drew.bl.trans ((show Below w5.drew.heap.size w5.drew w6 from below_of_none g3).mono S5.out.drew.bl.size))
 have O6 := hid (OB.base (OB.as2 O3 (g' := reaF g n a) (fun j hj => by rw [HRF.out j]; split; rfl; rw [show 16 + (j - 16) = j from by omega])) S5.out.drew.bl.size)
 clear hK O3 g3 HA HX5 hsl r1 r2 c0 f0
 have c0 := (HW.out.below B6.out).2.1 0 _ rfl
 have f0 := (HW.out.below B6.out).2.2 0
 try simp only [Act.put, List.setIfInBounds_toArray, List.set_cons_zero, List.set_cons_succ]
 refine tkq 9 trivial ?_
 refine tkq 10 trivial ?_
 refine only 11 rfl (by kernel_rfl) rfl (fun K hK => ?_)
 refine ov_store rfl rfl rfl (w' := w6.setCell ⟨wb, 0, none⟩ (.slice A3 n c3)) (by go_simp) ?_
 refine hK.out _ _ trivial (fun _ => ?_)
 clear hK
 try simp only [Act.put, List.setIfInBounds_toArray, List.set_cons_zero, List.set_cons_succ]
 refine wpAnyH_done (by kernel_rfl) ?_ _
 go_wp2_with fail
 go_end0
 refine ⟨rfl, A3, c3, (HW.out.below B6.out).set 0 _ (by simp), OB.grown O6.out (grown_set w6 ⟨wb, 0, none⟩ _) (O6.out.ne HW.out.1), ?_, (Ch.of_below (S := [wb]) B6.out).set1 (.inl (by simp))⟩
 obtain ⟨_, _, e, h, _⟩ := O6.out.form_
 cases e
 exact h
end Go.Proofs.YteapnfdpkjbfhaaGreat
