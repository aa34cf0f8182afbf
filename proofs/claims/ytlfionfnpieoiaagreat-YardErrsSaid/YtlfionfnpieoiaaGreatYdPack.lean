/- Packet for a unit that is none, or down. -/
import Derived.Test.YtlfionfnpieoiaaGreatYdDown
import Derived.BigQuiet
import Derived.Deep.RegionHeld3
import Derived.Deep.Cut
import Derived.IntWalk
namespace Go.Proofs.YtlfionfnpieoiaaGreat
set_option linter.unusedVariables false
set_option linter.unusedSimpArgs false
open Go.RowKit Go.ChangeShapes Go.WideShapes Go.ChangeAt
set_option maxRecDepth 100000
theorem PlnAt.below {w w' : World} {pb sb : Nat} {p : Pl} {up : Bool} (h : PlnAt w pb sb p up) (hb : Below w.heap.size w w') : PlnAt w' pb sb p up := h.same fun b hb' => hb.block b (h.lt b hb')
attribute [local irreducible] FA FL
section
variable {S : List Nat} {W w : World} {D : Yl} {y : Yd} {R : List Th} {N : Nat}
theorem ya_packN (h : YA S W w D y R N) (i : Int) (hi : hasB i y.h.un = false) (v : Value) : Calls Tryz.prog 7 #[.pointer (some ⟨D.Y, 0, none⟩), .int .i64 i, v] w fun x w' => x = .returned (.agg (FA 4 (ocn 10 (-1)))) ∧ Below w.heap.size w w' := by
 have HAS := hid (fun (w' : World) (hb : Below w.heap.size w w') => ya_has (h.below hb) i)
 rw [hi] at HAS
 have S0 : Hid (HS [] w w []) := hid HS.start
 clear h
 go_enter Tryz.func7, Tryz.ntmps7
 go_upto_region 1 with (((with_reducible refine wl_id ?_); refine wl_ow rfl (ow_alloc rfl (zoc_fa _) (by omega) S0.out ?_); intro U w_ hZ _; have S1 := hid hZ; clear hZ))
 go_wp2_with fail
 refine (HAS.out _ S1.out.bl).mono ?_
 rintro e w' ⟨rfl, rfl⟩
 go_simp
 go_upto_region 2 with (fail)
 apply wp_region_lit
 refine wl_val (v := .agg (FA 4 (ocn 10 (-1)))) rfl (ex_build2 rfl rfl rfl (build_oc 10 _)) ?_
 try simp only [Act.put, List.setIfInBounds_toArray, List.set_cons_zero, List.set_cons_succ]
 refine wl_ow rfl (ow_store (A := []) 0 4 (ocn 10 (-1)) (ocn 10 (-1)) rfl rfl rfl S1.out (by omega) (fun j hj => patch_all _ _ _ j hj) info_oc (ocn_one _ _) ?_)
 intro w9 hZ
 have S9 := hid hZ
 clear hZ S1
 try simp only [Act.put, List.setIfInBounds_toArray, List.set_cons_zero, List.set_cons_succ]
 refine end_then ?_
 apply_assumption
 refine wp_ret ?_
 (repeat refine ret_then ?_)
 (show bodyPost _ _ _ _ _ _)
 exact bodyPost_ret (v := .agg (FA 4 (ocn 10 (-1)))) (results_cell1 Tryz.results7 _ rfl (S9.out.fb 0 rfl) Tryz.underlying41 rfl info_oc) rfl ⟨rfl, S9.out.bl⟩
theorem ya_packD (h : YA S W w D y R N) (i : Nat) (hi : i < y.h.un) (hup : (y.uf i).up = false) (v : Value) : Calls Tryz.prog 7 #[.pointer (some ⟨D.Y, 0, none⟩), .int .i64 (i : Int), v] w fun x w' => x = .returned (.agg (FA 4 (ocn 10 (-1)))) ∧ Below w.heap.size w w' := by
 obtain ⟨V, ns, bf, hn, h1, h2, h3⟩ := h
 obtain ⟨g, c, hU, hc, c1, ce⟩ := YL.unit h3 hi
 have hO := YL.open_ h3 hi
 have c3 : w.cell? ⟨(bf i).1, 332, none⟩ = some (.pointer (some ⟨(bf i).2.1, 0, none⟩)) := (hO.fb 0 rfl).2.1 332 (by omega)
 have hP : PlnAt w (bf i).2.1 (bf i).2.2 (y.uf i).p (y.uf i).up := hO.nth 1 rfl
 rw [hup] at hP
 have HP := hid hP
 have HAS := hid (fun (w' : World) (hb : Below w.heap.size w w') => yd_has (h3.below hb) (i : Int))
 rw [show hasB (i : Int) y.h.un = true from by unfold hasB; simp [hi]] at HAS
 have C1 := hid c1
 have CE := hid ce
 have C3 := hid c3
 obtain ⟨n, hn'⟩ : ∃ n, n = y.h.un := ⟨_, rfl⟩
 rw [← hn'] at C1 hi
 have S0 : Hid (HS [] w w []) := hid HS.start
 have z1 : (0 : Int) ≤ i := by omega
 have z2 : (i : Int) < n := by omega
 clear h3 hO c1 ce c3 hP hU hc hn' h2 h1
 go_enter Tryz.func7, Tryz.ntmps7
 go_upto_region 1 with (((with_reducible refine wl_id ?_); refine wl_ow rfl (ow_alloc rfl (zoc_fa _) (by omega) S0.out ?_); intro U w_ hZ _; have S1 := hid hZ; clear hZ))
 go_wp2_with fail
 refine (HAS.out _ S1.out.bl).mono ?_
 rintro e w' ⟨rfl, rfl⟩
 go_simp
 have k1 := (Below.cell S1.out.bl (p := ⟨D.Y, 1, none⟩) (World.block_lt_of_cell? _ _ C1.out)).trans C1.out
 have k2 := (Below.cell S1.out.bl (p := ⟨g, i, none⟩) (World.block_lt_of_cell? _ _ CE.out)).trans CE.out
 have k3 := (Below.cell S1.out.bl (p := ⟨(bf i).1, 332, none⟩) (World.block_lt_of_cell? _ _ C3.out)).trans C3.out
 have TD := hid (take_down (PlnAt.below HP.out S1.out.bl) v)
 go_wp2_with fail
 refine TD.out.mono ?_
 rintro e w3 ⟨rfl, hb⟩
 have S3 := hid (S1.out.below hb)
 clear hb S1 k1 k2 k3 TD
 go_simp
 go_wp2_with ((with_reducible refine wl_id ?_); refine wl_ow rfl (ow_store (A := []) 0 4 (ocn 10 (-1)) (ocn 10 (-1)) rfl rfl rfl S3.out (by omega) (fun j hj => patch_all _ _ _ j hj) info_oc (ocn_one _ _) ?_); intro w9 hZ; have S9 := hid hZ; clear hZ S3; refine end_then ?_; apply_assumption; refine wp_ret ?_; (repeat refine ret_then ?_); (show bodyPost _ _ _ _ _ _); exact bodyPost_ret (v := .agg (FA 4 (ocn 10 (-1)))) (results_cell1 Tryz.results7 _ rfl (S9.out.fb 0 rfl) Tryz.underlying41 rfl info_oc) rfl ⟨rfl, S9.out.bl⟩)
end
end Go.Proofs.YtlfionfnpieoiaaGreat
