/- A packet for a unit that is down, or none. -/
import Derived.Test.YtlfionfnpieoiaaGreatYdErr
import Derived.BigQuiet
import Derived.Deep.RegionHeld3
import Derived.Deep.Cut
import Derived.IntWalk
namespace Go.Proofs.YtlfionfnpieoiaaGreat
set_option linter.unusedVariables false
set_option linter.unusedSimpArgs false
open Go.RowKit Go.ChangeShapes Go.WideShapes Go.ChangeAt
set_option maxRecDepth 100000
/-- The cells of an outcome that drops. -/
def ocn (d s : Int) (j : Nat) : Value := if j = 0 then .int .i64 d else if j = 1 then .int .i64 s else if j = 2 then .bool false else .slice none 0 0
theorem zoc_fa (w : World) : (zeroValue 41).run Tryz.prog w = .ok (.agg (FA 4 (ocn 0 0))) w := by kernel_rfl
theorem info_oc : (Tryz.prog.info? 41).map (·.size) = some 4 := by kernel_rfl
theorem ocn_one (d s : Int) (j : Nat) : (ocn d s j).oneCell' = true := by
 unfold ocn
 split
 ·rfl
 ·split
  ·rfl
  ·split <;> rfl
theorem build_oc (d : Int) (w : World) : (Instr.build 41 #[(0, .int .i64 d), (1, .int .i64 (-1))]).run Tryz.prog w = .ok (.agg (FA 4 (ocn d (-1)))) w := run_build w _ _ _ (by kernel_rfl)
attribute [local irreducible] FA FL
theorem drop_any (d : Int) (w : World) : Calls Tryz.prog 40 #[.int .i64 d] w fun x w' => x = .returned (.agg (FA 4 (ocn d (-1)))) ∧ Below w.heap.size w w' := by
 have S0 : Hid (HS [] w w []) := hid HS.start
 go_enter Tryz.func40, Tryz.ntmps40
 go_upto_region 1 with (((with_reducible refine wl_id ?_); refine wl_ow rfl (ow_alloc rfl (zoc_fa _) (by omega) S0.out ?_); intro U w_ hZ _; have S1 := hid hZ; clear hZ))
 apply wp_region_lit
 refine wl_val (v := ?_) rfl ?_ ?_; rotate_left; (focus ( go_simp; (try with_reducible rfl))); (try simp only [Act.put, List.setIfInBounds_toArray, List.set_cons_zero, List.set_cons_succ])
 refine wl_val (v := .agg (FA 4 (ocn d (-1)))) rfl (ex_build2 rfl rfl rfl (build_oc d _)) ?_
 try simp only [Act.put, List.setIfInBounds_toArray, List.set_cons_zero, List.set_cons_succ]
 refine wl_ow rfl (ow_store (A := []) 0 4 (ocn d (-1)) (ocn d (-1)) rfl rfl rfl S1.out (by omega) (fun j hj => patch_all _ _ _ j hj) info_oc (ocn_one _ _) ?_)
 intro w9 hZ
 have S9 := hid hZ
 clear hZ S1
 try simp only [Act.put, List.setIfInBounds_toArray, List.set_cons_zero, List.set_cons_succ]
 refine end_then ?_
 apply_assumption
 refine wp_ret ?_
 (repeat refine ret_then ?_)
 (show bodyPost _ _ _ _ _ _)
 exact bodyPost_ret (v := .agg (FA 4 (ocn d (-1)))) (results_cell1 Tryz.results40 _ rfl (S9.out.fb 0 rfl) Tryz.underlying41 rfl info_oc) rfl ⟨rfl, S9.out.bl⟩
theorem take_down {w : World} {pb sb : Nat} {p : Pl} (h : PlnAt w pb sb p false) (v : Value) : Calls Tryz.prog 22 #[.pointer (some ⟨pb, 0, none⟩), v] w fun x w' => x = .returned (.agg (FA 4 (ocn 10 (-1)))) ∧ Below w.heap.size w w' := by
 obtain ⟨⟨nr, hF⟩, _⟩ := h
 have FF := hid hF
 clear hF
 have S0 : Hid (HS [] w w []) := hid HS.start
 go_enter Tryz.func22, Tryz.ntmps22
 go_upto_region 1 with (((with_reducible refine wl_id ?_); refine wl_ow rfl (ow_alloc rfl (zoc_fa _) (by omega) S0.out ?_); intro U w_ hZ _; have S1 := hid hZ; clear hZ))
 have F1 := FF.out.below S1.out.bl
 have c0 : _ = some (Value.pointer none) := F1.2.1 0 (by omega)
 have c1 : _ = some (Value.bool false) := F1.2.1 1 (by omega)
 clear F1
 go_wp2_with fail
 refine (get_anyP none false _).mono ?_
 rintro x w2 ⟨rfl, hb⟩
 have S2 := hid (S1.out.below hb)
 clear hb S1 c0 c1
 go_simp
 go_wp2_with fail
 refine (drop_any 10 _).mono ?_
 rintro x w3 ⟨rfl, hb⟩
 have S3 := hid (S2.out.below hb)
 clear hb S2
 go_simp
 go_wp2_with ((with_reducible refine wl_id ?_); refine wl_ow rfl (ow_store (A := []) 0 4 (ocn 10 (-1)) (ocn 10 (-1)) rfl rfl rfl S3.out (by omega) (fun j hj => patch_all _ _ _ j hj) info_oc (ocn_one _ _) ?_); intro w9 hZ; have S9 := hid hZ; clear hZ S3; refine end_then ?_; apply_assumption; refine wp_ret ?_; (repeat refine ret_then ?_); (show bodyPost _ _ _ _ _ _); exact bodyPost_ret (v := .agg (FA 4 (ocn 10 (-1)))) (results_cell1 Tryz.results22 _ rfl (S9.out.fb 0 rfl) Tryz.underlying41 rfl info_oc) rfl ⟨rfl, S9.out.bl⟩)
end Go.Proofs.YtlfionfnpieoiaaGreat
