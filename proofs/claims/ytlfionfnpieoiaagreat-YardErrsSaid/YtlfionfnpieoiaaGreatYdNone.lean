/- A yard: a note that is none. -/
import Derived.Test.YtlfionfnpieoiaaGreatYdServe
import Derived.BigQuiet
import Derived.Deep.RegionHeld3
import Derived.Deep.Cut
import Derived.IntWalk
namespace Go.Proofs.YtlfionfnpieoiaaGreat
set_option linter.unusedVariables false
set_option linter.unusedSimpArgs false
open Go.RowKit Go.ChangeShapes Go.WideShapes Go.ChangeAt
set_option maxRecDepth 100000
attribute [local irreducible] FA FL
section
variable {S : List Nat} {W w : World} {Y hb ca cm : Nat} {U V : Value} {ns : List (Nat × Nt)} {M R : List Th}
set_option maxHeartbeats 8000000 in
theorem lane_atN (h : HS S W w (LL Y hb U V ca cm ns M R)) (i : Int) (hi : hasB i ns.length = false) : Calls Tryz.prog 25 #[.pointer (some ⟨Y, 2, none⟩), .int .i64 i] w fun e w' => e = .returned (.tuple #[.agg (FA 342 (ntc zNt)), .bool false]) ∧ Below w.heap.size w w' := by
 have HAS := hid (show ∀ (w' : World), Below w.heap.size w w' → Calls Tryz.prog 48 #[.pointer (some ⟨Y, 2, none⟩), .int .i64 i] w' fun x w2 => x = .returned (.bool false) ∧ w' = w2 from fun w' hb' => by
  have h2 := lane_has (h.below hb') i
  rw [hi] at h2
  exact h2)
 have S1 : Hid (HS [] w w []) := hid HS.start
 clear h
 go_enter Tryz.func25, Tryz.ntmps25
 go_upto_region 1 with ((with_reducible refine wl_id ?_); refine wl_ow rfl (ow_alloc rfl (znt_fa _) (by omega) S1.out ?_); intro Rb w_ hZ _; have S2 := hid hZ; clear hZ)
 go_wp2_with fail
 refine (HAS.out _ S2.out.bl).mono ?_
 rintro e w' ⟨rfl, rfl⟩
 go_simp
 go_upto_region 3 with ((with_reducible refine wl_id ?_); refine wl_ow rfl (ow_alloc rfl (znt_fa _) (by omega) S2.out ?_); intro Rc w2 hZ _; have S3 := hid hZ; clear hZ)
 apply wp_region_lit
 refine wl_ow rfl (ow_load 0 rfl 0 342 (ntc zNt) rfl rfl S3.out (by omega) (fun j hj => by rw [Nat.zero_add]) Tryz.underlying75 rfl info_nt ?_)
 try simp only [Act.put, List.setIfInBounds_toArray, List.set_cons_zero, List.set_cons_succ]
 refine wl_ow rfl (ow_store (A := [thB Rc 342 (ntc zNt)]) 0 342 (ntc zNt) (ntc zNt) rfl rfl rfl S3.out (by omega) (fun j hj => patch_all _ _ _ j hj) info_nt (ntc_one _) ?_)
 intro w9 hZ
 have S9 := hid hZ
 clear hZ S3
 try simp only [Act.put, List.setIfInBounds_toArray, List.set_cons_zero, List.set_cons_succ]
 refine wl_val (v := ?_) rfl ?_ ?_; rotate_left; (focus ( go_simp; (try with_reducible rfl))); (try simp only [Act.put, List.setIfInBounds_toArray, List.set_cons_zero, List.set_cons_succ])
 refine end_then ?_
 apply_assumption
 refine wp_ret ?_
 (repeat refine ret_then ?_)
 (show bodyPost _ _ _ _ _ _)
 exact bodyPost_ret (v := .tuple #[.agg (FA 342 (ntc zNt)), .bool false]) (results_cellv Tryz.results25 _ rfl rfl (S9.out.fb 1 rfl) Tryz.underlying75 rfl info_nt) rfl ⟨rfl, S9.out.bl⟩
end
section
variable {S : List Nat} {W w : World} {D : Yl} {h : Hd} {uf : Nat → Uy} {R : List Th}
set_option maxHeartbeats 8000000 in
theorem del_none (hS : HS S W w (YL D h uf R)) (i : Int) (hi : hasB i D.ns.length = false) (keep : Bool) : Calls Tryz.prog 10 #[.pointer (some ⟨D.Y, 0, none⟩), .int .i64 i, .bool keep] w fun e w' => e = .returned (.bool false) ∧ HS S W w' (YL D h uf R) := by
 have AT := hid (lane_atN (M := thH D.hb D.hc D.hm D.hn h :: thC1 D.ca [] :: thC1 D.cm [] :: thW 0 67 1 D.U h.un (ubV D) :: (List.range h.un).map (unT D uf)) (R := R) hS i hi)
 have S0 := hid hS
 clear hS
 go_enter Tryz.func10, Tryz.ntmps10
 go_wp2_with fail
 refine AT.out.mono ?_
 rintro e w1 ⟨rfl, hb⟩
 have S1 := hid (S0.out.below hb)
 clear hb AT S0
 go_simp
 go_wp2_with (first | ((with_reducible refine wl_id ?_); refine wl_ow rfl (ow_alloc rfl (znt_fa _) (by omega) S1.out ?_); intro X w_ hZ _; have S2 := hid hZ; clear hZ) | ((with_reducible refine wl_id ?_); refine wl_ow rfl (ow_store (A := []) 0 342 (ntc zNt) (ntc zNt) rfl rfl rfl S2.out (by omega) (fun j hj => patch_all _ _ _ j hj) info_nt (ntc_one _) ?_); intro w3 hZ; have S3 := hid hZ; clear hZ S2))
 go_ret
 exact ⟨rfl, S3.out.tail⟩
end
end Go.Proofs.YtlfionfnpieoiaaGreat
