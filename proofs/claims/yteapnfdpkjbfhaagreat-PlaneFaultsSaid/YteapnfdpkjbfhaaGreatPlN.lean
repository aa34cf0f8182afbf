/- A unit's Near, Version, Crash; Take of one that is down. -/
import Derived.Test.YteapnfdpkjbfhaaGreatGa
import Derived.Test.YteapnfdpkjbfhaaGreatGz
import Derived.BigQuiet
import Derived.Deep.RegionHeld3
import Derived.Deep.Cut
import Derived.IntWalk
namespace Go.Proofs.YteapnfdpkjbfhaaGreat
set_option linter.unusedVariables false
set_option linter.unusedSimpArgs false
open Go.RowKit Go.ChangeShapes Go.WideShapes Go.ChangeAt
set_option maxRecDepth 100000
theorem build_pl0 (w : World) : (Instr.build 99 #[]).run Tryz.prog w = .ok (.agg (FA 130 (plc none false nr0))) w := run_build w _ _ _ (by kernel_rfl)
theorem plc_one0 (j : Nat) : (plc none false nr0 j).oneCell' = true := by
 unfold plc nr0
 split
 ·rfl
 ·split
  ·rfl
  ·split <;> rfl
attribute [local irreducible] FA FL
set_option maxHeartbeats 4000000 in
theorem take_dn {w : World} {pb : Nat} {f : Nat → Value} (hF : Fb w pb 130 (plc none false f)) (v : Value) : Calls Tryz.prog 15 #[.pointer (some ⟨pb, 0, none⟩), v] w fun e w' => e = .returned (.agg #[.int .i64 10, .int .i64 (-1), .bool false, .slice none 0 0]) ∧ Below w.heap.size w w' := by
 have HF := hid hF
 have S0 : Hid (HS [] w w []) := hid HS.start
 clear hF
 go_enter Tryz.func15, Tryz.ntmps15
 go_upto_region 1 with ((with_reducible refine wl_id ?_); refine wl_ow rfl (ow_allocC rfl (zOc _) (by simp) S0.out ?_); intro U w_ hZ _; have S1 := hid hZ; clear hZ)
 have hF1 := HF.out.below S1.out.bl
 have c0 : w_.cell? ⟨pb, 0, none⟩ = some (.pointer none) := hF1.2.1 0 (by omega)
 have c1 : w_.cell? ⟨pb, 1, none⟩ = some (.bool false) := hF1.2.1 1 (by omega)
 clear hF1
 go_wp2_with fail
 refine (getp_any none false _).mono ?_
 rintro e w2 ⟨rfl, hb⟩
 have S2 := hid (S1.out.below hb)
 clear hb S0 S1 c0 c1
 go_simp
 go_wp2_with fail
 refine (drop_any 10 _).mono ?_
 rintro e w3 ⟨rfl, hb⟩
 have S3 := hid (S2.out.below hb)
 clear hb S2
 unfold ocV
 go_simp
 go_wp2_with ((with_reducible refine wl_id ?_); refine wl_ow rfl (ow_storeC (A := []) [.int .i64 10, .int .i64 (-1), .bool false, .slice none 0 0] rfl rfl (rfl) S3.out rfl iOc rfl ?_); intro w_ hZ; have S4 := hid hZ; clear hZ; (first | refine end_then ?_ | refine then_norm ?_); apply_assumption; refine wp_ret ?_; (repeat (first | refine ret_then ?_ | refine inb_ret ?_)); (show bodyPost _ _ _ _ _ _); exact bodyPost_ret (v := .agg ([.int .i64 10, .int .i64 (-1), .bool false, .slice none 0 0] : List Value).toArray) (results_C Tryz.results15 _ rfl (S4.out.ce 0 rfl) Tryz.underlying47 rfl iOc) rfl ⟨rfl, S4.out.bl⟩)
theorem near_p {w : World} {pb sb : Nat} {nr : Nat → Option Int} (hF : Fb w pb 130 (plf sb nr)) (s : Nat) (hs : s < 64) : Calls Tryz.prog 30 #[.pointer (some ⟨pb, 0, none⟩), .int .i64 (s : Int)] w fun e w' => e = .returned (.tuple #[.int .u32 ((nr s).getD 0), .bool (nr s).isSome]) ∧ Below w.heap.size w w' := by
 obtain ⟨n0, n1⟩ := nr_cell hF s hs
 have i0 : (0 : Int) ≤ s := by omega
 have i1 : (s : Int) < 64 := by omega
 have G := hid (fun (w : World) => get32_any ((nr s).getD 0) (nr s).isSome w)
 generalize (nr s).getD 0 = v at *
 generalize (nr s).isSome = b at *
 clear hF
 go_enter Tryz.func30, Tryz.ntmps30
 go_wp2_with fail
 refine (G.out _).mono ?_
 rintro e w2 ⟨rfl, hb⟩
 go_simp
 go_wp2_with fail
 go_ret2
 exact ⟨rfl, hb⟩
theorem ver_up {w : World} {pb sb wb : Nat} {p : Pl} {nr : Nat → Option Int} (hF : Fb w pb 130 (plf sb nr)) (hS : StAt w sb wb p) : Calls Tryz.prog 29 #[.pointer (some ⟨pb, 0, none⟩)] w fun e w' => e = .returned (.tuple #[.int .i64 p.v, .bool true]) ∧ Below w.heap.size w w' := by
 have c0 : w.cell? ⟨pb, 0, none⟩ = some (.pointer (some ⟨sb, 0, none⟩)) := hF.2.1 0 (by omega)
 have c1 : w.cell? ⟨pb, 1, none⟩ = some (.bool true) := hF.2.1 1 (by omega)
 have SV := hid (fun (w' : World) (hb : Below w.heap.size w w') => (show w'.cell? ⟨sb, 0, none⟩ = some (.int .i64 p.v) from (hb.cell (p := ⟨sb, 0, none⟩) hS.pl.1).trans (hS.pl.2.1 0 (by omega))))
 clear hF hS
 go_enter Tryz.func29, Tryz.ntmps29
 go_wp2_with fail
 refine (getp_any (some ⟨sb, 0, none⟩) true _).mono ?_
 rintro e w2 ⟨rfl, hb⟩
 have sv := SV.out _ hb
 clear c0 c1
 go_simp
 go_wp2_with fail
 go_ret2
 exact ⟨rfl, hb⟩
theorem ver_dn {w : World} {pb : Nat} {f : Nat → Value} (hF : Fb w pb 130 (plc none false f)) : Calls Tryz.prog 29 #[.pointer (some ⟨pb, 0, none⟩)] w fun e w' => e = .returned (.tuple #[.int .i64 0, .bool false]) ∧ Below w.heap.size w w' := by
 have c0 : w.cell? ⟨pb, 0, none⟩ = some (.pointer none) := hF.2.1 0 (by omega)
 have c1 : w.cell? ⟨pb, 1, none⟩ = some (.bool false) := hF.2.1 1 (by omega)
 clear hF
 go_enter Tryz.func29, Tryz.ntmps29
 go_wp2_with fail
 refine (getp_any none false _).mono ?_
 rintro e w2 ⟨rfl, hb⟩
 clear c0 c1
 go_simp
 go_wp2_with fail
 go_ret2
 exact ⟨rfl, hb⟩
set_option maxHeartbeats 4000000 in
theorem c_crash {S : List Nat} {W w : World} {A B : List Th} {pb : Nat} {f : Nat → Value} (hS : HS S W w (A ++ thB pb 130 f :: B)) : Calls Tryz.prog 28 #[.pointer (some ⟨pb, 0, none⟩)] w fun x w' => x = .returned (.tuple #[]) ∧ HS S W w' (A ++ thB pb 130 (plc none false nr0) :: B) := by
 have hP : Fb w pb 130 f := hS.1 (thB pb 130 f) (by simp)
 have ST := hid (hP.store (T := 99) 0 130 (plc none false nr0) (by omega) info_plane plc_one0)
 have S1 := hid (hS.set 0 130 (plc none false nr0) (by omega) (plc none false nr0) (fun j hj => patch_all _ _ _ j hj))
 clear hP hS
 go_enter Tryz.func28, Tryz.ntmps28
 go_upto_region 0 with (fail)
 apply wp_region_lit
 refine wl_val (v := ?_) rfl ?_ ?_; rotate_left; (focus ( go_simp; (try with_reducible rfl))); (try simp only [Act.put, List.setIfInBounds_toArray, List.set_cons_zero, List.set_cons_succ])
 refine wl_val (v := .agg (FA 130 (plc none false nr0))) rfl (by unfold execOp; simp only [List.map_toArray, List.map_nil, Sem.run_bind, build_pl0, Result.andThen_ok, Sem.run_pure]) ?_
 try simp only [Act.put, List.setIfInBounds_toArray, List.set_cons_zero, List.set_cons_succ]
 refine wl_val (v := ?_) rfl ?_ ?_; rotate_left; (focus ( go_simp; (try with_reducible rfl))); (try simp only [Act.put, List.setIfInBounds_toArray, List.set_cons_zero, List.set_cons_succ])
 refine wl_ow rfl (ov_store rfl rfl rfl ST.out ?_)
 try simp only [Act.put, List.setIfInBounds_toArray, List.set_cons_zero, List.set_cons_succ]
 generalize w.setCells pb 0 (FL 130 (plc none false nr0)) = w2 at *
 go_wp2_with fail
 go_end0
 exact ⟨rfl, S1.out⟩
end Go.Proofs.YteapnfdpkjbfhaaGreat
