/- A unit reads a note. -/
import Derived.Test.YteefhiniamajkaaGreatUnt2
import Derived.BigQuiet
import Derived.Deep.RegionHeld3
import Derived.Deep.Cut
import Derived.IntWalk
namespace Go.Proofs.YteefhiniamajkaaGreat
set_option linter.unusedVariables false
set_option linter.unusedSimpArgs false
open Go.RowKit Go.ChangeShapes Go.WideShapes Go.ChangeAt
attribute [local irreducible] FA FL
set_option maxRecDepth 100000 in
set_option maxHeartbeats 8000000 in
theorem unit_read {S : List Nat} {W w : World} {B : List Th} {ub pb sb i : Nat} {u : Uy} (hS : HS S W w (thB ub 333 (uc (i : Int) u.b u.p pb) :: thP pb sb u.p u.up :: B)) (n : Nt) (hp : PB u.p) (hw : (readU n u).up = true → Pw (readU n u).p) : Calls Tryz.prog 69 #[.pointer (some ⟨ub, 0, none⟩), .agg (FA 342 (ntc n))] w fun x w' => x = .returned (.agg (FA 342 (ntc (ackU i (readU n u))))) ∧ ∃ sb', HS S W w' (thB ub 333 (uc (i : Int) (readU n u).b (readU n u).p pb) :: thP pb sb' (readU n u).p (readU n u).up :: B) := by
  have S0 := hid hS
  clear hS
  obtain ⟨ub_, hub⟩ : ∃ x, x = u.b := ⟨_, rfl⟩
  obtain ⟨nb_, hnb⟩ : ∃ x, x = n.b := ⟨_, rfl⟩
  replace hub := hid hub
  replace hnb := hid hnb
  go_enter Tryz.func69, Tryz.ntmps69
  go_upto_region 0 with (fail)
  apply wp_region_lit
  refine wl_ow rfl (ow_box rfl rfl (by omega) S0.out (fun X w1 hZ _ => ?_))
  have S1 := hid hZ
  clear hZ S0
  try simp only [Act.put, List.setIfInBounds_toArray, List.set_cons_zero, List.set_cons_succ]
  refine wl_ow rfl (ow_alloc rfl (znt_fa _) (by omega) S1.out (fun R w2 hZ _ => ?_))
  have S2 := hid hZ
  clear hZ S1
  try simp only [Act.put, List.setIfInBounds_toArray, List.set_cons_zero, List.set_cons_succ]
  go_upto_region 1 with (fail)
  refine wp_region_held_drew (S := fun (w' : World) => HS S W w' (thB R 342 (ntc zNt) :: thB X 342 (ntc n) :: thB ub 333 (uc (i : Int) u.b u.p pb) :: thP pb sb u.p u.up :: B)) (by kernel_rfl) ?_ (fun hHeld => ?_)
  · exact S2.out.drew
  refine tkq 0 hHeld ?_
  refine tkq 1 hHeld ?_ (hy := by intro w hSw; (try dsimp only at hSw); have x0 : w.cell? ⟨X, 1, none⟩ = some (.int .i64 nb_) := (by rw [hnb.out]; exact (hSw.fb 1 rfl).2.1 1 (by omega)); go_simp; (try with_reducible rfl))
  refine tkq 2 hHeld ?_
  refine tkq 3 hHeld ?_
  refine tkq 4 hHeld ?_
  refine tkq 5 hHeld ?_ (hy := by intro w hSw; (try dsimp only at hSw); have x0 : w.cell? ⟨ub, 1, none⟩ = some (.int .i64 ub_) := (by rw [hub.out]; exact (hSw.fb 2 rfl).2.1 1 (by omega)); go_simp; (try with_reducible rfl))
  refine tkq 6 hHeld ?_
  have S3 := hid hHeld.rot2
  clear hHeld S2
  refine wpAnyH_done (by kernel_rfl) ?_ _
  by_cases hbo : nb_ = ub_
  · have d1 : (nb_ == ub_) = true := by simp [hbo]
    have RE := hid (show readU n u = folU n u from by unfold readU; rw [if_pos (by rw [← hub.out, ← hnb.out]; exact hbo)])
    clear hbo
    go_upto_region 2 with (fail)
    apply wp_region_lit
    refine wl_val (v := ?_) rfl ?_ ?_; rotate_left; (focus ( go_simp; (try with_reducible rfl))); (try simp only [Act.put, List.setIfInBounds_toArray, List.set_cons_zero, List.set_cons_succ])
    refine wl_ow rfl (ow_load 3 rfl 0 342 (ntc n) rfl rfl S3.out (by omega) (fun j hj => by rw [Nat.zero_add]) Tryz.underlying94 rfl info_nt ?_)
    try simp only [Act.put, List.setIfInBounds_toArray, List.set_cons_zero, List.set_cons_succ]
    go_wp2_with fail
    refine (unit_fol S3.out n hp (by rw [← RE.out]; exact hw)).mono ?_
    rintro x w4 ⟨rfl, sb', hZ⟩
    have S4 := hid hZ
    clear hZ S3 d1
    go_simp
    obtain ⟨vv, hvv⟩ : ∃ vv, vv = ver (folU n u) := ⟨_, rfl⟩
    have HVV := hid (show (if (folU n u).up = true then (folU n u).p.v else -1) = vv from hvv.symm)
    have HV2 := hid hvv
    clear hvv
    go_upto_region 3 with (fail)
    refine wp_region_held_drew (S := fun (w' : World) => ∃ f, HS S W w' (thB ub 333 (uc (i : Int) u.b (folU n u).p pb) :: thP pb sb' (folU n u).p (folU n u).up :: thB R 342 f :: thB X 342 (ntc n) :: B)) (by kernel_rfl) ?_ (fun hHeld => ?_)
    · exact ⟨_, S4.out.drew⟩
    have F0 := S4.out.drew
    refine tkq 0 hHeld ?_
    refine tkq 1 hHeld ?_
    refine tkq 2 hHeld ?_
    refine tkq 3 hHeld ?_ (hy := by intro w hSw; (try dsimp only at hSw); obtain ⟨_, hS⟩ := hSw; have x0 : w.cell? ⟨ub, 0, none⟩ = some (.int .i64 (i : Int)) := (hS.fb 0 rfl).2.1 0 (by omega); go_simp; (try with_reducible rfl))
    refine tkq 4 hHeld ?_
    refine tkq 5 hHeld ?_
    refine tkq 6 hHeld ?_
    refine tkq 7 hHeld ?_ (hy := by intro w hSw; (try dsimp only at hSw); obtain ⟨_, hS⟩ := hSw; have x0 : w.cell? ⟨ub, 1, none⟩ = some (.int .i64 ub_) := (by rw [hub.out]; exact (hS.fb 0 rfl).2.1 1 (by omega)); go_simp; (try with_reducible rfl))
    refine tkq 8 hHeld ?_
    refine only 9 rfl (by kernel_rfl) rfl (fun K hK => ?_)
    go_simp
    refine (unit_ver (F0.fb 0 rfl) (F0.nth 1 rfl)).mono ?_
    rintro e' w' ⟨rfl, hb⟩
    rw [HVV.out]
    try go_wp2_with fail
    have h2 := F0.below hb
    refine hK.out _ _ (⟨_, h2⟩) (fun h3 => ?_)
    clear hK
    try simp only [Act.put, List.setIfInBounds_toArray, List.set_cons_zero, List.set_cons_succ]
    clear hb hHeld F0
    refine tk 10 (v := .agg (FA 342 (ntc ⟨(i : Int), ub_, vv, false, true, zEn, zPl⟩))) rfl (by kernel_rfl) (by kernel_rfl) (by kernel_rfl) (fun _ _ _ h => h) rfl (fun w hSw => ex_build4 rfl rfl rfl rfl rfl (build_ackF _ _ _ w)) h3 ?_; (try simp only [Act.put, List.setIfInBounds_toArray, List.set_cons_zero, List.set_cons_succ])
    refine only 11 rfl (by kernel_rfl) rfl (fun K hK => ?_)
    refine ow_store (A := [thB ub 333 (uc (i : Int) u.b (folU n u).p pb), thP pb sb' (folU n u).p (folU n u).up]) 0 342 (ntc ⟨(i : Int), ub_, vv, false, true, zEn, zPl⟩) (ntc ⟨(i : Int), ub_, vv, false, true, zEn, zPl⟩) rfl rfl rfl h2 (by omega) (fun j hj => patch_all _ _ _ j hj) info_nt (ntc_one _) (fun w3 hN => ?_)
    refine hK.out _ _ (⟨_, hN⟩) (fun h4 => ?_)
    clear hK
    try simp only [Act.put, List.setIfInBounds_toArray, List.set_cons_zero, List.set_cons_succ]
    have S9 := hid hN
    clear h4 h3 h2 hN S4
    refine wpAnyH_done (by kernel_rfl) ?_ _
    try apply_assumption
    refine wp_ret ?_
    (repeat refine ret_then ?_)
    (show bodyPost _ _ _ _ _ _)
    refine bodyPost_ret (v := .agg (FA 342 (ntc ⟨(i : Int), ub_, vv, false, true, zEn, zPl⟩))) (results_cell1 Tryz.results69 _ rfl (S9.out.fb 2 rfl) Tryz.underlying94 rfl info_nt) rfl ?_
    refine ⟨?_, sb', ?_⟩
    · rw [RE.out]
      unfold ackU
      rw [fol_b, ← hub.out, ← HV2.out]
    · rw [RE.out, fol_b]
      exact HS.drop2 (HS.drop2 S9.out)
  · have d1 : (nb_ == ub_) = false := by simp [hbo]
    have RE := hid (show readU n u = u from by unfold readU; rw [if_neg (by rw [← hub.out, ← hnb.out]; exact hbo)])
    clear hbo
    have S4 := hid S3.out
    clear S3
    go_simp
    obtain ⟨vv, hvv⟩ : ∃ vv, vv = ver u := ⟨_, rfl⟩
    have HVV := hid (show (if u.up = true then u.p.v else -1) = vv from hvv.symm)
    have HV2 := hid hvv
    clear hvv
    go_upto_region 3 with (fail)
    refine wp_region_held_drew (S := fun (w' : World) => ∃ f, HS S W w' (thB ub 333 (uc (i : Int) u.b u.p pb) :: thP pb sb u.p u.up :: thB R 342 f :: thB X 342 (ntc n) :: B)) (by kernel_rfl) ?_ (fun hHeld => ?_)
    · exact ⟨_, S4.out.drew⟩
    have F0 := S4.out.drew
    refine tkq 0 hHeld ?_
    refine tkq 1 hHeld ?_
    refine tkq 2 hHeld ?_
    refine tkq 3 hHeld ?_ (hy := by intro w hSw; (try dsimp only at hSw); obtain ⟨_, hS⟩ := hSw; have x0 : w.cell? ⟨ub, 0, none⟩ = some (.int .i64 (i : Int)) := (hS.fb 0 rfl).2.1 0 (by omega); go_simp; (try with_reducible rfl))
    refine tkq 4 hHeld ?_
    refine tkq 5 hHeld ?_
    refine tkq 6 hHeld ?_
    refine tkq 7 hHeld ?_ (hy := by intro w hSw; (try dsimp only at hSw); obtain ⟨_, hS⟩ := hSw; have x0 : w.cell? ⟨ub, 1, none⟩ = some (.int .i64 ub_) := (by rw [hub.out]; exact (hS.fb 0 rfl).2.1 1 (by omega)); go_simp; (try with_reducible rfl))
    refine tkq 8 hHeld ?_
    refine only 9 rfl (by kernel_rfl) rfl (fun K hK => ?_)
    go_simp
    refine (unit_ver (F0.fb 0 rfl) (F0.nth 1 rfl)).mono ?_
    rintro e' w' ⟨rfl, hb⟩
    rw [HVV.out]
    try go_wp2_with fail
    have h2 := F0.below hb
    refine hK.out _ _ (⟨_, h2⟩) (fun h3 => ?_)
    clear hK
    try simp only [Act.put, List.setIfInBounds_toArray, List.set_cons_zero, List.set_cons_succ]
    clear hb hHeld F0
    refine tk 10 (v := .agg (FA 342 (ntc ⟨(i : Int), ub_, vv, false, true, zEn, zPl⟩))) rfl (by kernel_rfl) (by kernel_rfl) (by kernel_rfl) (fun _ _ _ h => h) rfl (fun w hSw => ex_build4 rfl rfl rfl rfl rfl (build_ackF _ _ _ w)) h3 ?_; (try simp only [Act.put, List.setIfInBounds_toArray, List.set_cons_zero, List.set_cons_succ])
    refine only 11 rfl (by kernel_rfl) rfl (fun K hK => ?_)
    refine ow_store (A := [thB ub 333 (uc (i : Int) u.b u.p pb), thP pb sb u.p u.up]) 0 342 (ntc ⟨(i : Int), ub_, vv, false, true, zEn, zPl⟩) (ntc ⟨(i : Int), ub_, vv, false, true, zEn, zPl⟩) rfl rfl rfl h2 (by omega) (fun j hj => patch_all _ _ _ j hj) info_nt (ntc_one _) (fun w3 hN => ?_)
    refine hK.out _ _ (⟨_, hN⟩) (fun h4 => ?_)
    clear hK
    try simp only [Act.put, List.setIfInBounds_toArray, List.set_cons_zero, List.set_cons_succ]
    have S9 := hid hN
    clear h4 h3 h2 hN S4
    refine wpAnyH_done (by kernel_rfl) ?_ _
    try apply_assumption
    refine wp_ret ?_
    (repeat refine ret_then ?_)
    (show bodyPost _ _ _ _ _ _)
    refine bodyPost_ret (v := .agg (FA 342 (ntc ⟨(i : Int), ub_, vv, false, true, zEn, zPl⟩))) (results_cell1 Tryz.results69 _ rfl (S9.out.fb 2 rfl) Tryz.underlying94 rfl info_nt) rfl ?_
    refine ⟨?_, sb, ?_⟩
    · rw [RE.out]
      unfold ackU
      rw [← hub.out, ← HV2.out]
    · rw [RE.out]
      exact HS.drop2 (HS.drop2 S9.out)
end Go.Proofs.YteefhiniamajkaaGreat
