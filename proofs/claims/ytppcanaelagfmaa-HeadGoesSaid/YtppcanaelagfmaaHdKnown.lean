/- The chapter's example. -/
import Derived.Test.YtppcanaelagfmaaHdLaw
import Derived.BigQuiet
import Derived.Deep.RegionHeld3
import Derived.Deep.Cut
import Derived.IntWalk
namespace Go.Proofs.Ytppcanaelagfmaa
set_option linter.unusedVariables false
set_option linter.unusedSimpArgs false
open Go.RowKit Go.ChangeShapes Go.WideShapes Go.ChangeAt
attribute [local irreducible] FA FL
set_option maxRecDepth 100000 in
set_option maxHeartbeats 8000000 in
theorem hknown_any (w : World) : Calls Try.prog 12 #[] w fun x w' => x = .returned (.bool true) ∧ Below w.heap.size w w' := by
  obtain ⟨p0, hp0⟩ : ∃ p, p = kp0 := ⟨_, rfl⟩
  have RN := hid (show ∀ w, Calls Try.prog 28 #[.int .i64 10, .int .i64 80, .agg #[.int .u64 0, .int .u64 0], .agg #[.int .u64 0, .int .u64 0]] w fun x w' => x = .returned (.tuple #[.agg (FA 330 (pc p0)), .int .i64 0]) ∧ Below w.heap.size w w' from by rw [hp0]; exact rnew_fa)
  have HP0 := hid hp0
  clear hp0
  have S0 := hid (HS.start (S := []) (W := w))
  go_enter Try.func12, Try.ntmps12
  go_wp2_with fail
  refine (RN.out _).mono ?_
  rintro x w1 ⟨rfl, hb⟩
  have S1 := hid (S0.out.below hb)
  clear hb S0
  go_simp
  go_upto_region 2 with (first | ((with_reducible refine wl_id ?_); refine wl_ow rfl (ow_alloc rfl (zpl_fa _) (by omega) S1.out ?_); intro P w_ hZ _; have SA := hid hZ; clear hZ) | ((with_reducible refine wl_id ?_); refine wl_ow rfl (ow_store (A := []) 0 330 (pc p0) (pc p0) rfl rfl rfl SA.out (by omega) (fun j hj => patch_all _ _ _ j hj) info_pl (pc_one _) ?_); intro w_ hZ; have S2 := hid hZ; clear hZ))
  have NW := hid (hnew_fa p0 2 ⟨by omega, by omega⟩)
  go_wp2_with ((with_reducible refine wl_id ?_); refine wl_ow rfl (ow_load 0 rfl 0 330 (pc p0) rfl rfl S2.out (by omega) (fun j hj => by rw [Nat.zero_add]) Try.underlying33 rfl info_pl ?_))
  refine (NW.out _).mono ?_
  rintro x w3 ⟨b, c, m, rfl, hH, g1, g2, g3, hB⟩
  rw [HP0.out] at hH
  have S3 : Hid (HS [] w w3 [thH b c m 2 kh0, thB P 330 (pc p0)]) := hid (HS.addH S2.out hH g1 g2 g3 hB)
  clear hH g1 g2 g3 hB NW
  go_simp
  have HB : ∀ (w : World) (c m n : Nat) (h : Hd), HeadAt w b c m n h → True := fun _ _ _ _ _ _ => trivial
  clear HB
  go_wp2_with fail
  refine (send_fa (S3.out.nth 0 rfl : HeadAt _ b c m 2 kh0) (by decide) (kpi.pb (by omega)) ⟨by decide, by decide⟩ kh0 [⟨0, 0, 0, true, false, zEn, kp0⟩, ⟨1, 0, 0, true, false, zEn, kp0⟩] ks0 kn0).mono ?_
  rintro x w4 ⟨A1, cc1, rfl, hlc, hH, hC, hrow⟩
  obtain ⟨G1, rfl, hg, hF⟩ := hrow (by decide)
  have S4 : Hid (HS [] w w4 [thB G1 684 (ntf [⟨0, 0, 0, true, false, zEn, kp0⟩, ⟨1, 0, 0, true, false, zEn, kp0⟩]), thH b c m 2 kh0, thB P 330 (pc p0)]) := hid (HS.updNew (A := []) S3.out (thH b c m 2 kh0) rfl hC hH hF hg)
  clear hH hC hrow hg hF S3
  go_simp
  go_wp2_with fail
  have SE := se_made (w := w4) [ke0] (T := 44) rfl
  have S5 : Hid (HS [] w (w4.alloc (.cells #[.int .i64 1, .int .i64 0, .int .i64 1, .int .i64 2, .int .i64 1, .int .u64 0, .int .u64 0] 44)) [thC w4.heap.size [.int .i64 1, .int .i64 0, .int .i64 1, .int .i64 2, .int .i64 1, .int .u64 0, .int .u64 0], thB G1 684 (ntf [⟨0, 0, 0, true, false, zEn, kp0⟩, ⟨1, 0, 0, true, false, zEn, kp0⟩]), thH b c m 2 kh0, thB P 330 (pc p0)]) := hid (S4.out.cells (T := 44) [.int .i64 1, .int .i64 0, .int .i64 1, .int .i64 2, .int .i64 1, .int .u64 0, .int .u64 0])
  refine (wish_any (S5.out.nth 2 rfl : HeadAt _ b c m 2 kh0) (gl [ke0]) _ 1 1 SE (fun ad e h0 => ?_) (by decide) 0 kpi (by omega)).mono ?_
  · injection e with e
    subst e
    have h1 : HeadAt _ b c m 2 kh0 := S4.out.nth 1 rfl
    have := h1.lt
    have := h1.ltc
    have := h1.ltm
    simp
    omega
  rintro x w6 ⟨q_, j_, er_, ho, rfl, hH, hC⟩
  obtain ⟨a, b', c'⟩ := ho.uniq kall
  subst a; subst b'; subst c'
  rw [if_pos rfl] at hH
  have S6 : Hid (HS [] w w6 [thB G1 684 (ntf [⟨0, 0, 0, true, false, zEn, kp0⟩, ⟨1, 0, 0, true, false, zEn, kp0⟩]), thH b c m 2 kh1, thB P 330 (pc p0)]) := hid (HS.tail (HS.upd (A := [thC w4.heap.size [.int .i64 1, .int .i64 0, .int .i64 1, .int .i64 2, .int .i64 1, .int .u64 0, .int .u64 0], thB G1 684 (ntf [⟨0, 0, 0, true, false, zEn, kp0⟩, ⟨1, 0, 0, true, false, zEn, kp0⟩])]) (B := [thB P 330 (pc p0)]) S5.out (thH b c m 2 kh1) rfl hC hH))
  clear hH hC ho SE S5
  go_simp
  go_upto_region 7 with (fail)
  apply wp_region_lit
  refine wl_val rfl rfl ?_
  refine wl_val rfl (ex_build2 rfl rfl rfl (build_nt04F 0 _)) ?_
  go_wp2_with fail
  refine (heard_fa (S6.out.nth 1 rfl : HeadAt _ b c m 2 kh1) (kn 0) (by decide) (by omega) kh2 kd2).mono ?_
  rintro x w7 ⟨rfl, hH, hC⟩
  have S7 : Hid (HS [] w w7 [thB G1 684 (ntf [⟨0, 0, 0, true, false, zEn, kp0⟩, ⟨1, 0, 0, true, false, zEn, kp0⟩]), thH b c m 3 kh2, thB P 330 (pc p0)]) := hid (HS.upd (A := [thB G1 684 (ntf [⟨0, 0, 0, true, false, zEn, kp0⟩, ⟨1, 0, 0, true, false, zEn, kp0⟩])]) (B := [thB P 330 (pc p0)]) S6.out (thH b c m 3 kh2) rfl hC hH)
  clear hH hC S6
  go_simp
  go_upto_region 8 with (fail)
  apply wp_region_lit
  refine wl_val rfl rfl ?_
  refine wl_val rfl (ex_build2 rfl rfl rfl (build_nt04F 1 _)) ?_
  go_wp2_with fail
  refine (heard_fa (S7.out.nth 1 rfl : HeadAt _ b c m 3 kh2) (kn 1) (by decide) (by omega) kh3 kd3).mono ?_
  rintro x w8 ⟨rfl, hH, hC⟩
  have S8 : Hid (HS [] w w8 [thB G1 684 (ntf [⟨0, 0, 0, true, false, zEn, kp0⟩, ⟨1, 0, 0, true, false, zEn, kp0⟩]), thH b c m 4 kh3, thB P 330 (pc p0)]) := hid (HS.upd (A := [thB G1 684 (ntf [⟨0, 0, 0, true, false, zEn, kp0⟩, ⟨1, 0, 0, true, false, zEn, kp0⟩])]) (B := [thB P 330 (pc p0)]) S7.out (thH b c m 4 kh3) rfl hC hH)
  clear hH hC S7
  go_simp
  go_wp2_with fail
  refine (send_fa (S8.out.nth 1 rfl : HeadAt _ b c m 4 kh3) (by decide) (kpi.pb (by omega)) (by rw [ks4]; exact ⟨by decide, by decide⟩) kh4 [⟨0, 0, 1, false, false, ke0, zPl⟩, ⟨1, 0, 1, false, false, ke0, zPl⟩] ks4 kn4).mono ?_
  rintro x w9 ⟨A2, cc2, rfl, hlc2, hH, hC, hrow⟩
  obtain ⟨G2, rfl, hg, hF⟩ := hrow (by decide)
  have S9 : Hid (HS [] w w9 [thB G2 684 (ntf [⟨0, 0, 1, false, false, ke0, zPl⟩, ⟨1, 0, 1, false, false, ke0, zPl⟩]), thB G1 684 (ntf [⟨0, 0, 0, true, false, zEn, kp0⟩, ⟨1, 0, 0, true, false, zEn, kp0⟩]), thH b c m 4 kh4, thB P 330 (pc p0)]) := hid (HS.updNew (A := [thB G1 684 (ntf [⟨0, 0, 0, true, false, zEn, kp0⟩, ⟨1, 0, 0, true, false, zEn, kp0⟩])]) S8.out (thH b c m 4 kh4) rfl hC hH hF hg)
  clear hH hC hrow hg hF S8
  go_simp
  have H9 : Hid (HeadAt w9 b c m 4 kh4) := hid (S9.out.nth 2 rfl)
  have f1 : w9.cell? ⟨G1, 3, none⟩ = some (.bool true) := (S9.out.fb 1 rfl).ntk 0 _ rfl (by omega) 3 (by omega)
  have f2 : w9.cell? ⟨G2, 345, none⟩ = some (.bool false) := (S9.out.fb 0 rfl).ntk 1 _ rfl (by omega) 3 (by omega)
  have f3 : w9.cell? ⟨G2, 344, none⟩ = some (.int .i64 1) := (S9.out.fb 0 rfl).ntk 1 _ rfl (by omega) 2 (by omega)
  have B9 := hid S9.out.bl
  have VV := hid (show Calls Try.prog 21 #[.pointer (some ⟨b, 0, none⟩)] w9 fun x w' => x = .returned (.int .i64 1) ∧ w9 = w' from version_any H9.out)
  have WW := hid (show Calls Try.prog 19 #[.pointer (some ⟨b, 0, none⟩)] w9 fun x w' => x = .returned (.int .i64 0) ∧ w9 = w' from waiting_any H9.out)
  have PP := hid (show Calls Try.prog 25 #[.pointer (some ⟨b, 0, none⟩)] w9 fun x w' => x = .returned (.agg (FA 330 (pc kp1))) ∧ Below w9.heap.size w9 w' from pool_fa H9.out)
  have FP := hid (show ∀ w : World, (Instr.field 33 (.agg (FA 330 (pc kp1))) 0).run Try.prog w = .ok (.int .i64 1) w from fun w => fld_pl kp1 w)
  simp only [List.length_cons, List.length_nil] at hlc hlc2
  go_wp2_with fail
  refine VV.out.mono ?_
  rintro x w' ⟨rfl, rfl⟩
  go_simp
  go_wp2_with fail
  refine WW.out.mono ?_
  rintro x w' ⟨rfl, rfl⟩
  go_simp
  go_wp2_with fail
  refine PP.out.mono ?_
  rintro x w10 ⟨rfl, hb⟩
  have BB := hid (B9.trans (hb.mono B9.size))
  have fp := FP.out w10
  clear hb
  go_simp
  go_wp2_with fail
  go_ret
  exact ⟨rfl, BB.out⟩
end Go.Proofs.Ytppcanaelagfmaa
