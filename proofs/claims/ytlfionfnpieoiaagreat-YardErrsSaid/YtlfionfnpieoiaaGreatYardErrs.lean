/- roundhouselaw12.YardErrs answers true for every row, any two numbers, any bytes; no condition. -/
import Derived.Test.YtlfionfnpieoiaaGreatYdKnown
import Derived.Test.YtlfionfnpieoiaaGreatYdPack
import Derived.Test.YtlfionfnpieoiaaGreatYdPure
import Derived.Test.YtlfionfnpieoiaaGreatYdAdd
import Derived.BigQuiet
import Derived.Deep.RegionHeld3
import Derived.Deep.Cut
import Derived.Deep.CutRange
import Derived.IntWalk
namespace Go.Proofs.YtlfionfnpieoiaaGreat.yardErrs
set_option linter.unusedVariables false
set_option linter.unusedSimpArgs false
open Go.RowKit Go.ChangeShapes Go.WideShapes Go.ChangeAt
theorem YA.rest {S : List Nat} {W w : World} {D : Yl} {y : Yd} {R : List Th} {N : Nat} (h : YA S W w D y R N) : HS S W w R := by
 obtain ⟨V, ns, bf, hn, _, _, h3⟩ := h
 refine h3.sub ?_
 unfold YL
 exact (((((((List.sublist_append_right _ _).trans (List.sublist_append_right _ _)).cons _).cons _).cons _).cons _).cons _).cons _
theorem has0 (m : Int) : hasB m 0 = false := by cases h : hasB m 0 with | false => rfl | true => (unfold hasB at h; simp at h; omega)
theorem has2 {m : Int} (h : m < 0 ∨ 2 ≤ m) : hasB m 2 = false := by cases e : hasB m 2 with | false => rfl | true => (unfold hasB at e; simp at e; omega)
theorem zoc_fa2 (w : World) : (zeroValue 41).run Tryz.prog w = .ok (.agg (FA 4 (ocn 0 0))) w := zoc_fa w
attribute [local irreducible] FA FL
set_option maxRecDepth 100000 in
set_option maxHeartbeats 32000000 in
theorem walk (W : World) (A1 : Option Addr) (n1 c1 : Nat) (g1 : Nat → Int) (hn1 : n1 ≤ c1) (hc1 : c1 ≤ maxLen) (hr1 : Is W A1 n1 g1) (hg1 : IsI g1) (hl1 : ∀ ad, A1 = some ad → 0 < n1 → ad.block < W.heap.size) (re1 : c1 * 8 ≤ 140737488351232) (a0 : Int) (r_a0 : -9223372036854775808 ≤ a0 ∧ a0 ≤ 9223372036854775807) (b0 : Int) (r_b0 : -9223372036854775808 ≤ b0 ∧ b0 ≤ 9223372036854775807) (A2 : Option Addr) (n2 c2 : Nat) (g2 : Nat → Int) (hn2 : n2 ≤ c2) (hc2 : c2 ≤ maxLen) (hr2 : By W A2 n2 g2) (hg2 : IsB g2) (hl2 : ∀ ad, A2 = some ad → 0 < n2 → ad.block < W.heap.size) (re2 : c2 * 1 ≤ 140737488351232) :
 Calls Tryz.prog 3 #[.slice A1 n1 c1, .int .i64 a0, .int .i64 b0, .slice A2 n2 c2] W fun e w' => e = .returned (.bool true) ∧ Below W.heap.size W w' := by
 unfold maxLen at hc1
 have hnm : (n1 : Int) ≤ 9223372036854775807 := by have := hn1; omega
 have HL := hid hl1
 clear hl1 re1
 obtain ⟨p, hp⟩ : ∃ p, p = mkP g1 (min n1 20) := ⟨_, rfl⟩
 have GP : good p ∧ p.v ≤ 30 := by rw [hp]; exact good_mk g1 _ (by omega)
 have MK := hid (fun (w : World) (h : Is w A1 n1 g1) (hl : ∀ ad, A1 = some ad → 0 < n1 → ad.block < w.heap.size) => (show Calls Tryz.prog 5 #[.slice A1 n1 c1, .int .i64 20] w fun x w' => x = .returned (.agg (FA 330 (pc p))) ∧ Below w.heap.size w w' from by rw [hp]; exact make_fa w A1 n1 c1 g1 h hl hnm 20 (by omega)))
 clear hp
 have hv0 := GP.1.v
 have hv30 := GP.2
 clear hv0 hv30 GP hr2 hg2 hl2 re2 hc2
 by_cases hbig : (1500 : Int) < n2
 ·have S0 : Hid (HS [] W W []) := hid HS.start
  go_enter Tryz.func3, Tryz.ntmps3
  go_wp2_with fail
  refine (yknown_any _).mono ?_
  rintro x w1 ⟨rfl, hB⟩
  have R1 := hid (hr1.below hB (Nat.le_refl _))
  have B1 := hid hB
  have S1 := hid (S0.out.below hB)
  clear hr1 hB S0
  go_wp2_with fail
  go_ret
  exact ⟨rfl, B1.out⟩
 ·have S0 : Hid (HS [] W W []) := hid HS.start
  go_enter Tryz.func3, Tryz.ntmps3
  go_wp2_with fail
  refine (yknown_any _).mono ?_
  rintro x w1 ⟨rfl, hB⟩
  have R1 := hid (hr1.below hB (Nat.le_refl _))
  have B1 := hid hB
  have S1 := hid (S0.out.below hB)
  clear hr1 hB S0
  go_wp2_with fail
  refine (MK.out _ R1.out (fun ad e h => Nat.lt_of_lt_of_le (HL.out ad e h) B1.out.size)).mono ?_
  rintro x w2 ⟨rfl, hb⟩
  have S2 := hid (S1.out.below hb)
  clear hb S1 MK
  go_simp
  go_upto_region 6 with (first | ((with_reducible refine wl_id ?_); refine wl_ow rfl (ow_alloc rfl (zpl_fa _) (by omega) S2.out ?_); intro P w_ hZ _; have SA := hid hZ; clear hZ) | ((with_reducible refine wl_id ?_); refine wl_ow rfl (ow_store (A := []) 0 330 (pc p) (pc p) rfl rfl rfl SA.out (by omega) (fun j hj => patch_all _ _ _ j hj) info_pl (pc_one _) ?_); intro w_ hZ; have S3 := hid hZ; clear hZ))
  clear S2 R1 B1
  have hcs : (a0 < 1 ∨ 16 < a0) ∨ (1 ≤ a0 ∧ a0 ≤ 16) := by omega
  rcases hcs with hcs | ⟨hc1_, hc2_⟩
  ·go_wp2_with ((with_reducible refine wl_id ?_); refine wl_ow rfl (ow_load 0 rfl 0 330 (pc p) rfl rfl S3.out (by omega) (fun j hj => by rw [Nat.zero_add]) Tryz.underlying34 rfl info_pl ?_))
   refine (yd_newN S3.out p a0 hcs).mono ?_
   rintro x w4 ⟨rfl, hS⟩
   have S4 := hid hS
   clear hS S3
   go_simp
   have hcz : (1 : Int) ≤ a0 → ¬ a0 ≤ 16 := by omega
   have hcc : ¬ (1 : Int) ≤ a0 ∨ (1 : Int) ≤ a0 ∧ ¬ a0 ≤ 16 := by omega
   clear hcz hcs
   rcases hcc with h1 | ⟨h1, h2⟩
   ·go_wp2_with ((with_reducible refine wl_id ?_); refine wl_ow rfl (ow_load 0 rfl 0 330 (pc p) rfl rfl S4.out (by omega) (fun j hj => by rw [Nat.zero_add]) Tryz.underlying34 rfl info_pl ?_))
    refine (ya_new S4.out p 2 ⟨by decide, by decide⟩).mono ?_
    rintro x w5 ⟨D, rfl, hY⟩
    have Y0 := hid hY
    clear hY S4
    go_simp
    go_upto_region 10 with (fail)
    go_cut [73] from 68 to 72 (fun v wx => ∃ b : Bool, v = .bool b ∧ (b = true ↔ 0 ≤ b0 ∧ b0 < 2) ∧ YA [] W wx D (newY p 2) [thB P 330 (pc p)] 16)
    case first =>
     have hn3 : b0 < 0 ∨ 2 ≤ b0 ∨ (0 ≤ b0 ∧ b0 < 2) := by omega
     rcases hn3 with h | h | ⟨h, h'⟩
     ·have h1 : ¬ (0 : Int) ≤ b0 := by omega
      go_wp2_with fail
      go_meet
      exact ⟨_, rfl, by simp <;> omega, Y0.out⟩
     ·have h1 : (0 : Int) ≤ b0 := by omega
      have h2 : ¬ b0 < 2 := by omega
      go_wp2_with fail
      go_meet
      exact ⟨_, rfl, by simp <;> omega, Y0.out⟩
     ·go_wp2_with fail
      go_meet
      exact ⟨_, rfl, by simp <;> omega, Y0.out⟩
    case rest =>
     obtain ⟨b, rfl, hb, hY⟩ := hcut
     have Y0 := hid hY
     clear hY
     have HB := hid hb
     clear hb
     go_upto_if 73 with (fail)
     go_cut [2] from 74 to 75 (fun v wx => ∃ m : Int, v = .int .i64 m ∧ (m < 0 ∨ 2 ≤ m) ∧ YA [] W wx D (newY p 2) [thB P 330 (pc p)] 16)
     case first =>
      cases b
      ·have h : b0 < 0 ∨ 2 ≤ b0 := by have h := HB.out; simp at h; omega
       clear HB
       go_wp2_with fail
       go_meet
       exact ⟨b0, rfl, h, Y0.out⟩
      ·clear HB
       go_wp2_with fail
       go_meet
       exact ⟨2, rfl, .inr (by omega), Y0.out⟩
     case rest =>
      obtain ⟨m, rfl, hm, hY⟩ := hcut
      have Y1 := hid hY
      have H2 := hid (has2 hm)
      clear hY Y0 hm
      have HUN := hid (show (newY p 2).h.un = 2 from rfl)
      have HNS := hid (show (newY p 2).ns.length = 0 from rfl)
      go_wp2_with fail
      refine (ya_packN Y1.out m (by rw [HUN.out]; exact H2.out) _).mono ?_
      rintro x w6 ⟨rfl, hb⟩
      have Y2 := hid (Y1.out.below hb)
      clear hb Y1
      go_simp
      have T0 : Hid (HS [] w6 w6 []) := hid HS.start
      go_upto_region 13 with (first | ((with_reducible refine wl_id ?_); refine wl_ow rfl (ow_alloc rfl (zoc_fa2 _) (by omega) T0.out ?_); intro U w_ hZ _; have T1 := hid hZ; clear hZ) | ((with_reducible refine wl_id ?_); refine wl_ow rfl (ow_store (A := []) 0 4 (ocn 10 (-1)) (ocn 10 (-1)) rfl rfl rfl T1.out (by omega) (fun j hj => patch_all _ _ _ j hj) info_oc (ocn_one _ _) ?_); intro w_ hZ; have T2 := hid hZ; clear hZ))
      clear T0 T1
      go_wp2_with fail
      refine (ya_packD (Y2.out.below T2.out.bl) 0 (by rw [HUN.out]; decide) rfl _).mono ?_
      rintro x w8 ⟨rfl, hb⟩
      have T3 := hid (T2.out.below hb)
      clear hb T2
      go_simp
      go_upto_region 14 with (first | ((with_reducible refine wl_id ?_); refine wl_ow rfl (ow_alloc rfl (zoc_fa2 _) (by omega) T3.out ?_); intro Z w_ hZ _; have T4 := hid hZ; clear hZ) | ((with_reducible refine wl_id ?_); refine wl_ow rfl (ow_store (A := []) 0 4 (ocn 10 (-1)) (ocn 10 (-1)) rfl rfl rfl T4.out (by omega) (fun j hj => patch_all _ _ _ j hj) info_oc (ocn_one _ _) ?_); intro w_ hZ; have T5 := hid hZ; clear hZ))
      clear T3 T4
      have Y3 := hid (Y2.out.below T5.out.bl)
      clear Y2
      go_wp2_with fail
      refine (ya_verN Y3.out m (by rw [HUN.out]; exact H2.out)).mono ?_
      rintro x w_ ⟨rfl, rfl⟩
      go_simp
      have z0 : _ = some (Value.int .i64 10) := (T5.out.fb 0 rfl).2.1 0 (by omega)
      have u0 : _ = some (Value.int .i64 10) := (T5.out.fb 1 rfl).2.1 0 (by omega)
      have u1 : _ = some (Value.int .i64 (-1)) := (T5.out.fb 1 rfl).2.1 1 (by omega)
      have u3 : _ = some (Value.slice none 0 0) := (T5.out.fb 1 rfl).2.1 3 (by omega)
      go_wp2_with fail
      clear z0 u0 u1 u3 T5
      refine (ya_crashN Y3.out m (by rw [HUN.out]; exact H2.out)).mono ?_
      rintro x w_ ⟨rfl, rfl⟩
      go_simp
      go_wp2_with fail
      refine (ya_delN Y3.out m (by rw [HNS.out]; exact has0 m) true).mono ?_
      rintro x w9 ⟨rfl, hY⟩
      have Y4 := hid hY
      clear hY Y3
      go_simp
      go_wp2_with fail
      refine (ya_loseN Y4.out 0 (by rw [HNS.out]; exact has0 0)).mono ?_
      rintro x w_ ⟨rfl, rfl⟩
      go_simp
      go_wp2_with fail
      refine (ya_delN Y4.out 0 (by rw [HNS.out]; exact has0 0) false).mono ?_
      rintro x w10 ⟨rfl, hY⟩
      have Y5 := hid hY
      clear hY Y4
      go_simp
      go_wp2_with fail
      go_ret
      exact ⟨rfl, Y5.out.ch.below (by simp) (Nat.le_refl _)⟩
   ·go_wp2_with ((with_reducible refine wl_id ?_); refine wl_ow rfl (ow_load 0 rfl 0 330 (pc p) rfl rfl S4.out (by omega) (fun j hj => by rw [Nat.zero_add]) Tryz.underlying34 rfl info_pl ?_))
    refine (ya_new S4.out p 2 ⟨by decide, by decide⟩).mono ?_
    rintro x w5 ⟨D, rfl, hY⟩
    have Y0 := hid hY
    clear hY S4
    go_simp
    go_upto_region 10 with (fail)
    go_cut [73] from 68 to 72 (fun v wx => ∃ b : Bool, v = .bool b ∧ (b = true ↔ 0 ≤ b0 ∧ b0 < 2) ∧ YA [] W wx D (newY p 2) [thB P 330 (pc p)] 16)
    case first =>
     have hn3 : b0 < 0 ∨ 2 ≤ b0 ∨ (0 ≤ b0 ∧ b0 < 2) := by omega
     rcases hn3 with h | h | ⟨h, h'⟩
     ·have h1 : ¬ (0 : Int) ≤ b0 := by omega
      go_wp2_with fail
      go_meet
      exact ⟨_, rfl, by simp <;> omega, Y0.out⟩
     ·have h1 : (0 : Int) ≤ b0 := by omega
      have h2 : ¬ b0 < 2 := by omega
      go_wp2_with fail
      go_meet
      exact ⟨_, rfl, by simp <;> omega, Y0.out⟩
     ·go_wp2_with fail
      go_meet
      exact ⟨_, rfl, by simp <;> omega, Y0.out⟩
    case rest =>
     obtain ⟨b, rfl, hb, hY⟩ := hcut
     have Y0 := hid hY
     clear hY
     have HB := hid hb
     clear hb
     go_upto_if 73 with (fail)
     go_cut [2] from 74 to 75 (fun v wx => ∃ m : Int, v = .int .i64 m ∧ (m < 0 ∨ 2 ≤ m) ∧ YA [] W wx D (newY p 2) [thB P 330 (pc p)] 16)
     case first =>
      cases b
      ·have h : b0 < 0 ∨ 2 ≤ b0 := by have h := HB.out; simp at h; omega
       clear HB
       go_wp2_with fail
       go_meet
       exact ⟨b0, rfl, h, Y0.out⟩
      ·clear HB
       go_wp2_with fail
       go_meet
       exact ⟨2, rfl, .inr (by omega), Y0.out⟩
     case rest =>
      obtain ⟨m, rfl, hm, hY⟩ := hcut
      have Y1 := hid hY
      have H2 := hid (has2 hm)
      clear hY Y0 hm
      have HUN := hid (show (newY p 2).h.un = 2 from rfl)
      have HNS := hid (show (newY p 2).ns.length = 0 from rfl)
      go_wp2_with fail
      refine (ya_packN Y1.out m (by rw [HUN.out]; exact H2.out) _).mono ?_
      rintro x w6 ⟨rfl, hb⟩
      have Y2 := hid (Y1.out.below hb)
      clear hb Y1
      go_simp
      have T0 : Hid (HS [] w6 w6 []) := hid HS.start
      go_upto_region 13 with (first | ((with_reducible refine wl_id ?_); refine wl_ow rfl (ow_alloc rfl (zoc_fa2 _) (by omega) T0.out ?_); intro U w_ hZ _; have T1 := hid hZ; clear hZ) | ((with_reducible refine wl_id ?_); refine wl_ow rfl (ow_store (A := []) 0 4 (ocn 10 (-1)) (ocn 10 (-1)) rfl rfl rfl T1.out (by omega) (fun j hj => patch_all _ _ _ j hj) info_oc (ocn_one _ _) ?_); intro w_ hZ; have T2 := hid hZ; clear hZ))
      clear T0 T1
      go_wp2_with fail
      refine (ya_packD (Y2.out.below T2.out.bl) 0 (by rw [HUN.out]; decide) rfl _).mono ?_
      rintro x w8 ⟨rfl, hb⟩
      have T3 := hid (T2.out.below hb)
      clear hb T2
      go_simp
      go_upto_region 14 with (first | ((with_reducible refine wl_id ?_); refine wl_ow rfl (ow_alloc rfl (zoc_fa2 _) (by omega) T3.out ?_); intro Z w_ hZ _; have T4 := hid hZ; clear hZ) | ((with_reducible refine wl_id ?_); refine wl_ow rfl (ow_store (A := []) 0 4 (ocn 10 (-1)) (ocn 10 (-1)) rfl rfl rfl T4.out (by omega) (fun j hj => patch_all _ _ _ j hj) info_oc (ocn_one _ _) ?_); intro w_ hZ; have T5 := hid hZ; clear hZ))
      clear T3 T4
      have Y3 := hid (Y2.out.below T5.out.bl)
      clear Y2
      go_wp2_with fail
      refine (ya_verN Y3.out m (by rw [HUN.out]; exact H2.out)).mono ?_
      rintro x w_ ⟨rfl, rfl⟩
      go_simp
      have z0 : _ = some (Value.int .i64 10) := (T5.out.fb 0 rfl).2.1 0 (by omega)
      have u0 : _ = some (Value.int .i64 10) := (T5.out.fb 1 rfl).2.1 0 (by omega)
      have u1 : _ = some (Value.int .i64 (-1)) := (T5.out.fb 1 rfl).2.1 1 (by omega)
      have u3 : _ = some (Value.slice none 0 0) := (T5.out.fb 1 rfl).2.1 3 (by omega)
      go_wp2_with fail
      clear z0 u0 u1 u3 T5
      refine (ya_crashN Y3.out m (by rw [HUN.out]; exact H2.out)).mono ?_
      rintro x w_ ⟨rfl, rfl⟩
      go_simp
      go_wp2_with fail
      refine (ya_delN Y3.out m (by rw [HNS.out]; exact has0 m) true).mono ?_
      rintro x w9 ⟨rfl, hY⟩
      have Y4 := hid hY
      clear hY Y3
      go_simp
      go_wp2_with fail
      refine (ya_loseN Y4.out 0 (by rw [HNS.out]; exact has0 0)).mono ?_
      rintro x w_ ⟨rfl, rfl⟩
      go_simp
      go_wp2_with fail
      refine (ya_delN Y4.out 0 (by rw [HNS.out]; exact has0 0) false).mono ?_
      rintro x w10 ⟨rfl, hY⟩
      have Y5 := hid hY
      clear hY Y4
      go_simp
      go_wp2_with fail
      go_ret
      exact ⟨rfl, Y5.out.ch.below (by simp) (Nat.le_refl _)⟩
  ·obtain ⟨u, rfl⟩ : ∃ u : Nat, a0 = (u : Int) := ⟨a0.toNat, by omega⟩
   go_wp2_with ((with_reducible refine wl_id ?_); refine wl_ow rfl (ow_load 0 rfl 0 330 (pc p) rfl rfl S3.out (by omega) (fun j hj => by rw [Nat.zero_add]) Tryz.underlying34 rfl info_pl ?_))
   refine (ya_new S3.out p u ⟨by omega, by omega⟩).mono ?_
   rintro x w4 ⟨D1, rfl, hY⟩
   have S4 := hid (YA.rest hY)
   clear hY S3
   go_simp
   go_wp2_with ((with_reducible refine wl_id ?_); refine wl_ow rfl (ow_load 0 rfl 0 330 (pc p) rfl rfl S4.out (by omega) (fun j hj => by rw [Nat.zero_add]) Tryz.underlying34 rfl info_pl ?_))
   refine (ya_new S4.out p 2 ⟨by decide, by decide⟩).mono ?_
   rintro x w5 ⟨D, rfl, hY⟩
   have Y0 := hid hY
   clear hY S4
   go_simp
   go_upto_region 10 with (fail)
   go_cut [73] from 68 to 72 (fun v wx => ∃ b : Bool, v = .bool b ∧ (b = true ↔ 0 ≤ b0 ∧ b0 < 2) ∧ YA [] W wx D (newY p 2) [thB P 330 (pc p)] 16)
   case first =>
    have hn3 : b0 < 0 ∨ 2 ≤ b0 ∨ (0 ≤ b0 ∧ b0 < 2) := by omega
    rcases hn3 with h | h | ⟨h, h'⟩
    ·have h1 : ¬ (0 : Int) ≤ b0 := by omega
     go_wp2_with fail
     go_meet
     exact ⟨_, rfl, by simp <;> omega, Y0.out⟩
    ·have h1 : (0 : Int) ≤ b0 := by omega
     have h2 : ¬ b0 < 2 := by omega
     go_wp2_with fail
     go_meet
     exact ⟨_, rfl, by simp <;> omega, Y0.out⟩
    ·go_wp2_with fail
     go_meet
     exact ⟨_, rfl, by simp <;> omega, Y0.out⟩
   case rest =>
    obtain ⟨b, rfl, hb, hY⟩ := hcut
    have Y0 := hid hY
    clear hY
    have HB := hid hb
    clear hb
    go_upto_if 73 with (fail)
    go_cut [2] from 74 to 75 (fun v wx => ∃ m : Int, v = .int .i64 m ∧ (m < 0 ∨ 2 ≤ m) ∧ YA [] W wx D (newY p 2) [thB P 330 (pc p)] 16)
    case first =>
     cases b
     ·have h : b0 < 0 ∨ 2 ≤ b0 := by have h := HB.out; simp at h; omega
      clear HB
      go_wp2_with fail
      go_meet
      exact ⟨b0, rfl, h, Y0.out⟩
     ·clear HB
      go_wp2_with fail
      go_meet
      exact ⟨2, rfl, .inr (by omega), Y0.out⟩
    case rest =>
     obtain ⟨m, rfl, hm, hY⟩ := hcut
     have Y1 := hid hY
     have H2 := hid (has2 hm)
     clear hY Y0 hm
     have HUN := hid (show (newY p 2).h.un = 2 from rfl)
     have HNS := hid (show (newY p 2).ns.length = 0 from rfl)
     go_wp2_with fail
     refine (ya_packN Y1.out m (by rw [HUN.out]; exact H2.out) _).mono ?_
     rintro x w6 ⟨rfl, hb⟩
     have Y2 := hid (Y1.out.below hb)
     clear hb Y1
     go_simp
     have T0 : Hid (HS [] w6 w6 []) := hid HS.start
     go_upto_region 13 with (first | ((with_reducible refine wl_id ?_); refine wl_ow rfl (ow_alloc rfl (zoc_fa2 _) (by omega) T0.out ?_); intro U w_ hZ _; have T1 := hid hZ; clear hZ) | ((with_reducible refine wl_id ?_); refine wl_ow rfl (ow_store (A := []) 0 4 (ocn 10 (-1)) (ocn 10 (-1)) rfl rfl rfl T1.out (by omega) (fun j hj => patch_all _ _ _ j hj) info_oc (ocn_one _ _) ?_); intro w_ hZ; have T2 := hid hZ; clear hZ))
     clear T0 T1
     go_wp2_with fail
     refine (ya_packD (Y2.out.below T2.out.bl) 0 (by rw [HUN.out]; decide) rfl _).mono ?_
     rintro x w8 ⟨rfl, hb⟩
     have T3 := hid (T2.out.below hb)
     clear hb T2
     go_simp
     go_upto_region 14 with (first | ((with_reducible refine wl_id ?_); refine wl_ow rfl (ow_alloc rfl (zoc_fa2 _) (by omega) T3.out ?_); intro Z w_ hZ _; have T4 := hid hZ; clear hZ) | ((with_reducible refine wl_id ?_); refine wl_ow rfl (ow_store (A := []) 0 4 (ocn 10 (-1)) (ocn 10 (-1)) rfl rfl rfl T4.out (by omega) (fun j hj => patch_all _ _ _ j hj) info_oc (ocn_one _ _) ?_); intro w_ hZ; have T5 := hid hZ; clear hZ))
     clear T3 T4
     have Y3 := hid (Y2.out.below T5.out.bl)
     clear Y2
     go_wp2_with fail
     refine (ya_verN Y3.out m (by rw [HUN.out]; exact H2.out)).mono ?_
     rintro x w_ ⟨rfl, rfl⟩
     go_simp
     have z0 : _ = some (Value.int .i64 10) := (T5.out.fb 0 rfl).2.1 0 (by omega)
     have u0 : _ = some (Value.int .i64 10) := (T5.out.fb 1 rfl).2.1 0 (by omega)
     have u1 : _ = some (Value.int .i64 (-1)) := (T5.out.fb 1 rfl).2.1 1 (by omega)
     have u3 : _ = some (Value.slice none 0 0) := (T5.out.fb 1 rfl).2.1 3 (by omega)
     go_wp2_with fail
     clear z0 u0 u1 u3 T5
     refine (ya_crashN Y3.out m (by rw [HUN.out]; exact H2.out)).mono ?_
     rintro x w_ ⟨rfl, rfl⟩
     go_simp
     go_wp2_with fail
     refine (ya_delN Y3.out m (by rw [HNS.out]; exact has0 m) true).mono ?_
     rintro x w9 ⟨rfl, hY⟩
     have Y4 := hid hY
     clear hY Y3
     go_simp
     go_wp2_with fail
     refine (ya_loseN Y4.out 0 (by rw [HNS.out]; exact has0 0)).mono ?_
     rintro x w_ ⟨rfl, rfl⟩
     go_simp
     go_wp2_with fail
     refine (ya_delN Y4.out 0 (by rw [HNS.out]; exact has0 0) false).mono ?_
     rintro x w10 ⟨rfl, hY⟩
     have Y5 := hid hY
     clear hY Y4
     go_simp
     go_wp2_with fail
     go_ret
     exact ⟨rfl, Y5.out.ch.below (by simp) (Nat.le_refl _)⟩
set_option maxRecDepth 100000 in
theorem lifted (os : Os) (started : os.Started) (H : Type) (enc : TypeId × Value → H) :
 ReturnsInHanded {} Tryz.checked os 3 .any (Rows.yardErrsSpec.pre6 enc Tryz.prog Tryz.f3 [] false) (Rows.yardErrsSpec.post enc Tryz.prog Tryz.f3 false true false false) :=
 law_step (s := Rows.yardErrsSpec) started (by kernel_rfl) Tryz.func3
  (ChangeSpec.witness6 (s := Rows.yardErrsSpec) (enc := enc) (C := Tryz.checked) false ⟨#[], #[.slice none 0 0, .int .i64 0, .int .i64 0, .slice none 0 0], []⟩ 8 (by kernel_rfl) (by kernel_rfl) (by kernel_rfl) (by kernel_rfl))
  rfl (by rw [Tryz.params3]; decide +kernel) rfl Tryz.underlying4
  (fun ds h => by
   rw [Tryz.params3] at h
   match ds, h with
   | [_, _, _, _], _ => rfl)
  (fun W base args ds ps hval hA hsz => by
   rw [Tryz.params3] at hA hval hsz
   obtain ⟨v0, vs0, d0, ds0, p0, q0, hargs, rfl, rfl, h0, r0⟩ := trodAll_cons hA
   obtain ⟨v1, vs1, d1, ds1, p1, q1, rfl, rfl, rfl, h1, r1⟩ := trodAll_cons r0
   obtain ⟨v2, vs2, d2, ds2, p2, q2, rfl, rfl, rfl, h2, r2⟩ := trodAll_cons r1
   obtain ⟨v3, vs3, d3, ds3, p3, q3, rfl, rfl, rfl, h3, r3⟩ := trodAll_cons r2
   obtain ⟨rfl, rfl, rfl⟩ := trodAll_nil r3
   obtain rfl : args = #[v0, v1, v2, v3] := by cases args; simp_all
   obtain ⟨A0, n0, c0, g0, rfl, hn0, hc0, hs0, hw0, hl0, hd0⟩ := open_row Tryz.underlying22 Tryz.underlying3 (by kernel_rfl) (hval 0 22 v0 rfl rfl) h0
   have re0 : c0 * 8 ≤ 140737488351232 := by
    rcases hd0 with ⟨_, h0⟩ | ⟨xs, ys, h1, h2⟩
    ·omega
    ·have := sized_slice hsz (j := 0) (t := 22) (e := 3) rfl (by rw [h1]; rfl) Tryz.underlying22
     rw [h2, show Tryz.prog.bytesOf 3 = 8 from by kernel_rfl] at this
     simpa [reachBytes] using this
   obtain ⟨a1, rfl, rfl, rfl, w1⟩ := open_int Tryz.underlying3 (hval 1 3 v1 rfl rfl) h1
   obtain ⟨a2, rfl, rfl, rfl, w2⟩ := open_int Tryz.underlying3 (hval 2 3 v2 rfl rfl) h2
   obtain ⟨A3, n3, c3, g3, rfl, hn3, hc3, hs3, hw3, hl3, hd3⟩ := open_row Tryz.underlying23 Tryz.underlying5 (by kernel_rfl) (hval 3 23 v3 rfl rfl) h3
   have re3 : c3 * 1 ≤ 140737488351232 := by
    rcases hd3 with ⟨_, h0⟩ | ⟨xs, ys, h1, h2⟩
    ·omega
    ·have := sized_slice hsz (j := 3) (t := 23) (e := 5) rfl (by rw [h1]; rfl) Tryz.underlying23
     rw [h2, show Tryz.prog.bytesOf 5 = 1 from by kernel_rfl] at this
     simpa [reachBytes] using this
   exact walk W A0 n0 c0 g0 hn0 hc0 hs0 (fun j => bounds_i64 (hw0 j)) hl0 re0 a1 (bounds_i64 w1) a2 (bounds_i64 w2) A3 n3 c3 g3 hn3 hc3 hs3 (fun j => bounds_u8 (hw3 j)) hl3 re3)
theorem proved : Rows.YardErrsSaid :=
 OpenClaim.holds_of_wide 3 Tryz.f3 rfl rfl rfl rfl rfl rfl rfl ⟨rfl, rfl, rfl, rfl, rfl⟩ rfl rfl rfl rfl rfl (by kernel_rfl) Tryz.func3 (by kernel_rfl)
  (of_decide_eq_true (by kernel_rfl)) (by unfold Func.isWrapper; first | (rw [if_pos (by decide +kernel)]; kernel_rfl) | (rw [if_neg (by decide +kernel)]; exact ⟨rfl, rfl⟩))
  (fun os started H enc _ => lifted os started H enc)
end Go.Proofs.YtlfionfnpieoiaaGreat.yardErrs
