/- roundhouselaw9.PlaneOpens answers true for every row, any four numbers; no condition. -/
import Derived.Test.YtjfopkbpaekejaaGreatGa
import Derived.Test.YtjfopkbpaekejaaGreatPlKn9
import Derived.Test.YtjfopkbpaekejaaGreatPlOpM
import Derived.Deep.LoopGhost
import Derived.Deep.CutRange
import Derived.Deep.CutBlock
import Derived.IntWalk
import Derived.BigQuiet
import Derived.Deep.RegionHeld3
import Derived.Deep.Cut
namespace Go.Proofs.YtjfopkbpaekejaaGreat.planeOpens
set_option linter.unusedVariables false
set_option linter.unusedSimpArgs false
open Go.RowKit Go.ChangeShapes Go.WideShapes Go.ChangeAt

attribute [local irreducible] FA FL mkBO
set_option maxRecDepth 100000 in
set_option maxHeartbeats 8000000 in
theorem walk (W : World) (A1 : Option Addr) (n1 c1 : Nat) (g1 : Nat → Int) (hn1 : n1 ≤ c1) (hc1 : c1 ≤ maxLen) (hr1 : Is W A1 n1 g1) (hg1 : IsI g1) (hl1 : ∀ ad, A1 = some ad → 0 < n1 → ad.block < W.heap.size) (re1 : c1 * 8 ≤ 140737488351232) (a0 : Int) (r_a0 : -9223372036854775808 ≤ a0 ∧ a0 ≤ 9223372036854775807) (b0 : Int) (r_b0 : -9223372036854775808 ≤ b0 ∧ b0 ≤ 9223372036854775807) (d0 : Int) (r_d0 : -9223372036854775808 ≤ d0 ∧ d0 ≤ 9223372036854775807) (e0 : Int) (r_e0 : -9223372036854775808 ≤ e0 ∧ e0 ≤ 9223372036854775807) :
    Calls Tryz.prog 4 #[.slice A1 n1 c1, .int .i64 a0, .int .i64 b0, .int .i64 d0, .int .i64 e0] W fun e w' => e = .returned (.bool true) ∧ Below W.heap.size W w' := by
  obtain ⟨p, hp⟩ : ∃ p, p = mkP g1 (min n1 60) := ⟨_, rfl⟩
  have HPI := hid (show Pinv p 60 from by rw [hp]; exact (mkP_inv g1 _).mono (by omega))
  have HPC := hid (show p.a = 10 ∧ p.p = 80 from by rw [hp]; exact mkP_ap g1 _)
  have HPT := hid (show Pt p from by rw [hp]; exact mkP_pt g1 _ (by omega))
  have HPW := hid (show Pw p from by rw [hp]; exact mk_pw g1 _)
  have MK := hid (fun (w : World) (hb : Below W.heap.size W w) => (show Calls Tryz.prog 8 #[.slice A1 n1 c1, .int .i64 60] w fun x w' => x = .returned (.agg (FA 330 (pc p))) ∧ Below w.heap.size w w' from by rw [hp]; exact mk_top W A1 n1 c1 g1 hr1 hl1 hn1 hc1 60 (by decide) w hb))
  clear hp hr1 hl1 hg1 re1 hn1 hc1
  have S0 : Hid (HS [] W W []) := hid HS.start
  have r_m := r_e0
  obtain ⟨s0, hs0⟩ : ∃ x, x = wi b0 6 := ⟨_, rfl⟩
  have bs0 := wi_bd b0 6 (by omega)
  rw [← hs0] at bs0
  have Ws0 := hid (fun w => re_i64 (within_any b0 6 w (by omega) (by omega)) hs0.symm)
  clear hs0
  obtain ⟨bs01, bs02⟩ := bs0
  obtain ⟨c, rfl⟩ : ∃ c : Nat, s0 = (c : Int) := ⟨s0.toNat, by omega⟩
  have hc : c < 64 := by omega
  have i0 : (0 : Int) ≤ c := by omega
  have i1 : (c : Int) < 64 := by omega
  obtain ⟨po, hpo⟩ : ∃ x, x = wi a0 65536 := ⟨_, rfl⟩
  have bpo := wi_bd a0 65536 (by omega)
  rw [← hpo] at bpo
  have Wpo := hid (fun w => re_i64 (within_any a0 65536 w (by omega) (by omega)) hpo.symm)
  clear hpo
  obtain ⟨bpo1, bpo2⟩ := bpo
  obtain ⟨fg, hfg⟩ : ∃ x, x = wi d0 16 := ⟨_, rfl⟩
  have bfg := wi_bd d0 16 (by omega)
  rw [← hfg] at bfg
  have Wfg := hid (fun w => re_i64 (within_any d0 16 w (by omega) (by omega)) hfg.symm)
  clear hfg
  obtain ⟨bfg1, bfg2⟩ := bfg
  have RTK := hid (fun (w : World) => (show Calls Tryz.prog 16 #[.agg #[.int .i64 (p.s c).st, .int .i64 (p.s c).ad, .int .i64 (p.s c).po, .int .i64 (p.s c).we, .int .i64 (p.s c).si]] w fun e w' => e = .returned (.bool (takesB (p.s c).st)) ∧ Below w.heap.size w w' from rtakes_any (p.s c) w))
  cases ht : takesB (p.s c).st
  · rw [ht] at RTK
    go_enter Tryz.func4, Tryz.ntmps4
    go_wp2_with fail
    refine (known_9 _).mono ?_
    rintro e w1 ⟨rfl, hb⟩
    have S1 : Hid (HS [] W w1 []) := hid (S0.out.below hb)
    clear hb S0
    go_simp
    go_wp2_with fail
    refine (MK.out _ S1.out.bl).mono ?_
    rintro e w2 ⟨rfl, hb⟩
    have S2 : Hid (HS [] W w2 []) := hid (S1.out.below hb)
    clear hb S1 MK
    go_simp
    go_upto_region 4 with (first | ((with_reducible refine wl_id ?_); refine wl_ow rfl (ow_alloc rfl (zpl2 _) (by omega) S2.out ?_); intro P w_ hZ _; have SA := hid hZ; clear hZ) | ((with_reducible refine wl_id ?_); refine wl_ow rfl (ow_store (A := []) 0 330 (pc p) (pc p) rfl rfl rfl SA.out (by omega) (fun j hj => patch_all _ _ _ j hj) info_pl2 (pc_one _) ?_); intro w_ hZ; have SX := hid hZ; clear hZ))
    have S3 : Hid (HS [] W _ [thB P 330 (pc p)]) := hid (SX.out)
    clear SX SA S2
    go_wp2_with ((with_reducible refine wl_id ?_); refine wl_ow rfl (ow_load 0 rfl 0 330 (pc p) rfl rfl S3.out (by omega) (fun j hj => by rw [Nat.zero_add]) Tryz.underlying33 rfl info_pl2 ?_))
    refine (up_9 S3.out p HPW.out).mono ?_
    rintro e w3 ⟨pb, sb, wb, rfl, hne, hz⟩
    have S4 : Hid (HS [] W w3 [thS sb wb p, thB pb 130 (plf sb (fun _ => none)), thB P 330 (pc p)]) := hid (hz)
    clear hz S3
    have HNE := hid hne
    clear hne
    go_simp
    go_wp2_with fail
    refine (Ws0.out _).mono ?_
    rintro e w' ⟨rfl, rfl⟩
    obtain ⟨q0, q1, q2, q3, q4⟩ := (pool_fb (S4.out.fb 2 rfl)).s5 c hc
    go_wp2_with fail
    refine (RTK.out _).mono ?_
    rintro e w4 ⟨rfl, hb⟩
    have S5 : Hid (HS [] W w4 [thS sb wb p, thB pb 130 (plf sb (fun _ => none)), thB P 330 (pc p)]) := hid (S4.out.below hb)
    clear hb S4 RTK q0 q1 q2 q3 q4
    go_simp
    go_wp2_with fail
    go_ret
    exact ⟨rfl, S5.out.bl⟩
  · rw [ht] at RTK
    obtain ⟨mu, hmu⟩ : ∃ x, IntKind.u32.wrap e0 = x := ⟨_, rfl⟩
    have hmU : U32 mu := by rw [← hmu]; unfold U32; show 0 ≤ e0 % 4294967296 ∧ e0 % 4294967296 < 4294967296; omega
    have hmu2 : e0 % 4294967296 = mu := hmu
    obtain ⟨ck, hck⟩ : ∃ x, x = cok 4096 p.r.c 1 ⟨4000, po, p.a, p.p⟩ (c : Int) (p.r.e % 4) := ⟨_, rfl⟩
    obtain ⟨_, _, _, k0, k1⟩ := cok_parts 4096 p.r.c 1 ⟨4000, po, p.a, p.p⟩ (c : Int) (p.r.e % 4) (.inl rfl) ⟨by omega, by omega⟩ (by omega)
    rw [← hck] at k0 k1
    have hsp := HPT.out.2.2.2
    have fI : (⟨4000, po, p.a, p.p⟩ : Fl).I := ⟨⟨by show (-9223372036854775808 : Int) ≤ 4000; decide, by show (4000 : Int) ≤ 9223372036854775807; decide⟩, ⟨by show _ ≤ po; omega, by show po ≤ _; omega⟩, ⟨by show _ ≤ p.a; omega, by show p.a ≤ _; omega⟩, ⟨by show _ ≤ p.p; omega, by show p.p ≤ _; omega⟩⟩
    obtain ⟨hzU, hgB, hg0, hL, hA, hO⟩ := open_all (s := c) (fg := fg) (mu := mu) (ck := ck) HPT.out hc ⟨bpo1, by omega⟩ ⟨bfg1, by omega⟩ hmU hck ⟨k0, by omega⟩ ht (fun _ => none)
    obtain ⟨z, hz⟩ : ∃ z, z = putV mu ck := ⟨_, rfl⟩
    rw [← hz] at hzU hgB hg0 hL hA hO
    obtain ⟨G1, hG1⟩ : ∃ G, G = builtF (xS p po fg mu z) := ⟨_, rfl⟩
    have hE := xS_E HPT.out (po := po) (fg := fg) (mu := mu) (z := z) ⟨bpo1, by omega⟩ ⟨bfg1, by omega⟩ hmU hzU
    rw [← hG1] at hgB hg0 hA hO
    have BLD := hid (fun (w : World) (L : List Th) (h : HS [] W w L) (A : Option Addr) (c' : Nat) (hB : By w A 12 (mkBO mu z)) => (show Calls Tryz.prog 11 #[.agg #[.int .i64 1, .int .i64 5, .int .i64 0, .int .i64 4000, .int .i64 p.a, .int .i64 po, .int .i64 p.p, .int .i64 fg, .int .i64 0, .bool false, .int .i64 0, .slice A 12 c', .slice none 0 0]] w fun e w' => ∃ A c, e = .returned (.tuple #[.slice A 36 c, .int .i64 0]) ∧ HS [] W w' (thY (.slice A 36 c) 36 G1 :: L) ∧ 36 ≤ c from c_rbuild h (xS p po fg mu z) (.inl rfl) 36 G1 hL.symm hG1 hE.1 (mkB_B hmU hzU) c0B_ (by show 12 ≤ 1000000; decide) (by show 0 ≤ 1000000; decide) A c' none 0 hB (fun h => absurd h (by show ¬ 0 < 0; decide))))
    have RMK := hid (fun (w : World) => (show Calls Tryz.prog 19 #[.agg #[.int .i64 p.r.e, .int .u64 p.r.p.a, .int .u64 p.r.p.b, .int .u64 p.r.c.a, .int .u64 p.r.c.b, .int .u64 p.r.n.a, .int .u64 p.r.n.b], .int .i64 1, .agg #[.int .i64 4000, .int .i64 po, .int .i64 p.a, .int .i64 p.p], .int .i64 (c : Int)] w fun e w' => e = .returned (.int .i64 ck) ∧ Below w.heap.size w w' from by rw [hck]; exact rmake1 p.r (⟨4000, po, p.a, p.p⟩ : Fl) (c : Int) fI ⟨by omega, by omega⟩ w))
    have RPT := hid (fun (w : World) => (show Calls Tryz.prog 18 #[.int .u32 mu, .int .i64 ck] w fun e w' => e = .returned (.int .u32 z) ∧ w = w' from by rw [hz]; exact rput_any mu ck hmU ⟨k0, by omega⟩ w))
    have RMO := hid (fun (w : World) (L : List Th) (h : HS [] W w L) => c_rmake h mu z hmU hzU)
    have RMW := hid (fun (w : World) => (show Calls Tryz.prog 21 #[.agg (FA 330 (pc p))] w fun x w' => ∃ B : Nat, x = .returned (.slice (some ⟨B, 0, none⟩) 127 127) ∧ w.heap.size ≤ B ∧ IA w' B 127 (whlW p) ∧ Below w.heap.size w w' from rmake_fa p HPW.out w))
    obtain ⟨wv, hwv⟩ : ∃ v, v = whlW p (pkW (flP p 4000 po)).toNat := ⟨_, rfl⟩
    have RPK := hid (fun (w : World) (B : Nat) (h : IA w B 127 (whlW p)) => (show Calls Tryz.prog 20 #[.slice (some ⟨B, 0, none⟩) 127 127, .agg #[.int .i64 4000, .int .i64 po, .int .i64 p.a, .int .i64 p.p]] w fun e w' => e = .returned (.int .i64 wv) ∧ Below w.heap.size w w' from by rw [hwv]; exact rpick_any (some ⟨B, 0, none⟩) 127 (whlW p) (flP p 4000 po) fI w h.slice))
    have hwb : wv = -1 ∨ ∃ k : Nat, k < 64 ∧ wv = k := by rw [hwv]; exact whl_k p _
    rw [← hwv] at hO
    have HWB := hid hwb
    have HA := hid hA
    have HO := hid hO
    have BG := hid hgB
    have KG := hid hg0
    have HN0 := hid (show Nt32 (fun _ => none) from fun j v h => by cases h)
    have HM1 := hid hmu
    have HM2 := hid hmu2
    clear hA hO hgB hg0 hL hE hG1 hz hzU hwv hwb fI hck k0 k1 hsp hmU hmu hmu2
    go_enter Tryz.func4, Tryz.ntmps4
    go_wp2_with fail
    refine (known_9 _).mono ?_
    rintro e w1 ⟨rfl, hb⟩
    have S1 : Hid (HS [] W w1 []) := hid (S0.out.below hb)
    clear hb S0
    go_simp
    go_wp2_with fail
    refine (MK.out _ S1.out.bl).mono ?_
    rintro e w2 ⟨rfl, hb⟩
    have S2 : Hid (HS [] W w2 []) := hid (S1.out.below hb)
    clear hb S1 MK
    go_simp
    go_upto_region 4 with (first | ((with_reducible refine wl_id ?_); refine wl_ow rfl (ow_alloc rfl (zpl2 _) (by omega) S2.out ?_); intro P w_ hZ _; have SA := hid hZ; clear hZ) | ((with_reducible refine wl_id ?_); refine wl_ow rfl (ow_store (A := []) 0 330 (pc p) (pc p) rfl rfl rfl SA.out (by omega) (fun j hj => patch_all _ _ _ j hj) info_pl2 (pc_one _) ?_); intro w_ hZ; have SX := hid hZ; clear hZ))
    have S3 : Hid (HS [] W _ [thB P 330 (pc p)]) := hid (SX.out)
    clear SX SA S2
    go_wp2_with ((with_reducible refine wl_id ?_); refine wl_ow rfl (ow_load 0 rfl 0 330 (pc p) rfl rfl S3.out (by omega) (fun j hj => by rw [Nat.zero_add]) Tryz.underlying33 rfl info_pl2 ?_))
    refine (up_9 S3.out p HPW.out).mono ?_
    rintro e w3 ⟨pb, sb, wb, rfl, hne, hz⟩
    have S4 : Hid (HS [] W w3 [thS sb wb p, thB pb 130 (plf sb (fun _ => none)), thB P 330 (pc p)]) := hid (hz)
    clear hz S3
    have HNE := hid hne
    clear hne
    go_simp
    go_wp2_with fail
    refine (Ws0.out _).mono ?_
    rintro e w' ⟨rfl, rfl⟩
    obtain ⟨q0, q1, q2, q3, q4⟩ := (pool_fb (S4.out.fb 2 rfl)).s5 c hc
    go_wp2_with fail
    refine (RTK.out _).mono ?_
    rintro e w4 ⟨rfl, hb⟩
    have S5 : Hid (HS [] W w4 [thS sb wb p, thB pb 130 (plf sb (fun _ => none)), thB P 330 (pc p)]) := hid (S4.out.below hb)
    clear hb S4 RTK q0 q1 q2 q3 q4
    go_simp
    go_upto_region 10 with (fail)
    go_cut [14] from 36 to 42 (fun v wx => ∃ Q, v = .pointer (some ⟨Q, 0, none⟩) ∧ HS [] W wx [thC Q [.int .i64 4000, .int .i64 po, .int .i64 p.a, .int .i64 p.p], thS sb wb p, thB pb 130 (plf sb (fun _ => none)), thB P 330 (pc p)])
    case first =>
      refine wp_region_held_drew (S := fun (w' : World) => HS [] W w' [thS sb wb p, thB pb 130 (plf sb (fun _ => none)), thB P 330 (pc p)]) (by kernel_rfl) ?_ (fun hHeld => ?_)
      · exact S5.out.drew
      refine tkq 0 hHeld ?_
      refine tkq 2 hHeld ?_
      refine tkq 3 hHeld ?_ (hy := by intro w hSw; (try dsimp only at hSw); have x0 := (pool_fb (hSw.fb 2 rfl)).c1; go_simp; (try with_reducible rfl))
      refine tkq 4 hHeld ?_
      refine tkq 5 hHeld ?_ (hy := by intro w hSw; (try dsimp only at hSw); have x0 := (pool_fb (hSw.fb 2 rfl)).c2; go_simp; (try with_reducible rfl))
      refine twoUp 1 7 rfl rfl (by kernel_rfl) rfl rfl (fun K hK => ?_) (fun K hK => ?_)
      · go_simp
        refine (Wpo.out _).mono ?_
        rintro e w' ⟨rfl, rfl⟩
        try go_wp2_with fail
        refine hK.out _ _ hHeld (fun hz0 => ?_)
        clear hK
        try simp only [Act.put, List.setIfInBounds_toArray, List.set_cons_zero, List.set_cons_succ]
        refine tkq 6 hz0 ?_
        refine only 7 rfl (by kernel_rfl) rfl (fun K hK => ?_)
        refine ow_allocC rfl (zFl _) (by simp) hz0 (fun Q w21 zhz1 _ => ?_)
        refine hK.out _ _ zhz1.tail (fun hz1 => ?_)
        clear hK
        try simp only [Act.put, List.setIfInBounds_toArray, List.set_cons_zero, List.set_cons_succ]
        refine only 8 rfl (by kernel_rfl) rfl (fun K hK => ?_)
        refine ow_storeC (A := []) [.int .i64 4000, .int .i64 po, .int .i64 p.a, .int .i64 p.p] rfl rfl rfl zhz1 rfl iFl rfl (fun w22 hY => ?_)
        refine hK.out _ _ hY.tail (fun _ => ?_)
        clear hK
        try simp only [Act.put, List.setIfInBounds_toArray, List.set_cons_zero, List.set_cons_succ]
        refine wpAnyH_done (by kernel_rfl) ?_ _
        go_wp2_with fail
        go_meet
        exact ⟨Q, rfl, hY⟩
      · refine ow_allocC rfl (zFl _) (by simp) hHeld (fun Q w21 zhz0 _ => ?_)
        refine hK.out _ _ zhz0.tail (fun hz0 => ?_)
        clear hK
        try simp only [Act.put, List.setIfInBounds_toArray, List.set_cons_zero, List.set_cons_succ]
        refine only 1 rfl (by kernel_rfl) rfl (fun K hK => ?_)
        go_simp
        refine (Wpo.out _).mono ?_
        rintro e w' ⟨rfl, rfl⟩
        try go_wp2_with fail
        refine hK.out _ _ hz0 (fun hz1 => ?_)
        clear hK
        try simp only [Act.put, List.setIfInBounds_toArray, List.set_cons_zero, List.set_cons_succ]
        refine tkq 6 hz1 ?_
        refine only 8 rfl (by kernel_rfl) rfl (fun K hK => ?_)
        refine ow_storeC (A := []) [.int .i64 4000, .int .i64 po, .int .i64 p.a, .int .i64 p.p] rfl rfl rfl zhz0 rfl iFl rfl (fun w22 hY => ?_)
        refine hK.out _ _ hY.tail (fun _ => ?_)
        clear hK
        try simp only [Act.put, List.setIfInBounds_toArray, List.set_cons_zero, List.set_cons_succ]
        refine wpAnyH_done (by kernel_rfl) ?_ _
        go_wp2_with fail
        go_meet
        exact ⟨Q, rfl, hY⟩
    case rest =>
      obtain ⟨Q, rfl, hz⟩ := hcut
      have S6 : Hid (HS [] W _ [thC Q [.int .i64 4000, .int .i64 po, .int .i64 p.a, .int .i64 p.p], thS sb wb p, thB pb 130 (plf sb (fun _ => none)), thB P 330 (pc p)]) := hid (hz)
      clear hz S5
      go_upto_region 11 with (fail)
      go_cut [15] from 43 to 64 (fun vv wx => ∃ BX A c', vv = .pointer (some ⟨BX, 0, none⟩) ∧ HS [] W wx [thC BX [.int .i64 1, .int .i64 5, .int .i64 0, .int .i64 4000, .int .i64 p.a, .int .i64 po, .int .i64 p.p, .int .i64 fg, .int .i64 0, .bool false, .int .i64 0, .slice A 12 c', .slice none 0 0], thY (.slice A 12 c') 12 (mkBO mu z), thC Q [.int .i64 4000, .int .i64 po, .int .i64 p.a, .int .i64 p.p], thS sb wb p, thB pb 130 (plf sb (fun _ => none)), thB P 330 (pc p)] ∧ 12 ≤ c')
      case first =>
        have hmu := HM1.out
        have hmu2 := HM2.out
        refine wp_region_held_drew (S := fun (w' : World) => HS [] W w' [thC Q [.int .i64 4000, .int .i64 po, .int .i64 p.a, .int .i64 p.p], thS sb wb p, thB pb 130 (plf sb (fun _ => none)), thB P 330 (pc p)]) (by kernel_rfl) ?_ (fun hHeld => ?_)
        · exact S6.out.drew
        refine tkq 0 hHeld ?_
        refine tkq 1 hHeld ?_ (hy := by intro w hSw; (try dsimp only at hSw); obtain ⟨f0, f1, f2, f3⟩ := (hSw.ce 0 rfl).c4; go_simp; (try with_reducible rfl))
        refine tkq 2 hHeld ?_
        refine tkq 3 hHeld ?_ (hy := by intro w hSw; (try dsimp only at hSw); obtain ⟨f0, f1, f2, f3⟩ := (hSw.ce 0 rfl).c4; go_simp; (try with_reducible rfl))
        refine tkq 4 hHeld ?_
        refine tkq 5 hHeld ?_ (hy := by intro w hSw; (try dsimp only at hSw); have x0 := (pool_fb (hSw.fb 3 rfl)).c1; go_simp; (try with_reducible rfl))
        refine tkq 6 hHeld ?_
        refine tkq 7 hHeld ?_ (hy := by intro w hSw; (try dsimp only at hSw); have x0 := (pool_fb (hSw.fb 3 rfl)).c2; go_simp; (try with_reducible rfl))
        refine tkq 8 hHeld ?_
        refine tkq 10 hHeld ?_
        refine tkq 11 hHeld ?_
        refine tkq 12 hHeld ?_
        refine tkq 13 hHeld ?_
        refine tkq 14 hHeld ?_
        refine tkq 15 hHeld ?_ (hy := by intro w hSw; (try dsimp only at hSw); obtain ⟨r0, r1, r2, r3, r4, r5, r6⟩ := (pool_fb (hSw.fb 3 rfl)).r7; go_simp; (try with_reducible rfl))
        refine tkq 16 hHeld ?_ (hy := by intro w hSw; (try dsimp only at hSw); obtain ⟨f0, f1, f2, f3⟩ := (hSw.ce 0 rfl).c4; go_simp; (try with_reducible rfl))
        refine tkq 17 hHeld ?_
        skip
        clear hmu hmu2
        refine twoUp 9 22 rfl rfl (by kernel_rfl) rfl rfl (fun K hK => ?_) (fun K hK => ?_)
        · go_simp
          refine (Wfg.out _).mono ?_
          rintro e w' ⟨rfl, rfl⟩
          try go_wp2_with fail
          refine hK.out _ _ hHeld (fun hz0 => ?_)
          clear hK
          try simp only [Act.put, List.setIfInBounds_toArray, List.set_cons_zero, List.set_cons_succ]
          refine twoUp 18 22 rfl rfl (by kernel_rfl) rfl rfl (fun K hK => ?_) (fun K hK => ?_)
          · go_simp
            refine (RMK.out _).mono ?_
            rintro e w19 ⟨rfl, hb⟩
            try go_wp2_with fail
            have zhz1 := HS.below hz0 hb
            refine hK.out _ _ zhz1 (fun hz1 => ?_)
            clear hK hb
            try simp only [Act.put, List.setIfInBounds_toArray, List.set_cons_zero, List.set_cons_succ]
            refine twoUp 19 22 rfl rfl (by kernel_rfl) rfl rfl (fun K hK => ?_) (fun K hK => ?_)
            · go_simp
              refine (RPT.out _).mono ?_
              rintro e w' ⟨rfl, rfl⟩
              try go_wp2_with fail
              refine hK.out _ _ hz1 (fun hz2 => ?_)
              clear hK
              try simp only [Act.put, List.setIfInBounds_toArray, List.set_cons_zero, List.set_cons_succ]
              refine twoUp 20 22 rfl rfl (by kernel_rfl) rfl rfl (fun K hK => ?_) (fun K hK => ?_)
              · go_simp
                refine (RMO.out _ _ zhz1).mono ?_
                rintro e w20 ⟨A, c', rfl, zhz3, hcc⟩
                try go_wp2_with fail
                refine hK.out _ _ zhz3.tail (fun hz3 => ?_)
                clear hK
                try simp only [Act.put, List.setIfInBounds_toArray, List.set_cons_zero, List.set_cons_succ]
                refine tkq 21 hz3 ?_
                refine only 22 rfl (by kernel_rfl) rfl (fun K hK => ?_)
                refine ow_allocC rfl (zPk _) (by simp) zhz3 (fun BX w21 zhz4 _ => ?_)
                refine hK.out _ _ zhz4.tail.tail (fun hz4 => ?_)
                clear hK
                try simp only [Act.put, List.setIfInBounds_toArray, List.set_cons_zero, List.set_cons_succ]
                refine only 23 rfl (by kernel_rfl) rfl (fun K hK => ?_)
                refine ow_storeC (A := []) [.int .i64 1, .int .i64 5, .int .i64 0, .int .i64 4000, .int .i64 p.a, .int .i64 po, .int .i64 p.p, .int .i64 fg, .int .i64 0, .bool false, .int .i64 0, .slice A 12 c', .slice none 0 0] rfl rfl rfl zhz4 rfl iPk rfl (fun w22 hY => ?_)
                refine hK.out _ _ hY.tail.tail (fun _ => ?_)
                clear hK
                try simp only [Act.put, List.setIfInBounds_toArray, List.set_cons_zero, List.set_cons_succ]
                refine wpAnyH_done (by kernel_rfl) ?_ _
                go_wp2_with fail
                go_meet
                exact ⟨BX, A, c', rfl, hY, hcc⟩
              · refine ow_allocC rfl (zPk _) (by simp) zhz1 (fun BX w21 zhz3 _ => ?_)
                refine hK.out _ _ zhz3.tail (fun hz3 => ?_)
                clear hK
                try simp only [Act.put, List.setIfInBounds_toArray, List.set_cons_zero, List.set_cons_succ]
                refine only 20 rfl (by kernel_rfl) rfl (fun K hK => ?_)
                go_simp
                refine (RMO.out _ _ zhz3).mono ?_
                rintro e w20 ⟨A, c', rfl, zhz4, hcc⟩
                try go_wp2_with fail
                refine hK.out _ _ zhz4.tail.tail (fun hz4 => ?_)
                clear hK
                try simp only [Act.put, List.setIfInBounds_toArray, List.set_cons_zero, List.set_cons_succ]
                refine tkq 21 hz4 ?_
                refine only 23 rfl (by kernel_rfl) rfl (fun K hK => ?_)
                have zhz4s := HS.swap_ zhz4
                refine ow_storeC (A := []) [.int .i64 1, .int .i64 5, .int .i64 0, .int .i64 4000, .int .i64 p.a, .int .i64 po, .int .i64 p.p, .int .i64 fg, .int .i64 0, .bool false, .int .i64 0, .slice A 12 c', .slice none 0 0] rfl rfl rfl zhz4s rfl iPk rfl (fun w22 hY => ?_)
                refine hK.out _ _ hY.tail.tail (fun _ => ?_)
                clear hK
                try simp only [Act.put, List.setIfInBounds_toArray, List.set_cons_zero, List.set_cons_succ]
                refine wpAnyH_done (by kernel_rfl) ?_ _
                go_wp2_with fail
                go_meet
                exact ⟨BX, A, c', rfl, hY, hcc⟩
            · refine ow_allocC rfl (zPk _) (by simp) zhz1 (fun BX w21 zhz2 _ => ?_)
              refine hK.out _ _ zhz2.tail (fun hz2 => ?_)
              clear hK
              try simp only [Act.put, List.setIfInBounds_toArray, List.set_cons_zero, List.set_cons_succ]
              refine only 19 rfl (by kernel_rfl) rfl (fun K hK => ?_)
              go_simp
              refine (RPT.out _).mono ?_
              rintro e w' ⟨rfl, rfl⟩
              try go_wp2_with fail
              refine hK.out _ _ hz2 (fun hz3 => ?_)
              clear hK
              try simp only [Act.put, List.setIfInBounds_toArray, List.set_cons_zero, List.set_cons_succ]
              refine only 20 rfl (by kernel_rfl) rfl (fun K hK => ?_)
              go_simp
              refine (RMO.out _ _ zhz2).mono ?_
              rintro e w20 ⟨A, c', rfl, zhz4, hcc⟩
              try go_wp2_with fail
              refine hK.out _ _ zhz4.tail.tail (fun hz4 => ?_)
              clear hK
              try simp only [Act.put, List.setIfInBounds_toArray, List.set_cons_zero, List.set_cons_succ]
              refine tkq 21 hz4 ?_
              refine only 23 rfl (by kernel_rfl) rfl (fun K hK => ?_)
              have zhz4s := HS.swap_ zhz4
              refine ow_storeC (A := []) [.int .i64 1, .int .i64 5, .int .i64 0, .int .i64 4000, .int .i64 p.a, .int .i64 po, .int .i64 p.p, .int .i64 fg, .int .i64 0, .bool false, .int .i64 0, .slice A 12 c', .slice none 0 0] rfl rfl rfl zhz4s rfl iPk rfl (fun w22 hY => ?_)
              refine hK.out _ _ hY.tail.tail (fun _ => ?_)
              clear hK
              try simp only [Act.put, List.setIfInBounds_toArray, List.set_cons_zero, List.set_cons_succ]
              refine wpAnyH_done (by kernel_rfl) ?_ _
              go_wp2_with fail
              go_meet
              exact ⟨BX, A, c', rfl, hY, hcc⟩
          · refine ow_allocC rfl (zPk _) (by simp) hz0 (fun BX w21 zhz1 _ => ?_)
            refine hK.out _ _ zhz1.tail (fun hz1 => ?_)
            clear hK
            try simp only [Act.put, List.setIfInBounds_toArray, List.set_cons_zero, List.set_cons_succ]
            refine only 18 rfl (by kernel_rfl) rfl (fun K hK => ?_)
            go_simp
            refine (RMK.out _).mono ?_
            rintro e w19 ⟨rfl, hb⟩
            try go_wp2_with fail
            have zhz2 := HS.below zhz1 hb
            refine hK.out _ _ zhz2.tail (fun hz2 => ?_)
            clear hK hb
            try simp only [Act.put, List.setIfInBounds_toArray, List.set_cons_zero, List.set_cons_succ]
            refine only 19 rfl (by kernel_rfl) rfl (fun K hK => ?_)
            go_simp
            refine (RPT.out _).mono ?_
            rintro e w' ⟨rfl, rfl⟩
            try go_wp2_with fail
            refine hK.out _ _ hz2 (fun hz3 => ?_)
            clear hK
            try simp only [Act.put, List.setIfInBounds_toArray, List.set_cons_zero, List.set_cons_succ]
            refine only 20 rfl (by kernel_rfl) rfl (fun K hK => ?_)
            go_simp
            refine (RMO.out _ _ zhz2).mono ?_
            rintro e w20 ⟨A, c', rfl, zhz4, hcc⟩
            try go_wp2_with fail
            refine hK.out _ _ zhz4.tail.tail (fun hz4 => ?_)
            clear hK
            try simp only [Act.put, List.setIfInBounds_toArray, List.set_cons_zero, List.set_cons_succ]
            refine tkq 21 hz4 ?_
            refine only 23 rfl (by kernel_rfl) rfl (fun K hK => ?_)
            have zhz4s := HS.swap_ zhz4
            refine ow_storeC (A := []) [.int .i64 1, .int .i64 5, .int .i64 0, .int .i64 4000, .int .i64 p.a, .int .i64 po, .int .i64 p.p, .int .i64 fg, .int .i64 0, .bool false, .int .i64 0, .slice A 12 c', .slice none 0 0] rfl rfl rfl zhz4s rfl iPk rfl (fun w22 hY => ?_)
            refine hK.out _ _ hY.tail.tail (fun _ => ?_)
            clear hK
            try simp only [Act.put, List.setIfInBounds_toArray, List.set_cons_zero, List.set_cons_succ]
            refine wpAnyH_done (by kernel_rfl) ?_ _
            go_wp2_with fail
            go_meet
            exact ⟨BX, A, c', rfl, hY, hcc⟩
        · refine ow_allocC rfl (zPk _) (by simp) hHeld (fun BX w21 zhz0 _ => ?_)
          refine hK.out _ _ zhz0.tail (fun hz0 => ?_)
          clear hK
          try simp only [Act.put, List.setIfInBounds_toArray, List.set_cons_zero, List.set_cons_succ]
          refine only 9 rfl (by kernel_rfl) rfl (fun K hK => ?_)
          go_simp
          refine (Wfg.out _).mono ?_
          rintro e w' ⟨rfl, rfl⟩
          try go_wp2_with fail
          refine hK.out _ _ hz0 (fun hz1 => ?_)
          clear hK
          try simp only [Act.put, List.setIfInBounds_toArray, List.set_cons_zero, List.set_cons_succ]
          refine only 18 rfl (by kernel_rfl) rfl (fun K hK => ?_)
          go_simp
          refine (RMK.out _).mono ?_
          rintro e w19 ⟨rfl, hb⟩
          try go_wp2_with fail
          have zhz2 := HS.below zhz0 hb
          refine hK.out _ _ zhz2.tail (fun hz2 => ?_)
          clear hK hb
          try simp only [Act.put, List.setIfInBounds_toArray, List.set_cons_zero, List.set_cons_succ]
          refine only 19 rfl (by kernel_rfl) rfl (fun K hK => ?_)
          go_simp
          refine (RPT.out _).mono ?_
          rintro e w' ⟨rfl, rfl⟩
          try go_wp2_with fail
          refine hK.out _ _ hz2 (fun hz3 => ?_)
          clear hK
          try simp only [Act.put, List.setIfInBounds_toArray, List.set_cons_zero, List.set_cons_succ]
          refine only 20 rfl (by kernel_rfl) rfl (fun K hK => ?_)
          go_simp
          refine (RMO.out _ _ zhz2).mono ?_
          rintro e w20 ⟨A, c', rfl, zhz4, hcc⟩
          try go_wp2_with fail
          refine hK.out _ _ zhz4.tail.tail (fun hz4 => ?_)
          clear hK
          try simp only [Act.put, List.setIfInBounds_toArray, List.set_cons_zero, List.set_cons_succ]
          refine tkq 21 hz4 ?_
          refine only 23 rfl (by kernel_rfl) rfl (fun K hK => ?_)
          have zhz4s := HS.swap_ zhz4
          refine ow_storeC (A := []) [.int .i64 1, .int .i64 5, .int .i64 0, .int .i64 4000, .int .i64 p.a, .int .i64 po, .int .i64 p.p, .int .i64 fg, .int .i64 0, .bool false, .int .i64 0, .slice A 12 c', .slice none 0 0] rfl rfl rfl zhz4s rfl iPk rfl (fun w22 hY => ?_)
          refine hK.out _ _ hY.tail.tail (fun _ => ?_)
          clear hK
          try simp only [Act.put, List.setIfInBounds_toArray, List.set_cons_zero, List.set_cons_succ]
          refine wpAnyH_done (by kernel_rfl) ?_ _
          go_wp2_with fail
          go_meet
          exact ⟨BX, A, c', rfl, hY, hcc⟩
      case rest =>
        obtain ⟨X, A1, c1, rfl, hz, hcc⟩ := hcut
        have S7 : Hid (HS [] W _ [thC X [.int .i64 1, .int .i64 5, .int .i64 0, .int .i64 4000, .int .i64 p.a, .int .i64 po, .int .i64 p.p, .int .i64 fg, .int .i64 0, .bool false, .int .i64 0, .slice A1 12 c1, .slice none 0 0], thY (.slice A1 12 c1) 12 (mkBO mu z), thC Q [.int .i64 4000, .int .i64 po, .int .i64 p.a, .int .i64 p.p], thS sb wb p, thB pb 130 (plf sb (fun _ => none)), thB P 330 (pc p)]) := hid (hz)
        clear hz hcc S6 RMK RPT RMO
        obtain ⟨y0, y1, y2, y3, y4, y5, y6, y7, y8, y9, y10, y11, y12⟩ := (S7.out.ce 0 rfl).c13
        go_wp2_with fail
        refine (BLD.out _ _ S7.out _ _ (S7.out.by_ 1 rfl)).mono ?_
        rintro e w7 ⟨AQ, cQ, rfl, hz, hcc⟩
        have S8 : Hid (HS [] W w7 [thY (.slice AQ 36 cQ) 36 G1, thC X [.int .i64 1, .int .i64 5, .int .i64 0, .int .i64 4000, .int .i64 p.a, .int .i64 po, .int .i64 p.p, .int .i64 fg, .int .i64 0, .bool false, .int .i64 0, .slice A1 12 c1, .slice none 0 0], thY (.slice A1 12 c1) 12 (mkBO mu z), thC Q [.int .i64 4000, .int .i64 po, .int .i64 p.a, .int .i64 p.p], thS sb wb p, thB pb 130 (plf sb (fun _ => none)), thB P 330 (pc p)]) := hid (hz)
        clear hz S7 y0 y1 y2 y3 y4 y5 y6 y7 y8 y9 y10 y11 y12 BLD
        have HCQ := hid hcc
        clear hcc
        go_simp
        by_cases hf1 : fg = 1
        · obtain ⟨hO1, hO2⟩ := HO.out hf1
          have hfb : (fg != 1) = false := by simp [hf1]
          have HFB := hid hfb
          clear hfb hf1 HA HO
          rcases HWB.out with hw | ⟨k, hk, hw⟩
          · have HT := hid (hO1 hw)
            have HW := hid hw
            clear hO1 hO2 hw HWB
            go_wp2_with fail
            refine (c_take (A := [thY (.slice AQ 36 cQ) 36 G1, thC X [.int .i64 1, .int .i64 5, .int .i64 0, .int .i64 4000, .int .i64 p.a, .int .i64 po, .int .i64 p.p, .int .i64 fg, .int .i64 0, .bool false, .int .i64 0, .slice A1 12 c1, .slice none 0 0], thY (.slice A1 12 c1) 12 (mkBO mu z), thC Q [.int .i64 4000, .int .i64 po, .int .i64 p.a, .int .i64 p.p], thS sb wb p]) (B := [thB P 330 (pc p)]) S8.out (S8.out.st 4 rfl) HNE.out HPT.out HN0.out G1 36 cQ AQ BG.out (by omega) (fun _ => by rw [KG.out]; decide) (S8.out.by_ 0 rfl) HCQ.out _ HT.out).mono ?_
            rintro e w8 ⟨AR, cR, rfl, hz, hcc⟩
            dsimp only [dropT] at hz hcc ⊢
            have S9 : Hid (HS [] W w8 [thY (.slice AR (0) cR) (0) (fun _ => 0), thY (.slice AQ 36 cQ) 36 G1, thC X [.int .i64 1, .int .i64 5, .int .i64 0, .int .i64 4000, .int .i64 p.a, .int .i64 po, .int .i64 p.p, .int .i64 fg, .int .i64 0, .bool false, .int .i64 0, .slice A1 12 c1, .slice none 0 0], thY (.slice A1 12 c1) 12 (mkBO mu z), thC Q [.int .i64 4000, .int .i64 po, .int .i64 p.a, .int .i64 p.p], thS sb wb p, thB pb 130 (plf sb (fun _ => none)), thB P 330 (pc p)]) := hid (hz)
            clear hz hcc S8
            go_simp
            go_upto_region 14 with (first | ((with_reducible refine wl_id ?_); refine wl_ow rfl (ow_allocC rfl (zOc _) (by simp) S9.out ?_); intro V w_ hZ _; have SY := hid hZ; clear hZ) | ((with_reducible refine wl_id ?_); refine wl_ow rfl (ow_storeC (A := []) [.int .i64 9, .int .i64 (-1), .bool false, .slice AR 0 cR] rfl rfl (rfl) SY.out rfl iOc rfl ?_); intro w_ hZ; have SX := hid hZ; clear hZ))
            have S10 : Hid (HS [] W _ [thC V [.int .i64 9, .int .i64 (-1), .bool false, .slice AR 0 cR], thY (.slice AR (0) cR) (0) (fun _ => 0), thY (.slice AQ 36 cQ) 36 G1, thC X [.int .i64 1, .int .i64 5, .int .i64 0, .int .i64 4000, .int .i64 p.a, .int .i64 po, .int .i64 p.p, .int .i64 fg, .int .i64 0, .bool false, .int .i64 0, .slice A1 12 c1, .slice none 0 0], thY (.slice A1 12 c1) 12 (mkBO mu z), thC Q [.int .i64 4000, .int .i64 po, .int .i64 p.a, .int .i64 p.p], thS sb wb p, thB pb 130 (plf sb (fun _ => none)), thB P 330 (pc p)]) := hid (SX.out)
            clear SX SY S9
            have y7 := (S10.out.ce 3 rfl).2.1 7 _ rfl
            have hfb := HFB.out
            skip
            go_upto_region 16 with (fail)
            refine wp_region_held_drew (S := fun (w' : World) => HS [] W w' [thC V [.int .i64 9, .int .i64 (-1), .bool false, .slice AR 0 cR], thY (.slice AR (0) cR) (0) (fun _ => 0), thY (.slice AQ 36 cQ) 36 G1, thC X [.int .i64 1, .int .i64 5, .int .i64 0, .int .i64 4000, .int .i64 p.a, .int .i64 po, .int .i64 p.p, .int .i64 fg, .int .i64 0, .bool false, .int .i64 0, .slice A1 12 c1, .slice none 0 0], thY (.slice A1 12 c1) 12 (mkBO mu z), thC Q [.int .i64 4000, .int .i64 po, .int .i64 p.a, .int .i64 p.p], thS sb wb p, thB pb 130 (plf sb (fun _ => none)), thB P 330 (pc p)]) (by kernel_rfl) ?_ (fun hHeld => ?_)
            · exact S10.out.drew
            refine tk 0 (v := .agg (FA 330 (pc p))) rfl (by kernel_rfl) (by kernel_rfl) (by kernel_rfl) (fun _ _ _ h => h) rfl (fun w hSw => ex_load rfl rfl ((hSw.fb 8 rfl).load 0 330 (pc p) (by omega) (fun j hj => by rw [Nat.zero_add]) Tryz.underlying33 rfl info_pl2)) hHeld ?_; (try simp only [Act.put, List.setIfInBounds_toArray, List.set_cons_zero, List.set_cons_succ])
            refine tkq 2 hHeld ?_ (hy := by intro w hSw; (try dsimp only at hSw); obtain ⟨f0, f1, f2, f3⟩ := (hSw.ce 5 rfl).c4; go_simp; (try with_reducible rfl))
            refine only 1 rfl (by kernel_rfl) rfl (fun K hK => ?_)
            go_simp
            refine (RMW.out _).mono ?_
            rintro e w14 ⟨BW, rfl, _, hia, hb⟩
            try go_wp2_with fail
            refine hK.out _ _ (hHeld.below hb) (fun h2 => ?_)
            clear hK hHeld hb
            try simp only [Act.put, List.setIfInBounds_toArray, List.set_cons_zero, List.set_cons_succ]
            refine only 3 rfl (by kernel_rfl) rfl (fun K hK => ?_)
            go_simp
            refine (RPK.out _ BW hia).mono ?_
            rintro e w16 ⟨rfl, hb⟩
            try go_wp2_with fail
            refine hK.out _ _ (h2.below hb) (fun h4 => ?_)
            clear hK h2 hb
            try simp only [Act.put, List.setIfInBounds_toArray, List.set_cons_zero, List.set_cons_succ]
            refine tkq 4 h4 ?_
            have S11 : Hid (HS [] W _ [thC V [.int .i64 9, .int .i64 (-1), .bool false, .slice AR 0 cR], thY (.slice AR (0) cR) (0) (fun _ => 0), thY (.slice AQ 36 cQ) 36 G1, thC X [.int .i64 1, .int .i64 5, .int .i64 0, .int .i64 4000, .int .i64 p.a, .int .i64 po, .int .i64 p.p, .int .i64 fg, .int .i64 0, .bool false, .int .i64 0, .slice A1 12 c1, .slice none 0 0], thY (.slice A1 12 c1) 12 (mkBO mu z), thC Q [.int .i64 4000, .int .i64 po, .int .i64 p.a, .int .i64 p.p], thS sb wb p, thB pb 130 (plf sb (fun _ => none)), thB P 330 (pc p)]) := hid (h4)
            clear h4 S10 hia
            refine wpAnyH_done (by kernel_rfl) ?_ _
            obtain ⟨f0, f1, f2, f3⟩ := (S11.out.ce 0 rfl).c4
            have hw := HW.out
            subst hw
            go_wp2_with fail
            go_ret
            exact ⟨by simp, S11.out.bl⟩
          · obtain ⟨F, hT⟩ := hO2 k hw
            have HT := hid hT
            have HW := hid hw
            have HK := hid hk
            clear hO1 hO2 hT hw hk HWB
            go_wp2_with fail
            refine (c_take (A := [thY (.slice AQ 36 cQ) 36 G1, thC X [.int .i64 1, .int .i64 5, .int .i64 0, .int .i64 4000, .int .i64 p.a, .int .i64 po, .int .i64 p.p, .int .i64 fg, .int .i64 0, .bool false, .int .i64 0, .slice A1 12 c1, .slice none 0 0], thY (.slice A1 12 c1) 12 (mkBO mu z), thC Q [.int .i64 4000, .int .i64 po, .int .i64 p.a, .int .i64 p.p], thS sb wb p]) (B := [thB P 330 (pc p)]) S8.out (S8.out.st 4 rfl) HNE.out HPT.out HN0.out G1 36 cQ AQ BG.out (by omega) (fun _ => by rw [KG.out]; decide) (S8.out.by_ 0 rfl) HCQ.out _ HT.out).mono ?_
            rintro e w8 ⟨AR, cR, rfl, hz, hcc⟩
            dsimp only [dropT] at hz hcc ⊢
            have S9 : Hid (HS [] W w8 [thY (.slice AR (36) cR) (36) (F), thY (.slice AQ 36 cQ) 36 G1, thC X [.int .i64 1, .int .i64 5, .int .i64 0, .int .i64 4000, .int .i64 p.a, .int .i64 po, .int .i64 p.p, .int .i64 fg, .int .i64 0, .bool false, .int .i64 0, .slice A1 12 c1, .slice none 0 0], thY (.slice A1 12 c1) 12 (mkBO mu z), thC Q [.int .i64 4000, .int .i64 po, .int .i64 p.a, .int .i64 p.p], thS sb wb p, thB pb 130 (plf sb (fun _ => none)), thB P 330 (pc p)]) := hid (hz)
            clear hz hcc S8
            go_simp
            go_upto_region 14 with (first | ((with_reducible refine wl_id ?_); refine wl_ow rfl (ow_allocC rfl (zOc _) (by simp) S9.out ?_); intro V w_ hZ _; have SY := hid hZ; clear hZ) | ((with_reducible refine wl_id ?_); refine wl_ow rfl (ow_storeC (A := []) [.int .i64 0, .int .i64 k, .bool false, .slice AR 36 cR] rfl rfl (rfl) SY.out rfl iOc rfl ?_); intro w_ hZ; have SX := hid hZ; clear hZ))
            have S10 : Hid (HS [] W _ [thC V [.int .i64 0, .int .i64 k, .bool false, .slice AR 36 cR], thY (.slice AR (36) cR) (36) (F), thY (.slice AQ 36 cQ) 36 G1, thC X [.int .i64 1, .int .i64 5, .int .i64 0, .int .i64 4000, .int .i64 p.a, .int .i64 po, .int .i64 p.p, .int .i64 fg, .int .i64 0, .bool false, .int .i64 0, .slice A1 12 c1, .slice none 0 0], thY (.slice A1 12 c1) 12 (mkBO mu z), thC Q [.int .i64 4000, .int .i64 po, .int .i64 p.a, .int .i64 p.p], thS sb wb p, thB pb 130 (plf sb (fun _ => none)), thB P 330 (pc p)]) := hid (SX.out)
            clear SX SY S9
            have y7 := (S10.out.ce 3 rfl).2.1 7 _ rfl
            have hfb := HFB.out
            go_upto_region 16 with (fail)
            refine wp_region_held_drew (S := fun (w' : World) => HS [] W w' [thC V [.int .i64 0, .int .i64 k, .bool false, .slice AR 36 cR], thY (.slice AR (36) cR) (36) (F), thY (.slice AQ 36 cQ) 36 G1, thC X [.int .i64 1, .int .i64 5, .int .i64 0, .int .i64 4000, .int .i64 p.a, .int .i64 po, .int .i64 p.p, .int .i64 fg, .int .i64 0, .bool false, .int .i64 0, .slice A1 12 c1, .slice none 0 0], thY (.slice A1 12 c1) 12 (mkBO mu z), thC Q [.int .i64 4000, .int .i64 po, .int .i64 p.a, .int .i64 p.p], thS sb wb p, thB pb 130 (plf sb (fun _ => none)), thB P 330 (pc p)]) (by kernel_rfl) ?_ (fun hHeld => ?_)
            · exact S10.out.drew
            refine tk 0 (v := .agg (FA 330 (pc p))) rfl (by kernel_rfl) (by kernel_rfl) (by kernel_rfl) (fun _ _ _ h => h) rfl (fun w hSw => ex_load rfl rfl ((hSw.fb 8 rfl).load 0 330 (pc p) (by omega) (fun j hj => by rw [Nat.zero_add]) Tryz.underlying33 rfl info_pl2)) hHeld ?_; (try simp only [Act.put, List.setIfInBounds_toArray, List.set_cons_zero, List.set_cons_succ])
            refine tkq 2 hHeld ?_ (hy := by intro w hSw; (try dsimp only at hSw); obtain ⟨f0, f1, f2, f3⟩ := (hSw.ce 5 rfl).c4; go_simp; (try with_reducible rfl))
            refine only 1 rfl (by kernel_rfl) rfl (fun K hK => ?_)
            go_simp
            refine (RMW.out _).mono ?_
            rintro e w14 ⟨BW, rfl, _, hia, hb⟩
            try go_wp2_with fail
            refine hK.out _ _ (hHeld.below hb) (fun h2 => ?_)
            clear hK hHeld hb
            try simp only [Act.put, List.setIfInBounds_toArray, List.set_cons_zero, List.set_cons_succ]
            refine only 3 rfl (by kernel_rfl) rfl (fun K hK => ?_)
            go_simp
            refine (RPK.out _ BW hia).mono ?_
            rintro e w16 ⟨rfl, hb⟩
            try go_wp2_with fail
            refine hK.out _ _ (h2.below hb) (fun h4 => ?_)
            clear hK h2 hb
            try simp only [Act.put, List.setIfInBounds_toArray, List.set_cons_zero, List.set_cons_succ]
            refine tkq 4 h4 ?_
            have S11 : Hid (HS [] W _ [thC V [.int .i64 0, .int .i64 k, .bool false, .slice AR 36 cR], thY (.slice AR (36) cR) (36) (F), thY (.slice AQ 36 cQ) 36 G1, thC X [.int .i64 1, .int .i64 5, .int .i64 0, .int .i64 4000, .int .i64 p.a, .int .i64 po, .int .i64 p.p, .int .i64 fg, .int .i64 0, .bool false, .int .i64 0, .slice A1 12 c1, .slice none 0 0], thY (.slice A1 12 c1) 12 (mkBO mu z), thC Q [.int .i64 4000, .int .i64 po, .int .i64 p.a, .int .i64 p.p], thS sb wb p, thB pb 130 (plf sb (fun _ => none)), thB P 330 (pc p)]) := hid (h4)
            clear h4 S10 hia
            refine wpAnyH_done (by kernel_rfl) ?_ _
            obtain ⟨f0, f1, f2, f3⟩ := (S11.out.ce 0 rfl).c4
            have hw := HW.out
            subst hw
            have k0 : (k : Int) ≥ 0 := by omega
            go_wp2_with fail
            go_ret
            exact ⟨by simp, S11.out.bl⟩
        · obtain ⟨F, hT⟩ := HA.out hf1
          have HT := hid hT
          have hfb : (fg != 1) = true := by simp [hf1]
          have HFB := hid hfb
          clear hfb hf1 HA HO hT
          go_wp2_with fail
          refine (c_take (A := [thY (.slice AQ 36 cQ) 36 G1, thC X [.int .i64 1, .int .i64 5, .int .i64 0, .int .i64 4000, .int .i64 p.a, .int .i64 po, .int .i64 p.p, .int .i64 fg, .int .i64 0, .bool false, .int .i64 0, .slice A1 12 c1, .slice none 0 0], thY (.slice A1 12 c1) 12 (mkBO mu z), thC Q [.int .i64 4000, .int .i64 po, .int .i64 p.a, .int .i64 p.p], thS sb wb p]) (B := [thB P 330 (pc p)]) S8.out (S8.out.st 4 rfl) HNE.out HPT.out HN0.out G1 36 cQ AQ BG.out (by omega) (fun _ => by rw [KG.out]; decide) (S8.out.by_ 0 rfl) HCQ.out _ HT.out).mono ?_
          rintro e w8 ⟨AR, cR, rfl, hz, hcc⟩
          dsimp only [dropT] at hz hcc ⊢
          have S9 : Hid (HS [] W w8 [thY (.slice AR (36) cR) (36) (F), thY (.slice AQ 36 cQ) 36 G1, thC X [.int .i64 1, .int .i64 5, .int .i64 0, .int .i64 4000, .int .i64 p.a, .int .i64 po, .int .i64 p.p, .int .i64 fg, .int .i64 0, .bool false, .int .i64 0, .slice A1 12 c1, .slice none 0 0], thY (.slice A1 12 c1) 12 (mkBO mu z), thC Q [.int .i64 4000, .int .i64 po, .int .i64 p.a, .int .i64 p.p], thS sb wb p, thB pb 130 (plf sb (fun _ => none)), thB P 330 (pc p)]) := hid (hz)
          clear hz hcc S8
          go_simp
          go_upto_region 14 with (first | ((with_reducible refine wl_id ?_); refine wl_ow rfl (ow_allocC rfl (zOc _) (by simp) S9.out ?_); intro V w_ hZ _; have SY := hid hZ; clear hZ) | ((with_reducible refine wl_id ?_); refine wl_ow rfl (ow_storeC (A := []) [.int .i64 0, .int .i64 c, .bool true, .slice AR 36 cR] rfl rfl (rfl) SY.out rfl iOc rfl ?_); intro w_ hZ; have SX := hid hZ; clear hZ))
          have S10 : Hid (HS [] W _ [thC V [.int .i64 0, .int .i64 c, .bool true, .slice AR 36 cR], thY (.slice AR (36) cR) (36) (F), thY (.slice AQ 36 cQ) 36 G1, thC X [.int .i64 1, .int .i64 5, .int .i64 0, .int .i64 4000, .int .i64 p.a, .int .i64 po, .int .i64 p.p, .int .i64 fg, .int .i64 0, .bool false, .int .i64 0, .slice A1 12 c1, .slice none 0 0], thY (.slice A1 12 c1) 12 (mkBO mu z), thC Q [.int .i64 4000, .int .i64 po, .int .i64 p.a, .int .i64 p.p], thS sb wb p, thB pb 130 (plf sb (fun _ => none)), thB P 330 (pc p)]) := hid (SX.out)
          clear SX SY S9
          have y7 := (S10.out.ce 3 rfl).2.1 7 _ rfl
          have hfb := HFB.out
          obtain ⟨f0, f1, f2, f3⟩ := (S10.out.ce 0 rfl).c4
          go_wp2_with fail
          go_ret
          exact ⟨by simp, S10.out.bl⟩

set_option maxRecDepth 100000 in
theorem lifted (os : Os) (started : os.Started) (H : Type) (enc : TypeId × Value → H) :
    ReturnsInHanded {} Tryz.checked os 4 .any (Rows.planeOpensSpec.pre6 enc Tryz.prog Tryz.f4 [] false) (Rows.planeOpensSpec.post enc Tryz.prog Tryz.f4 false true false false) :=
  law_step (s := Rows.planeOpensSpec) started (by kernel_rfl) Tryz.func4
    (ChangeSpec.witness6 (s := Rows.planeOpensSpec) (enc := enc) (C := Tryz.checked) false ⟨#[], #[.slice none 0 0, .int .i64 0, .int .i64 0, .int .i64 0, .int .i64 0], []⟩ 8 (by kernel_rfl) (by kernel_rfl) (by kernel_rfl) (by kernel_rfl))
    rfl (by rw [Tryz.params4]; decide +kernel) rfl Tryz.underlying4
    (fun ds h => by
      rw [Tryz.params4] at h
      match ds, h with
      | [_, _, _, _, _], _ => rfl)
    (fun W base args ds ps hval hA hsz => by
      rw [Tryz.params4] at hA hval hsz
      obtain ⟨v0, vs0, d0, ds0, p0, q0, hargs, rfl, rfl, h0, r0⟩ := trodAll_cons hA
      obtain ⟨v1, vs1, d1, ds1, p1, q1, rfl, rfl, rfl, h1, r1⟩ := trodAll_cons r0
      obtain ⟨v2, vs2, d2, ds2, p2, q2, rfl, rfl, rfl, h2, r2⟩ := trodAll_cons r1
      obtain ⟨v3, vs3, d3, ds3, p3, q3, rfl, rfl, rfl, h3, r3⟩ := trodAll_cons r2
      obtain ⟨v4, vs4, d4, ds4, p4, q4, rfl, rfl, rfl, h4, r4⟩ := trodAll_cons r3
      obtain ⟨rfl, rfl, rfl⟩ := trodAll_nil r4
      obtain rfl : args = #[v0, v1, v2, v3, v4] := by cases args; simp_all
      obtain ⟨A0, n0, c0, g0, rfl, hn0, hc0, hs0, hw0, hl0, hd0⟩ := open_row Tryz.underlying22 Tryz.underlying3 (by kernel_rfl) (hval 0 22 v0 rfl rfl) h0
      have re0 : c0 * 8 ≤ 140737488351232 := by
        rcases hd0 with ⟨_, h0⟩ | ⟨xs, ys, h1, h2⟩
        · omega
        · have := sized_slice hsz (j := 0) (t := 22) (e := 3) rfl (by rw [h1]; rfl) Tryz.underlying22
          rw [h2, show Tryz.prog.bytesOf 3 = 8 from by kernel_rfl] at this
          simpa [reachBytes] using this
      obtain ⟨a1, rfl, rfl, rfl, w1⟩ := open_int Tryz.underlying3 (hval 1 3 v1 rfl rfl) h1
      obtain ⟨a2, rfl, rfl, rfl, w2⟩ := open_int Tryz.underlying3 (hval 2 3 v2 rfl rfl) h2
      obtain ⟨a3, rfl, rfl, rfl, w3⟩ := open_int Tryz.underlying3 (hval 3 3 v3 rfl rfl) h3
      obtain ⟨a4, rfl, rfl, rfl, w4⟩ := open_int Tryz.underlying3 (hval 4 3 v4 rfl rfl) h4
      exact walk W A0 n0 c0 g0 hn0 hc0 hs0 (fun j => bounds_i64 (hw0 j)) hl0 re0 a1 (bounds_i64 w1) a2 (bounds_i64 w2) a3 (bounds_i64 w3) a4 (bounds_i64 w4))

theorem proved : Rows.PlaneOpensSaid :=
  OpenClaim.holds_of_wide 4 Tryz.f4 rfl rfl rfl rfl rfl rfl rfl ⟨rfl, rfl, rfl, rfl, rfl⟩ rfl rfl rfl rfl rfl (by kernel_rfl) Tryz.func4 (by kernel_rfl)
    (of_decide_eq_true (by kernel_rfl)) (by unfold Func.isWrapper; first | (rw [if_pos (by decide +kernel)]; kernel_rfl) | (rw [if_neg (by decide +kernel)]; exact ⟨rfl, rfl⟩))
    (fun os started H enc _ => lifted os started H enc)
end Go.Proofs.YtjfopkbpaekejaaGreat.planeOpens
