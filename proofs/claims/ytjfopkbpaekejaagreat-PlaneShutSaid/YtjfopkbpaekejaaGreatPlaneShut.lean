/- roundhouselaw9.PlaneShut answers true for every row, any two numbers; no condition. -/
import Derived.Test.YtjfopkbpaekejaaGreatGa
import Derived.Test.YtjfopkbpaekejaaGreatPlKn9
import Derived.Test.YtjfopkbpaekejaaGreatPlShM
import Derived.Deep.LoopGhost
import Derived.Deep.CutRange
import Derived.Deep.CutBlock
import Derived.IntWalk
import Derived.BigQuiet
import Derived.Deep.RegionHeld3
import Derived.Deep.Cut
namespace Go.Proofs.YtjfopkbpaekejaaGreat.planeShut
set_option linter.unusedVariables false
set_option linter.unusedSimpArgs false
open Go.RowKit Go.ChangeShapes Go.WideShapes Go.ChangeAt

attribute [local irreducible] FA FL
set_option maxRecDepth 100000 in
set_option maxHeartbeats 8000000 in
theorem walk (W : World) (A1 : Option Addr) (n1 c1 : Nat) (g1 : Nat → Int) (hn1 : n1 ≤ c1) (hc1 : c1 ≤ maxLen) (hr1 : Is W A1 n1 g1) (hg1 : IsI g1) (hl1 : ∀ ad, A1 = some ad → 0 < n1 → ad.block < W.heap.size) (re1 : c1 * 8 ≤ 140737488351232) (a0 : Int) (r_a0 : -9223372036854775808 ≤ a0 ∧ a0 ≤ 9223372036854775807) (b0 : Int) (r_b0 : -9223372036854775808 ≤ b0 ∧ b0 ≤ 9223372036854775807) :
    Calls Tryz.prog 5 #[.slice A1 n1 c1, .int .i64 a0, .int .i64 b0] W fun e w' => e = .returned (.bool true) ∧ Below W.heap.size W w' := by
  obtain ⟨p, hp⟩ : ∃ p, p = mkP g1 (min n1 60) := ⟨_, rfl⟩
  have HPI := hid (show Pinv p 60 from by rw [hp]; exact (mkP_inv g1 _).mono (by omega))
  have HPC := hid (show p.a = 10 ∧ p.p = 80 from by rw [hp]; exact mkP_ap g1 _)
  have HPT := hid (show Pt p from by rw [hp]; exact mkP_pt g1 _ (by omega))
  have HPW := hid (show Pw p from by rw [hp]; exact mk_pw g1 _)
  have MK := hid (fun (w : World) (hb : Below W.heap.size W w) => (show Calls Tryz.prog 8 #[.slice A1 n1 c1, .int .i64 60] w fun x w' => x = .returned (.agg (FA 330 (pc p))) ∧ Below w.heap.size w w' from by rw [hp]; exact mk_top W A1 n1 c1 g1 hr1 hl1 hn1 hc1 60 (by decide) w hb))
  clear hp hr1 hl1 hg1 re1 hn1 hc1
  have S0 : Hid (HS [] W W []) := hid HS.start
  obtain ⟨s0, hs0⟩ : ∃ x, x = wi b0 6 := ⟨_, rfl⟩
  have bs0 := wi_bd b0 6 (by omega)
  rw [← hs0] at bs0
  have Ws0 := hid (fun w => re_i64 (within_any b0 6 w (by omega) (by omega)) hs0.symm)
  clear hs0
  obtain ⟨bs01, bs02⟩ := bs0
  obtain ⟨c, rfl⟩ : ∃ c : Nat, s0 = (c : Int) := ⟨s0.toNat, by omega⟩
  have hc : c < 64 := by omega
  have i0 : (0 : Int) ≤ c := by omega
  have i1 : (c : Int) < 64 := by omega
  obtain ⟨po, hpo⟩ : ∃ x, x = wi a0 65536 := ⟨_, rfl⟩
  have bpo := wi_bd a0 65536 (by omega)
  rw [← hpo] at bpo
  have Wpo := hid (fun w => re_i64 (within_any a0 65536 w (by omega) (by omega)) hpo.symm)
  clear hpo
  obtain ⟨bpo1, bpo2⟩ := bpo
  have RTK := hid (fun (w : World) => (show Calls Tryz.prog 16 #[.agg #[.int .i64 (p.s c).st, .int .i64 (p.s c).ad, .int .i64 (p.s c).po, .int .i64 (p.s c).we, .int .i64 (p.s c).si]] w fun e w' => e = .returned (.bool (takesB (p.s c).st)) ∧ Below w.heap.size w w' from rtakes_any (p.s c) w))
  cases ht : takesB (p.s c).st
  · rw [ht] at RTK
    go_enter Tryz.func5, Tryz.ntmps5
    go_wp2_with fail
    refine (known_9 _).mono ?_
    rintro e w1 ⟨rfl, hb⟩
    have S1 : Hid (HS [] W w1 []) := hid (S0.out.below hb)
    clear hb S0
    go_simp
    go_wp2_with fail
    refine (MK.out _ S1.out.bl).mono ?_
    rintro e w2 ⟨rfl, hb⟩
    have S2 : Hid (HS [] W w2 []) := hid (S1.out.below hb)
    clear hb S1 MK
    go_simp
    go_upto_region 4 with (first | ((with_reducible refine wl_id ?_); refine wl_ow rfl (ow_alloc rfl (zpl2 _) (by omega) S2.out ?_); intro P w_ hZ _; have SA := hid hZ; clear hZ) | ((with_reducible refine wl_id ?_); refine wl_ow rfl (ow_store (A := []) 0 330 (pc p) (pc p) rfl rfl rfl SA.out (by omega) (fun j hj => patch_all _ _ _ j hj) info_pl2 (pc_one _) ?_); intro w_ hZ; have SX := hid hZ; clear hZ))
    have S3 : Hid (HS [] W _ [thB P 330 (pc p)]) := hid (SX.out)
    clear SX SA S2
    go_wp2_with fail
    refine (Ws0.out _).mono ?_
    rintro e w' ⟨rfl, rfl⟩
    obtain ⟨q0, q1, q2, q3, q4⟩ := (pool_fb (S3.out.fb 0 rfl)).s5 c hc
    go_wp2_with fail
    refine (RTK.out _).mono ?_
    rintro e w4 ⟨rfl, hb⟩
    have S4 : Hid (HS [] W w4 [thB P 330 (pc p)]) := hid (S3.out.below hb)
    clear hb S3 RTK q0 q1 q2 q3 q4
    go_simp
    go_wp2_with fail
    go_ret
    exact ⟨rfl, S4.out.bl⟩
  · rw [ht] at RTK
    obtain ⟨ck, hck⟩ : ∃ x, x = cok 256 p.r.c 2 ⟨4000, po, p.a, p.p⟩ (c : Int) (p.r.e % 4) := ⟨_, rfl⟩
    obtain ⟨_, _, _, k0, k1⟩ := cok_parts 256 p.r.c 2 ⟨4000, po, p.a, p.p⟩ (c : Int) (p.r.e % 4) (.inr rfl) ⟨by omega, by omega⟩ (by omega)
    rw [← hck] at k0 k1
    have hsp := HPT.out.2.2.2
    have fI : (⟨4000, po, p.a, p.p⟩ : Fl).I := ⟨⟨by show (-9223372036854775808 : Int) ≤ 4000; decide, by show (4000 : Int) ≤ 9223372036854775807; decide⟩, ⟨by show _ ≤ po; omega, by show po ≤ _; omega⟩, ⟨by show _ ≤ p.a; omega, by show p.a ≤ _; omega⟩, ⟨by show _ ≤ p.p; omega, by show p.p ≤ _; omega⟩⟩
    obtain ⟨d, u, hd1, hd2, hu1, hdP, huP, hpB, hdB, hgB, hg0, ⟨tt, htt, httc⟩, hU⟩ := shut_all (s := c) (po := po) (ck := ck) HPT.out HPI.out hc ⟨bpo1, by omega⟩ hck ⟨k0, by omega⟩ ht (fun _ => none)
    obtain ⟨hE, hC, hL⟩ := xG_E (a := p.a) (q := p.p) (po := po) (ck := ck) hsp.1 hsp.2 ⟨bpo1, by omega⟩ ⟨k0, by omega⟩
    obtain ⟨G1, hG1⟩ : ∃ G, G = builtF (xG p.a p.p po ck) := ⟨_, rfl⟩
    rw [← hG1] at hgB hg0 htt hU
    have BLD := hid (fun (w : World) (L : List Th) (h : HS [] W w L) => (show Calls Tryz.prog 11 #[.agg #[.int .i64 2, .int .i64 5, .int .i64 0, .int .i64 4000, .int .i64 p.a, .int .i64 po, .int .i64 p.p, .int .i64 0, .int .i64 ck, .bool false, .int .i64 0, .slice none 0 0, .slice none 0 0]] w fun e w' => ∃ A c, e = .returned (.tuple #[.slice A 24 c, .int .i64 0]) ∧ HS [] W w' (thY (.slice A 24 c) 24 G1 :: L) ∧ 24 ≤ c from c_rbuild h (xG p.a p.p po ck) (.inr rfl) 24 G1 hL.symm hG1 hE c0B_ c0B_ (by show 0 ≤ 1000000; decide) (by show 0 ≤ 1000000; decide) none 0 none 0 (fun h => absurd h (by show ¬ 0 < 0; decide)) (fun h => absurd h (by show ¬ 0 < 0; decide))))
    have RMK := hid (fun (w : World) => (show Calls Tryz.prog 19 #[.agg #[.int .i64 p.r.e, .int .u64 p.r.p.a, .int .u64 p.r.p.b, .int .u64 p.r.c.a, .int .u64 p.r.c.b, .int .u64 p.r.n.a, .int .u64 p.r.n.b], .int .i64 2, .agg #[.int .i64 4000, .int .i64 po, .int .i64 p.a, .int .i64 p.p], .int .i64 (c : Int)] w fun e w' => e = .returned (.int .i64 ck) ∧ Below w.heap.size w w' from by rw [hck]; exact rmake2 p.r (⟨4000, po, p.a, p.p⟩ : Fl) (c : Int) fI ⟨by omega, by omega⟩ w))
    have APU := hid (fun (w : World) => (show Calls Tryz.prog 22 #[.agg (FA 330 (pc d)), .agg #[.int .i64 4, .int .i64 (c : Int), .int .i64 0, .int .i64 0, .int .i64 0, .int .u64 0, .int .u64 0]] w fun x w' => x = .returned (.tuple #[.agg (FA 330 (pc u)), .int .i64 0]) ∧ Below w.heap.size w w' from by have h := rapply_fa d ⟨4, (c : Int), 0, 0, 0, zKy⟩ hdB w; rw [hu1] at h; exact h))
    have APD := hid (fun (h2 : (p.s c).st = 2) (w : World) => (show Calls Tryz.prog 22 #[.agg (FA 330 (pc p)), .agg #[.int .i64 3, .int .i64 (c : Int), .int .i64 0, .int .i64 0, .int .i64 0, .int .u64 0, .int .u64 0]] w fun x w' => x = .returned (.tuple #[.agg (FA 330 (pc d)), .int .i64 0]) ∧ Below w.heap.size w w' from by have h := rapply_fa p ⟨3, (c : Int), 0, 0, 0, zKy⟩ hpB w; rw [hd1 h2] at h; exact h))
    have HD2 := hid hd2
    have HDP := hid hdP
    have HUP := hid huP
    have HU := hid hU
    have HTT := hid htt
    have HTC := hid httc
    have BG := hid hgB
    have KG := hid hg0
    have HN0 := hid (show Nt32 (fun _ => none) from fun j v h => by cases h)
    clear hd1 hd2 hu1 hdP huP hpB hdB hgB hg0 htt httc hU hE hC hL hG1 fI hck k0 k1 hsp
    go_enter Tryz.func5, Tryz.ntmps5
    go_wp2_with fail
    refine (known_9 _).mono ?_
    rintro e w1 ⟨rfl, hb⟩
    have S1 : Hid (HS [] W w1 []) := hid (S0.out.below hb)
    clear hb S0
    go_simp
    go_wp2_with fail
    refine (MK.out _ S1.out.bl).mono ?_
    rintro e w2 ⟨rfl, hb⟩
    have S2 : Hid (HS [] W w2 []) := hid (S1.out.below hb)
    clear hb S1 MK
    go_simp
    go_upto_region 4 with (first | ((with_reducible refine wl_id ?_); refine wl_ow rfl (ow_alloc rfl (zpl2 _) (by omega) S2.out ?_); intro P w_ hZ _; have SA := hid hZ; clear hZ) | ((with_reducible refine wl_id ?_); refine wl_ow rfl (ow_store (A := []) 0 330 (pc p) (pc p) rfl rfl rfl SA.out (by omega) (fun j hj => patch_all _ _ _ j hj) info_pl2 (pc_one _) ?_); intro w_ hZ; have SX := hid hZ; clear hZ))
    have S3 : Hid (HS [] W _ [thB P 330 (pc p)]) := hid (SX.out)
    clear SX SA S2
    go_wp2_with fail
    refine (Ws0.out _).mono ?_
    rintro e w' ⟨rfl, rfl⟩
    obtain ⟨q0, q1, q2, q3, q4⟩ := (pool_fb (S3.out.fb 0 rfl)).s5 c hc
    go_wp2_with fail
    refine (RTK.out _).mono ?_
    rintro e w4 ⟨rfl, hb⟩
    have S4 : Hid (HS [] W w4 [thB P 330 (pc p)]) := hid (S3.out.below hb)
    clear hb S3 RTK q0 q1 q2 q3 q4
    go_simp
    go_upto_region 7 with (fail)
    go_cut [9] from 30 to 36 (fun v wx => ∃ Q, v = .pointer (some ⟨Q, 0, none⟩) ∧ HS [] W wx [thC Q [.int .i64 4000, .int .i64 po, .int .i64 p.a, .int .i64 p.p], thB P 330 (pc p)])
    case first =>
      refine wp_region_held_drew (S := fun (w' : World) => HS [] W w' [thB P 330 (pc p)]) (by kernel_rfl) ?_ (fun hHeld => ?_)
      · exact S4.out.drew
      refine tkq 0 hHeld ?_
      refine tkq 2 hHeld ?_
      refine tkq 3 hHeld ?_ (hy := by intro w hSw; (try dsimp only at hSw); have x0 := (pool_fb (hSw.fb 0 rfl)).c1; go_simp; (try with_reducible rfl))
      refine tkq 4 hHeld ?_
      refine tkq 5 hHeld ?_ (hy := by intro w hSw; (try dsimp only at hSw); have x0 := (pool_fb (hSw.fb 0 rfl)).c2; go_simp; (try with_reducible rfl))
      refine twoUp 1 7 rfl rfl (by kernel_rfl) rfl rfl (fun K hK => ?_) (fun K hK => ?_)
      · go_simp
        refine (Wpo.out _).mono ?_
        rintro e w' ⟨rfl, rfl⟩
        try go_wp2_with fail
        refine hK.out _ _ hHeld (fun hz0 => ?_)
        clear hK
        try simp only [Act.put, List.setIfInBounds_toArray, List.set_cons_zero, List.set_cons_succ]
        refine tkq 6 hz0 ?_
        refine only 7 rfl (by kernel_rfl) rfl (fun K hK => ?_)
        refine ow_allocC rfl (zFl _) (by simp) hz0 (fun Q w21 zhz1 _ => ?_)
        refine hK.out _ _ zhz1.tail (fun hz1 => ?_)
        clear hK
        try simp only [Act.put, List.setIfInBounds_toArray, List.set_cons_zero, List.set_cons_succ]
        refine only 8 rfl (by kernel_rfl) rfl (fun K hK => ?_)
        refine ow_storeC (A := []) [.int .i64 4000, .int .i64 po, .int .i64 p.a, .int .i64 p.p] rfl rfl rfl zhz1 rfl iFl rfl (fun w22 hY => ?_)
        refine hK.out _ _ hY.tail (fun _ => ?_)
        clear hK
        try simp only [Act.put, List.setIfInBounds_toArray, List.set_cons_zero, List.set_cons_succ]
        refine wpAnyH_done (by kernel_rfl) ?_ _
        go_wp2_with fail
        go_meet
        exact ⟨Q, rfl, hY⟩
      · refine ow_allocC rfl (zFl _) (by simp) hHeld (fun Q w21 zhz0 _ => ?_)
        refine hK.out _ _ zhz0.tail (fun hz0 => ?_)
        clear hK
        try simp only [Act.put, List.setIfInBounds_toArray, List.set_cons_zero, List.set_cons_succ]
        refine only 1 rfl (by kernel_rfl) rfl (fun K hK => ?_)
        go_simp
        refine (Wpo.out _).mono ?_
        rintro e w' ⟨rfl, rfl⟩
        try go_wp2_with fail
        refine hK.out _ _ hz0 (fun hz1 => ?_)
        clear hK
        try simp only [Act.put, List.setIfInBounds_toArray, List.set_cons_zero, List.set_cons_succ]
        refine tkq 6 hz1 ?_
        refine only 8 rfl (by kernel_rfl) rfl (fun K hK => ?_)
        refine ow_storeC (A := []) [.int .i64 4000, .int .i64 po, .int .i64 p.a, .int .i64 p.p] rfl rfl rfl zhz0 rfl iFl rfl (fun w22 hY => ?_)
        refine hK.out _ _ hY.tail (fun _ => ?_)
        clear hK
        try simp only [Act.put, List.setIfInBounds_toArray, List.set_cons_zero, List.set_cons_succ]
        refine wpAnyH_done (by kernel_rfl) ?_ _
        go_wp2_with fail
        go_meet
        exact ⟨Q, rfl, hY⟩
    case rest =>
      obtain ⟨Q, rfl, hz⟩ := hcut
      have S5 : Hid (HS [] W _ [thC Q [.int .i64 4000, .int .i64 po, .int .i64 p.a, .int .i64 p.p], thB P 330 (pc p)]) := hid (hz)
      clear hz S4
      obtain ⟨r0, r1, r2, r3, r4, r5, r6⟩ := (pool_fb (S5.out.fb 1 rfl)).r7
      obtain ⟨f0, f1, f2, f3⟩ := (S5.out.ce 0 rfl).c4
      go_wp2_with fail
      refine (RMK.out _).mono ?_
      rintro e w5 ⟨rfl, hb⟩
      have S6 : Hid (HS [] W w5 [thC Q [.int .i64 4000, .int .i64 po, .int .i64 p.a, .int .i64 p.p], thB P 330 (pc p)]) := hid (S5.out.below hb)
      clear hb S5 RMK r0 r1 r2 r3 r4 r5 r6 f0 f1 f2 f3
      go_simp
      go_upto_region 10 with (first | ((with_reducible refine wl_id ?_); refine wl_ow rfl (ow_load 1 rfl 0 330 (pc p) rfl rfl S6.out (by omega) (fun j hj => by rw [Nat.zero_add]) Tryz.underlying33 rfl info_pl2 ?_)) | ((with_reducible refine wl_id ?_); refine wl_ow rfl (ow_load 2 rfl 0 330 (pc p) rfl rfl SA.out (by omega) (fun j hj => by rw [Nat.zero_add]) Tryz.underlying33 rfl info_pl2 ?_)) | (first | ((with_reducible refine wl_id ?_); refine wl_ow rfl (ow_alloc rfl (zpl2 _) (by omega) S6.out ?_); intro R w_ hZ _; have SA := hid hZ; clear hZ) | ((with_reducible refine wl_id ?_); refine wl_ow rfl (ow_store (A := []) 0 330 (pc p) (pc p) rfl rfl rfl SA.out (by omega) (fun j hj => patch_all _ _ _ j hj) info_pl2 (pc_one _) ?_); intro w_ hZ; have SX := hid hZ; clear hZ)))
      have S7 : Hid (HS [] W _ [thB R 330 (pc p), thC Q [.int .i64 4000, .int .i64 po, .int .i64 p.a, .int .i64 p.p], thB P 330 (pc p)]) := hid (SX.out)
      clear SX SA S6
      obtain ⟨q0, q1, q2, q3, q4⟩ := (pool_fb (S7.out.fb 2 rfl)).s5 c hc
      go_upto_if 48 with (fail)
      clear q0 q1 q2 q3 q4
      go_cut [] from 43 to 55 (fun wx => HS [] W wx [thB R 330 (pc d), thC Q [.int .i64 4000, .int .i64 po, .int .i64 p.a, .int .i64 p.p], thB P 330 (pc p)])
      case first =>
        cases b2 : ((p.s c).st == 2)
        · have HE := hid (HD2.out (by simpa using b2))
          clear b2
          go_wp2_with fail
          go_meet
          rw [HE.out]
          exact S7.out
        · have AP := hid (APD.out (by simpa using b2))
          clear b2
          go_wp2_with ((with_reducible refine wl_id ?_); refine wl_ow rfl (ow_load 0 rfl 0 330 (pc p) rfl rfl S7.out (by omega) (fun j hj => by rw [Nat.zero_add]) Tryz.underlying33 rfl info_pl2 ?_))
          refine (AP.out _).mono ?_
          rintro e w6 ⟨rfl, hb⟩
          have U1 := hid (S7.out.below hb)
          clear hb
          go_simp
          go_wp2_with ((with_reducible refine wl_id ?_); refine wl_ow rfl (ow_store (A := []) 0 330 (pc d) (pc d) rfl rfl rfl U1.out (by omega) (fun j hj => patch_all _ _ _ j hj) info_pl2 (pc_one _) ?_); intro w_ hZ; have U2 := hid hZ; clear hZ)
          go_meet
          exact U2.out
      case rest =>
        have S8 : Hid (HS [] W _ [thB R 330 (pc d), thC Q [.int .i64 4000, .int .i64 po, .int .i64 p.a, .int .i64 p.p], thB P 330 (pc p)]) := hid (hcut)
        clear hcut S7
        go_upto_region 12 with (fail)
        go_wp2_with ((with_reducible refine wl_id ?_); refine wl_ow rfl (ow_load 0 rfl 0 330 (pc d) rfl rfl S8.out (by omega) (fun j hj => by rw [Nat.zero_add]) Tryz.underlying33 rfl info_pl2 ?_))
        refine (up_9 S8.out d HDP.out.1).mono ?_
        rintro e w7 ⟨pb, sb, wb, rfl, hne, hz⟩
        have S9 : Hid (HS [] W w7 [thS sb wb d, thB pb 130 (plf sb (fun _ => none)), thB R 330 (pc d), thC Q [.int .i64 4000, .int .i64 po, .int .i64 p.a, .int .i64 p.p], thB P 330 (pc p)]) := hid (hz)
        clear hz S8
        have HNEpb := hid hne
        clear hne
        go_simp
        go_upto_region 13 with (fail)
        go_wp2_with ((with_reducible refine wl_id ?_); refine wl_ow rfl (ow_load 2 rfl 0 330 (pc d) rfl rfl S9.out (by omega) (fun j hj => by rw [Nat.zero_add]) Tryz.underlying33 rfl info_pl2 ?_))
        refine (APU.out _).mono ?_
        rintro e w8 ⟨rfl, hb⟩
        have S10 : Hid (HS [] W w8 [thS sb wb d, thB pb 130 (plf sb (fun _ => none)), thB R 330 (pc d), thC Q [.int .i64 4000, .int .i64 po, .int .i64 p.a, .int .i64 p.p], thB P 330 (pc p)]) := hid (S9.out.below hb)
        clear hb S9
        go_simp
        go_upto_region 14 with ((with_reducible refine wl_id ?_); refine wl_ow rfl (ow_store (A := [thS sb wb d, thB pb 130 (plf sb (fun _ => none))]) 0 330 (pc u) (pc u) rfl rfl rfl S10.out (by omega) (fun j hj => patch_all _ _ _ j hj) info_pl2 (pc_one _) ?_); intro w_ hZ; have U2 := hid hZ; clear hZ)
        have S11 : Hid (HS [] W _ [thS sb wb d, thB pb 130 (plf sb (fun _ => none)), thB R 330 (pc u), thC Q [.int .i64 4000, .int .i64 po, .int .i64 p.a, .int .i64 p.p], thB P 330 (pc p)]) := hid (U2.out)
        clear U2 S10
        go_wp2_with ((with_reducible refine wl_id ?_); refine wl_ow rfl (ow_load 2 rfl 0 330 (pc u) rfl rfl S11.out (by omega) (fun j hj => by rw [Nat.zero_add]) Tryz.underlying33 rfl info_pl2 ?_))
        refine (up_9 S11.out u HUP.out.1).mono ?_
        rintro e w9 ⟨qb, sc, wd, rfl, hne, hz⟩
        have S12 : Hid (HS [] W w9 [thS sc wd u, thB qb 130 (plf sc (fun _ => none)), thS sb wb d, thB pb 130 (plf sb (fun _ => none)), thB R 330 (pc u), thC Q [.int .i64 4000, .int .i64 po, .int .i64 p.a, .int .i64 p.p], thB P 330 (pc p)]) := hid (hz)
        clear hz S11
        have HNEqb := hid hne
        clear hne
        go_simp
        go_upto_region 15 with (fail)
        obtain ⟨f0, f1, f2, f3⟩ := (S12.out.ce 5 rfl).c4
        have x1 := (pool_fb (S12.out.fb 6 rfl)).c1
        have x2 := (pool_fb (S12.out.fb 6 rfl)).c2
        go_wp2_with fail
        refine (BLD.out _ _ S12.out).mono ?_
        rintro e w10 ⟨AQ, cQ, rfl, hz, hcc⟩
        have S13 : Hid (HS [] W w10 [thY (.slice AQ 24 cQ) 24 G1, thS sc wd u, thB qb 130 (plf sc (fun _ => none)), thS sb wb d, thB pb 130 (plf sb (fun _ => none)), thB R 330 (pc u), thC Q [.int .i64 4000, .int .i64 po, .int .i64 p.a, .int .i64 p.p], thB P 330 (pc p)]) := hid (hz)
        clear hz S12 BLD f0 f1 f2 f3 x1 x2
        have HCQ := hid hcc
        clear hcc
        go_simp
        rcases HU.out with hT | ⟨k, F, hks, hT⟩
        · have HT := hid hT
          clear hT HU
          have nb : ((-1 : Int) != (c : Int)) = true := by first | (simp; done) | (simp; omega)
          go_wp2_with fail
          refine (c_take (A := [thY (.slice AQ 24 cQ) 24 G1, thS sc wd u]) (B := [thS sb wb d, thB pb 130 (plf sb (fun _ => none)), thB R 330 (pc u), thC Q [.int .i64 4000, .int .i64 po, .int .i64 p.a, .int .i64 p.p], thB P 330 (pc p)]) S13.out (S13.out.st 1 rfl) HNEqb.out HUP.out HN0.out G1 24 cQ AQ BG.out (by omega) (fun _ => by rw [KG.out]; decide) (S13.out.by_ 0 rfl) HCQ.out _ HT.out).mono ?_
          rintro e w11 ⟨ARqb, cRqb, rfl, hz, hcc⟩
          dsimp only [dropT] at hz hcc ⊢
          have S14 : Hid (HS [] W w11 [thY (.slice ARqb (0) cRqb) (0) (fun _ => 0), thY (.slice AQ 24 cQ) 24 G1, thS sc wd u, thB qb 130 (plf sc (fun _ => none)), thS sb wb d, thB pb 130 (plf sb (fun _ => none)), thB R 330 (pc u), thC Q [.int .i64 4000, .int .i64 po, .int .i64 p.a, .int .i64 p.p], thB P 330 (pc p)]) := hid (hz)
          clear hz hcc S13
          go_simp
          go_wp2_with fail
          refine (c_take (A := [thY (.slice ARqb (0) cRqb) (0) (fun _ => 0), thY (.slice AQ 24 cQ) 24 G1, thS sc wd u, thB qb 130 (plf sc (fun _ => none)), thS sb wb d]) (B := [thB R 330 (pc u), thC Q [.int .i64 4000, .int .i64 po, .int .i64 p.a, .int .i64 p.p], thB P 330 (pc p)]) S14.out (S14.out.st 4 rfl) HNEpb.out HDP.out HN0.out G1 24 cQ AQ BG.out (by omega) (fun _ => by rw [KG.out]; decide) (S14.out.by_ 1 rfl) HCQ.out _ HTT.out).mono ?_
          rintro e w12 ⟨ARpb, cRpb, rfl, hz, hcc⟩
          dsimp only [dropT] at hz hcc ⊢
          have S15 : Hid (HS [] W w12 [thY (.slice ARpb tt.n cRpb) tt.n tt.f, thY (.slice ARqb (0) cRqb) (0) (fun _ => 0), thY (.slice AQ 24 cQ) 24 G1, thS sc wd u, thB qb 130 (plf sc (fun _ => none)), thS sb wb d, thB pb 130 (plf sb (tt.nr)), thB R 330 (pc u), thC Q [.int .i64 4000, .int .i64 po, .int .i64 p.a, .int .i64 p.p], thB P 330 (pc p)]) := hid (hz)
          clear hz hcc S14
          go_simp
          go_upto_region 19 with (first | ((with_reducible refine wl_id ?_); refine wl_ow rfl (ow_allocC rfl (zOc _) (by simp) S15.out ?_); intro V w_ hZ _; have SV := hid hZ; clear hZ) | ((with_reducible refine wl_id ?_); refine wl_ow rfl (ow_allocC rfl (zOc _) (by simp) SV.out ?_); intro U w_ hZ _; have SU := hid hZ; clear hZ) | ((with_reducible refine wl_id ?_); refine wl_ow rfl (ow_storeC (A := [thC U [.int .i64 0, .int .i64 0, .bool false, .slice none 0 0]]) [.int .i64 9, .int .i64 (-1), .bool false, .slice ARqb (0) cRqb] rfl rfl (rfl) SU.out rfl iOc rfl ?_); intro w_ hZ; have SW := hid hZ; clear hZ) | ((with_reducible refine wl_id ?_); refine wl_ow rfl (ow_storeC (A := []) [.int .i64 tt.d, .int .i64 tt.s, .bool tt.c, .slice ARpb tt.n cRpb] rfl rfl (rfl) SW.out rfl iOc rfl ?_); intro w_ hZ; have SX := hid hZ; clear hZ))
          have S16 : Hid (HS [] W _ [thC U [.int .i64 tt.d, .int .i64 tt.s, .bool tt.c, .slice ARpb tt.n cRpb], thC V [.int .i64 9, .int .i64 (-1), .bool false, .slice ARqb (0) cRqb], thY (.slice ARpb tt.n cRpb) tt.n tt.f, thY (.slice ARqb (0) cRqb) (0) (fun _ => 0), thY (.slice AQ 24 cQ) 24 G1, thS sc wd u, thB qb 130 (plf sc (fun _ => none)), thS sb wb d, thB pb 130 (plf sb (tt.nr)), thB R 330 (pc u), thC Q [.int .i64 4000, .int .i64 po, .int .i64 p.a, .int .i64 p.p], thB P 330 (pc p)]) := hid (SX.out)
          clear SX SV SU SW S15
          obtain ⟨f0, f1, f2, f3⟩ := (S16.out.ce 1 rfl).c4
          obtain ⟨e0, e1, e2, e3⟩ := (S16.out.ce 0 rfl).c4
          by_cases hk0 : ck = 0
          · have z0 : (ck == 0) = true := by simp [hk0]
            clear hk0
            go_wp2_with fail
            go_ret
            exact ⟨by simp, S16.out.bl⟩
          · have z0 : (ck == 0) = false := by simp [hk0]
            obtain ⟨a1, a2, a3⟩ := HTC.out hk0
            rw [a1] at e0
            rw [a2] at e1
            rw [a3] at e2
            clear hk0 a1 a2 a3
            go_wp2_with fail
            go_ret
            exact ⟨by simp, S16.out.bl⟩
        · have HT := hid hT
          have nb : ((k : Int) != (c : Int)) = true := by first | (simp; done) | (simp; omega)
          clear hT HU hks
          go_wp2_with fail
          refine (c_take (A := [thY (.slice AQ 24 cQ) 24 G1, thS sc wd u]) (B := [thS sb wb d, thB pb 130 (plf sb (fun _ => none)), thB R 330 (pc u), thC Q [.int .i64 4000, .int .i64 po, .int .i64 p.a, .int .i64 p.p], thB P 330 (pc p)]) S13.out (S13.out.st 1 rfl) HNEqb.out HUP.out HN0.out G1 24 cQ AQ BG.out (by omega) (fun _ => by rw [KG.out]; decide) (S13.out.by_ 0 rfl) HCQ.out _ HT.out).mono ?_
          rintro e w11 ⟨ARqb, cRqb, rfl, hz, hcc⟩
          dsimp only [dropT] at hz hcc ⊢
          have S14 : Hid (HS [] W w11 [thY (.slice ARqb (24) cRqb) (24) (F), thY (.slice AQ 24 cQ) 24 G1, thS sc wd u, thB qb 130 (plf sc (fun _ => none)), thS sb wb d, thB pb 130 (plf sb (fun _ => none)), thB R 330 (pc u), thC Q [.int .i64 4000, .int .i64 po, .int .i64 p.a, .int .i64 p.p], thB P 330 (pc p)]) := hid (hz)
          clear hz hcc S13
          go_simp
          go_wp2_with fail
          refine (c_take (A := [thY (.slice ARqb (24) cRqb) (24) (F), thY (.slice AQ 24 cQ) 24 G1, thS sc wd u, thB qb 130 (plf sc (fun _ => none)), thS sb wb d]) (B := [thB R 330 (pc u), thC Q [.int .i64 4000, .int .i64 po, .int .i64 p.a, .int .i64 p.p], thB P 330 (pc p)]) S14.out (S14.out.st 4 rfl) HNEpb.out HDP.out HN0.out G1 24 cQ AQ BG.out (by omega) (fun _ => by rw [KG.out]; decide) (S14.out.by_ 1 rfl) HCQ.out _ HTT.out).mono ?_
          rintro e w12 ⟨ARpb, cRpb, rfl, hz, hcc⟩
          dsimp only [dropT] at hz hcc ⊢
          have S15 : Hid (HS [] W w12 [thY (.slice ARpb tt.n cRpb) tt.n tt.f, thY (.slice ARqb (24) cRqb) (24) (F), thY (.slice AQ 24 cQ) 24 G1, thS sc wd u, thB qb 130 (plf sc (fun _ => none)), thS sb wb d, thB pb 130 (plf sb (tt.nr)), thB R 330 (pc u), thC Q [.int .i64 4000, .int .i64 po, .int .i64 p.a, .int .i64 p.p], thB P 330 (pc p)]) := hid (hz)
          clear hz hcc S14
          go_simp
          go_upto_region 19 with (first | ((with_reducible refine wl_id ?_); refine wl_ow rfl (ow_allocC rfl (zOc _) (by simp) S15.out ?_); intro V w_ hZ _; have SV := hid hZ; clear hZ) | ((with_reducible refine wl_id ?_); refine wl_ow rfl (ow_allocC rfl (zOc _) (by simp) SV.out ?_); intro U w_ hZ _; have SU := hid hZ; clear hZ) | ((with_reducible refine wl_id ?_); refine wl_ow rfl (ow_storeC (A := [thC U [.int .i64 0, .int .i64 0, .bool false, .slice none 0 0]]) [.int .i64 0, .int .i64 k, .bool false, .slice ARqb (24) cRqb] rfl rfl (rfl) SU.out rfl iOc rfl ?_); intro w_ hZ; have SW := hid hZ; clear hZ) | ((with_reducible refine wl_id ?_); refine wl_ow rfl (ow_storeC (A := []) [.int .i64 tt.d, .int .i64 tt.s, .bool tt.c, .slice ARpb tt.n cRpb] rfl rfl (rfl) SW.out rfl iOc rfl ?_); intro w_ hZ; have SX := hid hZ; clear hZ))
          have S16 : Hid (HS [] W _ [thC U [.int .i64 tt.d, .int .i64 tt.s, .bool tt.c, .slice ARpb tt.n cRpb], thC V [.int .i64 0, .int .i64 k, .bool false, .slice ARqb (24) cRqb], thY (.slice ARpb tt.n cRpb) tt.n tt.f, thY (.slice ARqb (24) cRqb) (24) (F), thY (.slice AQ 24 cQ) 24 G1, thS sc wd u, thB qb 130 (plf sc (fun _ => none)), thS sb wb d, thB pb 130 (plf sb (tt.nr)), thB R 330 (pc u), thC Q [.int .i64 4000, .int .i64 po, .int .i64 p.a, .int .i64 p.p], thB P 330 (pc p)]) := hid (SX.out)
          clear SX SV SU SW S15
          obtain ⟨f0, f1, f2, f3⟩ := (S16.out.ce 1 rfl).c4
          obtain ⟨e0, e1, e2, e3⟩ := (S16.out.ce 0 rfl).c4
          by_cases hk0 : ck = 0
          · have z0 : (ck == 0) = true := by simp [hk0]
            clear hk0
            go_wp2_with fail
            go_ret
            exact ⟨by simp, S16.out.bl⟩
          · have z0 : (ck == 0) = false := by simp [hk0]
            obtain ⟨a1, a2, a3⟩ := HTC.out hk0
            rw [a1] at e0
            rw [a2] at e1
            rw [a3] at e2
            clear hk0 a1 a2 a3
            go_wp2_with fail
            go_ret
            exact ⟨by simp, S16.out.bl⟩

set_option maxRecDepth 100000 in
theorem lifted (os : Os) (started : os.Started) (H : Type) (enc : TypeId × Value → H) :
    ReturnsInHanded {} Tryz.checked os 5 .any (Rows.planeShutSpec.pre6 enc Tryz.prog Tryz.f5 [] false) (Rows.planeShutSpec.post enc Tryz.prog Tryz.f5 false true false false) :=
  law_step (s := Rows.planeShutSpec) started (by kernel_rfl) Tryz.func5
    (ChangeSpec.witness6 (s := Rows.planeShutSpec) (enc := enc) (C := Tryz.checked) false ⟨#[], #[.slice none 0 0, .int .i64 0, .int .i64 0], []⟩ 8 (by kernel_rfl) (by kernel_rfl) (by kernel_rfl) (by kernel_rfl))
    rfl (by rw [Tryz.params5]; decide +kernel) rfl Tryz.underlying4
    (fun ds h => by
      rw [Tryz.params5] at h
      match ds, h with
      | [_, _, _], _ => rfl)
    (fun W base args ds ps hval hA hsz => by
      rw [Tryz.params5] at hA hval hsz
      obtain ⟨v0, vs0, d0, ds0, p0, q0, hargs, rfl, rfl, h0, r0⟩ := trodAll_cons hA
      obtain ⟨v1, vs1, d1, ds1, p1, q1, rfl, rfl, rfl, h1, r1⟩ := trodAll_cons r0
      obtain ⟨v2, vs2, d2, ds2, p2, q2, rfl, rfl, rfl, h2, r2⟩ := trodAll_cons r1
      obtain ⟨rfl, rfl, rfl⟩ := trodAll_nil r2
      obtain rfl : args = #[v0, v1, v2] := by cases args; simp_all
      obtain ⟨A0, n0, c0, g0, rfl, hn0, hc0, hs0, hw0, hl0, hd0⟩ := open_row Tryz.underlying22 Tryz.underlying3 (by kernel_rfl) (hval 0 22 v0 rfl rfl) h0
      have re0 : c0 * 8 ≤ 140737488351232 := by
        rcases hd0 with ⟨_, h0⟩ | ⟨xs, ys, h1, h2⟩
        · omega
        · have := sized_slice hsz (j := 0) (t := 22) (e := 3) rfl (by rw [h1]; rfl) Tryz.underlying22
          rw [h2, show Tryz.prog.bytesOf 3 = 8 from by kernel_rfl] at this
          simpa [reachBytes] using this
      obtain ⟨a1, rfl, rfl, rfl, w1⟩ := open_int Tryz.underlying3 (hval 1 3 v1 rfl rfl) h1
      obtain ⟨a2, rfl, rfl, rfl, w2⟩ := open_int Tryz.underlying3 (hval 2 3 v2 rfl rfl) h2
      exact walk W A0 n0 c0 g0 hn0 hc0 hs0 (fun j => bounds_i64 (hw0 j)) hl0 re0 a1 (bounds_i64 w1) a2 (bounds_i64 w2))

theorem proved : Rows.PlaneShutSaid :=
  OpenClaim.holds_of_wide 5 Tryz.f5 rfl rfl rfl rfl rfl rfl rfl ⟨rfl, rfl, rfl, rfl, rfl⟩ rfl rfl rfl rfl rfl (by kernel_rfl) Tryz.func5 (by kernel_rfl)
    (of_decide_eq_true (by kernel_rfl)) (by unfold Func.isWrapper; first | (rw [if_pos (by decide +kernel)]; kernel_rfl) | (rw [if_neg (by decide +kernel)]; exact ⟨rfl, rfl⟩))
    (fun os started H enc _ => lifted os started H enc)
end Go.Proofs.YtjfopkbpaekejaaGreat.planeShut
