/- roundhousetop.TopQuiet answers true for every row, any three numbers; no condition. -/
import Derived.Test.YthgffpfigmibhaaGreatGa
import Derived.Test.YthgffpfigmibhaaGreatTopQt
import Derived.Deep.LoopGhost
import Derived.Deep.CutRange
import Derived.BigQuiet
import Derived.Deep.RegionHeld3
import Derived.Deep.Cut
namespace Go.Proofs.YthgffpfigmibhaaGreat.topQuiet
set_option linter.unusedVariables false
set_option linter.unusedSimpArgs false
open Go.RowKit Go.ChangeShapes Go.WideShapes Go.ChangeAt

attribute [local irreducible] FA FL
set_option maxRecDepth 100000 in
set_option maxHeartbeats 8000000 in
theorem walk (W : World) (A1 : Option Addr) (n1 c1 : Nat) (g1 : Nat → Int) (hn1 : n1 ≤ c1) (hc1 : c1 ≤ maxLen) (hr1 : Is W A1 n1 g1) (hg1 : IsI g1) (hl1 : ∀ ad, A1 = some ad → 0 < n1 → ad.block < W.heap.size) (re1 : c1 * 8 ≤ 140737488351232) (a0 : Int) (r_a0 : -9223372036854775808 ≤ a0 ∧ a0 ≤ 9223372036854775807) (b0 : Int) (r_b0 : -9223372036854775808 ≤ b0 ∧ b0 ≤ 9223372036854775807) (d0 : Int) (r_d0 : -9223372036854775808 ≤ d0 ∧ d0 ≤ 9223372036854775807) :
    Calls Tryz.prog 5 #[.slice A1 n1 c1, .int .i64 a0, .int .i64 b0, .int .i64 d0] W fun e w' => e = .returned (.bool true) ∧ Below W.heap.size W w' := by
  obtain ⟨p, hp⟩ : ∃ p, p = mkP g1 (min n1 60) := ⟨_, rfl⟩
  have HPI := hid (show Pinv p 60 from by rw [hp]; exact (mkP_inv g1 _).mono (by omega))
  have HUQ := hid (show Uq p from by rw [hp]; exact mk_uq g1 _)
  have HPC := hid (show p.a = 10 ∧ p.p = 80 from by rw [hp]; exact mkP_place g1 _)
  have HPW := hid (show Pw p from by rw [hp]; exact mk_pw g1 _)
  have MK := hid (fun (w : World) (hb : Below W.heap.size W w) => (show Calls Tryz.prog 9 #[.slice A1 n1 c1, .int .i64 60] w fun x w' => x = .returned (.agg (FA 330 (pc p))) ∧ Below w.heap.size w w' from by rw [hp]; exact mk_top W A1 n1 c1 g1 hr1 hl1 hn1 hc1 60 (by decide) w hb))
  clear hp hr1 hl1 hg1 re1 hn1 hc1
  have S0 : Hid (HS [] W W []) := hid HS.start
  obtain ⟨s0, hs0⟩ : ∃ x, x = wi a0 6 := ⟨_, rfl⟩
  have bs0 := wi_bd a0 6 (by omega)
  rw [← hs0] at bs0
  have Ws0 := hid (fun w => re_i64 (within_any a0 6 w (by omega) (by omega)) hs0.symm)
  clear hs0
  obtain ⟨bs01, bs02⟩ := bs0
  obtain ⟨c, rfl⟩ : ∃ c : Nat, s0 = (c : Int) := ⟨s0.toNat, by omega⟩
  have hc : c < 64 := by omega
  have i0 : (0 : Int) ≤ c := by omega
  have i1 : (c : Int) < 64 := by omega
  obtain ⟨po, hpo⟩ : ∃ x, x = wi b0 65536 := ⟨_, rfl⟩
  have bpo := wi_bd b0 65536 (by omega)
  rw [← hpo] at bpo
  have Wpo := hid (fun w => re_i64 (within_any b0 65536 w (by omega) (by omega)) hpo.symm)
  clear hpo
  obtain ⟨bpo1, bpo2⟩ := bpo
  have RTK := hid (fun (w : World) => (show Calls Tryz.prog 16 #[.agg #[.int .i64 (p.s c).st, .int .i64 (p.s c).ad, .int .i64 (p.s c).po, .int .i64 (p.s c).we, .int .i64 (p.s c).si]] w fun e w' => e = .returned (.bool (takesB (p.s c).st)) ∧ Below w.heap.size w w' from rtakes_any (p.s c) w))
  have HPI2 := HPI.out
  cases ht : takesB (p.s c).st
  · rw [ht] at RTK
    clear HPI2
    go_enter Tryz.func5, Tryz.ntmps5
    go_wp2_with fail
    refine (known_t _).mono ?_
    rintro e w1 ⟨rfl, hb⟩
    have S1 := hid (S0.out.below hb)
    clear hb
    go_simp
    go_wp2_with fail
    refine (MK.out _ S1.out.bl).mono ?_
    rintro e w2 ⟨rfl, hb⟩
    have S2 := hid (S1.out.below hb)
    clear hb S0 S1 MK
    go_simp
    go_upto_region 4 with (first | ((with_reducible refine wl_id ?_); refine wl_ow rfl (ow_alloc rfl (zpl2 _) (by omega) S2.out ?_); intro P w_ hZ _; have SA := hid hZ; clear hZ) | ((with_reducible refine wl_id ?_); refine wl_ow rfl (ow_store (A := []) 0 330 (pc p) (pc p) rfl rfl rfl SA.out (by omega) (fun j hj => patch_all _ _ _ j hj) info_pl2 (pc_one _) ?_); intro w_ hZ; have S3 := hid hZ; clear hZ))
    go_wp2_with fail
    refine (Ws0.out _).mono ?_
    rintro e w' ⟨rfl, rfl⟩
    obtain ⟨s0, s1, s2, s3, s4⟩ := (pool_fb (S3.out.fb 0 rfl)).s5 c hc
    go_wp2_with fail
    refine (RTK.out _).mono ?_
    rintro e w4 ⟨rfl, hb⟩
    have S4 := hid (S3.out.below hb)
    clear hb S2 SA S3 s0 s1 s2 s3 s4 RTK
    go_simp
    go_wp2_with fail
    go_ret
    exact ⟨rfl, S4.out.bl⟩
  · rw [ht] at RTK
    obtain ⟨l, hl⟩ := rem_is HUQ.out hc ht
    obtain ⟨c9, r, e91, e92, hl1, hl2, e93, hrun, e94⟩ := rem_run hl
    clear e91 e92 e93 e94
    have hq0 := qt_start HUQ.out hc ht hl hrun
    have HRP := hid (show Pinv r 62 from (run_inv HPI2 hrun).mono (by omega))
    clear ht
    obtain ⟨f, hf⟩ : ∃ f : Fl, f = ⟨5000, po, p.a, p.p⟩ := ⟨_, rfl⟩
    have hfI : f.I := by rw [hf]; have := HPC.out; exact ⟨⟨by show (-9223372036854775808 : Int) ≤ 5000; decide, by show (5000 : Int) ≤ 9223372036854775807; decide⟩, ⟨by show _ ≤ po; omega, by show po ≤ _; omega⟩, ⟨by show _ ≤ p.a; omega, by show p.a ≤ _; omega⟩, ⟨by show _ ≤ p.p; omega, by show p.p ≤ _; omega⟩⟩
    have MKC := hid (fun (w : World) (s : Int) (hs : 0 ≤ s ∧ s < 64) => (show Calls Tryz.prog 11 #[.agg #[.int .i64 p.r.e, .int .u64 p.r.p.a, .int .u64 p.r.p.b, .int .u64 p.r.c.a, .int .u64 p.r.c.b, .int .u64 p.r.n.a, .int .u64 p.r.n.b], .int .i64 1, .agg #[.int .i64 f.a, .int .i64 f.p, .int .i64 f.ta, .int .i64 f.tp], .int .i64 s] w fun e w' => e = .returned (.int .i64 (cok 4096 p.r.c 1 f s (p.r.e % 4))) ∧ Below w.heap.size w w' from cmake1 p.r f s hfI hs w))
    have RDC := hid (fun (w : World) (q : Pl) (hq : Ep q.r.e) (x : Int) => (show Calls Tryz.prog 13 #[.agg #[.int .i64 q.r.e, .int .u64 q.r.p.a, .int .u64 q.r.p.b, .int .u64 q.r.c.a, .int .u64 q.r.c.b, .int .u64 q.r.n.a, .int .u64 q.r.n.b], .int .i64 1, .agg #[.int .i64 f.a, .int .i64 f.p, .int .i64 f.ta, .int .i64 f.tp], .int .i64 x] w fun e w' => e = .returned (.tuple #[.int .i64 ((readC 4096 q.r 1 f x).getD 0), .bool (readC 4096 q.r 1 f x).isSome]) ∧ Below w.heap.size w w' from read1 q.r f x hfI hq w))
    subst hf
    clear hfI
    have MK2 := hid (fun w => MKC.out w (c : Int) ⟨by omega, by omega⟩)
    clear MKC
    dsimp only at MK2 RDC
    generalize cok 4096 p.r.c 1 _ (c : Int) (p.r.e % 4) = ck at MK2
    have RM := hid (fun (w : World) => rem_top p HPI.out.st (p.s c).ad (p.s c).po w)
    rw [hl] at RM
    have ALP := hid (fun (A : Option Addr) (d : Nat) (w : World) (hA : Se w A l.length (gl l)) => all_top p (gl l) A l.length d w hA (by omega) 60 HPI.out (by decide) r hrun)
    have HQ0 := hid hq0
    have HLL := hid hl2
    have HE := hid (show Pinv p 60 from HPI.out)
    clear hl hrun hq0 hl1 hl2 HPI2
    go_enter Tryz.func5, Tryz.ntmps5
    go_wp2_with fail
    refine (known_t _).mono ?_
    rintro e w1 ⟨rfl, hb⟩
    have S1 := hid (S0.out.below hb)
    clear hb
    go_simp
    go_wp2_with fail
    refine (MK.out _ S1.out.bl).mono ?_
    rintro e w2 ⟨rfl, hb⟩
    have S2 := hid (S1.out.below hb)
    clear hb S0 S1 MK
    go_simp
    go_upto_region 4 with (first | ((with_reducible refine wl_id ?_); refine wl_ow rfl (ow_alloc rfl (zpl2 _) (by omega) S2.out ?_); intro P w_ hZ _; have SA := hid hZ; clear hZ) | ((with_reducible refine wl_id ?_); refine wl_ow rfl (ow_store (A := []) 0 330 (pc p) (pc p) rfl rfl rfl SA.out (by omega) (fun j hj => patch_all _ _ _ j hj) info_pl2 (pc_one _) ?_); intro w_ hZ; have S3 := hid hZ; clear hZ))
    go_wp2_with fail
    refine (Ws0.out _).mono ?_
    rintro e w' ⟨rfl, rfl⟩
    obtain ⟨s0, s1, s2, s3, s4⟩ := (pool_fb (S3.out.fb 0 rfl)).s5 c hc
    go_wp2_with fail
    refine (RTK.out _).mono ?_
    rintro e w4 ⟨rfl, hb⟩
    have S4 := hid (S3.out.below hb)
    clear hb S2 SA S3 s0 s1 s2 s3 s4 RTK
    go_simp
    go_upto_region 7 with (fail)
    go_cut [11] from 33 to 39 (fun v wx => ∃ V, v = .pointer (some ⟨V, 0, none⟩) ∧ HS [] W wx [thC V [.int .i64 5000, .int .i64 po, .int .i64 p.a, .int .i64 p.p], thB P 330 (pc p)])
    case first =>
      refine wp_region_held_drew (S := fun (w' : World) => HS [] W w' [thB P 330 (pc p)]) (by kernel_rfl) ?_ (fun hHeld => ?_)
      · exact S4.out.drew
      refine tkq 0 hHeld ?_
      refine tkq 2 hHeld ?_
      refine tkq 3 hHeld ?_ (hy := by intro w hSw; (try dsimp only at hSw); have x1 := (pool_fb (hSw.fb 0 rfl)).c1; have x2 := (pool_fb (hSw.fb 0 rfl)).c2; go_simp; (try with_reducible rfl))
      refine tkq 4 hHeld ?_
      refine tkq 5 hHeld ?_ (hy := by intro w hSw; (try dsimp only at hSw); have x1 := (pool_fb (hSw.fb 0 rfl)).c1; have x2 := (pool_fb (hSw.fb 0 rfl)).c2; go_simp; (try with_reducible rfl))
      refine twoUp 1 7 rfl rfl (by kernel_rfl) rfl rfl (fun K hK => ?_) (fun K hK => ?_)
      · go_simp
        refine (Wpo.out _).mono ?_
        rintro e w' ⟨rfl, rfl⟩
        try go_wp2_with fail
        refine hK.out _ _ hHeld (fun h5 => ?_)
        clear hK hHeld
        try simp only [Act.put, List.setIfInBounds_toArray, List.set_cons_zero, List.set_cons_succ]
        refine tkq 6 h5 ?_
        refine only 7 rfl (by kernel_rfl) rfl (fun K hK => ?_)
        refine ow_allocC rfl (zFl _) (by simp) h5 (fun V w9 hZ _ => ?_)
        refine hK.out _ _ hZ.tail (fun _ => ?_)
        clear hK h5
        try simp only [Act.put, List.setIfInBounds_toArray, List.set_cons_zero, List.set_cons_succ]
        refine only 8 rfl (by kernel_rfl) rfl (fun K hK => ?_)
        refine ow_storeC (A := []) [.int .i64 5000, .int .i64 po, .int .i64 p.a, .int .i64 p.p] rfl rfl rfl hZ rfl iFl rfl (fun w10 hY => ?_)
        refine hK.out _ _ hY.tail (fun _ => ?_)
        clear hK
        try simp only [Act.put, List.setIfInBounds_toArray, List.set_cons_zero, List.set_cons_succ]
        refine wpAnyH_done (by kernel_rfl) ?_ _
        go_wp2_with fail
        go_meet
        exact ⟨V, rfl, hY⟩
      · refine ow_allocC rfl (zFl _) (by simp) hHeld (fun V w9 hZ _ => ?_)
        refine hK.out _ _ hZ.tail (fun h5 => ?_)
        clear hK hHeld
        try simp only [Act.put, List.setIfInBounds_toArray, List.set_cons_zero, List.set_cons_succ]
        refine only 1 rfl (by kernel_rfl) rfl (fun K hK => ?_)
        go_simp
        refine (Wpo.out _).mono ?_
        rintro e w' ⟨rfl, rfl⟩
        try go_wp2_with fail
        refine hK.out _ _ h5 (fun h6 => ?_)
        clear hK h5
        try simp only [Act.put, List.setIfInBounds_toArray, List.set_cons_zero, List.set_cons_succ]
        refine tkq 6 h6 ?_
        refine only 8 rfl (by kernel_rfl) rfl (fun K hK => ?_)
        refine ow_storeC (A := []) [.int .i64 5000, .int .i64 po, .int .i64 p.a, .int .i64 p.p] rfl rfl rfl hZ rfl iFl rfl (fun w10 hY => ?_)
        refine hK.out _ _ hY.tail (fun _ => ?_)
        clear hK
        try simp only [Act.put, List.setIfInBounds_toArray, List.set_cons_zero, List.set_cons_succ]
        refine wpAnyH_done (by kernel_rfl) ?_ _
        go_wp2_with fail
        go_meet
        exact ⟨V, rfl, hY⟩
    case rest =>
      obtain ⟨V, rfl, hz⟩ := hcut
      have S7 := hid hz
      clear hz S4
      obtain ⟨r0, r1, r2, r3, r4, r5, r6⟩ := (pool_fb (S7.out.fb 1 rfl)).r7
      obtain ⟨f0, f1, f2, f3⟩ := (S7.out.ce 0 rfl).c4
      go_wp2_with fail
      refine (MK2.out _).mono ?_
      rintro e w8 ⟨rfl, hb⟩
      have S8 := hid (S7.out.below hb)
      clear hb S7 MK2 r0 r1 r2 r3 r4 r5 r6 f0 f1 f2 f3
      go_simp
      go_upto_region 9 with (fail)
      refine wp_region_held_drew (S := fun (w' : World) => HS [] W w' [thC V [.int .i64 5000, .int .i64 po, .int .i64 p.a, .int .i64 p.p], thB P 330 (pc p)]) (by kernel_rfl) ?_ (fun hHeld => ?_)
      · exact S8.out.drew
      refine tk 0 (v := .agg (FA 330 (pc p))) rfl (by kernel_rfl) (by kernel_rfl) (by kernel_rfl) (fun _ _ _ h => h) rfl (fun w hSw => ex_load rfl rfl ((hSw.fb 1 rfl).load 0 330 (pc p) (by omega) (fun j hj => by rw [Nat.zero_add]) Tryz.underlying33 rfl info_pl2)) hHeld ?_; (try simp only [Act.put, List.setIfInBounds_toArray, List.set_cons_zero, List.set_cons_succ])
      refine tkq 1 hHeld ?_
      refine tkq 2 hHeld ?_
      refine tkq 3 hHeld ?_
      refine tkq 4 hHeld ?_
      refine tkq 5 hHeld ?_ (hy := by intro w hSw; (try dsimp only at hSw); obtain ⟨s0, s1, s2, s3, s4⟩ := (pool_fb (hSw.fb 1 rfl)).s5 c hc; go_simp; (try with_reducible rfl))
      refine tkq 6 hHeld ?_
      refine tkq 7 hHeld ?_
      refine tkq 8 hHeld ?_
      refine tkq 9 hHeld ?_
      refine tkq 10 hHeld ?_ (hy := by intro w hSw; (try dsimp only at hSw); obtain ⟨s0, s1, s2, s3, s4⟩ := (pool_fb (hSw.fb 1 rfl)).s5 c hc; go_simp; (try with_reducible rfl))
      refine only 11 rfl (by kernel_rfl) rfl (fun K hK => ?_)
      go_simp
      refine (RM.out _).mono ?_
      rintro e w9 ⟨A, d, rfl, hO, hb⟩
      try go_wp2_with fail
      refine hK.out _ _ (hHeld.below hb) (fun h9 => ?_)
      clear hK hHeld hb
      try simp only [Act.put, List.setIfInBounds_toArray, List.set_cons_zero, List.set_cons_succ]
      have hSe : Se w9 A l.length (gl l) := Ow.sl hO
      refine tkq 12 h9 ?_
      refine tkq 13 h9 ?_
      refine tkq 14 h9 ?_
      refine tkq 15 h9 ?_
      refine tkq 16 h9 ?_
      have S9 := hid h9
      have HSE := hid hSe
      clear h9 hSe hO S8 RM
      refine wpAnyH_done (by kernel_rfl) ?_ _
      go_upto_region 10 with (fail)
      go_wp2_with ((with_reducible refine wl_id ?_); refine wl_ow rfl (ow_load 1 rfl 0 330 (pc p) rfl rfl S9.out (by omega) (fun j hj => by rw [Nat.zero_add]) Tryz.underlying33 rfl info_pl2 ?_))
      refine (ALP.out A d _ HSE.out).mono ?_
      rintro e w10 ⟨rfl, hb⟩
      have S10 := hid (S9.out.below hb)
      clear hb S9 HSE ALP
      go_simp
      go_upto_region 11 with (first | ((with_reducible refine wl_id ?_); refine wl_ow rfl (ow_alloc rfl (zpl2 _) (by omega) S10.out ?_); intro Q w_ hZ _; have SB := hid hZ; clear hZ) | ((with_reducible refine wl_id ?_); refine wl_ow rfl (ow_store (A := []) 0 330 (pc r) (pc r) rfl rfl rfl SB.out (by omega) (fun j hj => patch_all _ _ _ j hj) info_pl2 (pc_one _) ?_); intro w_ hZ; have S11 := hid hZ; clear hZ))
      clear S10 SB
      have HQ1 : Hid (Qt p.r.e c 0 r) := HQ0
      go_wp2_with fail
      go_loopg [18] 3 (fun gh i wx => ∃ (k : Nat) (q : Pl), gh = 3 - k ∧ k ≤ 3 ∧ i = .int .i64 (k : Int) ∧ Qt p.r.e c k q ∧ Pinv q (62 + 65 * k) ∧ HS [] W wx [thB Q 330 (pc q), thC V [.int .i64 5000, .int .i64 po, .int .i64 p.a, .int .i64 p.p], thB P 330 (pc p)])
      case atStart => exact ⟨0, r, rfl, by omega, rfl, HQ1.out, HRP.out.mono (by omega), S11.out⟩
      case round =>
        clear S11 HQ1 HRP HQ0
        obtain ⟨k, q, hgh, hk, rfl, hq, hpi, hS⟩ := hrel
        have U0 := hid hS
        have HQ := hid hq
        have HPQ := hid hpi
        clear hS hq hpi
        by_cases hlt : (k : Int) < 3
        · have hk3 : k < 3 := by omega
          obtain ⟨n, hn⟩ : ∃ n : Int, n = IntKind.i64.wrap (d0 + (k : Int)) := ⟨_, rfl⟩
          have hn2 := hn.symm
          have LK := hid (fun (w : World) => (show Calls Tryz.prog 20 #[.int .i64 n] w fun e w' => e = .returned (kyV (kyN n)) ∧ Below w.heap.size w w' from lkey_any n w))
          clear hn
          obtain ⟨y, hy⟩ : ∃ y, y = kyN n := ⟨_, rfl⟩
          rw [← hy] at LK
          clear hy
          have RT := hid (fun (w : World) => rot_top q (HPQ.out.pb (by omega)) y w)
          obtain ⟨l2, hl2⟩ : ∃ l2, l2 = rotL q y 64 := ⟨_, rfl⟩
          have hrr := rot_run q y 64 (by omega)
          have hrl := rot_len q y 64
          rw [← hl2] at RT hrr hrl
          have ALQ := hid (fun (A : Option Addr) (d : Nat) (w : World) (hA : Se w A l2.length (gl l2)) => all_top q (gl l2) A l2.length d w hA (by omega) (62 + 65 * k) HPQ.out (by omega) _ hrr)
          have HN := hid (qt_step hc hk3 HQ.out y)
          have HNP := hid (show Pinv (rotQ q y 64) (62 + 65 * (k + 1 : Nat)) from (run_inv HPQ.out hrr).mono (by omega))
          generalize rotQ q y 64 = q2 at ALQ HN HNP
          clear hl2 hrr hrl
          go_upto_region 16 with (fail)
          clear hlt
          refine wp_region_held_drew (S := fun (w' : World) => ∃ q', HS [] W w' [thB Q 330 (pc q'), thC V [.int .i64 5000, .int .i64 po, .int .i64 p.a, .int .i64 p.p], thB P 330 (pc p)]) (by kernel_rfl) ?_ (fun hHeld => ?_)
          · exact ⟨_, U0.out.drew⟩
          have F0 := U0.out.drew
          refine tkq 2 hHeld ?_
          refine tkq 3 hHeld ?_
          refine tkq 4 hHeld ?_
          try rw [hn2]
          try simp only [hn2]
          refine threeUp 0 1 5 rfl rfl rfl (by kernel_rfl) rfl rfl rfl (fun K hK => ?_) (fun K hK => ?_) (fun K hK => ?_)
          · refine ov_val (ex_load rfl rfl ((F0.fb 0 rfl).load 0 330 (pc q) (by omega) (fun j hj => by rw [Nat.zero_add]) Tryz.underlying33 rfl info_pl2)) ?_
            refine hK.out _ _ ⟨_, F0⟩ (fun _ => ?_)
            clear hK
            try simp only [Act.put, List.setIfInBounds_toArray, List.set_cons_zero, List.set_cons_succ]
            refine twoUp 1 5 rfl rfl (by kernel_rfl) rfl rfl (fun K hK => ?_) (fun K hK => ?_)
            · refine ov_val (ex_load rfl rfl ((F0.fb 0 rfl).load 0 330 (pc q) (by omega) (fun j hj => by rw [Nat.zero_add]) Tryz.underlying33 rfl info_pl2)) ?_
              refine hK.out _ _ ⟨_, F0⟩ (fun _ => ?_)
              clear hK
              try simp only [Act.put, List.setIfInBounds_toArray, List.set_cons_zero, List.set_cons_succ]
              refine only 5 rfl (by kernel_rfl) rfl (fun K hK => ?_)
              go_simp
              refine (LK.out _).mono ?_
              rintro e w20 ⟨rfl, hb⟩
              try go_wp2_with fail
              have F5 := F0.below hb
              refine hK.out _ _ ⟨_, F5⟩ (fun _ => ?_)
              clear hK hb
              try simp only [Act.put, List.setIfInBounds_toArray, List.set_cons_zero, List.set_cons_succ]
              refine only 6 rfl (by kernel_rfl) rfl (fun K hK => ?_)
              unfold kyV
              go_simp
              refine (RT.out _).mono ?_
              rintro e w21 ⟨A, d, rfl, hO, hb⟩
              try go_wp2_with fail
              have F6 := F5.below hb
              have hSe : Se w21 A l2.length (gl l2) := Ow.sl hO
              refine hK.out _ _ ⟨_, F6⟩ (fun _ => ?_)
              clear hK hb hO
              try simp only [Act.put, List.setIfInBounds_toArray, List.set_cons_zero, List.set_cons_succ]
              refine only 7 rfl (by kernel_rfl) rfl (fun K hK => ?_)
              go_simp
              refine (ALQ.out A d _ hSe).mono ?_
              rintro e w22 ⟨rfl, hb⟩
              try go_wp2_with fail
              have F9 := F6.below hb
              refine hK.out _ _ ⟨_, F9⟩ (fun _ => ?_)
              clear hK hb
              try simp only [Act.put, List.setIfInBounds_toArray, List.set_cons_zero, List.set_cons_succ]
              refine tkq 8 ⟨_, F9⟩ ?_
              refine tkq 9 ⟨_, F9⟩ ?_
              refine tkq 10 ⟨_, F9⟩ ?_
              refine tkq 11 ⟨_, F9⟩ ?_
              refine only 12 rfl (by kernel_rfl) rfl (fun K hK => ?_)
              refine ow_store (A := []) 0 330 (pc q2) (pc q2) rfl rfl rfl F9 (by omega) (fun j hj => patch_all _ _ _ j hj) info_pl2 (pc_one _) (fun w23 hZ => ?_)
              refine hK.out _ _ ⟨_, hZ⟩ (fun _ => ?_)
              clear hK
              try simp only [Act.put, List.setIfInBounds_toArray, List.set_cons_zero, List.set_cons_succ]
              refine tkq 13 ⟨_, hZ⟩ ?_
              have U9 := hid hZ
              refine wpAnyH_done (by kernel_rfl) ?_ _
              clear hZ F9 hSe
              go_wp2_with fail
              go_roundg (3 - (k + 1))
              case rel => exact ⟨k + 1, q2, by omega, by omega, by go_num, HN.out, HNP.out, U9.out⟩
              case measure => omega
            · go_simp
              refine (LK.out _).mono ?_
              rintro e w20 ⟨rfl, hb⟩
              try go_wp2_with fail
              have F5 := F0.below hb
              refine hK.out _ _ ⟨_, F5⟩ (fun _ => ?_)
              clear hK hb
              try simp only [Act.put, List.setIfInBounds_toArray, List.set_cons_zero, List.set_cons_succ]
              refine only 1 rfl (by kernel_rfl) rfl (fun K hK => ?_)
              refine ov_val (ex_load rfl rfl ((F5.fb 0 rfl).load 0 330 (pc q) (by omega) (fun j hj => by rw [Nat.zero_add]) Tryz.underlying33 rfl info_pl2)) ?_
              refine hK.out _ _ ⟨_, F5⟩ (fun _ => ?_)
              clear hK
              try simp only [Act.put, List.setIfInBounds_toArray, List.set_cons_zero, List.set_cons_succ]
              refine only 6 rfl (by kernel_rfl) rfl (fun K hK => ?_)
              unfold kyV
              go_simp
              refine (RT.out _).mono ?_
              rintro e w21 ⟨A, d, rfl, hO, hb⟩
              try go_wp2_with fail
              have F6 := F5.below hb
              have hSe : Se w21 A l2.length (gl l2) := Ow.sl hO
              refine hK.out _ _ ⟨_, F6⟩ (fun _ => ?_)
              clear hK hb hO
              try simp only [Act.put, List.setIfInBounds_toArray, List.set_cons_zero, List.set_cons_succ]
              refine only 7 rfl (by kernel_rfl) rfl (fun K hK => ?_)
              go_simp
              refine (ALQ.out A d _ hSe).mono ?_
              rintro e w22 ⟨rfl, hb⟩
              try go_wp2_with fail
              have F9 := F6.below hb
              refine hK.out _ _ ⟨_, F9⟩ (fun _ => ?_)
              clear hK hb
              try simp only [Act.put, List.setIfInBounds_toArray, List.set_cons_zero, List.set_cons_succ]
              refine tkq 8 ⟨_, F9⟩ ?_
              refine tkq 9 ⟨_, F9⟩ ?_
              refine tkq 10 ⟨_, F9⟩ ?_
              refine tkq 11 ⟨_, F9⟩ ?_
              refine only 12 rfl (by kernel_rfl) rfl (fun K hK => ?_)
              refine ow_store (A := []) 0 330 (pc q2) (pc q2) rfl rfl rfl F9 (by omega) (fun j hj => patch_all _ _ _ j hj) info_pl2 (pc_one _) (fun w23 hZ => ?_)
              refine hK.out _ _ ⟨_, hZ⟩ (fun _ => ?_)
              clear hK
              try simp only [Act.put, List.setIfInBounds_toArray, List.set_cons_zero, List.set_cons_succ]
              refine tkq 13 ⟨_, hZ⟩ ?_
              have U9 := hid hZ
              refine wpAnyH_done (by kernel_rfl) ?_ _
              clear hZ F9 hSe
              go_wp2_with fail
              go_roundg (3 - (k + 1))
              case rel => exact ⟨k + 1, q2, by omega, by omega, by go_num, HN.out, HNP.out, U9.out⟩
              case measure => omega
          · refine ov_val (ex_load rfl rfl ((F0.fb 0 rfl).load 0 330 (pc q) (by omega) (fun j hj => by rw [Nat.zero_add]) Tryz.underlying33 rfl info_pl2)) ?_
            refine hK.out _ _ ⟨_, F0⟩ (fun _ => ?_)
            clear hK
            try simp only [Act.put, List.setIfInBounds_toArray, List.set_cons_zero, List.set_cons_succ]
            refine twoUp 0 5 rfl rfl (by kernel_rfl) rfl rfl (fun K hK => ?_) (fun K hK => ?_)
            · refine ov_val (ex_load rfl rfl ((F0.fb 0 rfl).load 0 330 (pc q) (by omega) (fun j hj => by rw [Nat.zero_add]) Tryz.underlying33 rfl info_pl2)) ?_
              refine hK.out _ _ ⟨_, F0⟩ (fun _ => ?_)
              clear hK
              try simp only [Act.put, List.setIfInBounds_toArray, List.set_cons_zero, List.set_cons_succ]
              refine only 5 rfl (by kernel_rfl) rfl (fun K hK => ?_)
              go_simp
              refine (LK.out _).mono ?_
              rintro e w20 ⟨rfl, hb⟩
              try go_wp2_with fail
              have F5 := F0.below hb
              refine hK.out _ _ ⟨_, F5⟩ (fun _ => ?_)
              clear hK hb
              try simp only [Act.put, List.setIfInBounds_toArray, List.set_cons_zero, List.set_cons_succ]
              refine only 6 rfl (by kernel_rfl) rfl (fun K hK => ?_)
              unfold kyV
              go_simp
              refine (RT.out _).mono ?_
              rintro e w21 ⟨A, d, rfl, hO, hb⟩
              try go_wp2_with fail
              have F6 := F5.below hb
              have hSe : Se w21 A l2.length (gl l2) := Ow.sl hO
              refine hK.out _ _ ⟨_, F6⟩ (fun _ => ?_)
              clear hK hb hO
              try simp only [Act.put, List.setIfInBounds_toArray, List.set_cons_zero, List.set_cons_succ]
              refine only 7 rfl (by kernel_rfl) rfl (fun K hK => ?_)
              go_simp
              refine (ALQ.out A d _ hSe).mono ?_
              rintro e w22 ⟨rfl, hb⟩
              try go_wp2_with fail
              have F9 := F6.below hb
              refine hK.out _ _ ⟨_, F9⟩ (fun _ => ?_)
              clear hK hb
              try simp only [Act.put, List.setIfInBounds_toArray, List.set_cons_zero, List.set_cons_succ]
              refine tkq 8 ⟨_, F9⟩ ?_
              refine tkq 9 ⟨_, F9⟩ ?_
              refine tkq 10 ⟨_, F9⟩ ?_
              refine tkq 11 ⟨_, F9⟩ ?_
              refine only 12 rfl (by kernel_rfl) rfl (fun K hK => ?_)
              refine ow_store (A := []) 0 330 (pc q2) (pc q2) rfl rfl rfl F9 (by omega) (fun j hj => patch_all _ _ _ j hj) info_pl2 (pc_one _) (fun w23 hZ => ?_)
              refine hK.out _ _ ⟨_, hZ⟩ (fun _ => ?_)
              clear hK
              try simp only [Act.put, List.setIfInBounds_toArray, List.set_cons_zero, List.set_cons_succ]
              refine tkq 13 ⟨_, hZ⟩ ?_
              have U9 := hid hZ
              refine wpAnyH_done (by kernel_rfl) ?_ _
              clear hZ F9 hSe
              go_wp2_with fail
              go_roundg (3 - (k + 1))
              case rel => exact ⟨k + 1, q2, by omega, by omega, by go_num, HN.out, HNP.out, U9.out⟩
              case measure => omega
            · go_simp
              refine (LK.out _).mono ?_
              rintro e w20 ⟨rfl, hb⟩
              try go_wp2_with fail
              have F5 := F0.below hb
              refine hK.out _ _ ⟨_, F5⟩ (fun _ => ?_)
              clear hK hb
              try simp only [Act.put, List.setIfInBounds_toArray, List.set_cons_zero, List.set_cons_succ]
              refine twoUp 0 6 rfl rfl (by kernel_rfl) rfl rfl (fun K hK => ?_) (fun K hK => ?_)
              · refine ov_val (ex_load rfl rfl ((F5.fb 0 rfl).load 0 330 (pc q) (by omega) (fun j hj => by rw [Nat.zero_add]) Tryz.underlying33 rfl info_pl2)) ?_
                refine hK.out _ _ ⟨_, F5⟩ (fun _ => ?_)
                clear hK
                try simp only [Act.put, List.setIfInBounds_toArray, List.set_cons_zero, List.set_cons_succ]
                refine only 6 rfl (by kernel_rfl) rfl (fun K hK => ?_)
                unfold kyV
                go_simp
                refine (RT.out _).mono ?_
                rintro e w21 ⟨A, d, rfl, hO, hb⟩
                try go_wp2_with fail
                have F6 := F5.below hb
                have hSe : Se w21 A l2.length (gl l2) := Ow.sl hO
                refine hK.out _ _ ⟨_, F6⟩ (fun _ => ?_)
                clear hK hb hO
                try simp only [Act.put, List.setIfInBounds_toArray, List.set_cons_zero, List.set_cons_succ]
                refine only 7 rfl (by kernel_rfl) rfl (fun K hK => ?_)
                go_simp
                refine (ALQ.out A d _ hSe).mono ?_
                rintro e w22 ⟨rfl, hb⟩
                try go_wp2_with fail
                have F9 := F6.below hb
                refine hK.out _ _ ⟨_, F9⟩ (fun _ => ?_)
                clear hK hb
                try simp only [Act.put, List.setIfInBounds_toArray, List.set_cons_zero, List.set_cons_succ]
                refine tkq 8 ⟨_, F9⟩ ?_
                refine tkq 9 ⟨_, F9⟩ ?_
                refine tkq 10 ⟨_, F9⟩ ?_
                refine tkq 11 ⟨_, F9⟩ ?_
                refine only 12 rfl (by kernel_rfl) rfl (fun K hK => ?_)
                refine ow_store (A := []) 0 330 (pc q2) (pc q2) rfl rfl rfl F9 (by omega) (fun j hj => patch_all _ _ _ j hj) info_pl2 (pc_one _) (fun w23 hZ => ?_)
                refine hK.out _ _ ⟨_, hZ⟩ (fun _ => ?_)
                clear hK
                try simp only [Act.put, List.setIfInBounds_toArray, List.set_cons_zero, List.set_cons_succ]
                refine tkq 13 ⟨_, hZ⟩ ?_
                have U9 := hid hZ
                refine wpAnyH_done (by kernel_rfl) ?_ _
                clear hZ F9 hSe
                go_wp2_with fail
                go_roundg (3 - (k + 1))
                case rel => exact ⟨k + 1, q2, by omega, by omega, by go_num, HN.out, HNP.out, U9.out⟩
                case measure => omega
              · unfold kyV
                go_simp
                refine (RT.out _).mono ?_
                rintro e w21 ⟨A, d, rfl, hO, hb⟩
                try go_wp2_with fail
                have F6 := F5.below hb
                have hSe : Se w21 A l2.length (gl l2) := Ow.sl hO
                refine hK.out _ _ ⟨_, F6⟩ (fun _ => ?_)
                clear hK hb hO
                try simp only [Act.put, List.setIfInBounds_toArray, List.set_cons_zero, List.set_cons_succ]
                refine only 0 rfl (by kernel_rfl) rfl (fun K hK => ?_)
                refine ov_val (ex_load rfl rfl ((F6.fb 0 rfl).load 0 330 (pc q) (by omega) (fun j hj => by rw [Nat.zero_add]) Tryz.underlying33 rfl info_pl2)) ?_
                refine hK.out _ _ ⟨_, F6⟩ (fun _ => ?_)
                clear hK
                try simp only [Act.put, List.setIfInBounds_toArray, List.set_cons_zero, List.set_cons_succ]
                refine only 7 rfl (by kernel_rfl) rfl (fun K hK => ?_)
                go_simp
                refine (ALQ.out A d _ hSe).mono ?_
                rintro e w22 ⟨rfl, hb⟩
                try go_wp2_with fail
                have F9 := F6.below hb
                refine hK.out _ _ ⟨_, F9⟩ (fun _ => ?_)
                clear hK hb
                try simp only [Act.put, List.setIfInBounds_toArray, List.set_cons_zero, List.set_cons_succ]
                refine tkq 8 ⟨_, F9⟩ ?_
                refine tkq 9 ⟨_, F9⟩ ?_
                refine tkq 10 ⟨_, F9⟩ ?_
                refine tkq 11 ⟨_, F9⟩ ?_
                refine only 12 rfl (by kernel_rfl) rfl (fun K hK => ?_)
                refine ow_store (A := []) 0 330 (pc q2) (pc q2) rfl rfl rfl F9 (by omega) (fun j hj => patch_all _ _ _ j hj) info_pl2 (pc_one _) (fun w23 hZ => ?_)
                refine hK.out _ _ ⟨_, hZ⟩ (fun _ => ?_)
                clear hK
                try simp only [Act.put, List.setIfInBounds_toArray, List.set_cons_zero, List.set_cons_succ]
                refine tkq 13 ⟨_, hZ⟩ ?_
                have U9 := hid hZ
                refine wpAnyH_done (by kernel_rfl) ?_ _
                clear hZ F9 hSe
                go_wp2_with fail
                go_roundg (3 - (k + 1))
                case rel => exact ⟨k + 1, q2, by omega, by omega, by go_num, HN.out, HNP.out, U9.out⟩
                case measure => omega
          · go_simp
            refine (LK.out _).mono ?_
            rintro e w20 ⟨rfl, hb⟩
            try go_wp2_with fail
            have F5 := F0.below hb
            refine hK.out _ _ ⟨_, F5⟩ (fun _ => ?_)
            clear hK hb
            try simp only [Act.put, List.setIfInBounds_toArray, List.set_cons_zero, List.set_cons_succ]
            refine twoUp 0 1 rfl rfl (by kernel_rfl) rfl rfl (fun K hK => ?_) (fun K hK => ?_)
            · refine ov_val (ex_load rfl rfl ((F5.fb 0 rfl).load 0 330 (pc q) (by omega) (fun j hj => by rw [Nat.zero_add]) Tryz.underlying33 rfl info_pl2)) ?_
              refine hK.out _ _ ⟨_, F5⟩ (fun _ => ?_)
              clear hK
              try simp only [Act.put, List.setIfInBounds_toArray, List.set_cons_zero, List.set_cons_succ]
              refine only 1 rfl (by kernel_rfl) rfl (fun K hK => ?_)
              refine ov_val (ex_load rfl rfl ((F5.fb 0 rfl).load 0 330 (pc q) (by omega) (fun j hj => by rw [Nat.zero_add]) Tryz.underlying33 rfl info_pl2)) ?_
              refine hK.out _ _ ⟨_, F5⟩ (fun _ => ?_)
              clear hK
              try simp only [Act.put, List.setIfInBounds_toArray, List.set_cons_zero, List.set_cons_succ]
              refine only 6 rfl (by kernel_rfl) rfl (fun K hK => ?_)
              unfold kyV
              go_simp
              refine (RT.out _).mono ?_
              rintro e w21 ⟨A, d, rfl, hO, hb⟩
              try go_wp2_with fail
              have F6 := F5.below hb
              have hSe : Se w21 A l2.length (gl l2) := Ow.sl hO
              refine hK.out _ _ ⟨_, F6⟩ (fun _ => ?_)
              clear hK hb hO
              try simp only [Act.put, List.setIfInBounds_toArray, List.set_cons_zero, List.set_cons_succ]
              refine only 7 rfl (by kernel_rfl) rfl (fun K hK => ?_)
              go_simp
              refine (ALQ.out A d _ hSe).mono ?_
              rintro e w22 ⟨rfl, hb⟩
              try go_wp2_with fail
              have F9 := F6.below hb
              refine hK.out _ _ ⟨_, F9⟩ (fun _ => ?_)
              clear hK hb
              try simp only [Act.put, List.setIfInBounds_toArray, List.set_cons_zero, List.set_cons_succ]
              refine tkq 8 ⟨_, F9⟩ ?_
              refine tkq 9 ⟨_, F9⟩ ?_
              refine tkq 10 ⟨_, F9⟩ ?_
              refine tkq 11 ⟨_, F9⟩ ?_
              refine only 12 rfl (by kernel_rfl) rfl (fun K hK => ?_)
              refine ow_store (A := []) 0 330 (pc q2) (pc q2) rfl rfl rfl F9 (by omega) (fun j hj => patch_all _ _ _ j hj) info_pl2 (pc_one _) (fun w23 hZ => ?_)
              refine hK.out _ _ ⟨_, hZ⟩ (fun _ => ?_)
              clear hK
              try simp only [Act.put, List.setIfInBounds_toArray, List.set_cons_zero, List.set_cons_succ]
              refine tkq 13 ⟨_, hZ⟩ ?_
              have U9 := hid hZ
              refine wpAnyH_done (by kernel_rfl) ?_ _
              clear hZ F9 hSe
              go_wp2_with fail
              go_roundg (3 - (k + 1))
              case rel => exact ⟨k + 1, q2, by omega, by omega, by go_num, HN.out, HNP.out, U9.out⟩
              case measure => omega
            · refine ov_val (ex_load rfl rfl ((F5.fb 0 rfl).load 0 330 (pc q) (by omega) (fun j hj => by rw [Nat.zero_add]) Tryz.underlying33 rfl info_pl2)) ?_
              refine hK.out _ _ ⟨_, F5⟩ (fun _ => ?_)
              clear hK
              try simp only [Act.put, List.setIfInBounds_toArray, List.set_cons_zero, List.set_cons_succ]
              refine twoUp 0 6 rfl rfl (by kernel_rfl) rfl rfl (fun K hK => ?_) (fun K hK => ?_)
              · refine ov_val (ex_load rfl rfl ((F5.fb 0 rfl).load 0 330 (pc q) (by omega) (fun j hj => by rw [Nat.zero_add]) Tryz.underlying33 rfl info_pl2)) ?_
                refine hK.out _ _ ⟨_, F5⟩ (fun _ => ?_)
                clear hK
                try simp only [Act.put, List.setIfInBounds_toArray, List.set_cons_zero, List.set_cons_succ]
                refine only 6 rfl (by kernel_rfl) rfl (fun K hK => ?_)
                unfold kyV
                go_simp
                refine (RT.out _).mono ?_
                rintro e w21 ⟨A, d, rfl, hO, hb⟩
                try go_wp2_with fail
                have F6 := F5.below hb
                have hSe : Se w21 A l2.length (gl l2) := Ow.sl hO
                refine hK.out _ _ ⟨_, F6⟩ (fun _ => ?_)
                clear hK hb hO
                try simp only [Act.put, List.setIfInBounds_toArray, List.set_cons_zero, List.set_cons_succ]
                refine only 7 rfl (by kernel_rfl) rfl (fun K hK => ?_)
                go_simp
                refine (ALQ.out A d _ hSe).mono ?_
                rintro e w22 ⟨rfl, hb⟩
                try go_wp2_with fail
                have F9 := F6.below hb
                refine hK.out _ _ ⟨_, F9⟩ (fun _ => ?_)
                clear hK hb
                try simp only [Act.put, List.setIfInBounds_toArray, List.set_cons_zero, List.set_cons_succ]
                refine tkq 8 ⟨_, F9⟩ ?_
                refine tkq 9 ⟨_, F9⟩ ?_
                refine tkq 10 ⟨_, F9⟩ ?_
                refine tkq 11 ⟨_, F9⟩ ?_
                refine only 12 rfl (by kernel_rfl) rfl (fun K hK => ?_)
                refine ow_store (A := []) 0 330 (pc q2) (pc q2) rfl rfl rfl F9 (by omega) (fun j hj => patch_all _ _ _ j hj) info_pl2 (pc_one _) (fun w23 hZ => ?_)
                refine hK.out _ _ ⟨_, hZ⟩ (fun _ => ?_)
                clear hK
                try simp only [Act.put, List.setIfInBounds_toArray, List.set_cons_zero, List.set_cons_succ]
                refine tkq 13 ⟨_, hZ⟩ ?_
                have U9 := hid hZ
                refine wpAnyH_done (by kernel_rfl) ?_ _
                clear hZ F9 hSe
                go_wp2_with fail
                go_roundg (3 - (k + 1))
                case rel => exact ⟨k + 1, q2, by omega, by omega, by go_num, HN.out, HNP.out, U9.out⟩
                case measure => omega
              · unfold kyV
                go_simp
                refine (RT.out _).mono ?_
                rintro e w21 ⟨A, d, rfl, hO, hb⟩
                try go_wp2_with fail
                have F6 := F5.below hb
                have hSe : Se w21 A l2.length (gl l2) := Ow.sl hO
                refine hK.out _ _ ⟨_, F6⟩ (fun _ => ?_)
                clear hK hb hO
                try simp only [Act.put, List.setIfInBounds_toArray, List.set_cons_zero, List.set_cons_succ]
                refine only 0 rfl (by kernel_rfl) rfl (fun K hK => ?_)
                refine ov_val (ex_load rfl rfl ((F6.fb 0 rfl).load 0 330 (pc q) (by omega) (fun j hj => by rw [Nat.zero_add]) Tryz.underlying33 rfl info_pl2)) ?_
                refine hK.out _ _ ⟨_, F6⟩ (fun _ => ?_)
                clear hK
                try simp only [Act.put, List.setIfInBounds_toArray, List.set_cons_zero, List.set_cons_succ]
                refine only 7 rfl (by kernel_rfl) rfl (fun K hK => ?_)
                go_simp
                refine (ALQ.out A d _ hSe).mono ?_
                rintro e w22 ⟨rfl, hb⟩
                try go_wp2_with fail
                have F9 := F6.below hb
                refine hK.out _ _ ⟨_, F9⟩ (fun _ => ?_)
                clear hK hb
                try simp only [Act.put, List.setIfInBounds_toArray, List.set_cons_zero, List.set_cons_succ]
                refine tkq 8 ⟨_, F9⟩ ?_
                refine tkq 9 ⟨_, F9⟩ ?_
                refine tkq 10 ⟨_, F9⟩ ?_
                refine tkq 11 ⟨_, F9⟩ ?_
                refine only 12 rfl (by kernel_rfl) rfl (fun K hK => ?_)
                refine ow_store (A := []) 0 330 (pc q2) (pc q2) rfl rfl rfl F9 (by omega) (fun j hj => patch_all _ _ _ j hj) info_pl2 (pc_one _) (fun w23 hZ => ?_)
                refine hK.out _ _ ⟨_, hZ⟩ (fun _ => ?_)
                clear hK
                try simp only [Act.put, List.setIfInBounds_toArray, List.set_cons_zero, List.set_cons_succ]
                refine tkq 13 ⟨_, hZ⟩ ?_
                have U9 := hid hZ
                refine wpAnyH_done (by kernel_rfl) ?_ _
                clear hZ F9 hSe
                go_wp2_with fail
                go_roundg (3 - (k + 1))
                case rel => exact ⟨k + 1, q2, by omega, by omega, by go_num, HN.out, HNP.out, U9.out⟩
                case measure => omega
        · have e : k = 3 := by omega
          subst e
          have HST := hid (HQ.out.2.2 (by omega))
          have HEP := hid HQ.out.1
          have RDQ := hid (fun (w : World) => RDC.out w q (by have := HPQ.out.2.1; exact ⟨by omega, by omega⟩) ck)
          obtain ⟨o, ho⟩ : ∃ o, o = readC 4096 q.r 1 ⟨5000, po, p.a, p.p⟩ ck := ⟨_, rfl⟩
          rw [← ho] at RDQ
          have hbd := fun s (h : o = some s) => read_bd _ _ _ _ _ _ (ho.symm.trans h)
          clear ho
          have qw : IntKind.i64.wrap (p.r.e + 3) = p.r.e + 3 := IntWalk.i64_in _ (by have := HE.out.2.1; omega)
          go_upto_region 19 with (fail)
          obtain ⟨r0, r1, r2, r3, r4, r5, r6⟩ := (pool_fb (U0.out.fb 0 rfl)).r7
          obtain ⟨f0, f1, f2, f3⟩ := (U0.out.ce 1 rfl).c4
          go_wp2_with fail
          refine (RDQ.out _).mono ?_
          rintro e w30 ⟨rfl, hb⟩
          have U1 := hid (U0.out.below hb)
          clear hb U0 RDQ r0 r1 r2 r3 r4 r5 r6 f0 f1 f2 f3
          go_simp
          have x0 := (pool_fb (U1.out.fb 0 rfl)).cs c 0 hc (by omega)
          have x1 := (pool_fb (U1.out.fb 0 rfl)).cr 0 (by omega)
          have x2 := (pool_fb (U1.out.fb 2 rfl)).cr 0 (by omega)
          simp only [spc, rgc, Nat.add_zero] at x0 x1 x2
          rw [HST.out] at x0
          rw [HEP.out] at x1
          have qe : (p.r.e + (3 : Nat) == p.r.e + 3) = true := by simp
          cases o with
          | none =>
            dsimp only [Option.getD, Option.isSome]
            go_wp2_with fail
            go_ret
            exact ⟨by simp, U1.out.bl⟩
          | some v =>
            obtain ⟨v0, v1⟩ := hbd v rfl
            dsimp only [Option.getD, Option.isSome]
            go_wp2_with fail
            go_ret
            exact ⟨by simp, U1.out.bl⟩

set_option maxRecDepth 100000 in
theorem lifted (os : Os) (started : os.Started) (H : Type) (enc : TypeId × Value → H) :
    ReturnsInHanded {} Tryz.checked os 5 .any (Rows.topQuietSpec.pre6 enc Tryz.prog Tryz.f5 [] false) (Rows.topQuietSpec.post enc Tryz.prog Tryz.f5 false true false false) :=
  law_step (s := Rows.topQuietSpec) started (by kernel_rfl) Tryz.func5
    (ChangeSpec.witness6 (s := Rows.topQuietSpec) (enc := enc) (C := Tryz.checked) false ⟨#[], #[.slice none 0 0, .int .i64 0, .int .i64 0, .int .i64 0], []⟩ 8 (by kernel_rfl) (by kernel_rfl) (by kernel_rfl) (by kernel_rfl))
    rfl (by rw [Tryz.params5]; decide +kernel) rfl Tryz.underlying4
    (fun ds h => by
      rw [Tryz.params5] at h
      match ds, h with
      | [_, _, _, _], _ => rfl)
    (fun W base args ds ps hval hA hsz => by
      rw [Tryz.params5] at hA hval hsz
      obtain ⟨v0, vs0, d0, ds0, p0, q0, hargs, rfl, rfl, h0, r0⟩ := trodAll_cons hA
      obtain ⟨v1, vs1, d1, ds1, p1, q1, rfl, rfl, rfl, h1, r1⟩ := trodAll_cons r0
      obtain ⟨v2, vs2, d2, ds2, p2, q2, rfl, rfl, rfl, h2, r2⟩ := trodAll_cons r1
      obtain ⟨v3, vs3, d3, ds3, p3, q3, rfl, rfl, rfl, h3, r3⟩ := trodAll_cons r2
      obtain ⟨rfl, rfl, rfl⟩ := trodAll_nil r3
      obtain rfl : args = #[v0, v1, v2, v3] := by cases args; simp_all
      obtain ⟨A0, n0, c0, g0, rfl, hn0, hc0, hs0, hw0, hl0, hd0⟩ := open_row Tryz.underlying22 Tryz.underlying3 (by kernel_rfl) (hval 0 22 v0 rfl rfl) h0
      have re0 : c0 * 8 ≤ 140737488351232 := by
        rcases hd0 with ⟨_, h0⟩ | ⟨xs, ys, h1, h2⟩
        · omega
        · have := sized_slice hsz (j := 0) (t := 22) (e := 3) rfl (by rw [h1]; rfl) Tryz.underlying22
          rw [h2, show Tryz.prog.bytesOf 3 = 8 from by kernel_rfl] at this
          simpa [reachBytes] using this
      obtain ⟨a1, rfl, rfl, rfl, w1⟩ := open_int Tryz.underlying3 (hval 1 3 v1 rfl rfl) h1
      obtain ⟨a2, rfl, rfl, rfl, w2⟩ := open_int Tryz.underlying3 (hval 2 3 v2 rfl rfl) h2
      obtain ⟨a3, rfl, rfl, rfl, w3⟩ := open_int Tryz.underlying3 (hval 3 3 v3 rfl rfl) h3
      exact walk W A0 n0 c0 g0 hn0 hc0 hs0 (fun j => bounds_i64 (hw0 j)) hl0 re0 a1 (bounds_i64 w1) a2 (bounds_i64 w2) a3 (bounds_i64 w3))

theorem proved : Rows.TopQuietSaid :=
  OpenClaim.holds_of_wide 5 Tryz.f5 rfl rfl rfl rfl rfl rfl rfl ⟨rfl, rfl, rfl, rfl, rfl⟩ rfl rfl rfl rfl rfl (by kernel_rfl) Tryz.func5 (by kernel_rfl)
    (of_decide_eq_true (by kernel_rfl)) (by unfold Func.isWrapper; first | (rw [if_pos (by decide +kernel)]; kernel_rfl) | (rw [if_neg (by decide +kernel)]; exact ⟨rfl, rfl⟩))
    (fun os started H enc _ => lifted os started H enc)
end Go.Proofs.YthgffpfigmibhaaGreat.topQuiet
