/- roundhousetop.TopReturn answers true for every row, any four numbers; no condition. -/
import Derived.Test.YtomlpkojnipkhaaGreatGa
import Derived.Test.YtomlpkojnipkhaaGreatTopTh
import Derived.Test.YtomlpkojnipkhaaGreatTopRtM
import Derived.Test.YtomlpkojnipkhaaGreatGu
import Derived.Test.YtomlpkojnipkhaaGreatTopAdd
import Derived.Deep.LoopGhost
import Derived.Deep.CutRange
import Derived.IntWalk
import Derived.BigQuiet
import Derived.Deep.RegionHeld3
import Derived.Deep.Cut
namespace Go.Proofs.YtomlpkojnipkhaaGreat.topReturn
set_option linter.unusedVariables false
set_option linter.unusedSimpArgs false
open Go.RowKit Go.ChangeShapes Go.WideShapes Go.ChangeAt

attribute [local irreducible] FA FL mkBO
theorem ce5_ {w : World} {b : Nat} {v0 v1 v2 v3 v4 : Value} (h : Ce w b [v0, v1, v2, v3, v4]) : w.cell? ⟨b, 0, none⟩ = some v0 ∧ w.cell? ⟨b, 1, none⟩ = some v1 ∧ w.cell? ⟨b, 2, none⟩ = some v2 ∧ w.cell? ⟨b, 3, none⟩ = some v3 ∧ w.cell? ⟨b, 4, none⟩ = some v4 := ⟨h.2.1 0 _ rfl, h.2.1 1 _ rfl, h.2.1 2 _ rfl, h.2.1 3 _ rfl, h.2.1 4 _ rfl⟩
theorem zSl (w : World) : (zeroValue 25).run Tryz.prog w = .ok (.agg ([.int .i64 0, .int .i64 0, .int .i64 0, .int .i64 0, .int .i64 0] : List Value).toArray) w := by kernel_rfl
theorem iSl : (Tryz.prog.info? 25).map (·.size) = some 5 := by kernel_rfl
theorem u32_in (x : Int) (h : 0 ≤ x ∧ x < 4294967296) : IntKind.u32.wrap x = x := by
  show x % 4294967296 = x
  omega
theorem u32_add (x y : Int) : IntKind.u32.wrap (x + y) = (x + y) % 4294967296 := rfl
set_option maxRecDepth 100000 in
set_option maxHeartbeats 8000000 in
theorem walk (W : World) (A1 : Option Addr) (n1 c1 : Nat) (g1 : Nat → Int) (hn1 : n1 ≤ c1) (hc1 : c1 ≤ maxLen) (hr1 : Is W A1 n1 g1) (hg1 : IsI g1) (hl1 : ∀ ad, A1 = some ad → 0 < n1 → ad.block < W.heap.size) (re1 : c1 * 8 ≤ 140737488351232) (a0 : Int) (r_a0 : -9223372036854775808 ≤ a0 ∧ a0 ≤ 9223372036854775807) (v : Int) (r_v : 0 ≤ v ∧ v ≤ 4294967295) (d0 : Int) (r_d0 : -9223372036854775808 ≤ d0 ∧ d0 ≤ 9223372036854775807) (e0 : Int) (r_e0 : -9223372036854775808 ≤ e0 ∧ e0 ≤ 9223372036854775807) :
    Calls Tryz.prog 5 #[.slice A1 n1 c1, .int .i64 a0, .int .u32 v, .int .i64 d0, .int .i64 e0] W fun e w' => e = .returned (.bool true) ∧ Below W.heap.size W w' := by
  obtain ⟨p, hp⟩ : ∃ p, p = mkP g1 (min n1 60) := ⟨_, rfl⟩
  have HPI := hid (show Pinv p 60 from by rw [hp]; exact (mkP_inv g1 _).mono (by omega))
  have HPC := hid (show p.a = 10 ∧ p.p = 80 from by rw [hp]; exact mkP_ap g1 _)
  have HPT := hid (show Pt p from by rw [hp]; exact mkP_pt g1 _ (by omega))
  have HPW := hid (show Pw p from by rw [hp]; exact mk_pw g1 _)
  have MK := hid (fun (w : World) (hb : Below W.heap.size W w) => (show Calls Tryz.prog 10 #[.slice A1 n1 c1, .int .i64 60] w fun x w' => x = .returned (.agg (FA 330 (pc p))) ∧ Below w.heap.size w w' from by rw [hp]; exact mk_top W A1 n1 c1 g1 hr1 hl1 hn1 hc1 60 (by decide) w hb))
  clear hp hr1 hl1 hg1 re1 hn1 hc1
  have S0 : Hid (HS [] W W []) := hid HS.start
  have hv : U32 v := by unfold U32; omega
  have HV := hid hv
  obtain ⟨s0, hs0⟩ : ∃ x, x = wi a0 6 := ⟨_, rfl⟩
  have bs0 := wi_bd a0 6 (by omega)
  rw [← hs0] at bs0
  have Ws0 := hid (fun w => re_i64 (within_any a0 6 w (by omega) (by omega)) hs0.symm)
  clear hs0
  obtain ⟨bs01, bs02⟩ := bs0
  obtain ⟨c, rfl⟩ : ∃ c : Nat, s0 = (c : Int) := ⟨s0.toNat, by omega⟩
  have hc : c < 64 := by omega
  have i0 : (0 : Int) ≤ c := by omega
  have i1 : (c : Int) < 64 := by omega
  obtain ⟨dd, hdd⟩ : ∃ x, x = wi d0 262144 := ⟨_, rfl⟩
  have bdd := wi_bd d0 262144 (by omega)
  rw [← hdd] at bdd
  have Wdd := hid (fun w => re_i64 (within_any d0 262144 w (by omega) (by omega)) hdd.symm)
  clear hdd
  obtain ⟨bdd1, bdd2⟩ := bdd
  obtain ⟨po, hpo⟩ : ∃ x, x = wi e0 65536 := ⟨_, rfl⟩
  have bpo := wi_bd e0 65536 (by omega)
  rw [← hpo] at bpo
  have Wpo := hid (fun w => re_i64 (within_any e0 65536 w (by omega) (by omega)) hpo.symm)
  clear hpo
  obtain ⟨bpo1, bpo2⟩ := bpo
  have RTK := hid (fun (w : World) => (show Calls Tryz.prog 25 #[.agg #[.int .i64 (p.s c).st, .int .i64 (p.s c).ad, .int .i64 (p.s c).po, .int .i64 (p.s c).we, .int .i64 (p.s c).si]] w fun e w' => e = .returned (.bool (takesB (p.s c).st)) ∧ Below w.heap.size w w' from rtakes_any (p.s c) w))
  cases ht : takesB (p.s c).st
  · rw [ht] at RTK
    go_enter Tryz.func5, Tryz.ntmps5
    go_wp2_with fail
    refine (known_t _).mono ?_
    rintro e w1 ⟨rfl, hb⟩
    have S1 : Hid (HS [] W w1 []) := hid (S0.out.below hb)
    clear hb S0
    go_simp
    go_wp2_with fail
    refine (MK.out _ S1.out.bl).mono ?_
    rintro e w2 ⟨rfl, hb⟩
    have S2 : Hid (HS [] W w2 []) := hid (S1.out.below hb)
    clear hb S1 MK
    go_simp
    go_upto_region 4 with (first | ((with_reducible refine wl_id ?_); refine wl_ow rfl (ow_alloc rfl (zpl2 _) (by omega) S2.out ?_); intro P w_ hZ _; have SA := hid hZ; clear hZ) | ((with_reducible refine wl_id ?_); refine wl_ow rfl (ow_store (A := []) 0 330 (pc p) (pc p) rfl rfl rfl SA.out (by omega) (fun j hj => patch_all _ _ _ j hj) info_pl2 (pc_one _) ?_); intro w_ hZ; have SX := hid hZ; clear hZ))
    have S3 : Hid (HS [] W _ [thB P 330 (pc p)]) := hid (SX.out)
    clear SX SA S2
    go_wp2_with fail
    refine (Ws0.out _).mono ?_
    rintro e w' ⟨rfl, rfl⟩
    obtain ⟨s0, s1, s2, s3, s4⟩ := (pool_fb (S3.out.fb 0 rfl)).s5 c hc
    go_upto_region 5 with (first | ((with_reducible refine wl_id ?_); refine wl_ow rfl (ow_allocC rfl (zSl _) (by simp) S3.out ?_); intro Z w_ hZ _; have SY := hid hZ; clear hZ) | ((with_reducible refine wl_id ?_); refine wl_ow rfl (ow_storeC (A := []) [.int .i64 (p.s c).st, .int .i64 (p.s c).ad, .int .i64 (p.s c).po, .int .i64 (p.s c).we, .int .i64 (p.s c).si] rfl rfl (rfl) SY.out rfl iSl rfl ?_); intro w_ hZ; have SX := hid hZ; clear hZ))
    have S4 : Hid (HS [] W _ [thC Z [.int .i64 (p.s c).st, .int .i64 (p.s c).ad, .int .i64 (p.s c).po, .int .i64 (p.s c).we, .int .i64 (p.s c).si], thB P 330 (pc p)]) := hid (SX.out)
    clear SX SY S3 s0 s1 s2 s3 s4
    obtain ⟨z0, z1, z2, z3, z4⟩ := ce5_ (S4.out.ce 0 rfl)
    go_wp2_with fail
    refine (RTK.out _).mono ?_
    rintro e w4 ⟨rfl, hb⟩
    have S5 : Hid (HS [] W w4 [thC Z [.int .i64 (p.s c).st, .int .i64 (p.s c).ad, .int .i64 (p.s c).po, .int .i64 (p.s c).we, .int .i64 (p.s c).si], thB P 330 (pc p)]) := hid (S4.out.below hb)
    clear hb S4 RTK z0 z1 z2 z3 z4
    go_simp
    go_wp2_with fail
    go_ret
    exact ⟨rfl, S5.out.bl⟩
  · rw [ht] at RTK
    obtain ⟨k, z, y, F1, F2, F3, nr1, nr2, hz, hy, hyz, hn1, hn2, t1, b1, q1, p1, t2, t3, b3, q3, p3⟩ := ret_all HPT.out HPC.out.1 HPC.out.2 hc ht hv ⟨bdd1, bdd2⟩ ⟨bpo1, by omega⟩
    have hsp := HPT.out.1 c hc
    obtain ⟨v2, hv2⟩ : ∃ v2, v2 = (v + dd) % 4294967296 := ⟨_, rfl⟩
    have hu2 := mk_u hv bdd1
    rw [← hv2] at t2 hu2
    have u3 : U32 3 := ⟨by decide, by decide⟩
    have u4 : U32 4 := ⟨by decide, by decide⟩
    have u9 : U32 9 := ⟨by decide, by decide⟩
    obtain ⟨G1, hG1⟩ : ∃ G, G = builtF (xO (p.s c).ad (p.s c).po po v 3) := ⟨_, rfl⟩
    obtain ⟨G2, hG2⟩ : ∃ G, G = builtF (xO (p.s c).ad (p.s c).po po v2 4) := ⟨_, rfl⟩
    obtain ⟨G3, hG3⟩ : ∃ G, G = builtF (xI po z) := ⟨_, rfl⟩
    rw [← hG1] at t1
    rw [← hG2] at t2
    rw [← hG3] at t3
    have BG1 := hid (show IsB G1 from by rw [hG1]; exact x_B c0B_ (mkB_B hv u3) (xO_E hsp.1 hsp.2.1 ⟨bpo1, by omega⟩))
    have KG1 := hid (show G1 0 = 1 from by rw [hG1]; exact x_0 rfl)
    have BG2 := hid (show IsB G2 from by rw [hG2]; exact x_B c0B_ (mkB_B hu2 u4) (xO_E hsp.1 hsp.2.1 ⟨bpo1, by omega⟩))
    have KG2 := hid (show G2 0 = 1 from by rw [hG2]; exact x_0 rfl)
    have BG3 := hid (show IsB G3 from by rw [hG3]; exact x_B c0B_ (mkB_B u9 hz) (xI_E ⟨bpo1, by omega⟩))
    have KG3 := hid (show G3 0 = 1 from by rw [hG3]; exact x_0 rfl)
    have BLD1 := hid (fun (w : World) (L : List Th) (h : HS [] W w L) (A : Option Addr) (c' : Nat) (hA : By w A 12 (mkBO v 3)) => (show Calls Tryz.prog 12 #[.agg #[.int .i64 1, .int .i64 9, .int .i64 0, .int .i64 (p.s c).ad, .int .i64 5000, .int .i64 (p.s c).po, .int .i64 po, .int .i64 2, .int .i64 0, .bool false, .int .i64 0, .slice A 12 c', .slice none 0 0]] w fun e w' => ∃ A c, e = .returned (.tuple #[.slice A 36 c, .int .i64 0]) ∧ HS [] W w' (thY (.slice A 36 c) 36 G1 :: L) ∧ 36 ≤ c from c_build h (xO (p.s c).ad (p.s c).po po v 3) 36 G1 rfl hG1 (xO_E hsp.1 hsp.2.1 ⟨bpo1, by omega⟩) (mkB_B hv u3) c0B_ (by show 12 ≤ 1000000; decide) (by show 0 ≤ 1000000; decide) A c' none 0 hA (fun h => absurd h (by show ¬ 0 < 0; decide))))
    have BLD2 := hid (fun (w : World) (L : List Th) (h : HS [] W w L) (A : Option Addr) (c' : Nat) (hA : By w A 12 (mkBO v2 4)) => (show Calls Tryz.prog 12 #[.agg #[.int .i64 1, .int .i64 9, .int .i64 0, .int .i64 (p.s c).ad, .int .i64 5000, .int .i64 (p.s c).po, .int .i64 po, .int .i64 2, .int .i64 0, .bool false, .int .i64 0, .slice A 12 c', .slice none 0 0]] w fun e w' => ∃ A c, e = .returned (.tuple #[.slice A 36 c, .int .i64 0]) ∧ HS [] W w' (thY (.slice A 36 c) 36 G2 :: L) ∧ 36 ≤ c from c_build h (xO (p.s c).ad (p.s c).po po v2 4) 36 G2 rfl hG2 (xO_E hsp.1 hsp.2.1 ⟨bpo1, by omega⟩) (mkB_B hu2 u4) c0B_ (by show 12 ≤ 1000000; decide) (by show 0 ≤ 1000000; decide) A c' none 0 hA (fun h => absurd h (by show ¬ 0 < 0; decide))))
    have BLD3 := hid (fun (w : World) (L : List Th) (h : HS [] W w L) (A : Option Addr) (c' : Nat) (hA : By w A 12 (mkBO 9 z)) => (show Calls Tryz.prog 12 #[.agg #[.int .i64 1, .int .i64 9, .int .i64 0, .int .i64 5000, .int .i64 10, .int .i64 po, .int .i64 80, .int .i64 2, .int .i64 0, .bool false, .int .i64 0, .slice A 12 c', .slice none 0 0]] w fun e w' => ∃ A c, e = .returned (.tuple #[.slice A 36 c, .int .i64 0]) ∧ HS [] W w' (thY (.slice A 36 c) 36 G3 :: L) ∧ 36 ≤ c from c_build h (xI po z) 36 G3 rfl hG3 (xI_E ⟨bpo1, by omega⟩) (mkB_B u9 hz) c0B_ (by show 12 ≤ 1000000; decide) (by show 0 ≤ 1000000; decide) A c' none 0 hA (fun h => absurd h (by show ¬ 0 < 0; decide))))
    have PRS1 := hid (fun (w : World) (L : List Th) (h : HS [] W w L) (A : Option Addr) (c' : Nat) (hc : 36 ≤ c') (hA : By w A 36 F1) => (show Calls Tryz.prog 27 #[.slice A 36 c'] w fun e w' => ∃ AO cO AD cD, e = .returned (.tuple #[.agg #[.int .i64 1, .int .i64 8, .int .i64 0, .int .i64 10, .int .i64 5000, .int .i64 80, .int .i64 po, .int .i64 2, .int .i64 0, .bool false, .int .i64 0, .slice AO 12 cO, .slice AD 0 cD], .int .i64 0]) ∧ HS [] W w' (thOD 0 (.slice AO 12 cO) (.slice AD 0 cD) 12 0 (mkBO z 3) (fun _ => 0) :: L) ∧ 12 ≤ cO ∧ 0 ≤ cD from c_parse h (xW po z 3) F1 36 b1 (by omega) q1 p1 A c' hc hA))
    have PRS3 := hid (fun (w : World) (L : List Th) (h : HS [] W w L) (A : Option Addr) (c' : Nat) (hc : 36 ≤ c') (hA : By w A 36 F3) => (show Calls Tryz.prog 27 #[.slice A 36 c'] w fun e w' => ∃ AO cO AD cD, e = .returned (.tuple #[.agg #[.int .i64 1, .int .i64 8, .int .i64 0, .int .i64 5000, .int .i64 (p.s c).ad, .int .i64 po, .int .i64 (p.s c).po, .int .i64 2, .int .i64 0, .bool false, .int .i64 0, .slice AO 12 cO, .slice AD 0 cD], .int .i64 0]) ∧ HS [] W w' (thOD 0 (.slice AO 12 cO) (.slice AD 0 cD) 12 0 (mkBO 9 y) (fun _ => 0) :: L) ∧ 12 ≤ cO ∧ 0 ≤ cD from c_parse h (xB po (p.s c).ad (p.s c).po y) F3 36 b3 (by omega) q3 p3 A c' hc hA))
    have STM1 := hid (fun (w : World) (A : Option Addr) (c' : Nat) (hc : 12 ≤ c') (hA : By w A 12 (mkBO z 3)) => (show Calls Tryz.prog 16 #[.slice A 12 c'] w fun e w' => e = .returned (.tuple #[.int .i64 4, .int .u32 z, .int .u32 3, .bool true]) ∧ Below w.heap.size w w' from by have h := stamp_any A 12 c' (mkBO z 3) w hA (mkB_B hz u3) (by omega) hc; rw [stamp_mk0 hz u3] at h; exact h))
    have STM3 := hid (fun (w : World) (A : Option Addr) (c' : Nat) (hc : 12 ≤ c') (hA : By w A 12 (mkBO 9 y)) => (show Calls Tryz.prog 16 #[.slice A 12 c'] w fun e w' => e = .returned (.tuple #[.int .i64 4, .int .u32 9, .int .u32 y, .bool true]) ∧ Below w.heap.size w w' from by have h := stamp_any A 12 c' (mkBO 9 y) w hA (mkB_B u9 hy) (by omega) hc; rw [stamp_mk0 u9 hy] at h; exact h))
    have MKO1 := hid (fun (w : World) (L : List Th) (h : HS [] W w L) => (show Calls Tryz.prog 26 #[.int .u32 v, .int .u32 3] w fun x w' => ∃ A c, x = .returned (.slice A 12 c) ∧ HS [] W w' (thY (.slice A 12 c) 12 (mkBO v 3) :: L) ∧ 12 ≤ c from c_make h v 3 hv u3))
    have MKO2 := hid (fun (w : World) (L : List Th) (h : HS [] W w L) => (show Calls Tryz.prog 26 #[.int .u32 v2, .int .u32 4] w fun x w' => ∃ A c, x = .returned (.slice A 12 c) ∧ HS [] W w' (thY (.slice A 12 c) 12 (mkBO v2 4) :: L) ∧ 12 ≤ c from c_make h v2 4 hu2 u4))
    have MKO3 := hid (fun (w : World) (L : List Th) (h : HS [] W w L) => (show Calls Tryz.prog 26 #[.int .u32 9, .int .u32 z] w fun x w' => ∃ A c, x = .returned (.slice A 12 c) ∧ HS [] W w' (thY (.slice A 12 c) 12 (mkBO 9 z) :: L) ∧ 12 ≤ c from c_make h 9 z u9 hz))
    have T1 := hid t1
    have T2 := hid t2
    have T3 := hid t3
    have HN0 := hid (show Nt32 (fun _ => none) from fun j v h => by cases h)
    have HN1 := hid hn1
    have HN2 := hid hn2
    have HYZ := hid hyz
    have HV2 := hid hv2
    clear t1 t2 t3 hn1 hn2 hyz b1 q1 p1 b3 q3 p3 hG1 hG2 hG3 hz hy hsp hu2 hv2 u3 u4 u9
    go_enter Tryz.func5, Tryz.ntmps5
    go_wp2_with fail
    refine (known_t _).mono ?_
    rintro e w1 ⟨rfl, hb⟩
    have S1 : Hid (HS [] W w1 []) := hid (S0.out.below hb)
    clear hb S0
    go_simp
    go_wp2_with fail
    refine (MK.out _ S1.out.bl).mono ?_
    rintro e w2 ⟨rfl, hb⟩
    have S2 : Hid (HS [] W w2 []) := hid (S1.out.below hb)
    clear hb S1 MK
    go_simp
    go_upto_region 4 with (first | ((with_reducible refine wl_id ?_); refine wl_ow rfl (ow_alloc rfl (zpl2 _) (by omega) S2.out ?_); intro P w_ hZ _; have SA := hid hZ; clear hZ) | ((with_reducible refine wl_id ?_); refine wl_ow rfl (ow_store (A := []) 0 330 (pc p) (pc p) rfl rfl rfl SA.out (by omega) (fun j hj => patch_all _ _ _ j hj) info_pl2 (pc_one _) ?_); intro w_ hZ; have SX := hid hZ; clear hZ))
    have S3 : Hid (HS [] W _ [thB P 330 (pc p)]) := hid (SX.out)
    clear SX SA S2
    go_wp2_with fail
    refine (Ws0.out _).mono ?_
    rintro e w' ⟨rfl, rfl⟩
    obtain ⟨s0, s1, s2, s3, s4⟩ := (pool_fb (S3.out.fb 0 rfl)).s5 c hc
    go_upto_region 5 with (first | ((with_reducible refine wl_id ?_); refine wl_ow rfl (ow_allocC rfl (zSl _) (by simp) S3.out ?_); intro Z w_ hZ _; have SY := hid hZ; clear hZ) | ((with_reducible refine wl_id ?_); refine wl_ow rfl (ow_storeC (A := []) [.int .i64 (p.s c).st, .int .i64 (p.s c).ad, .int .i64 (p.s c).po, .int .i64 (p.s c).we, .int .i64 (p.s c).si] rfl rfl (rfl) SY.out rfl iSl rfl ?_); intro w_ hZ; have SX := hid hZ; clear hZ))
    have S4 : Hid (HS [] W _ [thC Z [.int .i64 (p.s c).st, .int .i64 (p.s c).ad, .int .i64 (p.s c).po, .int .i64 (p.s c).we, .int .i64 (p.s c).si], thB P 330 (pc p)]) := hid (SX.out)
    clear SX SY S3 s0 s1 s2 s3 s4
    obtain ⟨z0, z1, z2, z3, z4⟩ := ce5_ (S4.out.ce 0 rfl)
    go_wp2_with fail
    refine (RTK.out _).mono ?_
    rintro e w4 ⟨rfl, hb⟩
    have S5 : Hid (HS [] W w4 [thC Z [.int .i64 (p.s c).st, .int .i64 (p.s c).ad, .int .i64 (p.s c).po, .int .i64 (p.s c).we, .int .i64 (p.s c).si], thB P 330 (pc p)]) := hid (S4.out.below hb)
    clear hb S4 RTK z0 z1 z2 z3 z4
    go_simp
    go_wp2_with fail
    refine (plane_new S5.out).mono ?_
    rintro e w5 ⟨pb, rfl, hz⟩
    have S6 : Hid (HS [] W w5 [thB pb 130 (plc none false nr0), thC Z [.int .i64 (p.s c).st, .int .i64 (p.s c).ad, .int .i64 (p.s c).po, .int .i64 (p.s c).we, .int .i64 (p.s c).si], thB P 330 (pc p)]) := hid (hz)
    clear hz S5
    go_simp
    go_upto_region 10 with (fail)
    go_wp2_with ((with_reducible refine wl_id ?_); refine wl_ow rfl (ow_load 2 rfl 0 330 (pc p) rfl rfl S6.out (by omega) (fun j hj => by rw [Nat.zero_add]) Tryz.underlying33 rfl info_pl2 ?_))
    refine (c_load (A := []) (nr := fun _ => none) S6.out p HPW.out).mono ?_
    rintro e w6 ⟨rfl, sb, wb, hne, hz⟩
    have S7 : Hid (HS [] W w6 [thS sb wb p, thB pb 130 (plf sb (fun _ => none)), thC Z [.int .i64 (p.s c).st, .int .i64 (p.s c).ad, .int .i64 (p.s c).po, .int .i64 (p.s c).we, .int .i64 (p.s c).si], thB P 330 (pc p)]) := hid (hz)
    clear hz S6
    have HNE := hid hne
    clear hne
    go_simp
    go_upto_region 11 with (fail)
    go_cut [14] from 51 to 59 (fun vv wx => ∃ BX A c', vv = .pointer (some ⟨BX, 0, none⟩) ∧ HS [] W wx [thC BX [.int .i64 1, .int .i64 9, .int .i64 0, .int .i64 (p.s c).ad, .int .i64 5000, .int .i64 (p.s c).po, .int .i64 po, .int .i64 2, .int .i64 0, .bool false, .int .i64 0, .slice A 12 c', .slice none 0 0], thY (.slice A 12 c') 12 (mkBO v 3), thS sb wb p, thB pb 130 (plf sb (fun _ => none)), thC Z [.int .i64 (p.s c).st, .int .i64 (p.s c).ad, .int .i64 (p.s c).po, .int .i64 (p.s c).we, .int .i64 (p.s c).si], thB P 330 (pc p)] ∧ 12 ≤ c')
    case first =>
      refine wp_region_held_drew (S := fun (w' : World) => HS [] W w' [thS sb wb p, thB pb 130 (plf sb (fun _ => none)), thC Z [.int .i64 (p.s c).st, .int .i64 (p.s c).ad, .int .i64 (p.s c).po, .int .i64 (p.s c).we, .int .i64 (p.s c).si], thB P 330 (pc p)]) (by kernel_rfl) ?_ (fun hHeld => ?_)
      · exact S7.out.drew
      refine tkq 0 hHeld ?_
      refine tkq 1 hHeld ?_ (hy := by intro w hSw; (try dsimp only at hSw); have x0 := (hSw.ce 2 rfl).2.1 1 _ rfl; go_simp; (try with_reducible rfl))
      refine tkq 2 hHeld ?_
      refine tkq 3 hHeld ?_ (hy := by intro w hSw; (try dsimp only at hSw); have x0 := (hSw.ce 2 rfl).2.1 2 _ rfl; go_simp; (try with_reducible rfl))
      refine tkq 4 hHeld ?_
      refine tkq 6 hHeld ?_
      refine twoUp 5 9 rfl rfl (by kernel_rfl) rfl rfl (fun K hK => ?_) (fun K hK => ?_)
      · go_simp
        refine (Wpo.out _).mono ?_
        rintro e w' ⟨rfl, rfl⟩
        try go_wp2_with fail
        refine hK.out _ _ hHeld (fun hz0 => ?_)
        clear hK
        try simp only [Act.put, List.setIfInBounds_toArray, List.set_cons_zero, List.set_cons_succ]
        refine twoUp 7 9 rfl rfl (by kernel_rfl) rfl rfl (fun K hK => ?_) (fun K hK => ?_)
        · go_simp
          refine (MKO1.out _ _ hz0).mono ?_
          rintro e w20 ⟨A, c', rfl, zhz1, hcc⟩
          try go_wp2_with fail
          refine hK.out _ _ zhz1.tail (fun hz1 => ?_)
          clear hK
          try simp only [Act.put, List.setIfInBounds_toArray, List.set_cons_zero, List.set_cons_succ]
          refine tkq 8 hz1 ?_
          refine only 9 rfl (by kernel_rfl) rfl (fun K hK => ?_)
          refine ow_allocC rfl (zPk _) (by simp) zhz1 (fun BX w21 zhz2 _ => ?_)
          refine hK.out _ _ zhz2.tail.tail (fun hz2 => ?_)
          clear hK
          try simp only [Act.put, List.setIfInBounds_toArray, List.set_cons_zero, List.set_cons_succ]
          refine only 10 rfl (by kernel_rfl) rfl (fun K hK => ?_)
          refine ow_storeC (A := []) [.int .i64 1, .int .i64 9, .int .i64 0, .int .i64 (p.s c).ad, .int .i64 5000, .int .i64 (p.s c).po, .int .i64 po, .int .i64 2, .int .i64 0, .bool false, .int .i64 0, .slice A 12 c', .slice none 0 0] rfl rfl rfl zhz2 rfl iPk rfl (fun w22 hY => ?_)
          refine hK.out _ _ hY.tail.tail (fun _ => ?_)
          clear hK
          try simp only [Act.put, List.setIfInBounds_toArray, List.set_cons_zero, List.set_cons_succ]
          refine wpAnyH_done (by kernel_rfl) ?_ _
          go_wp2_with fail
          go_meet
          exact ⟨BX, A, c', rfl, hY, hcc⟩
        · refine ow_allocC rfl (zPk _) (by simp) hz0 (fun BX w21 zhz1 _ => ?_)
          refine hK.out _ _ zhz1.tail (fun hz1 => ?_)
          clear hK
          try simp only [Act.put, List.setIfInBounds_toArray, List.set_cons_zero, List.set_cons_succ]
          refine only 7 rfl (by kernel_rfl) rfl (fun K hK => ?_)
          go_simp
          refine (MKO1.out _ _ zhz1).mono ?_
          rintro e w20 ⟨A, c', rfl, zhz2, hcc⟩
          try go_wp2_with fail
          refine hK.out _ _ zhz2.tail.tail (fun hz2 => ?_)
          clear hK
          try simp only [Act.put, List.setIfInBounds_toArray, List.set_cons_zero, List.set_cons_succ]
          refine tkq 8 hz2 ?_
          refine only 10 rfl (by kernel_rfl) rfl (fun K hK => ?_)
          have zhz2s := HS.swap_ zhz2
          refine ow_storeC (A := []) [.int .i64 1, .int .i64 9, .int .i64 0, .int .i64 (p.s c).ad, .int .i64 5000, .int .i64 (p.s c).po, .int .i64 po, .int .i64 2, .int .i64 0, .bool false, .int .i64 0, .slice A 12 c', .slice none 0 0] rfl rfl rfl zhz2s rfl iPk rfl (fun w22 hY => ?_)
          refine hK.out _ _ hY.tail.tail (fun _ => ?_)
          clear hK
          try simp only [Act.put, List.setIfInBounds_toArray, List.set_cons_zero, List.set_cons_succ]
          refine wpAnyH_done (by kernel_rfl) ?_ _
          go_wp2_with fail
          go_meet
          exact ⟨BX, A, c', rfl, hY, hcc⟩
      · refine ow_allocC rfl (zPk _) (by simp) hHeld (fun BX w21 zhz0 _ => ?_)
        refine hK.out _ _ zhz0.tail (fun hz0 => ?_)
        clear hK
        try simp only [Act.put, List.setIfInBounds_toArray, List.set_cons_zero, List.set_cons_succ]
        refine only 5 rfl (by kernel_rfl) rfl (fun K hK => ?_)
        go_simp
        refine (Wpo.out _).mono ?_
        rintro e w' ⟨rfl, rfl⟩
        try go_wp2_with fail
        refine hK.out _ _ hz0 (fun hz1 => ?_)
        clear hK
        try simp only [Act.put, List.setIfInBounds_toArray, List.set_cons_zero, List.set_cons_succ]
        refine only 7 rfl (by kernel_rfl) rfl (fun K hK => ?_)
        go_simp
        refine (MKO1.out _ _ zhz0).mono ?_
        rintro e w20 ⟨A, c', rfl, zhz2, hcc⟩
        try go_wp2_with fail
        refine hK.out _ _ zhz2.tail.tail (fun hz2 => ?_)
        clear hK
        try simp only [Act.put, List.setIfInBounds_toArray, List.set_cons_zero, List.set_cons_succ]
        refine tkq 8 hz2 ?_
        refine only 10 rfl (by kernel_rfl) rfl (fun K hK => ?_)
        have zhz2s := HS.swap_ zhz2
        refine ow_storeC (A := []) [.int .i64 1, .int .i64 9, .int .i64 0, .int .i64 (p.s c).ad, .int .i64 5000, .int .i64 (p.s c).po, .int .i64 po, .int .i64 2, .int .i64 0, .bool false, .int .i64 0, .slice A 12 c', .slice none 0 0] rfl rfl rfl zhz2s rfl iPk rfl (fun w22 hY => ?_)
        refine hK.out _ _ hY.tail.tail (fun _ => ?_)
        clear hK
        try simp only [Act.put, List.setIfInBounds_toArray, List.set_cons_zero, List.set_cons_succ]
        refine wpAnyH_done (by kernel_rfl) ?_ _
        go_wp2_with fail
        go_meet
        exact ⟨BX, A, c', rfl, hY, hcc⟩
    case rest =>
      obtain ⟨X, A1, c1, rfl, hz, hcc⟩ := hcut
      have S8 : Hid (HS [] W _ [thC X [.int .i64 1, .int .i64 9, .int .i64 0, .int .i64 (p.s c).ad, .int .i64 5000, .int .i64 (p.s c).po, .int .i64 po, .int .i64 2, .int .i64 0, .bool false, .int .i64 0, .slice A1 12 c1, .slice none 0 0], thY (.slice A1 12 c1) 12 (mkBO v 3), thS sb wb p, thB pb 130 (plf sb (fun _ => none)), thC Z [.int .i64 (p.s c).st, .int .i64 (p.s c).ad, .int .i64 (p.s c).po, .int .i64 (p.s c).we, .int .i64 (p.s c).si], thB P 330 (pc p)]) := hid (hz)
      have HC1 := hid hcc
      clear hz hcc S7 MKO1
      obtain ⟨y0, y1, y2, y3, y4, y5, y6, y7, y8, y9, y10, y11, y12⟩ := (S8.out.ce 0 rfl).c13
      go_wp2_with fail
      refine (BLD1.out _ _ S8.out _ _ (S8.out.by_ 1 rfl)).mono ?_
      rintro e w7 ⟨AQ, cQ, rfl, hz, hcc⟩
      have S9 : Hid (HS [] W w7 [thY (.slice AQ 36 cQ) 36 G1, thC X [.int .i64 1, .int .i64 9, .int .i64 0, .int .i64 (p.s c).ad, .int .i64 5000, .int .i64 (p.s c).po, .int .i64 po, .int .i64 2, .int .i64 0, .bool false, .int .i64 0, .slice A1 12 c1, .slice none 0 0], thY (.slice A1 12 c1) 12 (mkBO v 3), thS sb wb p, thB pb 130 (plf sb (fun _ => none)), thC Z [.int .i64 (p.s c).st, .int .i64 (p.s c).ad, .int .i64 (p.s c).po, .int .i64 (p.s c).we, .int .i64 (p.s c).si], thB P 330 (pc p)]) := hid (hz)
      clear hz S8 y0 y1 y2 y3 y4 y5 y6 y7 y8 y9 y10 y11 y12 BLD1
      have HCQ := hid hcc
      clear hcc
      go_simp
      go_wp2_with fail
      refine (c_take (A := [thY (.slice AQ 36 cQ) 36 G1, thC X [.int .i64 1, .int .i64 9, .int .i64 0, .int .i64 (p.s c).ad, .int .i64 5000, .int .i64 (p.s c).po, .int .i64 po, .int .i64 2, .int .i64 0, .bool false, .int .i64 0, .slice A1 12 c1, .slice none 0 0], thY (.slice A1 12 c1) 12 (mkBO v 3), thS sb wb p]) (B := [thC Z [.int .i64 (p.s c).st, .int .i64 (p.s c).ad, .int .i64 (p.s c).po, .int .i64 (p.s c).we, .int .i64 (p.s c).si], thB P 330 (pc p)]) S9.out (S9.out.st 3 rfl) HNE.out HPT.out HN0.out G1 36 cQ AQ BG1.out (by omega) (fun _ => by rw [KG1.out]; decide) (S9.out.by_ 0 rfl) HCQ.out _ T1.out).mono ?_
      rintro e w8 ⟨AR, cR, rfl, hz, hcc⟩
      dsimp only at hz hcc ⊢
      have S10 : Hid (HS [] W w8 [thY (.slice AR 36 cR) 36 F1, thY (.slice AQ 36 cQ) 36 G1, thC X [.int .i64 1, .int .i64 9, .int .i64 0, .int .i64 (p.s c).ad, .int .i64 5000, .int .i64 (p.s c).po, .int .i64 po, .int .i64 2, .int .i64 0, .bool false, .int .i64 0, .slice A1 12 c1, .slice none 0 0], thY (.slice A1 12 c1) 12 (mkBO v 3), thS sb wb p, thB pb 130 (plf sb nr1), thC Z [.int .i64 (p.s c).st, .int .i64 (p.s c).ad, .int .i64 (p.s c).po, .int .i64 (p.s c).we, .int .i64 (p.s c).si], thB P 330 (pc p)]) := hid (hz)
      clear hz S9
      have HCR := hid hcc
      clear hcc
      go_simp
      go_upto_region 14 with (first | ((with_reducible refine wl_id ?_); refine wl_ow rfl (ow_allocC rfl (zOc _) (by simp) S10.out ?_); intro V w_ hZ _; have SY := hid hZ; clear hZ) | ((with_reducible refine wl_id ?_); refine wl_ow rfl (ow_storeC (A := []) [.int .i64 0, .int .i64 (-1), .bool false, .slice AR 36 cR] rfl rfl (rfl) SY.out rfl iOc rfl ?_); intro w_ hZ; have SX := hid hZ; clear hZ))
      have S11 : Hid (HS [] W _ [thC V [.int .i64 0, .int .i64 (-1), .bool false, .slice AR 36 cR], thY (.slice AR 36 cR) 36 F1, thY (.slice AQ 36 cQ) 36 G1, thC X [.int .i64 1, .int .i64 9, .int .i64 0, .int .i64 (p.s c).ad, .int .i64 5000, .int .i64 (p.s c).po, .int .i64 po, .int .i64 2, .int .i64 0, .bool false, .int .i64 0, .slice A1 12 c1, .slice none 0 0], thY (.slice A1 12 c1) 12 (mkBO v 3), thS sb wb p, thB pb 130 (plf sb nr1), thC Z [.int .i64 (p.s c).st, .int .i64 (p.s c).ad, .int .i64 (p.s c).po, .int .i64 (p.s c).we, .int .i64 (p.s c).si], thB P 330 (pc p)]) := hid (SX.out)
      clear SX SY S10
      obtain ⟨f0, f1, f2, f3⟩ := (S11.out.ce 0 rfl).c4
      go_wp2_with fail
      refine (PRS1.out _ _ S11.out _ _ HCR.out (S11.out.by_ 1 rfl)).mono ?_
      rintro e w9 ⟨AO, cO, AD, cD, rfl, hz, hcc, _⟩
      have S12 : Hid (HS [] W w9 [thOD 0 (.slice AO 12 cO) (.slice AD 0 cD) 12 0 (mkBO z 3) (fun _ => 0), thC V [.int .i64 0, .int .i64 (-1), .bool false, .slice AR 36 cR], thY (.slice AR 36 cR) 36 F1, thY (.slice AQ 36 cQ) 36 G1, thC X [.int .i64 1, .int .i64 9, .int .i64 0, .int .i64 (p.s c).ad, .int .i64 5000, .int .i64 (p.s c).po, .int .i64 po, .int .i64 2, .int .i64 0, .bool false, .int .i64 0, .slice A1 12 c1, .slice none 0 0], thY (.slice A1 12 c1) 12 (mkBO v 3), thS sb wb p, thB pb 130 (plf sb nr1), thC Z [.int .i64 (p.s c).st, .int .i64 (p.s c).ad, .int .i64 (p.s c).po, .int .i64 (p.s c).we, .int .i64 (p.s c).si], thB P 330 (pc p)]) := hid (hz)
      clear hz S11 f0 f1 f2 f3 PRS1
      have HCO := hid hcc
      clear hcc
      go_simp
      go_upto_region 15 with (first | ((with_reducible refine wl_id ?_); refine wl_ow rfl (ow_allocC rfl (zPk _) (by simp) S12.out ?_); intro U w_ hZ _; have SY := hid hZ; clear hZ) | ((with_reducible refine wl_id ?_); refine wl_ow rfl (ow_storeC (A := []) [.int .i64 1, .int .i64 8, .int .i64 0, .int .i64 10, .int .i64 5000, .int .i64 80, .int .i64 po, .int .i64 2, .int .i64 0, .bool false, .int .i64 0, .slice AO 12 cO, .slice AD 0 cD] rfl rfl (rfl) SY.out rfl iPk rfl ?_); intro w_ hZ; have SX := hid hZ; clear hZ))
      have S13 : Hid (HS [] W _ [thC U [.int .i64 1, .int .i64 8, .int .i64 0, .int .i64 10, .int .i64 5000, .int .i64 80, .int .i64 po, .int .i64 2, .int .i64 0, .bool false, .int .i64 0, .slice AO 12 cO, .slice AD 0 cD], thOD 0 (.slice AO 12 cO) (.slice AD 0 cD) 12 0 (mkBO z 3) (fun _ => 0), thC V [.int .i64 0, .int .i64 (-1), .bool false, .slice AR 36 cR], thY (.slice AR 36 cR) 36 F1, thY (.slice AQ 36 cQ) 36 G1, thC X [.int .i64 1, .int .i64 9, .int .i64 0, .int .i64 (p.s c).ad, .int .i64 5000, .int .i64 (p.s c).po, .int .i64 po, .int .i64 2, .int .i64 0, .bool false, .int .i64 0, .slice A1 12 c1, .slice none 0 0], thY (.slice A1 12 c1) 12 (mkBO v 3), thS sb wb p, thB pb 130 (plf sb nr1), thC Z [.int .i64 (p.s c).st, .int .i64 (p.s c).ad, .int .i64 (p.s c).po, .int .i64 (p.s c).we, .int .i64 (p.s c).si], thB P 330 (pc p)]) := hid (SX.out)
      clear SX SY S12
      obtain ⟨y0, y1, y2, y3, y4, y5, y6, y7, y8, y9, y10, y11, y12⟩ := (S13.out.ce 0 rfl).c13
      go_wp2_with fail
      refine (STM1.out _ _ _ HCO.out (S13.out.byO 1 rfl).1).mono ?_
      rintro e w10 ⟨rfl, hb⟩
      have S14 : Hid (HS [] W w10 [thC U [.int .i64 1, .int .i64 8, .int .i64 0, .int .i64 10, .int .i64 5000, .int .i64 80, .int .i64 po, .int .i64 2, .int .i64 0, .bool false, .int .i64 0, .slice AO 12 cO, .slice AD 0 cD], thOD 0 (.slice AO 12 cO) (.slice AD 0 cD) 12 0 (mkBO z 3) (fun _ => 0), thC V [.int .i64 0, .int .i64 (-1), .bool false, .slice AR 36 cR], thY (.slice AR 36 cR) 36 F1, thY (.slice AQ 36 cQ) 36 G1, thC X [.int .i64 1, .int .i64 9, .int .i64 0, .int .i64 (p.s c).ad, .int .i64 5000, .int .i64 (p.s c).po, .int .i64 po, .int .i64 2, .int .i64 0, .bool false, .int .i64 0, .slice A1 12 c1, .slice none 0 0], thY (.slice A1 12 c1) 12 (mkBO v 3), thS sb wb p, thB pb 130 (plf sb nr1), thC Z [.int .i64 (p.s c).st, .int .i64 (p.s c).ad, .int .i64 (p.s c).po, .int .i64 (p.s c).we, .int .i64 (p.s c).si], thB P 330 (pc p)]) := hid (S13.out.below hb)
      clear hb S13 y0 y1 y2 y3 y4 y5 y6 y7 y8 y9 y10 y11 y12 STM1
      go_simp
      obtain ⟨f0, f1, f2, f3⟩ := (S14.out.ce 2 rfl).c4
      obtain ⟨y0, y1, y2, y3, y4, y5, y6, y7, y8, y9, y10, y11, y12⟩ := (S14.out.ce 5 rfl).c13
      go_upto_region 19 with (first | ((with_reducible refine wl_id ?_); refine wl_ow rfl (ow_allocC rfl (zPk _) (by simp) S14.out ?_); intro X2 w_ hZ _; have SY := hid hZ; clear hZ) | ((with_reducible refine wl_id ?_); refine wl_ow rfl (ow_storeC (A := []) [.int .i64 1, .int .i64 9, .int .i64 0, .int .i64 (p.s c).ad, .int .i64 5000, .int .i64 (p.s c).po, .int .i64 po, .int .i64 2, .int .i64 0, .bool false, .int .i64 0, .slice A1 12 c1, .slice none 0 0] rfl rfl (rfl) SY.out rfl iPk rfl ?_); intro w_ hZ; have SX := hid hZ; clear hZ))
      have S15 : Hid (HS [] W _ [thC X2 [.int .i64 1, .int .i64 9, .int .i64 0, .int .i64 (p.s c).ad, .int .i64 5000, .int .i64 (p.s c).po, .int .i64 po, .int .i64 2, .int .i64 0, .bool false, .int .i64 0, .slice A1 12 c1, .slice none 0 0], thC U [.int .i64 1, .int .i64 8, .int .i64 0, .int .i64 10, .int .i64 5000, .int .i64 80, .int .i64 po, .int .i64 2, .int .i64 0, .bool false, .int .i64 0, .slice AO 12 cO, .slice AD 0 cD], thOD 0 (.slice AO 12 cO) (.slice AD 0 cD) 12 0 (mkBO z 3) (fun _ => 0), thC V [.int .i64 0, .int .i64 (-1), .bool false, .slice AR 36 cR], thY (.slice AR 36 cR) 36 F1, thY (.slice AQ 36 cQ) 36 G1, thC X [.int .i64 1, .int .i64 9, .int .i64 0, .int .i64 (p.s c).ad, .int .i64 5000, .int .i64 (p.s c).po, .int .i64 po, .int .i64 2, .int .i64 0, .bool false, .int .i64 0, .slice A1 12 c1, .slice none 0 0], thY (.slice A1 12 c1) 12 (mkBO v 3), thS sb wb p, thB pb 130 (plf sb nr1), thC Z [.int .i64 (p.s c).st, .int .i64 (p.s c).ad, .int .i64 (p.s c).po, .int .i64 (p.s c).we, .int .i64 (p.s c).si], thB P 330 (pc p)]) := hid (SX.out)
      clear SX SY S14 f0 f1 f2 f3 y0 y1 y2 y3 y4 y5 y6 y7 y8 y9 y10 y11 y12
      have S16 : Hid (HS [] W _ [thC X2 [.int .i64 1, .int .i64 9, .int .i64 0, .int .i64 (p.s c).ad, .int .i64 5000, .int .i64 (p.s c).po, .int .i64 po, .int .i64 2, .int .i64 0, .bool false, .int .i64 0, .slice A1 12 c1, .slice none 0 0], thC U [.int .i64 1, .int .i64 8, .int .i64 0, .int .i64 10, .int .i64 5000, .int .i64 80, .int .i64 po, .int .i64 2, .int .i64 0, .bool false, .int .i64 0, .slice AO 12 cO, .slice AD 0 cD], thOD 0 (.slice AO 12 cO) (.slice AD 0 cD) 12 0 (mkBO z 3) (fun _ => 0), thY (.slice AR 36 cR) 36 F1, thY (.slice AQ 36 cQ) 36 G1, thC X [.int .i64 1, .int .i64 9, .int .i64 0, .int .i64 (p.s c).ad, .int .i64 5000, .int .i64 (p.s c).po, .int .i64 po, .int .i64 2, .int .i64 0, .bool false, .int .i64 0, .slice A1 12 c1, .slice none 0 0], thY (.slice A1 12 c1) 12 (mkBO v 3), thS sb wb p, thB pb 130 (plf sb nr1), thC Z [.int .i64 (p.s c).st, .int .i64 (p.s c).ad, .int .i64 (p.s c).po, .int .i64 (p.s c).we, .int .i64 (p.s c).si], thB P 330 (pc p)]) := hid (HS.drop (A := [thC X2 [.int .i64 1, .int .i64 9, .int .i64 0, .int .i64 (p.s c).ad, .int .i64 5000, .int .i64 (p.s c).po, .int .i64 po, .int .i64 2, .int .i64 0, .bool false, .int .i64 0, .slice A1 12 c1, .slice none 0 0], thC U [.int .i64 1, .int .i64 8, .int .i64 0, .int .i64 10, .int .i64 5000, .int .i64 80, .int .i64 po, .int .i64 2, .int .i64 0, .bool false, .int .i64 0, .slice AO 12 cO, .slice AD 0 cD], thOD 0 (.slice AO 12 cO) (.slice AD 0 cD) 12 0 (mkBO z 3) (fun _ => 0)]) (t := thC V [.int .i64 0, .int .i64 (-1), .bool false, .slice AR 36 cR]) (B := [thY (.slice AR 36 cR) 36 F1, thY (.slice AQ 36 cQ) 36 G1, thC X [.int .i64 1, .int .i64 9, .int .i64 0, .int .i64 (p.s c).ad, .int .i64 5000, .int .i64 (p.s c).po, .int .i64 po, .int .i64 2, .int .i64 0, .bool false, .int .i64 0, .slice A1 12 c1, .slice none 0 0], thY (.slice A1 12 c1) 12 (mkBO v 3), thS sb wb p, thB pb 130 (plf sb nr1), thC Z [.int .i64 (p.s c).st, .int .i64 (p.s c).ad, .int .i64 (p.s c).po, .int .i64 (p.s c).we, .int .i64 (p.s c).si], thB P 330 (pc p)]) S15.out)
      clear S15
      have S17 : Hid (HS [] W _ [thC X2 [.int .i64 1, .int .i64 9, .int .i64 0, .int .i64 (p.s c).ad, .int .i64 5000, .int .i64 (p.s c).po, .int .i64 po, .int .i64 2, .int .i64 0, .bool false, .int .i64 0, .slice A1 12 c1, .slice none 0 0], thOD 0 (.slice AO 12 cO) (.slice AD 0 cD) 12 0 (mkBO z 3) (fun _ => 0), thY (.slice AR 36 cR) 36 F1, thY (.slice AQ 36 cQ) 36 G1, thC X [.int .i64 1, .int .i64 9, .int .i64 0, .int .i64 (p.s c).ad, .int .i64 5000, .int .i64 (p.s c).po, .int .i64 po, .int .i64 2, .int .i64 0, .bool false, .int .i64 0, .slice A1 12 c1, .slice none 0 0], thY (.slice A1 12 c1) 12 (mkBO v 3), thS sb wb p, thB pb 130 (plf sb nr1), thC Z [.int .i64 (p.s c).st, .int .i64 (p.s c).ad, .int .i64 (p.s c).po, .int .i64 (p.s c).we, .int .i64 (p.s c).si], thB P 330 (pc p)]) := hid (HS.drop (A := [thC X2 [.int .i64 1, .int .i64 9, .int .i64 0, .int .i64 (p.s c).ad, .int .i64 5000, .int .i64 (p.s c).po, .int .i64 po, .int .i64 2, .int .i64 0, .bool false, .int .i64 0, .slice A1 12 c1, .slice none 0 0]]) (t := thC U [.int .i64 1, .int .i64 8, .int .i64 0, .int .i64 10, .int .i64 5000, .int .i64 80, .int .i64 po, .int .i64 2, .int .i64 0, .bool false, .int .i64 0, .slice AO 12 cO, .slice AD 0 cD]) (B := [thOD 0 (.slice AO 12 cO) (.slice AD 0 cD) 12 0 (mkBO z 3) (fun _ => 0), thY (.slice AR 36 cR) 36 F1, thY (.slice AQ 36 cQ) 36 G1, thC X [.int .i64 1, .int .i64 9, .int .i64 0, .int .i64 (p.s c).ad, .int .i64 5000, .int .i64 (p.s c).po, .int .i64 po, .int .i64 2, .int .i64 0, .bool false, .int .i64 0, .slice A1 12 c1, .slice none 0 0], thY (.slice A1 12 c1) 12 (mkBO v 3), thS sb wb p, thB pb 130 (plf sb nr1), thC Z [.int .i64 (p.s c).st, .int .i64 (p.s c).ad, .int .i64 (p.s c).po, .int .i64 (p.s c).we, .int .i64 (p.s c).si], thB P 330 (pc p)]) S16.out)
      clear S16
      have S18 : Hid (HS [] W _ [thC X2 [.int .i64 1, .int .i64 9, .int .i64 0, .int .i64 (p.s c).ad, .int .i64 5000, .int .i64 (p.s c).po, .int .i64 po, .int .i64 2, .int .i64 0, .bool false, .int .i64 0, .slice A1 12 c1, .slice none 0 0], thY (.slice AR 36 cR) 36 F1, thY (.slice AQ 36 cQ) 36 G1, thC X [.int .i64 1, .int .i64 9, .int .i64 0, .int .i64 (p.s c).ad, .int .i64 5000, .int .i64 (p.s c).po, .int .i64 po, .int .i64 2, .int .i64 0, .bool false, .int .i64 0, .slice A1 12 c1, .slice none 0 0], thY (.slice A1 12 c1) 12 (mkBO v 3), thS sb wb p, thB pb 130 (plf sb nr1), thC Z [.int .i64 (p.s c).st, .int .i64 (p.s c).ad, .int .i64 (p.s c).po, .int .i64 (p.s c).we, .int .i64 (p.s c).si], thB P 330 (pc p)]) := hid (HS.drop (A := [thC X2 [.int .i64 1, .int .i64 9, .int .i64 0, .int .i64 (p.s c).ad, .int .i64 5000, .int .i64 (p.s c).po, .int .i64 po, .int .i64 2, .int .i64 0, .bool false, .int .i64 0, .slice A1 12 c1, .slice none 0 0]]) (t := thOD 0 (.slice AO 12 cO) (.slice AD 0 cD) 12 0 (mkBO z 3) (fun _ => 0)) (B := [thY (.slice AR 36 cR) 36 F1, thY (.slice AQ 36 cQ) 36 G1, thC X [.int .i64 1, .int .i64 9, .int .i64 0, .int .i64 (p.s c).ad, .int .i64 5000, .int .i64 (p.s c).po, .int .i64 po, .int .i64 2, .int .i64 0, .bool false, .int .i64 0, .slice A1 12 c1, .slice none 0 0], thY (.slice A1 12 c1) 12 (mkBO v 3), thS sb wb p, thB pb 130 (plf sb nr1), thC Z [.int .i64 (p.s c).st, .int .i64 (p.s c).ad, .int .i64 (p.s c).po, .int .i64 (p.s c).we, .int .i64 (p.s c).si], thB P 330 (pc p)]) S17.out)
      clear S17
      have S19 : Hid (HS [] W _ [thC X2 [.int .i64 1, .int .i64 9, .int .i64 0, .int .i64 (p.s c).ad, .int .i64 5000, .int .i64 (p.s c).po, .int .i64 po, .int .i64 2, .int .i64 0, .bool false, .int .i64 0, .slice A1 12 c1, .slice none 0 0], thY (.slice AQ 36 cQ) 36 G1, thC X [.int .i64 1, .int .i64 9, .int .i64 0, .int .i64 (p.s c).ad, .int .i64 5000, .int .i64 (p.s c).po, .int .i64 po, .int .i64 2, .int .i64 0, .bool false, .int .i64 0, .slice A1 12 c1, .slice none 0 0], thY (.slice A1 12 c1) 12 (mkBO v 3), thS sb wb p, thB pb 130 (plf sb nr1), thC Z [.int .i64 (p.s c).st, .int .i64 (p.s c).ad, .int .i64 (p.s c).po, .int .i64 (p.s c).we, .int .i64 (p.s c).si], thB P 330 (pc p)]) := hid (HS.drop (A := [thC X2 [.int .i64 1, .int .i64 9, .int .i64 0, .int .i64 (p.s c).ad, .int .i64 5000, .int .i64 (p.s c).po, .int .i64 po, .int .i64 2, .int .i64 0, .bool false, .int .i64 0, .slice A1 12 c1, .slice none 0 0]]) (t := thY (.slice AR 36 cR) 36 F1) (B := [thY (.slice AQ 36 cQ) 36 G1, thC X [.int .i64 1, .int .i64 9, .int .i64 0, .int .i64 (p.s c).ad, .int .i64 5000, .int .i64 (p.s c).po, .int .i64 po, .int .i64 2, .int .i64 0, .bool false, .int .i64 0, .slice A1 12 c1, .slice none 0 0], thY (.slice A1 12 c1) 12 (mkBO v 3), thS sb wb p, thB pb 130 (plf sb nr1), thC Z [.int .i64 (p.s c).st, .int .i64 (p.s c).ad, .int .i64 (p.s c).po, .int .i64 (p.s c).we, .int .i64 (p.s c).si], thB P 330 (pc p)]) S18.out)
      clear S18
      have S20 : Hid (HS [] W _ [thC X2 [.int .i64 1, .int .i64 9, .int .i64 0, .int .i64 (p.s c).ad, .int .i64 5000, .int .i64 (p.s c).po, .int .i64 po, .int .i64 2, .int .i64 0, .bool false, .int .i64 0, .slice A1 12 c1, .slice none 0 0], thC X [.int .i64 1, .int .i64 9, .int .i64 0, .int .i64 (p.s c).ad, .int .i64 5000, .int .i64 (p.s c).po, .int .i64 po, .int .i64 2, .int .i64 0, .bool false, .int .i64 0, .slice A1 12 c1, .slice none 0 0], thY (.slice A1 12 c1) 12 (mkBO v 3), thS sb wb p, thB pb 130 (plf sb nr1), thC Z [.int .i64 (p.s c).st, .int .i64 (p.s c).ad, .int .i64 (p.s c).po, .int .i64 (p.s c).we, .int .i64 (p.s c).si], thB P 330 (pc p)]) := hid (HS.drop (A := [thC X2 [.int .i64 1, .int .i64 9, .int .i64 0, .int .i64 (p.s c).ad, .int .i64 5000, .int .i64 (p.s c).po, .int .i64 po, .int .i64 2, .int .i64 0, .bool false, .int .i64 0, .slice A1 12 c1, .slice none 0 0]]) (t := thY (.slice AQ 36 cQ) 36 G1) (B := [thC X [.int .i64 1, .int .i64 9, .int .i64 0, .int .i64 (p.s c).ad, .int .i64 5000, .int .i64 (p.s c).po, .int .i64 po, .int .i64 2, .int .i64 0, .bool false, .int .i64 0, .slice A1 12 c1, .slice none 0 0], thY (.slice A1 12 c1) 12 (mkBO v 3), thS sb wb p, thB pb 130 (plf sb nr1), thC Z [.int .i64 (p.s c).st, .int .i64 (p.s c).ad, .int .i64 (p.s c).po, .int .i64 (p.s c).we, .int .i64 (p.s c).si], thB P 330 (pc p)]) S19.out)
      clear S19
      have wd := u32_in dd (by omega)
      have wv := u32_add v dd
      rw [← HV2.out] at wv
      go_wp2_with fail
      refine (Wdd.out _).mono ?_
      rintro e w' ⟨rfl, rfl⟩
      go_wp2_with fail
      try rw [wd]
      try rw [wv]
      try simp only [wd, wv]
      refine (MKO2.out _ _ S20.out).mono ?_
      rintro e w11 ⟨A2, c2, rfl, hz, hcc⟩
      have S21 : Hid (HS [] W w11 [thY (.slice A2 12 c2) 12 (mkBO v2 4), thC X2 [.int .i64 1, .int .i64 9, .int .i64 0, .int .i64 (p.s c).ad, .int .i64 5000, .int .i64 (p.s c).po, .int .i64 po, .int .i64 2, .int .i64 0, .bool false, .int .i64 0, .slice A1 12 c1, .slice none 0 0], thC X [.int .i64 1, .int .i64 9, .int .i64 0, .int .i64 (p.s c).ad, .int .i64 5000, .int .i64 (p.s c).po, .int .i64 po, .int .i64 2, .int .i64 0, .bool false, .int .i64 0, .slice A1 12 c1, .slice none 0 0], thY (.slice A1 12 c1) 12 (mkBO v 3), thS sb wb p, thB pb 130 (plf sb nr1), thC Z [.int .i64 (p.s c).st, .int .i64 (p.s c).ad, .int .i64 (p.s c).po, .int .i64 (p.s c).we, .int .i64 (p.s c).si], thB P 330 (pc p)]) := hid (hz)
      clear hz S20 MKO2 Wdd
      have HC2 := hid hcc
      clear hcc
      go_simp
      have fz := (S21.out.ce 1 rfl).2.2 11
      have fy := (S21.out.ce 1 rfl).2.1 11 _ rfl
      have fl := (S21.out.ce 1 rfl).1
      go_upto_region 20 with (fail)
      have S22 : Hid (HS [] W _ [thY (.slice A2 12 c2) 12 (mkBO v2 4), thC X2 [.int .i64 1, .int .i64 9, .int .i64 0, .int .i64 (p.s c).ad, .int .i64 5000, .int .i64 (p.s c).po, .int .i64 po, .int .i64 2, .int .i64 0, .bool false, .int .i64 0, .slice A2 12 c2, .slice none 0 0], thC X [.int .i64 1, .int .i64 9, .int .i64 0, .int .i64 (p.s c).ad, .int .i64 5000, .int .i64 (p.s c).po, .int .i64 po, .int .i64 2, .int .i64 0, .bool false, .int .i64 0, .slice A1 12 c1, .slice none 0 0], thY (.slice A1 12 c1) 12 (mkBO v 3), thS sb wb p, thB pb 130 (plf sb nr1), thC Z [.int .i64 (p.s c).st, .int .i64 (p.s c).ad, .int .i64 (p.s c).po, .int .i64 (p.s c).we, .int .i64 (p.s c).si], thB P 330 (pc p)]) := hid (HS.setC (A := [thY (.slice A2 12 c2) 12 (mkBO v2 4)]) (B := [thC X [.int .i64 1, .int .i64 9, .int .i64 0, .int .i64 (p.s c).ad, .int .i64 5000, .int .i64 (p.s c).po, .int .i64 po, .int .i64 2, .int .i64 0, .bool false, .int .i64 0, .slice A1 12 c1, .slice none 0 0], thY (.slice A1 12 c1) 12 (mkBO v 3), thS sb wb p, thB pb 130 (plf sb nr1), thC Z [.int .i64 (p.s c).st, .int .i64 (p.s c).ad, .int .i64 (p.s c).po, .int .i64 (p.s c).we, .int .i64 (p.s c).si], thB P 330 (pc p)]) S21.out 11 (.slice A2 12 c2) (by simp))
      clear S21 fz fy fl
      obtain ⟨y0, y1, y2, y3, y4, y5, y6, y7, y8, y9, y10, y11, y12⟩ := (S22.out.ce 1 rfl).c13
      go_wp2_with fail
      refine (BLD2.out _ _ S22.out _ _ (S22.out.by_ 0 rfl)).mono ?_
      rintro e w12 ⟨AQ, cQ, rfl, hz, hcc⟩
      have S23 : Hid (HS [] W w12 [thY (.slice AQ 36 cQ) 36 G2, thY (.slice A2 12 c2) 12 (mkBO v2 4), thC X2 [.int .i64 1, .int .i64 9, .int .i64 0, .int .i64 (p.s c).ad, .int .i64 5000, .int .i64 (p.s c).po, .int .i64 po, .int .i64 2, .int .i64 0, .bool false, .int .i64 0, .slice A2 12 c2, .slice none 0 0], thC X [.int .i64 1, .int .i64 9, .int .i64 0, .int .i64 (p.s c).ad, .int .i64 5000, .int .i64 (p.s c).po, .int .i64 po, .int .i64 2, .int .i64 0, .bool false, .int .i64 0, .slice A1 12 c1, .slice none 0 0], thY (.slice A1 12 c1) 12 (mkBO v 3), thS sb wb p, thB pb 130 (plf sb nr1), thC Z [.int .i64 (p.s c).st, .int .i64 (p.s c).ad, .int .i64 (p.s c).po, .int .i64 (p.s c).we, .int .i64 (p.s c).si], thB P 330 (pc p)]) := hid (hz)
      clear hz S22 y0 y1 y2 y3 y4 y5 y6 y7 y8 y9 y10 y11 y12 BLD2
      have HCQ := hid hcc
      clear hcc
      go_simp
      go_wp2_with fail
      refine (c_take (A := [thY (.slice AQ 36 cQ) 36 G2, thY (.slice A2 12 c2) 12 (mkBO v2 4), thC X2 [.int .i64 1, .int .i64 9, .int .i64 0, .int .i64 (p.s c).ad, .int .i64 5000, .int .i64 (p.s c).po, .int .i64 po, .int .i64 2, .int .i64 0, .bool false, .int .i64 0, .slice A2 12 c2, .slice none 0 0], thC X [.int .i64 1, .int .i64 9, .int .i64 0, .int .i64 (p.s c).ad, .int .i64 5000, .int .i64 (p.s c).po, .int .i64 po, .int .i64 2, .int .i64 0, .bool false, .int .i64 0, .slice A1 12 c1, .slice none 0 0], thY (.slice A1 12 c1) 12 (mkBO v 3), thS sb wb p]) (B := [thC Z [.int .i64 (p.s c).st, .int .i64 (p.s c).ad, .int .i64 (p.s c).po, .int .i64 (p.s c).we, .int .i64 (p.s c).si], thB P 330 (pc p)]) S23.out (S23.out.st 5 rfl) HNE.out HPT.out HN1.out G2 36 cQ AQ BG2.out (by omega) (fun _ => by rw [KG2.out]; decide) (S23.out.by_ 0 rfl) HCQ.out _ T2.out).mono ?_
      rintro e w13 ⟨AR, cR, rfl, hz, hcc⟩
      dsimp only at hz hcc ⊢
      have S24 : Hid (HS [] W w13 [thY (.slice AR 36 cR) 36 F2, thY (.slice AQ 36 cQ) 36 G2, thY (.slice A2 12 c2) 12 (mkBO v2 4), thC X2 [.int .i64 1, .int .i64 9, .int .i64 0, .int .i64 (p.s c).ad, .int .i64 5000, .int .i64 (p.s c).po, .int .i64 po, .int .i64 2, .int .i64 0, .bool false, .int .i64 0, .slice A2 12 c2, .slice none 0 0], thC X [.int .i64 1, .int .i64 9, .int .i64 0, .int .i64 (p.s c).ad, .int .i64 5000, .int .i64 (p.s c).po, .int .i64 po, .int .i64 2, .int .i64 0, .bool false, .int .i64 0, .slice A1 12 c1, .slice none 0 0], thY (.slice A1 12 c1) 12 (mkBO v 3), thS sb wb p, thB pb 130 (plf sb nr2), thC Z [.int .i64 (p.s c).st, .int .i64 (p.s c).ad, .int .i64 (p.s c).po, .int .i64 (p.s c).we, .int .i64 (p.s c).si], thB P 330 (pc p)]) := hid (hz)
      clear hz S23
      have HCR := hid hcc
      clear hcc
      go_simp
      have S25 : Hid (HS [] W w13 [thY (.slice AQ 36 cQ) 36 G2, thY (.slice A2 12 c2) 12 (mkBO v2 4), thC X2 [.int .i64 1, .int .i64 9, .int .i64 0, .int .i64 (p.s c).ad, .int .i64 5000, .int .i64 (p.s c).po, .int .i64 po, .int .i64 2, .int .i64 0, .bool false, .int .i64 0, .slice A2 12 c2, .slice none 0 0], thC X [.int .i64 1, .int .i64 9, .int .i64 0, .int .i64 (p.s c).ad, .int .i64 5000, .int .i64 (p.s c).po, .int .i64 po, .int .i64 2, .int .i64 0, .bool false, .int .i64 0, .slice A1 12 c1, .slice none 0 0], thY (.slice A1 12 c1) 12 (mkBO v 3), thS sb wb p, thB pb 130 (plf sb nr2), thC Z [.int .i64 (p.s c).st, .int .i64 (p.s c).ad, .int .i64 (p.s c).po, .int .i64 (p.s c).we, .int .i64 (p.s c).si], thB P 330 (pc p)]) := hid (HS.drop (A := []) (t := thY (.slice AR 36 cR) 36 F2) (B := [thY (.slice AQ 36 cQ) 36 G2, thY (.slice A2 12 c2) 12 (mkBO v2 4), thC X2 [.int .i64 1, .int .i64 9, .int .i64 0, .int .i64 (p.s c).ad, .int .i64 5000, .int .i64 (p.s c).po, .int .i64 po, .int .i64 2, .int .i64 0, .bool false, .int .i64 0, .slice A2 12 c2, .slice none 0 0], thC X [.int .i64 1, .int .i64 9, .int .i64 0, .int .i64 (p.s c).ad, .int .i64 5000, .int .i64 (p.s c).po, .int .i64 po, .int .i64 2, .int .i64 0, .bool false, .int .i64 0, .slice A1 12 c1, .slice none 0 0], thY (.slice A1 12 c1) 12 (mkBO v 3), thS sb wb p, thB pb 130 (plf sb nr2), thC Z [.int .i64 (p.s c).st, .int .i64 (p.s c).ad, .int .i64 (p.s c).po, .int .i64 (p.s c).we, .int .i64 (p.s c).si], thB P 330 (pc p)]) S24.out)
      clear S24
      have S26 : Hid (HS [] W w13 [thY (.slice A2 12 c2) 12 (mkBO v2 4), thC X2 [.int .i64 1, .int .i64 9, .int .i64 0, .int .i64 (p.s c).ad, .int .i64 5000, .int .i64 (p.s c).po, .int .i64 po, .int .i64 2, .int .i64 0, .bool false, .int .i64 0, .slice A2 12 c2, .slice none 0 0], thC X [.int .i64 1, .int .i64 9, .int .i64 0, .int .i64 (p.s c).ad, .int .i64 5000, .int .i64 (p.s c).po, .int .i64 po, .int .i64 2, .int .i64 0, .bool false, .int .i64 0, .slice A1 12 c1, .slice none 0 0], thY (.slice A1 12 c1) 12 (mkBO v 3), thS sb wb p, thB pb 130 (plf sb nr2), thC Z [.int .i64 (p.s c).st, .int .i64 (p.s c).ad, .int .i64 (p.s c).po, .int .i64 (p.s c).we, .int .i64 (p.s c).si], thB P 330 (pc p)]) := hid (HS.drop (A := []) (t := thY (.slice AQ 36 cQ) 36 G2) (B := [thY (.slice A2 12 c2) 12 (mkBO v2 4), thC X2 [.int .i64 1, .int .i64 9, .int .i64 0, .int .i64 (p.s c).ad, .int .i64 5000, .int .i64 (p.s c).po, .int .i64 po, .int .i64 2, .int .i64 0, .bool false, .int .i64 0, .slice A2 12 c2, .slice none 0 0], thC X [.int .i64 1, .int .i64 9, .int .i64 0, .int .i64 (p.s c).ad, .int .i64 5000, .int .i64 (p.s c).po, .int .i64 po, .int .i64 2, .int .i64 0, .bool false, .int .i64 0, .slice A1 12 c1, .slice none 0 0], thY (.slice A1 12 c1) 12 (mkBO v 3), thS sb wb p, thB pb 130 (plf sb nr2), thC Z [.int .i64 (p.s c).st, .int .i64 (p.s c).ad, .int .i64 (p.s c).po, .int .i64 (p.s c).we, .int .i64 (p.s c).si], thB P 330 (pc p)]) S25.out)
      clear S25
      have S27 : Hid (HS [] W w13 [thY (.slice A2 12 c2) 12 (mkBO v2 4), thC X [.int .i64 1, .int .i64 9, .int .i64 0, .int .i64 (p.s c).ad, .int .i64 5000, .int .i64 (p.s c).po, .int .i64 po, .int .i64 2, .int .i64 0, .bool false, .int .i64 0, .slice A1 12 c1, .slice none 0 0], thY (.slice A1 12 c1) 12 (mkBO v 3), thS sb wb p, thB pb 130 (plf sb nr2), thC Z [.int .i64 (p.s c).st, .int .i64 (p.s c).ad, .int .i64 (p.s c).po, .int .i64 (p.s c).we, .int .i64 (p.s c).si], thB P 330 (pc p)]) := hid (HS.drop (A := [thY (.slice A2 12 c2) 12 (mkBO v2 4)]) (t := thC X2 [.int .i64 1, .int .i64 9, .int .i64 0, .int .i64 (p.s c).ad, .int .i64 5000, .int .i64 (p.s c).po, .int .i64 po, .int .i64 2, .int .i64 0, .bool false, .int .i64 0, .slice A2 12 c2, .slice none 0 0]) (B := [thC X [.int .i64 1, .int .i64 9, .int .i64 0, .int .i64 (p.s c).ad, .int .i64 5000, .int .i64 (p.s c).po, .int .i64 po, .int .i64 2, .int .i64 0, .bool false, .int .i64 0, .slice A1 12 c1, .slice none 0 0], thY (.slice A1 12 c1) 12 (mkBO v 3), thS sb wb p, thB pb 130 (plf sb nr2), thC Z [.int .i64 (p.s c).st, .int .i64 (p.s c).ad, .int .i64 (p.s c).po, .int .i64 (p.s c).we, .int .i64 (p.s c).si], thB P 330 (pc p)]) S26.out)
      clear S26
      have S28 : Hid (HS [] W w13 [thC X [.int .i64 1, .int .i64 9, .int .i64 0, .int .i64 (p.s c).ad, .int .i64 5000, .int .i64 (p.s c).po, .int .i64 po, .int .i64 2, .int .i64 0, .bool false, .int .i64 0, .slice A1 12 c1, .slice none 0 0], thY (.slice A1 12 c1) 12 (mkBO v 3), thS sb wb p, thB pb 130 (plf sb nr2), thC Z [.int .i64 (p.s c).st, .int .i64 (p.s c).ad, .int .i64 (p.s c).po, .int .i64 (p.s c).we, .int .i64 (p.s c).si], thB P 330 (pc p)]) := hid (HS.drop (A := []) (t := thY (.slice A2 12 c2) 12 (mkBO v2 4)) (B := [thC X [.int .i64 1, .int .i64 9, .int .i64 0, .int .i64 (p.s c).ad, .int .i64 5000, .int .i64 (p.s c).po, .int .i64 po, .int .i64 2, .int .i64 0, .bool false, .int .i64 0, .slice A1 12 c1, .slice none 0 0], thY (.slice A1 12 c1) 12 (mkBO v 3), thS sb wb p, thB pb 130 (plf sb nr2), thC Z [.int .i64 (p.s c).st, .int .i64 (p.s c).ad, .int .i64 (p.s c).po, .int .i64 (p.s c).we, .int .i64 (p.s c).si], thB P 330 (pc p)]) S27.out)
      clear S27
      go_upto_region 22 with (fail)
      go_cut [25] from 113 to 121 (fun vv wx => ∃ BX A c', vv = .pointer (some ⟨BX, 0, none⟩) ∧ HS [] W wx [thC BX [.int .i64 1, .int .i64 9, .int .i64 0, .int .i64 5000, .int .i64 10, .int .i64 po, .int .i64 80, .int .i64 2, .int .i64 0, .bool false, .int .i64 0, .slice A 12 c', .slice none 0 0], thY (.slice A 12 c') 12 (mkBO 9 z), thC X [.int .i64 1, .int .i64 9, .int .i64 0, .int .i64 (p.s c).ad, .int .i64 5000, .int .i64 (p.s c).po, .int .i64 po, .int .i64 2, .int .i64 0, .bool false, .int .i64 0, .slice A1 12 c1, .slice none 0 0], thY (.slice A1 12 c1) 12 (mkBO v 3), thS sb wb p, thB pb 130 (plf sb nr2), thC Z [.int .i64 (p.s c).st, .int .i64 (p.s c).ad, .int .i64 (p.s c).po, .int .i64 (p.s c).we, .int .i64 (p.s c).si], thB P 330 (pc p)] ∧ 12 ≤ c')
      case first =>
        refine wp_region_held_drew (S := fun (w' : World) => HS [] W w' [thC X [.int .i64 1, .int .i64 9, .int .i64 0, .int .i64 (p.s c).ad, .int .i64 5000, .int .i64 (p.s c).po, .int .i64 po, .int .i64 2, .int .i64 0, .bool false, .int .i64 0, .slice A1 12 c1, .slice none 0 0], thY (.slice A1 12 c1) 12 (mkBO v 3), thS sb wb p, thB pb 130 (plf sb nr2), thC Z [.int .i64 (p.s c).st, .int .i64 (p.s c).ad, .int .i64 (p.s c).po, .int .i64 (p.s c).we, .int .i64 (p.s c).si], thB P 330 (pc p)]) (by kernel_rfl) ?_ (fun hHeld => ?_)
        · exact S28.out.drew
        refine tkq 0 hHeld ?_
        refine tkq 1 hHeld ?_ (hy := by intro w hSw; (try dsimp only at hSw); have x0 := (hSw.ce 0 rfl).2.1 6 _ rfl; go_simp; (try with_reducible rfl))
        refine tkq 2 hHeld ?_
        refine tkq 3 hHeld ?_ (hy := by intro w hSw; (try dsimp only at hSw); have x0 := (pool_fb (hSw.fb 5 rfl)).c1; rw [HPC.out.1] at x0; go_simp; (try with_reducible rfl))
        refine tkq 4 hHeld ?_
        refine tkq 5 hHeld ?_ (hy := by intro w hSw; (try dsimp only at hSw); have x0 := (pool_fb (hSw.fb 5 rfl)).c2; rw [HPC.out.2] at x0; go_simp; (try with_reducible rfl))
        refine tkq 6 hHeld ?_
        refine twoUp 7 9 rfl rfl (by kernel_rfl) rfl rfl (fun K hK => ?_) (fun K hK => ?_)
        · go_simp
          refine (MKO3.out _ _ hHeld).mono ?_
          rintro e w20 ⟨A, c', rfl, zhz0, hcc⟩
          try go_wp2_with fail
          refine hK.out _ _ zhz0.tail (fun hz0 => ?_)
          clear hK
          try simp only [Act.put, List.setIfInBounds_toArray, List.set_cons_zero, List.set_cons_succ]
          refine tkq 8 hz0 ?_
          refine only 9 rfl (by kernel_rfl) rfl (fun K hK => ?_)
          refine ow_allocC rfl (zPk _) (by simp) zhz0 (fun BX w21 zhz1 _ => ?_)
          refine hK.out _ _ zhz1.tail.tail (fun hz1 => ?_)
          clear hK
          try simp only [Act.put, List.setIfInBounds_toArray, List.set_cons_zero, List.set_cons_succ]
          refine only 10 rfl (by kernel_rfl) rfl (fun K hK => ?_)
          refine ow_storeC (A := []) [.int .i64 1, .int .i64 9, .int .i64 0, .int .i64 5000, .int .i64 10, .int .i64 po, .int .i64 80, .int .i64 2, .int .i64 0, .bool false, .int .i64 0, .slice A 12 c', .slice none 0 0] rfl rfl rfl zhz1 rfl iPk rfl (fun w22 hY => ?_)
          refine hK.out _ _ hY.tail.tail (fun _ => ?_)
          clear hK
          try simp only [Act.put, List.setIfInBounds_toArray, List.set_cons_zero, List.set_cons_succ]
          refine wpAnyH_done (by kernel_rfl) ?_ _
          go_wp2_with fail
          go_meet
          exact ⟨BX, A, c', rfl, hY, hcc⟩
        · refine ow_allocC rfl (zPk _) (by simp) hHeld (fun BX w21 zhz0 _ => ?_)
          refine hK.out _ _ zhz0.tail (fun hz0 => ?_)
          clear hK
          try simp only [Act.put, List.setIfInBounds_toArray, List.set_cons_zero, List.set_cons_succ]
          refine only 7 rfl (by kernel_rfl) rfl (fun K hK => ?_)
          go_simp
          refine (MKO3.out _ _ zhz0).mono ?_
          rintro e w20 ⟨A, c', rfl, zhz1, hcc⟩
          try go_wp2_with fail
          refine hK.out _ _ zhz1.tail.tail (fun hz1 => ?_)
          clear hK
          try simp only [Act.put, List.setIfInBounds_toArray, List.set_cons_zero, List.set_cons_succ]
          refine tkq 8 hz1 ?_
          refine only 10 rfl (by kernel_rfl) rfl (fun K hK => ?_)
          have zhz1s := HS.swap_ zhz1
          refine ow_storeC (A := []) [.int .i64 1, .int .i64 9, .int .i64 0, .int .i64 5000, .int .i64 10, .int .i64 po, .int .i64 80, .int .i64 2, .int .i64 0, .bool false, .int .i64 0, .slice A 12 c', .slice none 0 0] rfl rfl rfl zhz1s rfl iPk rfl (fun w22 hY => ?_)
          refine hK.out _ _ hY.tail.tail (fun _ => ?_)
          clear hK
          try simp only [Act.put, List.setIfInBounds_toArray, List.set_cons_zero, List.set_cons_succ]
          refine wpAnyH_done (by kernel_rfl) ?_ _
          go_wp2_with fail
          go_meet
          exact ⟨BX, A, c', rfl, hY, hcc⟩
      case rest =>
        obtain ⟨Y, A3, c3, rfl, hz, hcc⟩ := hcut
        have S29 : Hid (HS [] W _ [thC Y [.int .i64 1, .int .i64 9, .int .i64 0, .int .i64 5000, .int .i64 10, .int .i64 po, .int .i64 80, .int .i64 2, .int .i64 0, .bool false, .int .i64 0, .slice A3 12 c3, .slice none 0 0], thY (.slice A3 12 c3) 12 (mkBO 9 z), thC X [.int .i64 1, .int .i64 9, .int .i64 0, .int .i64 (p.s c).ad, .int .i64 5000, .int .i64 (p.s c).po, .int .i64 po, .int .i64 2, .int .i64 0, .bool false, .int .i64 0, .slice A1 12 c1, .slice none 0 0], thY (.slice A1 12 c1) 12 (mkBO v 3), thS sb wb p, thB pb 130 (plf sb nr2), thC Z [.int .i64 (p.s c).st, .int .i64 (p.s c).ad, .int .i64 (p.s c).po, .int .i64 (p.s c).we, .int .i64 (p.s c).si], thB P 330 (pc p)]) := hid (hz)
        have HC3 := hid hcc
        clear hz hcc S28 MKO3
        obtain ⟨y0, y1, y2, y3, y4, y5, y6, y7, y8, y9, y10, y11, y12⟩ := (S29.out.ce 0 rfl).c13
        go_wp2_with fail
        refine (BLD3.out _ _ S29.out _ _ (S29.out.by_ 1 rfl)).mono ?_
        rintro e w14 ⟨AQ, cQ, rfl, hz, hcc⟩
        have S30 : Hid (HS [] W w14 [thY (.slice AQ 36 cQ) 36 G3, thC Y [.int .i64 1, .int .i64 9, .int .i64 0, .int .i64 5000, .int .i64 10, .int .i64 po, .int .i64 80, .int .i64 2, .int .i64 0, .bool false, .int .i64 0, .slice A3 12 c3, .slice none 0 0], thY (.slice A3 12 c3) 12 (mkBO 9 z), thC X [.int .i64 1, .int .i64 9, .int .i64 0, .int .i64 (p.s c).ad, .int .i64 5000, .int .i64 (p.s c).po, .int .i64 po, .int .i64 2, .int .i64 0, .bool false, .int .i64 0, .slice A1 12 c1, .slice none 0 0], thY (.slice A1 12 c1) 12 (mkBO v 3), thS sb wb p, thB pb 130 (plf sb nr2), thC Z [.int .i64 (p.s c).st, .int .i64 (p.s c).ad, .int .i64 (p.s c).po, .int .i64 (p.s c).we, .int .i64 (p.s c).si], thB P 330 (pc p)]) := hid (hz)
        clear hz S29 y0 y1 y2 y3 y4 y5 y6 y7 y8 y9 y10 y11 y12 BLD3
        have HCQ := hid hcc
        clear hcc
        go_simp
        go_wp2_with fail
        refine (c_take (A := [thY (.slice AQ 36 cQ) 36 G3, thC Y [.int .i64 1, .int .i64 9, .int .i64 0, .int .i64 5000, .int .i64 10, .int .i64 po, .int .i64 80, .int .i64 2, .int .i64 0, .bool false, .int .i64 0, .slice A3 12 c3, .slice none 0 0], thY (.slice A3 12 c3) 12 (mkBO 9 z), thC X [.int .i64 1, .int .i64 9, .int .i64 0, .int .i64 (p.s c).ad, .int .i64 5000, .int .i64 (p.s c).po, .int .i64 po, .int .i64 2, .int .i64 0, .bool false, .int .i64 0, .slice A1 12 c1, .slice none 0 0], thY (.slice A1 12 c1) 12 (mkBO v 3), thS sb wb p]) (B := [thC Z [.int .i64 (p.s c).st, .int .i64 (p.s c).ad, .int .i64 (p.s c).po, .int .i64 (p.s c).we, .int .i64 (p.s c).si], thB P 330 (pc p)]) S30.out (S30.out.st 5 rfl) HNE.out HPT.out HN2.out G3 36 cQ AQ BG3.out (by omega) (fun _ => by rw [KG3.out]; decide) (S30.out.by_ 0 rfl) HCQ.out _ T3.out).mono ?_
        rintro e w15 ⟨AR, cR, rfl, hz, hcc⟩
        dsimp only at hz hcc ⊢
        have S31 : Hid (HS [] W w15 [thY (.slice AR 36 cR) 36 F3, thY (.slice AQ 36 cQ) 36 G3, thC Y [.int .i64 1, .int .i64 9, .int .i64 0, .int .i64 5000, .int .i64 10, .int .i64 po, .int .i64 80, .int .i64 2, .int .i64 0, .bool false, .int .i64 0, .slice A3 12 c3, .slice none 0 0], thY (.slice A3 12 c3) 12 (mkBO 9 z), thC X [.int .i64 1, .int .i64 9, .int .i64 0, .int .i64 (p.s c).ad, .int .i64 5000, .int .i64 (p.s c).po, .int .i64 po, .int .i64 2, .int .i64 0, .bool false, .int .i64 0, .slice A1 12 c1, .slice none 0 0], thY (.slice A1 12 c1) 12 (mkBO v 3), thS sb wb p, thB pb 130 (plf sb nr2), thC Z [.int .i64 (p.s c).st, .int .i64 (p.s c).ad, .int .i64 (p.s c).po, .int .i64 (p.s c).we, .int .i64 (p.s c).si], thB P 330 (pc p)]) := hid (hz)
        clear hz S30
        have HCR := hid hcc
        clear hcc
        go_simp
        go_upto_region 25 with (first | ((with_reducible refine wl_id ?_); refine wl_ow rfl (ow_allocC rfl (zOc _) (by simp) S31.out ?_); intro V w_ hZ _; have SY := hid hZ; clear hZ) | ((with_reducible refine wl_id ?_); refine wl_ow rfl (ow_storeC (A := []) [.int .i64 0, .int .i64 k, .bool true, .slice AR 36 cR] rfl rfl (rfl) SY.out rfl iOc rfl ?_); intro w_ hZ; have SX := hid hZ; clear hZ))
        have S32 : Hid (HS [] W _ [thC V [.int .i64 0, .int .i64 k, .bool true, .slice AR 36 cR], thY (.slice AR 36 cR) 36 F3, thY (.slice AQ 36 cQ) 36 G3, thC Y [.int .i64 1, .int .i64 9, .int .i64 0, .int .i64 5000, .int .i64 10, .int .i64 po, .int .i64 80, .int .i64 2, .int .i64 0, .bool false, .int .i64 0, .slice A3 12 c3, .slice none 0 0], thY (.slice A3 12 c3) 12 (mkBO 9 z), thC X [.int .i64 1, .int .i64 9, .int .i64 0, .int .i64 (p.s c).ad, .int .i64 5000, .int .i64 (p.s c).po, .int .i64 po, .int .i64 2, .int .i64 0, .bool false, .int .i64 0, .slice A1 12 c1, .slice none 0 0], thY (.slice A1 12 c1) 12 (mkBO v 3), thS sb wb p, thB pb 130 (plf sb nr2), thC Z [.int .i64 (p.s c).st, .int .i64 (p.s c).ad, .int .i64 (p.s c).po, .int .i64 (p.s c).we, .int .i64 (p.s c).si], thB P 330 (pc p)]) := hid (SX.out)
        clear SX SY S31
        obtain ⟨f0, f1, f2, f3⟩ := (S32.out.ce 0 rfl).c4
        go_wp2_with fail
        refine (PRS3.out _ _ S32.out _ _ HCR.out (S32.out.by_ 1 rfl)).mono ?_
        rintro e w16 ⟨AO, cO, AD, cD, rfl, hz, hcc, _⟩
        have S33 : Hid (HS [] W w16 [thOD 0 (.slice AO 12 cO) (.slice AD 0 cD) 12 0 (mkBO 9 y) (fun _ => 0), thC V [.int .i64 0, .int .i64 k, .bool true, .slice AR 36 cR], thY (.slice AR 36 cR) 36 F3, thY (.slice AQ 36 cQ) 36 G3, thC Y [.int .i64 1, .int .i64 9, .int .i64 0, .int .i64 5000, .int .i64 10, .int .i64 po, .int .i64 80, .int .i64 2, .int .i64 0, .bool false, .int .i64 0, .slice A3 12 c3, .slice none 0 0], thY (.slice A3 12 c3) 12 (mkBO 9 z), thC X [.int .i64 1, .int .i64 9, .int .i64 0, .int .i64 (p.s c).ad, .int .i64 5000, .int .i64 (p.s c).po, .int .i64 po, .int .i64 2, .int .i64 0, .bool false, .int .i64 0, .slice A1 12 c1, .slice none 0 0], thY (.slice A1 12 c1) 12 (mkBO v 3), thS sb wb p, thB pb 130 (plf sb nr2), thC Z [.int .i64 (p.s c).st, .int .i64 (p.s c).ad, .int .i64 (p.s c).po, .int .i64 (p.s c).we, .int .i64 (p.s c).si], thB P 330 (pc p)]) := hid (hz)
        clear hz S32 f0 f1 f2 f3 PRS3
        have HCO := hid hcc
        clear hcc
        go_simp
        go_upto_region 26 with (first | ((with_reducible refine wl_id ?_); refine wl_ow rfl (ow_allocC rfl (zPk _) (by simp) S33.out ?_); intro U w_ hZ _; have SY := hid hZ; clear hZ) | ((with_reducible refine wl_id ?_); refine wl_ow rfl (ow_storeC (A := []) [.int .i64 1, .int .i64 8, .int .i64 0, .int .i64 5000, .int .i64 (p.s c).ad, .int .i64 po, .int .i64 (p.s c).po, .int .i64 2, .int .i64 0, .bool false, .int .i64 0, .slice AO 12 cO, .slice AD 0 cD] rfl rfl (rfl) SY.out rfl iPk rfl ?_); intro w_ hZ; have SX := hid hZ; clear hZ))
        have S34 : Hid (HS [] W _ [thC U [.int .i64 1, .int .i64 8, .int .i64 0, .int .i64 5000, .int .i64 (p.s c).ad, .int .i64 po, .int .i64 (p.s c).po, .int .i64 2, .int .i64 0, .bool false, .int .i64 0, .slice AO 12 cO, .slice AD 0 cD], thOD 0 (.slice AO 12 cO) (.slice AD 0 cD) 12 0 (mkBO 9 y) (fun _ => 0), thC V [.int .i64 0, .int .i64 k, .bool true, .slice AR 36 cR], thY (.slice AR 36 cR) 36 F3, thY (.slice AQ 36 cQ) 36 G3, thC Y [.int .i64 1, .int .i64 9, .int .i64 0, .int .i64 5000, .int .i64 10, .int .i64 po, .int .i64 80, .int .i64 2, .int .i64 0, .bool false, .int .i64 0, .slice A3 12 c3, .slice none 0 0], thY (.slice A3 12 c3) 12 (mkBO 9 z), thC X [.int .i64 1, .int .i64 9, .int .i64 0, .int .i64 (p.s c).ad, .int .i64 5000, .int .i64 (p.s c).po, .int .i64 po, .int .i64 2, .int .i64 0, .bool false, .int .i64 0, .slice A1 12 c1, .slice none 0 0], thY (.slice A1 12 c1) 12 (mkBO v 3), thS sb wb p, thB pb 130 (plf sb nr2), thC Z [.int .i64 (p.s c).st, .int .i64 (p.s c).ad, .int .i64 (p.s c).po, .int .i64 (p.s c).we, .int .i64 (p.s c).si], thB P 330 (pc p)]) := hid (SX.out)
        clear SX SY S33
        obtain ⟨y0, y1, y2, y3, y4, y5, y6, y7, y8, y9, y10, y11, y12⟩ := (S34.out.ce 0 rfl).c13
        go_wp2_with fail
        refine (STM3.out _ _ _ HCO.out (S34.out.byO 1 rfl).1).mono ?_
        rintro e w17 ⟨rfl, hb⟩
        have S35 : Hid (HS [] W w17 [thC U [.int .i64 1, .int .i64 8, .int .i64 0, .int .i64 5000, .int .i64 (p.s c).ad, .int .i64 po, .int .i64 (p.s c).po, .int .i64 2, .int .i64 0, .bool false, .int .i64 0, .slice AO 12 cO, .slice AD 0 cD], thOD 0 (.slice AO 12 cO) (.slice AD 0 cD) 12 0 (mkBO 9 y) (fun _ => 0), thC V [.int .i64 0, .int .i64 k, .bool true, .slice AR 36 cR], thY (.slice AR 36 cR) 36 F3, thY (.slice AQ 36 cQ) 36 G3, thC Y [.int .i64 1, .int .i64 9, .int .i64 0, .int .i64 5000, .int .i64 10, .int .i64 po, .int .i64 80, .int .i64 2, .int .i64 0, .bool false, .int .i64 0, .slice A3 12 c3, .slice none 0 0], thY (.slice A3 12 c3) 12 (mkBO 9 z), thC X [.int .i64 1, .int .i64 9, .int .i64 0, .int .i64 (p.s c).ad, .int .i64 5000, .int .i64 (p.s c).po, .int .i64 po, .int .i64 2, .int .i64 0, .bool false, .int .i64 0, .slice A1 12 c1, .slice none 0 0], thY (.slice A1 12 c1) 12 (mkBO v 3), thS sb wb p, thB pb 130 (plf sb nr2), thC Z [.int .i64 (p.s c).st, .int .i64 (p.s c).ad, .int .i64 (p.s c).po, .int .i64 (p.s c).we, .int .i64 (p.s c).si], thB P 330 (pc p)]) := hid (S34.out.below hb)
        clear hb S34 y0 y1 y2 y3 y4 y5 y6 y7 y8 y9 y10 y11 y12 STM3
        go_simp
        go_upto_region 27 with (fail)
        by_cases hz0 : z = 0
        · have zz : (z == 0) = true := by simp [hz0]
          go_wp2_with fail
          go_ret
          exact ⟨by simp, S35.out.bl⟩
        · have zz : (z == 0) = false := by simp [hz0]
          have hy := HYZ.out hz0
          have an := andNot255 v HV.out
          rw [← hy] at an
          obtain ⟨f0, f1, f2, f3⟩ := (S35.out.ce 2 rfl).c4
          obtain ⟨z0, z1, z2, z3, z4⟩ := ce5_ (S35.out.ce 11 rfl)
          obtain ⟨y0, y1, y2, y3, y4, y5, y6, y7, y8, y9, y10, y11, y12⟩ := (S35.out.ce 0 rfl).c13
          go_wp2_with fail
          go_ret
          exact ⟨by simp, S35.out.bl⟩

set_option maxRecDepth 100000 in
theorem lifted (os : Os) (started : os.Started) (H : Type) (enc : TypeId × Value → H) :
    ReturnsInHanded {} Tryz.checked os 5 .any (Rows.topReturnSpec.pre6 enc Tryz.prog Tryz.f5 [] false) (Rows.topReturnSpec.post enc Tryz.prog Tryz.f5 false true false false) :=
  law_step (s := Rows.topReturnSpec) started (by kernel_rfl) Tryz.func5
    (ChangeSpec.witness6 (s := Rows.topReturnSpec) (enc := enc) (C := Tryz.checked) false ⟨#[], #[.slice none 0 0, .int .i64 0, .int .u32 0, .int .i64 0, .int .i64 0], []⟩ 8 (by kernel_rfl) (by kernel_rfl) (by kernel_rfl) (by kernel_rfl))
    rfl (by rw [Tryz.params5]; decide +kernel) rfl Tryz.underlying4
    (fun ds h => by
      rw [Tryz.params5] at h
      match ds, h with
      | [_, _, _, _, _], _ => rfl)
    (fun W base args ds ps hval hA hsz => by
      rw [Tryz.params5] at hA hval hsz
      obtain ⟨v0, vs0, d0, ds0, p0, q0, hargs, rfl, rfl, h0, r0⟩ := trodAll_cons hA
      obtain ⟨v1, vs1, d1, ds1, p1, q1, rfl, rfl, rfl, h1, r1⟩ := trodAll_cons r0
      obtain ⟨v2, vs2, d2, ds2, p2, q2, rfl, rfl, rfl, h2, r2⟩ := trodAll_cons r1
      obtain ⟨v3, vs3, d3, ds3, p3, q3, rfl, rfl, rfl, h3, r3⟩ := trodAll_cons r2
      obtain ⟨v4, vs4, d4, ds4, p4, q4, rfl, rfl, rfl, h4, r4⟩ := trodAll_cons r3
      obtain ⟨rfl, rfl, rfl⟩ := trodAll_nil r4
      obtain rfl : args = #[v0, v1, v2, v3, v4] := by cases args; simp_all
      obtain ⟨A0, n0, c0, g0, rfl, hn0, hc0, hs0, hw0, hl0, hd0⟩ := open_row Tryz.underlying22 Tryz.underlying3 (by kernel_rfl) (hval 0 22 v0 rfl rfl) h0
      have re0 : c0 * 8 ≤ 140737488351232 := by
        rcases hd0 with ⟨_, h0⟩ | ⟨xs, ys, h1, h2⟩
        · omega
        · have := sized_slice hsz (j := 0) (t := 22) (e := 3) rfl (by rw [h1]; rfl) Tryz.underlying22
          rw [h2, show Tryz.prog.bytesOf 3 = 8 from by kernel_rfl] at this
          simpa [reachBytes] using this
      obtain ⟨a1, rfl, rfl, rfl, w1⟩ := open_int Tryz.underlying3 (hval 1 3 v1 rfl rfl) h1
      obtain ⟨a2, rfl, rfl, rfl, w2⟩ := open_int Tryz.underlying48 (hval 2 48 v2 rfl rfl) h2
      obtain ⟨a3, rfl, rfl, rfl, w3⟩ := open_int Tryz.underlying3 (hval 3 3 v3 rfl rfl) h3
      obtain ⟨a4, rfl, rfl, rfl, w4⟩ := open_int Tryz.underlying3 (hval 4 3 v4 rfl rfl) h4
      exact walk W A0 n0 c0 g0 hn0 hc0 hs0 (fun j => bounds_i64 (hw0 j)) hl0 re0 a1 (bounds_i64 w1) a2 (bounds_u32 w2) a3 (bounds_i64 w3) a4 (bounds_i64 w4))

theorem proved : Rows.TopReturnSaid :=
  OpenClaim.holds_of_wide 5 Tryz.f5 rfl rfl rfl rfl rfl rfl rfl ⟨rfl, rfl, rfl, rfl, rfl⟩ rfl rfl rfl rfl rfl (by kernel_rfl) Tryz.func5 (by kernel_rfl)
    (of_decide_eq_true (by kernel_rfl)) (by unfold Func.isWrapper; first | (rw [if_pos (by decide +kernel)]; kernel_rfl) | (rw [if_neg (by decide +kernel)]; exact ⟨rfl, rfl⟩))
    (fun os started H enc _ => lifted os started H enc)
end Go.Proofs.YtomlpkojnipkhaaGreat.topReturn
